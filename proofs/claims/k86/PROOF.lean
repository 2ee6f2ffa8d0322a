import PyProof.Rows.All
import Wide.All
import OpenK.AllK
import Wide.FinOn
import Lean
import PyProof.EqAt
import PyProof.EqKinds
import PyProof.TupleCall
import PyProof.CompFree
import PySem.SetTable
import PyProof.SetScanFacts
import PyProof.TupleKey
import PyProof.SetKind
import PyProof.IsRules
import PyProof.SetRoads
import PyProof.InstSpecial
import PyProof.Rows.SetFrom
import KE.KSortTup
import PyProof.StrWalks
import PyProof.EnumMake
import PyProof.ConsumeWalk
import PyProof.ListRange
import PyProof.NeKinds
import PyProof.ZipIter
import KE.KTryDeep
import OpenK.KOwn
import PyProof.RulesAs
import PyProof.NsDelKeeps
import PyProof.ExcArgsOwn
import PyProof.ExcAttrAll.ValueError
import KE.KIsAll
import OpenK.KNot
import PyProof.IsiH_list
import PyProof.Rows.FStr
import KE.KDictOf
import PyProof.AttrMissHeap
import PyProof.DictIter
import PyProof.DictWalks
import PyProof.Rows.DictUnroll
import KE.KRevIter
import KE.KDictList
import PyProof.CollectIter
import PyProof.TupleOfGen
import KE.KSortKey
import PyProof.FactsAll.NoneType_1
import PyProof.CompUse
import PyProof.Rows.FStrParts
import PyProof.ReprStr
import KE.KEqDict
import KE.KItemsList
import KE.KLam
import KE.KNestM
import PyProof.DictDisplay
import PySem.Challenge.RW_treewatch_k86_whole_ledger_twins
set_option Elab.async false
set_option linter.all false
set_option maxRecDepth 100000
set_option maxHeartbeats 8000000
open PySem.W (instObj methodObj hideAll hideAll_size hideAll_get of_hideAll hideAll_none lookIn plainGet hasDictIn handedIn plainGet_of isFn plainOver takerIn makesIn emptyDict keepIn mroIn kitOne kia_one kitx_list kitx_dict callWith_K methodCall_KW cellsFrom_some fnOf codeIn codeRec_of kat_cons KatTups kat_lt_int KdlSrc KeqHits subIn envX CodeHd kla_obj tabObj codeHdIn codeHd_of_K excIn nsIn mg_of mg_none_of)
open PyProof.Rows (boot_dict boot_sorted boot_isinstance boot_str boot_all boot_list)
open PySem.F (slot_tuple_add entry_tuple_add args_tuple_add_2 slot_dict_pop plainAttrs_dict slot_dict_keyiterator_next plainAttrs_list slot_list_pop type_list_pop slot_tuple_ne slot_dict_items)
open List (mem_filter mem_range filterMap_cons mem_cons_self mem_cons_of_mem mem_cons mem_append mem_append_left getElem_inj getElem?_set_self mem_append_right size_toArray length_cons map_cons length_map append_nil nodup_cons of_mem_zip replicate length length_take getElem?_append_right getElem?_append_left getElem?_map take_sublist mem_of_getElem? length_append length_replicate length_drop map_nil any_cons replicate_succ flatten_cons foldl append_assoc foldl_cons length_singleton nil_append find?_cons length_nil filter_cons length_filter_le toArray getD_eq_getElem?_getD mem_singleton all_eq_true mem_iff_getElem getElem?_eq_getElem getElem_mem mem_map any_map any_eq_true length_range length_eq_zero_iff ext_getElem? getElem?_eq_none map_map map_congr_left not_mem_nil take_succ nodup_nil map_append take_length filter_cons_of_pos filter_cons_of_neg all_map filter_congr Nodup pairwise_map filter_sublist filter_map Sublist nodup_append cons_ne_nil lookup_cons zip_cons_cons forall_mem_cons)
open Nat (not_lt lt_of_lt_of_le lt_irrefl ne_of_lt le_trans le_of_lt ne_of_gt le_refl zero_le le_of_eq lt_succ_self le_succ lt_trans lt_of_le_of_lt add_le_add_left lt_succ_of_lt le_succ_of_le)
open Array (length_toList toList getElem?_toList getD_eq_getD_getElem?)
open Option (map_some isSome_map)
open Bool (and_eq_true false_eq_true)
open PySem.Heap (lt_size SameBut get?_push_of_some get?_push_size size_push get?_update_ne FlyingW)
open PySem.Calls (Constant_str spliced_nil spliced_cons callWith_builtin evalArgs_plain)
open PySem.SeqAt (EqAt in_listAt RcNeAt)
open PySem.Value (bytes float type builtin)
open PySem (SetTable boot_len)
open PySem.Str (empty ofString)
open Ne (symm)
noncomputable section
namespace L2
open PySem PySem.Spec PyProof.Rows
abbrev Key:=Sum Int Str
def km:Key→Value→Bool
 |.inl k,v=>Value.isInt k v
 |.inr x,v=>Value.isStrOf x v
def zn(w:World):Key→Int
 |.inl k=>hashInt k
 |.inr x=>hashStr w x
theorem bd:∀{k:Key}{v:Value},km k v=true→(∃i t,k=Sum.inl i∧v=Value.int i t)∨(∃x t,k=Sum.inr x∧v=Value.str x t)
 |.inl i,v,h=>by
  obtain⟨t,e⟩:=Value.isInt_shape (k:=i) (v:=v) h;exact .inl ⟨i,t,rfl,e⟩
 |.inr x,v,h=>by
  obtain⟨t,e⟩:=Value.isStrOf_shape (x:=x) (v:=v) h;exact .inr ⟨x,t,rfl,e⟩
theorem qI(i:Int)(t:Tok):km (.inl i) (.int i t)=true:=by simp[km,Value.isInt]
theorem qJ(x:Str)(t:Tok):km (.inr x) (.str x t)=true:=by simp[km,Value.isStrOf]
theorem wx(a b:Int):decide ((Sum.inl a:Key)=Sum.inl b)=(a==b):=by
 by_cases e:a=b
 ·subst e;simp
 ·have h:¬(Sum.inl a:Key)=Sum.inl b:=λq=>e (Sum.inl.inj q);rw[decide_eq_false h];exact(beq_eq_false_iff_ne.mpr e).symm
theorem wz(a b:Str):decide ((Sum.inr a:Key)=Sum.inr b)=decide (a=b):=by
 by_cases e:a=b
 ·subst e;simp
 ·have h:¬(Sum.inr a:Key)=Sum.inr b:=λq=>e (Sum.inr.inj q);rw[decide_eq_false h,decide_eq_false e]
theorem wA(a:Int)(b:Str):decide ((Sum.inl a:Key)=Sum.inr b)=false:=decide_eq_false (λq=>nomatch q)
theorem wB(a:Str)(b:Int):decide ((Sum.inr a:Key)=Sum.inl b)=false:=decide_eq_false (λq=>nomatch q)
def aR(prog:Program)(w:World):PySem.KeyKind prog w Key where
 is:=km
 hash:=zn w
 inj:=λv a b ha hb=>by
  rcases bd ha with⟨i,t,rfl,rfl⟩|⟨x,t,rfl,rfl⟩
  ·rcases bd hb with⟨j,u,rfl,e⟩|⟨y,u,rfl,e⟩
   ·injection e with e1 _;rw[e1]
   ·exact nomatch e
  ·rcases bd hb with⟨j,u,rfl,e⟩|⟨y,u,rfl,e⟩
   ·exact nomatch e
   ·injection e with e1 _;rw[e1]
 byValue:=λk v h=>by
  rcases bd h with⟨i,t,rfl,rfl⟩|⟨x,t,rfl,rfl⟩<;>rfl
 pyHash:=λhv h=>by
  rcases bd hv with⟨i,t,rfl,rfl⟩|⟨x,t,rfl,rfl⟩
  ·exact wpAny_pyHash_int h
  ·exact wpAny_pyHash_str h
 eqBool:=λhu hv h=>by
  rcases bd hu with⟨i,t,rfl,rfl⟩|⟨x,t,rfl,rfl⟩
  ·rcases bd hv with⟨j,u,rfl,rfl⟩|⟨y,u,rfl,rfl⟩
   ·rw[wx]at h;exact wpAny_eqBool_int h
   ·rw[wA]at h;exact EqAt.int_str i t y u _ _ _ _ h
  ·rcases bd hv with⟨j,u,rfl,rfl⟩|⟨y,u,rfl,rfl⟩
   ·rw[wB]at h;exact EqAt.str_int x t j u _ _ _ _ h
   ·rw[wz]at h;exact wpAny_eqBool_str h
 «strs»:=λk x t v h=>by
  rcases bd h with⟨i,u,rfl,e⟩|⟨y,u,rfl,e⟩
  ·exact nomatch e
  ·injection e with e1 _
   subst e1;cases v<;>rfl
theorem lW(prog:Program)(w:World)(i:Int)(t:Tok):(aR prog w).is (.inl i) (.int i t)=true:=qI i t
theorem lX(prog:Program)(w:World)(x:Str)(t:Tok):(aR prog w).is (.inr x) (.str x t)=true:=qJ x t
inductive V where
 |non|bl (b:Bool)|int (i:Int)|str (x:Str)|byt (b:Array UInt8)|flt (b:UInt64)|ref (a:Addr)|ty (n:String)
 deriving DecidableEq
def aO:V→Value→Prop
 |.non,u=>u=Value.none
 |.bl b,u=>u=Value.bool b
 |.int i,u=>∃t,u=Value.int i t
 |.str x,u=>∃t,u=Value.str x t
 |.byt b,u=>∃t,u=bytes b t
 |.flt b,u=>∃t,u=float b t
 |.ref a,u=>u=Value.ref a
 |.ty n,u=>u=type n
abbrev aH:List V→List Value→Prop:=Paired aO
theorem aH.length{xs:List V}{us:List Value}(r:aH xs us):xs.length=us.length:=Paired.length r
theorem aH.get:∀{xs:List V}{us:List Value}{i:Nat}{x:V},aH xs us→xs[i]?=some x→∃u,us[i]?=some u∧aO x u
 |_,_,_,_,.nil,e=>by simp at e
 |_,_,0,_,.cons r _,e=>by simp at e;subst e;exact⟨_,rfl,r⟩
 |_,_,i+1,x,.cons _ t,e=>by
  obtain⟨u,h1,h2⟩:=aH.get (i:=i) (x:=x) t (by simpa using e);exact⟨u,by simpa using h1,h2⟩
theorem aH.append:∀{xs ys:List V}{us ws:List Value},aH xs us→aH ys ws→aH (xs++ys) (us++ws)
 |_,_,_,_,.nil,s=>s
 |_,_,_,_,.cons r t,s=>.cons r (aH.append t s)
theorem aH.take:∀{xs:List V}{us:List Value}(n:Nat),aH xs us→aH (xs.take n) (us.take n)
 |_,_,0,_=>.nil
 |_,_,_+1,.nil=>.nil
 |_,_,n+1,.cons r t=>.cons r (aH.take n t)
theorem aH.drop:∀{xs:List V}{us:List Value}(n:Nat),aH xs us→aH (xs.drop n) (us.drop n)
 |_,_,0,r=>r
 |_,_,_+1,.nil=>.nil
 |_,_,n+1,.cons _ t=>aH.drop n t
def eN:Option V→Option Value→Prop
 |some v,some u=>aO v u
 |none,none=>True
 |_,_=>False
def KV{κ:Type}:List (κ×V)→List (κ×Value)→Prop:=Paired λ(p:κ×V) (q:κ×Value)=>p.1=q.1∧aO p.2 q.2
def kV:Key→V
 |.inl i=>.int i
 |.inr x=>.str x
inductive HO where
 |lst (xs:List V)
 |tup (xs:List V)
 |dK (kvs:List (Key×V))|dT (kvs:List (List Key×V))
 |set (S:Int→Bool) (n:Nat)
 |ins (C dx:Addr) (fs:List (Str×V))
 |own (x:Addr)
 |xd (fs:List (Str×V))
 |met (f x:Addr)
 |rng (lo hi:Int)
 |frz (o:Obj) (u:HO)
 |tbl (ps:Array Value)
 |ext (φ:Heap→Prop)
abbrev Hp:=Addr→Option HO
def upd(H:Hp)(a:Addr)(o:HO):Hp:=λb=>if b=a then some o else H b
theorem ac{H:Hp}{a:Addr}{o:HO}:upd H a o a=some o:=by unfold upd;rw[if_pos rfl]
theorem aj{H:Hp}{a b:Addr}{o:HO}(h:b≠a):upd H a o b=H b:=by unfold upd;rw[if_neg h]
theorem lY{H:Hp}{a b:Addr}{o u:HO}(h:H a=some o)(h':H b=some u)(d:o≠u):a≠b:=by
 intro e;subst e;rw[h]at h';exact d (Option.some.inj h')
theorem aw{H:Hp}{a b:Addr}{o:HO}(h:H a=some o)(h':H b=none):a≠b:=by
 intro e;subst e;rw[h]at h';cases h'
section
variable(P:Program)(w:World)
def bt(H:Hp)(h:Heap)(a:Addr):HO→Prop
 |.lst xs=>xs.length≤sizeLine∧∃(its:List Value) (n:Nat),aH xs its∧h.get? a=some {cls:=.type "list",data:=.seq its.toArray n}
 |.tup xs=>xs.length≤sizeLine∧∃its:List Value,aH xs its∧IsTup h a its.toArray
 |.dK kvs=>kvs.length≤sizeLine∧(a==sysModules)=false∧∃vs,KV kvs vs∧h.DictOf (aR P w) a vs
 |.dT kvs=>kvs.length≤sizeLine∧(a==sysModules)=false∧∃xs:List (List Key×Addr×Value),
   Paired (λ(p:List Key×V) (q:List Key×Addr×Value)=>p.1=q.1∧H q.2.1=some (.tup (p.1.map kV))∧aO p.2 q.2.2) kvs xs ∧
   ∃o es ep,h.get? a=some o∧o.ExactDict∧o.data=.dict es ep∧es.toList=xs.map (entryOfKey (tupleKind (aR P w)))∧(xs.map (·.1)).Nodup
 |.set S n=>h.SetOf (intKind P w) a S n
 |.ins C dx fs=>H dx=some (.own a)∧fs.length≤1000∧dx≠a∧h.get? a=some (instObj C dx) ∧
   ∃mA,h.Ns1 dx mA∧(∀f,eN (fs.lookup f) (mA f))∧PySem.Within mA (fs.map (·.1))
 |.own _=>∃o,h.get? a=some o
 |.xd fs=>∃mA,h.Ns1 a mA∧∀f,eN (fs.lookup f) (mA f)
 |.rng lo hi=>∃t u v,h.get? a=some {cls:=.type "range",data:=.fields #[.int lo t,.int hi u,.int 1 v]}
 |.frz o u=>h.get? a=some o∧bt H h a u
 |.tbl ps=>h.get? a=some {cls:=.none,data:=.fields ps}
 |.met f x=>h.get? a=some (methodObj (.ref f) (.ref x))
 |.ext φ=>φ h∧(∃o,h.get? a=some o)∧∀h1 h2:Heap,φ h1→(∀o,h1.get? a=some o→h2.get? a=some o)→φ h2
def HOk(H:Hp)(h:Heap):Prop:=∀a o,H a=some o→bt P w H h a o
end
section
variable{P:Program}{w:World}{H H':Hp}{h h':Heap}{a:Addr}{o:HO}
theorem bt.lt(x:bt P w H h a o):a<h.objs.size:=by
 cases o with
 |lst xs=>obtain⟨_,_,_,_,e⟩:=x;exact lt_size e
 |tup xs=>obtain⟨_,_,_,p⟩:=x;exact p.lt
 |dK kvs=>obtain⟨_,_,_,_,o,_,_,e,_⟩:=x;exact lt_size e
 |dT kvs=>obtain⟨_,_,_,_,o,_,_,e,_⟩:=x;exact lt_size e
 |set S n=>obtain⟨o,_,_,_,e,_⟩:=x;exact lt_size e
 |ins C dx fs=>obtain⟨_,_,_,e,_⟩:=x;exact lt_size e
 |own y=>obtain⟨_,e⟩:=x;exact lt_size e
 |xd fs=>obtain⟨_,⟨_,_,_,e,_⟩,_⟩:=x;exact lt_size e
 |rng lo hi=>obtain⟨_,_,_,e⟩:=x;exact lt_size e
 |frz ob u=>obtain⟨e,_⟩:=x;exact lt_size e
 |tbl ps=>exact lt_size (show h.get? a=some _ from x)
 |met f y=>exact lt_size (show h.get? a=some _ from x)
 |ext φ=>obtain⟨_,⟨_,e⟩,_⟩:=x;exact lt_size e
theorem Paired.mapP{α β:Type}{F G:α→β→Prop}:∀{l₁:List α}{l₂:List β},Paired F l₁ l₂→(∀a b,F a b→G a b)→Paired G l₁ l₂
 |_,_,.nil,_=>.nil
 |_,_,.cons r t,f=>.cons (f _ _ r) (Paired.mapP t f)
theorem bt.stay(x:bt P w H h a o)(k:∀b u,(b=a∨H b=some (.own a))→h.get? b=some u→h'.get? b=some u)(ho:∀b,H b=some (.own a)→H' b=some (.own a))(ht:∀b xs,H b=some (.tup xs)→H' b=some (.tup xs)):bt P w H' h' a o:=by
 induction o with
 |lst xs=>obtain⟨z,its,n,r,e⟩:=x;exact⟨z,its,n,r,k _ _ (.inl rfl) e⟩
 |tup xs=>obtain⟨z,its,r,ob,e,c⟩:=x;exact⟨z,its,r,ob,k _ _ (.inl rfl) e,c⟩
 |dK kvs=>obtain⟨z,y,vs,r,ob,es,ep,e,c⟩:=x;exact⟨z,y,vs,r,ob,es,ep,k _ _ (.inl rfl) e,c⟩
 |dT kvs =>
  obtain⟨z,y,xs,r,ob,es,ep,e,c⟩:=x;exact⟨z,y,xs,Paired.mapP r λp q z=>⟨z.1,ht _ _ z.2.1,z.2.2⟩,ob,es,ep,k _ _ (.inl rfl) e,c⟩
 |set S n=>obtain⟨ob,es,ep,t,e,c⟩:=x;exact⟨ob,es,ep,t,k _ _ (.inl rfl) e,c⟩
 |ins C dx fs =>
  obtain⟨d,z,ne,e,mA,⟨od,es,ep,e2,c⟩,r⟩:=x;exact⟨ho _ d,z,ne,k _ _ (.inl rfl) e,mA,⟨od,es,ep,k _ _ (.inr d) e2,c⟩,r⟩
 |own y=>obtain⟨ob,e⟩:=x;exact⟨ob,k _ _ (.inl rfl) e⟩
 |xd fs=>obtain⟨mA,⟨od,es,ep,e,c⟩,r⟩:=x;exact⟨mA,⟨od,es,ep,k _ _ (.inl rfl) e,c⟩,r⟩
 |rng lo hi=>obtain⟨t,u,v,e⟩:=x;exact⟨t,u,v,k _ _ (.inl rfl) e⟩
 |frz ob u ih=>obtain⟨e,q⟩:=x;exact⟨k _ _ (.inl rfl) e,ih q⟩
 |tbl ps =>
  have e:h.get? a=some {cls:=.none,data:=.fields ps}:=x;show h'.get? a=some {cls:=.none,data:=.fields ps};exact k a _ (.inl rfl) e
 |met f y =>
  have e:h.get? a=some (methodObj (.ref f) (.ref y)):=x;show h'.get? a=some (methodObj (.ref f) (.ref y));exact k a _ (.inl rfl) e
 |ext φ=>obtain⟨p,⟨o,e⟩,st⟩:=x;exact⟨st _ _ p λo q=>k _ _ (.inl rfl) q,⟨o,k _ _ (.inl rfl) e⟩,st⟩
theorem HOk.lt(x:HOk P w H h)(e:H a=some o):a<h.objs.size:=(x a o e).lt
theorem HOk.fresh(x:HOk P w H h)(e:h.objs.size≤a):H a=none:=by
 cases q:H a with
 |none=>rfl
 |some u=>exact absurd (lt_of_lt_of_le (x.lt q) e) (lt_irrefl _)
theorem HOk.kept(x:HOk P w H h)(k:∀b u,h.get? b=some u→h'.get? b=some u):HOk P w H h':=λa o e =>
 (x a o e).stay (λb u _ q=>k b u q) (λ_ q=>q) λ_ _ q=>q
theorem HOk.laid(x:HOk P w H h)(k:∀b u,h.get? b=some u→h'.get? b=some u)(hp:h.objs.size≤a)(new:bt P w (upd H a o) h' a o):HOk P w (upd H a o) h':=λb u e=>by
 have hn:=x.fresh hp
 by_cases hb:b=a
 ·subst hb;rw[ac]at e;cases e;exact new
 ·rw[aj hb]at e;exact(x b u e).stay (λc v _ q=>k c v q) (λc q=>by rw[aj (aw q hn)];exact q) λc xs q=>by rw[aj (aw q hn)];exact q
end
def Rd(H:Hp)(a:Addr)(u:HO):Prop:=H a=some u∨∃o,H a=some (.frz o u)
theorem Rd.of{H:Hp}{a:Addr}{u:HO}(h:H a=some u):Rd H a u:=.inl h
theorem Rd.ok{P:Program}{w:World}{H:Hp}{h:Heap}{a:Addr}{u:HO}(r:Rd H a u)(x:HOk P w H h):bt P w H h a u:=by
 rcases r with r|⟨o,r⟩
 ·exact x a u r
 ·obtain⟨_,q⟩:=x a _ r;exact q
def Mut:Option HO→Prop
 |some (.lst _)=>True
 |some (.dK _)=>True
 |some (.dT _)=>True
 |some (.set _ _)=>True
 |some (.ins _ _ _)=>True
 |some (.ext _)=>True
 |_=>False
section
variable{P:Program}{w:World}{H:Hp}{h h':Heap}{x e:Addr}{o':HO}
theorem HOk.write(ok:HOk P w H h)(mu:Mut (H x))(he:e=x∨H e=some (.own x))(k:∀b u,b≠e→h.get? b=some u→h'.get? b=some u)(heo:∃u,h'.get? e=some u)(new:bt P w (upd H x o') h' x o'):HOk P w (upd H x o') h':=λb u q=>by
 have nown:∀c y,H c=some (.own y)→c≠x:=λc y r z=>by subst z;rw[r]at mu;exact mu
 have ntup:∀c xs,H c=some (.tup xs)→c≠x:=λc xs r z=>by subst z;rw[r]at mu;exact mu
 by_cases hb:b=x
 ·subst hb;rw[ac]at q;cases q;exact new
 ·rw[aj hb]at q
  by_cases hbe:b=e
  ·have q':H b=some (.own x):=by
    rcases he with z|z
    ·exact absurd (hbe.trans z) hb
    ·rw[hbe];exact z
   rw[q]at q';cases q';obtain⟨v,hv⟩:=heo;exact⟨v,by rw[hbe];exact hv⟩
  ·refine(ok b u q).stay (λc v hc r=>k c v ?_ r) (λc r=>by rw[aj (nown c b r)];exact r) λc xs r=>by rw[aj (ntup c xs r)];exact r
   rcases hc with rfl|hc
   ·exact hbe
   ·rintro rfl;rcases he with z|z
    ·exact nown c b hc z
    ·rw[hc]at z;cases z;exact hb rfl
end
structure Un(fs ex:List Addr)(H H':Hp)(h h':Heap):Prop where
 keep:∀b o,h.get? b=some o→H b=none→b∉fs→b∉ex→h'.get? b=some o
 slot:∀b o,h.get? b=some o→H b=none→b∈fs→b∉ex→∃sl,h'.get? b=some {o with slots:=sl}
 free:∀b o,h.get? b=some o→H b=none→b∉ex→H' b=none
 there:∀b o,h.get? b=some o→b∉ex→∃o',h'.get? b=some o'
 tups:∀b xs,H b=some (.tup xs)→H' b=some (.tup xs)
 frzs:∀b o u,H b=some (.frz o u)→H' b=some (.frz o u)
 tbls:∀b ps,H b=some (.tbl ps)→∃more,H' b=some (.tbl (ps++more))
section
variable{fs fs' ex ex':List Addr}{H H1 H2:Hp}{h h1 h2 h':Heap}{a x e:Addr}{o:HO}
theorem Un.any(u:Un fs ex H H1 h h1){b:Addr}{ob:Obj}(q:h.get? b=some ob)(n:H b=none)(hx:b∉ex):∃sl,h1.get? b=some {ob with slots:=sl}:=by
 by_cases hb:b∈fs
 ·exact u.slot b ob q n hb hx
 ·exact⟨ob.slots,u.keep b ob q n hb hx⟩
theorem Un.kept(k:∀b u,h.get? b=some u→h'.get? b=some u):Un fs ex H H h h' :=
 ⟨λb ob q _ _ _=>k b ob q,λb ob q _ _ _=>⟨ob.slots,k b ob q⟩,λ_ _ _ n _=>n,λb ob q _=>⟨ob,k b ob q⟩,λ_ _ q=>q,λ_ _ _ q=>q,λ_ ps q=>⟨#[],by rw[q];simp⟩⟩
theorem Un.refl:Un fs ex H H h h:=Un.kept λ_ _ q=>q
theorem Un.laid(k:∀b u,h.get? b=some u→h'.get? b=some u)(hp:h.objs.size≤a)(hn:H a=none):Un fs ex H (upd H a o) h h' where
 keep:=λb u q _ _ _=>k b u q
 slot:=λb u q _ _ _=>⟨u.slots,k b u q⟩
 free:=λb u q n _=>by rw[aj (ne_of_lt (lt_of_lt_of_le (lt_size q) hp))];exact n
 there:=λb u q _=>⟨u,k b u q⟩
 tups:=λb xs q=>by rw[aj (aw q hn)];exact q
 frzs:=λb u xs q=>by rw[aj (aw q hn)];exact q
 tbls:=λb ps q=>⟨#[],by rw[aj (aw q hn),q];simp⟩
theorem Un.write(mu:Mut (H x))(he:e=x∨H e=some (.own x))(k:∀b u,b≠e→h.get? b=some u→h'.get? b=some u)(heo:∃u,h'.get? e=some u):Un fs ex H (upd H x o) h h':=by
 have hx:∀b,H b=none→b≠x:=λb n z=>by subst z;rw[n]at mu;exact mu
 have hb:∀b,H b=none→b≠e:=λb n z=>by
  subst z;rcases he with r|r
  ·exact hx b n r
  ·rw[n]at r;cases r
 have hm:∀b u,H b=some u→¬Mut (some u)→b≠x:=λb u q nm z=>by subst z;rw[q]at mu;exact nm mu
 refine⟨λb u q n _ _=>k b u (hb b n) q,λb u q n _ _=>⟨u.slots,k b u (hb b n) q⟩,λb u q n _=>by rw[aj (hx b n)];exact n,λb u q _=>?_,
  λb xs q=>by rw[aj (hm b _ q λz=>z)];exact q,λb u xs q=>by rw[aj (hm b _ q λz=>z)];exact q,λb ps q=>⟨#[],by rw[aj (hm b _ q λz=>z),q];simp⟩⟩
 by_cases hbe:b=e
 ·subst hbe;exact heo
 ·exact⟨u,k b u hbe q⟩
end
def trk(h:Heap)(H:Hp):List Addr:=(List.range h.objs.size).filter λa=>(H a).isSome
def kg(h:Heap)(H:Hp):Heap:=hideAll h (trk h H)
theorem qK(h:Heap)(H:Hp):(kg h H).objs.size=h.objs.size:=hideAll_size _ _
theorem rW{h:Heap}{H:Hp}{b:Addr}{o:Obj}(e:h.get? b=some o)(n:H b=none):(kg h H).get? b=some o :=
 hideAll_get _ e λhm=>by
  have q:(H b).isSome=true:=(mem_filter.mp hm).2;rw[n]at q;simp at q
theorem uC{h:Heap}{H:Hp}{b:Addr}{o:Obj}(e:(kg h H).get? b=some o):h.get? b=some o∧H b=none:=by
 have e':h.get? b=some o:=of_hideAll (trk h H) e;refine⟨e',?_⟩;cases q:H b with
 |none=>rfl
 |some x =>
  have hm:b∈trk h H:=mem_filter.mpr ⟨mem_range.mpr (lt_size e'),by simp[q]⟩;have z:(kg h H).get? b=none:=hideAll_none (trk h H) hm;rw[z]at e;cases e
structure Mod(K:PySem.W.Frag)(mg:Str→Option Value)(base:Heap):Prop where
 kin:K.In base
 glob:base.Ns mainGlobals mg
 blt:∃mb,base.Ns builtinsNs mb∧∀x:Str,x≠"__name__"→mb x=bootBuiltins x
 nolimit:base.NoLimit
structure Cx where
 prog:Program
 w:World
 K:PySem.W.Frag
 mg:Str→Option Value
 base:Heap
 A:Around
 N:List Str
 s₀:Shared
 H₀:Hp
 env:Env
 outer:List Env
 stack:List Env
 ex:List Addr
 fn:Str→Bool
 calm:Bool
 pn:List (Addr×Obj)
 xe:Value→Shared→Prop
def frs(l:List Env):List Addr:=l.filterMap (·.frame)
abbrev Cx.fs(X:Cx):List Addr:=frs X.outer
def Vis(sc:Scope)(x:Str):Prop:=sc.names.lookup x=some .local∨sc.names.lookup x=some .cell∨sc.names.lookup x=some .free
def Loc(sc:Scope)(x:Str):Prop:=sc.names.lookup x=some .local∨sc.names.lookup x=some .cell
def zo(env:Env)(h:Heap)(m:Str→Option Value)(x:Str)(u:Value):Prop :=
 (env.kindOf x=some .local∧m x=some u)∨((env.kindOf x=some .cell∨env.kindOf x=some .free)∧∃c,env.cells.lookup x=some c∧h.IsCell c (some u))
structure Cx.Ok(X:Cx):Prop where
 mod:Mod X.K X.mg X.base
 kind:X.env.scope.kind=.function
 glob:X.env.globals=mainGlobals
 blt:X.env.builtins=builtinsNs
 above:X.s₀.heap.objs.size≤X.env.locals
 inj:∀x y c,X.env.cells.lookup x=some c→X.env.cells.lookup y=some c→x=y
 has:∀x,(X.env.kindOf x=some .cell∨X.env.kindOf x=some .free)→∃c,X.env.cells.lookup x=some c
 cab:∀x c,X.fn x=true→X.env.cells.lookup x=some c→X.s₀.heap.objs.size≤c
 hd:X.calm=true→X.A.handled=none
 frames:X.A.frames=some X.stack
 stk:X.stack=X.outer∨(X.stack=X.env::X.outer∧X.env.frame=some X.env.locals)
 exf:∀b∈X.ex,b≠X.env.locals∧∀x c,X.env.cells.lookup x=some c→c≠b
 bs:∀b o,X.base.get? b=some o→X.s₀.heap.get? b=some o∧X.H₀ b=none
 bsz:X.base.objs.size≤X.s₀.heap.objs.size
 noex:∀b o,X.base.get? b=some o→b∉X.ex
 exfs:∀b∈X.ex,b∉X.fs
 funs:X.s₀.heap.FunFrames X.base X.outer
 frf:∀b∈X.fs,X.H₀ b=none
structure Inv(X:Cx)(pins:List (Addr×Obj))(σ:List (Option V))(H:Hp)(s:Shared):Prop where
 ok:X.Ok
 os:s.os=X.s₀.os
 bare:AllBare s.gens
 base:Un X.fs X.ex X.H₀ H X.s₀.heap s.heap
 loc:∃m,s.heap.Ns X.env.locals m∧∀(i:Nat)(x:Str)(v:V),X.N[i]?=some x→σ[i]?=some (some v)→Vis X.env.scope x→∃u,aO v u∧zo X.env s.heap m x u
 cell:∀x c,X.env.cells.lookup x=some c→∃v,s.heap.IsCell c v
 free:H X.env.locals=none
 freeC:∀x c,X.env.cells.lookup x=some c→H c=none
 pin:∀p∈X.pn++pins,s.heap.get? p.1=some p.2∧H p.1=none∧p.1≠X.env.locals∧p.1∉X.fs∧∀v,p.2.data≠.cell v
 hok:HOk X.prog X.w H s.heap
 len:σ.length=X.N.length
section
variable{X:Cx}{pins:List (Addr×Obj)}{σ:List (Option V)}{H H':Hp}{s:Shared}{h':Heap}
theorem Cx.Ok.nofr(ok:X.Ok){b:Addr}{o:Obj}(e:X.base.get? b=some o):b∉X.fs:=λhb=>by
 have:=(ok.funs.mem hb).1;rw[e]at this;cases this
theorem Inv.bs(I:Inv X pins σ H s):∀b o,X.base.get? b=some o→s.heap.get? b=some o∧H b=none:=λb o e =>
 ⟨I.base.keep b o (I.ok.bs b o e).1 (I.ok.bs b o e).2 (I.ok.nofr e) (I.ok.noex b o e),I.base.free b o (I.ok.bs b o e).1 (I.ok.bs b o e).2 (I.ok.noex b o e)⟩
theorem Inv.bk(I:Inv X pins σ H s):∀b o,X.base.get? b=some o→s.heap.get? b=some o:=λb o e=>(I.bs b o e).1
theorem Inv.mod(I:Inv X pins σ H s):Mod X.K X.mg X.base:=I.ok.mod
theorem Inv.kIn(I:Inv X pins σ H s):X.K.In s.heap:=I.ok.mod.kin.keeps I.bk
theorem Inv.lt(I:Inv X pins σ H s):X.env.locals<s.heap.objs.size:=let⟨_,hn,_⟩:=I.loc;hn.lt
theorem Inv.sz(I:Inv X pins σ H s):X.s₀.heap.objs.size≤s.heap.objs.size:=le_trans I.ok.above (le_of_lt I.lt)
theorem Inv.nofs(I:Inv X pins σ H s){a:Addr}(h:s.heap.objs.size≤a):a∉X.fs:=λhb=>by
 obtain⟨_,o,ho,_⟩:=I.ok.funs.mem hb;exact absurd (lt_of_lt_of_le (lt_size ho) (le_trans I.sz h)) (lt_irrefl _)
theorem Inv.cne(I:Inv X pins σ H s):∀x c,X.env.cells.lookup x=some c→c≠X.env.locals:=λx c e z=>by
 obtain⟨v,o,ho,hd⟩:=I.cell x c e;obtain⟨m,⟨o',es,ep,ho',hd',_⟩,_⟩:=I.loc;rw[z,ho']at ho;cases ho;rw[hd']at hd;cases hd
theorem Inv.funs(I:Inv X pins σ H s):s.heap.FunFrames X.base X.outer:=by
 have all:∀(l:List Env),(∀b∈frs l,b∈X.fs)→X.s₀.heap.FunFrames X.base l→s.heap.FunFrames X.base l:=by
  intro l
  induction l with
  |nil=>intro _ _;trivial
  |cons env r ih =>
   intro hs hl;obtain⟨hk,⟨L,o,hf,hn,ho,hd⟩,hr⟩:=hl;have hL:L∈X.fs:=hs L (by unfold frs;rw[filterMap_cons,hf];exact mem_cons_self);obtain⟨sl,e⟩:=I.base.slot L o ho (I.ok.frf L hL) hL λz=>I.ok.exfs L z hL;exact⟨hk,⟨L,_,hf,hn,e,hd⟩,ih (λb hb=>hs b (by unfold frs;rw[filterMap_cons,hf];exact mem_cons_of_mem _ hb)) hr⟩
 exact all X.outer (λ_ hb=>hb) I.ok.funs
theorem Inv.stack(I:Inv X pins σ H s):s.heap.FunFrames X.base X.stack:=by
 rcases I.ok.stk with e|⟨e,hf⟩
 ·rw[e];exact I.funs
 ·rw[e];obtain⟨m,hn,_⟩:=I.loc;refine .cons (by rw[I.ok.kind];decide) hf hn ?_ I.funs;exact Heap.get?_none_of_le (le_trans I.ok.bsz I.ok.above)
theorem Inv.stkSub(I:Inv X pins σ H s):∀b∈frs X.stack,b∈X.env.locals::X.fs:=λb hb=>by
 rcases I.ok.stk with e|⟨e,hf⟩
 ·rw[e]at hb;exact mem_cons_of_mem _ hb
 ·rw[e]at hb;unfold frs at hb;rw[filterMap_cons,hf]at hb;exact hb
theorem Inv.stkFree(I:Inv X pins σ H s):∀b∈frs X.stack,H b=none:=λb hb=>by
 rcases mem_cons.mp (I.stkSub b hb)with e|hb
 ·rw[e];exact I.free
 ·obtain⟨_,o,ho,_⟩:=I.ok.funs.mem hb;exact I.base.free b o ho (I.ok.frf b hb) λz=>I.ok.exfs b z hb
theorem Inv.step{g':Array GenState}{t':Nat}{d':Drawn}{ch:List Addr}(I:Inv X pins σ H s)(hch:∀b∈ch,(b∈X.ex∨X.s₀.heap.objs.size≤b)∧b≠X.env.locals∧(∀x c,X.env.cells.lookup x=some c→c≠b)∧∀p∈X.pn++pins,p.1≠b)(keep:∀b o,b≠X.env.locals→b∉X.fs→b∉ch→s.heap.get? b=some o→H b=none→h'.get? b=some o)(slot:∀b o,b≠X.env.locals→b∈X.fs→b∉ch→s.heap.get? b=some o→H b=none→∃sl,h'.get? b=some {o with slots:=sl})(free:∀b o,b∉ch→s.heap.get? b=some o→H b=none→H' b=none)(there:∀b o,b∉ch→s.heap.get? b=some o→∃o',h'.get? b=some o')(tups:∀b xs,H b=some (.tup xs)→H' b=some (.tup xs))(frzs:∀b o u,H b=some (.frz o u)→H' b=some (.frz o u))(tbls:∀b ps,H b=some (.tbl ps)→∃more,H' b=some (.tbl (ps++more)))(ns:∀m,s.heap.Ns X.env.locals m→h'.Ns X.env.locals m)(hok:HOk X.prog X.w H' h')(hg:AllBare g'):
  Inv X pins σ H' {s with heap:=h',gens:=g',drawn:=d',toks:=t'}:=by
 have neL:∀b o,X.s₀.heap.get? b=some o→b≠X.env.locals:=λb o e=>ne_of_lt (lt_of_lt_of_le (lt_size e) I.ok.above);have neC:∀b o,X.s₀.heap.get? b=some o→b∉X.ex→b∉ch:=λb o e hx hb=>by
  rcases (hch b hb).1 with z|z
  ·exact hx z
  ·exact absurd (lt_of_lt_of_le (lt_size e) z) (lt_irrefl _)
 have cellK:∀x c,X.env.cells.lookup x=some c→∀v,s.heap.IsCell c v→h'.IsCell c v:=λx c e v ⟨o,ho,hd⟩=>by
  have nch:c∉ch:=λz=>(hch c z).2.2.1 x c e rfl
  by_cases hc:c∈X.fs
  ·obtain⟨sl,q⟩:=slot c o (I.cne x c e) hc nch ho (I.freeC x c e);exact⟨_,q,hd⟩
  ·exact⟨o,keep c o (I.cne x c e) hc nch ho (I.freeC x c e),hd⟩
 refine⟨I.ok,I.os,hg,⟨λb o e n hb hx=>?_,λb o e n hb hx=>?_,λb o e n hx=>?_,λb o e hx=>?_,λb xs e=>tups b xs (I.base.tups b xs e),λb o xs e=>frzs b o xs (I.base.frzs b o xs e),λb ps e=>?_⟩,?_,λx c e=>?_,?_,λx c e=>?_,λp hp=>?_,hok,I.len⟩
 ·exact keep b o (neL b o e) hb (neC b o e hx) (I.base.keep b o e n hb hx) (I.base.free b o e n hx)
 ·obtain⟨sl,e1⟩:=I.base.slot b o e n hb hx;obtain⟨sl',e2⟩:=slot b _ (neL b o e) hb (neC b o e hx) e1 (I.base.free b o e n hx);exact⟨sl',e2⟩
 ·obtain⟨o',e1⟩:=I.base.there b o e hx;exact free b o' (neC b o e hx) e1 (I.base.free b o e n hx)
 ·obtain⟨o',e1⟩:=I.base.there b o e hx;exact there b o' (neC b o e hx) e1
 ·obtain⟨m1,e1⟩:=I.base.tbls b ps e;obtain⟨m2,e2⟩:=tbls b _ e1;exact⟨m1++m2,by rw[e2,Array.append_assoc]⟩
 ·obtain⟨m,hn,hl⟩:=I.loc;refine⟨m,ns m hn,λi x v e1 e2 e3=>?_⟩;obtain⟨u,r,l⟩:=hl i x v e1 e2 e3;refine⟨u,r,?_⟩;rcases l with l|⟨k,c,e,z⟩
  ·exact .inl l
  ·exact .inr ⟨k,c,e,cellK x c e _ z⟩
 ·obtain⟨v,z⟩:=I.cell x c e;exact⟨v,cellK x c e v z⟩
 ·obtain⟨m,⟨o,_,_,ho,_⟩,_⟩:=I.loc;exact free _ o (λz=>(hch _ z).2.1 rfl) ho I.free
 ·obtain⟨v,o,ho,hd⟩:=I.cell x c e;exact free c o (λz=>(hch c z).2.2.1 x c e rfl) ho (I.freeC x c e)
 ·obtain⟨e,n,ne,nf,d⟩:=I.pin p hp;have nch:p.1∉ch:=λz=>(hch p.1 z).2.2.2 p hp rfl;exact⟨keep p.1 p.2 ne nf nch e n,free p.1 p.2 nch e n,ne,nf,d⟩
theorem Inv.un{t':Nat}(I:Inv X pins σ H s)(u:Un X.fs [] H H' s.heap h')(hok:HOk X.prog X.w H' h'):Inv X pins σ H' {s with heap:=h',toks:=t'}:=by
 obtain⟨m,⟨o,es,ep,ho,r⟩,_⟩:=id I.loc;obtain⟨sl,hL⟩:=u.any ho I.free (by simp);exact I.step (g':=s.gens) (d':=s.drawn) (ch:=[]) (λ_ z=>nomatch z) (λb o _ hb _ e n=>u.keep b o e n hb (by simp)) (λb o _ hb _ e n=>u.slot b o e n hb (by simp)) (λb o _ e n=>u.free b o e n (by simp)) (λb o _ e=>u.there b o e (by simp)) u.tups u.frzs u.tbls (λm' hm=>by
  obtain⟨o',es',ep',ho',r'⟩:=hm;rw[ho]at ho';cases ho';exact⟨_,es',ep',hL,r'⟩) hok I.bare
theorem Inv.call{g':Array GenState}{t':Nat}{d':Drawn}{ch:List Addr}(I:Inv X pins σ H s)(u:Un (frs X.stack) ch H H' s.heap h')(hok:HOk X.prog X.w H' h')(hg:AllBare g')(hch:∀b∈ch,(b∈X.ex∨X.s₀.heap.objs.size≤b)∧b≠X.env.locals∧(∀x c,X.env.cells.lookup x=some c→c≠b)∧∀p∈X.pn++pins,p.1≠b):
  Inv X pins σ H' {s with heap:=h',gens:=g',drawn:=d',toks:=t'}:=by
 obtain⟨m,⟨o,es,ep,ho,r⟩,_⟩:=id I.loc;obtain⟨sl,hL⟩:=u.any ho I.free λz=>(hch _ z).2.1 rfl;exact I.step (ch:=ch) hch (λb o hL hb hc e n=>u.keep b o e n (λz=>(mem_cons.mp (I.stkSub b z)).elim hL hb) hc) (λb o _ _ hc e n=>u.any e n hc) (λb o hc e n=>u.free b o e n hc) (λb o hc e=>u.there b o e hc) u.tups u.frzs u.tbls (λm' hm=>by
  obtain⟨o',es',ep',ho',r'⟩:=hm;rw[ho]at ho';cases ho';exact⟨_,es',ep',hL,r'⟩) hok hg
theorem Inv.turned{t':Nat}{it:Addr}(I:Inv X pins σ H s)(k:∀b o,b≠it→s.heap.get? b=some o→h'.get? b=some o)(hn:H it=none)(hL:it≠X.env.locals)(h1:it∈X.ex∨X.s₀.heap.objs.size≤it)(h2:∀x c,X.env.cells.lookup x=some c→c≠it)(h3:∀p∈X.pn++pins,p.1≠it):Inv X pins σ H {s with heap:=h',toks:=t'}:=by
 have nit:∀b u,H b=some u→b≠it:=λb u e z=>by rw[z,hn]at e;cases e
 refine I.step (g':=s.gens) (d':=s.drawn) (ch:=[it]) (λb hb=>?_) (λb o _ _ hc e _=>k b o (λz=>hc (by simp[z])) e) (λb o _ _ hc e _=>⟨o.slots,k b o (λz=>hc (by simp[z])) e⟩) (λ_ _ _ _ n=>n)
  (λb o hc e=>⟨o,k b o (λz=>hc (by simp[z])) e⟩) (λ_ _ e=>e) (λ_ _ _ e=>e) (λb ps e=>⟨#[],by rw[e];simp⟩) (λm hm=>?_) (λb u e=>?_) I.bare
 ·have e:b=it:=by simpa using hb
  subst e;exact⟨h1,hL,h2,h3⟩
 ·obtain⟨o,es,ep,ho,r⟩:=hm;exact⟨o,es,ep,k _ o (symm hL) ho,r⟩
 ·refine(I.hok b u e).stay (λc v hc q=>k c v ?_ q) (λ_ q=>q) λ_ _ q=>q;rcases hc with z|z
  ·rw[z];exact nit b u e
  ·exact nit c _ z
theorem Inv.tok(I:Inv X pins σ H s)(t:Nat):Inv X pins σ H {s with toks:=t}:=I.un (h':=s.heap) (t':=t) Un.refl I.hok
theorem Inv.kept{t':Nat}(I:Inv X pins σ H s)(k:∀b u,s.heap.get? b=some u→h'.get? b=some u):Inv X pins σ H {s with heap:=h',toks:=t'}:=I.un (Un.kept k) (I.hok.kept k)
theorem Inv.laid{a:Addr}{o:HO}{t':Nat}(I:Inv X pins σ H s)(k:∀b u,s.heap.get? b=some u→h'.get? b=some u)(hp:s.heap.objs.size≤a)(new:bt X.prog X.w (upd H a o) h' a o):
  Inv X pins σ (upd H a o) {s with heap:=h',toks:=t'}:=I.un (Un.laid k hp (I.hok.fresh hp)) (I.hok.laid k hp new)
theorem Inv.write{x e:Addr}{o:HO}{t':Nat}(I:Inv X pins σ H s)(mu:Mut (H x))(he:e=x∨H e=some (.own x))(k:∀b u,b≠e→s.heap.get? b=some u→h'.get? b=some u)(heo:∃u,h'.get? e=some u)(new:bt X.prog X.w (upd H x o) h' x o):Inv X pins σ (upd H x o) {s with heap:=h',toks:=t'}:=I.un (Un.write mu he k heo) (I.hok.write mu he k heo new)
theorem Inv.pins_of{pins':List (Addr×Obj)}(I:Inv X pins σ H s)(h:∀p∈pins',s.heap.get? p.1=some p.2∧H p.1=none∧p.1≠X.env.locals∧p.1∉X.fs∧∀v,p.2.data≠.cell v):Inv X pins' σ H s :=
 ⟨I.ok,I.os,I.bare,I.base,I.loc,I.cell,I.free,I.freeC,λp hp=>(mem_append.mp hp).elim (λz=>I.pin p (mem_append_left _ z)) (h p),I.hok,I.len⟩
theorem jg{N:List Str}(hN:N.Nodup){i j:Nat}{x:Str}(a:N[i]?=some x)(b:N[j]?=some x):i=j:=by
 obtain⟨h1,e1⟩:=List.getElem?_eq_some_iff.mp a;obtain⟨h2,e2⟩:=List.getElem?_eq_some_iff.mp b;exact(getElem_inj hN).mp (e1.trans e2.symm)
theorem kn{M:Model}{A:Around}{E:Value→Shared→Prop}{i:Nat}{x:Str}{v:V}{u:Value}{Q:Unit→Shared→Prop}(I:Inv X pins σ H s)(hN:X.N.Nodup)(hi:X.N[i]?=some x)(hx:Loc X.env.scope x)(r:aO v u)(h:∀s',Inv X pins (σ.set i (some v)) H s'→(∃a,SameBut a s.heap s'.heap∧(a=X.env.locals∨X.env.cells.lookup x=some a))→Q () s')(hf:X.fn x=true∨X.env.scope.names.lookup x=some .local:=by first|exact .inl rfl|exact .inr rfl|assumption):wpAny M A (storeName X.env x u) Q E s:=by
 obtain⟨m,hn,hl⟩:=id I.loc;have hcls:(X.env.scope.kind==.class||(X.env.scope.kind==.module&&X.env.locals != X.env.globals))=false:=by rw[I.ok.kind];rfl
 have hiσ:i<σ.length:=by rw[I.len];exact(List.getElem?_eq_some_iff.mp hi).1
 have cne:=I.cne;have tracked:∀{a:Addr}{h':Heap},(∃o,s.heap.get? a=some o∧H a=none)→SameBut a s.heap h'→HOk X.prog X.w H h':=λ{a h'} ha hs b ob e=>by
  obtain⟨_,_,hfree⟩:=ha;refine(I.hok b ob e).stay (λc w' hc q=>(hs.2 c ?_).trans q) (λ_ q=>q) λ_ _ q=>q;rintro rfl;rcases hc with rfl|hc
  ·rw[hfree]at e;cases e
  ·rw[hfree]at hc;cases hc
 rcases hx with hk|hk
 ·refine wpAny_storeName_local hk hn (λh' hn' hs=>?_) hcls;obtain⟨oL,_,_,hoL,_⟩:=id hn;refine h _ ⟨I.ok,I.os,I.bare,⟨λb o e n hb hx=>?_,λb o e n hb hx=>?_,I.base.free,λb o e hx=>?_,I.base.tups,I.base.frzs,I.base.tbls⟩,⟨_,hn',λj y v' e1 e2 e3=>?_⟩,λy c e=>?_,I.free,I.freeC,λp hp=>?_,tracked ⟨oL,hoL,I.free⟩ hs,by simpa using I.len⟩ ⟨_,hs,.inl rfl⟩
  ·exact(hs.2 b (ne_of_lt (lt_of_lt_of_le (lt_size e) I.ok.above))).trans (I.base.keep b o e n hb hx)
  ·obtain⟨sl,e1⟩:=I.base.slot b o e n hb hx;exact⟨sl,(hs.2 b (ne_of_lt (lt_of_lt_of_le (lt_size e) I.ok.above))).trans e1⟩
  ·obtain⟨o',e1⟩:=I.base.there b o e hx;exact⟨o',(hs.2 b (ne_of_lt (lt_of_lt_of_le (lt_size e) I.ok.above))).trans e1⟩
  ·by_cases hj:j=i
   ·subst hj;rw[hi]at e1;cases e1;rw[getElem?_set_self hiσ]at e2;cases e2;exact⟨u,r,.inl ⟨hk,by simp⟩⟩
   ·rw[List.getElem?_set_ne (symm hj)]at e2;obtain⟨u',r',q⟩:=hl j y v' e1 e2 e3;refine⟨u',r',?_⟩;rcases q with⟨k,e⟩|⟨k,c,e,z⟩
    ·refine .inl ⟨k,?_⟩;have:y≠x:=λe=>hj (jg hN e1 (e ▸ hi));simp[this,e]
    ·exact .inr ⟨k,c,e,z.sameBut hs (cne y c e)⟩
  ·obtain⟨w',z⟩:=I.cell y c e;exact⟨w',z.sameBut hs (cne y c e)⟩
  ·obtain⟨e,n,ne,nf,d⟩:=I.pin p hp;exact⟨(hs.2 p.1 ne).trans e,n,ne,nf,d⟩
 ·have hfn:X.fn x=true:=by
   rcases hf with z|z
   ·exact z
   ·rw[z]at hk;cases hk
  obtain⟨c,hc⟩:=I.ok.has x (.inl hk);obtain⟨w',z⟩:=I.cell x c hc;refine wpAny_storeName_cell I.ok.kind hk hc z (λh' hc' hs=>?_);obtain⟨oc,hoc,hocd⟩:=id z;refine h {s with heap:=h'} ⟨I.ok,I.os,I.bare,⟨λb o e n hb hx=>?_,λb o e n hb hx=>?_,I.base.free,λb o e hx=>?_,I.base.tups,I.base.frzs,I.base.tbls⟩,⟨m,hn.sameBut hs (symm (cne x c hc)),λj y v' e1 e2 e3=>?_⟩,λy c' e=>?_,I.free,I.freeC,λp hp=>?_,tracked ⟨oc,hoc,I.freeC x c hc⟩ hs,by simpa using I.len⟩ ⟨c,hs,.inr hc⟩
  ·exact(hs.2 b (ne_of_lt (lt_of_lt_of_le (lt_size e) (I.ok.cab x c hfn hc)))).trans (I.base.keep b o e n hb hx)
  ·obtain⟨sl,e1⟩:=I.base.slot b o e n hb hx;exact⟨sl,(hs.2 b (ne_of_lt (lt_of_lt_of_le (lt_size e) (I.ok.cab x c hfn hc)))).trans e1⟩
  ·obtain⟨o',e1⟩:=I.base.there b o e hx;exact⟨o',(hs.2 b (ne_of_lt (lt_of_lt_of_le (lt_size e) (I.ok.cab x c hfn hc)))).trans e1⟩
  ·by_cases hj:j=i
   ·subst hj;rw[hi]at e1;cases e1;rw[getElem?_set_self hiσ]at e2;cases e2;exact⟨u,r,.inr ⟨.inl hk,c,hc,hc'⟩⟩
   ·rw[List.getElem?_set_ne (symm hj)]at e2;obtain⟨u',r',q⟩:=hl j y v' e1 e2 e3;refine⟨u',r',?_⟩;rcases q with q|⟨k,c',e,z'⟩
    ·exact .inl q
    ·refine .inr ⟨k,c',e,z'.sameBut hs ?_⟩;rintro rfl;exact hj (jg hN e1 (I.ok.inj _ _ _ e hc ▸ hi))
  ·by_cases hcc:c'=c
   ·subst hcc;exact⟨_,hc'⟩
   ·obtain⟨w2,z2⟩:=I.cell y c' e;exact⟨w2,z2.sameBut hs hcc⟩
  ·obtain⟨e,n,ne,nf,d⟩:=I.pin p hp;refine⟨(hs.2 p.1 ?_).trans e,n,ne,nf,d⟩;intro q;rw[q,hoc]at e;have q':oc=p.2:=Option.some.inj e;exact d w' (by rw[←q'];exact hocd)
theorem fg{M:Model}{A:Around}{E:Value→Shared→Prop}{i:Nat}{x:Str}{v:V}{u:Value}{Q:Unit→Shared→Prop}(I:Inv X pins σ H s)(hN:X.N.Nodup)(hi:X.N[i]?=some x)(hx:Loc X.env.scope x)(r:aO v u)(h:∀s',Inv X pins (σ.set i (some v)) H s'→Q () s')(hf:X.fn x=true∨X.env.scope.names.lookup x=some .local:=by first|exact .inl rfl|exact .inr rfl|assumption):wpAny M A (storeName X.env x u) Q E s :=
 kn I hN hi hx r (λs' I' _=>h s' I') hf
theorem Inv.call'{s':Shared}{ch:List Addr}(I:Inv X pins σ H s)(ho:s'.os=s.os)(u:Un (frs X.stack) ch H H' s.heap s'.heap)(hok:HOk X.prog X.w H' s'.heap)(hg:AllBare s'.gens)(hch:∀b∈ch,(b∈X.ex∨X.s₀.heap.objs.size≤b)∧b≠X.env.locals∧(∀x c,X.env.cells.lookup x=some c→c≠b)∧∀p∈X.pn++pins,p.1≠b):Inv X pins σ H' s':=by
 obtain⟨h',g',d',t',o'⟩:=s';have e:o'=s.os:=ho;subst e;exact I.call (g':=g') (t':=t') (d':=d') u hok hg hch
end
abbrev XK:=Value→Option Addr→Hp→Prop
abbrev St:=List (Option V)
abbrev VK:=V→Hp→Prop
abbrev TE:=St→Hp→VK→Prop
abbrev TT:=St→Hp→(Bool→Hp→Prop)→Prop
abbrev TA:=St→Hp→(List V→Hp→Prop)→Prop
structure Ends where
 nx:St→Hp→Prop
 rt:VK
 bk:St→Hp→Prop:=λ_ _=>False
 ct:St→Hp→Prop:=λ_ _=>False
abbrev TS:=Ends→St→Hp→Prop
def EP(X:Cx)(pins:List (Addr×Obj))(σ:St)(Q:VK)(u:Value)(s':Shared):Prop:=∃v H',Inv X pins σ H' s'∧aO v u∧Q v H'
def TP(X:Cx)(pins:List (Addr×Obj))(σ:St)(Q:Bool→Hp→Prop)(b:Bool)(s':Shared):Prop:=∃H',Inv X pins σ H' s'∧Q b H'
def AP(X:Cx)(pins:List (Addr×Obj))(σ:St)(Q:List V→Hp→Prop)(us:List Value)(s':Shared):Prop:=∃vs H',Inv X pins σ H' s'∧aH vs us∧Q vs H'
def SP(X:Cx)(pins:List (Addr×Obj))(D:Ends)(f:Flow)(s':Shared):Prop :=
 match f with
 |.next=>∃σ' H',Inv X pins σ' H' s'∧D.nx σ' H'
 |.brk=>∃σ' H',Inv X pins σ' H' s'∧D.bk σ' H'
 |.cont=>∃σ' H',Inv X pins σ' H' s'∧D.ct σ' H'
 |.ret u=>∃v σ' H',Inv X pins σ' H' s'∧aO v u∧D.rt v H'
def PE(X:Cx)(e:Expr)(t:TE):Prop :=
 ∀(pins:List (Addr×Obj))(s:Shared)(σ:St)(H:Hp)(Q:VK),Inv X pins σ H s→t σ H Q→wpAny (model X.prog X.w) X.A (eval e X.env) (EP X pins σ Q) X.xe s
def PT(X:Cx)(e:Expr)(t:TT):Prop :=
 ∀(pins:List (Addr×Obj))(s:Shared)(σ:St)(H:Hp)(Q:Bool→Hp→Prop),Inv X pins σ H s→t σ H Q→wpAny (model X.prog X.w) X.A (isTrue e X.env (eval e X.env)) (TP X pins σ Q) X.xe s
def PW(X:Cx)(e:Expr)(t:TT):Prop :=
 ∀(whole:Sem Value)(pins:List (Addr×Obj))(s:Shared)(σ:St)(H:Hp)(Q:Bool→Hp→Prop),Inv X pins σ H s→t σ H Q→wpAny (model X.prog X.w) X.A (isTrue e X.env whole) (TP X pins σ Q) X.xe s
theorem PW.pt{X:Cx}{e:Expr}{t:TT}(h:PW X e t):PT X e t:=h _
def PA(X:Cx)(es:List Expr)(t:TA):Prop :=
 ∀(pos:Pos)(pins:List (Addr×Obj))(s:Shared)(σ:St)(H:Hp)(Q:List V→Hp→Prop),Inv X pins σ H s→t σ H Q→wpAny (model X.prog X.w) X.A (spliced (backTo pos (starEach es X.env))) (AP X pins σ Q) X.xe s
def PS(X:Cx)(st:Stmt)(t:TS):Prop :=
 ∀(pins:List (Addr×Obj))(s:Shared)(σ:St)(H:Hp)(D:Ends),Inv X pins σ H s→t D σ H→wpAny (model X.prog X.w) X.A (exec st X.env) (SP X pins D) X.xe s
def PSs(X:Cx)(st:List Stmt)(t:TS):Prop :=
 ∀(pins:List (Addr×Obj))(s:Shared)(σ:St)(H:Hp)(D:Ends),Inv X pins σ H s→t D σ H→wpAny (model X.prog X.w) X.A (execs st X.env) (SP X pins D) X.xe s
theorem thn{α:Type}{t:Sem α}{Q Q':α→Shared→Prop}{M:Model}{A:Around}{E:Value→Shared→Prop}{s:Shared}(h:wpAny M A t Q E s)(hQ:∀a s,Q a s→Q' a s):wpAny M A t Q' E s:=wpAny_mono h hQ λ_ _ x=>x
section
variable{X:Cx}
def ir(i:Nat):TE:=λσ H Q=>∃v,σ[i]?=some (some v)∧Q v H
def tC(v:V):TE:=λ_ H Q=>Q v H
theorem wC{i:Nat}{x:Str}{pos:Pos}(hN:X.N[i]?=some x)(hv:Vis X.env.scope x)(hd:(x==("__debug__":Str))=false:=by decide)(hcd:(x==("__classdict__":Str))=false:=by decide):PE X (.Name x pos) (ir i):=by
 intro pins s σ H Q I h;obtain⟨v,e,h⟩:=h;obtain⟨m,hn,hl⟩:=I.loc;obtain⟨u,r,l⟩:=hl i x v hN e hv;have fin:EP X pins σ Q u s:=⟨v,H,I,r,h⟩;rcases l with⟨hk,hm⟩|⟨hk,c,hc,hcell⟩
 ·exact wpAny_Name (wpAny_loadName_local I.ok.kind hk hn hm fin) hd
 ·rcases hk with hk|hk
  ·exact wpAny_Name (wpAny_loadName_cell I.ok.kind hk hc hcell fin) hd
  ·exact wpAny_Name (wpAny_loadName_free I.ok.kind hk hc hcell fin hcd) hd
theorem ak{i j pos}:PE X (.Constant (.int i) j pos) (tC (.int i)):=λ_ _ _ H _ I h=>wpAny_Constant_int ⟨.int i,H,I.tok _,⟨_,rfl⟩,h⟩
theorem fi{b j pos}:PE X (.Constant (.bool b) j pos) (tC (.bl b)):=λ_ _ _ H _ I h=>Constant_bool ⟨.bl b,H,I,rfl,h⟩
theorem dz{j pos}:PE X (.Constant .none j pos) (tC .non):=λ_ _ _ H _ I h=>Constant_none ⟨.non,H,I,rfl,h⟩
theorem aC{x j pos}:PE X (.Constant (.str x) j pos) (tC (.str x)):=λ_ _ _ H _ I h=>Constant_str ⟨.str x,H,I.tok _,⟨_,rfl⟩,h⟩
def Gl(X:Cx)(x:Str):Prop:=X.env.kindOf x=some .globalImplicit
theorem gh{E:Value→Shared→Prop}{pins:List (Addr×Obj)}{s:Shared}{σ:St}{H:Hp}{x:Str}{u:Value}{pos:Pos}{Q:Value→Shared→Prop}(I:Inv X pins σ H s)(hg:Gl X x)(hm:X.mg x=some u)(h:Q u s)(hd:(x==("__debug__":Str))=false:=by decide):wpAny (model X.prog X.w) X.A (eval (.Name x pos) X.env) Q E s :=
 Calls.Name_function_global I.ok.kind hg (Calls.loadGlobal_global (by rw[I.ok.glob];exact I.mod.glob.keeps I.bk) hm h) hd
theorem jh{E:Value→Shared→Prop}{pins:List (Addr×Obj)}{s:Shared}{σ:St}{H:Hp}{x:Str}{u:Value}{pos:Pos}{Q:Value→Shared→Prop}(I:Inv X pins σ H s)(hg:Gl X x)(hm:X.mg x=none)(hv:bootBuiltins x=some u)(h:Q u s)(hn:x≠"__name__":=by decide)(hd:(x==("__debug__":Str))=false:=by decide):wpAny (model X.prog X.w) X.A (eval (.Name x pos) X.env) Q E s:=by
 obtain⟨mb,h1,h2⟩:=I.mod.blt;exact Calls.Name_function_global I.ok.kind hg (Calls.loadGlobal_builtin (by rw[I.ok.glob];exact I.mod.glob.keeps I.bk) hm (by rw[I.ok.blt];exact h1.keeps I.bk) ((h2 x hn).trans hv) h) hd
theorem bJ{x:Str}{v:V}{u:Value}{pos:Pos}(hg:Gl X x)(hm:X.mg x=some u)(r:aO v u)(hd:(x==("__debug__":Str))=false:=by decide):PE X (.Name x pos) (tC v) :=
 λ_ _ _ H _ I h=>gh I hg hm ⟨v,H,I,r,h⟩ hd
theorem gP{x:Str}{v:V}{u:Value}{pos:Pos}(hg:Gl X x)(hm:X.mg x=none)(hv:bootBuiltins x=some u)(r:aO v u)(hn:x≠"__name__":=by decide)(hd:(x==("__debug__":Str))=false:=by decide):PE X (.Name x pos) (tC v) :=
 λ_ _ _ H _ I h=>jh I hg hm hv ⟨v,H,I,r,h⟩ hn hd
variable{a b:Expr}{ta tb:TE}{pos:Pos}
def PC(X:Cx)(op:CmpOp)(a b:Expr)(t:TE):Prop :=
 ∀(pins:List (Addr×Obj))(s:Shared)(σ:St)(H:Hp)(Q:VK),Inv X pins σ H s→t σ H Q →
  wpAny (model X.prog X.w) X.A (eval a X.env) (λv s₁=>wpAny (model X.prog X.w) X.A (eval b X.env) (λu s₂=>wpAny (model X.prog X.w) X.A (compareOp op v u) (EP X pins σ Q) X.xe s₂) X.xe s₁) X.xe s
def tB(t:TE):TT:=λσ H Q=>t σ H λx H1=>∃c,x=.bl c∧Q c H1
theorem rX{op:CmpOp}{t:TE}(h:PC X op a b t)(h1:behindInMarks op b=false:=by first|exact nobehind _ (by decide) (by decide)|rfl):PE X (.Compare a [op] [b] pos) t:=λpins s σ H Q I hw=>wpAny_Compare1 (h pins s σ H Q I hw) h1
theorem gy{op:CmpOp}{t:TE}(h:PC X op a b t)(h1:behindInMarks op b=false:=by first|exact nobehind _ (by decide) (by decide)|rfl):PT X (.Compare a [op] [b] pos) (tB t):=by
 intro pins s σ H Q I hw;refine wpAny_isTrue_Compare1 (thn (h pins s σ H _ I hw) λv s1 h1=>thn h1 λu s2 h2=>thn h2 λc s3 ⟨x,H1,I1,r1,q1⟩=>?_) h1;obtain⟨d,rfl,q⟩:=q1;cases r1;exact wpAny_truthy_bool ⟨H1,I1,q⟩
theorem gB{e:Expr}{t:TE}(h:PE X e t)(he:∀whole,isTrue e X.env whole=(do let v ← whole;standAt e.pos;holding [v] (truthy v)):=by intro _;rfl):PT X e (tB t):=by
 intro pins s σ H Q I hw;refine isTrue_plain (thn (h pins s σ H _ I hw) λv s1 ⟨x,H1,I1,r1,q1⟩=>?_) (he _);obtain⟨d,rfl,q⟩:=q1;cases r1;exact wpAny_truthy_bool ⟨H1,I1,q⟩
variable{tA tB':TT}{rest:List Expr}
def zp(t u:TT):TT:=λσ H Q=>t σ H λc H1=>if c=true then u σ H1 Q else Q false H1
def tOr(t u:TT):TT:=λσ H Q=>t σ H λc H1=>if c=true then Q true H1 else u σ H1 Q
def zq(t:TT):TT:=λσ H Q=>t σ H λc H1=>Q (!c) H1
theorem pw_and1(ha:PT X a tA):PW X (.BoolOp .And [a] pos) tA:=by
 intro wh pins s σ H Q I h;refine isTrue_and (thn (ha pins s σ H Q I h) λc s1 e=>?_);cases c with
 |true=>exact isTrue_and_nil e
 |false=>exact e
theorem pw_or1(ha:PT X a tA):PW X (.BoolOp .Or [a] pos) tA:=by
 intro wh pins s σ H Q I h;refine isTrue_or (thn (ha pins s σ H Q I h) λc s1 e=>?_);cases c with
 |false=>exact isTrue_or_nil e
 |true=>exact e
theorem pw_and(ha:PT X a tA)(hb:PW X (.BoolOp .And (b::rest) pos) tB'):PW X (.BoolOp .And (a::b::rest) pos) (zp tA tB'):=by
 intro wh pins s σ H Q I h;refine isTrue_and (thn (ha pins s σ H _ I h) λc s1 hpt=>?_);obtain⟨H1,I1,q1⟩:=hpt;cases c with
 |true=>exact hb wh pins s1 σ H1 Q I1 q1
 |false=>exact⟨H1,I1,q1⟩
theorem pw_or(ha:PT X a tA)(hb:PW X (.BoolOp .Or (b::rest) pos) tB'):PW X (.BoolOp .Or (a::b::rest) pos) (tOr tA tB'):=by
 intro wh pins s σ H Q I h;refine isTrue_or (thn (ha pins s σ H _ I h) λc s1 hpt=>?_);obtain⟨H1,I1,q1⟩:=hpt;cases c with
 |true=>exact⟨H1,I1,q1⟩
 |false=>exact hb wh pins s1 σ H1 Q I1 q1
theorem gC(ha:PT X a tA):PT X (.UnaryOp .Not a pos) (zq tA):=by
 intro pins s σ H Q I h;exact isTrue_not (ha pins s σ H (λc H1=>Q (!c) H1) I h)
def yo(ta:TE):TE:=λσ H Q=>ta σ H λx H1=>∃c,x=.bl c∧Q (.bl (!c)) H1
theorem rY(ha:PE X a ta):PE X (.UnaryOp .Not a pos) (yo ta):=by
 intro pins s σ H Q I h;refine UnaryOp_ (thn (ha pins s σ H _ I h) λv s1 hpt=>?_);obtain⟨x,H1,I1,r1,q1⟩:=hpt;obtain⟨c,rfl,q1⟩:=q1;cases r1;exact not_of (wpAny_truthy_bool ⟨.bl (!c),H1,I1,rfl,q1⟩)
def tIf(t:TT)(ta tb:TE):TE:=λσ H Q=>t σ H λc H1=>if c=true then ta σ H1 Q else tb σ H1 Q
theorem fj{c:Expr}(hc:PT X c tA)(ha:PE X a ta)(hb:PE X b tb):PE X (.IfExp c a b pos) (tIf tA ta tb):=by
 intro pins s σ H Q I h;refine wpAny_IfExp (thn (hc pins s σ H _ I h) λd s1 hpt=>?_);obtain⟨H1,I1,q1⟩:=hpt;cases d with
 |true=>exact ha pins s1 σ H1 Q I1 q1
 |false=>exact hb pins s1 σ H1 Q I1 q1
end
def SqL(K:PySem.W.Frag)(H:Hp)(a:Addr)(xs:List V):Prop :=
 Rd H a (.lst xs) ∨
  ∃(o:Obj) (its:Array Value) (n:Nat),K.lookup a=some o∧o.cls=.type "list"∧o.dict=none∧o.data=.seq its n∧its.size≤sizeLine∧aH xs its.toList
def SqT(K:PySem.W.Frag)(H:Hp)(a:Addr)(xs:List V):Prop :=
 Rd H a (.tup xs) ∨
  ∃(o:Obj) (its:Array Value) (n:Nat),K.lookup a=some o∧o.cls=.type "tuple"∧o.data=.seq its n∧its.size≤sizeLine∧aH xs its.toList
def zr:Value→Option V
 |.none=>some .non
 |.bool b=>some (.bl b)
 |.int i _=>some (.int i)
 |.str x _=>some (.str x)
 |.bytes b _=>some (.byt b)
 |.float b _=>some (.flt b)
 |.ref a=>some (.ref a)
 |.type n=>some (.ty n)
 |_=>none
theorem aO.abs{x:V}{u:Value}(r:aO x u):zr u=some x:=by
 cases x with
 |non=>cases r;rfl
 |bl _=>cases r;rfl
 |int _=>obtain⟨t,rfl⟩:=r;rfl
 |str _=>obtain⟨t,rfl⟩:=r;rfl
 |byt _=>obtain⟨t,rfl⟩:=r;rfl
 |flt _=>obtain⟨t,rfl⟩:=r;rfl
 |ref _=>cases r;rfl
 |ty _=>cases r;rfl
theorem aO.inj{x y:V}{u:Value}(r:aO x u)(q:aO y u):x=y:=Option.some.inj (r.abs.symm.trans q.abs)
theorem aH.inj:∀{xs ys:List V}{us:List Value},aH xs us→aH ys us→xs=ys
 |_,_,_,.nil,.nil=>rfl
 |_,_,_,.cons r t,.cons r' t'=>by rw[r.inj r',aH.inj t t']
section
variable{X:Cx}{pins:List (Addr×Obj)}{σ:St}{H:Hp}{s:Shared}{a:Addr}{xs ys:List V}
theorem SqL.of{K:PySem.W.Frag}(h:H a=some (.lst xs)):SqL K H a xs:=.inl (.inl h)
theorem SqT.of{K:PySem.W.Frag}(h:H a=some (.tup xs)):SqT K H a xs:=.inl (.inl h)
theorem Inv.list(I:Inv X pins σ H s)(h:SqL X.K H a xs):∃its:List Value,aH xs its∧PlainL s.heap a its.toArray∧xs.length≤sizeLine:=by
 rcases h with h|⟨o,its,n,hk,hc,hd,hs,hz,r⟩
 ·obtain⟨z,its,n,r,e⟩:=h.ok I.hok;exact⟨its,r,⟨_,n,e,rfl,rfl,rfl⟩,z⟩
 ·refine⟨its.toList,r,⟨o,n,I.kIn a o hk,hc,hd,by simpa using hs⟩,?_⟩
  have e:=r.length;simp only[length_toList]at e;omega
theorem Inv.tuple(I:Inv X pins σ H s)(h:SqT X.K H a xs):∃its:List Value,aH xs its∧IsTup s.heap a its.toArray∧xs.length≤sizeLine:=by
 rcases h with h|⟨o,its,n,hk,hc,hs,hz,r⟩
 ·obtain⟨z,its,r,p⟩:=h.ok I.hok;exact⟨its,r,p,z⟩
 ·refine⟨its.toList,r,⟨o,I.kIn a o hk,hc,n,by simpa using hs⟩,?_⟩
  have e:=r.length;simp only[length_toList]at e;omega
theorem Inv.list_inj(I:Inv X pins σ H s)(h:SqL X.K H a xs)(h':SqL X.K H a ys):xs=ys:=by
 obtain⟨its,r,⟨o,n,e,_,_,d⟩,_⟩:=I.list h;obtain⟨its',r',⟨o',n',e',_,_,d'⟩,_⟩:=I.list h';rw[e]at e';cases e';rw[d]at d';injection d' with d1 _
 have:its=its':=by simpa using congrArg toList d1
 subst this;exact r.inj r'
theorem Inv.tuple_inj(I:Inv X pins σ H s)(h:SqT X.K H a xs)(h':SqT X.K H a ys):xs=ys:=by
 obtain⟨its,r,⟨o,e,_,n,d⟩,_⟩:=I.tuple h;obtain⟨its',r',⟨o',e',_,n',d'⟩,_⟩:=I.tuple h';rw[e]at e';cases e';rw[d]at d';injection d' with d1 _
 have:its=its':=by simpa using congrArg toList d1
 subst this;exact r.inj r'
end
abbrev Cx.wish(X:Cx)(E:Value→Shared→Prop):Cx:={X with xe:=E}
abbrev Cx.nox(X:Cx):Cx:=X.wish λ_ _=>False
theorem Cx.Ok.wish{X:Cx}(ok:X.Ok)(E:Value→Shared→Prop):(X.wish E).Ok :=
 ⟨ok.mod,ok.kind,ok.glob,ok.blt,ok.above,ok.inj,ok.has,ok.cab,ok.hd,ok.frames,ok.stk,ok.exf,ok.bs,ok.bsz,ok.noex,ok.exfs,ok.funs,ok.frf⟩
theorem Cx.Ok.unwish{X:Cx}{E:Value→Shared→Prop}(ok:(X.wish E).Ok):X.Ok :=
 ⟨ok.mod,ok.kind,ok.glob,ok.blt,ok.above,ok.inj,ok.has,ok.cab,ok.hd,ok.frames,ok.stk,ok.exf,ok.bs,ok.bsz,ok.noex,ok.exfs,ok.funs,ok.frf⟩
section
variable{X:Cx}{pins:List (Addr×Obj)}{σ:St}{H:Hp}{s:Shared}{E:Value→Shared→Prop}
theorem Inv.wish(I:Inv X pins σ H s)(E:Value→Shared→Prop):Inv (X.wish E) pins σ H s:=⟨I.ok.wish E,I.os,I.bare,I.base,I.loc,I.cell,I.free,I.freeC,I.pin,I.hok,I.len⟩
theorem Inv.unwish(I:Inv (X.wish E) pins σ H s):Inv X pins σ H s:=⟨I.ok.unwish,I.os,I.bare,I.base,I.loc,I.cell,I.free,I.freeC,I.pin,I.hok,I.len⟩
theorem SP.unwish{D:Ends}{f:Flow}{s':Shared}(h:SP (X.wish E) pins D f s'):SP X pins D f s':=by
 cases f with
 |next=>obtain⟨σ',H',I,q⟩:=h;exact⟨σ',H',I.unwish,q⟩
 |brk=>obtain⟨σ',H',I,q⟩:=h;exact⟨σ',H',I.unwish,q⟩
 |cont=>obtain⟨σ',H',I,q⟩:=h;exact⟨σ',H',I.unwish,q⟩
 |ret u=>obtain⟨v,σ',H',I,r,q⟩:=h;exact⟨v,σ',H',I.unwish,r,q⟩
theorem PSs.nox{st:List Stmt}{t:TS}(h:PSs X.nox st t):PSs X st t:=λpins s σ H D I hw =>
 wpAny_mono (h pins s σ H D (I.wish _) hw) (λ_ _ q=>q.unwish) λ_ _ z=>False.elim z
end
section
variable{X:Cx}{st:Stmt}{rest:List Stmt}{t u:TS}{e:Expr}{te:TE}{pos:Pos}
def yp:TS:=λD σ H=>D.nx σ H
def lZ(t u:TS):TS:=λD σ H=>t {D with nx:=u D} σ H
theorem aE:PSs X [] yp:=λ_ _ σ H _ I h=>wpAny_execs_nil ⟨σ,H,I,h⟩
theorem ai(h1:PS X st t)(h2:PSs X rest u):PSs X (st::rest) (lZ t u):=by
 intro pins s σ H D I h;refine wpAny_execs_cons (thn (h1 pins s σ H {D with nx:=u D} I h) λf s1 q=>?_);cases f with
 |next =>
  obtain⟨σ',H',I',q⟩:=q;exact h2 pins s1 σ' H' D I' q
 |ret v=>exact q
 |brk=>exact q
 |cont=>exact q
theorem ao(h1:PS X st t):PSs X [st] t:=by
 intro pins s σ H D I h;refine wpAny_execs_cons (thn (h1 pins s σ H D I h) λf s1 q=>?_);cases f with
 |next=>exact wpAny_execs_nil q
 |ret v=>exact q
 |brk=>exact q
 |cont=>exact q
theorem Inv.quiet{pins:List (Addr×Obj)}{σ:St}{H:Hp}{s:Shared}(I:Inv X pins σ H s):interactive X.env=false:=by simp[interactive,I.ok.kind]
def vY(te:TE):TS:=λD σ H=>te σ H λ_ H1=>D.nx σ H1
theorem bn(he:PE X e te)(hs:swapsWith e none pos.line X.env=pure false:=by rfl):PS X (.Expr e pos) (vY te):=by
 intro pins s σ H D I h;exact wpAny_Expr_any (thn (he pins s σ H _ I h) λv s1 ⟨x,H1,I1,r1,q1⟩=>⟨σ,H1,I1,q1⟩) I.quiet hs
def wD(te:TE):TS:=λD σ H=>te σ H D.rt
theorem ax(he:PE X e te):PS X (.Return (some e) pos) (wD te):=by
 intro pins s σ H D I h;exact wpAny_Return_some (thn (he pins s σ H _ I h) λv s1 ⟨x,H1,I1,r1,q1⟩=>⟨x,σ,H1,I1,r1,q1⟩)
def zt(c:TT)(t u:TS):TS:=λD σ H=>c σ H λb H1=>if b=true then t D σ H1 else u D σ H1
theorem aX{c:Expr}{a b:List Stmt}{tc:TT}(hc:PT X c tc)(ha:PSs X a t)(hb:PSs X b u):PS X (.If c a b pos) (zt tc t u):=by
 intro pins s σ H D I h;refine wpAny_If (thn (hc pins s σ H _ I h) λd s1 hpt=>?_);obtain⟨H1,I1,q1⟩:=hpt;cases d with
 |true=>exact ha pins s1 σ H1 D I1 q1
 |false=>exact hb pins s1 σ H1 D I1 q1
def rZ:TS:=λ_ _ _=>False
theorem se:PS X st rZ:=λ_ _ _ _ _ _ h=>h.elim
theorem qL{sts:List Stmt}:PSs X sts rZ:=λ_ _ _ _ _ _ h=>h.elim
end
abbrev TG:=V→St→Hp→(St→Hp→Prop)→Prop
abbrev TGs:=List V→St→Hp→(St→Hp→Prop)→Prop
def PG(X:Cx)(target:Expr)(t:TG):Prop :=
 ∀(pins:List (Addr×Obj))(s:Shared)(σ:St)(H:Hp)(v:V)(u:Value)(Q:St→Hp→Prop),Inv X pins σ H s→aO v u→t v σ H Q →
  wpAny (model X.prog X.w) X.A (assign target X.env u) (λ_ s'=>∃σ' H',Inv X pins σ' H' s'∧Q σ' H') X.xe s
def PGs(X:Cx)(ts:List Expr)(t:TGs):Prop :=
 ∀(pins:List (Addr×Obj))(s:Shared)(σ:St)(H:Hp)(vs:List V)(us:List Value)(Q:St→Hp→Prop),Inv X pins σ H s→aH vs us→t vs σ H Q →
  wpAny (model X.prog X.w) X.A (assignInOrder ((assignEach ts X.env).map (·.2)) us) (λ_ s'=>∃σ' H',Inv X pins σ' H' s'∧Q σ' H') X.xe s
section
variable{X:Cx}{pos:Pos}
def cw(i:Nat):TG:=λv σ H Q=>Q (σ.set i (some v)) H
theorem aQ{i:Nat}{x:Str}(hN:X.N.Nodup)(hi:X.N[i]?=some x)(hx:Loc X.env.scope x)(hf:X.fn x=true∨X.env.scope.names.lookup x=some .local:=by first|exact .inl rfl|exact .inr rfl|assumption):PG X (.Name x pos) (cw i):=by
 intro pins s σ H v u Q I r h;exact wpAny_assign_Name (fg I hN hi hx r (λs' I'=>⟨_,H,I',h⟩) hf)
def zu:TGs:=λvs σ H Q=>vs=[]∧Q σ H
def yq(t:TG)(u:TGs):TGs:=λvs σ H Q=>∃v r,vs=v::r∧t v σ H λσ' H'=>u r σ' H' Q
theorem iW:PGs X [] zu:=by
 intro pins s σ H vs us Q I r h;obtain⟨e,h⟩:=h;subst e;cases r;exact assignInOrder_nil ⟨σ,H,I,h⟩
theorem cU{e:Expr}{es:List Expr}{t:TG}{u:TGs}(h1:PG X e t)(h2:PGs X es u)(hs:(assignEach (e::es) X.env).map (·.2)=assign e X.env::(assignEach es X.env).map (·.2):=by rfl):PGs X (e::es) (yq t u):=by
 intro pins s σ H vs us Q I r h;obtain⟨v,vr,e1,h⟩:=h;subst e1;cases r with
 |cons r rr =>
  rw[hs];refine assignInOrder_cons (thn (h1 pins s σ H _ _ _ I r h) λ_ s1 hpt=>?_);obtain⟨σ1,H1,I1,q1⟩:=hpt;exact h2 pins s1 σ1 H1 _ _ Q I1 rr q1
def zv(K:PySem.W.Frag)(n:Nat)(t:TGs):TG:=λv σ H Q=>∃a xs,v=.ref a∧SqT K H a xs∧xs.length=n∧t xs σ H Q
theorem lv{es:List Expr}{k:Nat}{t:TGs}{n:Nat}(hc:X.calm=true)(h:PGs X es t)(hn:(assignEach es X.env).length=n:=by rfl)(hst:(assignEach es X.env).findIdx? (·.1)=none:=by rfl):PG X (.Tuple es k pos) (zv X.K n t):=by
 intro pins s σ H v u Q I r hw;obtain⟨a,xs,e1,hq,hl,hw⟩:=hw;subst e1;cases r;obtain⟨its,rv,ht,hz⟩:=I.tuple hq;refine assign_Tuple_tuple (I.ok.hd hc) ht (by simp[hn,←hl,rv.length]) hst λh' hx=>?_;have I1:Inv X pins σ H {s with heap:=h'}:=I.kept (t':=s.toks) λb o e=>hx b o (ne_of_lt (lt_size e)) e
 exact h pins _ σ H xs _ Q I1 (by simpa using rv) hw
def wE(te:TE)(g:TG):TS:=λD σ H=>te σ H λx H1=>g x σ H1 D.nx
theorem nW{tg e:Expr}{te:TE}{g:TG}(he:PE X e te)(hg:PG X tg g)(hs:swapsWithSole [tg] e pos.line X.env=pure false:=by rfl)(hw:swappedStores [tg] e X.env=pure none:=by rfl)(h1:(assignEach [tg] X.env).map (·.2)=[assign tg X.env]:=by rfl):PS X (.Assign [tg] e pos) (wE te g):=by
 intro pins s σ H D I h;refine wpAny_Assign_stores (thn (he pins s σ H _ I h) λv s1 ⟨x,H1,I1,r1,q1⟩=>?_) hs hw;rw[h1];exact thn (hg pins s1 σ H1 x v _ I1 r1 q1) λ_ s2 q=>q
theorem aJ{i:Nat}{x:Str}{e:Expr}{te:TE}{pos':Pos}(hN:X.N.Nodup)(hi:X.N[i]?=some x)(hx:Loc X.env.scope x)(he:PE X e te)(hs:swapsWith e (some (.Name x pos')) pos.line X.env=pure false:=by rfl)(hf:X.fn x=true∨X.env.scope.names.lookup x=some .local:=by first|exact .inl rfl|exact .inr rfl|assumption):
  PS X (.Assign [.Name x pos'] e pos) (wE te (cw i)):=by
 intro pins s σ H D I h;refine wpAny_Assign_Name (thn (he pins s σ H _ I h) λv s1 ⟨y,H1,I1,r1,q1⟩=>?_) hs;exact fg I1 hN hi hx r1 (λs2 I2=>⟨_,H1,I2,q1⟩) hf
def sf(c:TT)(tb:TS):TS:=λD σ H=>∃W:Nat→St→Hp→Prop,(∃m,W m σ H)∧∀m σ H,W m σ H →
 c σ H λb H1=>if b=true then ∃N:St→Hp→Prop,(∀σ' H',N σ' H'→∃m',m'<m∧W m' σ' H')∧tb {D with nx:=N,ct:=N,bk:=D.nx} σ H1 else D.nx σ H1
theorem ma{c:Expr}{body:List Stmt}{tc:TT}{tb:TS}(hp:PassesOwn (model X.prog X.w) X.A X.env X.xe)(hc:PT X c tc)(hb:PSs X body tb):PS X (.While c body [] pos) (sf tc tb):=by
 intro pins s σ H D I h;obtain⟨W,⟨m0,w0⟩,turn⟩:=h;refine wpAny_While (codeAny_whileLoop (λn s'=>∃σ' H',Inv X pins σ' H' s'∧W n σ' H') ?_ m0 ⟨σ,H,I,w0⟩);rintro n s1 ⟨σ1,H1,I1,w1⟩;refine wpAny_passesOwn hp (thn (hc pins s1 σ1 H1 _ I1 (turn n σ1 H1 w1)) λb s2 hpt=>?_);obtain⟨H2,I2,q2⟩:=hpt;cases b with
 |true =>
  obtain⟨N,hN,q2⟩:=q2;rw[if_pos rfl];refine wpAny_passesOwn hp (thn (hb pins s2 σ1 H2 _ I2 q2) λf s3 q3=>?_);cases f with
  |next =>
   obtain⟨σ3,H3,I3,n3⟩:=q3;obtain⟨m',hm,w3⟩:=hN σ3 H3 n3;exact⟨m',hm,σ3,H3,I3,w3⟩
  |cont =>
   obtain⟨σ3,H3,I3,n3⟩:=q3;obtain⟨m',hm,w3⟩:=hN σ3 H3 n3;exact⟨m',hm,σ3,H3,I3,w3⟩
  |brk=>exact q3
  |ret v=>exact q3
 |false =>
  rw[if_neg Bool.false_ne_true];exact wpAny_execs_nil ⟨σ1,H2,I2,q2⟩
end
structure It where
 go:Nat→Hp→Prop
 yld:Nat→Hp→V→Hp→Prop
 stop:Nat→Hp→Prop
def gE(X:Cx)(pins:List (Addr×Obj))(H:Hp)(b:Addr):Prop :=
 H b=none∧b≠X.env.locals∧b∉X.fs∧(b∈X.ex∨X.s₀.heap.objs.size≤b)∧(∀x c,X.env.cells.lookup x=some c→c≠b)∧∀p∈X.pn++pins,p.1≠b
theorem Inv.fpOk{X:Cx}{pins:List (Addr×Obj)}{σ:St}{H H':Hp}{s:Shared}{b:Addr}(I:Inv X pins σ H s)(hb:s.heap.objs.size≤b)(hn:H' b=none):gE X pins H' b:=by
 refine⟨hn,ne_of_gt (lt_of_lt_of_le I.lt hb),I.nofs hb,.inr (le_trans I.sz hb),λx c e z=>?_,λp hp z=>?_⟩
 ·obtain⟨v,q⟩:=I.cell x c e;exact absurd (lt_of_lt_of_le q.lt (by rw[z];exact hb)) (lt_irrefl _)
 ·exact absurd (lt_of_lt_of_le (lt_size (I.pin p hp).1) (by rw[z];exact hb)) (lt_irrefl _)
structure Turn(P:Program)(w:World)(K:PySem.W.Frag)(tg:Expr)(J:It)(fp:List Addr)(it:Addr)(tn:Nat→Heap→Prop):Prop where
 mem:it∈fp
 obj:∀i h,tn i h→∀b∈fp,∃o,h.get? b=some o∧∀v,o.data≠.cell v
 keep:∀i h h',tn i h→(∀b∈fp,∀o,h.get? b=some o→h'.get? b=some o)→tn i h'
 item:∀(X:Cx),X.prog=P→X.w=w→X.K=K→X.calm=true→∀(i:Nat)(pins:List (Addr×Obj))(s:Shared)(σ:St)(H:Hp)(E:Value→Shared→Prop),Inv X pins σ H s→(∀b∈fp,gE X pins H b)→tn i s.heap→J.go i H →
  wpAny (model P w) X.A (pyNext (.ref it)) (λr s1=>∃u,r=some u ∧
   wpAny (model P w) X.A (letOwnedTupleGo tg (.ref it) u) (λ_ s2=>∃x H',Inv X pins σ H' s2∧aO x u∧J.yld i H x H'∧tn (i+1) s2.heap∧∀b∈fp,H' b=none) E s1) E s
 done:∀(X:Cx),X.prog=P→X.w=w→X.K=K→X.calm=true→∀(i:Nat)(pins:List (Addr×Obj))(s:Shared)(σ:St)(H:Hp)(E:Value→Shared→Prop),Inv X pins σ H s→(∀b∈fp,gE X pins H b)→tn i s.heap→J.stop i H →
  wpAny (model P w) X.A (pyNext (.ref it)) (λr s1=>r=none∧Inv X pins σ H s1) E s
 self:∀(A:Around)(i:Nat)(s:Shared)(Q:Value→Shared→Prop)(E:Value→Shared→Prop),tn i s.heap→Q (.ref it) s→wpAny (model P w) A (pyIter (.ref it)) Q E s
abbrev TI:=St→Hp→(It→Hp→Prop)→Prop
def PIE(X:Cx)(pins:List (Addr×Obj))(σ:St)(tg:Expr)(R:It→Hp→Prop)(itv:Value)(s2:Shared):Prop :=
 ∃(it:Addr) (fp:List Addr) (tn:Nat→Heap→Prop) (J:It) (H':Hp),itv=.ref it∧Inv X pins σ H' s2∧Turn X.prog X.w X.K tg J fp it tn∧tn 0 s2.heap∧(∀b∈fp,gE X pins H' b)∧R J H'
def PI(X:Cx)(tg iter:Expr)(wi:TI):Prop :=
 ∀(pins:List (Addr×Obj))(s:Shared)(σ:St)(H:Hp)(R:It→Hp→Prop),Inv X pins σ H s→wi σ H R →
  wpAny (model X.prog X.w) X.A (eval iter X.env) (λv s1=>wpAny (model X.prog X.w) X.A (pyIter v) (PIE X pins σ tg R) X.xe s1) X.xe s
theorem md{M:Model}{A:Around}{E:Value→Shared→Prop}{s:Shared}{tg:Expr}{it:Addr}{u:Value}{o:Obj}{n:String}{vs:Array Value}{Q:Unit→Shared→Prop}(ho:s.heap.get? it=some o)(hc:o.cls=.type n)(hd:o.data=.fields vs)(hn:["enumerate","zip","dict_itemiterator","dict_reverseitemiterator","odict_iterator","itertools.zip_longest","itertools.pairwise"].contains n=false)(hQ:Q () s):wpAny M A (letOwnedTupleGo tg (.ref it) u) Q E s:=by
 unfold letOwnedTupleGo;cases tg<;>first
  |exact wpAny_pure hQ
  | (cases u<;>first
    |exact wpAny_pure hQ
    | (refine wpAny_bind (wpAny_load ho ?_)
       rw[hc,hd];show wpAny M A (if (["enumerate","zip","dict_itemiterator","dict_reverseitemiterator","odict_iterator","itertools.zip_longest","itertools.pairwise"].contains n&&vs[0]?==some (rawInt _))=true then _ else _) Q E s
       rw[if_neg (by intro h;rw[hn,Bool.false_and]at h;cases h)];exact wpAny_pure hQ))
def Itl(K:PySem.W.Frag)(a:Addr):It :=
 ⟨λi H=>∃xs x,SqL K H a xs∧xs[i]?=some x,λi H x H'=>H'=H∧∀xs,SqL K H a xs→xs[i]?=some x,λi H=>∃xs,SqL K H a xs∧xs.length≤i⟩
def Itt(K:PySem.W.Frag)(a:Addr):It :=
 ⟨λi H=>∃xs x,SqT K H a xs∧xs[i]?=some x,λi H x H'=>H'=H∧∀xs,SqT K H a xs→xs[i]?=some x,λi H=>∃xs,SqT K H a xs∧xs.length≤i⟩
def Itr(lo:Int)(n:Nat):It:=⟨λi _=>i<n,λi H x H'=>H'=H∧x=.int (lo+i),λi _=>n≤i⟩
theorem qM{P:Program}{w:World}{K:PySem.W.Frag}{tg:Expr}(a it:Addr):Turn P w K tg (Itl K a) [it] it (λi h=>h.IsListIter it a i) where
 mem:=by simp
 obj:=λi h st b hb=>by
  have e:b=it:=by simpa using hb
  subst e;obtain⟨o,e,c,d⟩:=st;exact⟨o,e,λv z=>by rw[d]at z;cases z⟩
 keep:=λi h h' st k=>st.at λo e=>k it (by simp) o e
 item:=by
  intro X hP hw hK hc i pins s σ H E I hf st hg;subst hP hw hK;obtain⟨xs,x,hq,hx⟩:=hg;obtain⟨its,rv,p,hz⟩:=I.list hq;obtain⟨u,hu,ru⟩:=rv.get hx;obtain⟨f0,f1,f2,f3,f4,f5⟩:=hf it (by simp);refine wpAny_pyNext_list_item st p.isList (x:=u) (by simpa using hu) λh' st' sb=>?_;have I1:Inv X pins σ H {s with heap:=h'}:=I.turned (t':=s.toks) (λb o hb e=>(sb.2 b hb).trans e) f0 f1 f3 f4 f5
  obtain⟨o,e,c,d⟩:=id st';exact⟨u,rfl,md (s:={s with heap:=h'}) e c d (by decide) ⟨x,H,I1,ru,⟨rfl,λys hy=>by rw[I.list_inj hy hq];exact hx⟩,st',λb hb=>(hf b hb).1⟩⟩
 done:=by
  intro X hP hw hK hc i pins s σ H E I hf st hg;subst hP hw hK;obtain⟨xs,hq,hx⟩:=hg;obtain⟨its,rv,p,hz⟩:=I.list hq;obtain⟨f0,f1,f2,f3,f4,f5⟩:=hf it (by simp);have hl:=rv.length;exact wpAny_pyNext_list_end (I.ok.hd hc) st p.isList (by simp;omega) λh' eb=>⟨rfl,I.turned (t':=s.toks) (λb o hb e=>eb b o hb e) f0 f1 f3 f4 f5⟩
 self:=λ_ _ _ _ _ st h=>wpAny_pyIter_listiter st h
theorem nX{P:Program}{w:World}{K:PySem.W.Frag}{tg:Expr}(a it:Addr):Turn P w K tg (Itt K a) [it] it (λi h=>h.IsTupleIter it a i) where
 mem:=by simp
 obj:=λi h st b hb=>by
  have e:b=it:=by simpa using hb
  subst e;obtain⟨o,e,c,d⟩:=st;exact⟨o,e,λv z=>by rw[d]at z;cases z⟩
 keep:=λi h h' st k=>st.at λo e=>k it (by simp) o e
 item:=by
  intro X hP hw hK hc i pins s σ H E I hf st hg;subst hP hw hK;obtain⟨xs,x,hq,hx⟩:=hg;obtain⟨its,rv,p,hz⟩:=I.tuple hq;obtain⟨u,hu,ru⟩:=rv.get hx;obtain⟨f0,f1,f2,f3,f4,f5⟩:=hf it (by simp);refine wpAny_pyNext_tuple_item st (show s.heap.IsTuple a its.toArray from p) (x:=u) (by simpa using hu) λh' st' sb=>?_;have I1:Inv X pins σ H {s with heap:=h'}:=I.turned (t':=s.toks) (λb o hb e=>(sb.2 b hb).trans e) f0 f1 f3 f4 f5
  obtain⟨o,e,c,d⟩:=id st';exact⟨u,rfl,md (s:={s with heap:=h'}) e c d (by decide) ⟨x,H,I1,ru,⟨rfl,λys hy=>by rw[I.tuple_inj hy hq];exact hx⟩,st',λb hb=>(hf b hb).1⟩⟩
 done:=by
  intro X hP hw hK hc i pins s σ H E I hf st hg;subst hP hw hK;obtain⟨xs,hq,hx⟩:=hg;obtain⟨its,rv,p,hz⟩:=I.tuple hq;obtain⟨f0,f1,f2,f3,f4,f5⟩:=hf it (by simp);have hl:=rv.length;exact wpAny_pyNext_tuple_end (I.ok.hd hc) st (show s.heap.IsTuple a its.toArray from p) (by simp;omega) λh' eb=>⟨rfl,I.turned (t':=s.toks) (λb o hb e=>eb b o hb e) f0 f1 f3 f4 f5⟩
 self:=λ_ _ _ _ _ st h=>wpAny_pyIter_tupleiter st h
theorem nY{P:Program}{w:World}{K:PySem.W.Frag}{tg:Expr}(it:Addr)(lo:Int)(n:Nat):Turn P w K tg (Itr lo n) [it] it (λi h=>IsRangeIter h it (lo+(i:Nat)*1) ((n:Int)-(i:Nat)) 1) where
 mem:=by simp
 obj:=λi h st b hb=>by
  have e:b=it:=by simpa using hb
  subst e;exact⟨_,st,λv z=>by
   have z':Data.fields _=Data.cell v:=z;cases z'⟩
 keep:=λi h h' st k=>k it (by simp) _ st
 item:=by
  intro X hP hw hK hc i pins s σ H E I hf st hg;subst hP hw hK;obtain⟨f0,f1,f2,f3,f4,f5⟩:=hf it (by simp);have W:=Walks.range (prog:=X.prog) (w:=X.w) (I.ok.hd hc) it lo 1 n;refine W.item i s _ _ hg st λv h' tk hv st' kk=>?_;obtain⟨t,rfl⟩:=hv;have I1:Inv X pins σ H {s with heap:=h',toks:=tk}:=I.turned (λb o hb e=>kk b o (by simpa using hb) e) f0 f1 f3 f4 f5
  refine⟨_,rfl,md (s:={s with heap:=h',toks:=tk}) (n:="range_iterator") st' rfl rfl (by decide) ⟨.int (lo+i),H,I1,⟨t,?_⟩,⟨rfl,rfl⟩,st',λb hb=>(hf b hb).1⟩⟩;rw[Int.mul_one]
 done:=by
  intro X hP hw hK hc i pins s σ H E I hf st hg;subst hP hw hK;obtain⟨f0,f1,f2,f3,f4,f5⟩:=hf it (by simp);exact wpAny_pyNext_range_end (I.ok.hd hc) st (by have:n≤i:=hg;omega) λh' eb=>⟨rfl,I.turned (t':=s.toks) (λb o hb e=>eb b o hb e) f0 f1 f3 f4 f5⟩
 self:=λ_ _ _ _ _ st h=>wpAny_pyIter_rangeiter st h
section
variable{X:Cx}{tg:Expr}
def yr(K:PySem.W.Frag)(tl:TE):TI:=λσ H R=>tl σ H λx H1=>∃a,x=.ref a∧(∃xs,SqL K H1 a xs)∧R (Itl K a) H1
def zw(K:PySem.W.Frag)(tl:TE):TI:=λσ H R=>tl σ H λx H1=>∃a,x=.ref a∧(∃xs,SqT K H1 a xs)∧R (Itt K a) H1
theorem gk{l:Expr}{tl:TE}(hl:PE X l tl):PI X tg l (yr X.K tl):=by
 intro pins s σ H R I h;refine thn (hl pins s σ H _ I h) λv s1 hpt=>?_;obtain⟨x,H1,I1,r1,q1⟩:=hpt;obtain⟨a,e,⟨xs,hq⟩,q⟩:=q1;subst e;cases r1;obtain⟨its,rv,p,hz⟩:=I1.list hq;refine wpAny_pyIter_list p.isList ?_;refine⟨s1.heap.objs.size,[s1.heap.objs.size],_,_,H1,rfl,I1.kept (t':=s1.toks) λb o e=>get?_push_of_some _ e,qM a _,⟨_,get?_push_size _ rfl,rfl,rfl⟩,λb hb=>?_,q⟩;have e:b=s1.heap.objs.size:=by simpa using hb
 subst e;exact I1.fpOk (le_refl _) (I1.hok.fresh (le_refl _))
theorem eO{l:Expr}{tl:TE}(hl:PE X l tl):PI X tg l (zw X.K tl):=by
 intro pins s σ H R I h;refine thn (hl pins s σ H _ I h) λv s1 hpt=>?_;obtain⟨x,H1,I1,r1,q1⟩:=hpt;obtain⟨a,e,⟨xs,hq⟩,q⟩:=q1;subst e;cases r1;obtain⟨its,rv,p,hz⟩:=I1.tuple hq;refine wpAny_pyIter_tuple (show s1.heap.IsTuple a its.toArray from p) ?_;refine⟨s1.heap.objs.size,[s1.heap.objs.size],_,_,H1,rfl,I1.kept (t':=s1.toks) λb o e=>get?_push_of_some _ e,nX a _,⟨_,get?_push_size _ rfl,rfl,rfl⟩,λb hb=>?_,q⟩;have e:b=s1.heap.objs.size:=by simpa using hb
 subst e;exact I1.fpOk (le_refl _) (I1.hok.fresh (le_refl _))
theorem sg{pins:List (Addr×Obj)}{σ:St}{H:Hp}{s:Shared}{R:It→Hp→Prop}{E:Value→Shared→Prop}{lo hi:Int}{t u v:Tok}{tk:Nat}(I:Inv X pins σ H s)(h1:-(2 ^ 62)≤lo)(h2:lo<2 ^ 62)(h3:-(2 ^ 62)≤hi)(h4:hi<2 ^ 62)(q:R (Itr lo (hi-lo).toNat) H):wpAny (model X.prog X.w) X.A (pyIter (.ref s.heap.objs.size)) (PIE X pins σ tg R) E {s with heap:=s.heap.push {cls:=.type "range",data:=.fields #[.int lo t,.int hi u,.int 1 v]},toks:=tk}:=by
 refine wpAny_pyIter_range (IsRange.new ..) (small_one h1 h2 h3 h4) ?_;have I1:Inv X pins σ H {s with heap:=s.heap.push {cls:=.type "range",data:=.fields #[.int lo t,.int hi u,.int 1 v]},toks:=tk}:=I.kept λb o e=>get?_push_of_some _ e
 refine⟨(s.heap.push {cls:=.type "range",data:=.fields #[.int lo t,.int hi u,.int 1 v]}).objs.size,[(s.heap.push {cls:=.type "range",data:=.fields #[.int lo t,.int hi u,.int 1 v]}).objs.size],_,_,H,rfl,
  I1.kept (t':=tk) λb o e=>get?_push_of_some _ e,nY _ lo (hi-lo).toNat,?_,λb hb=>?_,q⟩
 ·have e1:lo+((0:Nat):Int)*1=lo:=by simp
  have e2:(((hi-lo).toNat:Nat):Int)-((0:Nat):Int)=Builtin.Range.rangeSize lo hi 1:=by rw[rangeSize_one];split<;>omega
  show IsRangeIter _ _ (lo+((0:Nat):Int)*1) ((((hi-lo).toNat:Nat):Int)-((0:Nat):Int)) 1;rw[e1,e2];exact get?_push_size _ rfl
 ·have e:b=(s.heap.push {cls:=.type "range",data:=.fields #[.int lo t,.int hi u,.int 1 v]}).objs.size:=by simpa using hb
  subst e;exact I1.fpOk (le_refl _) (I1.hok.fresh (le_refl _))
def yt(ta:TA):TI:=λσ H R=>ta σ H λvs H1=>∃j:Int,vs=[.int j]∧-(2 ^ 62)≤j∧j<2 ^ 62∧R (Itr 0 j.toNat) H1
theorem ee{a:Expr}{ta:TA}{p pos:Pos}(hg:Gl X "range")(hm:X.mg "range"=none)(ha:PA X [a] ta)(hs:starEach [a] X.env=[(false,eval a X.env)]:=by rfl):PI X tg (.Call (.Name "range" p) [a] [] pos) (yt ta):=by
 intro pins s σ H R I h;refine Call_ (jh I hg hm boot_range (PyProof.Rows.callWith_type1 (thn (ha pos pins s σ H _ I h) λus s1 ⟨vs,H1,I1,r1,q1⟩=>?_) hs rfl));obtain⟨j,e,q1,q2,q⟩:=q1;subst e;cases r1 with
 |cons r rr =>
  cases rr;obtain⟨t,rfl⟩:=r;exact call_range_1 (sg I1 (by omega) (by omega) q1 q2 (by simpa using q))
def zx(wi:TI)(g:TG)(tb:TS):TS:=λD σ H=>wi σ H λJ H1=>∃W:Nat→Nat→St→Hp→Prop,(∃m,W 0 m σ H1)∧∀i m σ H,W i m σ H →
 (J.stop i H∧D.nx σ H)∨(J.go i H∧∃N:St→Hp→Prop,(∀σ' H',N σ' H'→∃m',m'<m∧W (i+1) m' σ' H')∧∀x H',J.yld i H x H'→g x σ H' λσ2 H2=>tb {D with nx:=N,ct:=N,bk:=D.nx} σ2 H2)
def lw(fp:List Addr)(h:Heap):List (Addr×Obj):=fp.filterMap λb=>(h.get? b).map λo=>(b,o)
theorem bH{fp:List Addr}{h:Heap}{b:Addr}{o:Obj}(hb:b∈fp)(e:h.get? b=some o):(b,o)∈lw fp h:=List.mem_filterMap.mpr ⟨b,hb,by rw[e];rfl⟩
theorem qN{fp:List Addr}{h:Heap}{p:Addr×Obj}(hp:p∈lw fp h):p.1∈fp∧h.get? p.1=some p.2:=by
 obtain⟨b,hb,e⟩:=List.mem_filterMap.mp hp;cases q:h.get? b with
 |none=>rw[q]at e;cases e
 |some o =>
  rw[q]at e;have e':(b,o)=p:=Option.some.inj e;subst e';exact⟨hb,q⟩
theorem Inv.pinned{pins:List (Addr×Obj)}{σ:St}{H:Hp}{s:Shared}{fp:List Addr}(I:Inv X pins σ H s)(hf:∀b∈fp,gE X pins H b)(ho:∀b∈fp,∃o,s.heap.get? b=some o∧∀v,o.data≠.cell v):Inv X (pins++lw fp s.heap) σ H s :=
 I.pins_of λp hp=>(mem_append.mp hp).elim (λz=>I.pin p (mem_append_right _ z)) λz=>by
  obtain⟨hb,e⟩:=qN z;obtain⟨f0,f1,f2,_⟩:=hf p.1 hb;obtain⟨o,e',d⟩:=ho p.1 hb;rw[e]at e';cases e';exact⟨e,f0,f1,f2,d⟩
theorem Inv.unpinned{pins pl:List (Addr×Obj)}{σ:St}{H:Hp}{s:Shared}(I:Inv X (pins++pl) σ H s):Inv X pins σ H s:=I.pins_of λp hp=>I.pin p (mem_append_right _ (mem_append_left _ hp))
theorem eP{iter:Expr}{body:List Stmt}{wi:TI}{g:TG}{tb:TS}{pos:Pos}(hp:PassesOwn (model X.prog X.w) X.A X.env X.xe)(hc:X.calm=true)(hi:PI X tg iter wi)(hg:PG X tg g)(hb:PSs X body tb)(hs:∀x,foldedSetIterable iter X.env x=pure x:=by intro _;rfl):PS X (.For tg iter body [] pos) (zx wi g tb):=by
 intro pins s σ H D I h;refine wpAny_For (thn (hi pins s σ H _ I h) λv s1 h1=>thn h1 λitv s2 h2=>?_) hs;obtain⟨it,fp,tn,J,H2,e,I2,T,st2,f2,W,⟨m0,w0⟩,turn⟩:=h2;subst e;have stat:∀{H':Hp},(∀b∈fp,H' b=none)→∀b∈fp,gE X pins H' b:=λhn b hb=>⟨hn b hb,(f2 b hb).2⟩;refine codeAny_forLoop_any (λn s'=>∃i σ' H',Inv X pins σ' H' s'∧tn i s'.heap∧(∀b∈fp,H' b=none)∧W i n σ' H') ?_ m0 ⟨0,σ,H2,I2,st2,λb hb=>(f2 b hb).1,w0⟩;rintro n s3 ⟨i,σ3,H3,I3,st3,fr3,w3⟩;rcases turn i n σ3 H3 w3 with⟨stop,qn⟩|⟨go,N,hN,step⟩
 ·refine wpAny_passesOwn hp (thn (T.done X rfl rfl rfl hc i pins s3 σ3 H3 X.xe I3 (stat fr3) st3 stop) λr s4 hpt=>?_);obtain⟨hr,I4⟩:=hpt;subst hr;exact wpAny_execs_nil ⟨σ3,H3,I4,qn⟩
 ·refine wpAny_passesOwn hp (thn (T.item X rfl rfl rfl hc i pins s3 σ3 H3 X.xe I3 (stat fr3) st3 go) λr s4 hpt=>?_);obtain⟨u,hr,h4⟩:=hpt;subst hr;refine wpAny_passesOwn hp (thn h4 λ_ s5 hpt=>?_);obtain⟨x,H5,I5,r5,y5,st5,fr5⟩:=hpt;have I5':=I5.pinned (stat fr5) (T.obj _ _ st5);refine wpAny_passesOwn hp (thn (hg _ s5 σ3 H5 x u _ I5' r5 (step x H5 y5)) λ_ s6 hpt=>?_);obtain⟨σ6,H6,I6,q6⟩:=hpt;refine wpAny_passesOwn hp (thn (hb _ s6 σ6 H6 _ I6 q6) λf s7 q7=>?_);have again:∀{σ7:St}{H7:Hp},Inv X (pins++lw fp s5.heap) σ7 H7 s7→N σ7 H7→∃m,m<n∧∃i σ' H',Inv X pins σ' H' s7∧tn i s7.heap∧(∀b∈fp,H' b=none)∧W i m σ' H':=λ{σ7 H7} I7 n7=>by
   obtain⟨m',hm,w7⟩:=hN σ7 H7 n7;refine⟨m',hm,i+1,σ7,H7,I7.unpinned,T.keep _ _ _ st5 λb hb o e=>(I7.pin (b,o) (mem_append_right _ (mem_append_right _ (bH hb e)))).1,λb hb=>?_,w7⟩;obtain⟨o,e,d⟩:=T.obj _ _ st5 b hb;exact(I7.pin (b,o) (mem_append_right _ (mem_append_right _ (bH hb e)))).2.1
  cases f with
  |next=>obtain⟨σ7,H7,I7,n7⟩:=q7;exact again I7 n7
  |cont=>obtain⟨σ7,H7,I7,n7⟩:=q7;exact again I7 n7
  |brk=>obtain⟨σ7,H7,I7,q7⟩:=q7;exact⟨σ7,H7,I7.unpinned,q7⟩
  |ret v=>obtain⟨x7,σ7,H7,I7,r7,q7⟩:=q7;exact⟨x7,σ7,H7,I7.unpinned,r7,q7⟩
end
theorem ji{K:PySem.W.Frag}{a:Addr}{xs:List V}{g:TG}{tb:TS}{D:Ends}{σ:St}{H:Hp}(Pv:Nat→St→Hp→Prop)(h0:Pv 0 σ H)(hl:∀i σ H,i≤xs.length→Pv i σ H→SqL K H a xs)(hs:∀i x σ H,xs[i]?=some x→Pv i σ H→g x σ H λσ2 H2=>tb {D with nx:=Pv (i+1),ct:=Pv (i+1),bk:=D.nx} σ2 H2)(hd:∀σ H,Pv xs.length σ H→D.nx σ H):
  ∃W:Nat→Nat→St→Hp→Prop,(∃m,W 0 m σ H)∧∀i m σ H,W i m σ H →
   ((Itl K a).stop i H∧D.nx σ H)∨((Itl K a).go i H∧∃N:St→Hp→Prop,(∀σ' H',N σ' H'→∃m',m'<m∧W (i+1) m' σ' H')∧∀x H',(Itl K a).yld i H x H'→g x σ H' λσ2 H2=>tb {D with nx:=N,ct:=N,bk:=D.nx} σ2 H2):=by
 refine⟨λi m σ H=>m=xs.length-i∧i≤xs.length∧Pv i σ H,⟨xs.length,by simp,zero_le _,h0⟩,?_⟩;rintro i m σ H ⟨rfl,hi,p⟩;have q:=hl i σ H hi p
 by_cases hlt:i<xs.length
 ·refine .inr ⟨⟨xs,xs[i],q,by simp[hlt]⟩,Pv (i+1),λσ' H' p'=>⟨xs.length-(i+1),by omega,rfl,hlt,p'⟩,λx H' y=>?_⟩;obtain⟨e,y⟩:=y;subst e;exact hs i x σ _ (y xs q) p
 ·have e:i=xs.length:=by omega
  subst e;exact .inl ⟨⟨xs,q,le_refl _⟩,hd σ H p⟩
theorem pG{K:PySem.W.Frag}{a:Addr}{xs:List V}{g:TG}{tb:TS}{D:Ends}{σ:St}{H:Hp}(Pv:Nat→St→Hp→Prop)(h0:Pv 0 σ H)(hl:∀i σ H,i≤xs.length→Pv i σ H→SqT K H a xs)(hs:∀i x σ H,xs[i]?=some x→Pv i σ H→g x σ H λσ2 H2=>tb {D with nx:=Pv (i+1),ct:=Pv (i+1),bk:=D.nx} σ2 H2)(hd:∀σ H,Pv xs.length σ H→D.nx σ H):
  ∃W:Nat→Nat→St→Hp→Prop,(∃m,W 0 m σ H)∧∀i m σ H,W i m σ H →
   ((Itt K a).stop i H∧D.nx σ H)∨((Itt K a).go i H∧∃N:St→Hp→Prop,(∀σ' H',N σ' H'→∃m',m'<m∧W (i+1) m' σ' H')∧∀x H',(Itt K a).yld i H x H'→g x σ H' λσ2 H2=>tb {D with nx:=N,ct:=N,bk:=D.nx} σ2 H2):=by
 refine⟨λi m σ H=>m=xs.length-i∧i≤xs.length∧Pv i σ H,⟨xs.length,by simp,zero_le _,h0⟩,?_⟩;rintro i m σ H ⟨rfl,hi,p⟩;have q:=hl i σ H hi p
 by_cases hlt:i<xs.length
 ·refine .inr ⟨⟨xs,xs[i],q,by simp[hlt]⟩,Pv (i+1),λσ' H' p'=>⟨xs.length-(i+1),by omega,rfl,hlt,p'⟩,λx H' y=>?_⟩;obtain⟨e,y⟩:=y;subst e;exact hs i x σ _ (y xs q) p
 ·have e:i=xs.length:=by omega
  subst e;exact .inl ⟨⟨xs,q,le_refl _⟩,hd σ H p⟩
theorem eu{lo:Int}{n:Nat}{g:TG}{tb:TS}{D:Ends}{σ:St}{H:Hp}(Pv:Nat→St→Hp→Prop)(h0:Pv 0 σ H)(hs:∀i σ H,i<n→Pv i σ H→g (.int (lo+i)) σ H λσ2 H2=>tb {D with nx:=Pv (i+1),ct:=Pv (i+1),bk:=D.nx} σ2 H2)(hd:∀σ H,Pv n σ H→D.nx σ H):
  ∃W:Nat→Nat→St→Hp→Prop,(∃m,W 0 m σ H)∧∀i m σ H,W i m σ H →
   ((Itr lo n).stop i H∧D.nx σ H)∨((Itr lo n).go i H∧∃N:St→Hp→Prop,(∀σ' H',N σ' H'→∃m',m'<m∧W (i+1) m' σ' H')∧∀x H',(Itr lo n).yld i H x H'→g x σ H' λσ2 H2=>tb {D with nx:=N,ct:=N,bk:=D.nx} σ2 H2):=by
 refine⟨λi m σ H=>m=n-i∧i≤n∧Pv i σ H,⟨n,by simp,zero_le _,h0⟩,?_⟩;rintro i m σ H ⟨rfl,hi,p⟩
 by_cases hlt:i<n
 ·refine .inr ⟨hlt,Pv (i+1),λσ' H' p'=>⟨n-(i+1),by omega,rfl,hlt,p'⟩,λx H' y=>?_⟩;obtain⟨e,y⟩:=y;subst e y;exact hs i σ _ hlt p
 ·have e:i=n:=by omega
  subst e;exact .inl ⟨le_refl _,hd σ H p⟩
theorem mf{c:TT}{tb:TS}{D:Ends}{σ:St}{H:Hp}(Pv:St→Hp→Prop)(μ:St→Hp→Nat)(h0:Pv σ H)(hs:∀σ H,Pv σ H→c σ H λb H1=>if b=true then tb {D with nx:=λσ' H'=>Pv σ' H'∧μ σ' H'<μ σ H,ct:=λσ' H'=>Pv σ' H'∧μ σ' H'<μ σ H,bk:=D.nx} σ H1 else D.nx σ H1)(mono:∀σ H Q Q',(∀b H1,Q b H1→Q' b H1)→c σ H Q→c σ H Q'):sf c tb D σ H:=by
 refine⟨λm σ H=>m=μ σ H∧Pv σ H,⟨_,rfl,h0⟩,?_⟩;rintro m σ H ⟨rfl,p⟩;refine mono σ H _ _ (λb H1 q=>?_) (hs σ H p);cases b with
 |true=>exact⟨_,λσ' H' ⟨p',l⟩=>⟨_,l,rfl,p'⟩,q⟩
 |false=>exact q
abbrev R2:=V→V→Hp→VK→Prop
def OpR(X:Cx)(f:Value→Value→Sem Value)(r:R2):Prop :=
 ∀(pins:List (Addr×Obj))(s:Shared)(σ:St)(H:Hp)(x y:V)(v u:Value)(Q:VK),Inv X pins σ H s→aO x v→aO y u→r x y H Q →
  wpAny (model X.prog X.w) X.A (f v u) (EP X pins σ Q) X.xe s
def UnR(X:Cx)(f:Value→Sem Value)(r:V→Hp→VK→Prop):Prop :=
 ∀(pins:List (Addr×Obj))(s:Shared)(σ:St)(H:Hp)(x:V)(v:Value)(Q:VK),Inv X pins σ H s→aO x v→r x H Q →
  wpAny (model X.prog X.w) X.A (f v) (EP X pins σ Q) X.xe s
def cx(X:Cx)(f:Value)(r:List V→Hp→VK→Prop):Prop :=
 ∀(pins:List (Addr×Obj))(s:Shared)(σ:St)(H:Hp)(xs:List V)(us:List Value)(Q:VK),Inv X pins σ H s→aH xs us→r xs H Q →
  wpAny (model X.prog X.w) X.A (call f us) (EP X pins σ Q) X.xe s
def zy(X:Cx)(r:V→Hp→(Bool→Hp→Prop)→Prop):Prop :=
 ∀(pins:List (Addr×Obj))(s:Shared)(σ:St)(H:Hp)(x:V)(v:Value)(Q:Bool→Hp→Prop),Inv X pins σ H s→aO x v→r x H Q →
  wpAny (model X.prog X.w) X.A (truthy v) (TP X pins σ Q) X.xe s
def tOp(r:R2)(ta tb:TE):TE:=λσ H Q=>ta σ H λx H1=>tb σ H1 λy H2=>r x y H2 Q
def tUn(r:V→Hp→VK→Prop)(ta:TE):TE:=λσ H Q=>ta σ H λx H1=>r x H1 Q
def rI(C:Int→Int→Prop)(g:Int→Int→V):R2:=λx y H Q=>∃i j,x=.int i∧y=.int j∧C i j∧Q (g i j) H
def rI0(g:Int→Int→V):R2:=λx y H Q=>∃i j,x=.int i∧y=.int j∧Q (g i j) H
def rU(g:Int→V):V→Hp→VK→Prop:=λx H Q=>∃i,x=.int i∧Q (g i) H
section
variable{X:Cx}{a b c:Expr}{ta tb tc:TE}{pos:Pos}
theorem wF(ha:PE X a ta)(hb:PE X b tb){pins:List (Addr×Obj)}{s:Shared}{σ:St}{H:Hp}{R:V→V→Hp→Prop}(I:Inv X pins σ H s)(h:ta σ H λx H1=>tb σ H1 λy H2=>R x y H2){Q:Value→Shared→Prop}{f:Value→Value→Sem Value}(hf:∀v u s2 x y H2,Inv X pins σ H2 s2→aO x v→aO y u→R x y H2→wpAny (model X.prog X.w) X.A (f v u) Q X.xe s2):
  wpAny (model X.prog X.w) X.A (eval a X.env) (λv s₁=>wpAny (model X.prog X.w) X.A (eval b X.env) (λu s₂=>wpAny (model X.prog X.w) X.A (f v u) Q X.xe s₂) X.xe s₁) X.xe s:=by
 refine thn (ha pins s σ H _ I h) λv s1 hpt=>?_;obtain⟨x,H1,I1,r1,q1⟩:=hpt;refine thn (hb pins s1 σ H1 _ I1 q1) λu s2 hpt=>?_;obtain⟨y,H2,I2,r2,q2⟩:=hpt;exact hf v u s2 x y H2 I2 r1 r2 q2
theorem aI{op:Operator}{r:R2}(ho:OpR X (binaryOp op) r)(ha:PE X a ta)(hb:PE X b tb):PE X (.BinOp a op b pos) (tOp r ta tb):=by
 intro pins s σ H Q I h;exact wpAny_BinOp (wF ha hb I h λv u s2 x y H2 I2 rx ry q=>ho pins s2 σ H2 x y v u Q I2 rx ry q)
theorem mh{op:UnaryOp}{r:V→Hp→VK→Prop}(ho:UnR X (unaryOp op) r)(ha:PE X a ta):PE X (.UnaryOp op a pos) (tUn r ta):=by
 intro pins s σ H Q I h;exact UnaryOp_ (thn (ha pins s σ H _ I h) λv s1 ⟨x,H1,I1,r1,q1⟩=>ho pins s1 σ H1 x v Q I1 r1 q1)
theorem opI{f:Value→Value→Sem Value}{C:Int→Int→Prop}{g:Int→Int→Int}(rule:∀(i j:Int) (t u:Tok) (s:Shared) (Q:Value→Shared→Prop) (E:Value→Shared→Prop),C i j→Q (.int (g i j) s.toks) {s with toks:=s.toks+1}→wpAny (model X.prog X.w) X.A (f (.int i t) (.int j u)) Q E s):
  OpR X f (rI C λi j=>.int (g i j)):=by
 intro pins s σ H x y v u Q I rx ry h;obtain⟨i,j,rfl,rfl,hc,q⟩:=h;obtain⟨t,rfl⟩:=rx;obtain⟨t',rfl⟩:=ry;exact rule i j t t' s _ _ hc ⟨.int (g i j),H,I.tok _,⟨_,rfl⟩,q⟩
theorem yu{f:Value→Value→Sem Value}{g:Int→Int→Int}(rule:∀(i j:Int) (t u:Tok) (s:Shared) (Q:Value→Shared→Prop) (E:Value→Shared→Prop),Q (.int (g i j) s.toks) {s with toks:=s.toks+1}→wpAny (model X.prog X.w) X.A (f (.int i t) (.int j u)) Q E s):
  OpR X f (rI0 λi j=>.int (g i j)):=by
 intro pins s σ H x y v u Q I rx ry h;obtain⟨i,j,rfl,rfl,q⟩:=h;obtain⟨t,rfl⟩:=rx;obtain⟨t',rfl⟩:=ry;exact rule i j t t' s _ _ ⟨.int (g i j),H,I.tok _,⟨_,rfl⟩,q⟩
theorem wG{f:Value→Value→Sem Value}{g:Int→Int→Bool}(rule:∀(i j:Int) (t u:Tok) (s:Shared) (Q:Value→Shared→Prop) (E:Value→Shared→Prop),Q (.bool (g i j)) s→wpAny (model X.prog X.w) X.A (f (.int i t) (.int j u)) Q E s):
  OpR X f (rI0 λi j=>.bl (g i j)):=by
 intro pins s σ H x y v u Q I rx ry h;obtain⟨i,j,rfl,rfl,q⟩:=h;obtain⟨t,rfl⟩:=rx;obtain⟨t',rfl⟩:=ry;exact rule i j t t' s _ _ ⟨.bl (g i j),H,I,rfl,q⟩
def zz(i j:Int):Prop:=0<j∧j<1073741824
def wH(i j:Int):Prop:=(-(2 ^ 64)<i∧i<2 ^ 64)∨(-(2 ^ 64)<j∧j<2 ^ 64)
theorem wH.ok{i j:Int}(h:wH i j):IntMulOk i j:=by
 rcases h with⟨h1,h2⟩|⟨h1,h2⟩
 ·exact .of_left (intBits_le_64 h1 h2)
 ·exact .of_right (intBits_le_64 h1 h2)
theorem bb:OpR X (binaryOp .Add) (rI0 λi j=>.int (i+j)):=yu λ_ _ _ _ _ _ _ q=>add_int q
theorem sh:OpR X (binaryOp .Sub) (rI0 λi j=>.int (i-j)):=yu λ_ _ _ _ _ _ _ q=>sub_int q
theorem cY:OpR X (binaryOp .Mult) (rI wH λi j=>.int (i*j)):=opI λ_ _ _ _ _ _ _ hc q=>mul_int q hc.ok
theorem pH:OpR X (binaryOp .FloorDiv) (rI zz λi j=>.int (i / j)):=opI λi j _ _ _ _ _ hc q=>by
 have h1:(0:Int)<j:=hc.1;have h2:j<1073741824:=hc.2;exact floordiv_int (by omega) (by rw[Int.fdiv_eq_ediv_of_nonneg i (by omega)];exact q) (.inl (PyProof.noPylong_small (by omega)))
theorem lx:OpR X (binaryOp .Mod) (rI (λ_ j=>0<j) λi j=>.int (i % j)):=opI λi j _ _ _ _ _ hc q=>by
 have h1:(0:Int)<j:=hc;exact mod_int' (by omega) (by rw[Int.fmod_eq_emod_of_nonneg i (by omega)];exact q)
theorem unI{f:Value→Sem Value}{g:Int→Int}(rule:∀(i:Int) (t:Tok) (s:Shared) (Q:Value→Shared→Prop) (E:Value→Shared→Prop),Q (.int (g i) s.toks) {s with toks:=s.toks+1}→wpAny (model X.prog X.w) X.A (f (.int i t)) Q E s):
  UnR X f (rU λi=>.int (g i)):=by
 intro pins s σ H x v Q I rx h;obtain⟨i,rfl,q⟩:=h;obtain⟨t,rfl⟩:=rx;exact rule i t s _ _ ⟨.int (g i),H,I.tok _,⟨_,rfl⟩,q⟩
theorem jj:UnR X (unaryOp .USub) (rU λi=>.int (-i)):=unI λ_ _ _ _ _ q=>neg_int q
end
def wI:V→V→Bool
 |.non,.non=>true | .non,.int _=>true | .int _,.non=>true | .non,.bl _=>true | .bl _,.non=>true | .non,.str _=>true | .str _,.non=>true
 |.int _,.int _=>true | .bl _,.bl _=>true | .str _,.str _=>true | .byt _,.byt _=>true
 |.int _,.str _=>true | .str _,.int _=>true | .bl _,.str _=>true | .str _,.bl _=>true
 |_,_=>false
def rEq:R2:=λx y H Q=>wI x y=true∧Q (.bl (decide (x=y))) H
def rNe:R2:=λx y H Q=>wI x y=true∧Q (.bl (!decide (x=y))) H
theorem pI{i j:Int}:decide (V.int i=V.int j)=(i==j):=by
 rw[Bool.eq_iff_iff];simp
theorem si{i j:Bool}:decide (V.bl i=V.bl j)=(i==j):=by
 rw[Bool.eq_iff_iff];simp
theorem pJ{i j:Str}:decide (V.str i=V.str j)=(i==j):=by
 rw[Bool.eq_iff_iff];simp
theorem pK{i j:Array UInt8}:decide (V.byt i=V.byt j)=(i.toList==j.toList):=by
 rw[Bool.eq_iff_iff];cases i;cases j;simp
section
variable{X:Cx}{a b c:Expr}{ta tb tc:TE}{pos:Pos}
theorem aU{pins:List (Addr×Obj)}{σ:St}{H:Hp}{s:Shared}{Q:VK}{k k':Bool}(I:Inv X pins σ H s)(q:Q (.bl k) H)(e:k=k'):EP X pins σ Q (.bool k') s:=by
 subst e;exact⟨.bl k,H,I,rfl,q⟩
theorem cD:OpR X (compareOp .Eq) rEq:=by
 intro pins s σ H x y v u Q I rx ry h;obtain⟨hs,q⟩:=h;cases x with
 |non =>
  cases rx;cases y with
  |non=>cases ry;exact PySem.EqNone.eq_none_none (aU I q (by simp))
  |bl j=>cases ry;exact PySem.EqNone.eq_none_bool (aU I q (by simp))
  |int j=>obtain⟨t',rfl⟩:=ry;exact PySem.EqNone.eq_none_int (aU I q (by simp))
  |str j=>obtain⟨t',rfl⟩:=ry;exact PySem.EqNone.eq_none_str (aU I q (by simp))
  |_=>exact absurd (show false=true from hs) Bool.false_ne_true
 |bl i =>
  cases rx;cases y with
  |non=>cases ry;exact PySem.EqNone.eq_bool_none (aU I q (by simp))
  |bl j=>cases ry;exact eq_bool (aU I q si)
  |str j=>obtain⟨t',rfl⟩:=ry;exact PySem.EqMixed.eq_bool_str (aU I q (by simp))
  |_=>exact absurd (show false=true from hs) Bool.false_ne_true
 |int i =>
  obtain⟨t,rfl⟩:=rx;cases y with
  |non=>cases ry;exact PySem.EqNone.eq_int_none (aU I q (by simp))
  |int j=>obtain⟨t',rfl⟩:=ry;exact eq_int (aU I q pI)
  |str j=>obtain⟨t',rfl⟩:=ry;exact PySem.EqMixed.eq_int_str (aU I q (by simp))
  |_=>exact absurd (show false=true from hs) Bool.false_ne_true
 |str i =>
  obtain⟨t,rfl⟩:=rx;cases y with
  |non=>cases ry;exact PySem.EqNone.eq_str_none (aU I q (by simp))
  |bl j=>cases ry;exact PySem.EqMixed.eq_str_bool (aU I q (by simp))
  |int j=>obtain⟨t',rfl⟩:=ry;exact PySem.EqMixed.eq_str_int (aU I q (by simp))
  |str j=>obtain⟨t',rfl⟩:=ry;exact eq_str (aU I q pJ)
  |_=>exact absurd (show false=true from hs) Bool.false_ne_true
 |byt i =>
  obtain⟨t,rfl⟩:=rx;cases y with
  |byt j=>obtain⟨t',rfl⟩:=ry;exact PySem.W.eq_bytes (aU I q pK)
  |_=>exact absurd (show false=true from hs) Bool.false_ne_true
 |_=>cases y<;>exact absurd (show false=true from hs) Bool.false_ne_true
theorem dH:OpR X (compareOp .NotEq) rNe:=by
 intro pins s σ H x y v u Q I rx ry h;obtain⟨hs,q⟩:=h;cases x with
 |non =>
  cases rx;cases y with
  |non=>cases ry;exact PySem.EqNone.ne_none_none (aU I q (by simp))
  |bl j=>cases ry;exact PySem.EqNone.ne_none_bool (aU I q (by simp))
  |int j=>obtain⟨t',rfl⟩:=ry;exact PySem.EqNone.ne_none_int (aU I q (by simp))
  |str j=>obtain⟨t',rfl⟩:=ry;exact PySem.EqNone.ne_none_str (aU I q (by simp))
  |_=>exact absurd (show false=true from hs) Bool.false_ne_true
 |bl i =>
  cases rx;cases y with
  |non=>cases ry;exact PySem.EqNone.ne_bool_none (aU I q (by simp))
  |bl j=>cases ry;exact ne_bool (aU I q (congrArg not si))
  |str j=>obtain⟨t',rfl⟩:=ry;exact PySem.EqMixed.ne_bool_str (aU I q (by simp))
  |_=>exact absurd (show false=true from hs) Bool.false_ne_true
 |int i =>
  obtain⟨t,rfl⟩:=rx;cases y with
  |non=>cases ry;exact PySem.EqNone.ne_int_none (aU I q (by simp))
  |int j=>obtain⟨t',rfl⟩:=ry;exact ne_int (aU I q (congrArg not pI))
  |str j=>obtain⟨t',rfl⟩:=ry;exact PySem.EqMixed.ne_int_str (aU I q (by simp))
  |_=>exact absurd (show false=true from hs) Bool.false_ne_true
 |str i =>
  obtain⟨t,rfl⟩:=rx;cases y with
  |non=>cases ry;exact PySem.EqNone.ne_str_none (aU I q (by simp))
  |bl j=>cases ry;exact PySem.EqMixed.ne_str_bool (aU I q (by simp))
  |int j=>obtain⟨t',rfl⟩:=ry;exact PySem.EqMixed.ne_str_int (aU I q (by simp))
  |str j=>obtain⟨t',rfl⟩:=ry;exact ne_str (aU I q (congrArg not pJ))
  |_=>exact absurd (show false=true from hs) Bool.false_ne_true
 |byt i =>
  obtain⟨t,rfl⟩:=rx;cases y with
  |byt j=>obtain⟨t',rfl⟩:=ry;exact PySem.W.ne_bytes (aU I q (congrArg not pK))
  |_=>exact absurd (show false=true from hs) Bool.false_ne_true
 |_=>cases y<;>exact absurd (show false=true from hs) Bool.false_ne_true
theorem sj:OpR X (compareOp .Lt) (rI0 λi j=>.bl (decide (i<j))):=wG λ_ _ _ _ _ _ _ q=>lt_int q
theorem vZ:OpR X (compareOp .LtE) (rI0 λi j=>.bl (decide (i≤j))):=wG λ_ _ _ _ _ _ _ q=>le_int q
theorem yv:OpR X (compareOp .Gt) (rI0 λi j=>.bl (decide (j<i))):=wG λ_ _ _ _ _ _ _ q=>gt_int q
theorem qO:OpR X (compareOp .In) (λx y H Q=>∃i j,x=.str i∧y=.str j∧Q (.bl (!(Builtin.Str.occurrences j i 0 j.length 1).isEmpty)) H):=by
 intro pins s σ H x y v u Q I rx ry h;obtain⟨i,j,rfl,rfl,q⟩:=h;obtain⟨t,rfl⟩:=rx;obtain⟨t',rfl⟩:=ry;exact in_str (aU I q rfl)
theorem jk:OpR X (compareOp .Is) (λx y H Q=>y=.non∧Q (.bl (decide (x=.non))) H):=by
 intro pins s σ H x y v u Q I rx ry h;obtain⟨rfl,q⟩:=h;cases ry;refine is_none_gen (aU I q ?_);cases x<;>first
  |(cases rx;rfl)
  |(obtain⟨t,rfl⟩:=rx;rfl)
theorem pL:OpR X (compareOp .IsNot) (λx y H Q=>y=.non∧Q (.bl (!decide (x=.non))) H):=by
 intro pins s σ H x y v u Q I rx ry h;obtain⟨rfl,q⟩:=h;cases ry;refine isnot_none_gen (aU I q ?_);cases x<;>first
  |(cases rx;rfl)
  |(obtain⟨t,rfl⟩:=rx;rfl)
theorem OpR.or{f:Value→Value→Sem Value}{r r':R2}(h:OpR X f r)(h':OpR X f r'):OpR X f (λx y H Q=>r x y H Q∨r' x y H Q):=by
 intro pins s σ H x y v u Q I rx ry q;rcases q with q|q
 ·exact h pins s σ H x y v u Q I rx ry q
 ·exact h' pins s σ H x y v u Q I rx ry q
theorem aD(b:Expr){op:CmpOp}(h:op≠.In:=by decide)(h2:op≠.NotIn:=by decide):behindInMarks op b=false:=by
 have e1:(op==CmpOp.In)=false:=by cases op<;>first|rfl|exact absurd rfl h
 have e2:(op==CmpOp.NotIn)=false:=by cases op<;>first|rfl|exact absurd rfl h2
 cases b<;>simp[behindInMarks,e1,e2]
theorem pN{op:CmpOp}{r:R2}(ho:OpR X (compareOp op) r)(ha:PE X a ta)(hb:PE X b tb)(hm:behindInMarks op b=false):PE X (.Compare a [op] [b] pos) (tOp r ta tb):=by
 intro pins s σ H Q I h;exact wpAny_Compare1 (wF ha hb I h λv u s2 x y H2 I2 rx ry q=>ho pins s2 σ H2 x y v u Q I2 rx ry q) hm
def wa(t:TE):TT:=λσ H Q=>t σ H λx H'=>∃k,x=.bl k∧Q k H'
theorem au{op:CmpOp}{r:R2}(ho:OpR X (compareOp op) r)(ha:PE X a ta)(hb:PE X b tb)(hm:behindInMarks op b=false):PT X (.Compare a [op] [b] pos) (wa (tOp r ta tb)):=by
 intro pins s σ H Q I h;refine wpAny_isTrue_Compare1 (thn (ha pins s σ H _ I h) λv s1 ⟨x,H1,I1,r1,q1⟩=>thn (hb pins s1 σ H1 _ I1 q1) λu s2 ⟨y,H2,I2,r2,q2⟩ =>
  thn (ho pins s2 σ H2 x y v u _ I2 r1 r2 q2) λc s3 ⟨z,H3,I3,r3,k,e,q3⟩=>?_) hm
 subst e;cases r3;exact wpAny_truthy_bool ⟨H3,I3,q3⟩
def wJ(r r':R2)(ta tb tc:TE):TE:=λσ H Q=>ta σ H λx H1=>tb σ H1 λy H2=>r x y H2 λz H3=>∃k,z=.bl k ∧
 (if k=true then tc σ H3 λw' H4=>r' y w' H4 Q else Q (.bl false) H3)
theorem sk{op op':CmpOp}{r r':R2}(ho:OpR X (compareOp op) r)(ho':OpR X (compareOp op') r')(ha:PE X a ta)(hb:PE X b tb)(hc:PE X c tc)(hm:lastMarks [op,op'] [b,c]=false:=by with_unfolding_all rfl):PT X (.Compare a [op,op'] [b,c] pos) (wa (wJ r r' ta tb tc)):=by
 intro pins s σ H Q I h;refine isTrue_chain (thn (ha pins s σ H _ I h) λv s1 ⟨x,H1,I1,r1,q1⟩=>test_link (thn (hb pins s1 σ H1 _ I1 q1) λu s2 ⟨y,H2,I2,r2,q2⟩ =>
  thn (ho pins s2 σ H2 x y v u _ I2 r1 r2 q2) λd s3 ⟨z,H3,I3,r3,k,e,q3⟩=>?_)) hm
 subst e;cases r3;refine wpAny_truthy_bool ?_;cases k with
 |false =>
  obtain⟨k',e',q'⟩:=q3;cases e';exact ite_ff ⟨H3,I3,q'⟩
 |true =>
  refine ite_tt (test_last (thn (hc pins s3 σ H3 _ I3 q3) λw' s4 ⟨z',H4,I4,r4,q4⟩=>thn (ho' pins s4 σ H4 y z' u w' _ I4 r2 r4 q4) λd' s5 hpt=>?_));obtain⟨z2,H5,I5,r5,k2,e2,q5⟩:=hpt;subst e2;cases r5;exact wpAny_truthy_bool ⟨H5,I5,q5⟩
def yw(K:PySem.W.Frag)(x:V)(H:Hp)(k:Bool):Prop :=
 match x with
 |.non=>k=false
 |.bl b=>k=b
 |.int i=>k=(i != 0)
 |.str y=>y.length≤sizeLine∧k=((y.length:Int) != 0)
 |.byt y=>y.size≤sizeLine∧k=((y.size:Int) != 0)
 |.ref p=>(∃xs,SqL K H p xs∧k = !xs.isEmpty)∨(∃xs,SqT K H p xs∧k = !xs.isEmpty)∨∃kvs,H p=some (.dK kvs)∧k = !kvs.isEmpty
 |_=>False
theorem nZ{κ:Type}{kvs:List (κ×V)}{vs:List (κ×Value)}(r:KV kvs vs):(!vs.isEmpty) = !kvs.isEmpty:=by
 cases r<;>rfl
theorem jl{xs:List V}{its:List Value}(r:aH xs its):(!its.toArray.isEmpty) = !xs.isEmpty:=by
 cases r<;>simp
theorem jm:(sizeLine:Nat)<2 ^ 63:=by rw[sizeLine_eq];decide
theorem wK:zy X (λx H Q=>∃k,yw X.K x H k∧Q k H):=by
 intro pins s σ H x v Q I rx h;obtain⟨k,e,q⟩:=h;have hl:=jm;have hs:sizeLine=16777216:=sizeLine_eq;cases x with
 |non =>
  cases rx;have e':k=false:=e;subst e';exact truthy_none ⟨H,I,q⟩
 |bl b =>
  cases rx;have e':k=b:=e;subst e';exact wpAny_truthy_bool ⟨H,I,q⟩
 |int i =>
  obtain⟨t,rfl⟩:=rx;have e':k=(i != 0):=e;subst e';exact PySem.P.truthy_int ⟨H,I,q⟩
 |str y =>
  obtain⟨t,rfl⟩:=rx;obtain⟨hy,e'⟩:y.length≤sizeLine∧k=((y.length:Int) != 0):=e;subst e';exact PySem.P.truthy_str (by omega) ⟨H,I.tok _,q⟩
 |byt y =>
  obtain⟨t,rfl⟩:=rx;obtain⟨hy,e'⟩:y.size≤sizeLine∧k=((y.size:Int) != 0):=e;subst e';exact PySem.W.truthy_bytes (by omega) ⟨H,I.tok _,q⟩
 |ref p =>
  cases rx;have e':(∃xs,SqL X.K H p xs∧k = !xs.isEmpty)∨(∃xs,SqT X.K H p xs∧k = !xs.isEmpty)∨∃kvs,H p=some (.dK kvs)∧k = !kvs.isEmpty:=e;rcases e' with⟨xs,hx,e'⟩|⟨xs,hx,e'⟩|⟨kvs,hx,e'⟩
  ·subst e';obtain⟨its,r,pl,hz⟩:=I.list hx;have hlen:=r.length;exact wpAny_truthy_list pl.isList (by simp only[size_toArray];omega) ⟨H,I.tok _,by rw[jl r];exact q⟩
  ·subst e';obtain⟨its,r,pl,hz⟩:=I.tuple hx;have hlen:=r.length;exact truthy_tuple pl (by simp only[size_toArray];omega) ⟨H,I.tok _,by rw[jl r];exact q⟩
  ·subst e';obtain⟨hz,hS,vs,r,m⟩:kvs.length≤sizeLine∧(p==sysModules)=false∧∃vs,KV kvs vs∧s.heap.DictOf (aR X.prog X.w) p vs:=I.hok p _ hx;have hlen:kvs.length=vs.length:=Paired.length r;exact wpAny_truthy_dict hS m (by omega) ⟨H,I.tok _,by rw[nZ r];exact q⟩
 |_=>exact(show False from e).elim
theorem ml(ha:PE X a ta)(he:∀whole,isTrue a X.env whole=(do let v ← whole;standAt a.pos;holding [v] (truthy v))):
  PT X a (λσ H Q=>ta σ H λx H'=>∃k,yw X.K x H' k∧Q k H'):=by
 intro pins s σ H Q I h;exact isTrue_plain (thn (ha pins s σ H _ I h) λv s1 ⟨x,H1,I1,r1,q1⟩=>wK pins s1 σ H1 x v Q I1 r1 q1) (he _)
theorem de{x:V}{us:List Value}(r:aH [x] us):∃u,us=[u]∧aO x u:=by
 cases r with
 |cons r1 r2=>cases r2;exact⟨_,rfl,r1⟩
theorem sm{x y:V}{us:List Value}(r:aH [x,y] us):∃u w',us=[u,w']∧aO x u∧aO y w':=by
 cases r with
 |cons r1 r2 =>
  cases r2 with
  |cons r3 r4=>cases r4;exact⟨_,_,rfl,r1,r3⟩
theorem ko:cx X (.type "int") (λxs H Q=>(∃i,xs=[.int i]∧Q (.int i) H)∨∃k,xs=[.bl k]∧Q (.int (if k then 1 else 0)) H):=by
 intro pins s σ H xs us Q I r h;rcases h with⟨i,rfl,q⟩|⟨k,rfl,q⟩
 ·obtain⟨u,rfl,t,rfl⟩:=de r;exact call_int_int ⟨.int i,H,I,⟨_,rfl⟩,q⟩
 ·obtain⟨u,rfl,r1⟩:=de r;cases r1;exact call_int_bool ⟨.int (if k then 1 else 0),H,I.tok _,⟨_,rfl⟩,q⟩
end
structure ObjM(h:Heap)(x dx C:Addr)(mA:Str→Option Value):Prop where
 obj:h.get? x=some (instObj C dx)
 ns:h.Ns1 dx mA
 ne:dx≠x
theorem qP{h:Heap}{dx:Addr}{mA:Str→Option Value}(n:h.Ns1 dx mA):∃od,h.get? dx=some od∧∀name,lookIn name od=some (mA name):=by
 obtain⟨o,es,ep,ho,hd,hk,_,hm⟩:=n;refine⟨o,ho,λname=>?_⟩;have e:=hm name;unfold nsFind findBy at e;rw[←Array.find?_toList]at e;unfold lookIn;rw[hd];dsimp only
 split
 ·rename_i y q
  rw[q]at e;exact congrArg some e
 ·rename_i q
  rw[q]at e;have a:es.toList.any (·.refKey)=false:=by
   rw[List.any_eq_false];intro y hy;obtain⟨z,t,hkey⟩:=hk y (Array.mem_toList_iff.mp hy);simp[DictEntry.refKey,hkey]
  have a':¬es.toList.any (·.refKey)=true:=by rw[a];exact Bool.false_ne_true
  rw[if_neg a'];exact congrArg some e
theorem ObjM.look{h:Heap}{x dx C:Addr}{mA:Str→Option Value}(I:ObjM h x dx C mA):∃od,PySem.W.InstAt h x (instObj C dx) C (some od)∧∀name,lookIn name od=some (mA name) :=
 let⟨od,ho,hl⟩:=qP I.ns
 ⟨od,⟨I.obj,rfl,rfl,ho⟩,hl⟩
section
variable{prog:Program}{w:World}{A:Around}{E:Value→Shared→Prop}{s:Shared}{K:PySem.W.Frag}{x dx C f:Addr}{mA:Str→Option Value}{name:Str}{v:Value}
theorem uD{expr:Bool}{Q:Value→Shared→Prop}(X:K.In s.heap)(I:ObjM s.heap x dx C mA)(hg:plainGet K C name=true)(hh:hasDictIn K C=true)(ha:PySem.W.findIn K (.ref C) name=some none)(hv:mA name=some v)(hv':handedIn v=true)(h:Q v {s with toks:=s.toks+1}):
  wpAny (model prog w) A (getAttr (.ref x) name expr) Q E s:=by
 obtain⟨od,J,hl⟩:=I.look;exact PySem.W.get_value X J (plainGet_of hg).1 (PySem.W.findObj_own hh ha rfl (by rw[hl,hv])) hv' h
theorem so{pl:Sem Bool}{Q:Value×List Value→Shared→Prop}(X:K.In s.heap)(I:ObjM s.heap x dx C mA)(hg:plainGet K C name=true)(hf:PySem.W.findIn K (.ref C) name=some (some (.ref f)))(ht:isFn K (.ref f)=true)(hv:mA name=none)(h:Q (.ref f,[.ref x]) s):
  wpAny (model prog w) A (getMethod (.ref x) name pl) Q E s:=by
 obtain⟨od,J,hl⟩:=I.look;exact PySem.W.method_fn X J (plainGet_of hg).1 (plainGet_of hg).2 hf (beq_iff_eq.mp ht) (by show(lookIn name od).map (·.isSome)=some false;rw[hl,hv];rfl) h
theorem uE{ns:List Str}{Q:Unit→Shared→Prop}(X:K.In s.heap)(I:ObjM s.heap x dx C mA)(hs:PySem.W.findIn K (.ref C) "__setattr__"=some (some (.builtin "object.__setattr__")))(hp:plainOver K C=true)(ht:takerIn K C name=some none)(hh:hasDictIn K C=true)(hw:PySem.Within mA ns)(hsz:ns.length≤sizeLine)(h:∀h',ObjM h' x dx C (λy=>if y=name then some v else mA y)→SameBut dx s.heap h'→Q () {s with heap:=h',toks:=s.toks+2}):
  wpAny (model prog w) A (setAttr (.ref x) name v) Q E s:=by
 obtain⟨od,J,hl⟩:=I.look;refine PySem.W.set_plain X J hs (PySem.W.osa_open (s:={s with toks:=s.toks+1}) (r:=none) X J hp ht λb=>?_);obtain⟨cd,hc,hd'⟩:=PySem.W.any_some hh;have hx:s.heap.get? x=some ⟨.ref C,some dx,.plain,#[]⟩:=I.obj;refine wpAny_bind (wpAny_pure (wpAny_bind (wpAny_bind (wpAny_loadPart hx (wpAny_bind (PySem.W.Looks.here (s:={s with toks:=s.toks+1}) (PySem.W.looks_clsIn X hc) ?_))))));rw[hd'];refine wpAny_pure (a:=some dx) (wpAny_bind (wpAny_pure (wpAny_bind ?_)));refine wpAny_nsSet1 (s:={s with toks:=s.toks+1}) I.ns λh' hn2 hs2=>?_;obtain⟨oD,esD,epD,hoD,hdD,hcD⟩:=hn2.count (PySem.Within.cons name v hw);refine wpAny_bind (wpAny_lookBehind hoD (by rw[hdD];exact pastItsLine_dict (le_trans hcD (by rw[length_cons];omega))) ?_);exact wpAny_pure (h _ ⟨(hs2.2 _ (symm I.ne)).trans I.obj,hn2,I.ne⟩ hs2)
theorem sr{R:Result→Shared→Prop}{vs:List Value}{kw:List (Str×Value)}(X:K.In s.heap)(hm:makesIn K C=true)(hi:PySem.W.findIn K (.ref C) "__init__"=some (some (.ref f)))(hf:PySem.W.typeIn K (.ref f)=some (.type "function"))(h:codeAny (model prog w) (A.under (.builtin "type.__call__" ⟨.ref C::vs,kw⟩)) (.call (.ref f) ⟨.ref (s.heap.objs.size+1)::vs,kw⟩) (PySem.W.InitBack (s.heap.objs.size+1) R)
   {s with heap:=(s.heap.push emptyDict).push (instObj C s.heap.objs.size)}):
  codeAny (model prog w) A (.call (.ref C) ⟨vs,kw⟩) R s:=by
 obtain⟨hh,g,d,t,os⟩:=s;exact PySem.W.make_core (PySem.W.makes_of X hm) (PySem.W.looks_findIn X hi) (λself=>PySem.W.bind_fn X self hf) (.inl rfl) h
end
def cR(f:Str)(v:V):List (Str×V)→List (Str×V)
 |[]=>[(f,v)]
 |(g,x)::r=>if g=f then (g,v)::r else (g,x)::cR f v r
theorem iJ(f g:Str)(v:V):∀fs:List (Str×V),(cR f v fs).lookup g=if g=f then some v else fs.lookup g
 |[]=>by
  show List.lookup g [(f,v)]=_
  by_cases h:g=f
  ·have hb:(g==f)=true:=beq_iff_eq.mpr h;simp only[List.lookup,hb,if_pos h]
  ·have hb:(g==f)=false:=beq_eq_false_iff_ne.mpr h;simp only[List.lookup,hb,if_neg h]
 |(k,x)::r=>by
  have ih:=iJ f g v r;rw[show cR f v ((k,x)::r)=(if k=f then (k,v)::r else (k,x)::cR f v r)from rfl]
  by_cases hk:k=f
  ·rw[if_pos hk]
   by_cases h:g=k
   ·have hb:(g==k)=true:=beq_iff_eq.mpr h;simp only[List.lookup,hb,if_pos (h.trans hk)]
   ·have hb:(g==k)=false:=beq_eq_false_iff_ne.mpr h;simp only[List.lookup,hb,if_neg (λe:g=f=>h (e.trans hk.symm))]
  ·rw[if_neg hk]
   by_cases h:g=k
   ·have hb:(g==k)=true:=beq_iff_eq.mpr h;simp only[List.lookup,hb,if_neg (λe:g=f=>hk (h.symm.trans e))]
   ·have hb:(g==k)=false:=beq_eq_false_iff_ne.mpr h;simp only[List.lookup,hb];exact ih
theorem iu(f:Str)(v:V):∀fs:List (Str×V),f∈(cR f v fs).map (·.1)∧∀g,g∈fs.map (·.1)→g∈(cR f v fs).map (·.1)
 |[]=>⟨by simp[cR],λg h=>by simp at h⟩
 |(k,x)::r=>by
  obtain⟨i1,i2⟩:=iu f v r;rw[show cR f v ((k,x)::r)=(if k=f then (k,v)::r else (k,x)::cR f v r)from rfl]
  by_cases hk:k=f
  ·rw[if_pos hk];subst hk;exact⟨by simp,λg h=>by simpa using h⟩
  ·rw[if_neg hk];refine⟨?_,λg h=>?_⟩
   ·rw[map_cons];exact mem_cons_of_mem _ i1
   ·rw[map_cons]at h⊢;rcases mem_cons.mp h with e|e
    ·exact mem_cons.mpr (.inl e)
    ·exact mem_cons_of_mem _ (i2 g e)
theorem iK(f:Str)(v:V):∀fs:List (Str×V),(cR f v fs).length≤fs.length+1
 |[]=>by simp[cR]
 |(k,x)::r=>by
  have ih:=iK f v r;rw[show cR f v ((k,x)::r)=(if k=f then (k,v)::r else (k,x)::cR f v r)from rfl]
  by_cases hk:k=f
  ·rw[if_pos hk,length_cons,length_cons];omega
  ·rw[if_neg hk,length_cons,length_cons];omega
theorem eN.some_of{v:V}{o:Option Value}(r:eN (some v) o):∃u,o=some u∧aO v u:=by
 cases o with
 |none=>exact(show False from r).elim
 |some u=>exact⟨u,rfl,r⟩
theorem eN.none_of{o:Option Value}(r:eN none o):o=none:=by
 cases o with
 |none=>rfl
 |some u=>exact(show False from r).elim
theorem qQ{v:V}{u:Value}(r:aO v u):handedIn u=true:=by
 cases v with
 |non=>cases (show u=Value.none from r);rfl
 |bl b=>cases (show u=Value.bool b from r);rfl
 |int i=>obtain⟨t,e⟩:=(show ∃t,u=Value.int i t from r);cases e;rfl
 |str x=>obtain⟨t,e⟩:=(show ∃t,u=Value.str x t from r);cases e;rfl
 |byt b=>obtain⟨t,e⟩:=(show ∃t,u=bytes b t from r);cases e;rfl
 |flt b=>obtain⟨t,e⟩:=(show ∃t,u=float b t from r);cases e;rfl
 |ref a=>cases (show u=Value.ref a from r);rfl
 |ty n=>cases (show u=type n from r);rfl
section
variable{P:Program}{w:World}{H H':Hp}{h h':Heap}{a C dx:Addr}{fs fs':List (Str×V)}
theorem iX(hok:HOk P w H h)(e:H a=some (.ins C dx fs)):∃mA,ObjM h a dx C mA∧(∀f,eN (fs.lookup f) (mA f))∧PySem.Within mA (fs.map (·.1))∧fs.length≤1000∧H dx=some (.own a):=by
 obtain⟨d,z,ne,ob,mA,n,r,q⟩:=(show bt P w H h a (.ins C dx fs)from hok a _ e);exact⟨mA,⟨ob,n,ne⟩,r,q,z,d⟩
end
structure Cls(K:PySem.W.Frag)(C:Addr):Prop where
 pg:plainGet K C empty=true
 hd:hasDictIn K C=true
 po:plainOver K C=true
 sa:PySem.W.findIn K (.ref C) "__setattr__"=some (some (.builtin "object.__setattr__"))
theorem Cls.get{K:PySem.W.Frag}{C:Addr}(c:Cls K C)(f:Str):plainGet K C f=true:=c.pg
def dB(K:PySem.W.Frag)(C:Addr)(f:Str):Prop:=PySem.W.findIn K (.ref C) f=some none
theorem dB.taker{K:PySem.W.Frag}{C:Addr}{f:Str}(n:dB K C f):takerIn K C f=some none:=by
 unfold takerIn;rw[show PySem.W.findIn K (.ref C) f=some none from n];rfl
structure Meth(K:PySem.W.Frag)(C:Addr)(m:Str)(f:Addr):Prop where
 at_:PySem.W.findIn K (.ref C) m=some (some (.ref f))
 fn:isFn K (.ref f)=true
 kp:keepIn K (.ref f)=true
section
variable{X:Cx}{pins:List (Addr×Obj)}{σ:St}{H:Hp}{s:Shared}{a C dx:Addr}{fs:List (Str×V)}{f:Str}{v:V}{A:Around}{E:Value→Shared→Prop}
theorem oa{b:Bool}{Q:Value→Shared→Prop}(I:Inv X pins σ H s)(e:H a=some (.ins C dx fs))(c:Cls X.K C)(n:dB X.K C f)(l:fs.lookup f=some v)(h:∀u s',Inv X pins σ H s'→aO v u→Q u s'):wpAny (model X.prog X.w) A (getAttr (.ref a) f b) Q E s:=by
 obtain⟨mA,O,r,_,_,_⟩:=iX I.hok e;obtain⟨u,hu,ru⟩:=eN.some_of (v:=v) (o:=mA f) (by rw[←l];exact r f);exact uD I.kIn O (c.get f) c.hd n hu (qQ ru) (h u _ (I.tok _) ru)
theorem jn{m:Str}{g:Addr}{pl:Sem Bool}{Q:Value×List Value→Shared→Prop}(I:Inv X pins σ H s)(e:H a=some (.ins C dx fs))(c:Cls X.K C)(k:Meth X.K C m g)(l:fs.lookup m=none)(h:Q (.ref g,[.ref a]) s):wpAny (model X.prog X.w) A (getMethod (.ref a) m pl) Q E s:=by
 obtain⟨mA,O,r,_,_,_⟩:=iX I.hok e;have hn:mA m=none:=eN.none_of (by rw[←l];exact r m);exact so I.kIn O (c.get m) k.at_ k.fn hn h
theorem og{y:V}{u:Value}{Q:Unit→Shared→Prop}(I:Inv X pins σ H s)(e:H a=some (.ins C dx fs))(c:Cls X.K C)(n:dB X.K C f)(hl:fs.length<1000)(ry:aO y u)(h:∀s',Inv X pins σ (upd H a (.ins C dx (cR f y fs))) s'→Q () s'):wpAny (model X.prog X.w) A (setAttr (.ref a) f u) Q E s:=by
 obtain⟨mA,O,r,wi,_,ho⟩:=iX I.hok e;have hz:(fs.map (·.1)).length≤sizeLine:=by rw[length_map,sizeLine_eq];omega
 refine uE I.kIn O c.sa c.po n.taker c.hd wi hz λh' O' sb=>h _ ?_;have hd:∃o,h'.get? dx=some o:=let⟨o,_,_,e',_⟩:=O'.ns;⟨o,e'⟩;refine I.write (x:=a) (e:=dx) (by rw[e];exact True.intro) (.inr ho) (λb q hb z=>(sb.2 b hb).trans z) hd ?_;refine⟨by rw[aj O.ne];exact ho,?_,O.ne,O'.obj,_,O'.ns,λg=>?_,λg hg=>?_⟩
 ·have:=iK f y fs;omega
 ·show eN ((cR f y fs).lookup g) (if g=f then some u else mA g);rw[iJ]
  by_cases q:g=f
  ·rw[if_pos q,if_pos q];exact ry
  ·rw[if_neg q,if_neg q];exact r g
 ·by_cases q:g=f
  ·rw[q];exact(iu f y fs).1
  ·refine(iu f y fs).2 g (wi g λz=>hg ?_);show(if g=f then some u else mA g)=none;rw[if_neg q];exact z
theorem Inv.made(I:Inv X pins σ H s):Inv X pins σ (upd (upd H s.heap.objs.size (.own (s.heap.objs.size+1))) (s.heap.objs.size+1) (.ins C s.heap.objs.size []))
  {s with heap:=(s.heap.push emptyDict).push (instObj C s.heap.objs.size)}:=by
 have e1:(s.heap.push emptyDict).get? s.heap.objs.size=some emptyDict:=get?_push_size s.heap rfl;have e2:((s.heap.push emptyDict).push (instObj C s.heap.objs.size)).get? (s.heap.objs.size+1)=some (instObj C s.heap.objs.size):=by
  have:=get?_push_size (s.heap.push emptyDict) (o:=instObj C s.heap.objs.size) rfl
  rwa [size_push]at this
 have e3:(s.heap.push emptyDict).Ns s.heap.objs.size (λ_=>none):=⟨emptyDict,#[],_,e1,rfl,(λe he=>absurd he (by simp)),λ_=>rfl⟩;have I1:=I.laid (a:=s.heap.objs.size) (o:=.own (s.heap.objs.size+1)) (h':=s.heap.push emptyDict) (t':=s.toks) (λb u q=>get?_push_of_some _ q) (le_refl _) ⟨_,e1⟩;refine I1.laid (a:=s.heap.objs.size+1) (o:=.ins C s.heap.objs.size []) (t':=s.toks) (λb u q=>get?_push_of_some _ q) (le_of_eq (size_push _ _)) ?_;have ne:s.heap.objs.size≠s.heap.objs.size+1:=ne_of_lt (lt_succ_self _);refine⟨by rw[aj ne,ac],zero_le _,ne,e2,λ_=>none,(Heap.Ns1.of_empty e3).at λo q=>get?_push_of_some _ q,λ_=>True.intro,λy hy=>absurd rfl hy⟩
theorem uF{prog:Program}{w:World}{env:Env}{e:Expr}{f:Str}{pos:Pos}{s:Shared}{Q:Value→Shared→Prop}(hb:attributeBase e f env (eval e env)=eval e env)(h:wpAny (model prog w) A (eval e env) (λo s₁=>wpAny (model prog w) A (getAttr o f true) Q E s₁) E s):wpAny (model prog w) A (eval (.Attribute e f pos) env) Q E s :=
 Attribute_any_ h (by rw[arm_eval_Attribute,hb])
end
def zA(K:PySem.W.Frag)(ta:TE)(f:Str):TE:=λσ H Q=>ta σ H λx H1=>∃a C dx fs v,x=.ref a∧H1 a=some (.ins C dx fs)∧Cls K C∧dB K C f∧fs.lookup f=some v∧Q v H1
def zB(K:PySem.W.Frag)(ta tv:TE)(f:Str):TS:=λD σ H=>tv σ H λy H1=>ta σ H1 λx H2=>∃a C dx fs,x=.ref a∧H2 a=some (.ins C dx fs)∧Cls K C∧dB K C f∧fs.length<1000 ∧
 D.nx σ (upd H2 a (.ins C dx (cR f y fs)))
section
variable{X:Cx}{o e value:Expr}{f:Str}{pos pos' tpos:Pos}{ta tv:TE}
theorem bh(he:PE X e ta)(hb:attributeBase e f X.env (eval e X.env)=eval e X.env):PE X (.Attribute e f pos) (zA X.K ta f):=by
 intro pins s σ H Q I h;refine uF hb (thn (he pins s σ H _ I h) λu s1 hpt=>?_);obtain⟨x,H1,I1,rx,a,C,dx,fs,v,ex,ea,c,n,l,q⟩:=hpt;subst ex;obtain rfl:u=Value.ref a:=rx;exact oa I1 ea c n l λu' s2 I2 ru=>⟨v,H1,I2,ru,q⟩
theorem cF(ha:PE X o ta)(hv:PE X value tv)(hs:swapsWith value (some (.Attribute o f pos')) pos.line X.env=pure false):PS X (.Assign [.Attribute o f pos'] value pos) (zB X.K ta tv f):=by
 intro pins s σ H D I h;refine plainObj_wpAny_Assign_Attribute (thn (hv pins s σ H _ I h) λu s1 ⟨y,H1,I1,ry,q⟩=>thn (ha pins s1 σ H1 _ I1 q) λov s2 ⟨x,H2,I2,rx,a,C,dx,fs,ex,ea,c,n,l,q2⟩=>?_) hs;subst ex;obtain rfl:ov=Value.ref a:=rx;exact og I2 ea c n l ry λs3 I3=>⟨σ,_,I3,q2⟩
end
section
variable{X:Cx}{pins:List (Addr×Obj)}{σ:St}{H:Hp}{s:Shared}{A:Around}{E:Value→Shared→Prop}{Q:Value→Shared→Prop}{c:Value}{b:Bool}
inductive TyOf(K:PySem.W.Frag)(H:Hp):V→Value→Prop where
 |non:TyOf K H .non (.type "NoneType")
 |bl (x:Bool):TyOf K H (.bl x) (.type "bool")
 |int (i:Int):TyOf K H (.int i) (.type "int")
 |str (x:Str):TyOf K H (.str x) (.type "str")
 |flt (x:UInt64):TyOf K H (.flt x) (.type "float")
 |lst {a:Addr} {xs:List V} (e:H a=some (.lst xs)):TyOf K H (.ref a) (.type "list")
 |frz {a:Addr} {o:Obj} {xs:List V} (e:H a=some (.frz o (.lst xs))):TyOf K H (.ref a) (.type "list")
 |tup {a:Addr} {xs:List V} (e:H a=some (.tup xs)):TyOf K H (.ref a) (.type "tuple")
 |dK {a:Addr} {kvs:List (Key×V)} (e:H a=some (.dK kvs)):TyOf K H (.ref a) (.type "dict")
 |dT {a:Addr} {kvs:List (List Key×V)} (e:H a=some (.dT kvs)):TyOf K H (.ref a) (.type "dict")
 |ins {a C dx:Addr} {fs:List (Str×V)} (e:H a=some (.ins C dx fs)) (cl:Cls K C) (ha:PySem.W.findIn K (.ref C) "__class__"=some (some (.builtin "object.__class__")))
   (hn:PySem.W.specialIn K (.builtin "object.__class__") "__get__"=some (some (.builtin "getset_descriptor.__get__"))) (htk:PySem.W.takesIn K (.builtin "object.__class__")=some true)
   (hm:mroIn K C (.type "object")=some true):TyOf K H (.ref a) (.ref C)
theorem qR{x:V}{u t:Value}(I:Inv X pins σ H s)(rx:aO x u)(ty:TyOf X.K H x t)(e:kitOne X.K t c=some b)(h:∀tk,Q (.bool b) {s with toks:=tk}):
  wpAny (model X.prog X.w) A (call (.builtin "isinstance") [u,c]) Q E s:=by
 cases ty with
 |non=>cases (show u=Value.none from rx);exact kia_one PySem.W.kitx_none I.kIn True.intro e (λz=>nomatch z) h
 |bl y=>cases (show u=Value.bool y from rx);exact kia_one PySem.W.kitx_bool I.kIn True.intro e (λz=>nomatch z) h
 |int i=>obtain⟨t,q⟩:=(show ∃t,u=Value.int i t from rx);cases q;exact kia_one PySem.W.kitx_int I.kIn True.intro e (λz=>nomatch z) h
 |str y=>obtain⟨t,q⟩:=(show ∃t,u=Value.str y t from rx);cases q;exact kia_one PySem.W.kitx_str I.kIn True.intro e (λz=>nomatch z) h
 |flt y=>obtain⟨t,q⟩:=(show ∃t,u=float y t from rx);cases q;exact kia_one PySem.W.kitx_float I.kIn True.intro e (λz=>nomatch z) h
 |@lst a xs ea =>
  cases (show u=Value.ref a from rx);obtain⟨_,_,n,_,h1⟩:=(show bt X.prog X.w H s.heap a (.lst xs)from I.hok a _ ea);exact kia_one kitx_list I.kIn ⟨_,h1,rfl⟩ e (λz=>nomatch z) h
 |@frz a ob xs ea =>
  cases (show u=Value.ref a from rx);obtain⟨_,_,_,n,_,h1⟩:=(show bt X.prog X.w H s.heap a (.frz ob (.lst xs))from I.hok a _ ea);exact kia_one kitx_list I.kIn ⟨_,h1,rfl⟩ e (λz=>nomatch z) h
 |@tup a xs ea =>
  cases (show u=Value.ref a from rx);obtain⟨_,_,_,p⟩:=(show bt X.prog X.w H s.heap a (.tup xs)from I.hok a _ ea);obtain⟨o,h1,h2,_⟩:=p;exact kia_one PySem.W.kitx_tuple I.kIn ⟨o,h1,h2⟩ e (λz=>nomatch z) h
 |@dK a kvs ea =>
  cases (show u=Value.ref a from rx);obtain⟨_,_,vs,_,p⟩:=(show bt X.prog X.w H s.heap a (.dK kvs)from I.hok a _ ea);obtain⟨o,es,ep,h1,h2,_⟩:=p;exact kia_one kitx_dict I.kIn ⟨o,h1,h2.1⟩ e (λz=>nomatch z) h
 |@dT a kvs ea =>
  cases (show u=Value.ref a from rx);obtain⟨_,_,xs,_,o,es,ep,h1,h2,_⟩:=(show bt X.prog X.w H s.heap a (.dT kvs)from I.hok a _ ea);exact kia_one kitx_dict I.kIn ⟨o,h1,h2.1⟩ e (λz=>nomatch z) h
 |@ins a C dx fs ea cl ha hn htk hm =>
  cases (show u=Value.ref a from rx);obtain⟨mA,O,_⟩:=iX I.hok ea;obtain⟨od,J,_⟩:=O.look;exact kia_one (PySem.W.kitx_own (cl.get _) cl.hd ha hn htk hm) I.kIn J e (λz=>nomatch z) h
end
structure Room(k:Nat)(A:Around):Prop where
 hd:A.handled=none
 dp:A.depth+3*k+5<recursionLimit
 un:A.units+16*k+200<cLine
theorem Room.mono{j k:Nat}{A:Around}(r:Room k A)(h:j≤k):Room j A:=⟨r.hd,by have:=r.dp;omega,by have:=r.un;omega⟩
theorem Room.deeper{k:Nat}{A:Around}(r:Room (k+1) A)(env:Env):Room k (A.deeper env) :=
 ⟨r.hd,by have:=r.dp;show A.depth+1+3*k+5<_;omega,by have:=r.un;show A.units+3+16*k+200<_;omega⟩
theorem ol{A:Around}{C:Addr}{us:List Value}{kw:List (Str×Value)}:(A.under (.builtin "type.__call__" ⟨.ref C::us,kw⟩)).depth=A.depth+1:=by
 first|rfl|simp[Around.under,Code.weight,Code.isCreation,Code.isGuard,Code.isCaller,Code.frames,Code.isFrame,guardIds]
theorem om{A:Around}{C:Addr}{us:List Value}{kw:List (Str×Value)}:(A.under (.builtin "type.__call__" ⟨.ref C::us,kw⟩)).units=A.units+1:=by
 first|rfl|simp[Around.under,Code.cUnits,Code.frames,Code.isFrame]
theorem Room.make{k:Nat}{A:Around}(r:Room (k+1) A)(C:Addr)(us:List Value)(kw:List (Str×Value)):Room k (A.under (.builtin "type.__call__" ⟨.ref C::us,kw⟩)) :=
 ⟨r.hd,by have:=r.dp;rw[ol];omega,by have:=r.un;rw[om];omega⟩
theorem Room.depth{k:Nat}{A:Around}(r:Room k A):A.depth<recursionLimit:=by have:=r.dp;omega
theorem Room.units{k:Nat}{A:Around}(r:Room k A):A.units+64<cLine:=by have:=r.un;omega
theorem Room.units0{k:Nat}{A:Around}(r:Room k A):A.units<cLine:=by have:=r.un;omega
def kh:TA:=λ_ H Q=>Q [] H
def cV(ta:TE)(tr:TA):TA:=λσ H Q=>ta σ H λx H1=>tr σ H1 λxs H2=>Q (x::xs) H2
section
variable{X:Cx}{e:Expr}{es:List Expr}{te:TE}{t:TA}{pos:Pos}
theorem af:PA X [] kh:=λ_ _ _ _ H Q I h=>spliced_nil ⟨[],H,I,.nil,h⟩
theorem aa(ha:PE X e te)(hr:PA X es t)(hs:starEach (e::es) X.env=(false,eval e X.env)::starEach es X.env:=by rfl):PA X (e::es) (cV te t):=by
 intro pos pins s σ H Q I h;rw[hs];show wpAny _ _ (spliced ((false,eval e X.env)::backTo pos (starEach es X.env))) _ _ s;refine spliced_cons (thn (ha pins s σ H _ I h) λu s1 hpt=>?_);obtain⟨x,H1,I1,r1,q1⟩:=hpt;exact thn (hr pos pins s1 σ H1 _ I1 q1) λus s2 ⟨xs,H2,I2,r2,q2⟩=>⟨x::xs,H2,I2,.cons r1 r2,q2⟩
def yx(t:TA):TE:=λσ H Q=>t σ H λxs H1=>xs.length≤sizeLine∧∀p,H1 p=none→Q (.ref p) (upd H1 p (.tup xs))
def zC(t:TA):TE:=λσ H Q=>t σ H λxs H1=>xs.length≤sizeLine∧∀p,H1 p=none→Q (.ref p) (upd H1 p (.lst xs))
theorem aP{x1}(h:PA X es t):PE X (.Tuple es x1 pos) (yx t):=by
 intro pins s σ H Q I hq;refine wpAny_Tuple_spliced (thn (h pos pins s σ H _ I hq) λus s1 ⟨xs,H1,I1,r,z,q⟩=>⟨by rw[←r.length];exact z,?_⟩);have hf:H1 s1.heap.objs.size=none:=I1.hok.fresh (le_refl _);refine⟨.ref s1.heap.objs.size,upd H1 s1.heap.objs.size (.tup xs),I1.laid (t':=s1.toks) (λb u e=>get?_push_of_some _ e) (le_refl _) ?_,rfl,q _ hf⟩;exact⟨z,us,r,⟨_,get?_push_size _ rfl,rfl,_,rfl⟩⟩
theorem ba(h:PA X es t):PE X (.List es pos) (zC t):=by
 intro pins s σ H Q I hq;refine wpAny_List_spliced (thn (h pos pins s σ H _ I hq) λus s1 ⟨xs,H1,I1,r,z,q⟩=>⟨by rw[←r.length];exact z,?_⟩);have hf:H1 s1.heap.objs.size=none:=I1.hok.fresh (le_refl _);refine⟨.ref s1.heap.objs.size,upd H1 s1.heap.objs.size (.lst xs),I1.laid (t':=s1.toks) (λb u e=>get?_push_of_some _ e) (le_refl _) ?_,rfl,q _ hf⟩;exact⟨z,us,0,r,get?_push_size _ rfl⟩
end
abbrev Sp:=List V→Hp→VK→XK→Prop
abbrev CXT:=List Env→Hp→Shared→XK→Value→Shared→Prop
structure Env0(P:Program)(w:World)(K:PySem.W.Frag)(mg:Str→Option Value)(base:Heap)(A:Around)(outer:List Env)(s:Shared)(H:Hp):Prop where
 frames:A.frames=some outer
 mod:Mod K mg base
 bs:∀b o,base.get? b=some o→s.heap.get? b=some o∧H b=none
 bsz:base.objs.size≤s.heap.objs.size
 funs:s.heap.FunFrames base outer
 frf:∀b∈frs outer,H b=none
 hok:HOk P w H s.heap
 bare:AllBare s.gens
def CE(outer:List Env)(P:Program)(w:World)(H:Hp)(s:Shared)(Q:VK)(u:Value)(s':Shared):Prop :=
 ∃v H',s'.os=s.os∧AllBare s'.gens∧Un (frs outer) [] H H' s.heap s'.heap∧HOk P w H' s'.heap∧aO v u∧Q v H'
def CR(CX:CXT)(outer:List Env)(P:Program)(w:World)(H:Hp)(s:Shared)(Q:VK)(E:XK)(r:Result)(s':Shared):Prop :=
 match r with
 |.ok (.ret u)=>CE outer P w H s Q u s'
 |.ok _=>False
 |.error e=>CX outer H s E e s'
structure FnOk(P:Program)(w:World)(K:PySem.W.Frag)(mg:Str→Option Value)(base:Heap)(CX:CXT)(k:Nat)(f:Addr)(fd:FuncData)(ps:List Str)(sp:Sp):Prop where
 len:∀vs H Q E,sp vs H Q E→vs.length=ps.length
 run:∀(A:Around)(outer:List Env)(s:Shared)(H:Hp)(args:Args)(us:List Value)(vs:List V)(Q:VK)(E:XK),Room k A→Env0 P w K mg base A outer s H→BindsTo s fd args (ps.zip us)→aH vs us→sp vs H Q E →
  codeAny (model P w) A (.call (.ref f) args) (CR CX outer P w H s Q E) s
theorem Env0.make{P:Program}{w:World}{K:PySem.W.Frag}{mg:Str→Option Value}{base:Heap}{A:Around}{outer:List Env}{s:Shared}{H:Hp}(e:Env0 P w K mg base A outer s H)(C:Addr)(us:List Value)(kw:List (Str×Value)):
  Env0 P w K mg base (A.under (.builtin "type.__call__" ⟨.ref C::us,kw⟩)) outer s H:=⟨by first|exact e.frames|(simpa [Around.under,Code.envs,Code.isFrame,pushEnvs]using e.frames),e.mod,e.bs,e.bsz,e.funs,e.frf,e.hok,e.bare⟩
section
variable{X:Cx}{pins:List (Addr×Obj)}{σ:St}{H:Hp}{s s':Shared}
theorem Inv.env0(I:Inv X pins σ H s):Env0 X.prog X.w X.K X.mg X.base X.A X.stack s H :=
 ⟨I.ok.frames,I.ok.mod,I.bs,le_trans I.ok.bsz I.sz,I.stack,I.stkFree,I.hok,I.bare⟩
theorem Inv.after{Q:VK}{u:Value}(I:Inv X pins σ H s)(h:CE X.stack X.prog X.w H s Q u s'):EP X pins σ Q u s':=by
 obtain⟨v,H',os,bare,un,hok,r,q⟩:=h;obtain⟨hh,g,d,t,os'⟩:=s';obtain rfl:os'=s.os:=os;exact⟨v,H',I.call (h':=hh) (g':=g) (d':=d) (t':=t) (ch:=[]) un hok bare (λb z=>absurd z (by simp)),r,q⟩
end
def mn(sp:Sp)(dvs:List V)(E:XK)(t:TA):TE:=λσ H Q=>t σ H λvs H1=>sp (vs++dvs) H1 Q E
def wb(C:Addr)(m:Str)(sp:Sp)(dvs:List V)(E:XK)(ta:TE)(t:TA):TE:=λσ H Q=>ta σ H λx H1=>∃a dx fs,x=.ref a∧H1 a=some (.ins C dx fs)∧fs.lookup m=none ∧
 t σ H1 λvs H2=>sp (x::(vs++dvs)) H2 Q E
def yy(C:Addr)(sp:Sp)(dvs:List V)(E:XK)(t:TA):TE:=λσ H Q=>t σ H λvs H1=>∀x dx,H1 x=none→H1 dx=none→dx≠x →
 sp (.ref x::(vs++dvs)) (upd (upd H1 dx (.own x)) x (.ins C dx [])) (λv H2=>v=.non∧Q (.ref x) H2) E
def aG(K:PySem.W.Frag)(fd:FuncData)(ps:List Str)(ds:List Value):Prop :=
 ∀(s:Shared)(us:List Value),K.In s.heap→(us++ds).length=ps.length→BindsTo s fd ⟨us,[]⟩ (ps.zip (us++ds))
theorem aG.all{K:PySem.W.Frag}{fd:FuncData}{ps:List Str}(h:∀us:List Value,us.length=ps.length→bindArgs fd ⟨us,[]⟩=pure (ps.zip us)):aG K fd ps []:=λs us _ hl=>by
 rw[append_nil]at hl⊢;exact .of_eq (h us hl)
def cG(CX:CXT)(X:Cx)(E:XK):Prop:=∀(pins:List (Addr×Obj))(σ:St)(H:Hp)(s:Shared)(e:Value)(s':Shared),Inv X pins σ H s→CX X.stack H s E e s'→X.xe e s'
section
variable{X:Cx}{CX:CXT}{k:Nat}{f C:Addr}{fd:FuncData}{ps:List Str}{sp:Sp}{dvs:List V}{ds:List Value}{E:XK}{x m:Str}{p pos apos:Pos}{e o:Expr}{es:List Expr}{ta:TE}{t:TA}
theorem ly{pins:List (Addr×Obj)}{σ:St}{H:Hp}{s:Shared}{Q:VK}{us:List Value}{vs:List V}(F:FnOk X.prog X.w X.K X.mg X.base CX k f fd ps sp)(hr:Room k X.A)(hb:aG X.K fd ps ds)(hd:aH dvs ds)(hx:cG CX X E)(I:Inv X pins σ H s)(r:aH vs us)(h:sp (vs++dvs) H Q E):wpAny (model X.prog X.w) X.A (call (.ref f) us) (EP X pins σ Q) X.xe s:=by
 have r2:aH (vs++dvs) (us++ds):=r.append hd;have hl:(us++ds).length=ps.length:=by rw[←r2.length];exact F.len _ _ _ _ h
 refine wpAny_call (codeAny_mono (F.run X.A X.stack s H ⟨us,[]⟩ (us++ds) (vs++dvs) Q E hr I.env0 (hb s us I.kIn hl) r2 h) λr s' hq=>?_);cases r with
 |error e=>exact hx pins σ H s e s' I hq
 |ok fl =>
  cases fl with
  |ret u=>exact I.after hq
  |next=>exact False.elim hq
  |brk=>exact False.elim hq
  |cont=>exact False.elim hq
theorem ar(F:FnOk X.prog X.w X.K X.mg X.base CX k f fd ps sp)(hr:Room k X.A)(hg:Gl X x)(hm:X.mg x=some (.ref f))(hk:keepIn X.K (.ref f)=true)(hb:aG X.K fd ps ds)(hd:aH dvs ds)(hx:cG CX X E)(ha:PA X (e::es) t)(hdb:(x==("__debug__":Str))=false:=by decide)(he:starEach (e::es) X.env=(false,eval e X.env)::starEach es X.env:=by rfl)(hpl:(backTo pos (starEach es X.env)).any (·.1)=false:=by rfl):
  PE X (.Call (.Name x p) (e::es) [] pos) (mn sp dvs E t):=by
 intro pins s σ H Q I h;refine wpAny_Call_Name_kw (gh I hg hm ?_ hdb);refine callWith_K (h₀:=X.base) I.ok.mod.kin hk (thn (ha pos pins s σ H _ I h) λus s1 ⟨vs,H1,I1,r,q⟩=>⟨I1.kIn,?_⟩) he hpl;exact ly F hr hb hd hx I1 r q
theorem dI{pl:Sem Bool}(he:PE X o ta)(c:Cls X.K C)(hm:Meth X.K C m f)(F:FnOk X.prog X.w X.K X.mg X.base CX k f fd ps sp)(hr:Room k X.A)(hb:aG X.K fd ps ds)(hd:aH dvs ds)(hx:cG CX X E)(ha:PA X (e::es) t)(hst:starEach (e::es) X.env=(false,eval e X.env)::starEach es X.env:=by rfl)(hpl:(backTo pos (starEach es X.env)).any (·.1)=false:=by rfl)(ht:eval (.Call (.Attribute o m apos) (e::es) [] pos) X.env=(do
   let ov ← eval o X.env
   standAt apos.atName
   let(f,first) ← holding [ov] (getMethod ov m pl)
   callWith pos f first (backTo pos (starEach (e::es) X.env)) (backToKw pos (keywordEach [] X.env))):=by rfl):
  PE X (.Call (.Attribute o m apos) (e::es) [] pos) (wb C m sp dvs E ta t):=by
 intro pins s σ H Q I h;refine methodCall_KW (pl:=pl) (thn (he pins s σ H _ I h) λu s1 ⟨x,H1,I1,rx,a,dx,fs,ex,ea,l,q⟩=>?_) ht;subst ex;obtain rfl:u=Value.ref a:=rx;refine jn I1 ea c hm l ?_;refine callWith_K (first:=[.ref a]) (h₀:=X.base) I.ok.mod.kin hm.kp (thn (ha pos pins s1 σ H1 _ I1 q) λus s2 ⟨vs,H2,I2,r,q2⟩=>⟨I2.kIn,?_⟩) hst hpl;exact ly (us:=.ref a::us) (vs:=.ref a::vs) F hr hb hd hx I2 (.cons rfl r) q2
theorem ca{pl:Sem Bool}(he:PE X o ta)(c:Cls X.K C)(hm:Meth X.K C m f)(F:FnOk X.prog X.w X.K X.mg X.base CX k f fd ps sp)(hr:Room k X.A)(hb:aG X.K fd ps ds)(hd:aH dvs ds)(hx:cG CX X E)(ht:eval (.Call (.Attribute o m apos) [] [] pos) X.env=(do
   let ov ← eval o X.env
   standAt apos.atName
   let(f,first) ← holding [ov] (getMethod ov m pl)
   callWith pos f first (backTo pos (starEach [] X.env)) (backToKw pos (keywordEach [] X.env))):=by rfl):
  PE X (.Call (.Attribute o m apos) [] [] pos) (wb C m sp dvs E ta kh):=by
 intro pins s σ H Q I h;refine methodCall_KW (pl:=pl) (thn (he pins s σ H _ I h) λu s1 ⟨x,H1,I1,rx,a,dx,fs,ex,ea,l,q⟩=>?_) ht;subst ex;obtain rfl:u=Value.ref a:=rx;refine jn I1 ea c hm l ?_;exact PySem.W.callWith_K0 (first:=[.ref a]) I1.kIn hm.kp (ly (us:=[.ref a]) (vs:=[.ref a]) F hr hb hd hx I1 (.cons rfl .nil) q)
structure Mk(K:PySem.W.Frag)(C f:Addr):Prop where
 makes:makesIn K C=true
 init:PySem.W.findIn K (.ref C) "__init__"=some (some (.ref f))
 fn:isFn K (.ref f)=true
 kp:keepIn K (.ref C)=true
theorem su{pins:List (Addr×Obj)}{σ:St}{H:Hp}{s:Shared}{Q:VK}{us:List Value}{vs:List V}(M:Mk X.K C f)(F:FnOk X.prog X.w X.K X.mg X.base CX k f fd ps sp)(hr:Room (k+1) X.A)(hb:aG X.K fd ps ds)(hd:aH dvs ds)(hx:cG CX X E)(I:Inv X pins σ H s)(r:aH vs us)(h:∀x dx,H x=none→H dx=none→dx≠x→sp (.ref x::(vs++dvs)) (upd (upd H dx (.own x)) x (.ins C dx [])) (λv H2=>v=.non∧Q (.ref x) H2) E):
  wpAny (model X.prog X.w) X.A (call (.ref C) us) (EP X pins σ Q) X.xe s:=by
 have hq:=h (s.heap.objs.size+1) s.heap.objs.size (I.hok.fresh (le_succ _)) (I.hok.fresh (le_refl _)) (ne_of_lt (lt_succ_self _));have I2:=Inv.made (C:=C) I;have r2:aH (V.ref (s.heap.objs.size+1)::(vs++dvs)) (Value.ref (s.heap.objs.size+1)::(us++ds)):=.cons rfl (r.append hd);have hl:(Value.ref (s.heap.objs.size+1)::us++ds).length=ps.length:=by
  have e:=r2.length;rw[F.len _ _ _ _ hq]at e;exact e.symm
 refine wpAny_call (sr (f:=f) I.kIn M.makes M.init (beq_iff_eq.mp M.fn) (codeAny_mono (F.run _ X.stack _ _ ⟨Value.ref (s.heap.objs.size+1)::us,[]⟩ (Value.ref (s.heap.objs.size+1)::(us++ds)) _ _ E (hr.make C us [])
  (I2.env0.make C us []) (hb _ (Value.ref (s.heap.objs.size+1)::us) I2.kIn hl) r2 hq) λr s' hq'=>?_))
 cases r with
 |error e=>exact hx pins σ _ _ e s' I2 hq'
 |ok fl =>
  cases fl with
  |ret u =>
   obtain⟨v,H',I3,rv,ev,q3⟩:=I2.after hq';subst ev;exact⟨rv,⟨V.ref (s.heap.objs.size+1),H',I3,rfl,q3⟩⟩
  |next=>exact False.elim hq'
  |brk=>exact False.elim hq'
  |cont=>exact False.elim hq'
theorem pO(M:Mk X.K C f)(F:FnOk X.prog X.w X.K X.mg X.base CX k f fd ps sp)(hr:Room (k+1) X.A)(hg:Gl X x)(hm:X.mg x=some (.ref C))(hb:aG X.K fd ps ds)(hd:aH dvs ds)(hx:cG CX X E)(ha:PA X (e::es) t)(hdb:(x==("__debug__":Str))=false:=by decide)(he:starEach (e::es) X.env=(false,eval e X.env)::starEach es X.env:=by rfl)(hpl:(backTo pos (starEach es X.env)).any (·.1)=false:=by rfl):
  PE X (.Call (.Name x p) (e::es) [] pos) (yy C sp dvs E t):=by
 intro pins s σ H Q I h;refine wpAny_Call_Name_kw (gh I hg hm ?_ hdb);refine callWith_K (h₀:=X.base) I.ok.mod.kin M.kp (thn (ha pos pins s σ H _ I h) λus s1 ⟨vs,H1,I1,r,q⟩=>⟨I1.kIn,?_⟩) he hpl;exact su M F hr hb hd hx I1 r q
end
section
variable{X:Cx}{CX:CXT}{k:Nat}{f C:Addr}{fd:FuncData}{ps ks:List Str}{sp:Sp}{E:XK}{x m:Str}{p pos apos kpos:Pos}{e o:Expr}{es:List Expr}{kws:List Keyword}{te ta:TE}{t tk:TA}{nm:Option Str}
variable{g:List Value→List Value→List Value}{gV:List V→List V→List V}
end
structure FnScope(N P:List Str)(sc:Scope):Prop where
 kind:sc.kind=.function
 co:sc.isCoroutine=false
 gen:sc.isGenerator=false
 nd:N.Nodup
 pre:N.take P.length=P
 par:∀x∈P,sc.names.lookup x=some .local∨sc.names.lookup x=some .cell
 nofree:∀y∈sc.names,y.2≠.free
theorem fsc{N P:List Str}{c:Scope}(a:c.kind=.function:=by rfl)(b:c.isCoroutine=false:=by rfl)(d:c.isGenerator=false:=by rfl)(e:N.Nodup:=by decide +kernel)(f:N.take P.length=P:=by rfl)(g:∀x∈P,c.names.lookup x=some .local∨c.names.lookup x=some .cell:=by decide +kernel)(h:∀y∈c.names,y.2≠.free:=by decide +kernel):FnScope N P c:=⟨a,b,d,e,f,g,h⟩
theorem kq{kindOf:Str→Option NameKind}{x:Str}:∀{binds:List (Str×Value)}{m:Str→Option Value},(∀v,(x,v)∉binds)→bindL kindOf binds m x=m x
 |[],_,_=>rfl
 |(n,v)::r,m,h=>by
  unfold bindL;rw[kq λw hw=>h w (mem_cons_of_mem _ hw)]
  split
  ·have:x≠n:=by rintro rfl;exact h v mem_cons_self
   simp[this]
  ·rfl
theorem kr{kindOf:Str→Option NameKind}{x:Str}:∀{binds:List (Str×Value)}{m:Str→Option Value},(∀v,(x,v)∉binds)→bindC kindOf binds m x=m x
 |[],_,_=>rfl
 |(n,v)::r,m,h=>by
  unfold bindC;rw[kr λw hw=>h w (mem_cons_of_mem _ hw)]
  split
  ·rfl
  ·have:x≠n:=by rintro rfl;exact h v mem_cons_self
   simp[this]
theorem iw{kindOf:Str→Option NameKind}{x:Str}{v:Value}:∀{P:List Str}{vs:List Value}{i:Nat}{m:Str→Option Value},P.Nodup→P[i]?=some x→vs[i]?=some v→kindOf x=some .local →
  bindL kindOf (P.zip vs) m x=some v
 |[],_,_,_,_,h,_,_=>by simp at h
 |_::_,[],_,_,_,_,h,_=>by simp at h
 |p::P,w::vs,0,m,nd,h1,h2,hk=>by
  simp at h1 h2;subst h1;subst h2;show bindL kindOf ((p,w)::P.zip vs) m p=_;unfold bindL;rw[kq λv hv=>(nodup_cons.mp nd).1 (of_mem_zip hv).1,if_pos hk];simp
 |p::P,w::vs,i+1,m,nd,h1,h2,hk=>by
  show bindL kindOf ((p,w)::P.zip vs) m x=_;unfold bindL;exact iw (i:=i) (nodup_cons.mp nd).2 (by simpa using h1) (by simpa using h2) hk
theorem ix{kindOf:Str→Option NameKind}{x:Str}{v:Value}:∀{P:List Str}{vs:List Value}{i:Nat}{m:Str→Option Value},P.Nodup→P[i]?=some x→vs[i]?=some v→kindOf x≠some .local →
  bindC kindOf (P.zip vs) m x=some v
 |[],_,_,_,_,h,_,_=>by simp at h
 |_::_,[],_,_,_,_,h,_=>by simp at h
 |p::P,w::vs,0,m,nd,h1,h2,hk=>by
  simp at h1 h2;subst h1;subst h2;show bindC kindOf ((p,w)::P.zip vs) m p=_;unfold bindC;rw[kr λv hv=>(nodup_cons.mp nd).1 (of_mem_zip hv).1,if_neg hk];simp
 |p::P,w::vs,i+1,m,nd,h1,h2,hk=>by
  show bindC kindOf ((p,w)::P.zip vs) m x=_;unfold bindC;exact ix (i:=i) (nodup_cons.mp nd).2 (by simpa using h1) (by simpa using h2) hk
def start(N:List Str)(vs:List V):St:=vs.map some++replicate (N.length-vs.length) none
def gQ(CX:CXT)(P:Program)(w:World)(K:PySem.W.Frag)(mg:Str→Option Value)(base:Heap)(N:List Str)(qual:Str)(scope:Scope)(f:Addr)(cd:Value)(A:Around)(outer:List Env)(s:Shared)(H:Hp)(E:XK):Cx where
 prog:=P
 w:=w
 K:=K
 mg:=mg
 base:=base
 A:=A.deeper (envOfC qual scope s.heap.objs.size f cd)
 N:=N
 s₀:=s
 H₀:=H
 env:=envOfC qual scope s.heap.objs.size f cd
 outer:=outer
 stack:=envOfC qual scope s.heap.objs.size f cd::outer
 ex:=[]
 calm:=true
 fn:=λ_=>true
 pn:=[]
 xe:=λe s'=>wpAny (model P w) (A.deeper (envOfC qual scope s.heap.objs.size f cd)) (leaving (envOfC qual scope s.heap.objs.size f cd) e) (λ_ s''=>CX outer H s E e s'') (λe' s''=>CX outer H s E e' s'') s'
theorem gR{sc:Scope}{n:Nat}{x:Str}(h:sc.names.lookup x=some .cell):∃c,(cellsFrom n sc.names []).lookup x=some c:=by
 have q:=cellsFrom_some sc.names n [] (.inl h);exact Option.isSome_iff_exists.mp q
theorem qS{CX:CXT}{P:Program}{w:World}{K:PySem.W.Frag}{mg:Str→Option Value}{base:Heap}{N ps:List Str}{qual:Str}{scope:Scope}{f:Addr}{cd:Value}{A:Around}{outer:List Env}{s s1:Shared}{H:Hp}{E:XK}{us:List Value}{vs:List V}(S:FnScope N ps scope)(hd:A.handled=none)(e0:Env0 P w K mg base A outer s H)(hl:vs.length=ps.length)(r:aH vs us)(x:InCallC s s.heap.objs.size (bindL (envOfC qual scope s.heap.objs.size f cd).kindOf (ps.zip us) λ_=>none) (cellsFrom (s.heap.objs.size+1) scope.names []) (bindC (envOfC qual scope s.heap.objs.size f cd).kindOf (ps.zip us) λ_=>none) s1):
  Inv (gQ CX P w K mg base N qual scope f cd A outer s H E) [] (start N vs) H s1:=by
 have hpl:ps.length≤N.length:=by have:=congrArg length S.pre;rw[length_take]at this;omega
 obtain⟨h1,tk,rfl,hk⟩:=x.done;have noA:∀b:Addr,b∉(gQ CX P w K mg base N qual scope f cd A outer s H E).ex:=λb z=>absurd (show b∈([]:List Addr)from z) (by simp);refine⟨⟨e0.mod,S.kind,rfl,rfl,le_refl _,λy z c h1 h2=>?_,λy hy=>?_,λy c _ h=>?_,λ_=>hd,Around.frames_deeper e0.frames,.inr ⟨rfl,rfl⟩,λb z=>absurd z (noA b),e0.bs,e0.bsz,λb _ _=>noA b,λb z=>absurd z (noA b),e0.funs,e0.frf⟩,
  rfl,e0.bare,Un.kept hk,⟨_,x.toInCall.ns,λi y v h1 h2 h3=>?_⟩,λy c h=>⟨_,x.cell y c h⟩,e0.hok.fresh (le_refl _),λy c h=>?_,λp hp=>absurd (show p∈([]:List (Addr×Obj))from hp) (by simp),e0.hok.kept hk,?_⟩
 ·exact name_of_addr x.apart (PySem.mem_of_lookup h1) (PySem.mem_of_lookup h2)
 ·have hy:scope.names.lookup y=some .cell∨scope.names.lookup y=some .free:=hy;rcases hy with hy|hy
  ·exact gR hy
  ·exact absurd rfl (S.nofree _ (PySem.mem_of_lookup hy))
 ·exact le_of_lt (x.above y c (PySem.mem_of_lookup h))
 ·have hi:i<vs.length:=by
   unfold start at h2
   by_cases hi:i<vs.length
   ·exact hi
   ·rw[getElem?_append_right (by simpa using hi)]at h2;rw[List.getElem?_replicate]at h2
    split at h2<;>cases h2
  have ha:vs[i]?=some v:=by
   unfold start at h2;rw[getElem?_append_left (by simpa using hi),getElem?_map]at h2;cases e:vs[i]? with
   |none=>rw[e]at h2;cases h2
   |some a=>rw[e]at h2;cases h2;rfl
  obtain⟨u,hu,rv⟩:=r.get ha;have hp:ps[i]?=some y:=by
   rw[←S.pre,List.getElem?_take_of_lt (by omega)];exact h1
  have ndP:ps.Nodup:=by rw[←S.pre];exact S.nd.sublist (take_sublist _ _)
  refine⟨u,rv,?_⟩;rcases S.par y (mem_of_getElem? hp)with k|k
  ·exact .inl ⟨k,iw ndP hp hu k⟩
  ·obtain⟨c,e⟩:=gR (n:=s.heap.objs.size+1) k;refine .inr ⟨.inl k,c,e,?_⟩;have q:=x.cell y c e;rw[ix ndP hp hu (by show scope.names.lookup y≠_;rw[k];decide)]at q;exact q
 ·exact e0.hok.fresh (le_of_lt (x.above y c (PySem.mem_of_lookup h)))
 ·unfold start;show _=N.length;rw[length_append,length_map,length_replicate];omega
theorem sv{CX:CXT}{P:Program}{w:World}{K:PySem.W.Frag}{mg:Str→Option Value}{base:Heap}{k:Nat}{f:Addr}{name qual:Str}{params:Arguments}{body:List Stmt}{scope:Scope}{dV kV doc pm cdv ct oc:Value}{an od:Option Addr}{osl:Array (Option Value)}{N ps:List Str}{sp:Sp}(lk:K.lookup f=some ⟨oc,od,.func (fnOf name qual params body scope dV kV doc pm an cdv ct),osl⟩)(hcd:codeIn K cdv qual=true)(S:FnScope N ps scope)(len:∀vs H Q E,sp vs H Q E→vs.length=ps.length)(hbody:∀(A:Around) (outer:List Env) (s:Shared) (H:Hp) (vs:List V) (Q:VK) (E:XK),Room k (A.deeper (envOfC qual scope s.heap.objs.size f cdv))→sp vs H Q E →
   ∃t,PSs (gQ CX P w K mg base N qual scope f cdv A outer s H E) body t∧t {nx:=λ_ H'=>Q .non H',rt:=Q} (start N vs) H):
  FnOk P w K mg base CX (k+1) f (fnOf name qual params body scope dV kV doc pm an cdv ct) ps sp:=by
 refine⟨len,λA outer s H args us vs Q E hr e0 hb r hsp=>?_⟩;have hl:=len _ _ _ _ hsp;have KX:K.In s.heap:=e0.mod.kin.keeps λb o e=>(e0.bs b o e).1;have lim:s.heap.NoLimit:=e0.mod.nolimit.keeps λb o e=>(e0.bs b o e).1;have hkind:∀y∈ps.zip us,scope.names.lookup y.1=some .local∨(scope.names.lookup y.1=some .cell∧((cellsFrom (s.heap.objs.size+1) scope.names []).lookup y.1).isSome=true):=λ⟨n,v⟩ hy=>by
  rcases S.par n (of_mem_zip hy).1 with q|q
  ·exact .inl q
  ·exact .inr ⟨q,cellsFrom_some _ _ _ (.inl q)⟩
 refine codeAny_call_function hr.depth (KX _ _ lk) rfl S.co S.gen rfl (codeRec_of KX hcd) (hb _ _ _ _ ?_);refine wpAny_newFunctionEnv_cells S.kind hkind λenv he s1 x=>?_;subst he;refine⟨lim.keeps x.toInCall.keep,codeAny_func ?_⟩;obtain⟨t,ht,hq⟩:=hbody A outer s H vs Q E (hr.deeper _) hsp;have I:Inv (gQ CX P w K mg base N qual scope f cdv A outer s H E) [] (start N vs) H s1:=qS S hr.hd e0 hl r x;refine wpAny_mono (ht [] s1 (start N vs) H _ I hq) (λfl s' hs=>?_) λe s' hs=>hs;have fin:∀{σ':St}{H':Hp}{v:V}{u:Value},Inv (gQ CX P w K mg base N qual scope f cdv A outer s H E) [] σ' H' s'→aO v u→Q v H'→CE outer P w H s Q u s' :=
  λ{σ' H' v u} J rv q=>⟨v,H',J.os,J.bare,J.base,J.hok,rv,q⟩
 cases fl with
 |ret u =>
  obtain⟨v,σ',H',J,rv,q⟩:=hs;exact fin J rv q
 |next =>
  obtain⟨σ',H',J,q⟩:=hs;exact fin (v:=V.non) (u:=Value.none) J rfl q
 |brk =>
  obtain⟨_,_,_,q⟩:=hs;exact False.elim q
 |cont =>
  obtain⟨_,_,_,q⟩:=hs;exact False.elim q
section
variable{X:Cx}{x:Str}{p pos:Pos}{e:Expr}{es:List Expr}{t:TA}{id T:String}{r:List V→Hp→VK→Prop}
def tCB(r:List V→Hp→VK→Prop)(t:TA):TE:=λσ H Q=>t σ H λvs H1=>r vs H1 Q
theorem aF(hc:cx X (.builtin id) r)(hg:Gl X x)(hm:X.mg x=none)(hv:bootBuiltins x=some (.builtin id))(ha:PA X (e::es) t)(hn:x≠"__name__":=by decide)(hdb:(x==("__debug__":Str))=false:=by decide)(he:starEach (e::es) X.env=(false,eval e X.env)::starEach es X.env:=by rfl)(hpl:(backTo pos (starEach es X.env)).any (·.1)=false:=by rfl):PE X (.Call (.Name x p) (e::es) [] pos) (tCB r t):=by
 intro pins s σ H Q I h;refine wpAny_Call_Name_kw (jh I hg hm hv ?_ hn hdb);exact PyProof.Rows.callWith_builtin1 (thn (ha pos pins s σ H _ I h) λus s1 ⟨vs,H1,I1,r1,q1⟩=>hc pins s1 σ H1 vs us Q I1 r1 q1) he hpl
theorem aW(hc:cx X (.type T) r)(hg:Gl X x)(hm:X.mg x=none)(hv:bootBuiltins x=some (.type T))(ha:PA X (e::es) t)(hn:x≠"__name__":=by decide)(hdb:(x==("__debug__":Str))=false:=by decide)(he:starEach (e::es) X.env=(false,eval e X.env)::starEach es X.env:=by rfl)(hpl:(backTo pos (starEach es X.env)).any (·.1)=false:=by rfl):PE X (.Call (.Name x p) (e::es) [] pos) (tCB r t):=by
 intro pins s σ H Q I h;refine wpAny_Call_Name_kw (jh I hg hm hv ?_ hn hdb);exact PyProof.Rows.callWith_type1 (thn (ha pos pins s σ H _ I h) λus s1 ⟨vs,H1,I1,r1,q1⟩=>hc pins s1 σ H1 vs us Q I1 r1 q1) he hpl
end
end L2
namespace HT
open PySem PyProof.Rows
section
open PySem.SeqAt
open PySem.AutoSeq1 (wpAny_loadPart')
open PySem.MeetsSeq PySem.MeetsSeq2 PySem.MeetsSeq3
end
section
variable{prog:Program}{w:World}{A:Around}{E:Value→Shared→Prop}{s:Shared}
theorem uG{t b:Addr}{vs ws:List Value}{Q:Value→Shared→Prop}(ht:IsTup s.heap t vs.toArray)(hb:IsTup s.heap b ws.toArray)(hv:vs≠[])(h1:ws=[]→Q (.ref t) s)(h2:ws≠[]→Q (.ref s.heap.objs.size) {s with heap:=s.heap.push {cls:=.type "tuple",data:=.seq (vs++ws).toArray}})(hsz:vs.length+ws.length≤sizeLine):wpAny (model prog w) A (binaryOp .Add (.ref t) (.ref b)) Q E s:=by
 obtain⟨⟨cls,dd,data,sl⟩,ho,hc,n,hd⟩:=id ht;obtain⟨⟨cls2,dd2,data2,sl2⟩,ho2,hc2,n2,hd2⟩:=id hb;simp only at hc hd hc2 hd2;subst hc hd hc2 hd2;have e:vs.toArray++ws.toArray=(vs++ws).toArray:=by simp
 by_cases hw:ws=[]
 ·exact concat_meets ⟨_,ho,rfl⟩ ⟨_,ho2,rfl⟩ noFill_tuple_add seq_tuple_add slot_tuple_add entry_tuple_add (args_tuple_add_2 _ _)
   (tuple_addW1 t b vs.toArray ws.toArray n n2 dd dd2 sl sl2 (by simpa using hv) (by simp[hw])) ⟨ho,ho2,h1 hw⟩
 ·refine concat_meets ⟨_,ho,rfl⟩ ⟨_,ho2,rfl⟩ noFill_tuple_add seq_tuple_add slot_tuple_add entry_tuple_add (args_tuple_add_2 _ _)
   (tuple_addW2 t b vs.toArray ws.toArray n n2 dd dd2 sl sl2 (by simpa using hv) (by simpa using hw) (by rw[size_toArray,size_toArray];exact hsz)) ⟨ho,ho2,?_⟩
  rw[e];exact h2 hw
def sIx(n d:Nat):Option Int→Nat
 |none=>d
 |some v=>if v<0 then (v+(n:Int)).toNat else min v.toNat n
theorem wL(n d:Nat)(hd:d≤n)(o:Option Int):sIx n d o≤n:=by
 cases o with
 |none=>exact hd
 |some v =>
  show(if v<0 then (v+(n:Int)).toNat else min v.toNat n)≤n
  by_cases hv:v<0
  ·rw[if_pos hv];omega
  ·rw[if_neg hv];exact Nat.min_le_right _ _
theorem pP(v:Int)(n d:Nat):(if v<0 then max (v+(n:Int)) 0 else min v (n:Int))=((sIx n d (some v):Nat):Int):=by
 show(if v<0 then max (v+(n:Int)) 0 else min v (n:Int))=(((if v<0 then (v+(n:Int)).toNat else min v.toNat n):Nat):Int)
 by_cases hv:v<0
 ·simp only[if_pos hv];omega
 ·simp only[if_neg hv];omega
theorem oo(lo hi:Option Int)(n:Nat):Builtin.Slice.sliceAdjust lo hi 1 (n:Int)=(((sIx n 0 lo:Nat):Int),((sIx n n hi:Nat):Int)):=by
 have h1:¬((1:Int)<0):=by omega
 unfold Builtin.Slice.sliceAdjust;simp only[h1,if_false];refine Prod.ext ?_ ?_
 ·cases lo with
  |none=>rfl
  |some v=>exact pP v n 0
 ·cases hi with
  |none=>rfl
  |some v=>exact pP v n n
theorem oq(i j:Nat):Builtin.Slice.slicePlaces (i:Int) (j:Int) 1=j-i:=by
 unfold Builtin.Slice.slicePlaces;have h1:(1:Int)>0:=by omega
 simp only[h1,if_true,Int.ediv_one]
 split<;>omega
theorem jo{v:Value}{o:Option Int}{Q:Option Int→Shared→Prop}(p:IsPart v o)(h:Q o s):wpAny (model prog w) A (Builtin.Slice.slicePartIndex v) Q E s:=by
 cases p with
 |none=>exact slicePart_none h
 |int i t=>exact slicePart_int h
theorem iy{sl:Addr}{vl vu:Value}{lo hi:Option Int}{n:Nat}{Q:Int×Int×Nat→Shared→Prop}(hs:s.heap.IsSliceOf sl vl vu .none)(pl:IsPart vl lo)(pu:IsPart vu hi)(h:Q (((sIx n 0 lo:Nat):Int),1,sIx n n hi-sIx n 0 lo) s):wpAny (model prog w) A (Builtin.Slice.sliceApplied (.ref sl) (pure (n:Int))) Q E s:=by
 obtain⟨os,hos,hcs,hds⟩:=id hs;unfold Builtin.Slice.sliceApplied Builtin.Slice.sliceFields;refine wpAny_bind (wpAny_bind (wpAny_field hos hds (x:=vl) rfl (wpAny_bind (wpAny_field hos hds (x:=vu) rfl (wpAny_bind (wpAny_field hos hds (x:=.none) rfl (wpAny_pure ?_)))))));refine wpAny_bind (slicePart_none ?_);show wpAny _ _ (if ((1:Int)==0)=true then _ else _) _ _ s
 rw[if_neg (by decide)];refine wpAny_bind (jo pl (wpAny_bind (jo pu (wpAny_bind (wpAny_pure ?_)))));show wpAny _ _ (match Builtin.Slice.sliceAdjust lo hi 1 (n:Int)with|(lo,hi)=>pure (lo,(1:Int),Builtin.Slice.slicePlaces lo hi 1)) _ _ s
 rw[oo lo hi n];show wpAny _ _ (pure (((sIx n 0 lo:Nat):Int),(1:Int),Builtin.Slice.slicePlaces ((sIx n 0 lo:Nat):Int) ((sIx n n hi:Nat):Int) 1)) _ _ s;rw[oq];exact wpAny_pure h
theorem sw(xs:Array Value)(i k:Nat):((List.range k).filterMap λ(m:Nat)=>xs[((i:Int)+(m:Int)*1).toNat]?).toArray=((xs.toList.drop i).take k).toArray:=by
 have e:(λ(m:Nat)=>xs[((i:Int)+(m:Int)*1).toNat]?)=λm=>xs[i+m]?:=by
  funext m
  have:((i:Int)+(m:Int)*1).toNat=i+m:=by omega
  rw[this]
 rw[e];have:=pick_run xs i k;rw[List.filterMap_map]at this;have e2:((λx=>xs[x]?)∘λx=>i+x)=λm=>xs[i+m]?:=rfl;rw[e2]at this;rw[this]
theorem gS{t sl:Addr}{items:Array Value}{vl vu:Value}{lo hi:Option Int}{Q:Value→Shared→Prop}(ht:IsTup s.heap t items)(hs:s.heap.IsSliceOf sl vl vu .none)(pl:IsPart vl lo)(pu:IsPart vu hi)(hw:¬(sIx items.size 0 lo=0∧sIx items.size items.size hi=items.size))(h:Q (.ref s.heap.objs.size) {s with heap:=s.heap.push {cls:=.type "tuple",data:=.seq ((items.toList.drop (sIx items.size 0 lo)).take (sIx items.size items.size hi-sIx items.size 0 lo)).toArray}})(hsz:items.size≤sizeLine):wpAny (model prog w) A (getItem (.ref t) (.ref sl)) Q E s:=by
 have htake:sizeOk (.seq ((items.toList.drop (sIx items.size 0 lo)).take (sIx items.size items.size hi-sIx items.size 0 lo)).toArray):=by
  show((items.toList.drop (sIx items.size 0 lo)).take (sIx items.size items.size hi-sIx items.size 0 lo)).toArray.size≤sizeLine;rw[size_toArray,length_take,length_drop,length_toList];omega
 have hj:sIx items.size items.size hi≤items.size:=wL _ _ (le_refl _) hi;obtain⟨os,hos,hcs,hds⟩:=id hs;have hTs:s.TypeIs (.ref sl) "slice":=⟨os,hos,hcs⟩;unfold getItem
 try with_reducible refine wpAny_holding ?_
 first|refine wpAny_bind (wpAny_pure ?_)|skip
 refine wpAny_bind (wpAny_sequenceKey ht.typeIs (by decide) ?_);refine wpAny_bind (wpAny_callSpecial?_slot (name:=ofString "__getitem__") ht.typeIs PyProof.Rows.slot_tuple_getitem
  (wpAny_call_entry PyProof.Rows.slot_tuple_getitem ht.typeIs entry_tuple_getitem ?_ (args_tuple_getitem _ _)))
 show wpAny _ _ (Builtin.Tuple.tupleItemsOf (.ref t) >>= _) _ _ s;refine wpAny_bind (tupleItemsOf_ ht ?_);refine wpAny_bind (wpAny_typeOf hTs ?_);rw[if_pos (by decide)];refine wpAny_bind (iy hs pl pu ?_);have hno:¬((((sIx items.size 0 lo:Nat):Int)==0&&(1:Int)==1&&(sIx items.size items.size hi-sIx items.size 0 lo)==items.size)=true):=by
  intro q;rw[and_eq_true,and_eq_true]at q;have q1:((sIx items.size 0 lo:Nat):Int)=0:=eq_of_beq q.1.1;have q2:sIx items.size items.size hi-sIx items.size 0 lo=items.size:=eq_of_beq q.2;exact hw ⟨by omega,by omega⟩
 show wpAny _ _ (if (((sIx items.size 0 lo:Nat):Int)==0&&(1:Int)==1&&(sIx items.size items.size hi-sIx items.size 0 lo)==items.size)=true then _ else _) _ _ s
 rw[if_neg hno,sw]
 first
  |exact wpAny_bind (m:=Builtin.Tuple.tupleExact _) (wpAny_newObj_type (wpAny_pure ⟨_,rfl,wpAny_pure h⟩) htake)
  |exact wpAny_bind (m:=Builtin.Tuple.tupleExact _) (wpAny_newObj_type (wpAny_bind (wpAny_pure (wpAny_pure ⟨_,rfl,wpAny_pure h⟩))) htake)
  |exact wpAny_bind (wpAny_bind (m:=Builtin.Tuple.tupleExact _) (wpAny_newObj_type (wpAny_pure (wpAny_pure ⟨_,rfl,wpAny_pure h⟩)) htake))
  |exact wpAny_bind (wpAny_bind (m:=Builtin.Tuple.tupleExact _) (wpAny_newObj_type (wpAny_pure ⟨_,rfl,wpAny_pure h⟩) htake))
end
end HT
namespace L2
open PySem PySem.Spec PyProof.Rows
abbrev TO:=St→Hp→(Option Int→Hp→Prop)→Prop
def PO(X:Cx)(e:Option Expr)(t:TO):Prop :=
 ∀(pins:List (Addr×Obj))(s:Shared)(σ:St)(H:Hp)(Q:Option Int→Hp→Prop),Inv X pins σ H s→t σ H Q →
  wpAny (model X.prog X.w) X.A (evalPart e X.env) (λu s'=>∃o H',Inv X pins σ H' s'∧IsPart u o∧Q o H') X.xe s
def uH:TO:=λ_ H Q=>Q none H
def yA(t:TE):TO:=λσ H Q=>t σ H λx H1=>∃i,x=.int i∧Q (some i) H1
theorem ou{ns:List Int}:∀{us:List Value},aH (ns.map V.int) us→IntsAre us ns:=by
 induction ns with
 |nil=>intro us r;rw[map_nil]at r;cases r;exact .nil
 |cons n ns ih =>
  intro us r;rw[map_cons]at r;cases r with
  |cons r1 r2 =>
   obtain⟨t,e⟩:=r1;subst e;exact .cons n t (ih r2)
section
variable{X:Cx}{e:Expr}{te:TE}{lo hi:Option Expr}{tl th:TO}{pos p2:Pos}
theorem lz:PO X none uH:=by
 intro pins s σ H Q I h;rw[evalPart_none];exact wpAny_pure ⟨none,H,I,.none,h⟩
theorem dj(h:PE X e te):PO X (some e) (yA te):=by
 intro pins s σ H Q I hw;rw[evalPart_some];refine thn (h pins s σ H _ I hw) λu s1 hpt=>?_;obtain⟨x,H1,I1,r1,q1⟩:=hpt;obtain⟨i,rfl,q⟩:=q1;obtain⟨t,rfl⟩:=r1;exact⟨some i,H1,I1,.int i t,q⟩
def SlR(X:Cx)(r:V→Option Int→Option Int→Hp→VK→Prop):Prop :=
 ∀(pins:List (Addr×Obj))(s:Shared)(σ:St)(H:Hp)(x:V)(v vl vu:Value)(lo hi:Option Int)(sl:Addr)(Q:VK),Inv X pins σ H s→aO x v→s.heap.IsSliceOf sl vl vu .none→IsPart vl lo→IsPart vu hi→r x lo hi H Q →
  ∃T id,typeLookup (.type T) "__getitem__"=pure (some (.builtin id))∧s.TypeIs v T∧wpAny (model X.prog X.w) X.A (getItem v (.ref sl)) (EP X pins σ Q) X.xe s
def tSl(r:V→Option Int→Option Int→Hp→VK→Prop)(te:TE)(tl th:TO):TE:=λσ H Q=>te σ H λx H1=>tl σ H1 λl H2=>th σ H2 λu H3=>r x l u H3 Q
theorem eA{r:V→Option Int→Option Int→Hp→VK→Prop}(hr:SlR X r)(he:PE X e te)(hl:PO X lo tl)(hu:PO X hi th):PE X (.Subscript e (.Slice lo hi none p2) pos) (tSl r te tl th):=by
 intro pins s σ H Q I h;refine Subscript_ (thn (he pins s σ H _ I h) λv s1 hpt=>?_);obtain⟨x,H1,I1,r1,q1⟩:=hpt;refine wpAny_Slice (thn (hl pins s1 σ H1 _ I1 q1) λvl s2 ⟨l,H2,I2,pl,q2⟩=>thn (hu pins s2 σ H2 _ I2 q2) λvu s3 hpt=>?_);obtain⟨u,H3,I3,pu,q3⟩:=hpt;rw[evalPart_none];refine wpAny_pure ?_;have I4:Inv X pins σ H3 {s3 with heap:=s3.heap.push {cls:=.type "slice",data:=.fields #[vl,vu,.none]}}:=I3.kept (t':=s3.toks) λb ob q=>get?_push_of_some _ q
 obtain⟨T,id,hT,ht,hg⟩:=hr pins {s3 with heap:=s3.heap.push {cls:=.type "slice",data:=.fields #[vl,vu,.none]}} σ H3 x v vl vu l u s3.heap.objs.size Q I4 r1 (Heap.IsSliceOf.new ..) pl pu q3
 show wpAny (model X.prog X.w) X.A (subscriptTail e (.Slice lo hi none p2) v (.ref s3.heap.objs.size)) (EP X pins σ Q) X.xe {s3 with heap:=s3.heap.push {cls:=.type "slice",data:=.fields #[vl,vu,.none]}}
 exact tail_any (ops:=[.ref s3.heap.objs.size,v]) ht hT hg (by with_unfolding_all rfl)
def gT(xs:List V)(lo hi:Option Int):List V:=(xs.drop (HT.sIx xs.length 0 lo)).take (HT.sIx xs.length xs.length hi-HT.sIx xs.length 0 lo)
theorem mq(xs:List V)(lo hi:Option Int):(gT xs lo hi).length≤xs.length:=by
 unfold gT;rw[length_take,length_drop];omega
def uI(K:PySem.W.Frag):V→Option Int→Option Int→Hp→VK→Prop:=λx lo hi H Q=>∃a xs,x=.ref a∧SqT K H a xs ∧
 ¬(HT.sIx xs.length 0 lo=0∧HT.sIx xs.length xs.length hi=xs.length)∧∀p,H p=none→Q (.ref p) (upd H p (.tup (gT xs lo hi)))
theorem iz:SlR X (uI X.K):=by
 intro pins s σ H x v vl vu lo hi sl Q I rx hs pl pu h;obtain⟨a,xs,rfl,hx,hw,q⟩:=h;cases rx;obtain⟨its,r,ht,hz⟩:=I.tuple hx;have hlen:its.toArray.size=xs.length:=by rw[size_toArray];exact r.length.symm
 refine⟨"tuple",_,PyProof.Rows.slot_tuple_getitem.lookup,ht.typeIs,?_⟩;refine HT.gS ht hs pl pu (by rw[hlen];exact hw) ?_ (by rw[hlen];exact hz);rw[hlen];refine⟨.ref s.heap.objs.size,_,I.laid (t':=s.toks) (o:=.tup (gT xs lo hi)) (λb ob q=>get?_push_of_some _ q) (le_refl _) ?_,rfl,q _ (I.hok.fresh (le_refl _))⟩;exact⟨le_trans (mq xs lo hi) hz,_,(r.drop (HT.sIx xs.length 0 lo)).take (HT.sIx xs.length xs.length hi-HT.sIx xs.length 0 lo),IsTup.new _ _⟩
def wc(K:PySem.W.Frag):R2:=λx y H Q=>∃a b xs ys,x=.ref a∧y=.ref b∧SqT K H a xs∧SqT K H b ys∧xs≠[]∧xs.length+ys.length≤sizeLine ∧
 (ys=[]→Q (.ref a) H)∧(ys≠[]→∀p,H p=none→Q (.ref p) (upd H p (.tup (xs++ys))))
theorem aH.nil_iff{xs:List V}{us:List Value}(r:aH xs us):us=[]↔xs=[]:=by
 cases r with
 |nil=>simp
 |cons _ _=>simp
theorem iY:OpR X (binaryOp .Add) (wc X.K):=by
 intro pins s σ H x y v u Q I rx ry h;obtain⟨a,b,xs,ys,rfl,rfl,ha,hb,hx,hz,q1,q2⟩:=h;cases rx;cases ry;obtain⟨its,r1,p1,_⟩:=I.tuple ha;obtain⟨its2,r2,p2,_⟩:=I.tuple hb;refine HT.uG p1 p2 (λz=>hx (r1.nil_iff.mp z)) (λz=>⟨.ref a,H,I,rfl,q1 (r2.nil_iff.mp z)⟩) (λz=>?_) (by rw[←r1.length,←r2.length];exact hz);refine⟨.ref s.heap.objs.size,_,I.laid (t':=s.toks) (o:=.tup (xs++ys)) (λb ob q=>get?_push_of_some _ q) (le_refl _) ?_,rfl,q2 (λw=>z (r2.nil_iff.mpr w)) _ (I.hok.fresh (le_refl _))⟩;exact⟨by rw[length_append];exact hz,_,r1.append r2,IsTup.new _ _⟩
end
def ixN(n:Nat)(i:Int):Option Nat:=if 0≤i then (if i<n then some i.toNat else none)else if -(n:Int)≤i then some (i+n).toNat else none
def atI{α:Type}(xs:List α)(i:Int):Option α:=(ixN xs.length i).bind λj=>xs[j]?
theorem pQ{n:Nat}{i:Int}{j:Nat}(h:ixN n i=some j):seqIndex? i n=some j∧j<n∧-(n:Int)≤i∧i<n:=by
 unfold ixN at h
 by_cases h0:0≤i
 ·rw[if_pos h0]at h
  by_cases h1:i<n
  ·rw[if_pos h1]at h;have e:i.toNat=j:=Option.some.inj h;exact⟨by rw[seqIndex_of h0 h1,e],by omega,by omega,h1⟩
  ·rw[if_neg h1]at h;cases h
 ·rw[if_neg h0]at h
  by_cases h1:-(n:Int)≤i
  ·rw[if_pos h1]at h;have e:(i+n).toNat=j:=Option.some.inj h;exact⟨by rw[seqIndex_neg (by omega) h1,e],by omega,h1,by omega⟩
  ·rw[if_neg h1]at h;cases h
theorem pS{α:Type}{xs:List α}{i:Int}{v:α}(h:atI xs i=some v):∃j,seqIndex? i xs.length=some j∧xs[j]?=some v∧j<xs.length∧-(xs.length:Int)≤i∧i<xs.length:=by
 unfold atI at h;cases e:ixN xs.length i with
 |none=>rw[e]at h;cases h
 |some j =>
  rw[e]at h;obtain⟨h1,h2,h3,h4⟩:=pQ e;exact⟨j,h1,h,h2,h3,h4⟩
theorem gU{α:Type}{xs:List α}{j:Nat}{v:α}(h:xs[j]?=some v):atI xs (j:Int)=some v:=by
 have hj:j<xs.length:=(List.getElem?_eq_some_iff.mp h).1;have e:ixN xs.length (j:Int)=some j:=by
  unfold ixN;rw[if_pos (by omega),if_pos (by omega)];simp
 unfold atI;rw[e];exact h
theorem sx{α:Type}(xs:List α)(v:α):atI (xs++[v]) (-1)=some v:=by
 have hl:(xs++[v]).length=xs.length+1:=by simp
 have e:ixN (xs++[v]).length (-1)=some xs.length:=by
  unfold ixN;rw[hl,if_neg (by decide),if_pos (by omega)]
  congr 1
  omega
 unfold atI;rw[e];show(xs++[v])[xs.length]?=some v;simp
def uJ(b:Expr):Prop:=∀o i,subscripted b false o i=operate [o,i] (getItem o i)
def IxR(X:Cx)(r:R2):Prop :=
 ∀(value slice:Expr)(pins:List (Addr×Obj))(s:Shared)(σ:St)(H:Hp)(x y:V)(v u:Value)(Q:VK),Inv X pins σ H s→aO x v→aO y u→r x y H Q →
  subscripted slice false v u=operate [v,u] (getItem v u)→wpAny (model X.prog X.w) X.A (subscriptTail value slice v u) (EP X pins σ Q) X.xe s
def MtR(X:Cx)(id:String)(r:V→List V→Hp→VK→Prop):Prop :=
 ∀(pins:List (Addr×Obj))(s:Shared)(σ:St)(H:Hp)(x:V)(xs:List V)(v:Value)(us:List Value)(Q:VK),Inv X pins σ H s→aO x v→aH xs us→r x xs H Q →
  wpAny (model X.prog X.w) X.A (call (.builtin id) (v::us)) (EP X pins σ Q) X.xe s
section
variable{X:Cx}{a b:Expr}{ta tb:TE}{pos:Pos}
theorem aB{r:R2}(hr:IxR X r)(ha:PE X a ta)(hb:PE X b tb)(hs:uJ b):PE X (.Subscript a b pos) (tOp r ta tb):=by
 intro pins s σ H Q I h;exact Subscript_ (wF ha hb I h λv u s2 x y H2 I2 rx ry q=>hr a b pins s2 σ H2 x y v u Q I2 rx ry q (hs _ _))
def zD(K:PySem.W.Frag):R2:=λx y H Q=>∃p xs i v,x=.ref p∧y=.int i∧SqL K H p xs∧atI xs i=some v∧Q v H
def iT(K:PySem.W.Frag):R2:=λx y H Q=>∃p xs i v,x=.ref p∧y=.int i∧SqT K H p xs∧atI xs i=some v∧Q v H
theorem bx:IxR X (zD X.K):=by
 intro value slice pins s σ H x y v u Q I rx ry h hs;obtain⟨p,xs,i,z,rfl,rfl,hq,he,q⟩:=h;cases rx;obtain⟨t,rfl⟩:=ry;obtain⟨its,r,pl,hz⟩:=I.list hq;obtain⟨j,h1,h2,h3,h4,h5⟩:=pS he;obtain⟨w,ew,rw'⟩:=r.get h2;have hl:=r.length;have hn:=jm;have fin:EP X pins σ Q w s:=⟨z,H,I,rw',q⟩
 by_cases h0:0≤i
 ·have hj:i.toNat=j:=by
   rw[seqIndex_of h0 h5]at h1;exact Option.some.inj h1
  exact item_listR pl.isList h0 (by omega) (by rw[hj];simpa using ew) fin hs
 ·have hj:(i+(its.toArray.size:Int)).toNat=j:=by
   rw[seqIndex_neg (by omega) h4]at h1;rw[size_toArray,←hl];exact Option.some.inj h1
  exact subscriptTail_builtinR (x:=w) pl.isList.typeIs slot_list_getitem.lookup
   (wpAny_getItem_list_neg (Q:=λr s'=>r=w∧EP X pins σ Q r s') pl.isList (by omega) (by rw[size_toArray]<;>omega) (by omega) (by rw[hj];simpa using ew) ⟨rfl,fin⟩) hs
theorem aA:IxR X (iT X.K):=by
 intro value slice pins s σ H x y v u Q I rx ry h hs;obtain⟨p,xs,i,z,rfl,rfl,hq,he,q⟩:=h;cases rx;obtain⟨t,rfl⟩:=ry;obtain⟨its,r,pl,hz⟩:=I.tuple hq;obtain⟨j,h1,h2,h3,h4,h5⟩:=pS he;obtain⟨w,ew,rw'⟩:=r.get h2;have hl:=r.length;have hn:=jm;have fin:EP X pins σ Q w s:=⟨z,H,I,rw',q⟩;exact subscriptTail_builtinR (x:=w) pl.typeIs slot_tuple_getitem.lookup
  (getItem_tuple (j:=j) (Q:=λr s'=>r=w∧EP X pins σ Q r s') pl (by omega) (by omega) (by rw[size_toArray,←hl];exact h1) (by simpa using ew) ⟨rfl,fin⟩) hs
def cQ:V→Bool
 |.non=>true
 |.bl _=>true
 |.int _=>true
 |.str _=>true
 |_=>false
def eqV:V→V→Bool
 |.non,.non=>true
 |.bl a,.bl b=>a==b
 |.bl a,.int b=>(if a then 1 else 0)==b
 |.int a,.bl b=>a==(if b then 1 else 0)
 |.int a,.int b=>a==b
 |.str a,.str b=>a==b
 |_,_=>false
theorem ow{A:Around}{s:Shared}{y x:V}{u v:Value}(ry:aO y u)(rx:aO x v)(fy:cQ y=true)(fx:cQ x=true):EqAt A s u v (eqV y x):=by
 cases y with
 |non =>
  cases ry;cases x with
  |non=>cases rx;exact EqAt.same _
  |bl b=>cases rx;exact EqAt.none_bool b
  |int b=>obtain⟨t,rfl⟩:=rx;exact EqAt.none_int b t
  |str b=>obtain⟨t,rfl⟩:=rx;exact EqAt.none_str b t
  |_=>exact absurd (show false=true from fx) Bool.false_ne_true
 |bl a =>
  cases ry;cases x with
  |non=>cases rx;exact EqAt.bool_none a
  |bl b=>cases rx;exact EqAt.bool_bool a b
  |int b=>obtain⟨t,rfl⟩:=rx;exact EqAt.bool_int a b t
  |str b=>obtain⟨t,rfl⟩:=rx;exact EqAt.bool_str a b t
  |_=>exact absurd (show false=true from fx) Bool.false_ne_true
 |int a =>
  obtain⟨t',rfl⟩:=ry;cases x with
  |non=>cases rx;exact EqAt.int_none a t'
  |bl b=>cases rx;exact EqAt.int_bool a t' b
  |int b=>obtain⟨t,rfl⟩:=rx;exact EqAt.int_int a t' b t
  |str b=>obtain⟨t,rfl⟩:=rx;exact EqAt.int_str a t' b t
  |_=>exact absurd (show false=true from fx) Bool.false_ne_true
 |str a =>
  obtain⟨t',rfl⟩:=ry;cases x with
  |non=>cases rx;exact EqAt.str_none a t'
  |bl b=>cases rx;exact EqAt.str_bool a t' b
  |int b=>obtain⟨t,rfl⟩:=rx;exact EqAt.str_int a t' b t
  |str b=>obtain⟨t,rfl⟩:=rx;exact EqAt.str_str a t' b t
  |_=>exact absurd (show false=true from fx) Bool.false_ne_true
 |_=>exact absurd (show false=true from fy) Bool.false_ne_true
def eqU(x:V)(u:Value):Bool:=match u with
 |.none=>eqV .non x
 |.bool b=>eqV (.bl b) x
 |.int i _=>eqV (.int i) x
 |.str z _=>eqV (.str z) x
 |_=>false
theorem sy{x y:V}{u:Value}(r:aO y u)(f:cQ y=true):eqU x u=eqV y x:=by
 cases y with
 |non=>cases r;rfl
 |bl b=>cases r;rfl
 |int i=>obtain⟨t,rfl⟩:=r;rfl
 |str z=>obtain⟨t,rfl⟩:=r;rfl
 |_=>exact absurd (show false=true from f) Bool.false_ne_true
theorem lB{x:V}:∀{xs:List V}{us:List Value},aH xs us→xs.all cQ=true→us.any (eqU x)=xs.any λy=>eqV y x
 |_,_,.nil,_=>rfl
 |y::xs,u::us,.cons r t,f=>by
  rw[List.all_cons,and_eq_true]at f;rw[any_cons,any_cons,sy r f.1,lB t f.2]
theorem jp{A:Around}{s:Shared}{x:V}{v:Value}(rx:aO x v)(fx:cQ x=true):∀{xs:List V}{us:List Value},aH xs us→xs.all cQ=true→∀u∈us,EqAt A s u v (eqU x u)
 |_,_,.nil,_=>λu hu=>by cases hu
 |y::xs,u::us,.cons r t,f=>λu' hu=>by
  rw[List.all_cons,and_eq_true]at f;rcases mem_cons.mp hu with rfl|hu
  ·rw[sy r f.1];exact ow r rx f.1 fx
  ·exact jp rx fx t f.2 u' hu
def inV(x:V)(xs:List V):Bool:=xs.any λy=>eqV y x
def rIn(K:PySem.W.Frag)(neg:Bool):R2:=λx y H Q=>∃p xs,y=.ref p∧(SqL K H p xs∨SqT K H p xs)∧cQ x=true∧xs.all cQ=true∧Q (.bl (if neg then !inV x xs else inV x xs)) H
theorem qT:OpR X (compareOp .In) (rIn X.K false):=by
 intro pins s σ H x y v u Q I rx ry h;obtain⟨p,xs,rfl,hq,fx,fs,q⟩:=h;cases ry;rcases hq with hq|hq
 ·obtain⟨its,r,pl,hz⟩:=I.list hq;refine in_listAt (eqU x) pl.isList (λw hw=>jp rx fx r fs w (by simpa using hw)) ⟨.bl _,H,I,rfl,?_⟩;rw[show its.toArray.any (eqU x)=its.any (eqU x)by simp,lB r fs];exact q
 ·obtain⟨its,r,pl,hz⟩:=I.tuple hq;refine SeqAt.in_tupleAt (eqU x) pl (λw hw=>jp rx fx r fs w (by simpa using hw)) ⟨.bl _,H,I,rfl,?_⟩;rw[show its.toArray.any (eqU x)=its.any (eqU x)by simp,lB r fs];exact q
theorem bo:cx X (.builtin "len") (λxs H Q=>∃p ys,xs=[.ref p]∧(SqL X.K H p ys∨SqT X.K H p ys)∧Q (.int ys.length) H):=by
 intro pins s σ H xs us Q I r h;obtain⟨p,ys,rfl,hq,q⟩:=h;obtain⟨u,rfl,rx⟩:=de r;cases rx;have hn:=jm;rcases hq with hq|hq
 ·obtain⟨its,r',pl,hz⟩:=I.list hq;have hlen:=r'.length;exact Calls.call_len_list pl.isList (by simp only[size_toArray]<;>omega) ⟨.int ys.length,H,I.tok _,⟨s.toks+1,by rw[size_toArray,hlen]⟩,q⟩
 ·obtain⟨its,r',pl,hz⟩:=I.tuple hq;have hlen:=r'.length;exact len_tuple pl (by simp only[size_toArray]<;>omega) ⟨.int ys.length,H,I.tok _,⟨s.toks+1,by rw[size_toArray,hlen]⟩,q⟩
theorem lC:cx X (.builtin "len") (λxs H Q=>∃z,xs=[.str z]∧z.length≤sizeLine∧Q (.int z.length) H):=by
 intro pins s σ H xs us Q I r h;obtain⟨z,rfl,hz,q⟩:=h;obtain⟨u,rfl,t,rfl⟩:=de r;have hn:=jm;exact len_str (by omega) ⟨.int z.length,H,I.tok _,⟨_,rfl⟩,q⟩
theorem gW:cx X (.type "list") (λxs H Q=>∃p ys,xs=[.ref p]∧(SqL X.K H p ys∨SqT X.K H p ys)∧∀l,H l=none→Q (.ref l) (upd H l (.lst ys))):=by
 intro pins s σ H xs us Q I r h;obtain⟨p,ys,rfl,hq,q⟩:=h;obtain⟨u,rfl,rx⟩:=de r;cases rx;have fin:∀(its:List Value),aH ys its→ys.length≤sizeLine→∀(h':Heap)(c':Nat),(∀b o',s.heap.get? b=some o'→h'.get? b=some o') →
   h'.get? s.heap.objs.size=some {cls:=.type "list",dict:=none,data:=.seq its.toArray c',slots:=#[]}→EP X pins σ Q (.ref s.heap.objs.size) {s with heap:=h'}:=λits r' hz h' c' kp e =>
  ⟨.ref s.heap.objs.size,_,I.laid (t':=s.toks) kp (le_refl _) (show bt X.prog X.w _ h' _ (.lst ys)from⟨hz,its,c',r',e⟩),rfl,q _ (I.hok.fresh (le_refl _))⟩
 rcases hq with hq|hq
 ·obtain⟨its,r',pl,hz⟩:=I.list hq;have hlen:=r'.length;obtain⟨o,ho,hc,n,hd⟩:=pl.isList;exact call_list_seq p (.inl rfl) ho hc hd (λh' c' kp e=>fin its r' hz h' c' kp e) (by simp only[size_toArray]<;>omega)
 ·obtain⟨its,r',pl,hz⟩:=I.tuple hq;have hlen:=r'.length;obtain⟨o,ho,hc,n,hd⟩:=pl;exact call_list_seq p (.inr rfl) ho hc hd (λh' c' kp e=>fin its r' hz h' c' kp e) (by simp only[size_toArray]<;>omega)
theorem cb:cx X (.type "tuple") (λxs H Q=>∃p ys,xs=[.ref p]∧((SqL X.K H p ys∧∀l,H l=none→Q (.ref l) (upd H l (.tup ys)))∨(SqT X.K H p ys∧Q (.ref p) H))):=by
 intro pins s σ H xs us Q I r h;obtain⟨p,ys,rfl,h⟩:=h;obtain⟨u,rfl,rx⟩:=de r;cases rx;rcases h with⟨hq,q⟩|⟨hq,q⟩
 ·obtain⟨its,r',pl,hz⟩:=I.list hq;have hlen:=r'.length;refine call_tuple_list pl.isList (λh' kp=>?_) (by simp only[size_toArray]<;>omega);have I1:Inv X pins σ H {s with heap:=h'}:=I.kept (t':=s.toks) kp
  have I2:Inv X pins σ (upd H h'.objs.size (.tup ys)) {s with heap:=h'.push {cls:=.type "tuple",data:=.seq its.toArray}} :=
   I1.laid (t':=s.toks) (λb o e=>get?_push_of_some _ e) (le_refl _) (show bt X.prog X.w _ _ _ (.tup ys)from⟨hz,its,r',IsTup.new _ _⟩)
  exact⟨.ref h'.objs.size,_,I2,rfl,q _ (I1.hok.fresh (le_refl _))⟩
 ·obtain⟨its,r',pl,hz⟩:=I.tuple hq;exact call_tuple_same pl ⟨.ref p,H,I,rfl,q⟩
def tyV(K:PySem.W.Frag)(T:String)(x:V)(H:Hp):Prop:=match x with
 |.str _=>T="str"
 |.int _=>T="int"
 |.ref p=>(T="list"∧∃xs,SqL K H p xs)∨(T="tuple"∧∃o,K.lookup p=some o∧o.cls=.type "tuple"∧o.dict=none) ∨
   (T="dict"∧((∃kvs,H p=some (.dK kvs))∨∃kvs,H p=some (.dT kvs)))∨(T="set"∧∃S n,H p=some (.set S n))
 |_=>False
theorem sB{pins:List (Addr×Obj)}{σ:St}{H:Hp}{s:Shared}{T:String}{x:V}{v:Value}(I:Inv X pins σ H s)(r:aO x v)(ty:tyV X.K T x H):
  s.TypeIs v T∧∀a,v=.ref a→∃ob,s.heap.get? a=some ob∧ob.dict=none:=by
 cases x with
 |str z =>
  obtain⟨t,rfl⟩:=r;cases (show T="str" from ty);exact⟨typeIs_str s z t,λ_ e=>nomatch e⟩
 |int i =>
  obtain⟨t,rfl⟩:=r;cases (show T="int" from ty);exact⟨typeIs_int s i t,λ_ e=>nomatch e⟩
 |ref p =>
  cases r;rcases ty with⟨rfl,xs,hq⟩|⟨rfl,o,hk,hc,hd⟩|⟨rfl,hk⟩|⟨rfl,S,n,hk⟩
  ·obtain⟨its,_,pl,_⟩:=I.list hq;refine⟨pl.isList.typeIs,λa e=>?_⟩;cases e;obtain⟨o,n,e,c,hd,_⟩:=pl;exact⟨o,e,hd⟩
  ·refine⟨⟨o,I.kIn p o hk,hc⟩,λa e=>?_⟩;cases e;exact⟨o,I.kIn _ o hk,hd⟩
  ·have z:∃o,s.heap.get? p=some o∧o.ExactDict:=by
    rcases hk with⟨kvs,hk⟩|⟨kvs,hk⟩
    ·obtain⟨_,_,_,_,o,_,_,e,ex,_⟩:=I.hok p _ hk;exact⟨o,e,ex⟩
    ·obtain⟨_,_,_,_,o,_,_,e,ex,_⟩:=I.hok p _ hk;exact⟨o,e,ex⟩
   obtain⟨o,e,ex⟩:=z;refine⟨⟨o,e,ex.1⟩,λa e2=>?_⟩;cases e2;exact⟨o,e,ex.2.1⟩
  ·obtain⟨o,_,_,_,e,ex,_⟩:=I.hok p _ hk;refine⟨⟨o,e,ex.1⟩,λa e2=>?_⟩;cases e2;exact⟨o,e,ex.2.1⟩
 |_=>exact False.elim ty
def zE(K:PySem.W.Frag)(T:String)(r:V→List V→Hp→VK→Prop)(to:TE):TE:=λσ H Q=>to σ H λx H1=>tyV K T x H1∧r x [] H1 Q
def tBM(K:PySem.W.Frag)(T:String)(r:V→List V→Hp→VK→Prop)(to:TE)(t:TA):TE:=λσ H Q=>to σ H λx H1=>tyV K T x H1∧t σ H1 λxs H2=>r x xs H2 Q
variable{o e:Expr}{es:List Expr}{to:TE}{t:TA}{name:Str}{apos cpos:Pos}{T id:String}{r:V→List V→Hp→VK→Prop}
theorem sC(pa:PlainAttrs T)(slot:Slot T name id)(hty:typeOf (.builtin id)=pure (.type "method_descriptor"))(hm:MtR X id r)(ho:PE X o to)(hbase:attributeBase o name X.env (eval o X.env)=eval o X.env:=by rfl)(hline:(apos.endLine==cpos.line)=true:=by rfl):PE X (.Call (.Attribute o name apos) [] [] cpos) (zE X.K T r to):=by
 intro pins s σ H Q I h;refine wpAny_Call_method0_late hbase hline (thn (ho pins s σ H _ I h) λv s1 hpt=>?_);obtain⟨x,H1,I1,r1,ty,q1⟩:=hpt;obtain⟨h1,h2⟩:=sB I1 r1 ty;exact⟨T,id,pa,slot,hty,h1,h2,callWith_builtin rfl (PySem.evalArgs_none (hm pins s1 σ H1 x [] v [] Q I1 r1 .nil q1))⟩
theorem fk(pa:PlainAttrs T)(slot:Slot T name id)(hty:typeOf (.builtin id)=pure (.type "method_descriptor"))(hm:MtR X id r)(ho:PE X o to)(ha:PA X (e::es) t)(hbase:attributeBase o name X.env (eval o X.env)=eval o X.env:=by rfl)(hfew:((backTo cpos (starEach (e::es) X.env)).all (λx=>!x.1)&&(backToKw cpos (keywordEach [] X.env)).all (λx=>x.1.isSome)
   && decide ((e::es).length+([]:List Keyword).length+(if ([]:List Keyword).isEmpty then 0 else 1)<30))=true:=by rfl)(hline:(apos.endLine==cpos.line)=true:=by rfl)(hs:starEach (e::es) X.env=(false,eval e X.env)::starEach es X.env:=by rfl)(hplain:(backTo cpos (starEach es X.env)).any (·.1)=false:=by rfl):
  PE X (.Call (.Attribute o name apos) (e::es) [] cpos) (tBM X.K T r to t):=by
 intro pins s σ H Q I h;refine wpAny_Call_method_late hbase hfew hline rfl (thn (ho pins s σ H _ I h) λv s1 hpt=>?_);obtain⟨x,H1,I1,r1,ty,q1⟩:=hpt;obtain⟨h1,h2⟩:=sB I1 r1 ty;refine⟨T,id,pa,slot,hty,h1,h2,?_⟩;have hA:=ha cpos pins s1 σ H1 _ I1 q1;rw[hs]at hA⊢;refine callWith_builtin (by show(false||(backTo cpos (starEach es X.env)).any (·.1))=false;rw[hplain]<;>rfl) (evalArgs_plain ?_);exact thn hA λus s2 ⟨vs,H2,I2,r2,q2⟩=>hm pins s2 σ H2 x vs v us Q I2 r1 r2 q2
end
def MtM(X:Cx)(id:String)(r:V→List V→Hp→VK→Prop):Prop :=
 ∀(pins:List (Addr×Obj))(s:Shared)(σ:St)(H:Hp)(x:V)(xs:List V)(v:Value)(us:List Value)(Q:VK),Inv X pins σ H s→aO x v→aH xs us→r x xs H Q →
  wpAny (model X.prog X.w) X.A (call (.builtin id) (v::us)) (EP X pins σ Q) X.xe s
theorem aH.one:∀{x:V}{us:List Value},aH [x] us→∃u,us=[u]∧aO x u
 |_,_,.cons r .nil=>⟨_,rfl,r⟩
theorem aH.two:∀{x y:V}{us:List Value},aH [x,y] us→∃u v,us=[u,v]∧aO x u∧aO y v
 |_,_,_,.cons r (.cons q .nil)=>⟨_,_,rfl,r,q⟩
theorem aH.zero:∀{us:List Value},aH [] us→us=[]
 |_,.nil=>rfl
theorem aH.dropLast{xs:List V}{us:List Value}(h:aH xs us):aH xs.dropLast us.dropLast:=by
 induction h with
 |nil=>exact .nil
 |cons r t ih =>
  cases t with
  |nil=>exact .nil
  |cons q t'=>exact .cons r ih
theorem aH.eraseIdx:∀{xs:List V}{us:List Value}(i:Nat),aH xs us→aH (xs.eraseIdx i) (us.eraseIdx i)
 |_,_,_,.nil=>.nil
 |_,_,0,.cons _ t=>t
 |_,_,i+1,.cons r t=>.cons r (aH.eraseIdx i t)
theorem aH.rep{xs:List V}{us:List Value}(h:aH xs us):∀k:Nat,aH (replicate k xs).flatten (replicate k us).flatten
 |0=>.nil
 |k+1=>by
  rw[replicate_succ,replicate_succ,flatten_cons,flatten_cons];exact aH.append h (aH.rep h k)
theorem ox{α:Type}(l:List α):l.eraseIdx (l.length-1)=l.dropLast:=by
 induction l with
 |nil=>rfl
 |cons a r ih =>
  cases r with
  |nil=>rfl
  |cons b r =>
   have e:(a::b::r).length-1=((b::r).length-1)+1:=by
    have h1:(a::b::r).length=r.length+2:=rfl;have h2:(b::r).length=r.length+1:=rfl;omega
   rw[e,List.eraseIdx_cons_succ,ih]
   all_goals rfl
theorem kt{α:Type}:∀(l:List α)(i:Nat),(l.eraseIdx i).length≤l.length
 |[],_=>le_refl _
 |_::_,0=>le_succ _
 |_::r,i+1=>Nat.succ_le_succ (kt r i)
theorem ku(its:List Value):∀(k:Nat)(acc:List Value),
  foldl (λx1 x2=>x1++x2) acc.toArray (replicate k its.toArray)=(acc++(replicate k its).flatten).toArray
 |0,acc=>by simp
 |k+1,acc=>by
  have e:acc.toArray++its.toArray=(acc++its).toArray:=by simp
  have e2:(acc++its)++(replicate k its).flatten=acc++(replicate (k+1) its).flatten:=by
   rw[replicate_succ,flatten_cons,append_assoc]
  rw[←e2,←ku its k (acc++its),←e,replicate_succ,foldl_cons]
section
variable{X:Cx}{pins:List (Addr×Obj)}{σ:St}{H:Hp}{s:Shared}{l b:Addr}{xs ys zs:List V}
theorem Inv.lset{its its':List Value}{n:Nat}{f:Array Value→Array Value}{t':Nat}(I:Inv X pins σ H s)(hH:H l=some (.lst xs))(e:s.heap.get? l=some {cls:=.type "list",data:=.seq its.toArray n})(hf:f its.toArray=its'.toArray)(hv:aH ys its')(hz:ys.length≤sizeLine):
  Inv X pins σ (upd H l (.lst ys)) {s with heap:=s.heap.update l (Obj.mapSeq f),toks:=t'}:=by
 have q:=PySem.IsL.update e f;rw[hf]at q;refine I.write (x:=l) (e:=l) (by rw[hH];exact trivial) (.inl rfl) (λb' u hb hu=>(Heap.get?_update_other s.heap (Obj.mapSeq f) (symm hb)).trans hu) ⟨_,q⟩ ?_;exact⟨hz,its',_,hv,q⟩
theorem Inv.lnew{its:List Value}{t':Nat}(I:Inv X pins σ H s)(hv:aH ys its)(hz:ys.length≤sizeLine):
  Inv X pins σ (upd H s.heap.objs.size (.lst ys)) {s with heap:=s.heap.push {cls:=.type "list",data:=.seq its.toArray},toks:=t'} :=
 I.laid (λ_ _ q=>get?_push_of_some _ q) (le_refl _) ⟨hz,its,0,hv,get?_push_size _ rfl⟩
theorem Inv.fresh(I:Inv X pins σ H s):H s.heap.objs.size=none:=I.hok.fresh (le_refl _)
theorem Inv.lstM(I:Inv X pins σ H s)(hH:H l=some (.lst xs)):xs.length≤sizeLine∧∃(its:List Value) (n:Nat),aH xs its∧xs.length=its.length∧s.heap.get? l=some {cls:=.type "list",data:=.seq its.toArray n}:=by
 obtain⟨z,its,n,r,e⟩:=I.hok l _ hH;exact⟨z,its,n,r,r.length,e⟩
theorem sD{n:Nat}(h:n≤sizeLine):Builtin.List.listTooLong n=false:=by
 unfold Builtin.List.listTooLong;exact decide_eq_false (by omega)
def uK:V→List V→Hp→VK→Prop:=λx vs H Q=>∃l xs y,x=.ref l∧vs=[y]∧H l=some (.lst xs)∧xs.length<sizeLine∧Q .non (upd H l (.lst (xs++[y])))
theorem ce:MtM X "list.append" uK:=by
 intro pins s σ H x vs v us Q I rx rv h;obtain⟨l,xs,y,rfl,rfl,hH,hz,q⟩:=h;cases rx;obtain⟨u,rfl,ru⟩:=rv.one;obtain⟨z,its,n,r,hl,e⟩:=I.lstM hH;refine call_meets F.slot_list_append ⟨_,e,rfl⟩ F.entry_list_append (F.args_list_append_2 _ _) (PySem.list_append l its.toArray n u (by rw[size_toArray];omega)) ⟨e,?_⟩;refine⟨.non,_,I.lset (its':=its++[u]) hH e (by simp) (r.append (.cons ru .nil)) ?_,rfl,q⟩;rw[length_append,length_singleton];omega
def zF:V→List V→Hp→VK→Prop:=λx vs H Q=>∃l xs y,x=.ref l∧vs=[]∧H l=some (.lst xs)∧xs[xs.length-1]?=some y∧Q y (upd H l (.lst xs.dropLast))
theorem sE:MtM X "list.pop" zF:=by
 intro pins s σ H x vs v us Q I rx rv h;obtain⟨l,xs,y,rfl,rfl,hH,hy,q⟩:=h;cases rx;have hus:=rv.zero;subst hus;obtain⟨z,its,n,r,hl,e⟩:=I.lstM hH;obtain⟨u,hu,ru⟩:=r.get hy;have hy':its.toArray[its.toArray.size-1]?=some u:=by
  show its.toArray[its.length-1]?=some u;rw[←getElem?_toList,←hl];exact hu
 refine call_meets F.slot_list_pop ⟨_,e,rfl⟩ F.entry_list_pop (F.args_list_pop_1 _) (MeetsSeq.list_pop_last l its.toArray n u hy' (by rw[size_toArray];omega)) ⟨e,?_⟩;refine⟨y,_,I.lset (its':=its.dropLast) hH e ?_ r.dropLast ?_,ru,q⟩
 ·show its.toArray.eraseIdxIfInBounds (its.toArray.size-1)=its.dropLast.toArray;rw[size_toArray,List.eraseIdxIfInBounds_toArray,ox]
 ·rw[List.length_dropLast];omega
def wM:V→List V→Hp→VK→Prop:=λx vs H Q=>∃l xs i k y,x=.ref l∧vs=[.int i]∧H l=some (.lst xs)∧-(2 ^ 63)≤i∧i<2 ^ 63∧seqIndex? i xs.length=some k∧xs[k]?=some y∧Q y (upd H l (.lst (xs.eraseIdx k)))
theorem sF:MtM X "list.pop" wM:=by
 intro pins s σ H x vs v us Q I rx rv h;obtain⟨l,xs,i,k,y,rfl,rfl,hH,h1,h2,hk,hy,q⟩:=h;cases rx;obtain⟨u,rfl,ru⟩:=rv.one;obtain⟨t,rfl⟩:=ru;obtain⟨z,its,n,r,hl,e⟩:=I.lstM hH;obtain⟨w,hw,rw'⟩:=r.get hy;refine call_meets F.slot_list_pop ⟨_,e,rfl⟩ F.entry_list_pop (F.args_list_pop_2 _ _)
  (MeetsSeq.list_pop_at l its.toArray n i t k w (fitsIndex_both h1 h2) (by rw[size_toArray,←hl];exact hk) (by rw[←getElem?_toList];exact hw) (by rw[size_toArray];omega)) ⟨e,?_⟩
 refine⟨y,_,I.lset (its':=its.eraseIdx k) hH e ?_ (r.eraseIdx k) ?_,rw',q⟩
 ·show its.toArray.eraseIdxIfInBounds k=(its.eraseIdx k).toArray;rw[List.eraseIdxIfInBounds_toArray]
 ·have:=kt xs k;omega
def uL:R2:=λx y H Q=>∃l b xs zs,x=.ref l∧y=.ref b∧H l=some (.lst xs)∧H b=some (.lst zs)∧xs.length+zs.length≤sizeLine∧∀p,H p=none→Q (.ref p) (upd H p (.lst (xs++zs)))
theorem cZ:OpR X (binaryOp .Add) uL:=by
 intro pins s σ H x y v u Q I rx ry h;obtain⟨l,b,xs,zs,rfl,rfl,hH,hB,hz,q⟩:=h;cases rx;cases ry;obtain⟨z,its,n,r,hl,e⟩:=I.lstM hH;obtain⟨z2,its2,n2,r2,hl2,e2⟩:=I.lstM hB;refine PySem.P.add_list e e2 ?_ (by rw[size_toArray,size_toArray];omega);have ea:its.toArray++its2.toArray=(its++its2).toArray:=by simp
 rw[ea];exact⟨.ref _,_,I.lnew (t':=s.toks) (r.append r2) (by rw[length_append];omega),rfl,q _ I.fresh⟩
def zG:R2:=λx y H Q=>∃l k xs,x=.ref l∧y=.int k∧H l=some (.lst xs)∧-(2 ^ 63)≤k∧k<2 ^ 63∧xs.length*k.toNat≤sizeLine ∧
 ∀p,H p=none→Q (.ref p) (upd H p (.lst (replicate k.toNat xs).flatten))
theorem uM{α:Type}(xs:List α)(k:Nat):(replicate k xs).flatten.length=k*xs.length:=by
 induction k with
 |zero=>simp
 |succ k ih=>rw[replicate_succ,flatten_cons,length_append,ih,Nat.succ_mul,Nat.add_comm]
theorem wN:OpR X (binaryOp .Mult) zG:=by
 intro pins s σ H x y v u Q I rx ry h;obtain⟨l,k,xs,rfl,rfl,hH,h1,h2,hz,q⟩:=h;cases rx;obtain⟨t,rfl⟩:=ry;obtain⟨z,its,n,r,hl,e⟩:=I.lstM hH;have hlen:its.toArray.size*k.toNat≤sizeLine:=by rw[size_toArray,←hl];exact hz
 have hcap:¬its.toArray.size*k.toNat>(2 ^ 63-1) / 8:=by
  have:(sizeLine:Nat)≤(2 ^ 63-1) / 8:=by decide
  omega
 have hfit:¬(!Builtin.List.listFitsIndex k)=true:=by
  rw[fitsIndex_both h1 h2];exact Bool.false_ne_true
 have hlong:¬Builtin.List.listTooLong (its.toArray.size*k.toNat)=true:=by
  rw[sD hlen];exact Bool.false_ne_true
 have hnew:foldl (λx1 x2=>x1++x2) #[] (replicate (if its.toArray.isEmpty=true then 0 else k.toNat) its.toArray)=(replicate k.toNat its).flatten.toArray:=by
  have f0:∀m:Nat,foldl (λx1 x2=>x1++x2) #[] (replicate m its.toArray)=(replicate m its).flatten.toArray:=λm=>by
   have:=ku its m [];rw[nil_append]at this;exact this
  rw[f0];cases its with
  |nil=>simp
  |cons a r'=>rw[if_neg (by simp)]
 refine wpAny_binaryOp_repeat_ref (T:="list") (U:="int") (by decide) ⟨_,e,rfl⟩ (λs'=>typeIs_int s' k t) noFill_list_mul F.fills_int_mul F.slot_int_rmul repeat_list F.slot_int_index.lookup
  (call_meets F.slot_int_rmul (typeIs_int s k t) F.entry_int_rmul (F.args_int_rmul_2 _ _) (int___rmul___int_list k t l its.toArray n)
   ⟨e,rfl,⟨_,e,rfl⟩,call_meets F.slot_list_mul ⟨_,e,rfl⟩ F.entry_list_mul (F.args_list_mul_2 _ _) (AutoListH.list___mul___list_int_3 l its.toArray n k t hfit hcap hlong) ⟨e,?_⟩⟩)
 rw[hnew];exact⟨.ref _,_,I.lnew (t':=s.toks) (r.rep k.toNat) (by rw[uM,Nat.mul_comm];exact hz),rfl,q _ I.fresh⟩
end
section
variable{prog:Program}{w:World}{A:Around}{E:Value→Shared→Prop}{s:Shared}
end
section
variable{X:Cx}
end
section
variable{κ:Type}[DecidableEq κ]
def bq(kvs:List (κ×V))(k:κ):Option V:=(kvs.find? λkv=>decide (kv.1=k)).map (·.2)
def cg(kvs:List (κ×V))(k:κ)(v:V):List (κ×V) :=
 if (kvs.any λkv=>decide (kv.1=k))=true then kvs.map (λkv=>if kv.1=k then (kv.1,v)else kv)else kvs++[(k,v)]
def dh(kvs:List (κ×V))(k:κ):List (κ×V):=kvs.filter λkv=>decide (kv.1≠k)
theorem bp{p:κ×V}{r:List (κ×V)}{k:κ}(e:p.1=k):bq (p::r) k=some p.2:=by simp[bq,find?_cons,e]
theorem aY{p:κ×V}{r:List (κ×V)}{k:κ}(e:¬p.1=k):bq (p::r) k=bq r k:=by simp[bq,find?_cons,e]
theorem gX(k:κ):∀kvs:List (κ×V),(kvs.any λkv=>decide (kv.1=k))=(bq kvs k).isSome
 |[]=>rfl
 |p::r=>by
  rw[any_cons]
  by_cases e:p.1=k
  ·simp only[bp e,decide_eq_true e,Bool.true_or,Option.isSome_some]
  ·rw[aY e,decide_eq_false e,Bool.false_or];exact gX k r
theorem mr(k j:κ)(y:V):∀kvs:List (κ×V),bq (kvs.map λkv=>if kv.1=k then (kv.1,y)else kv) j=(bq kvs j).map λx=>if j=k then y else x
 |[]=>rfl
 |p::r=>by
  have ih:=mr k j y r;rw[map_cons]
  by_cases h:p.1=k
  ·rw[if_pos h]
   by_cases e:p.1=j
   ·rw[bp (p:=(p.1,y)) e,bp e,map_some,if_pos (e.symm.trans h)]
   ·rw[aY (p:=(p.1,y)) e,aY e,ih]
  ·rw[if_neg h]
   by_cases e:p.1=j
   ·rw[bp (p:=p) e,bp e,map_some,if_neg (λz=>h (e.trans z))]
   ·rw[aY (p:=p) e,aY e,ih]
theorem kG(k j:κ)(y:V):∀kvs:List (κ×V),bq kvs k=none→bq (kvs++[(k,y)]) j=if j=k then some y else bq kvs j
 |[],_=>by
  by_cases e:k=j
  ·rw[if_pos e.symm];exact bp (p:=(k,y)) e
  ·rw[if_neg (λz=>e z.symm)];exact aY (p:=(k,y)) e
 |p::r,hn=>by
  rw[List.cons_append];have hk:¬p.1=k:=λz=>by rw[bp z]at hn;cases hn
  rw[aY hk]at hn;have ih:=kG k j y r hn
  by_cases e:p.1=j
  ·rw[bp e,bp e,if_neg (λz=>hk (e.trans z))]
  ·rw[aY e,aY e,ih]
theorem m9t(kvs:List (κ×V))(k j:κ)(y:V):bq (cg kvs k y) j=if j=k then some y else bq kvs j:=by
 unfold cg
 by_cases a:(kvs.any λkv=>decide (kv.1=k))=true
 ·rw[if_pos a,mr];rw[gX]at a
  by_cases e:j=k
  ·obtain⟨x,hx⟩:=Option.isSome_iff_exists.mp a;rw[if_pos e,e,hx,map_some,if_pos rfl]
  ·rw[if_neg e];cases bq kvs j with
   |none=>rfl
   |some x=>rw[map_some,if_neg e]
 ·rw[if_neg a];refine kG k j y kvs ?_;rw[gX]at a;cases q:bq kvs k with
  |none=>rfl
  |some x=>rw[q]at a;exact(a rfl).elim
theorem dJ(kvs:List (κ×V))(k:κ)(v:V):(cg kvs k v).length≤kvs.length+1:=by
 unfold cg
 split
 ·rw[length_map];omega
 ·rw[length_append,length_cons,length_nil];omega
theorem eN.isSome_eq{o:Option V}{u:Option Value}(r:eN o u):o.isSome=u.isSome:=by
 cases o with
 |none=>cases u with
  |none=>rfl
  |some _=>exact(show False from r).elim
 |some _=>cases u with
  |none=>exact(show False from r).elim
  |some _=>rfl
theorem KV.val{kvs:List (κ×V)}{vs:List (κ×Value)}(r:KV kvs vs)(k:κ):eN (bq kvs k) (valueAt vs k):=by
 unfold KV at r
 induction r with
 |nil=>exact True.intro
 |@cons p q ps qs h t ih =>
  obtain⟨h1,h2⟩:=h
  by_cases e:p.1=k
  ·have e':q.1=k:=h1.symm.trans e;have b:valueAt (q::qs) k=some q.2:=by simp[valueAt,find?_cons,e']
   rw[bp e,b];exact h2
  ·have e':¬q.1=k:=λz=>e (h1.trans z);have b:valueAt (q::qs) k=valueAt qs k:=by simp[valueAt,find?_cons,e']
   rw[aY e,b];exact ih
theorem KV.any{kvs:List (κ×V)}{vs:List (κ×Value)}(r:KV kvs vs)(k:κ):(kvs.any λkv=>decide (kv.1=k))=vs.any λkv=>decide (kv.1=k):=by
 unfold KV at r
 induction r with
 |nil=>rfl
 |cons h t ih=>rw[any_cons,any_cons,ih,h.1]
theorem KV.repl{kvs:List (κ×V)}{vs:List (κ×Value)}(r:KV kvs vs)(k:κ){y:V}{u:Value}(ry:aO y u):
  KV (kvs.map λkv=>if kv.1=k then (kv.1,y)else kv) (vs.map λkv=>if kv.1=k then (kv.1,u)else kv):=by
 unfold KV at r⊢
 induction r with
 |nil=>exact .nil
 |@cons p q ps qs h t ih =>
  rw[map_cons,map_cons];refine .cons ?_ ih;obtain⟨h1,h2⟩:=h
  by_cases e:p.1=k
  ·rw[if_pos e,if_pos (h1.symm.trans e)];exact⟨h1,ry⟩
  ·rw[if_neg e,if_neg (λz=>e (h1.trans z))];exact⟨h1,h2⟩
theorem KV.put{kvs:List (κ×V)}{vs:List (κ×Value)}(r:KV kvs vs)(k:κ){y:V}{u:Value}(ry:aO y u):KV (cg kvs k y) (stored vs k u):=by
 unfold cg stored;rw[r.any k]
 by_cases e:(vs.any λkv=>decide (kv.1=k))=true
 ·rw[if_pos e,if_pos e];exact r.repl k ry
 ·rw[if_neg e,if_neg e];exact Paired.snoc r ⟨rfl,ry⟩
theorem KV.drop{kvs:List (κ×V)}{vs:List (κ×Value)}(r:KV kvs vs)(k:κ):KV (dh kvs k) (without vs k):=by
 unfold KV at r⊢;unfold dh without
 induction r with
 |nil=>exact .nil
 |@cons p q ps qs h t ih =>
  obtain⟨h1,h2⟩:=h;rw[filter_cons,filter_cons]
  by_cases e:p.1=k
  ·have a:¬decide (p.1≠k)=true:=by simp[e]
   have b:¬decide (q.1≠k)=true:=by simp[h1.symm.trans e]
   rw[if_neg a,if_neg b];exact ih
  ·have e':¬q.1=k:=λz=>e (h1.trans z);have a:decide (p.1≠k)=true:=by simp[e]
   have b:decide (q.1≠k)=true:=by simp[e']
   rw[if_pos a,if_pos b];exact .cons ⟨h1,h2⟩ ih
theorem KV.length{kvs:List (κ×V)}{vs:List (κ×Value)}(r:KV kvs vs):kvs.length=vs.length:=Paired.length r
theorem mw(kvs:List (κ×V))(k:κ):(dh kvs k).length≤kvs.length:=length_filter_le _ _
end
theorem fm{P:Program}{w:World}{k:Key}{u:Value}(r:aO (kV k) u):(aR P w).is k u=true:=by
 cases k with
 |inl i=>obtain⟨t,e⟩:=(show ∃t,u=Value.int i t from r);subst e;exact lW P w i t
 |inr x=>obtain⟨t,e⟩:=(show ∃t,u=Value.str x t from r);subst e;exact lX P w x t
theorem wO{a b:Key}(e:kV a=kV b):a=b:=by
 cases a with
 |inl i=>cases b with
  |inl j=>have e':V.int i=V.int j:=e;injection e' with e';rw[e']
  |inr y=>exact nomatch (show V.int i=V.str y from e)
 |inr x=>cases b with
  |inl j=>exact nomatch (show V.str x=V.int j from e)
  |inr y=>have e':V.str x=V.str y:=e;injection e' with e';rw[e']
theorem lD:∀{a b:List Key},a.map kV=b.map kV→a=b
 |[],[],_=>rfl
 |[],_::_,e=>by simp at e
 |_::_,[],e=>by simp at e
 |x::xs,y::ys,e=>by
  rw[map_cons,map_cons]at e;injection e with e1 e2
  rw[wO e1,lD e2]
theorem iA{P:Program}{w:World}:∀{ks:List Key}{us:List Value},aH (ks.map kV) us→ItemsAre (aR P w) ks us
 |[],_,r=>by rw[map_nil]at r;cases r;exact .nil
 |k::ks,_,r=>by
  rw[map_cons]at r;cases r with
  |cons h t=>exact .cons (fm h) (iA t)
abbrev KT(H:Hp):List (List Key×V)→List (List Key×Addr×Value)→Prop:=Paired λp q=>p.1=q.1∧H q.2.1=some (.tup (p.1.map kV))∧aO p.2 q.2.2
theorem KT.val{H:Hp}{kvs:List (List Key×V)}{xs:List (List Key×Addr×Value)}(r:KT H kvs xs)(k:List Key):eN (bq kvs k) ((atKey xs k).map (·.2)):=by
 induction r with
 |nil=>exact True.intro
 |@cons p q ps qs h t ih =>
  obtain⟨h1,_,h2⟩:=h
  by_cases e:p.1=k
  ·have e':q.1=k:=h1.symm.trans e;have b:atKey (q::qs) k=some q.2:=by simp[atKey,find?_cons,e']
   rw[bp e,b];exact h2
  ·have e':¬q.1=k:=λz=>e (h1.trans z);have b:atKey (q::qs) k=atKey qs k:=by simp[atKey,find?_cons,e']
   rw[aY e,b];exact ih
theorem KT.repl{H:Hp}{kvs:List (List Key×V)}{xs:List (List Key×Addr×Value)}(r:KT H kvs xs)(k:List Key){y:V}{u:Value}(ry:aO y u):
  KT H (kvs.map λkv=>if kv.1=k then (kv.1,y)else kv) (xs.map (putAt k u)):=by
 induction r with
 |nil=>exact .nil
 |@cons p q ps qs h t ih =>
  rw[map_cons,map_cons];refine .cons ?_ ih;obtain⟨h1,h2,h3⟩:=h;unfold putAt
  by_cases e:p.1=k
  ·rw[if_pos e,if_pos (h1.symm.trans e)];exact⟨h1,h2,ry⟩
  ·rw[if_neg e,if_neg (λz=>e (h1.trans z))];exact⟨h1,h2,h3⟩
theorem KT.put{H:Hp}{kvs:List (List Key×V)}{xs:List (List Key×Addr×Value)}(r:KT H kvs xs)(k:List Key){b:Addr}{y:V}{u:Value}(hb:H b=some (.tup (k.map kV)))(ry:aO y u):
  KT H (cg kvs k y) (storedH xs k b u):=by
 have e:(kvs.any λkv=>decide (kv.1=k))=(atKey xs k).isSome:=by
  rw[gX,(r.val k).isSome_eq,isSome_map]
 unfold cg storedH;rw[e]
 by_cases q:(atKey xs k).isSome=true
 ·rw[if_pos q,if_pos q];exact r.repl k ry
 ·rw[if_neg q,if_neg q];exact Paired.snoc r ⟨rfl,hb,ry⟩
theorem KT.keeps{H H':Hp}{kvs:List (List Key×V)}{xs:List (List Key×Addr×Value)}(r:KT H kvs xs)(ht:∀b ys,H b=some (.tup ys)→H' b=some (.tup ys)):KT H' kvs xs :=
 Paired.mapP r λ_ _ z=>⟨z.1,ht _ _ z.2.1,z.2.2⟩
section
variable{P:Program}{w:World}{H:Hp}{h:Heap}{a:Addr}
theorem we{u:HO}(ok:HOk P w H h)(e:Rd H a u):bt P w H h a u:=e.ok ok
theorem kH{kvs:List (Key×V)}(ok:HOk P w H h)(e:Rd H a (.dK kvs)):kvs.length≤sizeLine∧(a==sysModules)=false∧∃vs,KV kvs vs∧h.DictOf (aR P w) a vs :=
 show bt P w H h a (.dK kvs)from we ok e
theorem my{kvs:List (Key×V)}(ok:HOk P w H h)(e:H a=some (.dK kvs)):kvs.length≤sizeLine∧(a==sysModules)=false∧∃vs,KV kvs vs∧h.DictOf (aR P w) a vs:=kH ok (.inl e)
theorem jq{ks:List Key}(ok:HOk P w H h)(e:H a=some (.tup (ks.map kV))):(tupleKind (aR P w)).is h ks a:=by
 obtain⟨_,its,r,o,h1,h2,n,h3⟩:=(show bt P w H h a (.tup (ks.map kV))from ok a _ e);exact⟨o,its.toArray,n,h1,h2,h3,by simpa using iA r⟩
theorem kJ{kvs:List (List Key×V)}(ok:HOk P w H h)(e:Rd H a (.dT kvs)):kvs.length≤sizeLine∧(a==sysModules)=false ∧
  ∃xs,KT H kvs xs∧h.DictOfH (tupleKind (aR P w)) a xs:=by
 obtain⟨z,y,xs,r,o,es,ep,h1,h2,h3,h4,h5⟩:=(show bt P w H h a (.dT kvs)from we ok e);refine⟨z,y,xs,r,o,es,ep,h1,h2,h3,h4,λx hx=>?_,h5⟩;have all:∀{l:List (List Key×V)}{m:List (List Key×Addr×Value)},KT H l m→∀x∈m,(tupleKind (aR P w)).is h x.1 x.2.1:=by
  intro l m q
  induction q with
  |nil=>intro x hx;exact nomatch hx
  |@cons p q ps qs hq t ih =>
   intro x hx;rcases mem_cons.mp hx with e|hx
   ·subst e;exact jq ok (by rw[←hq.1];exact hq.2.1)
   ·exact ih x hx
 exact all r x hx
theorem yB{kvs:List (List Key×V)}(ok:HOk P w H h)(e:H a=some (.dT kvs)):kvs.length≤sizeLine∧(a==sysModules)=false ∧
  ∃xs,KT H kvs xs∧h.DictOfH (tupleKind (aR P w)) a xs:=kJ ok (.inl e)
end
def fo(H:Hp)(a:Addr)(y:V)(r:Option V):Prop :=
 (∃kvs k,Rd H a (.dK kvs)∧y=kV k∧r=bq kvs k)∨∃kvs k b,Rd H a (.dT kvs)∧y=.ref b∧H b=some (.tup (k.map kV))∧r=bq kvs k
def lE(H:Hp)(a:Addr)(y v:V)(H':Hp):Prop :=
 (∃kvs k,H a=some (.dK kvs)∧y=kV k∧kvs.length<sizeLine∧H'=upd H a (.dK (cg kvs k v))) ∨
 ∃kvs k b,H a=some (.dT kvs)∧y=.ref b∧H b=some (.tup (k.map kV))∧kvs.length<sizeLine∧H'=upd H a (.dT (cg kvs k v))
theorem fo.k{H:Hp}{a:Addr}{kvs:List (Key×V)}{k:Key}(e:H a=some (.dK kvs)):fo H a (kV k) (bq kvs k):=.inl ⟨kvs,k,.inl e,rfl,rfl⟩
theorem lE.k{H:Hp}{a:Addr}{kvs:List (Key×V)}{k:Key}{v:V}(e:H a=some (.dK kvs))(hl:kvs.length<sizeLine):lE H a (kV k) v (upd H a (.dK (cg kvs k v))):=.inl ⟨kvs,k,e,rfl,hl,rfl⟩
section
variable{X:Cx}{pins:List (Addr×Obj)}{σ:St}{H:Hp}{s:Shared}{a:Addr}{y v:V}{u r:Value}{o:Option V}{A:Around}{E:Value→Shared→Prop}
theorem Inv.big(I:Inv X pins σ H s):sysModules<s.heap.objs.size:=by
 have h:mainGlobals<s.heap.objs.size:=(I.mod.glob.keeps I.bk).lt;exact lt_trans (by decide) h
theorem qU{Q:Value→Shared→Prop}(hu:A.units+1<cLine)(I:Inv X pins σ H s)(g:fo H a y (some v))(ry:aO y u)(h:∀w' s',Inv X pins σ H s'→aO v w'→Q w' s'):
  wpAny (model X.prog X.w) A (getItem (.ref a) u) Q E s:=by
 rcases g with⟨kvs,k,e,ey,l⟩|⟨kvs,k,b,e,ey,eb,l⟩
 ·subst ey;obtain⟨z,hd,vs,rel,dd⟩:=kH I.hok e;obtain⟨w',hw,rw'⟩:=eN.some_of (v:=v) (o:=valueAt vs k) (by rw[l];exact rel.val k);exact wpAny_getItem_of (fm ry) dd.mapOf hw (h w' _ (I.tok _) rw')
 ·subst ey;cases (show u=Value.ref b from ry);obtain⟨z,hd,xs,rel,dd⟩:=kJ I.hok e;obtain⟨w',hw,rw'⟩:=eN.some_of (v:=v) (o:=(atKey xs k).map (·.2)) (by rw[l];exact rel.val k);obtain⟨p,hp,hp2⟩:=Option.map_eq_some_iff.mp hw;refine wpAny_getItem_heap (tupleKind_room_in1 hu) (jq I.hok eb) dd hp ?_;rw[hp2];exact h w' _ (I.tok _) rw'
theorem zH{Q:Value→Shared→Prop}(hu:A.units+1<cLine)(I:Inv X pins σ H s)(g:fo H a y o)(ry:aO y u)(h:∀s',Inv X pins σ H s'→Q (.bool o.isSome) s'):
  wpAny (model X.prog X.w) A (compareOp .In u (.ref a)) Q E s:=by
 rcases g with⟨kvs,k,e,ey,l⟩|⟨kvs,k,b,e,ey,eb,l⟩
 ·subst ey;obtain⟨z,hd,vs,rel,dd⟩:=kH I.hok e;refine wpAny_in_of (fm ry) hd dd.mapOf ?_;rw[←(rel.val k).isSome_eq,←l];exact h _ (I.tok _)
 ·subst ey;cases (show u=Value.ref b from ry);obtain⟨z,hd,xs,rel,dd⟩:=kJ I.hok e;refine wpAny_in_heap (tupleKind_room_in1 hu) (jq I.hok eb) hd dd ?_;have q:=(rel.val k).isSome_eq;rw[isSome_map]at q;rw[←q,←l];exact h _ (I.tok _)
theorem uN{Q:Value→Shared→Prop}(hu:A.units+1<cLine)(I:Inv X pins σ H s)(g:fo H a y o)(ry:aO y u)(h:∀s',Inv X pins σ H s'→Q (.bool (!o.isSome)) s'):
  wpAny (model X.prog X.w) A (compareOp .NotIn u (.ref a)) Q E s:=by
 rcases g with⟨kvs,k,e,ey,l⟩|⟨kvs,k,b,e,ey,eb,l⟩
 ·subst ey;obtain⟨z,hd,vs,rel,dd⟩:=kH I.hok e;refine wpAny_notIn_of (fm ry) hd dd.mapOf ?_;rw[←(rel.val k).isSome_eq,←l];exact h _ (I.tok _)
 ·subst ey;cases (show u=Value.ref b from ry);obtain⟨z,hd,xs,rel,dd⟩:=kJ I.hok e;refine wpAny_notIn_heap (tupleKind_room_in1 hu) (jq I.hok eb) hd dd ?_;have q:=(rel.val k).isSome_eq;rw[isSome_map]at q;rw[←q,←l];exact h _ (I.tok _)
theorem gY{h':Heap}{t':Nat}{ob:HO}(I:Inv X pins σ H s)(mu:Mut (H a))(hs:SameBut a s.heap h')(he:∃q,h'.get? a=some q)(new:bt X.prog X.w (upd H a ob) h' a ob):
  Inv X pins σ (upd H a ob) {s with heap:=h',toks:=t'} :=
 I.write (x:=a) (e:=a) mu (.inl rfl) (λb q hb z=>(hs.2 b hb).trans z) he new
theorem gF{P:Program}{w:World}{H':Hp}{h':Heap}{kvs:List (Key×V)}{vs:List (Key×Value)}(z:kvs.length≤sizeLine)(hd:(a==sysModules)=false)(rel:KV kvs vs)(dd:h'.DictOf (aR P w) a vs):
  bt P w H' h' a (.dK kvs):=⟨z,hd,vs,rel,dd⟩
theorem qV{H':Hp}{Q:Unit→Shared→Prop}(hu:A.units+1<cLine)(I:Inv X pins σ H s)(g:lE H a y v H')(ry:aO y u)(rv:aO v r)(h:∀s',Inv X pins σ H' s'→Q () s'):
  wpAny (model X.prog X.w) A (setItem (.ref a) u r) Q E s:=by
 rcases g with⟨kvs,k,e,ey,l,eH⟩|⟨kvs,k,b,e,ey,eb,l,eH⟩
 ·subst ey eH;obtain⟨z,hd,vs,rel,dd⟩:=my I.hok e;have hz:vs.length≤sizeLine:=by rw[←rel.length];exact z
  have hl:(cg kvs k v).length≤sizeLine:=by have:=dJ kvs k v;omega
  refine wpAny_setItem_pairs (hsz:=hz) (fm ry) dd λh' dd' hs=>h _ ?_;have he:∃q,h'.get? a=some q:=let⟨q,_,_,hq,_⟩:=dd';⟨q,hq⟩;exact gY I (by rw[e];exact True.intro) hs he (gF hl hd (rel.put k rv) dd')
 ·subst ey eH;cases (show u=Value.ref b from ry);obtain⟨z,hd,xs,rel,dd⟩:=yB I.hok e;have hz:xs.length≤sizeLine:=by rw[←Paired.length rel];exact z
  have hl:(cg kvs k v).length≤sizeLine:=by have:=dJ kvs k v;omega
  refine wpAny_setItem_heap (hsz:=hz) (tupleKind_room_in1 hu) (jq I.hok eb) dd λh' dd' hs=>h _ ?_;obtain⟨q,es,ep,hq,h2,h3,h4,_,h5⟩:=dd';refine gY I (by rw[e];exact True.intro) hs ⟨q,hq⟩ ⟨hl,hd,_,(rel.put k eb rv).keeps λc ys ec=>?_,q,es,ep,hq,h2,h3,h4,h5⟩;rw[aj (lY ec e (λz=>nomatch z))];exact ec
end
section
variable{X:Cx}{pins:List (Addr×Obj)}{σ:St}{H:Hp}{s:Shared}{a:Addr}{kvs:List (Key×V)}{k:Key}{u:Value}{A:Around}{E:Value→Shared→Prop}
theorem yC{v:V}{more:List Value}{Q:Value→Shared→Prop}(I:Inv X pins σ H s)(e:H a=some (.dK kvs))(ry:aO (kV k) u)(l:bq kvs k=some v)(hm:more=[]∨∃x,more=[x])(h:∀w' s',Inv X pins σ (upd H a (.dK (dh kvs k))) s'→aO v w'→Q w' s'):wpAny (model X.prog X.w) A (call (.builtin "dict.pop") (.ref a::u::more)) Q E s:=by
 obtain⟨z,hd,vs,rel,dd⟩:=my I.hok e;obtain⟨w',hw,rw'⟩:=eN.some_of (v:=v) (o:=valueAt vs k) (by rw[←l];exact rel.val k);have hp:(keyPart u).isSome=true:=by
  cases k with
  |inl i=>obtain⟨t,q⟩:=(show ∃t,u=Value.int i t from ry);subst q;rfl
  |inr x=>obtain⟨t,q⟩:=(show ∃t,u=Value.str x t from ry);subst q;rfl
 have ha:argsOk "dict.pop" ⟨.ref a::u::more,[]⟩:=by
  rcases hm with q|⟨x,q⟩
  ·subst q;exact PySem.F.args_dict_pop_2 _ _
  ·subst q;exact PySem.F.args_dict_pop_3 _ _ _
 refine call_meetsIn slot_dict_pop dd.typeIs PySem.F.entry_dict_pop ha (meets_dict_pop_there (aR X.prog X.w) a (fm ry) more hm hp)
  ⟨vs,w',dd,by rw[←rel.length];exact z,hw,λh' dd' hs=>h w' _ ?_ rw'⟩
 have he:∃q,h'.get? a=some q:=let⟨q,_,_,hq,_⟩:=dd';⟨q,hq⟩;exact gY I (by rw[e];exact True.intro) hs he (gF (le_trans (mw kvs k) z) hd (rel.drop k) dd')
theorem wP{r:Value}{Q:Value→Shared→Prop}(I:Inv X pins σ H s)(e:H a=some (.dK kvs))(ry:aO (kV k) u)(l:bq kvs k=none)(h:∀s',Inv X pins σ H s'→Q r s'):
  wpAny (model X.prog X.w) A (call (.builtin "dict.pop") [.ref a,u,r]) Q E s:=by
 obtain⟨z,hd,vs,rel,dd⟩:=my I.hok e;have hn:valueAt vs k=none:=eN.none_of (by rw[←l];exact rel.val k);have hp:(keyPart u).isSome=true:=by
  cases k with
  |inl i=>obtain⟨t,q⟩:=(show ∃t,u=Value.int i t from ry);subst q;rfl
  |inr x=>obtain⟨t,q⟩:=(show ∃t,u=Value.str x t from ry);subst q;rfl
 exact call_meetsIn slot_dict_pop dd.typeIs PySem.F.entry_dict_pop (PySem.F.args_dict_pop_3 _ _ _) (meets_dict_pop_default (aR X.prog X.w) a (fm ry) hd hp r) ⟨vs,dd,hn,h _ (I.tok _)⟩
end
def yD(i:Expr):Prop:=∀ov iv,subscripted i false ov iv=operate [ov,iv] (getItem ov iv)
theorem uO{prog:Program}{w:World}{A:Around}{E:Value→Shared→Prop}{s:Shared}{env:Env}{value slice:Expr}{pos:Pos}{T id:String}{Q:Value→Shared→Prop}(hl:typeLookup (.type T) "__getitem__"=pure (some (.builtin id)))(hs:yD slice)(h:wpAny (model prog w) A (eval value env) (λo s₁=>wpAny (model prog w) A (eval slice env) (λi s₂=>s₂.TypeIs o T∧wpAny (model prog w) A (getItem o i) Q E s₂) E s₁) E s):
  wpAny (model prog w) A (eval (.Subscript value slice pos) env) Q E s:=by
 refine Subscript_ (wpAny_mono h (λo s₁ h₁=>wpAny_mono h₁ (λi s₂ h₂=>?_) λ_ _ x=>x) λ_ _ x=>x);obtain⟨hT,h₂⟩:=h₂;unfold subscriptTail;refine wpAny_bind ?_;rw[getitemInPython_of_ne hT.not_modules];refine wpAny_bind (wpAny_specialOf hT hl ?_);have fin:wpAny (model prog w) A (subscripted slice false o i) (λr s₃=>wpAny (model prog w) A (letTemporaryGo value o r >>= λ_=>pure r) Q E s₃) E s₂:=by
  rw[hs o i];exact wpAny_operating (wpAny_mono h₂ (λr s₃ h₃=>wpAny_bind (wpAny_letTemporaryGo (wpAny_pure h₃))) λ_ _ x=>x)
 first
  |exact wpAny_pure (wpAny_bind fin)
  |exact wpAny_bind (wpAny_pure (wpAny_bind fin))
  |exact wpAny_bind fin
theorem mG{X:Cx}{pins:List (Addr×Obj)}{σ:St}{H:Hp}{s:Shared}{a:Addr}{y:V}{o:Option V}(I:Inv X pins σ H s)(g:fo H a y o):s.TypeIs (.ref a) "dict":=by
 rcases g with⟨kvs,k,e,_,_⟩|⟨kvs,k,b,e,_,_,_⟩
 ·obtain⟨_,_,vs,_,dd⟩:=kH I.hok e;exact dd.typeIs
 ·obtain⟨_,_,xs,_,dd⟩:=kJ I.hok e;exact dd.typeIs
def yE(td ty:TE):TE:=λσ H Q=>td σ H λx H1=>ty σ H1 λy H2=>∃a v,x=.ref a∧fo H2 a y (some v)∧Q v H2
def zI(ty td:TE):TE:=λσ H Q=>ty σ H λy H1=>td σ H1 λx H2=>∃a o,x=.ref a∧fo H2 a y o∧Q (.bl o.isSome) H2
def uP(ty td:TE):TE:=λσ H Q=>ty σ H λy H1=>td σ H1 λx H2=>∃a o,x=.ref a∧fo H2 a y o∧Q (.bl (!o.isSome)) H2
def yF(td ty tv:TE):TS:=λD σ H=>tv σ H λv H1=>td σ H1 λx H2=>ty σ H2 λy H3=>∃a H4,x=.ref a∧lE H3 a y v H4∧D.nx σ H4
section
variable{X:Cx}{o i e value:Expr}{pos pos' tpos:Pos}{td ty tv:TE}
theorem dk(hu:X.A.units+1<cLine)(ho:PE X o td)(hi:PE X i ty)(hs:yD i):PE X (.Subscript o i pos) (yE td ty):=by
 intro pins s σ H Q I h;refine uO PySem.F.slot_dict_getitem.lookup hs (thn (ho pins s σ H _ I h) λu s1 ⟨x,H1,I1,rx,q1⟩=>thn (hi pins s1 σ H1 _ I1 q1) λiv s2 hpt=>?_);obtain⟨y,H2,I2,ry,a,v,ex,g,q2⟩:=hpt;subst ex;obtain rfl:u=Value.ref a:=rx;exact⟨mG I2 g,qU hu I2 g ry λw' s3 I3 rw'=>⟨v,H2,I3,rw',q2⟩⟩
theorem lF(hu:X.A.units+1<cLine)(hi:PE X i ty)(ho:PE X o td):PC X .In i o (zI ty td):=by
 intro pins s σ H Q I h;refine thn (hi pins s σ H _ I h) λiv s1 ⟨y,H1,I1,ry,q1⟩=>thn (ho pins s1 σ H1 _ I1 q1) λu s2 hpt=>?_;obtain⟨x,H2,I2,rx,a,ov,ex,g,q2⟩:=hpt;subst ex;obtain rfl:u=Value.ref a:=rx;exact zH hu I2 g ry λs3 I3=>⟨.bl ov.isSome,H2,I3,rfl,q2⟩
theorem eB(hu:X.A.units+1<cLine)(hi:PE X i ty)(ho:PE X o td):PC X .NotIn i o (uP ty td):=by
 intro pins s σ H Q I h;refine thn (hi pins s σ H _ I h) λiv s1 ⟨y,H1,I1,ry,q1⟩=>thn (ho pins s1 σ H1 _ I1 q1) λu s2 hpt=>?_;obtain⟨x,H2,I2,rx,a,ov,ex,g,q2⟩:=hpt;subst ex;obtain rfl:u=Value.ref a:=rx;exact uN hu I2 g ry λs3 I3=>⟨.bl (!ov.isSome),H2,I3,rfl,q2⟩
theorem iZ(hu:X.A.units+1<cLine)(ho:PE X o td)(hi:PE X i ty)(hv:PE X value tv)(hs:swapsWith value (some (.Subscript o i pos')) pos.line X.env=pure false):
  PS X (.Assign [.Subscript o i pos'] value pos) (yF td ty tv):=by
 intro pins s σ H D I h;refine wpAny_Assign_Subscript (thn (hv pins s σ H _ I h) λr s1 ⟨v,H1,I1,rv,q1⟩=>thn (ho pins s1 σ H1 _ I1 q1) λu s2 ⟨x,H2,I2,rx,q2⟩=>thn (hi pins s2 σ H2 _ I2 q2) λiv s3 ⟨y,H3,I3,ry,a,H4,ex,g,q3⟩=>?_) hs;subst ex;obtain rfl:u=Value.ref a:=rx;exact qV hu I3 g ry rv λs4 I4=>⟨σ,H4,I4,q3⟩
end
theorem mH{P:Program}{w:World}{H:Hp}(h:Heap)(hb:sysModules<h.objs.size):bt P w H (h.push {cls:=.type "dict",data:=.dict #[]}) h.objs.size (.dK []) :=
 ⟨zero_le _,beq_eq_false_iff_ne.mpr (symm (ne_of_lt hb)),[],.nil,Heap.DictOf.new h⟩
def wQ:TE:=λ_ H Q=>∀p,H p=none→Q (.ref p) (upd H p (.dK []))
section
variable{X:Cx}{pos:Pos}
theorem gZ:PE X (.Dict [] [] pos) wQ:=λpins s σ H Q I h =>
 wpAny_Dict_empty ⟨.ref s.heap.objs.size,_,I.laid (a:=s.heap.objs.size) (o:=.dK []) (t':=s.toks) (λ_ _ q=>get?_push_of_some _ q) (le_refl _) (mH s.heap I.big),rfl,h _ (I.hok.fresh (le_refl _))⟩
end
structure M2(X:Cx)(o:Expr)(m:Str)(apos:Pos)(e f:Expr)(cpos:Pos):Prop where
 base:attributeBase o m X.env (eval o X.env)=eval o X.env
 few:((backTo cpos (starEach [e,f] X.env)).all (λx=>!x.1)&&(backToKw cpos (keywordEach [] X.env)).all (λx=>x.1.isSome)
  && decide (([e,f]:List Expr).length+([]:List Keyword).length+(if ([]:List Keyword).isEmpty then 0 else 1)<30))=true
 line:(apos.endLine==cpos.line)=true
 trees:backTo cpos (starEach [e,f] X.env)=[(false,eval e X.env),(false,eval f X.env)]
def IsD(H:Hp)(a:Addr):Prop:=(∃kvs,Rd H a (.dK kvs))∨∃kvs,Rd H a (.dT kvs)
theorem wR{X:Cx}{pins:List (Addr×Obj)}{σ:St}{H:Hp}{s:Shared}{a:Addr}(I:Inv X pins σ H s)(d:IsD H a):
  s.TypeIs (.ref a) "dict"∧(∀b,Value.ref a=.ref b→∃ob,s.heap.get? b=some ob∧ob.dict=none)∧(a==sysModules)=false:=by
 rcases d with⟨kvs,e⟩|⟨kvs,e⟩
 ·obtain⟨_,hd,vs,_,dd⟩:=kH I.hok e;refine⟨dd.typeIs,λb q=>?_,hd⟩;cases q;obtain⟨ob,_,_,h1,h2,_⟩:=dd;exact⟨ob,h1,h2.2.1⟩
 ·obtain⟨_,hd,xs,_,dd⟩:=kJ I.hok e;refine⟨dd.typeIs,λb q=>?_,hd⟩;cases q;obtain⟨ob,_,_,h1,h2,_⟩:=dd;exact⟨ob,h1,h2.2.1⟩
section
variable{X:Cx}{pins:List (Addr×Obj)}{σ:St}{H:Hp}{s:Shared}{a:Addr}{y d:V}{u r:Value}{o:Option V}{A:Around}{E:Value→Shared→Prop}
end
def wS(td ty tx:TE):TE:=λσ H Q=>td σ H λx H1=>∃a,x=.ref a∧IsD H1 a∧ty σ H1 λy H2=>tx σ H2 λz H3=>∃kvs k,H3 a=some (.dK kvs)∧y=kV k ∧
 (∀v,bq kvs k=some v→Q v (upd H3 a (.dK (dh kvs k))))∧(bq kvs k=none→Q z H3)
section
variable{X:Cx}{o e f:Expr}{apos cpos:Pos}{td ty tx:TE}
theorem sG(ho:PE X o td)(he:PE X e ty)(hf:PE X f tx)(m:M2 X o "pop" apos e f cpos):PE X (.Call (.Attribute o "pop" apos) [e,f] [] cpos) (wS td ty tx):=by
 intro pins s σ H Q I h;refine wpAny_Call_method m.base m.few m.line plainAttrs_dict slot_dict_pop PySem.F.type_dict_pop (thn (ho pins s σ H _ I h) λu s1 hpt=>?_);obtain⟨x,H1,I1,rx,a,ex,d,q1⟩:=hpt;subst ex;obtain rfl:u=Value.ref a:=rx;obtain⟨t1,t2,_⟩:=wR I1 d;refine⟨t1,t2,?_⟩;rw[m.trees];refine callWith_builtin rfl (evalArgs_plain (spliced_cons (thn (he pins s1 σ H1 _ I1 q1) λiv s2 ⟨y,H2,I2,ry,q2⟩ =>
  spliced_cons (thn (hf pins s2 σ H2 _ I2 q2) λfv s3 ⟨z,H3,I3,rz,kvs,k,ea,ey,q3,q4⟩=>spliced_nil ?_))))
 subst ey;cases l:bq kvs k with
 |some v=>exact yC I3 ea ry l (.inr ⟨fv,rfl⟩) λw' s4 I4 rw'=>⟨v,_,I4,rw',q3 v l⟩
 |none=>exact wP I3 ea ry l λs4 I4=>⟨z,H3,I4,rz,q4 l⟩
end
section
variable{X:Cx}{pins:List (Addr×Obj)}{σ:St}{H:Hp}{s:Shared}{a:Addr}{kvs:List (Key×V)}{A:Around}{E:Value→Shared→Prop}
end
section
variable{X:Cx}{pins:List (Addr×Obj)}{σ:St}{H:Hp}{s:Shared}{a:Addr}{y:V}{u:Value}{A:Around}{E:Value→Shared→Prop}
end
end L2
namespace Att
open PySem PySem.W PySem.Calls PyProof.Rows
theorem iU{P:Params}{h:Heap}:∀(ns:List Int)(vs:List Value),WellAll P h vs (ns.map WData.int)→IntsAre vs ns:=by
 intro ns
 induction ns with
 |nil =>
  intro vs w;rw[map_nil]at w;cases w;exact .nil
 |cons n ns ih =>
  intro vs w;rw[map_cons]at w;cases w with
  |cons a b =>
   cases a;exact .cons _ _ (ih _ b)
theorem qW{l:OpenLaw}{n:Nat}(hn:l.most=some n){P:Params}{h:Heap}{args:List WData}{vals:List Value}(hpre:l.row.toRowW.claim.pre args=true)(hwl:WellAll P h vals args):
  ∃a vs ns,vals=[Value.ref a]∧args=[WData.list (ns.map WData.int)]∧h.get? a=some {cls:=.type "list",data:=.seq vs.toArray}∧IntsAre vs ns∧ns.length≤n:=by
 have hsh:WShape.hasAll [] args [.list .int]=true:=(pre_splitW hpre).1;have hc:l.pre.holds [] {args:=args}=true:=(pre_splitW hpre).2;obtain⟨d,r,rfl,h1,h2⟩:=hasAllW_cons hsh;obtain rfl:=hasAllW_nil h2;obtain⟨xs,rfl,h3⟩:=hasW_list h1;obtain⟨ns,rfl⟩:=items_int h3;have hlen:ns.length≤n:=by
  unfold OpenLaw.pre at hc;have h4:(WTm.not (.lt (.lit (.int (n:Int))) (.len (.arg 0)))).holds [] {args:=[.list (ns.map .int)]}=true:=by
   have h4:=(holds_andW hc).1;rw[hn]at h4;exact h4
  have h5:=condW_of h4 (w_not (w_lt w_lit (w_len_list (w_arg rfl))));rw[length_map]at h5;refine Nat.le_of_not_lt λq=>?_;have q':(n:Int)<((ns.length:Nat):Int):=by omega
  first
   |(rw[decide_eq_true q']at h5;exact absurd h5 (by decide))
   |(simp at h5;omega)
 cases hwl with
 |cons w1 w2 =>
  cases w2;cases w1 with
  |list ho hall=>exact⟨_,_,ns,rfl,rfl,ho,iU ns _ hall,hlen⟩
theorem qX(l:OpenLaw)(args:List WData):l.row.toRowW.claim.post args (.bool true) args=true :=
 postW_of (r:=l.row.toRowW) (X:=(true==true))
  (show WShape.has [] (.bool true) .bool=true by first|rfl|decide|simp[WShape.has,WShape.arms,WShape.armsAll])
  (show(WTm.eq .res (.lit (.bool true))).value [] {args:=args,res:=some (.bool true),after:=args}=some (.bool (true==true))from w_eq_bool (w_res rfl) w_lit) rfl
theorem mJ{l:OpenLaw}{n:Nat}{q:Program}{loose:List Str}{XP:(Str→Option Value)→Heap→Prop}{YP:World→Heap→Prop}{d:DefRec}(hn:l.most=some n)(hdf:d.params.defaults=[])(call:∀(w:World) (s₀ s₁:Shared) (mg mb:Str→Option Value) (fa:Addr) (o:Obj) (pm cd doc:Value) (a:Addr) (vs:List Value) (ns:List Int),
   Ground q loose [] XP w s₀ mg mb s₁.heap→YP w s₁.heap →
   s₁.heap.get? fa=some o→o.data=.func (docDef d.name d.params d.body d.scope pm cd doc)→s₁.heap.CodeRec cd d.name→mg d.name=some (.ref fa) →
   s₁.heap.get? a=some {cls:=.type "list",data:=.seq vs.toArray}→IntsAre vs ns→ns.length≤n→s₁.gens=#[] →
   codeAny (model l.prog w) callerA (.call (.ref fa) ⟨[.ref a],[]⟩) (λr s'=>r=.ok (.ret (.bool true))∧OldK s₁.heap s'.heap∧s'.os=s₁.os∧AllBare s'.gens) s₁):
  WalkO q loose XP YP l.row.toRowW d [] (λf vs=>PySem.call f vs):=by
 intro w s₀ s₁ mg mb G Y fa o pm cd doc dV kV ho hd hcd hD hmg hg args vals as hpre hlay hrd hwl hlo;obtain rfl:dV=.none:=Dflts.none hD hdf;obtain rfl:kV=.none:=Dflts.noKw hD;obtain⟨a,vs,ns,rfl,rfl,hobj,hints,hlen⟩:=qW hn hpre hwl;refine enter_call (codeAny_mono (call w s₀ s₁ mg mb fa o pm cd doc a vs ns G Y ho (fd_plain hd) hcd hmg hobj hints hlen hg) λr s' hq=>?_);obtain⟨rfl,h2,h3,h4⟩:=hq;exact⟨.inl ⟨.bool true,.bool true,[],rfl,λ_=>rfl,.bool true,qX l _,λ_=>⟨List.Pairwise.nil,λ_ hm=>(nomatch hm)⟩⟩,h2,h3,h4⟩
section
variable{prog:Program}{w:World}{A:Around}{E:Value→Shared→Prop}{s:Shared}{K:Frag}
end
end Att
namespace L2
open PySem PySem.Spec PyProof.Rows
theorem kO:∀{vs:List Value}{ns:List Int},IntsAre vs ns→aH (ns.map V.int) vs
 |_,_,.nil=>.nil
 |_,_,.cons n t h=>.cons ⟨t,rfl⟩ (kO h)
def cq(s:Stmt)(j:Nat):Stmt:=match s with
 |.ClassDef _ _ _ body _ _ _ _ _ _ _=>body.getD j (.Pass ⟨0,0,0,0⟩)
 |_=>.Pass ⟨0,0,0,0⟩
def dl(s:Stmt):Arguments:=match s with
 |.FunctionDef _ a _ _ _ _ _ _ _ _=>a
 |_=>{posonlyargs:=[],args:=[],vararg:=none,kwonlyargs:=[],kw_defaults:=[],kwarg:=none,defaults:=[]}
def bz(s:Stmt):List Stmt:=match s with
 |.FunctionDef _ _ b _ _ _ _ _ _ _=>b
 |_=>[]
def am(s:Stmt):Scope:=match s with
 |.FunctionDef _ _ _ _ _ _ sc _ _ _=>sc
 |_=>{kind:=.function,names:=[],isGenerator:=false,isCoroutine:=false}
abbrev CX0:CXT:=λ_ _ _ _ _ _=>False
abbrev E0:XK:=λ_ _ _=>False
theorem aK{X:Cx}:cG CX0 X E0:=λ_ _ _ _ _ _ _ h=>h.elim
structure Fun(K:PySem.W.Frag)(x qual:Str)(st:Stmt)(f:Addr)(fd:FuncData):Prop where
 ex:∃(oc:Value) (od:Option Addr) (kV doc pm:Value) (an:Option Addr) (cdv ct:Value) (osl:Array (Option Value)),
  fd=fnOf x qual (dl st) (bz st) (am st) .none kV doc pm an cdv ct∧K.lookup f=some ⟨oc,od,.func fd,osl⟩∧codeIn K cdv qual=true
 kp:keepIn K (.ref f)=true
section
variable{P:Program}{w:World}{K:PySem.W.Frag}{mg:Str→Option Value}{base:Heap}
theorem Fun.ok{x qual:Str}{st:Stmt}{f:Addr}{fd:FuncData}{N ps:List Str}{k:Nat}{sp:Sp}(F:Fun K x qual st f fd)(S:FnScope N ps (am st))(len:∀vs H Q E,sp vs H Q E→vs.length=ps.length)(hbody:∀(cdv:Value) (A:Around) (outer:List Env) (s:Shared) (H:Hp) (vs:List V) (Q:VK) (E:XK),Room k (A.deeper (envOfC qual (am st) s.heap.objs.size f cdv))→sp vs H Q E →
   ∃t,PSs (gQ CX0 P w K mg base N qual (am st) f cdv A outer s H E).nox (bz st) t∧t {nx:=λ_ H'=>Q .non H',rt:=Q} (start N vs) H):FnOk P w K mg base CX0 (k+1) f fd ps sp:=by
 obtain⟨oc,od,kV,doc,pm,an,cdv,ct,osl,rfl,lk,hcd⟩:=F.ex;refine sv lk hcd S len λA outer s H vs Q E hr hsp=>?_;obtain⟨t,h,q⟩:=hbody cdv A outer s H vs Q E hr hsp;exact⟨t,h.nox,q⟩
theorem Fun.binds{x qual:Str}{st:Stmt}{f:Addr}{fd:FuncData}{ps:List Str}(F:Fun K x qual st f fd)(h:∀(kV doc pm:Value) (an:Option Addr) (cdv ct:Value) (us:List Value),us.length=ps.length→bindArgs (fnOf x qual (dl st) (bz st) (am st) .none kV doc pm an cdv ct) ⟨us,[]⟩=pure (ps.zip us)):aG K fd ps []:=by
 obtain⟨oc,od,kV,doc,pm,an,cdv,ct,osl,rfl,lk,hcd⟩:=F.ex;exact .all (h kV doc pm an cdv ct)
theorem cH{x qual:Str}{st:Stmt}{f:Addr}{oc:Value}{od an:Option Addr}{osl:Array (Option Value)}{kV doc pm cdv ct:Value}(l:K.lookup f=some ⟨oc,od,.func (fnOf x qual (dl st) (bz st) (am st) .none kV doc pm an cdv ct),osl⟩)(c:codeIn K cdv qual=true)(k:keepIn K (.ref f)=true):Fun K x qual st f (fnOf x qual (dl st) (bz st) (am st) .none kV doc pm an cdv ct):=⟨⟨oc,od,kV,doc,pm,an,cdv,ct,osl,rfl,l,c⟩,k⟩
end
theorem cj{A:Around}{k:Nat}(hr:Room k A):A.units+1<cLine:=lt_of_le_of_lt (add_le_add_left (by decide:1≤64) _) hr.units
theorem ay{n:Nat}(h:n≤1000):n<sizeLine:=lt_of_le_of_lt h (by decide)
section
variable{X:Cx}
theorem pv(i:Nat){x:Str}{pos:Pos}(hN:X.N[i]?=some x:=by rfl)(hv:Vis X.env.scope x:=by first|exact Or.inl rfl|exact Or.inr (Or.inl rfl)|exact Or.inr (Or.inr rfl))(hd:(x==("__debug__":Str))=false:=by decide)(hcd:(x==("__classdict__":Str))=false:=by decide):PE X (.Name x pos) (ir i):=wC hN hv hd hcd
end
theorem aM{A B:Prop}(h:B):if false=true then A else B:=by
 rw[if_neg Bool.false_ne_true];exact h
theorem be{A B:Prop}(h:A):if true=true then A else B:=by
 rw[if_pos rfl];exact h
theorem sH{c A B:Prop}[Decidable c](h1:c→A)(h2:¬c→B):if c then A else B:=by
 by_cases h:c
 ·rw[if_pos h];exact h1 h
 ·rw[if_neg h];exact h2 h
def Same(H H':Hp):Prop:=∀b o,H b=some o→H' b=some o
theorem Same.refl(H:Hp):Same H H:=λ_ _ h=>h
theorem Same.trans{H H1 H2:Hp}(a:Same H H1)(b:Same H1 H2):Same H H2:=λc o h=>b c o (a c o h)
theorem Same.free{H H':Hp}(e:Same H H'){l:Addr}(h:H' l=Option.none):H l=Option.none:=by
 cases q:H l with
 |none=>rfl
 |some o =>
  rw[e l o q]at h;cases h
theorem Same.seq{K:PySem.W.Frag}{H H':Hp}{a:Addr}{xs:List V}(e:Same H H')(h:SqL K H a xs):SqL K H' a xs:=by
 rcases h with (h|⟨o,h⟩)|h
 ·exact .inl (.inl (e _ _ h))
 ·exact .inl (.inr ⟨o,e _ _ h⟩)
 ·exact .inr h
section
variable{κ:Type}[DecidableEq κ]
theorem qY{p:κ×V}{r:List (κ×V)}{k:κ}(e:p.1=k):dh (p::r) k=dh r k:=by
 unfold dh;rw[filter_cons,if_neg (by simp[e])]
theorem qZ{p:κ×V}{r:List (κ×V)}{k:κ}(e:¬p.1=k):dh (p::r) k=p::dh r k:=by
 unfold dh;rw[filter_cons,if_pos (by simp[e])]
end
structure LcOk(X:Cx)(scope:Scope)(cl:List (Str×Addr)):Prop where
 kind:scope.kind=.function
 clos:closureFor scope X.env=pure cl
 names:∀x∈scope.names,x.2=.local→scope.names.lookup x.1=some .local
 nocell:∀x∈scope.names,x.2≠.cell
 cells:∀x c,cl.lookup x=some c→X.env.cells.lookup x=some c
 has:∀x,((relabel scope X.env).names.lookup x=some .cell∨(relabel scope X.env).names.lookup x=some .free)→∃c,cl.lookup x=some c
abbrev dc(X:Cx)(N:List Str)(scope:Scope)(cl:List (Str×Addr))(s:Shared)(H:Hp)(ex:List Addr):Cx :=
 {X with N:=N,s₀:=s,H₀:=H,env:=compEnvC scope cl s.heap.objs.size X.env,outer:=X.stack,stack:=X.stack,ex:=ex,fn:=λ_=>false,pn:=[],xe:=λ_ _=>False}
section
variable{X:Cx}{pins:List (Addr×Obj)}{σ:St}{H:Hp}{s:Shared}{N:List Str}{scope:Scope}{cl:List (Str×Addr)}{fp:List Addr}
theorem pT(I:Inv X pins σ H s)(L:LcOk X scope cl)(hf:∀b∈fp,gE X pins H b)(ho:∀b∈fp,b<s.heap.objs.size):(dc X N scope cl s H fp).Ok where
 mod:=I.ok.mod
 kind:=L.kind
 glob:=I.ok.glob
 blt:=I.ok.blt
 above:=le_refl _
 inj:=λx y c h1 h2=>I.ok.inj x y c (L.cells x c h1) (L.cells y c h2)
 has:=λx hx=>L.has x hx
 cab:=λx c h _=>absurd h (by simp)
 hd:=I.ok.hd
 frames:=I.ok.frames
 stk:=.inl rfl
 exf:=λb hb=>⟨ne_of_lt (ho b hb),λx c h=>(hf b hb).2.2.2.2.1 x c (L.cells x c h)⟩
 bs:=I.bs
 bsz:=le_trans I.ok.bsz I.sz
 noex:=λb o e hb=>by
  rcases (hf b hb).2.2.2.1 with z|z
  ·exact I.ok.noex b o e z
  ·exact absurd (lt_of_lt_of_le (lt_size e) (le_trans I.ok.bsz z)) (lt_irrefl _)
 exfs:=λb hb hs=>by
  rcases mem_cons.mp (I.stkSub b hs)with z|z
  ·exact(hf b hb).2.1 z
  ·exact(hf b hb).2.2.1 z
 funs:=I.stack
 frf:=I.stkFree
def dm(k:Nat)(js:List Nat)(σ:St):St:=replicate k none++js.map λj=>(σ[j]?).getD none
theorem jr{h₁:Heap}{tk:Nat}{k:Nat}{js:List Nat}(I:Inv X pins σ H s)(L:LcOk X scope cl)(hf:∀b∈fp,gE X pins H b)(ho:∀b∈fp,b<s.heap.objs.size)(hns:∃m,h₁.Ns s.heap.objs.size m)(hk:∀b o,s.heap.get? b=some o→h₁.get? b=some o)(hN:N.length=k+js.length)(hj:∀(i j:Nat) x,js[i]?=some j→N[k+i]?=some x→X.N[j]?=some x∧Vis X.env.scope x∧X.env.scope.names.lookup x≠some .local∧((relabel scope X.env).names.lookup x=some .cell∨(relabel scope X.env).names.lookup x=some .free)):
  Inv (dc X N scope cl s H fp) [] (dm k js σ) H {s with heap:=h₁,toks:=tk}:=by
 obtain⟨m,hm⟩:=hns;have cellK:∀c v,s.heap.IsCell c v→h₁.IsCell c v:=λc v ⟨o,e,d⟩=>⟨o,hk c o e,d⟩;refine⟨pT I L hf ho,rfl,I.bare,Un.kept hk,⟨m,hm,λi x v e1 e2 e3=>?_⟩,λx c e=>?_,I.hok.fresh (le_refl _),λx c e=>I.freeC x c (L.cells x c e),λp hp=>absurd (show p∈([]:List (Addr×Obj))from hp) (by simp),I.hok.kept hk,?_⟩
 ·unfold dm at e2
  by_cases hi:i<k
  ·rw[getElem?_append_left (by simpa using hi),List.getElem?_replicate]at e2
   split at e2<;>cases e2
  ·obtain⟨i',rfl⟩:∃i',i=k+i':=⟨i-k,by omega⟩;rw[getElem?_append_right (by simp),length_replicate,Nat.add_sub_cancel_left,getElem?_map]at e2;cases ej:js[i']? with
   |none=>rw[ej]at e2;cases e2
   |some j =>
    rw[ej]at e2;have e2':(σ[j]?).getD none=some v:=Option.some.inj e2;obtain⟨h1,h2,h3,h4⟩:=hj i' j x ej e1;have e4:σ[j]?=some (some v):=by
     cases q:σ[j]? with
     |none=>rw[q]at e2';cases e2'
     |some y=>rw[q]at e2';exact congrArg some e2'
    obtain⟨m0,_,hl⟩:=I.loc;obtain⟨u,r,lk⟩:=hl j x v h1 e4 h2;refine⟨u,r,.inr ⟨h4,?_⟩⟩;rcases lk with⟨q,_⟩|⟨_,c,e5,e6⟩
    ·exact absurd q h3
    ·obtain⟨c',e7⟩:=L.has x h4;have:c'=c:=Option.some.inj ((L.cells x c' e7).symm.trans e5);subst this;exact⟨c',e7,cellK c' _ e6⟩
 ·obtain⟨v,e1⟩:=I.cell x c (L.cells x c e);exact⟨v,cellK c v e1⟩
 ·unfold dm;rw[length_append,length_replicate,length_map];exact hN.symm
theorem oy{H':Hp}{σ':St}{s':Shared}{h':Heap}(I:Inv X pins σ H s)(hf:∀b∈fp,gE X pins H b)(J:Inv (dc X N scope cl s H fp) [] σ' H' s')(hs:SameBut s.heap.objs.size s'.heap h'):Inv X pins σ H' {s' with heap:=h'}:=by
 have ne:∀b o,s.heap.get? b=some o→b≠s.heap.objs.size:=λb o e=>ne_of_lt (lt_size e);have u:=J.base;have u':Un (frs X.stack) fp H H' s.heap h' :=
  ⟨λb o e n hb hx=>(hs.2 b (ne b o e)).trans (u.keep b o e n hb hx),λb o e n hb hx=>by
   obtain⟨sl,q⟩:=u.slot b o e n hb hx;exact⟨sl,(hs.2 b (ne b o e)).trans q⟩,u.free,λb o e hx=>by
   obtain⟨o',q⟩:=u.there b o e hx;exact⟨o',(hs.2 b (ne b o e)).trans q⟩,u.tups,u.frzs,u.tbls⟩
 have nt:∀b o,H' b=some o→b≠s.heap.objs.size:=λb o e z=>by
  have:=J.free;rw[show(dc X N scope cl s H fp).env.locals=s.heap.objs.size from rfl,←z,e]at this;cases this
 refine I.call' (s':={s' with heap:=h'}) J.os u' (λb o e=>?_) J.bare λb hb=>?_
 ·refine(J.hok b o e).stay (λc v hc q=>(hs.2 c ?_).trans q) (λ_ q=>q) λ_ _ q=>q;rcases hc with z|z
  ·rw[z];exact nt b o e
  ·exact nt c _ z
 ·obtain⟨f0,f1,f2,f3,f4,f5⟩:=hf b hb;exact⟨f3,f1,f4,f5⟩
end
section
variable{prog:Program}{w:World}{A:Around}{R:Result→Shared→Prop}{s:Shared}
theorem pU{elt target iter:Expr}{scope:Scope}{pos:Pos}{it acc:Value}{env:Env}(I:Nat→Shared→Prop)(turn:∀n s,I n s→wpAny (model prog w) A (pyNext it) (λr s₁=>match r with
   |none=>R (.ok .next) s₁
   | some v=>wpAny (model prog w) A (letOwnedTupleGo target it v) (λ_ s₂=>wpAny (model prog w) A (assign target env v) (λ_ s₃=>wpAny (model prog w) A (eval elt env) (λx s₄ =>
     wpAny (model prog w) A (call (.builtin "list.append") [acc,x]) (λ_ s₅=>∃m,m<n∧I m s₅) (λ_ _=>False) s₄) (λ_ _=>False) s₃) (λ_ _=>False) s₂) (λ_ _=>False) s₁) (λ_ _=>False) s)(n:Nat)(h:I n s):codeAny (model prog w) A (.compLoop (.ListComp elt [⟨target,iter,[],0⟩] scope pos) 0 it acc env) R s:=by
 refine codeAny_loop rfl I (λn s hI=>?_) n h;show wpAny _ _ ((compTurn (.ListComp elt [⟨target,iter,[],0⟩] scope pos) 0 it acc env).onRaise (λx=>do noteFrame x env;theTreesLotGoes x)) _ _ s;refine wpAny_noted ?_;rw[compTurn_list1];refine wpAny_bind (wpAny_standAt (wpAny_bind (wpAny_mono (turn n s hI) (λr s₁ h₁=>?_) λ_ _ h'=>h'.elim)));cases r with
 |none=>exact wpAny_pure h₁
 |some v =>
  refine wpAny_bind (wpAny_mono h₁ (λ_ s₂ h₂=>?_) λ_ _ h'=>h'.elim);exact wpAny_bind (wpAny_mono h₂ (λ_ s₂ h₂=>wpAny_bind (wpAny_bind (wpAny_mono h₂ (λx s₃ h₃=>wpAny_bind (wpAny_mono h₃
   (λ_ s₄ h₄=>wpAny_pure (wpAny_pure ⟨rfl,h₄⟩)) λ_ _ h'=>h'.elim)) λ_ _ h'=>h'.elim))) λ_ _ h'=>h'.elim)
theorem jt(elt target iter c:Expr)(scope:Scope)(pos:Pos)(it acc:Value)(env:Env):
  compTurn (.ListComp elt [⟨target,iter,[c],0⟩] scope pos) 0 it acc env=(standAt iter.pos >>= λ_=>pyNext it >>= λr=>match r with
   |none=>pure (.done .next)
   |some v=>letOwnedTupleGo target it v >>= λ_=>assign target env v >>= λ_ =>
    (forIn [c] true λc r=>if r=true then do let ok ← isTrue c env (eval c env);pure (ForInStep.yield ok)else pure (ForInStep.yield r)) >>= λok =>
    if ok=true then (eval elt env >>= λx=>call (.builtin "list.append") [acc,x] >>= λ_=>pure ()) >>= λ_ =>
     again (.compLoop (.ListComp elt [⟨target,iter,[c],0⟩] scope pos) 0 it acc env)
    else again (.compLoop (.ListComp elt [⟨target,iter,[c],0⟩] scope pos) 0 it acc env)):=by rfl
theorem sI{elt target iter c:Expr}{scope:Scope}{pos:Pos}{it acc:Value}{env:Env}(I:Nat→Shared→Prop)(turn:∀n s,I n s→wpAny (model prog w) A (pyNext it) (λr s₁=>match r with
   |none=>R (.ok .next) s₁
   | some v=>wpAny (model prog w) A (letOwnedTupleGo target it v) (λ_ s₂=>wpAny (model prog w) A (assign target env v) (λ_ s₃=>wpAny (model prog w) A (isTrue c env (eval c env)) (λok s₃ =>
     if ok=true then wpAny (model prog w) A (eval elt env) (λx s₄ =>
      wpAny (model prog w) A (call (.builtin "list.append") [acc,x]) (λ_ s₅=>∃m,m<n∧I m s₅) (λ_ _=>False) s₄) (λ_ _=>False) s₃
     else ∃m,m<n∧I m s₃) (λ_ _=>False) s₃) (λ_ _=>False) s₂) (λ_ _=>False) s₁) (λ_ _=>False) s)(n:Nat)(h:I n s):codeAny (model prog w) A (.compLoop (.ListComp elt [⟨target,iter,[c],0⟩] scope pos) 0 it acc env) R s:=by
 refine codeAny_loop rfl I (λn s hI=>?_) n h;show wpAny _ _ ((compTurn (.ListComp elt [⟨target,iter,[c],0⟩] scope pos) 0 it acc env).onRaise (λx=>do noteFrame x env;theTreesLotGoes x)) _ _ s;refine wpAny_noted ?_;rw[jt];refine wpAny_bind (wpAny_standAt (wpAny_bind (wpAny_mono (turn n s hI) (λr s₁ h₁=>?_) λ_ _ h'=>h'.elim)));cases r with
 |none=>exact wpAny_pure h₁
 |some v =>
  refine wpAny_bind (wpAny_mono h₁ (λ_ s₂ h₂=>?_) λ_ _ h'=>h'.elim);refine wpAny_bind (wpAny_mono h₂ (λ_ s₃ h₃=>?_) λ_ _ h'=>h'.elim);rw[List.forIn_cons];simp only[if_true];refine wpAny_bind (wpAny_bind (wpAny_bind (wpAny_mono h₃ (λok s₄ h₄=>wpAny_pure ?_) λ_ _ h'=>h'.elim)));simp only[List.forIn_nil];refine wpAny_pure ?_;cases ok with
  |true =>
   rw[if_pos rfl]at h₄⊢;exact wpAny_bind (wpAny_bind (wpAny_mono h₄ (λx s₃ h₃=>wpAny_bind (wpAny_mono h₃ (λ_ s₄ h₄=>wpAny_pure (wpAny_pure ⟨rfl,h₄⟩)) λ_ _ h'=>h'.elim)) λ_ _ h'=>h'.elim))
  |false =>
   rw[if_neg (by simp)]at h₄⊢;exact wpAny_pure ⟨rfl,h₄⟩
end
def LcW(k:Nat)(js:List Nat)(g:TG)(te:TE)(σ:St)(Q:VK)(J:It)(H1:Hp)(p:Addr):Prop:=∃W:Nat→Nat→List V→St→Hp→Prop,
 (∃m,W 0 m [] (dm k js σ) (upd H1 p (.lst [])))∧∀i m ys σ' H',W i m ys σ' H'→(J.stop i H'∧Q (.ref p) H') ∨
  (J.go i H'∧ys.length<sizeLine∧∀x H2,J.yld i H' x H2→g x σ' H2 λσ2 H3=>te σ2 H3 λy H4=>H4 p=some (.lst ys)∧∃m',m'<m∧W (i+1) m' (ys++[y]) σ2 (upd H4 p (.lst (ys++[y]))))
def tLc(k:Nat)(js:List Nat)(wi:TI)(g:TG)(te:TE):TE:=λσ H Q=>wi σ H λJ H1=>∀p,H1 p=none→LcW k js g te σ Q J H1 p
def yG(k:Nat)(js:List Nat)(g:TG)(tc:TT)(te:TE)(σ:St)(Q:VK)(J:It)(H1:Hp)(p:Addr):Prop:=∃W:Nat→Nat→List V→St→Hp→Prop,
 (∃m,W 0 m [] (dm k js σ) (upd H1 p (.lst [])))∧∀i m ys σ' H',W i m ys σ' H'→(J.stop i H'∧Q (.ref p) H') ∨
  (J.go i H'∧ys.length<sizeLine∧∀x H2,J.yld i H' x H2→g x σ' H2 λσ2 H3=>tc σ2 H3 λb H4=>if b=true then te σ2 H4 λy H5=>H5 p=some (.lst ys)∧∃m',m'<m∧W (i+1) m' (ys++[y]) σ2 (upd H5 p (.lst (ys++[y])))
   else ∃m',m'<m∧W (i+1) m' ys σ2 H4)
def zJ(k:Nat)(js:List Nat)(wi:TI)(g:TG)(tc:TT)(te:TE):TE:=λσ H Q=>wi σ H λJ H1=>∀p,H1 p=none→yG k js g tc te σ Q J H1 p
section
variable{X:Cx}{N:List Str}{scope:Scope}{cl:List (Str×Addr)}{k:Nat}{js:List Nat}
theorem hJ{elt tg iter:Expr}{pos:Pos}{wi:TI}{g:TG}{te:TE}(hc:X.calm=true)(L:LcOk X scope cl)(hN:N.length=k+js.length)(hj:∀(i j:Nat) x,js[i]?=some j→N[k+i]?=some x→X.N[j]?=some x∧Vis X.env.scope x∧X.env.scope.names.lookup x≠some .local∧((relabel scope X.env).names.lookup x=some .cell∨(relabel scope X.env).names.lookup x=some .free))(hi:PI X tg iter wi)(hg:∀s H fp,PG (dc X N scope cl s H fp) tg g)(he:∀s H fp,PE (dc X N scope cl s H fp) elt te)(hs:∀x,foldedSetIterable iter X.env x=pure x:=by intro _;rfl):PE X (.ListComp elt [⟨tg,iter,[],0⟩] scope pos) (tLc k js wi g te):=by
 intro pins s σ H Q I h;rw[eval_ListComp];refine wpAny_comprehension_free (use:=none) rfl hs L.clos L.kind L.names ?_;refine thn (hi pins s σ H _ I h) λv s1 h1=>thn h1 λitv s2 h2=>?_;obtain⟨it,fp,tn,J,H2,e,I2,T,st2,f2,hW⟩:=h2;subst e;have hfp:∀b∈fp,b<s2.heap.objs.size:=λb hb=>by
  obtain⟨o,e,_⟩:=T.obj _ _ st2 b hb;exact lt_size e
 refine wpAny_newObj_type (wpAny_newFunctionEnv L.nocell (by intro y hy;simp at hy) (λh₁ hns hsb=>?_) L.kind);dsimp only at hns hsb⊢;obtain⟨W,⟨m0,w0⟩,turn⟩:=hW s2.heap.objs.size (I2.hok.fresh (le_refl _));have I3:Inv X pins σ (upd H2 s2.heap.objs.size (.lst [])) {s2 with heap:=s2.heap.push {cls:=.type "list",dict:=none,data:=.seq ([]:List Value).toArray}}:=I2.lnew (t':=s2.toks) .nil (zero_le _)
 generalize hA:s2.heap.push {cls:=.type "list",dict:=none,data:=.seq ([]:List Value).toArray}=hpA at hns hsb I3⊢;have hszA:hpA.objs.size=s2.heap.objs.size+1:=by rw[←hA,size_push]
 have keepA:∀b o,s2.heap.get? b=some o→hpA.get? b=some o:=λb o e=>by rw[←hA];exact get?_push_of_some _ e
 have f3:∀b∈fp,gE X pins (upd H2 s2.heap.objs.size (.lst [])) b:=λb hb=>⟨by rw[aj (ne_of_lt (hfp b hb))];exact(f2 b hb).1,(f2 b hb).2⟩;have hfp3:∀b∈fp,b<hpA.objs.size:=λb hb=>by rw[hszA];exact lt_succ_of_lt (hfp b hb)
 have keep1:∀b o,hpA.get? b=some o→h₁.get? b=some o:=λb o e=>hsb.extBut b o (ne_of_lt (lt_size e)) (get?_push_of_some _ e);have J0:=jr (N:=N) (k:=k) (js:=js) (tk:=s2.toks+([]:List (Str×Value)).length) I3 L f3 hfp3 ⟨_,hns⟩ keep1 hN hj;have st1:tn 0 h₁:=T.keep _ _ _ st2 λb hb o e=>keep1 b o (keepA b o e);have stat:∀{H':Hp},(∀b∈fp,H' b=none)→∀b∈fp,gE (dc X N scope cl {s2 with heap:=hpA} (upd H2 s2.heap.objs.size (.lst [])) fp) [] H' b:=λhn b hb =>
  ⟨hn b hb,ne_of_lt (hfp3 b hb),(pT (N:=N) I3 L f3 hfp3).exfs b hb,.inl hb,λx c h=>(f3 b hb).2.2.2.2.1 x c (L.cells x c h),λp hp=>absurd (show p∈([]:List (Addr×Obj))from hp) (by simp)⟩
 have loop:codeAny (model X.prog X.w) X.A (.compLoop (.ListComp elt [⟨tg,iter,[],0⟩] scope pos) 0 (.ref it) (.ref s2.heap.objs.size) (compEnvC scope cl hpA.objs.size X.env))
   (compPost (model X.prog X.w) X.A X.xe none (EP X pins σ Q) (.ref s2.heap.objs.size) hpA.objs.size) {s2 with heap:=h₁,toks:=s2.toks+([]:List (Str×Value)).length}:=by
  refine pU (λn s'=>∃i ys σ' H',Inv (dc X N scope cl {s2 with heap:=hpA} (upd H2 s2.heap.objs.size (.lst [])) fp) [] σ' H' s'∧tn i s'.heap∧(∀b∈fp,H' b=none)∧W i n ys σ' H') ?_ m0 ⟨0,[],_,_,J0,st1,λb hb=>(f3 b hb).1,w0⟩
  rintro n s3 ⟨i,ys,σ3,H3,J3,st3,fr3,w3⟩;rcases turn i n ys σ3 H3 w3 with⟨stop,qn⟩|⟨go,hlen,step⟩
  ·refine thn (T.done (dc X N scope cl {s2 with heap:=hpA} (upd H2 s2.heap.objs.size (.lst [])) fp) rfl rfl rfl hc i [] s3 σ3 H3 (λ_ _=>False) J3 (stat fr3) st3 stop) λr s4 hpt=>?_
   obtain⟨hr,J4⟩:=hpt;subst hr;obtain⟨m,hm,_⟩:=J4.loc;exact⟨m,hm,λh' hs'=>⟨.ref s2.heap.objs.size,H3,oy I3 f3 J4 hs',rfl,qn⟩⟩
  ·refine thn (T.item (dc X N scope cl {s2 with heap:=hpA} (upd H2 s2.heap.objs.size (.lst [])) fp) rfl rfl rfl hc i [] s3 σ3 H3 (λ_ _=>False) J3 (stat fr3) st3 go) λr s4 hpt=>?_
   obtain⟨u,hr,h4⟩:=hpt;subst hr;refine thn h4 λ_ s5 hpt=>?_;obtain⟨x,H5,J5,r5,y5,st5,fr5⟩:=hpt;have J5':=J5.pinned (stat fr5) (T.obj _ _ st5);refine thn (hg _ _ _ _ s5 σ3 H5 x u _ J5' r5 (step x H5 y5)) λ_ s6 hpt=>?_;obtain⟨σ6,H6,J6,q6⟩:=hpt;refine thn (he _ _ _ _ s6 σ6 H6 _ J6 q6) λy s7 hpt=>?_;obtain⟨vy,H7,J7,r7,q7,m',hm',w7⟩:=hpt;refine thn (ce _ s7 σ6 H7 (.ref s2.heap.objs.size) [vy] _ _ (λ_ H8=>H8=upd H7 s2.heap.objs.size (.lst (ys++[vy]))) J7 rfl (.cons r7 .nil) ⟨_,ys,vy,rfl,rfl,q7,hlen,rfl⟩) λ_ s8 hpt=>?_;obtain⟨_,H8,J8,_,e8⟩:=hpt;subst e8;refine⟨m',hm',i+1,ys++[vy],σ6,_,J8.unpinned,T.keep _ _ _ st5 λb hb o e=>(J8.pin (b,o) (mem_append_right _ (mem_append_right _ (bH hb e)))).1,λb hb=>?_,w7⟩;obtain⟨o,e,d⟩:=T.obj _ _ st5 b hb;exact(J8.pin (b,o) (mem_append_right _ (mem_append_right _ (bH hb e)))).2.1
 exact codeAny_compStart_list loop (T.self _ 0 _ _ _ st1 loop)
theorem lG{elt tg iter c:Expr}{pos:Pos}{wi:TI}{g:TG}{tc:TT}{te:TE}(hc:X.calm=true)(L:LcOk X scope cl)(hN:N.length=k+js.length)(hj:∀(i j:Nat) x,js[i]?=some j→N[k+i]?=some x→X.N[j]?=some x∧Vis X.env.scope x∧X.env.scope.names.lookup x≠some .local∧((relabel scope X.env).names.lookup x=some .cell∨(relabel scope X.env).names.lookup x=some .free))(hi:PI X tg iter wi)(hg:∀s H fp,PG (dc X N scope cl s H fp) tg g)(ht:∀s H fp,PT (dc X N scope cl s H fp) c tc)(he:∀s H fp,PE (dc X N scope cl s H fp) elt te)(hs:∀x,foldedSetIterable iter X.env x=pure x:=by intro _;rfl):PE X (.ListComp elt [⟨tg,iter,[c],0⟩] scope pos) (zJ k js wi g tc te):=by
 intro pins s σ H Q I h;rw[eval_ListComp];refine wpAny_comprehension_free (use:=none) rfl hs L.clos L.kind L.names ?_;refine thn (hi pins s σ H _ I h) λv s1 h1=>thn h1 λitv s2 h2=>?_;obtain⟨it,fp,tn,J,H2,e,I2,T,st2,f2,hW⟩:=h2;subst e;have hfp:∀b∈fp,b<s2.heap.objs.size:=λb hb=>by
  obtain⟨o,e,_⟩:=T.obj _ _ st2 b hb;exact lt_size e
 refine wpAny_newObj_type (wpAny_newFunctionEnv L.nocell (by intro y hy;simp at hy) (λh₁ hns hsb=>?_) L.kind);dsimp only at hns hsb⊢;obtain⟨W,⟨m0,w0⟩,turn⟩:=hW s2.heap.objs.size (I2.hok.fresh (le_refl _));have I3:Inv X pins σ (upd H2 s2.heap.objs.size (.lst [])) {s2 with heap:=s2.heap.push {cls:=.type "list",dict:=none,data:=.seq ([]:List Value).toArray}}:=I2.lnew (t':=s2.toks) .nil (zero_le _)
 generalize hA:s2.heap.push {cls:=.type "list",dict:=none,data:=.seq ([]:List Value).toArray}=hpA at hns hsb I3⊢;have hszA:hpA.objs.size=s2.heap.objs.size+1:=by rw[←hA,size_push]
 have keepA:∀b o,s2.heap.get? b=some o→hpA.get? b=some o:=λb o e=>by rw[←hA];exact get?_push_of_some _ e
 have f3:∀b∈fp,gE X pins (upd H2 s2.heap.objs.size (.lst [])) b:=λb hb=>⟨by rw[aj (ne_of_lt (hfp b hb))];exact(f2 b hb).1,(f2 b hb).2⟩;have hfp3:∀b∈fp,b<hpA.objs.size:=λb hb=>by rw[hszA];exact lt_succ_of_lt (hfp b hb)
 have keep1:∀b o,hpA.get? b=some o→h₁.get? b=some o:=λb o e=>hsb.extBut b o (ne_of_lt (lt_size e)) (get?_push_of_some _ e);have J0:=jr (N:=N) (k:=k) (js:=js) (tk:=s2.toks+([]:List (Str×Value)).length) I3 L f3 hfp3 ⟨_,hns⟩ keep1 hN hj;have st1:tn 0 h₁:=T.keep _ _ _ st2 λb hb o e=>keep1 b o (keepA b o e);have stat:∀{H':Hp},(∀b∈fp,H' b=none)→∀b∈fp,gE (dc X N scope cl {s2 with heap:=hpA} (upd H2 s2.heap.objs.size (.lst [])) fp) [] H' b:=λhn b hb =>
  ⟨hn b hb,ne_of_lt (hfp3 b hb),(pT (N:=N) I3 L f3 hfp3).exfs b hb,.inl hb,λx c h=>(f3 b hb).2.2.2.2.1 x c (L.cells x c h),λp hp=>absurd (show p∈([]:List (Addr×Obj))from hp) (by simp)⟩
 have loop:codeAny (model X.prog X.w) X.A (.compLoop (.ListComp elt [⟨tg,iter,[c],0⟩] scope pos) 0 (.ref it) (.ref s2.heap.objs.size) (compEnvC scope cl hpA.objs.size X.env))
   (compPost (model X.prog X.w) X.A X.xe none (EP X pins σ Q) (.ref s2.heap.objs.size) hpA.objs.size) {s2 with heap:=h₁,toks:=s2.toks+([]:List (Str×Value)).length}:=by
  refine sI (λn s'=>∃i ys σ' H',Inv (dc X N scope cl {s2 with heap:=hpA} (upd H2 s2.heap.objs.size (.lst [])) fp) [] σ' H' s'∧tn i s'.heap∧(∀b∈fp,H' b=none)∧W i n ys σ' H') ?_ m0 ⟨0,[],_,_,J0,st1,λb hb=>(f3 b hb).1,w0⟩
  rintro n s3 ⟨i,ys,σ3,H3,J3,st3,fr3,w3⟩;rcases turn i n ys σ3 H3 w3 with⟨stop,qn⟩|⟨go,hlen,step⟩
  ·refine thn (T.done (dc X N scope cl {s2 with heap:=hpA} (upd H2 s2.heap.objs.size (.lst [])) fp) rfl rfl rfl hc i [] s3 σ3 H3 (λ_ _=>False) J3 (stat fr3) st3 stop) λr s4 hpt=>?_
   obtain⟨hr,J4⟩:=hpt;subst hr;obtain⟨m,hm,_⟩:=J4.loc;exact⟨m,hm,λh' hs'=>⟨.ref s2.heap.objs.size,H3,oy I3 f3 J4 hs',rfl,qn⟩⟩
  ·refine thn (T.item (dc X N scope cl {s2 with heap:=hpA} (upd H2 s2.heap.objs.size (.lst [])) fp) rfl rfl rfl hc i [] s3 σ3 H3 (λ_ _=>False) J3 (stat fr3) st3 go) λr s4 hpt=>?_
   obtain⟨u,hr,h4⟩:=hpt;subst hr;refine thn h4 λ_ s5 hpt=>?_;obtain⟨x,H5,J5,r5,y5,st5,fr5⟩:=hpt;have J5':=J5.pinned (stat fr5) (T.obj _ _ st5);refine thn (hg _ _ _ _ s5 σ3 H5 x u _ J5' r5 (step x H5 y5)) λ_ s6 hpt=>?_;obtain⟨σ6,H6,J6,q6⟩:=hpt;refine thn (ht _ _ _ _ s6 σ6 H6 _ J6 q6) λb s6 hpt=>?_;obtain⟨H6,J6,q6⟩:=hpt;cases b with
   |true =>
    rw[if_pos rfl]at q6⊢;refine thn (he _ _ _ _ s6 σ6 H6 _ J6 q6) λy s7 hpt=>?_;obtain⟨vy,H7,J7,r7,q7,m',hm',w7⟩:=hpt;refine thn (ce _ s7 σ6 H7 (.ref s2.heap.objs.size) [vy] _ _ (λ_ H8=>H8=upd H7 s2.heap.objs.size (.lst (ys++[vy]))) J7 rfl (.cons r7 .nil) ⟨_,ys,vy,rfl,rfl,q7,hlen,rfl⟩) λ_ s8 hpt=>?_;obtain⟨_,H8,J8,_,e8⟩:=hpt;subst e8;refine⟨m',hm',i+1,ys++[vy],σ6,_,J8.unpinned,T.keep _ _ _ st5 λb hb o e=>(J8.pin (b,o) (mem_append_right _ (mem_append_right _ (bH hb e)))).1,λb hb=>?_,w7⟩;obtain⟨o,e,d⟩:=T.obj _ _ st5 b hb;exact(J8.pin (b,o) (mem_append_right _ (mem_append_right _ (bH hb e)))).2.1
   |false =>
    rw[if_neg (by simp)]at q6⊢;obtain⟨m',hm',w7⟩:=q6;refine⟨m',hm',i+1,ys,σ6,_,J6.unpinned,T.keep _ _ _ st5 λb hb o e=>(J6.pin (b,o) (mem_append_right _ (mem_append_right _ (bH hb e)))).1,λb hb=>?_,w7⟩;obtain⟨o,e,d⟩:=T.obj _ _ st5 b hb;exact(J6.pin (b,o) (mem_append_right _ (mem_append_right _ (bH hb e)))).2.1
 exact codeAny_compStart_list loop (T.self _ 0 _ _ _ st1 loop)
end
end L2
namespace TB
open PySem SetTable
section
variable{prog:Program}{w:World}{K:Type}[DecidableEq K]{knd:KeyKind prog w K}{A:Around}{E:Value→Shared→Prop}{s:Shared}
end
section
variable{prog:Program}{w:World}{K:Type}[DecidableEq K](knd:KeyKind prog w K)
variable{knd}
variable{A:Around}{E:Value→Shared→Prop}{s:Shared}
end
section
variable{prog:Program}{w:World}{K:Type}[DecidableEq K]{knd:KeyKind prog w K}{A:Around}{E:Value→Shared→Prop}{s:Shared}
end
section
variable{prog:Program}{w:World}{K:Type}[DecidableEq K]{knd:KeyKind prog w K}{A:Around}{R:Result→Shared→Prop}{I:Addr}{fp wr:List Addr}{G:Array GenState→Array GenState→Prop}{n:Nat}{P:Nat→Value→Prop}{St:Nat→Shared→Prop}
end
section
variable{prog:Program}{w:World}{K:Type}[DecidableEq K]{knd:KeyKind prog w K}{A:Around}{E:Value→Shared→Prop}{s:Shared}
end
end TB
namespace SRT
open PySem PySem.W PyProof.Rows
def run{α:Type}(f:Nat→Nat→Bool):KasT α→α
 |.ret a=>a
 |.ask i j k=>run f (k (f i j))
theorem eD{α β:Type}(f:Nat→Nat→Bool)(g:α→KasT β):∀t:KasT α,run f (t.bind g)=run f (g (run f t))
 |.ret a=>rfl
 |.ask i j k=>eD f g (k (f i j))
def hO{α:Type}(f:Nat→Nat→Bool)(n:Nat):KasT α→Prop
 |.ret _=>True
 |.ask i j k=>i<n∧j<n∧hO f n (k (f i j))
theorem du{α β:Type}{f:Nat→Nat→Bool}{n:Nat}{g:α→KasT β}:∀{t:KasT α},hO f n t→hO f n (g (run f t))→hO f n (t.bind g)
 |.ret a,_,h=>h
 |.ask i j k,h,h'=>⟨h.1,h.2.1,du (t:=k (f i j)) h.2.2 h'⟩
theorem pV{α:Type}{f:Nat→Nat→Bool}{n:Nat}{cmp:Nat→Nat→(Bool→Shared→Prop)→Shared→Prop}{s:Shared}(hc:∀i j C,i<n→j<n→C (f i j) s→cmp i j C s)(Q:α→Shared→Prop):∀t:KasT α,hO f n t→Q (run f t) s→t.kasWp cmp Q s
 |.ret a,_,h=>h
 |.ask i j k,p,h=>hc i j _ p.1 p.2.1 (pV hc Q (k (f i j)) p.2.2 h)
structure Ord(f:Nat→Nat→Bool)(n:Nat):Prop where
 irr:∀i,i<n→f i i=false
 tr:∀i j k,i<n→j<n→k<n→f i j=true→f j k=true→f i k=true
 tot:∀i j,i<n→j<n→i≠j→f i j=true∨f j i=true
section
variable{f:Nat→Nat→Bool}{n:Nat}
structure Row(n:Nat)(p:Array Nat):Prop where
 perm:p.toList.Perm (List.range n)
theorem Row.size{p:Array Nat}(r:Row n p):p.size=n:=by have:=r.perm.length_eq;simpa using this
theorem Row.lt{p:Array Nat}(r:Row n p){i:Nat}(hi:i<n):p.getD i 0<n:=by
 have hs:=r.size;have:p.getD i 0∈p.toList:=by
  rw[getD_eq_getD_getElem?,Array.getElem?_eq_getElem (by omega)];exact Array.getElem_mem_toList (by omega)
 exact mem_range.mp (r.perm.mem_iff.mp this)
theorem Row.ne{p:Array Nat}(r:Row n p){i j:Nat}(hi:i<n)(hj:j<n)(hij:i≠j):p.getD i 0≠p.getD j 0:=by
 have hs:=r.size;have nd:p.toList.Nodup:=r.perm.nodup_iff.mpr List.nodup_range;rw[getD_eq_getD_getElem?,getD_eq_getD_getElem?,Array.getElem?_eq_getElem (by omega),Array.getElem?_eq_getElem (by omega)];intro e;have e':p.toList[i]'(by simpa using (by omega:i<p.size))=p.toList[j]'(by simpa using (by omega:j<p.size)):=by simpa using e
 exact hij ((getElem_inj nd).mp e')
theorem Row.rev{p:Array Nat}(r:Row n p)(i j:Nat):Row n (kas_rev p i j):=⟨(Array.perm_iff_toList_perm.mp (mirror_perm p i j _)).trans r.perm⟩
theorem Row.bub{p:Array Nat}(r:Row n p)(i j:Nat):Row n (bubble p i j):=⟨(Array.perm_iff_toList_perm.mp (bubble_perm p i j)).trans r.perm⟩
def Up(f:Nat→Nat→Bool)(p:Array Nat)(m:Nat):Prop:=∀i j,i<j→j<m→f (p.getD i 0) (p.getD j 0)=true
theorem uQ(O:Ord f n){p:Array Nat}(r:Row n p){m:Nat}(hm:m<n)(h1:1≤m)(u:Up f p m)(h:f (p.getD m 0) (p.getD (m-1) 0)=false):Up f p (m+1):=by
 have hl:f (p.getD (m-1) 0) (p.getD m 0)=true:=by
  rcases O.tot _ _ (r.lt (i:=m) hm) (r.lt (i:=m-1) (by omega)) (r.ne hm (by omega) (by omega))with z|z
  ·rw[h]at z;cases z
  ·exact z
 intro i j hij hj
 by_cases e:j=m
 ·subst e
  by_cases e2:i=j-1
  ·rw[e2];exact hl
  ·exact O.tr _ _ _ (r.lt (by omega)) (r.lt (by omega)) (r.lt hm) (u i (j-1) (by omega) (by omega)) hl
 ·exact u i j hij (by omega)
theorem lH(O:Ord f n){p:Array Nat}(r:Row n p):∀(fuel m:Nat),1≤m→m+fuel≤n→Up f p m →
  m≤run f (kas_asc p fuel m)∧run f (kas_asc p fuel m)≤m+fuel∧Up f p (run f (kas_asc p fuel m))∧(run f (kas_asc p fuel m)<m+fuel→f (p.getD (run f (kas_asc p fuel m)) 0) (p.getD (run f (kas_asc p fuel m)-1) 0)=true)
 |0,m,_,_,u=>⟨le_refl _,le_refl _,u,λh=>absurd h (by simp[kas_asc,run])⟩
 |fuel+1,m,h1,hm,u=>by
  cases e:f (p.getD m 0) (p.getD (m-1) 0)with
  |true =>
   have er:run f (kas_asc p (fuel+1) m)=m:=by
    show run f (if f (p.getD m 0) (p.getD (m-1) 0)=true then KasT.ret m else kas_asc p fuel (m+1))=m
    rw[e,if_pos rfl];rfl
   rw[er];exact⟨le_refl _,by omega,u,λ_=>e⟩
  |false =>
   have er:run f (kas_asc p (fuel+1) m)=run f (kas_asc p fuel (m+1)):=by
    show run f (if f (p.getD m 0) (p.getD (m-1) 0)=true then KasT.ret m else kas_asc p fuel (m+1))=_
    rw[e,if_neg (by simp)]
   rw[er];obtain⟨a1,a2,a3,a4⟩:=lH O r fuel (m+1) (by omega) (by omega) (uQ O r (by omega) h1 u e);exact⟨by omega,by omega,a3,λh=>a4 (by omega)⟩
def wT(f:Nat→Nat→Bool)(p:Array Nat)(m:Nat):Prop:=∀i j,i<j→j<m→f (p.getD j 0) (p.getD i 0)=true
theorem lI(O:Ord f n){p:Array Nat}(r:Row n p):∀(fuel m:Nat),1≤m→m+fuel≤n→wT f p m →
  ∃m',run f (kas_desc fuel p m 0)=(p,m',0)∧m≤m'∧m'≤m+fuel∧wT f p m'
 |0,m,_,_,u=>⟨m,rfl,le_refl _,le_refl _,u⟩
 |fuel+1,m,h1,hm,u=>by
  cases e:f (p.getD m 0) (p.getD (m-1) 0)with
  |true =>
   have er:run f (kas_desc (fuel+1) p m 0)=run f (kas_desc fuel p (m+1) 0):=by
    show run f (if f (p.getD m 0) (p.getD (m-1) 0)=true then (if 0>0 then _ else kas_desc fuel p (m+1) 0)else _)=_
    rw[e,if_pos rfl,if_neg (by omega)]
   rw[er];obtain⟨m',a1,a2,a3,a4⟩:=lI O r fuel (m+1) (by omega) (by omega) (by
    intro i j hij hj
    by_cases ej:j=m
    ·subst ej
     by_cases e2:i=j-1
     ·rw[e2];exact e
     ·exact O.tr _ _ _ (r.lt (by omega)) (r.lt (i:=j-1) (by omega)) (r.lt (by omega)) e (u i (j-1) (by omega) (by omega))
    ·exact u i j hij (by omega))
   exact⟨m',a1,by omega,by omega,a4⟩
  |false =>
   have e2:f (p.getD (m-1) 0) (p.getD m 0)=true:=by
    rcases O.tot _ _ (r.lt (i:=m) (by omega)) (r.lt (i:=m-1) (by omega)) (r.ne (by omega) (by omega) (by omega))with z|z
    ·rw[e]at z;cases z
    ·exact z
   have er:run f (kas_desc (fuel+1) p m 0)=(p,m,0):=by
    show run f (if f (p.getD m 0) (p.getD (m-1) 0)=true then _ else KasT.ask (p.getD (m-1) 0) (p.getD m 0) λd=>if d=true then .ret (p,m,0)else kas_desc fuel p (m+1) (0+1))=_
    rw[e,if_neg (by simp)];show run f (if f (p.getD (m-1) 0) (p.getD m 0)=true then KasT.ret (p,m,0)else kas_desc fuel p (m+1) (0+1))=_
    rw[e2,if_pos rfl];rfl
   exact⟨m,er,le_refl _,by omega,u⟩
theorem pW{p:Array Nat}{m:Nat}(hm:m≤p.size)(k:Nat)(hk:k<m):(kas_rev p 0 m).getD k 0=p.getD (m-1-k) 0:=by
 unfold kas_rev;rw[getD_eq_getD_getElem?,getElem?_mirror_all hm k,if_pos ⟨by omega,hk⟩,getD_eq_getD_getElem?]
 congr 2
 omega
theorem wU{p:Array Nat}{m:Nat}(hm:m≤p.size)(d:wT f p m):Up f (kas_rev p 0 m) m:=by
 intro i j hij hj;rw[pW hm i (by omega),pW hm j hj];exact d _ _ (by omega) (by omega)
theorem mO(O:Ord f n){p:Array Nat}(r:Row n p)(h2:1≤n):∃m p',run f (kas_count n p)=(m,p')∧1≤m∧m≤n∧Row n p'∧Up f p' m:=by
 obtain⟨a1,a2,a3,a4⟩:=lH O r (n-1) 1 (by omega) (by omega) (by intro i j hij hj;omega);have er:run f (kas_count n p)=run f (if (run f (kas_asc p (n-1) 1)==n)=true then KasT.ret (run f (kas_asc p (n-1) 1),p)else if run f (kas_asc p (n-1) 1)>1 then .ask (p.getD 0 0) (p.getD (run f (kas_asc p (n-1) 1)-1) 0) λc=>if c=true then .ret (run f (kas_asc p (n-1) 1),p)else kas_descPart (run f (kas_asc p (n-1) 1)) n (kas_rev p 0 (run f (kas_asc p (n-1) 1)))
  else kas_descPart (run f (kas_asc p (n-1) 1)) n p):=by
  unfold kas_count;rw[eD]
 rw[er];generalize run f (kas_asc p (n-1) 1)=m at a1 a2 a3 a4⊢
 by_cases e:m=n
 ·rw[if_pos (by simp[e])];exact⟨m,p,rfl,a1,by omega,r,a3⟩
 ·rw[if_neg (by simpa using e)]
  by_cases e1:m>1
  ·rw[if_pos e1];refine⟨m,p,?_,a1,by omega,r,a3⟩;show run f (if f (p.getD 0 0) (p.getD (m-1) 0)=true then KasT.ret (m,p)else _)=_
   rw[a3 0 (m-1) (by omega) (by omega),if_pos rfl];rfl
  ·rw[if_neg e1];have em:m=1:=by omega
   subst em;have hd:=a4 (by omega);unfold kas_descPart;obtain⟨m',b1,b2,b3,b4⟩:=lI O r (n-(1+1)) (1+1) (by omega) (by omega) (by
    intro i j hij hj;have:i=0∧j=1:=by omega
    rw[this.1,this.2];exact hd)
   rw[eD,b1];dsimp only;rw[if_neg (by omega)];unfold kas_tail3;have hs:=r.size;have ur:=wU (f:=f) (by omega:m'≤p.size) b4;obtain⟨c1,c2,c3,c4⟩:=lH O (r.rev 0 m') (n-m') m' (by omega) (by omega) ur;rw[eD];exact⟨_,_,rfl,by omega,by omega,r.rev 0 m',c3⟩
theorem hU(O:Ord f n){p:Array Nat}(r:Row n p){k:Nat}(hk:k<n)(u:Up f p k):∀(fuel l r':Nat),r'-l≤fuel→l≤r'→r'≤k →
  (∀i,i<l→f (p.getD i 0) (p.getD k 0)=true)→(∀i,r'≤i→i<k→f (p.getD k 0) (p.getD i 0)=true) →
  run f (kas_place p k fuel l r')≤k∧(∀i,i<run f (kas_place p k fuel l r')→f (p.getD i 0) (p.getD k 0)=true)∧(∀i,run f (kas_place p k fuel l r')≤i→i<k→f (p.getD k 0) (p.getD i 0)=true)
 |0,l,r',h1,h2,h3,h4,h5=>by
  have:l=r':=by omega
  subst this;exact⟨h3,h4,h5⟩
 |fuel+1,l,r',h1,h2,h3,h4,h5=>by
  unfold kas_place
  by_cases e:l≥r'
  ·rw[if_pos e];have:l=r':=by omega
   subst this;exact⟨h3,h4,h5⟩
  ·rw[if_neg e];have hmid:(l+r') / 2<k:=by omega
   cases c:f (p.getD k 0) (p.getD ((l+r') / 2) 0)with
   |true =>
    have er:run f (KasT.ask (p.getD k 0) (p.getD ((l+r') / 2) 0) λc=>if c=true then kas_place p k fuel l ((l+r') / 2)else kas_place p k fuel ((l+r') / 2+1) r')=run f (kas_place p k fuel l ((l+r') / 2)):=by
     show run f (if f (p.getD k 0) (p.getD ((l+r') / 2) 0)=true then _ else _)=_
     rw[c,if_pos rfl]
    rw[er];refine hU O r hk u fuel l _ (by omega) (by omega) (by omega) h4 (λi hi hik=>?_)
    by_cases ei:i=(l+r') / 2
    ·rw[ei];exact c
    ·exact O.tr _ _ _ (r.lt hk) (r.lt (i:=(l+r') / 2) (by omega)) (r.lt (by omega)) c (u _ _ (by omega) hik)
   |false =>
    have er:run f (KasT.ask (p.getD k 0) (p.getD ((l+r') / 2) 0) λc=>if c=true then kas_place p k fuel l ((l+r') / 2)else kas_place p k fuel ((l+r') / 2+1) r')=run f (kas_place p k fuel ((l+r') / 2+1) r'):=by
     show run f (if f (p.getD k 0) (p.getD ((l+r') / 2) 0)=true then _ else _)=_
     rw[c,if_neg (by simp)]
    rw[er];have c':f (p.getD ((l+r') / 2) 0) (p.getD k 0)=true:=by
     rcases O.tot _ _ (r.lt (i:=k) hk) (r.lt (i:=(l+r') / 2) (by omega)) (r.ne hk (by omega) (by omega))with z|z
     ·rw[c]at z;cases z
     ·exact z
    refine hU O r hk u fuel _ r' (by omega) (by omega) h3 (λi hi=>?_) h5
    by_cases ei:i=(l+r') / 2
    ·rw[ei];exact c'
    ·exact O.tr _ _ _ (r.lt (by omega)) (r.lt (i:=(l+r') / 2) (by omega)) (r.lt hk) (u i _ (by omega) (by omega)) c'
theorem ja{p:Array Nat}{k l:Nat}(hk:k<p.size)(hl:l≤k)(i:Nat):(bubble p k (k-l)).getD i 0=if i=l then p.getD k 0 else if l<i∧i≤k then p.getD (i-1) 0 else p.getD i 0:=by
 simp only[getD_eq_getD_getElem?];rw[getElem?_bubble hk (k-l) (by omega) i];have e:k-(k-l)=l:=by omega
 rw[e]
 by_cases h1:i=l
 ·rw[if_pos h1,if_pos h1]
 ·rw[if_neg h1,if_neg h1]
  by_cases h2:l<i∧i≤k
  ·rw[if_pos h2,if_pos h2]
  ·rw[if_neg h2,if_neg h2]
theorem sJ(O:Ord f n):∀(fuel:Nat)(p:Array Nat)(k:Nat),Row n p→k+fuel=n→Up f p k→Row n (run f (kas_bin fuel p k))∧Up f (run f (kas_bin fuel p k)) n
 |0,p,k,r,hk,u=>by
  have:k=n:=by omega
  subst this;exact⟨r,u⟩
 |fuel+1,p,k,r,hk,u=>by
  have hkn:k<n:=by omega
  obtain⟨a1,a2,a3⟩:=hU O r hkn u k 0 k (by omega) (by omega) (le_refl _) (λi hi=>by omega) (λi h1 h2=>by omega);have er:run f (kas_bin (fuel+1) p k)=run f (kas_bin fuel (bubble p k (k-run f (kas_place p k k 0 k))) (k+1)):=by
   show run f ((kas_place p k k 0 k).bind λl=>kas_bin fuel (bubble p k (k-l)) (k+1))=_;rw[eD]
  rw[er];generalize run f (kas_place p k k 0 k)=l at a1 a2 a3⊢;have hs:=r.size;refine sJ O fuel _ (k+1) (r.bub _ _) (by omega) ?_;intro i j hij hj;rw[ja (by omega) a1 i,ja (by omega) a1 j]
  by_cases ei:i=l
  ·rw[if_pos ei,if_neg (by omega),if_pos ⟨by omega,by omega⟩];exact a3 (j-1) (by omega) (by omega)
  ·rw[if_neg ei]
   by_cases ej:j=l
   ·rw[if_pos ej,if_neg (by omega)];exact a2 i (by omega)
   ·rw[if_neg ej]
    by_cases hi2:l<i∧i≤k
    ·rw[if_pos hi2,if_pos ⟨by omega,by omega⟩];exact u _ _ (by omega) (by omega)
    ·rw[if_neg hi2]
     by_cases hj2:l<j∧j≤k
     ·rw[if_pos hj2]
      by_cases e3:i=j-1
      ·omega
      ·exact u i (j-1) (by omega) (by omega)
     ·rw[if_neg hj2];exact u i j hij (by omega)
theorem ju{p:Array Nat}(r:Row n p):∀(fuel m:Nat),1≤m→m+fuel≤n→hO f n (kas_asc p fuel m)
 |0,m,_,_=>trivial
 |fuel+1,m,h1,hm=>by
  refine⟨r.lt (by omega),r.lt (by omega),?_⟩;show hO f n (if f (p.getD m 0) (p.getD (m-1) 0)=true then KasT.ret m else kas_asc p fuel (m+1))
  split
  ·exact trivial
  ·exact ju r fuel (m+1) (by omega) (by omega)
theorem kQ(O:Ord f n){p:Array Nat}(r:Row n p):∀(fuel m:Nat),1≤m→m+fuel≤n→hO f n (kas_desc fuel p m 0)
 |0,m,_,_=>trivial
 |fuel+1,m,h1,hm=>by
  refine⟨r.lt (by omega),r.lt (by omega),?_⟩;show hO f n (if f (p.getD m 0) (p.getD (m-1) 0)=true then (if 0>0 then _ else kas_desc fuel p (m+1) 0)else KasT.ask (p.getD (m-1) 0) (p.getD m 0) λd=>if d=true then .ret (p,m,0)else kas_desc fuel p (m+1) (0+1))
  cases e:f (p.getD m 0) (p.getD (m-1) 0)with
  |true =>
   rw[if_pos rfl,if_neg (by omega)];exact kQ O r fuel (m+1) (by omega) (by omega)
  |false =>
   rw[if_neg (by simp)];have e2:f (p.getD (m-1) 0) (p.getD m 0)=true:=by
    rcases O.tot _ _ (r.lt (i:=m) (by omega)) (r.lt (i:=m-1) (by omega)) (r.ne (by omega) (by omega) (by omega))with z|z
    ·rw[e]at z;cases z
    ·exact z
   refine⟨r.lt (by omega),r.lt (by omega),?_⟩;dsimp only;rw[e2,if_pos rfl];exact trivial
theorem oz(O:Ord f n){p:Array Nat}(r:Row n p)(h2:1≤n):hO f n (kas_count n p):=by
 obtain⟨a1,a2,a3,a4⟩:=lH O r (n-1) 1 (by omega) (by omega) (by intro i j hij hj;omega);unfold kas_count;refine du (ju r _ _ (by omega) (by omega)) ?_;generalize run f (kas_asc p (n-1) 1)=m at a1 a2 a3 a4⊢
 by_cases e:m=n
 ·rw[if_pos (by simp[e])];exact trivial
 ·rw[if_neg (by simpa using e)]
  by_cases e1:m>1
  ·rw[if_pos e1];refine⟨r.lt (by omega),r.lt (by omega),?_⟩;dsimp only;rw[a3 0 (m-1) (by omega) (by omega),if_pos rfl];exact trivial
  ·rw[if_neg e1];have em:m=1:=by omega
   subst em;have hd:=a4 (by omega);unfold kas_descPart;refine du (kQ O r _ _ (by omega) (by omega)) ?_;obtain⟨m',b1,b2,b3,b4⟩:=lI O r (n-(1+1)) (1+1) (by omega) (by omega) (by
    intro i j hij hj;have:i=0∧j=1:=by omega
    rw[this.1,this.2];exact hd)
   rw[b1];dsimp only;rw[if_neg (by omega)];unfold kas_tail3;exact du (ju (r.rev 0 m') _ _ (by omega) (by omega)) trivial
theorem gG{p:Array Nat}(r:Row n p){k:Nat}(hk:k<n):∀(fuel l r':Nat),r'≤k→hO f n (kas_place p k fuel l r')
 |0,l,r',_=>trivial
 |fuel+1,l,r',h=>by
  unfold kas_place
  by_cases e:l≥r'
  ·rw[if_pos e];exact trivial
  ·rw[if_neg e];refine⟨r.lt hk,r.lt (by omega),?_⟩;dsimp only
   split
   ·exact gG r hk fuel _ _ (by omega)
   ·exact gG r hk fuel _ _ h
theorem mQ(O:Ord f n):∀(fuel:Nat)(p:Array Nat)(k:Nat),Row n p→k+fuel=n→Up f p k→hO f n (kas_bin fuel p k)
 |0,p,k,r,hk,u=>trivial
 |fuel+1,p,k,r,hk,u=>by
  have hkn:k<n:=by omega
  show hO f n ((kas_place p k k 0 k).bind λl=>kas_bin fuel (bubble p k (k-l)) (k+1));refine du (gG r hkn _ _ _ (le_refl _)) ?_;obtain⟨a1,a2,a3⟩:=hU O r hkn u k 0 k (by omega) (by omega) (le_refl _) (λi hi=>by omega) (λi h1 h2=>by omega);generalize run f (kas_place p k k 0 k)=l at a1 a2 a3⊢;have hs:=r.size;refine mQ O fuel _ (k+1) (r.bub _ _) (by omega) ?_;intro i j hij hj;rw[ja (by omega) a1 i,ja (by omega) a1 j]
  by_cases ei:i=l
  ·rw[if_pos ei,if_neg (by omega),if_pos ⟨by omega,by omega⟩];exact a3 (j-1) (by omega) (by omega)
  ·rw[if_neg ei]
   by_cases ej:j=l
   ·rw[if_pos ej,if_neg (by omega)];exact a2 i (by omega)
   ·rw[if_neg ej]
    by_cases hi2:l<i∧i≤k
    ·rw[if_pos hi2,if_pos ⟨by omega,by omega⟩];exact u _ _ (by omega) (by omega)
    ·rw[if_neg hi2]
     by_cases hj2:l<j∧j≤k
     ·rw[if_pos hj2]
      by_cases e3:i=j-1
      ·omega
      ·exact u i (j-1) (by omega) (by omega)
     ·rw[if_neg hj2];exact u i j hij (by omega)
theorem rc(O:Ord f n)(h:1≤n):hO f n (kas_sort n):=by
 have r0:Row n (toArray (List.range n)):=⟨by simp⟩;obtain⟨m,p',e,h1,h2,r,u⟩:=mO O r0 h;unfold kas_sort;refine du (oz O r0 h) ?_;rw[e];dsimp only
 by_cases hm:m<n
 ·rw[if_pos hm];have:max m 1=m:=by omega
  rw[this];exact mQ O (n-m) p' m r (by omega) u
 ·rw[if_neg hm];exact trivial
theorem uR(O:Ord f n)(h:1≤n):Row n (run f (kas_sort n))∧Up f (run f (kas_sort n)) n:=by
 have r0:Row n (toArray (List.range n)):=⟨by simp⟩;obtain⟨m,p',e,h1,h2,r,u⟩:=mO O r0 h;unfold kas_sort;rw[eD,e];dsimp only
 by_cases hm:m<n
 ·rw[if_pos hm];have:max m 1=m:=by omega
  rw[this];exact sJ O (n-m) p' m r (by omega) u
 ·rw[if_neg hm];have:m=n:=by omega
  subst this;exact⟨r,u⟩
end
section
variable{prog:Program}{w:World}{A:Around}{E:Value→Shared→Prop}{s:Shared}
theorem uS{vs:List Value}(h:vs.length<2):((vs.toArray.zip vs.toArray).map (·.2)).toList=(toArray ((toArray (List.range vs.length)).toList.map λi=>vs.getD i Value.none)).toList:=by
 cases vs with
 |nil=>simp
 |cons v r =>
  cases r with
  |nil=>simp
  |cons u r=>exact absurd h (by simp)
theorem hV{f:Nat→Nat→Bool}{a:Addr}{vs:List Value}{n:Nat}{κ:SortKind}{P:PySem.Fin→Shared→Prop}(O:Ord f vs.length)(ho:s.heap.get? a=some (seqObj "list" vs.toArray n))(h64:vs.length<64)(hk:∀s':Shared,(∀b o,b≠a→s.heap.get? b=some o→s'.heap.get? b=some o)→∀Q:SortKind→Shared→Prop,2≤vs.length→Q κ s'→wpAny (model prog w) A (keyKind' vs.toArray) Q (λ_ _=>False) s')(hlt:∀s':Shared,(∀b o,b≠a→s.heap.get? b=some o→s'.heap.get? b=some o)→∀(i j:Nat) (C:Bool→Shared→Prop),i<vs.length→j<vs.length→C (f i j) s'→wpAny (model prog w) A (keyLt' κ (vs.getD i Value.none) (vs.getD j Value.none)) C (λ_ _=>False) s')(h:∀p:Array Nat,Row vs.length p→Up f p vs.length→P (.done (.ret .none)) {s with heap:=sortedHeap s.heap a vs (toArray (p.toList.map λi=>vs.getD i Value.none))}):
  wpAny (model prog w) A (Builtin.«list.sort» ⟨[.ref a],[]⟩) P E s:=by
 have ha:a<s.heap.objs.size:=lt_size ho;have s1:=SameBut.update s.heap a (Obj.mapSeq λ_=>(#[]:Array Value));obtain⟨e1,ho1⟩:∃e1,(s.heap.update a (Obj.mapSeq λ_=>(#[]:Array Value))).get? a=some (seqObj "list" #[] e1):=⟨_,get?_update_seq ho λ_=>#[]⟩;rw[list_sort_plain];refine wpAny_bind (listItems_at ho rfl ?_);refine wpAny_bind (listUpdate_at ho rfl ?_ (by rw[size_toArray,sizeLine_eq];omega) (zero_le _));refine wpAny_bind (seqEpoch_at ho1 rfl ?_);refine wpAny_bind (wpAny_newTuple ?_ (by show vs.length≤_;rw[sizeLine_eq];omega));refine wpAny_bind (wpAny_newList ?_ (zero_le _));refine wpAny_holding ?_;have ho6:(((s.heap.update a (Obj.mapSeq λ_=>(#[]:Array Value))).push (seqObj "tuple" vs.toArray 0)).push (seqObj "list" #[] 0)).get? a=some (seqObj "list" #[] e1):=get?_push_of_some _ (get?_push_of_some _ ho1);have keep:∀b o,b≠a→s.heap.get? b=some o→(((s.heap.update a (Obj.mapSeq λ_=>(#[]:Array Value))).push (seqObj "tuple" vs.toArray 0)).push (seqObj "list" #[] 0)).get? b=some o:=λb o hb e =>
  get?_push_of_some _ (get?_push_of_some _ ((s1.2 b hb).trans e))
 show wpAny (model prog w) A _ P E {s with heap:=((s.heap.update a (Obj.mapSeq λ_=>(#[]:Array Value))).push (seqObj "tuple" vs.toArray 0)).push (seqObj "list" #[] 0)}
 dsimp only
 by_cases hn2:vs.toArray.size<2
 ·rw[if_pos hn2,if_pos hn2];refine wpAny_bind (wpAny_pure ?_);rw[StateT.run_pure];refine wpAny_bind (wpAny_pure ?_);dsimp only;have hn2':vs.length<2:=by simpa using hn2
  have hr:Row vs.length (toArray (List.range vs.length)):=⟨by simp⟩;have hu:Up f (toArray (List.range vs.length)) vs.length:=λi j hij hj=>by omega
  have e2:(arrOf (SortSt.mk' general' (vs.toArray.zip vs.toArray) #[] 7 none)).map (·.2)=toArray ((toArray (List.range vs.length)).toList.map λi=>vs.getD i Value.none):=by
   show(vs.toArray.zip vs.toArray).map (·.2)=_;apply Array.toList_inj.mp;exact uS hn2'
  refine wpAny_bind (seqEpoch_at ho6 rfl ?_);rw[e2];refine wpAny_bind (listUpdate_at ho6 rfl ?_ (zero_le _) (by rw[size_toArray,length_map,length_toList,hr.size,sizeLine_eq];omega));show wpAny _ _ (if (e1 != e1)=true then _ else _) _ _ _
  simp only[bne_self_eq_false,false_eq_true,if_false];exact wpAny_pure (h _ hr hu)
 ·have hn2':2≤vs.length:=by rw[size_toArray]at hn2;omega
  rw[if_neg hn2,if_neg hn2];refine wpAny_bind (wpAny_mono (hk {s with heap:=((s.heap.update a (Obj.mapSeq λ_=>(#[]:Array Value))).push (seqObj "tuple" vs.toArray 0)).push (seqObj "list" #[] 0)} keep (λk' s'=>k'=κ∧s'={s with heap:=((s.heap.update a (Obj.mapSeq λ_=>(#[]:Array Value))).push (seqObj "tuple" vs.toArray 0)).push (seqObj "list" #[] 0)}) hn2' ⟨rfl,rfl⟩) (λκ' s0 hes=>?_) λ_ _ x=>x.elim)
  obtain⟨ek,es⟩:=hes;subst ek es;obtain⟨hrow,hup⟩:=uR O (by omega:1≤vs.length);refine wpAny_bind (wpAny_mono (kat_run (Q:=λst' s'=>∃p:Array Nat,p.size=vs.length∧arrOf st'=p.map (kas_item (vs.toArray.zip vs.toArray))∧failedOf st'=none∧p=run f (kas_sort vs.length)∧s'={s with heap:=((s.heap.update a (Obj.mapSeq λ_=>(#[]:Array Value))).push (seqObj "tuple" vs.toArray 0)).push (seqObj "list" #[] 0)})
   rfl hn2' h64 (λp' st' s' a1 a2 a3 a4=>⟨p',a1,a2,a3,a4⟩) (pV (n:=vs.length) (λi j C hi hj hC=>hlt _ keep i j C hi hj hC) (λp s'=>p=run f (kas_sort vs.length)∧s'={s with heap:=((s.heap.update a (Obj.mapSeq λ_=>(#[]:Array Value))).push (seqObj "tuple" vs.toArray 0)).push (seqObj "list" #[] 0)}) _ (rc O (by omega)) ⟨rfl,rfl⟩)) ?_ λ_ _ e=>e)
  rintro⟨⟨⟩,st'⟩ s' ⟨p,hp,har,hf,ep,es⟩;subst es;dsimp only;have hout:=kat_snds (ks:=vs) rfl har;refine wpAny_bind (seqEpoch_at ho6 rfl ?_);rw[hout];refine wpAny_bind (listUpdate_at ho6 rfl ?_ (zero_le _) (by rw[size_toArray,length_map,length_toList,hp,sizeLine_eq];omega));rw[hf];simp only[bne_self_eq_false,false_eq_true,if_false];rw[ep];exact wpAny_pure (h _ hrow hup)
theorem mR{l:Addr}{vs:List Value}{Q:List Value→Shared→Prop}(hl:IsTup s.heap l vs.toArray)(h:Q vs {s with heap:=(s.heap.push (seqObj "list" #[] 0)).update s.heap.objs.size (Obj.mapSeq (· ++ vs.toArray))})(hsz:vs.length≤sizeLine):
  wpAny (model prog w) A (collect (.ref l)) Q E s:=by
 obtain⟨o,ho,hc,n,hd⟩:=id hl;unfold collect;refine wpAny_bind (wpAny_runValue (codeAny_builtin entry_proto_collect' ?_));show wpAny _ _ (do again (.builtin "list.__iadd__" ⟨[←newList [],.ref l],[]⟩)) _ _ s
 refine wpAny_bind (wpAny_newList (wpAny_pure ⟨Code.quiet_builtin _ (by decide +kernel),codeAny_builtin entry_list_iadd' ?_⟩));show wpAny _ _ (Builtin.List.listExtendWith (.ref s.heap.objs.size) (.ref l) (.ref s.heap.objs.size)) _ _ {s with heap:=s.heap.push (seqObj "list" #[] 0)}
 unfold Builtin.List.listExtendWith;have ho':(s.heap.push (seqObj "list" #[] 0)).get? l=some o:=get?_push_of_some _ ho;refine wpAny_bind (wpAny_typeOf (T:="tuple") ⟨o,ho',hc⟩ ?_);have ht:(type "tuple"==type "tuple")=true:=by rfl
 rw[if_pos (by rw[ht];simp)];refine wpAny_bind (listItems_at ho' hd ?_);refine wpAny_bind (listItems_at (xs:=#[]) (n:=0) (get?_push_size _ rfl) rfl ?_);rw[if_neg (by simp)];refine wpAny_bind (listUpdate_at (xs:=#[]) (n:=0) (get?_push_size _ rfl) rfl ?_ (zero_le _) (by show(#[]++vs.toArray).size≤sizeLine+1;simp only[Array.size_append,size_toArray,length_nil];omega));refine wpAny_pure ?_;show wpAny (model prog w) A (do
   let o ← load s.heap.objs.size
   match o.data with
   |.seq xs _=>pure xs.toList
   | _=>unsupported "internal:collect") Q E {s with heap:=(s.heap.push (seqObj "list" #[] 0)).update s.heap.objs.size (Obj.mapSeq (· ++ vs.toArray))}
 refine wpAny_bind (wpAny_load (get?_update_seq (get?_push_size _ rfl) _) ?_);show wpAny _ _ (pure ((#[]:Array Value)++vs.toArray).toList) Q E _;rw[show((#[]:Array Value)++vs.toArray).toList=vs by simp];exact wpAny_pure h
theorem mX{l:Addr}{vs:List Value}{Q:List Value→Shared→Prop}(hl:s.heap.IsList l vs.toArray∨IsTup s.heap l vs.toArray)(h:Q vs {s with heap:=(s.heap.push (seqObj "list" #[] 0)).update s.heap.objs.size (Obj.mapSeq (· ++ vs.toArray))})(hsz:vs.length≤sizeLine):
  wpAny (model prog w) A (collect (.ref l)) Q E s:=by
 rcases hl with hl|hl
 ·exact collect_list hl h hsz
 ·exact mR hl h hsz
theorem jv{f:Nat→Nat→Bool}{l:Addr}{vs:List Value}{κ:SortKind}{Q:Value→Shared→Prop}(O:Ord f vs.length)(hl:s.heap.IsList l vs.toArray∨IsTup s.heap l vs.toArray)(h64:vs.length<64)(hk:∀(A':Around) (s':Shared),A'.units≤A.units+2→(∀b o,s.heap.get? b=some o→s'.heap.get? b=some o)→∀Q:SortKind→Shared→Prop,2≤vs.length→Q κ s'→wpAny (model prog w) A' (keyKind' vs.toArray) Q (λ_ _=>False) s')(hlt:∀(A':Around) (s':Shared),A'.units≤A.units+2→(∀b o,s.heap.get? b=some o→s'.heap.get? b=some o)→∀(i j:Nat) (C:Bool→Shared→Prop),i<vs.length→j<vs.length→C (f i j) s'→wpAny (model prog w) A' (keyLt' κ (vs.getD i Value.none) (vs.getD j Value.none)) C (λ_ _=>False) s')(h:∀(p:Array Nat) (h':Heap),Row vs.length p→Up f p vs.length→(∀b o,s.heap.get? b=some o→h'.get? b=some o)→s.heap.objs.size≤s.heap.objs.size+1→(∃k,h'.get? (s.heap.objs.size+1)=some (seqObj "list" (toArray (p.toList.map λi=>vs.getD i Value.none)) k))→Q (.ref (s.heap.objs.size+1)) {s with heap:=h'}):
  wpAny (model prog w) A (call (.builtin "sorted") [.ref l]) Q E s:=by
 refine Calls.call_function_entry kind_sorted plain_sorted entry_sorted (args_sorted1 _) ?_;unfold Builtin.«sorted»;refine wpAny_bind (m:=checkCount "sorted" 1 1 _) (wpAny_pure ?_);refine wpAny_bind (mX hl ?_ (by rw[sizeLine_eq];omega));refine wpAny_bind (wpAny_newList ?_ (by rw[sizeLine_eq];omega));have hsz:((s.heap.push (seqObj "list" #[] 0)).update s.heap.objs.size (Obj.mapSeq (· ++ vs.toArray))).objs.size=s.heap.objs.size+1:=by
  rw[Heap.size_update,size_push']
 have hoL:(((s.heap.push (seqObj "list" #[] 0)).update s.heap.objs.size (Obj.mapSeq (· ++ vs.toArray))).push (seqObj "list" vs.toArray 0)).get? (s.heap.objs.size+1)=some (seqObj "list" vs.toArray 0):=by
  rw[←hsz];exact get?_push_size _ rfl
 have keep:∀b o,s.heap.get? b=some o→(((s.heap.push (seqObj "list" #[] 0)).update s.heap.objs.size (Obj.mapSeq (· ++ vs.toArray))).push (seqObj "list" vs.toArray 0)).get? b=some o:=λb o q=>by
  have hlt:b<s.heap.objs.size:=lt_size q;rw[Heap.get?_push_ne _ _ _ (by rw[hsz];exact ne_of_lt (lt_succ_of_lt hlt)),get?_update_ne _ _ _ _ (ne_of_lt hlt),Heap.get?_push_ne _ _ _ (ne_of_lt hlt)];exact q
 have neD:∀b o,s.heap.get? b=some o→b≠s.heap.objs.size+1:=λb o q=>ne_of_lt (lt_succ_of_lt (lt_size q));show wpAny _ _ _ _ _ {s with heap:=((s.heap.push (seqObj "list" #[] 0)).update s.heap.objs.size (Obj.mapSeq (· ++ vs.toArray))).push (seqObj "list" vs.toArray 0)}
 rw[hsz];refine wpAny_bind (wpAny_holding (wpAny_call_entry slot_list_sort ⟨_,hoL,rfl⟩ entry_list_sort (hV (κ:=κ) (s:={s with heap:=((s.heap.push (seqObj "list" #[] 0)).update s.heap.objs.size (Obj.mapSeq (· ++ vs.toArray))).push (seqObj "list" vs.toArray 0)}) O hoL h64 ?_ ?_ λp hr hu=>⟨_,rfl,?_⟩) (args_list_sort _)))
 ·intro s' hs' Q' h2 hq;exact hk _ s' (by simp[Around.in1_units]) (λb o e=>hs' b o (neD b o e) (keep b o e)) Q' h2 hq
 ·intro s' hs' i j C hi hj hC;exact hlt _ s' (by simp[Around.in1_units]) (λb o e=>hs' b o (neD b o e) (keep b o e)) i j C hi hj hC
 ·refine wpAny_pure ⟨_,rfl,h p _ hr hu (λb o e=>?_) (le_succ _) ?_⟩
  ·unfold sortedHeap;rw[get?_update_ne _ _ _ _ (neD b o e)];refine get?_push_of_some _ (get?_push_of_some _ ?_);rw[get?_update_ne _ _ _ _ (neD b o e)];exact keep b o e
  ·unfold sortedHeap;obtain⟨e1,ho1⟩:∃e1,((((s.heap.push (seqObj "list" #[] 0)).update s.heap.objs.size (Obj.mapSeq (· ++ vs.toArray))).push (seqObj "list" vs.toArray 0)).update (s.heap.objs.size+1) (Obj.mapSeq λ_=>(#[]:Array Value))).get? (s.heap.objs.size+1)=some (seqObj "list" #[] e1):=⟨_,get?_update_seq hoL λ_=>#[]⟩;exact⟨_,get?_update_seq (get?_push_of_some _ (get?_push_of_some _ ho1)) _⟩
theorem re{f:Nat→Nat→Bool}{l:Addr}{vs:List Value}{κ:SortKind}{Q:Value→Shared→Prop}(O:Ord f vs.length)(hl:s.heap.IsList l vs.toArray)(h64:vs.length<64)(hk:∀(A':Around) (s':Shared),A'.units≤A.units+2→(∀b o,s.heap.get? b=some o→s'.heap.get? b=some o)→∀Q:SortKind→Shared→Prop,2≤vs.length→Q κ s'→wpAny (model prog w) A' (keyKind' vs.toArray) Q (λ_ _=>False) s')(hlt:∀(A':Around) (s':Shared),A'.units≤A.units+2→(∀b o,s.heap.get? b=some o→s'.heap.get? b=some o)→∀(i j:Nat) (C:Bool→Shared→Prop),i<vs.length→j<vs.length→C (f i j) s'→wpAny (model prog w) A' (keyLt' κ (vs.getD i Value.none) (vs.getD j Value.none)) C (λ_ _=>False) s')(h:∀(p:Array Nat) (h':Heap),Row vs.length p→Up f p vs.length→(∀b o,s.heap.get? b=some o→h'.get? b=some o)→s.heap.objs.size≤s.heap.objs.size+1→(∃k,h'.get? (s.heap.objs.size+1)=some (seqObj "list" (toArray (p.toList.map λi=>vs.getD i Value.none)) k))→Q (.ref (s.heap.objs.size+1)) {s with heap:=h'}):
  wpAny (model prog w) A (call (.builtin "sorted") [.ref l]) Q E s:=jv O (.inl hl) h64 hk hlt h
end
end SRT
namespace L2
open PySem PySem.Spec PyProof.Rows
section
variable{X:Cx}{tg:Expr}
theorem jb:∀{bs:List Bool}{us:List Value},aH (bs.map V.bl) us→us=bs.map Value.bool
 |[],_,.nil=>rfl
 |b::bs,_,.cons r t=>by
  have e:_=Value.bool b:=r;rw[e,jb t];rfl
theorem sK(hc:X.calm=true):cx X (.builtin "all") (λxs H Q=>∃a,∃bs:List Bool,xs=[.ref a]∧SqL X.K H a (bs.map V.bl)∧Q (.bl (bs.all id)) H):=by
 intro pins s σ H xs us Q I r h;obtain⟨a,bs,rfl,hq,q⟩:=h;obtain⟨u,rfl,ru⟩:=de r;cases ru;obtain⟨its,rv,pl,hz⟩:=I.list hq;have e:=jb rv;subst e;refine call_all_walk (wpAny_pyIter_list pl.isList ?_);have hlt:a<s.heap.objs.size:=by obtain⟨o,e,_⟩:=pl.isList;exact lt_size e
 have hne:a≠s.heap.objs.size:=ne_of_lt hlt;refine⟨s.heap.objs.size,_,_,_,_,_,λi=>bs.getD i false,rfl,Walks.list (by simp[I.ok.hd hc]) s.heap.objs.size a hne (bs.map Value.bool).toArray,⟨⟨_,get?_push_size _ rfl,rfl,rfl⟩,pl.isList.push _⟩,?_,?_⟩
 ·intro i v s' Q' E' hP hQ;have hP':(bs.map Value.bool)[i]?=some v:=by simpa using hP
  rw[getElem?_map]at hP';cases eb:bs[i]? with
  |none=>rw[eb]at hP';cases hP'
  |some b =>
   rw[eb]at hP';have ev:Value.bool b=v:=Option.some.inj hP';subst ev;refine wpAny_truthy_bool ?_;have hQ':Q' (bs.getD i false) s':=hQ;rw[getD_eq_getElem?_getD,eb]at hQ';exact hQ'
 ·intro h' tk hk;refine⟨.bl (bs.all id),H,I.kept (t':=tk) (λb o e=>hk b o (by simp only[mem_singleton];exact ne_of_lt (lt_size e)) (get?_push_of_some _ e)),?_,q⟩;have e1:((List.range (bs.map Value.bool).toArray.size).all λi=>bs.getD i false)=bs.all id:=by
   rw[size_toArray,length_map];rw[Bool.eq_iff_iff,all_eq_true,all_eq_true];constructor
   ·intro hh x hx;obtain⟨i,hi,e⟩:=mem_iff_getElem.mp hx;have:=hh i (mem_range.mpr hi);rw[getD_eq_getElem?_getD,getElem?_eq_getElem hi,e]at this;exact this
   ·intro hh i hi;have hi':=mem_range.mp hi;rw[getD_eq_getElem?_getD,getElem?_eq_getElem hi'];exact hh _ (getElem_mem hi')
  show _=Value.bool _;rw[e1]
theorem dL:cx X (.builtin "isinstance") (λxs H Q=>∃x n t b,xs=[x,.ty n]∧TyOf X.K H x t∧kitOne X.K t (.type n)=some b∧Q (.bl b) H):=by
 intro pins s σ H xs us Q I r h;obtain⟨x,n,t,b,rfl,ty,e,q⟩:=h;obtain⟨u,u',rfl,ru,ru'⟩:=sm r;cases (show u'=type n from ru');exact qR I ru ty e λtk=>⟨.bl b,H,I.tok tk,rfl,q⟩
def Its(x:Str):It:=⟨λi _=>i<x.cps.size,λi H v H'=>H'=H∧∃c,x.cps[i]?=some c∧v=.str ⟨#[c]⟩,λi _=>x.cps.size≤i⟩
theorem sL{P:Program}{w:World}{K:PySem.W.Frag}(x:Str)(t:Tok)(it:Addr):Turn P w K tg (Its x) [it] it (λi h=>h.IsStrIter it (strIterType x) x t i) where
 mem:=by simp
 obj:=λi h st b hb=>by
  have e:b=it:=by simpa using hb
  subst e;obtain⟨o,e,c,d⟩:=st;exact⟨o,e,λv z=>by rw[d]at z;cases z⟩
 keep:=λi h h' st k=>by
  obtain⟨o,e,r⟩:=st;exact⟨o,k it (by simp) o e,r⟩
 item:=by
  intro X hP hw hK hc i pins s σ H E I hf st hg;subst hP hw hK;obtain⟨f0,f1,f2,f3,f4,f5⟩:=hf it (by simp);have hg':i<x.cps.size:=hg;have fin:∀(h':Heap)(tk:Nat),h'.IsStrIter it (strIterType x) x t (i+1)→SameBut it s.heap h'→∃u',some (Value.str ⟨#[x.cps[i]]⟩ s.toks)=some u'∧wpAny (model X.prog X.w) X.A (letOwnedTupleGo tg (.ref it) u') (λ_ s2=>∃y H',Inv X pins σ H' s2∧aO y u'∧(Its x).yld i H y H'∧s2.heap.IsStrIter it (strIterType x) x t (i+1)∧∀b∈[it],H' b=none) E {s with heap:=h',toks:=tk}:=λh' tk st' sb=>by
   have I1:Inv X pins σ H {s with heap:=h',toks:=tk}:=I.turned (t':=tk) (λb o hb e=>(sb.2 b hb).trans e) f0 f1 f3 f4 f5
   obtain⟨o,e,c,d⟩:=id st';refine⟨_,rfl,md (s:={s with heap:=h',toks:=tk}) e c d ?_ ⟨.str ⟨#[x.cps[i]]⟩,H,I1,⟨_,rfl⟩,⟨rfl,x.cps[i],by simp[hg'],rfl⟩,st',λb hb=>(hf b hb).1⟩⟩;unfold strIterType
   split<;>decide
  cases ha:x.cps.all (· < 128)with
  |true =>
   have et:strIterType x="str_ascii_iterator":=by simp[strIterType,ha]
   rw[et]at st fin⊢;exact wpAny_pyNext_ascii_item st (c:=x.cps[i]) (by simp[hg']) λh' st' sb=>fin h' _ st' sb
  |false =>
   have et:strIterType x="str_iterator":=by simp[strIterType,ha]
   rw[et]at st fin⊢;exact wpAny_pyNext_wide_item st (c:=x.cps[i]) (by simp[hg']) λh' st' sb=>fin h' _ st' sb
 done:=by
  intro X hP hw hK hc i pins s σ H E I hf st hg;subst hP hw hK;obtain⟨f0,f1,f2,f3,f4,f5⟩:=hf it (by simp);have hg':x.cps.size≤i:=hg;cases ha:x.cps.all (· < 128)with
  |true =>
   have et:strIterType x="str_ascii_iterator":=by simp[strIterType,ha]
   rw[et]at st;exact wpAny_pyNext_ascii_end (I.ok.hd hc) st (by simp[hg']) λh' eb=>⟨rfl,I.turned (t':=s.toks) (λb o hb e=>eb b o hb e) f0 f1 f3 f4 f5⟩
  |false =>
   have et:strIterType x="str_iterator":=by simp[strIterType,ha]
   rw[et]at st;exact wpAny_pyNext_wide_end (I.ok.hd hc) st (by simp[hg']) λh' eb=>⟨rfl,I.turned (t':=s.toks) (λb o hb e=>eb b o hb e) f0 f1 f3 f4 f5⟩
 self:=λA i s Q E st h=>by
  cases ha:x.cps.all (· < 128)with
  |true =>
   have et:strIterType x="str_ascii_iterator":=by simp[strIterType,ha]
   rw[et]at st;exact wpAny_pyIter_striter_ascii st h
  |false =>
   have et:strIterType x="str_iterator":=by simp[strIterType,ha]
   rw[et]at st;exact wpAny_pyIter_striter_wide st h
def zK(tl:TE):TI:=λσ H R=>tl σ H λv H1=>∃x,v=.str x∧R (Its x) H1
theorem wV{l:Expr}{tl:TE}(hl:PE X l tl):PI X tg l (zK tl):=by
 intro pins s σ H R I h;refine thn (hl pins s σ H _ I h) λv s1 hpt=>?_;obtain⟨y,H1,I1,r1,q1⟩:=hpt;obtain⟨x,e,q⟩:=q1;subst e;obtain⟨t,rfl⟩:=r1;refine wpAny_pyIter_strU ?_;refine⟨s1.heap.objs.size,[s1.heap.objs.size],_,_,H1,rfl,I1.kept (t':=s1.toks) λb o e=>get?_push_of_some _ e,sL x t _,⟨_,get?_push_size _ rfl,rfl,rfl⟩,λb hb=>?_,q⟩;have e:b=s1.heap.objs.size:=by simpa using hb
 subst e;exact I1.fpOk (le_refl _) (I1.hok.fresh (le_refl _))
theorem uT{pins:List (Addr×Obj)}{σ:St}{H:Hp}{s:Shared}{a:Addr}{ks:List Key}(I:Inv X pins σ H s)(h:H a=some (.tup (ks.map kV)))(P:Program)(w:World):IsTupleKey (aR P w) s.heap ks a:=by
 obtain⟨_,its,r,o,e,c,n,d⟩:=I.hok a _ h;exact⟨o,its.toArray,n,e,c,d,by simpa using iA r⟩
theorem dv:∀{as:List Addr}{us:List Value},aH (as.map V.ref) us→us=as.map Value.ref
 |[],_,.nil=>rfl
 |b::bs,_,.cons r t=>by
  have e:_=Value.ref b:=r;rw[e,dv t];rfl
theorem ki(hu:X.A.units+1<cLine):OpR X (compareOp .NotIn) (λx y H Q=>∃a p ks,∃kss:List (Addr×List Key),x=.ref a∧H a=some (.tup (ks.map kV))∧y=.ref p∧SqL X.K H p ((kss.map (·.1)).map V.ref) ∧
  (∀z∈kss,H z.1=some (.tup (z.2.map kV)))∧Q (.bl (!(kss.any λz=>decide (z.2=ks)))) H):=by
 intro pins s σ H x y v u Q I rx ry h;obtain⟨a,p,ks,kss,rfl,ha,rfl,hq,hk,q⟩:=h;cases rx;cases ry;obtain⟨its,rv,pl,hz⟩:=I.list hq;have e:=dv rv;subst e
 let e:Value→Bool:=λv=>match v with | .ref b=>((kss.find? λz=>z.1==b).map λz=>decide (z.2=ks)).getD false | _=>false
 have he:∀z∈kss,e (.ref z.1)=decide (z.2=ks):=λz hz'=>by
  show((kss.find? λy=>y.1==z.1).map λz=>decide (z.2=ks)).getD false=_;cases ef:kss.find? λy=>y.1==z.1 with
  |none=>have:=List.find?_eq_none.mp ef z hz';simp at this
  |some y =>
   have h1:=List.find?_some ef;have h2:=List.mem_of_find?_eq_some ef;have e1:y.1=z.1:=by simpa using h1
   have e2:=hk y h2;rw[e1,hk z hz']at e2;have e3:z.2.map kV=y.2.map kV:=by injection (Option.some.inj e2)
   rw[lD e3];rfl
 refine SeqAt.notIn_listAt e pl.isList (λy hy=>?_) ⟨.bl _,H,I,rfl,?_⟩
 ·have hy':y∈(kss.map (·.1)).map Value.ref:=by simpa using hy
  obtain⟨b,hb,rfl⟩:=mem_map.mp hy';obtain⟨z,hz',rfl⟩:=mem_map.mp hb;rw[he z hz'];intro prog w E' Q' hQ;exact wpAny_eqBool_tuple (knd:=aR prog w) (by simp;exact hu) (uT I (hk z hz') prog w) (uT I ha prog w) hQ
 ·have e1:(((kss.map (·.1)).map Value.ref).toArray.any e)=kss.any λz=>decide (z.2=ks):=by
   rw[List.any_toArray,any_map,any_map];apply Bool.eq_iff_iff.mpr;rw[any_eq_true,any_eq_true];constructor
   ·rintro⟨z,hz',h1⟩;exact⟨z,hz',by rw[←he z hz'];exact h1⟩
   ·rintro⟨z,hz',h1⟩;exact⟨z,hz',by show e (.ref z.1)=true;rw[he z hz'];exact h1⟩
  rw[e1];exact q
def uU:V→List V→Hp→VK→Prop:=λx vs H Q=>∃d kvs k y,x=.ref d∧vs=[kV k,y]∧H d=some (.dK kvs)∧kvs.length<sizeLine∧(∀v,bq kvs k=some v→Q v H)∧(bq kvs k=none→Q y (upd H d (.dK (cg kvs k y))))
theorem kj:MtM X "dict.setdefault" uU:=by
 intro pins s σ H x vs v us Q I rx rv h;obtain⟨d,kvs,k,y,rfl,rfl,hd,hz,q1,q2⟩:=h;cases rx;obtain⟨u,u',rfl,ru,ru'⟩:=rv.two;obtain⟨z,hs,ws,rel,dd⟩:=my I.hok hd;have hzw:ws.length≤sizeLine:=by rw[←rel.length];exact z
 refine call_meetsIn F.slot_dict_setdefault dd.typeIs F.entry_dict_setdefault (F.args_dict_setdefault_3 _ _ _) (kt_meets_setdefault (aR X.prog X.w) d (fm ru) hs u') ⟨ws,dd,hzw,λw' hw=>?_,λhw h' dd' sb=>?_⟩
 ·have:=rel.val k;rw[hw]at this;cases e:bq kvs k with
  |none=>rw[e]at this;cases this
  |some v =>
   rw[e]at this;exact⟨v,H,I.tok _,this,q1 v e⟩
 ·have:=rel.val k;rw[hw]at this;cases e:bq kvs k with
  |some v=>rw[e]at this;cases this
  |none =>
   have he:∃q,h'.get? d=some q:=let⟨q,_,_,hq,_⟩:=dd';⟨q,hq⟩;have hl:(cg kvs k y).length≤sizeLine:=by have:=dJ kvs k y;omega
   exact⟨y,_,gY I (by rw[hd];exact True.intro) sb he (gF hl hs (rel.put k ru') dd'),ru',q2 e⟩
theorem rf:cx X (.type "range") (λxs H Q=>∃i j,xs=[.int i,.int j]∧∀p,H p=none→Q (.ref p) (upd H p (.rng i j))):=by
 intro pins s σ H xs us Q I r h;obtain⟨i,j,rfl,q⟩:=h;obtain⟨u,u',rfl,⟨t,rfl⟩,⟨t',rfl⟩⟩:=sm r;refine call_range_2 ⟨.ref s.heap.objs.size,_,I.laid (t':=s.toks+1) (o:=.rng i j) (λb ob q=>get?_push_of_some _ q) (le_refl _) ?_,rfl,q _ (I.hok.fresh (le_refl _))⟩;exact⟨t,t',_,get?_push_size _ rfl⟩
theorem oB{lo:Int}{n:Nat}{acc:Array Value}(h:ItemsOf (λi v=>∃t,v=.int (lo+i*1) t) acc n):aH ((List.range n).map λk=>V.int (lo+(k:Nat))) acc.toList:=by
 obtain⟨h1,h2⟩:=h;have key:∀(l:List Value)(k:Nat),(∀(i:Nat)(v:Value),l[i]?=some v→∃t,v=Value.int (lo+(k+i:Nat)) t)→aH ((List.range' k l.length).map λk=>V.int (lo+(k:Nat))) l:=by
  intro l
  induction l with
  |nil=>intro k _;exact .nil
  |cons v l ih =>
   intro k hv;rw[length_cons,List.range'_succ,map_cons];refine .cons ?_ (ih (k+1) λi w hw=>?_)
   ·obtain⟨t,e⟩:=hv 0 v rfl;exact⟨t,e⟩
   ·obtain⟨t,e⟩:=hv (i+1) w hw;exact⟨t,by rw[e,show k+(i+1)=k+1+i by omega]⟩
 have hl:acc.toList.length=n:=by simpa using h1
 have:=key acc.toList 0 λi v hv=>by
  have hv':acc[i]?=some v:=by simpa using hv
  obtain⟨t,e⟩:=h2 i v hv';exact⟨t,by rw[e,Int.mul_one,Nat.zero_add]⟩
 rw[hl]at this;rw[List.range_eq_range'];exact this
theorem kl(hc:X.calm=true):cx X (.type "list") (λxs H Q=>∃p i j,xs=[.ref p]∧H p=some (.rng i j)∧(-(2 ^ 62)≤i∧i<2 ^ 62∧-(2 ^ 62)≤j∧j<2 ^ 62)∧(j-i).toNat≤1000 ∧
  ∀l,H l=none→Q (.ref l) (upd H l (.lst ((List.range (j-i).toNat).map λk=>V.int (i+(k:Nat)))))):=by
 intro pins s σ H xs us Q I r h;obtain⟨p,i,j,rfl,hp,⟨b1,b2,b3,b4⟩,hn,q⟩:=h;obtain⟨u,rfl,rx⟩:=de r;cases rx;obtain⟨t,t',t'',e⟩:=(show bt X.prog X.w H s.heap p (.rng i j)from I.hok p _ hp);have hsz:Builtin.Range.rangeSize i j 1=((j-i).toNat:Nat):=by rw[rangeSize_one];split<;>omega
 refine call_list_range (n:=(j-i).toNat) (I.ok.hd hc) e (small_one b1 b2 b3 b4) hsz (by omega) λh' tk acc c' kp hg hi=>?_;refine⟨.ref s.heap.objs.size,_,I.laid (t':=tk) kp (le_refl _) (show bt X.prog X.w _ h' _ (.lst _)from⟨?_,acc.toList,c',oB hi,by simpa using hg⟩),rfl,q _ (I.hok.fresh (le_refl _))⟩
 rw[length_map,length_range,sizeLine_eq];omega
theorem sM:OpR X (binaryOp .Add) (λx y H Q=>∃a b ys,x=.ref a∧y=.ref b∧SqT X.K H a []∧SqT X.K H b ys∧Q (.ref b) H):=by
 intro pins s σ H x y v u Q I rx ry h;obtain⟨a,b,ys,rfl,rfl,ha,hb,q⟩:=h;cases rx;cases ry;obtain⟨its,r1,ht,_⟩:=I.tuple ha;obtain⟨its2,r2,hb',_⟩:=I.tuple hb;cases r1;obtain⟨⟨cls,dd,data,sl⟩,ho,hc,n,hd⟩:=id ht;obtain⟨⟨cls2,dd2,data2,sl2⟩,ho2,hc2,n2,hd2⟩:=id hb';simp only at hc hd hc2 hd2;subst hc hd hc2 hd2;exact concat_meets ⟨_,ho,rfl⟩ ⟨_,ho2,rfl⟩ noFill_tuple_add seq_tuple_add slot_tuple_add entry_tuple_add (args_tuple_add_2 _ _)
  (tuple_addW0 a b _ its2.toArray n n2 dd dd2 sl sl2 (by rfl)) ⟨ho,ho2,⟨.ref b,H,I,rfl,q⟩⟩
theorem jw(hu:X.A.units<cLine):OpR X (compareOp .Eq) (λx y H Q=>∃a b xs,x=.ref a∧y=.ref b∧SqL X.K H a xs∧SqL X.K H b []∧Q (.bl (decide (xs=[]))) H):=by
 intro pins s σ H x y v u Q I rx ry h;obtain⟨a,b,xs,rfl,rfl,ha,hb,q⟩:=h;cases rx;cases ry;obtain⟨its,r1,ht,_⟩:=I.list ha;obtain⟨its2,r2,hb',_⟩:=I.list hb;cases r2
 by_cases e:xs=[]
 ·subst e;cases r1;refine SeqAt.eq_listAt (e:=λ_=>true) ht.isList hb'.isList rfl hu (λj h1 h2=>absurd h2 (by simp)) ⟨.bl _,H,I,?_,q⟩;rfl
 ·have e2:its≠[]:=λz=>e (r1.nil_iff.mp z);have e3:its.length≠0:=λz=>e2 (length_eq_zero_iff.mp z);refine SeqAt.eq_list_lengthsAt ht.isList hb'.isList (by simp[e3]) hu ⟨.bl _,H,I,?_,q⟩;show _=Value.bool _;simp[e]
end
end L2
namespace ZT
open PySem PySem.SeqAt
section
variable{prog:Program}{w:World}{A:Around}{E:Value→Shared→Prop}{s:Shared}
end
end ZT
namespace L2
open PySem PySem.Spec PyProof.Rows
section
variable{X:Cx}{tg:Expr}
abbrev hX:=Addr×Int×List V
def numAt(zs:List hX)(i:Nat):Int:=(zs.getD i (0,0,[])).2.1
theorem sN{zs:List hX}(h:(zs.map (·.2.1)).Nodup):SRT.Ord (λi j=>decide (numAt zs i<numAt zs j)) zs.length:=by
 refine⟨λi _=>by simp,λi j k _ _ _ h1 h2=>?_,λi j hi hj hij=>?_⟩
 ·simp only[decide_eq_true_eq]at *;omega
 ·simp only[decide_eq_true_eq];have:numAt zs i≠numAt zs j:=by
   unfold numAt;rw[getD_eq_getElem?_getD,getD_eq_getElem?_getD,getElem?_eq_getElem hi,getElem?_eq_getElem hj];intro e;have e':(zs.map (·.2.1))[i]'(by simpa using hi)=(zs.map (·.2.1))[j]'(by simpa using hj):=by simpa using e
   exact hij ((getElem_inj h).mp e')
  omega
theorem mY{prog:Program}{w:World}{A:Around}{s:Shared}{b:Bool}{Q:Bool→Shared→Prop}(h:Q false s):∀(l:List Value)(i:Nat),PySem.W.KatLex prog w A b false Q (l.zip l) i s
 |[],i=>h
 |v::l,i=>kat_cons (EqAt.same v prog w _ _ (PySem.W.kat_yes (mY h l (i+1))))
theorem cI:cx X (.builtin "sorted") (λxs H Q=>∃l,∃zs:List hX,xs=[.ref l]∧(SqL X.K H l ((zs.map (·.1)).map V.ref)∨SqT X.K H l ((zs.map (·.1)).map V.ref))∧(∀z∈zs,H z.1=some (.tup (.int z.2.1::z.2.2)))∧(zs.map (·.2.1)).Nodup∧zs.length<64 ∧
  ∀zs':List hX,zs'.Perm zs→zs'.Pairwise (λa b=>a.2.1<b.2.1)→∀p,H p=none→Q (.ref p) (upd H p (.lst ((zs'.map (·.1)).map V.ref)))):=by
 intro pins s σ H xs us Q I r h;obtain⟨l,zs,rfl,hq,hk,hnd,h64,q⟩:=h;obtain⟨u,rfl,ru⟩:=de r;cases ru;obtain⟨its,rv,pl⟩:∃its,aH ((zs.map (·.1)).map V.ref) its∧(s.heap.IsList l its.toArray∨IsTup s.heap l its.toArray):=by
  rcases hq with hq|hq
  ·obtain⟨its,rv,pl,hz⟩:=I.list hq;exact⟨its,rv,.inl pl.isList⟩
  ·obtain⟨its,rv,pl,hz⟩:=I.tuple hq;exact⟨its,rv,.inr pl⟩
 have e:=dv rv;subst e;have hlen:((zs.map (·.1)).map Value.ref).length=zs.length:=by simp
 have hobj:∀z∈zs,∃o its n t,s.heap.get? z.1=some o∧o.cls=.type "tuple"∧o.data=.seq its n∧its.toList=.int z.2.1 t::its.toList.drop 1:=λz hz'=>by
  obtain⟨_,its,rr,o,e1,e2,n,e3⟩:=I.hok z.1 _ (hk z hz');cases rr with
  |cons r1 r2 =>
   obtain⟨t,rfl⟩:=r1;exact⟨o,_,n,t,e1,e2,e3,by simp⟩
 have hget:∀i,i<zs.length→((zs.map (·.1)).map Value.ref).getD i Value.none=.ref (zs.getD i (0,0,[])).1∧zs.getD i (0,0,[])∈zs:=λi hi=>by
  rw[getD_eq_getElem?_getD,getD_eq_getElem?_getD,getElem?_map,getElem?_map,getElem?_eq_getElem hi];exact⟨rfl,getElem_mem hi⟩
 refine SRT.jv (κ:=tuples' true) (f:=λi j=>decide (numAt zs i<numAt zs j)) (by rw[hlen];exact sN hnd) pl (by rw[hlen];exact h64) ?kind ?less ?fin
 case kind =>
  intro A' s' _ kp Q' h2 hQ';have key:∀ys:List hX,(∀z∈ys,z∈zs)→∃fs:List Value,KatTups s'.heap ((ys.map (·.1)).map Value.ref) fs∧fs.length=ys.length∧∀v∈fs,∃i t,v=Value.int i t:=by
   intro ys
   induction ys with
   |nil=>intro _;exact⟨[],KatTups.nil,rfl,λv hv=>by simp at hv⟩
   |cons z ys ih =>
    intro hm;obtain⟨fs,h1,h2',h3⟩:=ih λy hy=>hm y (by simp[hy]);obtain⟨o,its,n,t,e1,e2,e3,e4⟩:=hobj z (hm z (by simp));refine⟨.int z.2.1 t::fs,KatTups.cons (kp _ _ e1) e2 e3 ?_ h1,by simp[h2'],λv hv=>?_⟩
    ·rw[←getElem?_toList,e4];rfl
    ·rcases mem_cons.mp hv with rfl|hv
     ·exact⟨_,_,rfl⟩
     ·exact h3 v hv
  obtain⟨fs,h1,h2',h3⟩:=key zs λz hz'=>hz';refine PySem.W.kat_kind (T:=.type "int") h1 (by rw[h2'];rw[hlen]at h2;omega) (λv hv=>?_) (by rfl) hQ';obtain⟨i,t,rfl⟩:=h3 v hv;exact .now
 case less =>
  intro A' s' _ kp i j C hi hj hC;rw[hlen]at hi hj;obtain⟨gi,mi⟩:=hget i hi;obtain⟨gj,mj⟩:=hget j hj;rw[gi,gj];obtain⟨oi,ii,ni,ti,a1,a2,a3,a4⟩:=hobj _ mi;obtain⟨oj,ij,nj,tj,b1,b2,b3,b4⟩:=hobj _ mj;refine PySem.W.kat_lt (kp _ _ a1) a3 (kp _ _ b1) b3 ?_
  by_cases hij:i=j
  ·subst hij;rw[a1]at b1;cases b1;rw[a3]at b3;cases b3;have:C false s':=by simpa using hC
   have e2:decide (ii.size<ii.size)=false:=by simp
   rw[e2];exact mY this _ _
  ·have hne:numAt zs i≠numAt zs j:=by
    rcases (sN hnd).tot i j hi hj hij with h1|h1<;>simp only[decide_eq_true_eq]at h1<;>omega
   rw[a4,b4];refine kat_cons (wpAny_eqBool_int ?_);have e2:((zs.getD i (0,0,[])).2.1==(zs.getD j (0,0,[])).2.1)=false:=beq_eq_false_iff_ne.mpr hne;rw[e2];refine PySem.W.kat_no ?_;exact kat_lt_int hC
 case fin =>
  intro p h' hrow hup kp _ hg;obtain⟨c,hg⟩:=hg;rw[hlen]at hrow hup;obtain⟨zs',hzs'⟩:∃zs',zs'=p.toList.map λi=>zs.getD i (0,0,[]):=⟨_,rfl⟩;have hperm:zs'.Perm zs:=by
   rw[hzs'];refine(hrow.perm.map _).trans ?_;have:(List.range zs.length).map (λi=>zs.getD i (0,0,[]))=zs:=by
    apply ext_getElem?;intro i;rw[getElem?_map]
    by_cases hi:i<zs.length
    ·rw[List.getElem?_range hi,getElem?_eq_getElem hi];show some (zs.getD i (0,0,[]))=_;rw[getD_eq_getElem?_getD,getElem?_eq_getElem hi];rfl
    ·rw[getElem?_eq_none (by rw[length_range];omega),getElem?_eq_none (by omega)];rfl
   rw[this]
  have hpl:p.size=zs.length:=hrow.size;have hpw:zs'.Pairwise (λa b=>a.2.1<b.2.1):=by
   rw[List.pairwise_iff_getElem];intro i j hi hj hij;have hi':i<p.size:=by rw[hzs',length_map,length_toList]at hi;exact hi
   have hj':j<p.size:=by rw[hzs',length_map,length_toList]at hj;exact hj
   have:=hup i j hij (by omega);simp only[decide_eq_true_eq,numAt]at this;rw[getD_eq_getD_getElem?,getD_eq_getD_getElem?,Array.getElem?_eq_getElem hi',Array.getElem?_eq_getElem hj']at this;simpa [hzs']using this
  have hout:(toArray (p.toList.map λi=>((zs.map (·.1)).map Value.ref).getD i Value.none))=((zs'.map (·.1)).map Value.ref).toArray:=by
   congr 1
   rw[hzs'];simp only[map_map];apply map_congr_left;intro i hi;have hi':i<zs.length:=mem_range.mp (hrow.perm.mem_iff.mp hi);have:=(hget i hi').1;simp only[map_map]at this;exact this
  rw[hout]at hg;have hv:aH ((zs'.map (·.1)).map V.ref) ((zs'.map (·.1)).map Value.ref):=by
   generalize zs'.map (·.1)=as
   induction as with
   |nil=>exact .nil
   |cons a as ih=>exact .cons rfl ih
  refine⟨.ref (s.heap.objs.size+1),_,I.laid (t':=s.toks) (o:=.lst ((zs'.map (·.1)).map V.ref)) kp (le_succ _) ⟨?_,_,c,hv,hg⟩,rfl,q zs' hperm hpw _ (I.hok.fresh (le_succ _))⟩;rw[length_map,length_map,hperm.length_eq,sizeLine_eq];omega
theorem iB:cx X (.builtin "sorted") (λxs H Q=>∃l,∃zs:List hX,xs=[.ref l]∧SqL X.K H l ((zs.map (·.1)).map V.ref)∧(∀z∈zs,H z.1=some (.tup (.int z.2.1::z.2.2)))∧(zs.map (·.2.1)).Nodup∧zs.length<64 ∧
  ∀zs':List hX,zs'.Perm zs→zs'.Pairwise (λa b=>a.2.1<b.2.1)→∀p,H p=none→Q (.ref p) (upd H p (.lst ((zs'.map (·.1)).map V.ref)))) :=
 λpins s σ H xs us Q I r ⟨l,zs,e,hq,h⟩=>cI pins s σ H xs us Q I r ⟨l,zs,e,.inl hq,h⟩
end
theorem lJ{scope:Scope}{env:Env}(h:∀y∈scope.names,y.2≠.free):relabel scope env=scope:=by
 unfold relabel;rw[map_eq_self (l:=scope.names) (λx hx=>by
  obtain⟨n,k⟩:=x;have:(k==NameKind.free)=false:=by simpa using h _ hx
  simp[this])]
theorem fq{X:Cx}{scope:Scope}(hk:scope.kind=.function)(hf:∀y∈scope.names,y.2≠.free)(hc:∀y∈scope.names,y.2≠.cell)(hn:∀x∈scope.names,x.2=.local→scope.names.lookup x.1=some .local):LcOk X scope [] :=
 ⟨hk,closureFor_none hf,hn,hc,λx c h=>by simp at h,λx h=>by
  rw[lJ hf]at h;rcases h with h|h
  ·exact absurd rfl (hc _ (PySem.mem_of_lookup h))
  ·exact absurd rfl (hf _ (PySem.mem_of_lookup h))⟩
theorem sO{k:Nat}{js:List Nat}{J:It}{g:TG}{te:TE}{σ:St}{H1:Hp}{Q:VK}{p:Addr}(n:Nat)(hn:n≤1000)(Pv:Nat→List V→St→Hp→Prop)(h0:Pv 0 [] (dm k js σ) (upd H1 p (.lst [])))(hy:∀i ys σ' H',Pv i ys σ' H'→ys.length≤i)(go:∀i ys σ' H',i<n→Pv i ys σ' H'→J.go i H')(stop:∀ys σ' H',Pv n ys σ' H'→J.stop n H'∧Q (.ref p) H')(step:∀i ys σ' H',i<n→Pv i ys σ' H'→∀x H2,J.yld i H' x H2→g x σ' H2 λσ2 H3=>te σ2 H3 λy H4=>H4 p=some (.lst ys)∧Pv (i+1) (ys++[y]) σ2 (upd H4 p (.lst (ys++[y]))))(mg:∀x σ H (Q Q':St→Hp→Prop),(∀σ H,Q σ H→Q' σ H)→g x σ H Q→g x σ H Q')(me:∀σ H (Q Q':VK),(∀y H,Q y H→Q' y H)→te σ H Q→te σ H Q'):
  LcW k js g te σ Q J H1 p:=by
 refine⟨λi m ys σ' H'=>m=n-i∧i≤n∧Pv i ys σ' H',⟨n,by simp,zero_le _,h0⟩,?_⟩;rintro i m ys σ' H' ⟨rfl,hi,hp⟩
 by_cases hlt:i<n
 ·refine .inr ⟨go i ys σ' H' hlt hp,?_,λx H2 y=>?_⟩
  ·have:=hy i ys σ' H' hp;exact lt_of_le_of_lt this (ay (by omega))
  ·refine mg _ _ _ _ _ (λσ2 H3 h3=>me _ _ _ _ (λz H4 h4=>⟨h4.1,n-(i+1),by omega,rfl,hlt,h4.2⟩) h3) (step i ys σ' H' hlt hp x H2 y)
 ·have e:i=n:=by omega
  subst e;exact .inl (stop ys σ' H' hp)
theorem ae{H:Hp}{p:Addr}{o:HO}(h:H p=none):Same H (upd H p o):=λb u e=>by rw[aj (aw e h)];exact e
theorem bf{H:Hp}{p a:Addr}{o u:HO}(h:H p=none)(e:H a=some u):upd H p o a=some u:=by rw[aj (aw e h)];exact e
theorem aL{H0 H:Hp}{p:Addr}{o:HO}(h0:H0 p=none)(s:Same H0 H):Same H0 (upd H p o):=λb u e=>by
 rw[aj (aw e h0)];exact s b u e
structure Fly(P:Program)(w:World)(outer:List Env)(H:Hp)(s:Shared)(H':Hp)(ea C:Addr)(s':Shared):Prop where
 os:s'.os=s.os
 bare:AllBare s'.gens
 un:Un (frs outer) [] H H' s.heap s'.heap
 new:H' ea=none
 fly:∃B a0,FlyingW B outer ea (.ref C) a0 s'.heap∧HOk P w H' B∧(∀b o,s.heap.get? b=some o→H b=none→b∉frs outer→B.get? b=some o) ∧
  ∀b o,s.heap.get? b=some o→b∉frs outer→∃o',B.get? b=some o'
def CX1(P:Program)(w:World):CXT:=λouter H s E e s'=>∃ea C H',e=.ref ea∧Fly P w outer H s H' ea C s'∧E (.ref C) none H'
theorem bt.ex{P:Program}{w:World}{H:Hp}{h:Heap}{a:Addr}{o:HO}(x:bt P w H h a o):∃ob,h.get? a=some ob:=by
 cases o with
 |lst xs=>obtain⟨_,_,_,_,e⟩:=x;exact⟨_,e⟩
 |tup xs=>obtain⟨_,_,_,ob,e,_⟩:=x;exact⟨ob,e⟩
 |dK kvs=>obtain⟨_,_,_,_,o,_,_,e,_⟩:=x;exact⟨_,e⟩
 |dT kvs=>obtain⟨_,_,_,_,o,_,_,e,_⟩:=x;exact⟨_,e⟩
 |set S n=>obtain⟨o,_,_,_,e,_⟩:=x;exact⟨_,e⟩
 |ins C dx fs=>obtain⟨_,_,_,e,_⟩:=x;exact⟨_,e⟩
 |own y=>obtain⟨_,e⟩:=x;exact⟨_,e⟩
 |xd fs=>obtain⟨_,⟨_,_,_,e,_⟩,_⟩:=x;exact⟨_,e⟩
 |rng lo hi=>obtain⟨_,_,_,e⟩:=x;exact⟨_,e⟩
 |frz ob u=>obtain⟨e,_⟩:=x;exact⟨_,e⟩
 |tbl ps=>exact⟨_,(show h.get? a=some _ from x)⟩
 |met f y=>exact⟨_,(show h.get? a=some _ from x)⟩
 |ext φ=>obtain⟨_,⟨_,e⟩,_⟩:=x;exact⟨_,e⟩
theorem sP{P:Program}{w:World}{H:Hp}{h:Heap}{l:List Addr}(x:HOk P w H h)(hl:∀b∈l,H b=none):HOk P w H (hideAll h l):=λa o e =>
 (x a o e).stay (λb u hb q=>hideAll_get l q λz=>by
  have:=hl b z;rcases hb with hb|hb
  ·rw[hb,e]at this;cases this
  ·rw[hb]at this;cases this) (λ_ q=>q) λ_ _ q=>q
section
variable{P:Program}{w:World}{l:List Env}{H H':Hp}{h1 h2 h3 B:Heap}{ea:Addr}{cls a0:Value}
theorem mZ(un:Un (frs l) [] H H' h1 h2)(fl:FlyingW B l ea cls a0 h2)(hB:HOk P w H' B)(kp:∀b o,h1.get? b=some o→H b=none→b∉frs l→B.get? b=some o)(th:∀b o,h1.get? b=some o→b∉frs l→∃o',B.get? b=some o')(st:B.StaysIn h3)(hs:h2.UpToSlots h3):Un (frs l) [] H H' h1 h3∧HOk P w H' h3:=by
 refine⟨⟨λb o e n hb _=>st b o (kp b o e n hb),λb o e n hb hx=>?_,un.free,λb o e _=>?_,un.tups,un.frzs,un.tbls⟩,hB.kept st⟩
 ·obtain⟨sl,q⟩:=un.slot b o e n hb hx;obtain⟨_,o',ho',hd⟩:=fl.2.2.1.mem hb;rw[q]at ho';cases ho';obtain⟨sl',q'⟩:=hs b _ q hd;exact⟨sl',q'⟩
 ·by_cases hb:b∈frs l
  ·obtain⟨_,o',ho',hd⟩:=fl.2.2.1.mem hb;obtain⟨sl',q'⟩:=hs b _ ho' hd;exact⟨_,q'⟩
  ·obtain⟨o',q⟩:=th b o e hb;exact⟨o',st b o' q⟩
end
section
variable{X:Cx}{pins:List (Addr×Obj)}{σ:St}{H H':Hp}{s s':Shared}{ea C:Addr}{E:XK}
theorem Inv.fly_up(I:Inv X pins σ H s)(hex:X.ex=[])(J:Inv X pins σ H' s')(new:H' ea=none){B:Heap}{a0:Value}(fl:FlyingW B X.outer ea (.ref C) a0 s'.heap)(hB:HOk X.prog X.w H' B)(kp:∀b o,s.heap.get? b=some o→H b=none→b∉frs X.stack→B.get? b=some o)(th:∀b o,s.heap.get? b=some o→b∉frs X.stack→∃o',B.get? b=some o'):Fly X.prog X.w X.outer X.H₀ X.s₀ H' ea C s':=by
 have ub:=I.base;rw[hex]at ub;have uj:=J.base;rw[hex]at uj;have ne:∀b o,X.s₀.heap.get? b=some o→b∉frs X.outer→b∉frs X.stack:=λb o e n hb=>by
  rcases mem_cons.mp (I.stkSub b hb)with z|z
  ·have:=lt_size e;rw[z]at this;exact absurd (lt_of_lt_of_le this I.ok.above) (lt_irrefl _)
  ·exact n z
 refine⟨J.os,J.bare,uj,new,B,a0,fl,hB,λb o e n hb=>?_,λb o e hb=>?_⟩
 ·exact kp b o (ub.keep b o e n hb (by simp)) (ub.free b o e n (by simp)) (ne b o e hb)
 ·obtain⟨o',q⟩:=ub.there b o e (by simp);exact th b o' q (ne b o e hb)
structure Lv(X:Cx)(E:XK):Prop where
 ex:X.ex=[]
 stk:X.stack=X.env::X.outer
 fr:X.env.frame=some X.env.locals
 xe:X.xe=λe s'=>wpAny (model X.prog X.w) X.A (leaving X.env e) (λ_ s''=>CX1 X.prog X.w X.outer X.H₀ X.s₀ E e s'') (λe' s''=>CX1 X.prog X.w X.outer X.H₀ X.s₀ E e' s'') s'
theorem bO{P:Program}{w:World}{K:PySem.W.Frag}{mg:Str→Option Value}{base:Heap}{N:List Str}{qual:Str}{scope:Scope}{f:Addr}{cd:Value}{A:Around}{outer:List Env}{s:Shared}{H:Hp}{E:XK} :
  Lv (gQ (CX1 P w) P w K mg base N qual scope f cd A outer s H E) E:=⟨rfl,rfl,rfl,rfl⟩
theorem cy(L:Lv X E):cG (CX1 X.prog X.w) X E:=by
 intro pins σ H s e s' I h;obtain⟨ea,C,H',rfl,F,hE⟩:=h;rw[L.xe];obtain⟨B,a0,fl,hB,kp,th⟩:=id F.fly;have fl':=fl;rw[L.stk]at fl';refine wpAny_leaves_onW (by rw[I.ok.frames,L.stk]) L.fr fl' λh' fl2 hs=>?_;obtain⟨u,ok⟩:=mZ F.un fl hB kp th fl2.1 hs;have J:Inv X pins σ H' {s' with heap:=h'}:=I.call' (s':={s' with heap:=h'}) F.os u ok F.bare λb z=>absurd z (by simp)
 exact⟨ea,C,H',rfl,I.fly_up L.ex J F.new fl2 hB kp th,hE⟩
theorem Inv.ground(I:Inv X pins σ H s):(hideAll s.heap (frs X.stack)).StaysIn s.heap∧s.heap.FunFrames (hideAll s.heap (frs X.stack)) X.stack∧HOk X.prog X.w H (hideAll s.heap (frs X.stack)) :=
 ⟨λb o q=>of_hideAll _ q,PySem.W.funFrames_hide I.stack λenv he b hb=>List.mem_filterMap.mpr ⟨env,he,hb⟩,sP I.hok I.stkFree⟩
theorem yH(L:Lv X E)(I:Inv X pins σ H s){h':Heap}{vs:List Value}(hx:Heap.MadeExcOf s.heap h' ea (.ref C) vs)(hE:E (.ref C) none H):X.xe (.ref ea) {s with heap:=h'}:=by
 rw[L.xe];obtain⟨g1,g2,g3⟩:=I.ground;have g2':s.heap.FunFrames (hideAll s.heap (frs X.stack)) (X.env::X.outer):=L.stk ▸ g2;refine wpAny_leaves_madeW (s:={s with heap:=h'}) (by rw[I.ok.frames,L.stk]) L.fr g1 g2' hx λh'' t fl _ _ hs=>?_;have hs':s.heap.UpToSlots h'':=(Heap.UpToSlots.of_keeps hx.keeps).trans hs;have u:Un (frs X.stack) [] H H s.heap h'':=⟨λb o e n hb _=>fl.1 b o (hideAll_get _ e hb),λb o e n hb _=>by
   obtain⟨_,o',ho',hd⟩:=g2.mem hb;rw[e]at ho';cases ho';exact hs' b o e hd,λb o e n _=>n,λb o e _=>by
   by_cases hb:b∈frs X.stack
   ·obtain⟨_,o',ho',hd⟩:=g2.mem hb;obtain⟨sl,q⟩:=hs' b o' ho' hd;exact⟨_,q⟩
   ·exact⟨o,fl.1 b o (hideAll_get _ e hb)⟩,λ_ _ q=>q,λ_ _ _ q=>q,λb ps q=>⟨#[],by simpa using q⟩⟩
 have J:Inv X pins σ H {s with heap:=h''}:=I.call' (s':={s with heap:=h''}) rfl u (g3.kept fl.1) I.bare λb z=>absurd z (by simp)
 have new:H ea=none:=by
  cases q:H ea with
  |none=>rfl
  |some o =>
   obtain⟨ob,e⟩:=(I.hok ea o q).ex;have h2:=hx.new;rw[e]at h2;cases h2
 exact⟨ea,C,H,rfl,I.fly_up L.ex J new fl g3 (λb o e _ hb=>hideAll_get _ e hb) λb o e hb=>⟨o,hideAll_get _ e hb⟩,hE⟩
end
end L2
namespace XI
open PySem PySem.Spec PySem.W
section
variable{prog:Program}{w:World}{A:Around}{E:Value→Shared→Prop}{h:Heap}{g:Array GenState}{d:Drawn}{t:Nat}{os:OsState}{a:Addr}{o:Obj}{vs:Array Value}{nm q:Str}{C N:Addr}{bs bm:List Value}{hdct:Bool}{sn:List Str}{sub:List Value}{ab:Bool}{col:Option Bool}{dd:Option Addr}{k0 k1 k2 k3 k5:Option Value}{newId:String}
theorem rg{R:Result→Shared→Prop}(hC:h.get? C=some (excClassObj nm q C N bs bm hdct sn sub ab col dd k0 k1 k2 k3 k5 newId))(hb:bm.contains (.type "object")=true)(hx:h.get? a=some o)(hc:o.cls=.ref C)(hq:R (.ok (.ret (.ref C))) ⟨h,g,d,t,os⟩):
  codeAny (model prog w) A (.call (.builtin "getset_descriptor.__get__") ⟨[.builtin "object.__class__",.ref a,.ref C],[]⟩) R ⟨h,g,d,t,os⟩:=by
 have hT5:(⟨h,g,d,t,os⟩:Shared).TypeIs (.builtin "object.__class__") "getset_descriptor":=F.typeOf_object_class;have hcB:(Value.ref C::bm).contains (.type (".".intercalate ("object.__class__".cutAt '.').dropLast))=true:=by
  rw[F.owner_object_class,List.contains_cons,hb];rfl
 refine codeAny_call_builtin F.slot_gs_get.plain F.entry_gs_get (F.slot_gs_get.check _ _ _ _ _ _ _ _ hT5 (F.args_gs_get _ _ _) ?_)
 repeat (any_goals (first|assumption|(with_reducible refine wpAny_loadPart_at hx ?_;rw[hc]) | (with_reducible refine wpAny_isSubtype_exc hC ?_;rw[hcB])|wp_step))
 refine⟨Code.quiet_builtin _ (by decide +kernel),codeAny_builtin F.entry_object_class ?_⟩
 repeat (any_goals (first|assumption|(with_reducible refine wpAny_loadPart_at hx ?_;rw[hc])|wp_step))
theorem sQ{M:Model}{nameV:Value}{Q:Unit→Shared→Prop}(hC:h.get? C=some (excClassObj nm q C N bs bm hdct sn sub ab col dd k0 k1 k2 k3 k5 newId))(hb:bm.contains (.type "BaseException")=true)(hx:h.get? a=some o)(hc:o.cls=.ref C)(hq:Q () ⟨h,g,d,t,os⟩):wpAny M A (checkBuiltinCall "BaseException.__getattribute__" ⟨[.ref a,nameV],[]⟩) Q E ⟨h,g,d,t,os⟩:=by
 have hk:builtinKind "BaseException.__getattribute__"=some .slot:=by decide +kernel
 have hsplit:splitId "BaseException.__getattribute__"=some ("BaseException","__getattribute__"):=by decide +kernel
 have hcB:(Value.ref C::bm).contains (.type "BaseException")=true:=by rw[List.contains_cons,hb];rfl
 have ha:=F.args_bexc_ga (.ref a) nameV;simp only[checkBuiltinCall,hk,hsplit];refine wpAny_bind ?_
 ·unfold isInstance
  repeat (first|(with_reducible refine wpAny_loadPart_at hx ?_;rw[hc]) | (with_reducible refine wpAny_isSubtype_exc hC ?_;rw[hcB])|wp_step)
  exact hq
theorem nc{tk:Tok}{Q:Fin→Shared→Prop}(hC:h.get? C=some (excClassObj nm q C N bs bm hdct sn sub ab col dd k0 k1 k2 k3 k5 newId))(hb:bm.contains (.type "object")=true)(LC:Looks (model prog w) h (typeLookup (.ref C) "__class__") (some (.builtin "object.__class__")))(hx:h.get? a=some o)(hc:o.cls=.ref C)(hq:Q (.done (.ret (.ref C))) ⟨h,g,d,t,os⟩):
  wpAny (model prog w) A (Builtin.«object.__getattribute__» ⟨[.ref a,.str "__class__" tk],[]⟩) Q E ⟨h,g,d,t,os⟩:=by
 have hT5:(⟨h,g,d,t,os⟩:Shared).TypeIs (.builtin "object.__class__") "getset_descriptor":=F.typeOf_object_class;have f5:=F.typeOf_object_class;have f6:=F.slot_gs_get.lookup;have f7:=F.slot_gs_set.lookup
 repeat (any_goals (first|assumption|(with_reducible refine wpAny_loadPart_at hx ?_;rw[hc])|with_reducible refine LC.at ?_|wp_step))
 refine rg hC hb hx hc ?_
 repeat (any_goals (first|assumption|wp_step))
theorem oC{Q:Option Value→Shared→Prop}(hC:h.get? C=some (excClassObj nm q C N bs bm hdct sn sub ab col dd k0 k1 k2 k3 k5 newId))(hb:bm.contains (.type "object")=true)(hbb:bm.contains (.type "BaseException")=true)(LG:Looks (model prog w) h (typeLookup (.ref C) "__getattribute__") (some (.builtin "BaseException.__getattribute__")))(LA:Looks (model prog w) h (typeLookup (.ref C) "__getattr__") none)(LC:Looks (model prog w) h (typeLookup (.ref C) "__class__") (some (.builtin "object.__class__")))(hx:h.get? a=some o)(hc:o.cls=.ref C)(hq:Q (some (.ref C)) ⟨h,g,d,t+1,os⟩):
  wpAny (model prog w) A (getAttr? (.ref a) "__class__") Q E ⟨h,g,d,t,os⟩:=by
 have f3:=F.attr_ValueError.ga.bind (.ref a);have hx0:(false&&onTheHeap (builtin "BaseException.__getattribute__"))=false:=rfl;have hx2:(builtin "BaseException.__getattribute__"==builtin "object.__getattribute__")=false:=by decide +kernel
 have hx1:(onTheHeap (Value.ref C)&&builtin "BaseException.__getattribute__"==builtin "object.__getattribute__")=false:=by rw[hx2];rfl
 unfold getAttr? getAttrBy?
 repeat (any_goals (first|assumption|(with_reducible refine wpAny_loadPart_at hx ?_;rw[hc])|with_reducible refine LG.at ?_|with_reducible refine LA.at ?_|wp_step))
 refine codeAny_call_builtin F.attr_ValueError.ga.plain F.entry_bexc_ga (sQ hC hbb hx hc (nc hC hb LC hx hc ?_))
 repeat (any_goals (first|assumption|wp_step))
end
def eE(K:Frag)(C:Addr):Bool:=ktsIn K C "object"&&findIn K (.ref C) "__getattribute__"==some (some (.builtin "BaseException.__getattribute__"))&&findIn K (.ref C) "__getattr__"==some none&&findIn K (.ref C) "__class__"==some (some (.builtin "object.__class__"))
def ng(e C:Addr)(h:Heap):Prop:=∃o vs,h.get? e=some o∧o.cls=.ref C∧o.data=.fields vs
theorem nh{K:Frag}{e C:Addr}(q:eE K C=true):KitX K (.ref e) (.ref C) (ng e C):=by
 unfold eE at q;simp only[and_eq_true,beq_iff_eq]at q;obtain⟨⟨⟨q1,q2⟩,q3⟩,q4⟩:=q;refine⟨λM h X p=>?_,λM h X p=>?_,λh tp dd its n sl X htp=>?_,λ{prog w A E Q s} X p hq=>?_⟩
 ·obtain⟨o,vs,h1,h2,_⟩:=p;exact h2 ▸ (Looks.ld h1).andThen .now
 ·obtain⟨nm,q',N,bs,bm,hdct,sn,sub,ab,col,dd,k0,k1,k2,k3,k5,newId,hC,_,_⟩:=kts_cls X q1;intro A' Q' E' s' k q;unfold isType loadHead;exact wpAny_bind (wpAny_loadPart (k _ _ hC) (wpAny_pure q))
 ·obtain⟨nm,q',N,bs,bm,hdct,sn,sub,ab,col,dd',k0,k1,k2,k3,k5,newId,hC,_,_⟩:=kts_cls X q1;refine Bool.eq_false_iff.mpr λz=>?_;have e:C=tp:=Value.ref.inj (beq_iff_eq.mp z);subst e;have z2:type "type"=type "tuple":=congrArg Obj.cls (Option.some.inj (hC.symm.trans htp));injection z2 with z3
  exact absurd z3 (by decide)
 ·obtain⟨h0,g,d,t,os⟩:=s;obtain⟨o,vs,h1,h2,_⟩:=p;obtain⟨nm,q',N,bs,bm,hdct,sn,sub,ab,col,dd,k0,k1,k2,k3,k5,newId,hC,hb1,hb2⟩:=kts_cls X q1;exact oC hC hb2 hb1 (looks_findIn X q2) (looks_findIn X q3) (looks_findIn X q4) h1 h2 hq
end XI
namespace L2
open PySem PySem.Spec PyProof.Rows
section
variable{X:Cx}{pins:List (Addr×Obj)}{σ:St}{H:Hp}{s:Shared}
def tF2(te:TE):TE:=λσ H Q=>te σ H λv H1=>∃i:Int,v=.int i∧0≤i∧i≤60∧∀y,Q (.str y) H1
theorem jx(i:Int)(h0:0≤i)(h1:i≤60):(ofString (toString i)).length≤100:=by
 have key:∀n:Fin 61,(ofString (toString ((n.val:Nat):Int))).length≤100:=by decide +kernel
 have:=key ⟨i.toNat,by omega⟩;have e:((i.toNat:Nat):Int)=i:=by omega
 rw[e]at this;exact this
theorem wf{x:Str}{j:Nat}{p1 p2 p3:Pos}{e:Expr}{te:TE}(he:PE X e te)(hx:x.length≤800):PE X (.JoinedStr [.Constant (.str x) j p1,.FormattedValue e (-1) none p2] p3) (tF2 te):=by
 intro pins s σ H Q I h;have hl:(empty++x).length≤800:=by rw[strLen_append];show 0+x.length≤800;omega
 refine JoinedStr_many (joinParts_cons (Constant_str ?_));refine⟨le_of_lt (ay (by omega)),?_⟩;refine joinParts_cons (FormattedValue_plain (thn (he pins _ σ H _ (I.tok _) h) λv s1 hpt=>?_));obtain⟨y,H1,I1,r1,q1⟩:=hpt;obtain⟨i,rfl,h0,h1,q⟩:=q1;obtain⟨t,rfl⟩:=r1;have h2:=jx i h0 h1;have h3:((empty++x)++ofString (toString i)).length≤1000:=by rw[strLen_append];omega
 refine formatField_int_small (lt_of_le_of_lt (Nat.log2_le_self _) (by omega)) ⟨le_of_lt (ay h3),?_⟩;exact joinParts_nil ⟨.str _,H1,(I1.tok _).tok _,⟨_,rfl⟩,q _⟩ (le_of_lt (ay h3))
abbrev bmV:List Value:=[.type "ValueError",.type "Exception",.type "BaseException",.type "object"]
abbrev yI(X:Cx)(x:Str)(C:Addr):Prop:=OwnCls x C bmV "ValueError.__new__" X.mg X.base
def wW(C:Addr)(E:XK)(ta:TE):TS:=λ_ σ H=>cV ta kh σ H λvs H1=>vs.length≤sizeLine∧E (.ref C) none H1
theorem cW{E:XK}(L:Lv X E){x:Str}{C:Addr}{np cpos pos:Pos}{a:Expr}{ta:TE}(O:yI X x C)(hh:X.A.handled=none)(hg:Gl X x)(ha:PE X a ta)(hs:starEach [a] X.env=[(false,eval a X.env)]:=by rfl)(hd:(x==("__debug__":Str))=false:=by decide):PS X (.Raise (some (.Call (.Name x np) [a] [] cpos)) none pos) (wW C E ta):=by
 intro pins s σ H D I h;obtain⟨tl,N,nm,q,bs,hdct,sn,sub,ab,col,dd,k0,k1,k2,k3,k5,mN,hC,hN,hni,T⟩:=O.obj;refine wpAny_Raise_call_subT (C:=C) (nm:=nm) (q:=q) (N:=N) (bs:=bs) (bm:=tl) (hdct:=hdct) (sn:=sn) (sub:=sub) (ab:=ab) (col:=col) (dd:=dd) (k0:=k0) (k1:=k1) (k2:=k2) (k3:=k3) (k5:=k5)
  PySem.F.excBase_ValueError (mN:=mN) (T.hasType PySem.F.excBase_ValueError.hasBase) hh (by rw[hs];rfl) hni (gh I hg O.bound ⟨rfl,?_⟩ hd)
 have hA:PA X [a] (cV ta kh):=aa ha af hs;have h':=hA cpos pins s σ H (λvs H1=>vs.length≤sizeLine∧E (.ref C) none H1) I h;rw[hs]at h'⊢;refine evalArgs_plain (thn h' λus s2 hpt=>?_);obtain⟨vs,H2,I2,r2,q2⟩:=hpt;exact⟨rfl,by rw[←r2.length];exact q2.1,I2.bk _ _ hC,hN.keeps I2.bk,T.keeps I2.bk,λh' e hx=>yH L I2 hx q2.2⟩
theorem uV{M:Model}{A:Around}{E:Value→Shared→Prop}{nm q:Str}{C N:Addr}{bs bm:List Value}{hdct:Bool}{sn:List Str}{sub:List Value}{ab:Bool}{col:Option Bool}{dd:Option Addr}{k0 k1 k2 k3 k5:Option Value}{newId:String}{h:Heap}{g:Array GenState}{d:Drawn}{t:Nat}{os:OsState}{e T:Addr}{oe:Obj}{Q:Bool→Shared→Prop}(hT:h.get? T=some (excClassObj nm q T N bs bm hdct sn sub ab col dd k0 k1 k2 k3 k5 newId))(hbase:bm.contains (.type "BaseException")=true)(LCT:PySem.W.Looks M h (isSubtype (.ref C) (.ref T)) true)(he:h.get? e=some oe)(hcls:oe.cls=.ref C)(hq:Q true ⟨h,g,d,t,os⟩):wpAny M A (excMatches (.ref e) (.ref T)) Q E ⟨h,g,d,t,os⟩:=by
 have hcB:(Value.ref T::bm).contains (.type "BaseException")=true:=by rw[List.contains_cons,hbase,Bool.or_true]
 have f:=tc_notTuple;unfold excMatches
 repeat (first|(with_reducible refine wpAny_loadPart_at he ?_;rw[hcls])|with_reducible refine LCT.at ?_|with_reducible refine wpAny_loadPart_at hT ?_|(with_reducible refine wpAny_isSubtype_exc hT ?_;rw[hcB])|wp_step)
 exact hq
theorem Inv.forget(I:Inv X pins σ H s){l:Nat}{n:Str}{h':Heap}{m:Str→Option Value}{v:Option Value}{tk:Nat}(hN:X.N.Nodup)(hl:X.N[l]?=some n)(hm:s.heap.Ns X.env.locals m)(hn':h'.Ns X.env.locals (λx=>if x=n then v else m x))(hs:SameBut X.env.locals s.heap h'):Inv X pins (σ.set l none) H {s with heap:=h',toks:=tk}:=by
 obtain⟨m0,hn,hlk⟩:=id I.loc;have em:∀x,m0 x=m x:=λx=>by
  obtain⟨o,es,ep,e1,e2,e3,e4⟩:=hn;obtain⟨o',es',ep',f1,f2,f3,f4⟩:=hm;rw[e1]at f1;cases f1;rw[e2]at f2;cases f2;rw[←e4,←f4]
 have hlσ:l<σ.length:=by rw[I.len];exact(List.getElem?_eq_some_iff.mp hl).1
 have cne:=I.cne;have ne:∀b o,X.s₀.heap.get? b=some o→b≠X.env.locals:=λb o e=>ne_of_lt (lt_of_lt_of_le (lt_size e) I.ok.above);refine⟨I.ok,I.os,I.bare,⟨λb o e n hb hx=>(hs.2 b (ne b o e)).trans (I.base.keep b o e n hb hx),λb o e n hb hx=>?_,I.base.free,λb o e hx=>?_,I.base.tups,I.base.frzs,I.base.tbls⟩,⟨_,hn',λj y v' e1 e2 e3=>?_⟩,λy c e=>?_,I.free,I.freeC,λp hp=>?_,λb ob e=>?_,by simpa using I.len⟩
 ·obtain⟨sl,e1⟩:=I.base.slot b o e n hb hx;exact⟨sl,(hs.2 b (ne b o e)).trans e1⟩
 ·obtain⟨o',e1⟩:=I.base.there b o e hx;exact⟨o',(hs.2 b (ne b o e)).trans e1⟩
 ·by_cases hj:j=l
  ·subst hj;rw[getElem?_set_self hlσ]at e2;cases e2
  ·rw[List.getElem?_set_ne (symm hj)]at e2;obtain⟨u',r',q⟩:=hlk j y v' e1 e2 e3;refine⟨u',r',?_⟩;rcases q with⟨k,e⟩|⟨k,c,e,z⟩
   ·refine .inl ⟨k,?_⟩;have hy:y≠n:=λe=>hj (jg hN e1 (e ▸ hl));show(if y=n then v else m y)=some u';rw[if_neg hy,←em];exact e
   ·exact .inr ⟨k,c,e,z.sameBut hs (cne y c e)⟩
 ·obtain⟨w',z⟩:=I.cell y c e;exact⟨w',z.sameBut hs (cne y c e)⟩
 ·obtain⟨p1,p2,p3,p4,p5⟩:=I.pin p hp;exact⟨(hs.2 p.1 p3).trans p1,p2,p3,p4,p5⟩
 ·refine(I.hok b ob e).stay (λc w' hc q=>(hs.2 c ?_).trans q) (λ_ q=>q) λ_ _ q=>q;rintro rfl;rcases hc with hc|hc
  ·rw[←hc,I.free]at e;cases e
  ·rw[I.free]at hc;cases hc
theorem Inv.caught{H':Hp}{ea C:Addr}{s':Shared}{B h6:Heap}{a0:Value}(I:Inv X pins σ H s)(F:Fly X.prog X.w X.stack H s H' ea C s')(fl:FlyingW B X.stack ea (.ref C) a0 s'.heap)(hB:HOk X.prog X.w H' B)(kp:∀b o,s.heap.get? b=some o→H b=none→b∉frs X.stack→B.get? b=some o)(th:∀b o,s.heap.get? b=some o→b∉frs X.stack→∃o',B.get? b=some o')(f6:FlyingW B X.stack ea (.ref C) a0 h6)(hs:s'.heap.UpToSlots h6):
  Inv X pins σ (upd H' ea (.ext (XI.ng ea C))) {s' with heap:=h6}:=by
 obtain⟨u,ok⟩:=mZ F.un fl hB kp th f6.1 hs;obtain⟨oe,vs,g1,g2,g3,_⟩:=f6.first;have ne:∀b o,s.heap.get? b=some o→b≠ea:=λb o e z=>by
  by_cases hb:b∈frs X.stack
  ·obtain⟨_,o',ho',hd⟩:=f6.2.2.1.mem hb;rw[z,g1]at ho';cases ho';exact hd _ g3
  ·obtain⟨o',q⟩:=th b o e hb;rw[z,f6.2.1]at q;cases q
 have ner:∀b u,H' b=some u→b≠ea:=λb u e z=>by rw[z,F.new]at e;cases e
 refine I.call' (s':={s' with heap:=h6}) F.os ⟨u.keep,u.slot,λb o e n hx=>?_,u.there,λb xs e=>?_,λb o v e=>?_,λb ps e=>?_⟩ (λb ob e=>?_) F.bare λb z=>absurd z (by simp)
 ·rw[aj (ne b o e)];exact u.free b o e n hx
 ·have:=u.tups b xs e;rw[aj (ner b _ this)];exact this
 ·have:=u.frzs b o v e;rw[aj (ner b _ this)];exact this
 ·obtain⟨more,this⟩:=u.tbls b ps e;exact⟨more,by rw[aj (ner b _ this)];exact this⟩
 ·by_cases hb:b=ea
  ·subst hb;rw[ac]at e;cases e;refine⟨⟨oe,vs,g1,g2,g3⟩,⟨oe,g1⟩,λh1 h2 ⟨o,vs,a1,a2,a3⟩ k=>⟨o,vs,k o a1,a2,a3⟩⟩
  ·rw[aj hb]at e;exact(ok b ob e).stay (λ_ _ _ q=>q) (λc q=>by rw[aj (ner c _ q)];exact q) λc xs q=>by rw[aj (ner c _ q)];exact q
structure TryOk(X:Cx):Prop where
 no:∀e s,¬X.xe e s
 stk:X.stack=X.env::X.outer
 fr:X.env.frame=some X.env.locals
end
end L2
namespace DL
open PySem PySem.Spec PyProof.Rows
theorem jy:entryFor table "dict.update.loop"=some Builtin.«dict.update.loop»:=entryFor_of_tree (by kernel_rfl)
theorem eQ:plainId "dict.update.loop"=true:=by decide +kernel
theorem lK:typeLookup (.type "list") "keys"=pure none:=by rw[typeLookup_type,builtinLookup_eq_fast];kernel_rfl
section
variable{prog:Program}{w:World}{A:Around}{E:Value→Shared→Prop}{s:Shared}
theorem uW{a:Addr}{xs:Array Value}{k:Nat}{sl:Array (Option Value)}{u:Tok}{Q:Value→Shared→Prop}(hx:s.heap.get? a=some {cls:=.type "list",dict:=none,data:=.seq xs k,slots:=sl})(hA:A.handled=none)(h:∀h' tk e,Heap.NewExcOf s.heap h' e "AttributeError"→E (.ref e) {s with heap:=h',toks:=tk}):
  wpAny (model prog w) A (getAttrBy (.ref a) (.str "keys" u) false) Q E s:=by
 obtain⟨hp,g,d,tk,os⟩:=s;have hT:∀tk',(⟨hp,g,d,tk',os⟩:Shared).TypeIs (.ref a) "list":=λ_=>⟨_,hx,rfl⟩;have f1:=sub_AttributeError;have f3:=F.slot_list_getattribute.lookup;have f4:=F.slot_list_getattribute.bind (.ref a);have f5:=am_list_getattr_none;unfold getAttrBy
 repeat (any_goals (first|assumption|exact hT _|((with_reducible show wpAny _ _ (call (builtin "list.__getattribute__") _ _) _ _ _);refine call_meets F.slot_list_getattribute (hT _) am_entry_list_getattribute (F.args_list_getattribute_2 _ _) (meets_getattribute_miss_list a xs k sl "keys" _ lK (by decide) (by size_fits)) ⟨hx,hA,λh' tk' e hx'=>?_⟩)|wp_step))
 obtain⟨t',u',he⟩:=hx'.there;show wpAny _ _ (getattributeRaised _ _ _ _ _ _ _) _ _ _;unfold getattributeRaised
 repeat (any_goals (first|assumption|wp_step))
 exact h _ _ _ hx'.of
theorem uX{a:Addr}{xs:Array Value}{k:Nat}{sl:Array (Option Value)}{Q:Option Value→Shared→Prop}(hx:s.heap.get? a=some {cls:=.type "list",dict:=none,data:=.seq xs k,slots:=sl})(hA:A.handled=none)(h:∀h' tk,(∀b o,s.heap.get? b=some o→h'.get? b=some o)→Q none {s with heap:=h',toks:=tk}):
  wpAny (model prog w) A (getAttr? (.ref a) "keys") Q E s:=by
 obtain⟨hp,g,d,tk,os⟩:=s;have f1:=sub_AttributeError;unfold getAttr? getAttrBy?
 repeat (any_goals (first|assumption|((with_reducible show wpAny _ _ (getAttrBy _ _ false) _ _ _);refine uW (s:=⟨hp,g,d,_,os⟩) hx hA λh' tk' e hx'=>?_)|wp_step))
 obtain⟨⟨oc,od,odt,osl⟩,vs,he,hc,_,_⟩:=hx'.there;simp only at hc;subst hc
 repeat (any_goals (first|assumption|with_reducible refine wpAny_loadPart_at he ?_|wp_step))
 exact h h' tk' λb o e=>hx'.keeps b o e
end
section
variable{prog:Program}{w:World}{A:Around}{E:Value→Shared→Prop}{R:Result→Shared→Prop}{I:Addr}{fp wr:List Addr}{G:Array GenState→Array GenState→Prop}{n:Nat}{P:Nat→Value→Prop}{St:Nat→Shared→Prop}
theorem rh(W:WalksS prog w A.in1 I fp wr G n P St)(d:Addr)(hdf:d∉fp)(ad:Nat→Addr)(kk vv:Nat→Value)(hval:∀i v,P i v→v=.ref (ad i))(had:∀i,i<n→ad i∉d::wr)(D:Nat→Heap→Prop)(hD:∀i (h h':Heap),D i h→(∀b o,b∉wr→h.get? b=some o→h'.get? b=some o)→D i h')(step:∀i (s:Shared) (E:Value→Shared→Prop) (Q:Unit→Shared→Prop),i<n→D i s.heap→(∀h' tk,s.toks≤tk→SameBut d s.heap h'→D (i+1) h'→Q () {s with heap:=h',toks:=tk})→wpAny (model prog w) A.in1 (dictSet d (kk i) (vv i)) Q E s):
  ∀(k i:Nat)(s:Shared)(tk:Tok),n-i=k→i≤n→St i s→D i s.heap→(∀j,j<n→IsTup s.heap (ad j) #[kk j,vv j]) →
   (∀s',Moved (d::wr) G s s'→D n s'.heap→R (.ok (.ret .none)) s') →
   codeAny (model prog w) A (.builtin "dict.update.loop" ⟨[.ref d,.ref I,.int i tk,.none],[]⟩) R s:=by
 have hdw:d∉wr:=λh=>hdf (W.sub _ h);have hsub:∀b∈wr,b∈d::wr:=λb hb=>mem_cons_of_mem _ hb;have hadw:∀i,i<n→ad i∉wr:=λi hi h=>had i hi (mem_cons_of_mem _ h);have hadd:∀i,i<n→ad i≠d:=λi hi h=>had i hi (by rw[h];exact mem_cons_self);intro k
 induction k with
 |zero =>
  intro i s tk hk hi hst hDi htp hR;have hin:i=n:=by omega
  subst hin;refine codeAny_builtin jy ?_;rw[Around.under_plainId eQ _];show wpAny _ A.in1 (pyNext (.ref I) >>= _) _ _ s;refine wpAny_bind (W.done s _ _ hst λs' hm=>?_);show wpAny _ A.in1 (Builtin.Dict.addKeywords d [] >>= λ_=>ret Value.none) _ _ s';exact wpAny_bind (wpAny_pure (wpAny_pure (hR s' (hm.mono hsub) (hD _ _ _ hDi hm.heap))))
 |succ k ih =>
  intro i s tk hk hi hst hDi htp hR;have hlt:i<n:=by omega
  refine codeAny_builtin jy ?_;rw[Around.under_plainId eQ _];show wpAny _ A.in1 (pyNext (.ref I) >>= _) _ _ s;refine wpAny_bind (W.item i s _ _ hlt hst λv s' hP hst' hm=>?_);have hv:=hval i v hP;subst hv;have hDi':D i s'.heap:=hD _ _ _ hDi hm.heap;have htp':∀j,j<n→IsTup s'.heap (ad j) #[kk j,vv j]:=λj hj=>by
   obtain⟨o,ho,r⟩:=htp j hj;exact⟨o,hm.heap _ o (hadw j hj) ho,r⟩
  obtain⟨ot,hot,hct,nt,hdt⟩:=htp' i hlt;have hT:s'.TypeIs (.ref (ad i)) "tuple":=⟨ot,hot,hct⟩;refine wpAny_bind (wpAny_holding ?_);refine wpAny_bind (wpAny_tryCatch ?_);unfold Builtin.Dict.pairItems;refine wpAny_bind (wpAny_typeOf hT ?_);rw[if_pos (by decide)];generalize hDS:dictSet=DS;obtain⟨hp,g,dr,t,os⟩:=s';obtain⟨ocls,odict,odata,oslots⟩:=ot;simp only at hct hdt;subst hct hdt
  repeat (any_goals (first|assumption|with_reducible refine wpAny_loadPart_at hot ?_|wp_step))
  subst hDS;refine step i _ _ _ hlt hDi' λh' tk' htk hsb hD'=>?_;have hsb':SameBut d hp h':=hsb;have hkeep:∀b o,b∉d::wr→hp.get? b=some o→h'.get? b=some o:=λb o hb e=>by
   rw[hsb'.2 b (λz:b=d=>hb (by rw[z];exact mem_cons_self))];exact e
  refine wpAny_pure ⟨plainId_quiet eQ _,?_⟩;refine ih (i+1) _ _ (by omega) hlt (W.frame _ _ _ _ hst' htk λb hb o e=>?_) hD' (λj hj=>?_) λs'' hm'' hD''=>?_
  ·rw[hsb'.2 b (λh:b=d=>hdf (by rw[←h];exact hb))];exact e
  ·obtain⟨o,ho,r⟩:=htp' j hj;exact⟨o,hkeep _ o (had j hj) ho,r⟩
  ·exact hR s'' (Moved.trans W.gtrans ((hm.mono hsub).then_heap htk λb o hb e=>hkeep b o hb e) hm'') hD''
end
section
variable{prog:Program}{w:World}{A:Around}{E:Value→Shared→Prop}{s:Shared}
theorem fu{l:Addr}{items:Array Value}{nl:Nat}{sl:Array (Option Value)}{Q:Value→Shared→Prop}(hh:A.handled=none)(hl:s.heap.get? l=some {cls:=.type "list",dict:=none,data:=.seq items nl,slots:=sl})(ad:Nat→Addr)(kk vv:Nat→Value)(hi:∀(i:Nat) (v:Value),items[i]?=some v→v=Value.ref (ad i))(ht:∀i,i<items.size→IsTup s.heap (ad i) #[kk i,vv i])(D:Nat→Heap→Prop)(hD0:∀h',h'.get? s.heap.objs.size=some {cls:=.type "dict",data:=.dict #[]}→(∀b o,s.heap.get? b=some o→h'.get? b=some o)→D 0 h')(hD:∀i (h h':Heap),D i h→(∀b o,b≤s.heap.objs.size→h.get? b=some o→h'.get? b=some o)→D i h')(step:∀i (s':Shared) (E:Value→Shared→Prop) (Q:Unit→Shared→Prop),i<items.size→D i s'.heap→(∀h' tk,s'.toks≤tk→SameBut s.heap.objs.size s'.heap h'→D (i+1) h'→Q () {s' with heap:=h',toks:=tk}) →
   wpAny (model prog w) A.in1.in1 (dictSet s.heap.objs.size (kk i) (vv i)) Q E s')(h:∀h' tk,D items.size h'→(∀b o,s.heap.get? b=some o→h'.get? b=some o)→Q (.ref s.heap.objs.size) {s with heap:=h',toks:=tk}):
  wpAny (model prog w) A (call (.type "dict") [.ref l]) Q E s:=by
 refine callType_codes (Q₁:=λobj s₁=>obj=.ref s.heap.objs.size∧s₁={s with heap:=s.heap.push {cls:=.type "dict",data:=.dict #[]}}) F.kt_called_dict (F.kt_typeCall_dict_1 _) F.entry_dict_init (kt_code_dict_new _ ⟨rfl,rfl⟩) ?_;rintro obj s₁ ⟨rfl,rfl⟩;have hnew:(s.heap.push {cls:=.type "dict",data:=.dict #[]}).get? s.heap.objs.size=some {cls:=.type "dict",data:=.dict #[]}:=get?_push_size _ rfl;have hTd:Shared.TypeIs {s with heap:=s.heap.push {cls:=.type "dict",data:=.dict #[]}} (.ref s.heap.objs.size) "dict":=⟨_,hnew,rfl⟩
 have hl':(s.heap.push {cls:=.type "dict",data:=.dict #[]}).get? l=some {cls:=.type "list",dict:=none,data:=.seq items nl,slots:=sl}:=get?_push_of_some _ hl;have hTl:Shared.TypeIs {s with heap:=s.heap.push {cls:=.type "dict",data:=.dict #[]}} (.ref l) "list":=⟨_,hl',rfl⟩
 refine⟨hTd,F.args_dict_init_2 _ _,?_⟩;unfold Builtin.«dict.__init__»;refine wpAny_bind ?_;unfold Builtin.Dict.selfAndRest;refine wpAny_bind (wpAny_notOrdered_dict hTd ?_);show wpAny _ _ (pure (s.heap.objs.size,[Value.ref l])) _ _ _;refine wpAny_pure ?_;show wpAny _ _ (Builtin.Dict.updateFrom "dict.__init__" s.heap.objs.size (.ref l) [] .none) _ _ _;unfold Builtin.Dict.updateFrom;refine wpAny_bind (wpAny_typeOf hTl ?_);rw[if_pos (by decide)];refine wpAny_bind (uX (s:={s with heap:=s.heap.push {cls:=.type "dict",data:=.dict #[]}}) hl' (show A.in1.in1.handled=none by simp[hh]) λh1 tk1 hk1=>?_);have hk1':∀b o,(s.heap.push {cls:=.type "dict",data:=.dict #[]}).get? b=some o→h1.get? b=some o:=hk1;have hL1:h1.IsList l items:=⟨_,hk1' _ _ hl',rfl,nl,rfl⟩;rw[if_pos (show(none:Option Value).isNone=true from rfl)];refine wpAny_bind (wpAny_rule ?_);refine wpAny_bind (wpAny_pyIter_list hL1 ?_);have hlS:l<s.heap.objs.size:=lt_size hl;have hS1:s.heap.objs.size<h1.objs.size:=lt_size (hk1' _ _ hnew);have k0:∀b o,s.heap.get? b=some o→h1.get? b=some o:=λb o e=>hk1' b o (get?_push_of_some _ e);have hadlt:∀i,i<items.size→ad i<s.heap.objs.size:=λi hi'=>by
  obtain⟨o,ho,_⟩:=ht i hi';exact lt_size ho
 refine wpAny_pure ⟨plainId_quiet eQ _,rh (A:=A.in1) ((Walks.list (show A.in1.in1.handled=none by simp[hh]) h1.objs.size l (ne_of_lt (lt_trans hlS hS1)) items).toS) s.heap.objs.size ?hdf ad kk vv hi ?had D ?hD' (λi s' E Q hi' hDi hq=>step i s' E Q hi' hDi hq)
  (items.size-0) 0 _ 0 (by omega) (zero_le _) ⟨⟨_,get?_push_size _ rfl,rfl,rfl⟩,hL1.push _⟩ ?hD0' ?ht' λs' hm hDn=>?_⟩
 case hdf =>
  simp only[mem_cons,not_mem_nil,or_false,not_or];exact⟨ne_of_lt hS1,ne_of_gt hlS⟩
 case had =>
  intro i hi';simp only[mem_cons,not_mem_nil,or_false,not_or];exact⟨ne_of_lt (hadlt i hi'),ne_of_lt (lt_trans (hadlt i hi') hS1)⟩
 case hD' =>
  intro i g g' hDi hk;refine hD i g g' hDi λb o hb e=>hk b o ?_ e;simp only[mem_cons,not_mem_nil,or_false];exact ne_of_lt (lt_of_le_of_lt hb hS1)
 case hD0' =>
  exact hD0 _ (get?_push_of_some _ (hk1' _ _ hnew)) λb o e=>get?_push_of_some _ (k0 b o e)
 case ht' =>
  intro j hj;obtain⟨o,ho,r⟩:=ht j hj;exact⟨o,get?_push_of_some _ (k0 _ _ ho),r⟩
 obtain⟨h',g',d',tk',os'⟩:=s';have eg:g'=s.gens:=hm.gens;have ed:d'=s.drawn:=hm.drawn;have eo:os'=s.os:=hm.os;subst eg;subst ed;subst eo;refine⟨rfl,h h' tk' hDn λb o e=>?_⟩;have hb:b<s.heap.objs.size:=lt_size e;refine hm.heap b o ?_ (get?_push_of_some _ (k0 b o e));simp only[mem_cons,not_mem_nil,or_false,not_or];exact⟨ne_of_lt hb,ne_of_lt (lt_trans hb hS1)⟩
end
end DL
namespace L2
open PySem PySem.Spec PyProof.Rows
section
variable{X:Cx}
theorem wX{pins:List (Addr×Obj)}{σ:St}{H:Hp}{s:Shared}(I:Inv X pins σ H s){a:Addr}{x y:V}(h:H a=some (.tup [x,y])):∃u v,aO x u∧aO y v∧IsTup s.heap a #[u,v]:=by
 obtain⟨_,its,r,ht⟩:=I.hok a _ h;cases r with
 |cons r1 r =>
  cases r with
  |cons r2 r=>cases r;exact⟨_,_,r1,r2,by simpa using ht⟩
theorem nk{κ:Type}{pins:List (Addr×Obj)}{σ:St}{H:Hp}{s:Shared}(I:Inv X pins σ H s){zs:List (Addr×κ×V)}(kf:Addr×κ×V→V)(hk:∀z∈zs,H z.1=some (.tup [kf z,z.2.2])):
  ∃f:Addr×κ×V→Value×Value,∀z∈zs,aO (kf z) (f z).1∧aO z.2.2 (f z).2∧IsTup s.heap z.1 #[(f z).1,(f z).2]:=by
 have hch:∀z:Addr×κ×V,∃p:Value×Value,z∈zs→aO (kf z) p.1∧aO z.2.2 p.2∧IsTup s.heap z.1 #[p.1,p.2]:=λz=>by
  by_cases hz':z∈zs
  ·obtain⟨u,v,a,b,c⟩:=wX I (hk z hz');exact⟨(u,v),λ_=>⟨a,b,c⟩⟩
  ·exact⟨(.none,.none),λh=>absurd h hz'⟩
 exact⟨λz=>Classical.choose (hch z),λz hz=>Classical.choose_spec (hch z) hz⟩
theorem cJ{α:Type}{l:List α}{i:Nat}{d:α}(h:i<l.length):l.getD i d∈l∧l[i]?=some (l.getD i d):=by
 rw[getD_eq_getElem?_getD,getElem?_eq_getElem h];exact⟨getElem_mem h,rfl⟩
theorem kR{κ:Type}{zs:List (Addr×κ×V)}{d:Addr×κ×V}{i:Nat}{v:Value}(h:(((zs.map (·.1)).map Value.ref).toArray)[i]?=some v):v=Value.ref (zs.getD i d).1:=by
 have h':((zs.map (·.1)).map Value.ref)[i]?=some v:=by simpa using h
 rw[getElem?_map,getElem?_map]at h';rw[getD_eq_getElem?_getD];cases e:zs[i]? with
 |none=>rw[e]at h';cases h'
 |some z=>rw[e]at h';exact(Option.some.inj h').symm
theorem dw{α:Type}{l:List α}{i:Nat}{x:α}(h:l[i]?=some x):l.take (i+1)=l.take i++[x]:=by rw[take_succ,h];rfl
theorem ri{α κ:Type}{l:List α}{f:α→κ}{i:Nat}{x:α}(hn:(l.map f).Nodup)(h:l[i]?=some x):f x∉(l.take i).map f:=by
 intro hm;obtain⟨y,hy,e⟩:=mem_map.mp hm;obtain⟨j,hj,e2⟩:=mem_iff_getElem.mp hy;have hj':j<i:=by rw[length_take]at hj;omega
 have hi:i<l.length:=(List.getElem?_eq_some_iff.mp h).1;have e3:(l.map f)[j]'(by rw[length_map];omega)=(l.map f)[i]'(by rw[length_map];omega):=by
  rw[List.getElem_map,List.getElem_map];rw[List.getElem_take]at e2;rw[e2,e,(List.getElem?_eq_some_iff.mp h).2]
 have:=(getElem_inj hn).mp e3;omega
theorem iL(hc:X.calm=true):cx X (.type "dict") (λxs H Q=>∃l,∃zs:List (Addr×Key×V),xs=[.ref l]∧H l=some (.lst ((zs.map (·.1)).map V.ref))∧(∀z∈zs,H z.1=some (.tup [kV z.2.1,z.2.2]))∧zs.length≤1000 ∧
  (zs.map (·.2.1)).Nodup∧((∀d o,H d=none→Q (.ref d) (upd H d (.frz o (.dK (zs.map (·.2))))))∨∀d,H d=none→Q (.ref d) (upd H d (.dK (zs.map (·.2)))))):=by
 intro pins s σ H xs us Q I r h;obtain⟨l,zs,rfl,hl,hk,hz,hnd,q⟩:=h;obtain⟨u,rfl,ru⟩:=de r;cases ru;obtain⟨_,its,nl,rv,ho⟩:=I.hok l _ hl;have e:=dv rv;subst e;obtain⟨f,hf⟩:=nk I (λz=>kV z.2.1) hk;have hsz:(((zs.map (·.1)).map Value.ref).toArray).size=zs.length:=by simp
 refine DL.fu (s:=s) (I.ok.hd hc) ho (λi=>(zs.getD i (0,.inl 0,.non)).1) (λi=>(f (zs.getD i (0,.inl 0,.non))).1) (λi=>(f (zs.getD i (0,.inl 0,.non))).2) (λi v hv=>kR hv) (λi hi=>?_)
  (λi h'=>h'.DictOf (aR X.prog X.w) s.heap.objs.size ((zs.take i).map λz=>(z.2.1,(f z).2))) (λh' hg _=>?_) (λi g g' hd hk=>?_) (λi s' E Q hi hd hq=>?_) λh' tk hd hkeep=>?_
 ·rw[hsz]at hi;exact(hf _ (cJ hi).1).2.2
 ·exact⟨_,#[],0,hg,⟨rfl,rfl,rfl⟩,rfl,λ_ he=>by simp at he,Pairs.nil,nodup_nil⟩
 ·obtain⟨o,es,ep,ho,r⟩:=hd;exact⟨o,es,ep,hk _ o (le_refl _) ho,r⟩
 ·rw[hsz]at hi;obtain⟨hm,hg⟩:=cJ (d:=((0,.inl 0,.non):Addr×Key×V)) hi;refine wpAny_dictSet_pairs (hsz:=by rw[length_map,length_take];have:=ay hz;omega) (k:=(zs.getD i (0,.inl 0,.non)).2.1) (fm (hf _ hm).1) hd λh' hd' hs=>hq h' _ (le_succ _) hs ?_;have e1:=dw hg;have e2:=ri hnd hg;rw[e1,map_append];unfold stored at hd';rw[if_neg]at hd'
  ·exact hd'
  ·intro ha;obtain⟨p,hp,he⟩:=any_eq_true.mp ha;obtain⟨z,hz',rfl⟩:=mem_map.mp hp;exact e2 (mem_map.mpr ⟨z,hz',of_decide_eq_true he⟩)
 ·rw[hsz,take_length]at hd;obtain⟨ob,hob⟩:∃ob,h'.get? s.heap.objs.size=some ob:=let⟨o,_,_,ho,_⟩:=hd;⟨o,ho⟩;have hrel:KV (zs.map (·.2)) (zs.map λz=>(z.2.1,(f z).2)):=by
   have:∀ys:List (Addr×Key×V),(∀z∈ys,z∈zs)→KV (ys.map (·.2)) (ys.map λz=>(z.2.1,(f z).2)):=by
    intro ys
    induction ys with
    |nil=>intro _;exact .nil
    |cons z ys ih=>intro hm;exact .cons ⟨rfl,(hf z (hm z (by simp))).2.1⟩ (ih λy hy=>hm y (by simp[hy]))
   exact this zs λz hz=>hz
  have hdk:∀H':Hp,bt X.prog X.w H' h' s.heap.objs.size (.dK (zs.map (·.2))):=λH'=>gF (le_of_lt (ay (by rw[length_map];exact hz))) (beq_eq_false_iff_ne.mpr (symm (ne_of_lt I.big))) hrel hd;rcases q with q|q
  ·exact⟨.ref s.heap.objs.size,_,I.laid (t':=tk) (o:=.frz ob (.dK (zs.map (·.2)))) hkeep (le_refl _) ⟨hob,hdk _⟩,rfl,q _ ob (I.hok.fresh (le_refl _))⟩
  ·exact⟨.ref s.heap.objs.size,_,I.laid (t':=tk) (o:=.dK (zs.map (·.2))) hkeep (le_refl _) (hdk _),rfl,q _ (I.hok.fresh (le_refl _))⟩
theorem oE(hc:X.calm=true):cx X (.type "dict") (λxs H Q=>∃l,∃zs:List (Addr×Key×V),xs=[.ref l]∧H l=some (.lst ((zs.map (·.1)).map V.ref))∧(∀z∈zs,H z.1=some (.tup [kV z.2.1,z.2.2]))∧zs.length≤1000∧(zs.map (·.2.1)).Nodup∧∀d o,H d=none→Q (.ref d) (upd H d (.frz o (.dK (zs.map (·.2)))))) :=
 λpins s σ H xs us Q I r ⟨l,zs,h1,h2,h3,h4,h5,q⟩=>iL hc pins s σ H xs us Q I r ⟨l,zs,h1,h2,h3,h4,h5,.inl q⟩
theorem fw(hc:X.calm=true):cx X (.type "dict") (λxs H Q=>∃l,∃zs:List (Addr×Key×V),xs=[.ref l]∧H l=some (.lst ((zs.map (·.1)).map V.ref))∧(∀z∈zs,H z.1=some (.tup [kV z.2.1,z.2.2]))∧zs.length≤1000∧(zs.map (·.2.1)).Nodup∧∀d,H d=none→Q (.ref d) (upd H d (.dK (zs.map (·.2))))) :=
 λpins s σ H xs us Q I r ⟨l,zs,h1,h2,h3,h4,h5,q⟩=>iL hc pins s σ H xs us Q I r ⟨l,zs,h1,h2,h3,h4,h5,.inr q⟩
end
def wY(h:Heap)(d:Addr)(es:Array DictEntry)(ep:Nat):Prop:=∃o,h.get? d=some o∧o.ExactDict∧o.data=.dict es ep
section
variable{prog:Program}{w:World}{A:Around}{E:Value→Shared→Prop}{s:Shared}
theorem sR{d:Addr}{es:Array DictEntry}{ep:Nat}{Q:Value→Shared→Prop}(hd:(d==sysModules)=false)(hm:wY s.heap d es ep)(hQ:Q (.ref s.heap.objs.size) {s with heap:=s.heap.push {cls:=.type "dict_keyiterator",data:=.fields #[.ref d,.int 0 0,.int es.size 0,.int ep 0]}}):
  wpAny (model prog w) A (pyIter (.ref d)) Q E s:=by
 obtain⟨o,ho,hc,hdat⟩:=id hm;have hT:s.TypeIs (.ref d) "dict":=⟨o,ho,hc.1⟩;refine wpAny_pyIter_slot hT PySem.F.slot_dict_iter (wpAny_call_entry PySem.F.slot_dict_iter hT PySem.F.entry_dict_iter ?_ (PySem.F.args_dict_iter_1 _));unfold Builtin.«dict.__iter__»;refine wpAny_bind ?_;unfold Builtin.Dict.dictSlotNone;refine wpAny_bind (wpAny_notOrdered_dict hT ?_);show wpAny _ _ (pure (Value.ref d)) _ _ s;refine wpAny_pure ?_;show wpAny _ _ (Builtin.Dict.showsAll d >>= _) _ _ s;unfold Builtin.Dict.showsAll;rw[if_neg (by rw[hd];exact Bool.false_ne_true)];refine wpAny_bind (wpAny_pure ?_);refine wpAny_bind (wpAny_dictEntries ho hdat ?_);refine wpAny_bind (wpAny_dictEpoch ho hdat ?_);refine wpAny_bind (wpAny_newObj_type (wpAny_pure ⟨_,rfl,"dict_keyiterator",_,⟨_,get?_push_size _ rfl,rfl⟩,slot_dict_keyiterator_next.lookup,?_⟩));simpa [rawInt]using hQ
theorem sS{it d:Addr}{i ep:Nat}{es:Array DictEntry}{e:DictEntry}{Q:Option Value→Shared→Prop}(hit:s.heap.IsKeyIter it d i es.size ep)(hm:wY s.heap d es ep)(hx:es[i]?=some e)(hQ:∀h',h'.IsKeyIter it d (i+1) es.size ep→SameBut it s.heap h'→Q (some e.key) {s with heap:=h'}):
  wpAny (model prog w) A (pyNext (.ref it)) Q E s:=by
 obtain⟨o,ho,hc,hd⟩:=id hit;obtain⟨od,hod,hcd,hdd⟩:=id hm;unfold pyNext;refine wpAny_bind (wpAny_attempt (wpAny_callSpecial?_slot (name:=ofString "__next__") hit.typeIs slot_dict_keyiterator_next
  (wpAny_call_entry slot_dict_keyiterator_next hit.typeIs PySem.F.entry_dict_keyiterator_next ?_ (PySem.F.args_dict_keyiterator_next_1 _))))
 refine wpAny_bind (wpAny_pure ?_);refine wpAny_bind ?_;refine wpAny_bind ?_
 first|refine wpAny_bind (wpAny_typeNameOfWhole_keyiter hit.typeIs (wpAny_pure ?_))|refine wpAny_bind (wpAny_typeNameOf_keyiter hit.typeIs (wpAny_pure ?_))
 refine wpAny_bind (wpAny_fieldsOf ho hd ?_);have hown:Builtin.Dict_items.ownsTuple "dict_keyiterator"=false:=by decide
 simp only[hown,false_eq_true,if_false];show wpAny _ _ (if (Value.ref d==Value.none)=true then _ else _) _ _ s
 rw[if_neg (show ¬((Value.ref d==Value.none)=true)from Bool.false_ne_true)];refine wpAny_bind (wpAny_pure ?_);refine wpAny_bind (wpAny_dictEntries hod hdd ?_);rw[if_neg (by simp)];refine wpAny_bind (wpAny_pure ?_);refine wpAny_bind (wpAny_dictEpoch hod hdd ?_);rw[if_neg (by simp)];refine wpAny_pure ?_;have hlt':i<es.size:=(Array.getElem?_eq_some_iff.mp hx).1;have he:es[i]=e:=(Array.getElem?_eq_some_iff.mp hx).2;simp only[show ¬((i:Int)<0)from by omega,if_false,Int.toNat_natCast,Array.getElem?_eq_getElem hlt'];refine wpAny_bind ?_
 first|refine wpAny_bind (wpAny_typeNameOfWhole_keyiter hit.typeIs (wpAny_pure ?_))|refine wpAny_bind (wpAny_typeNameOf_keyiter hit.typeIs (wpAny_pure ?_))
 refine wpAny_bind (wpAny_isOneOf_keyiter hit.typeIs ?_);show wpAny _ _ (setField (.ref it) 1 (rawInt ((i:Int)+1)) >>= _) _ _ s;refine wpAny_bind (wpAny_setField ho hd (by simp) ?_);have hit':(s.heap.update it (Obj.mapFields (·.setIfInBounds 1 (rawInt ((i:Int)+1))))).IsKeyIter it d (i+1) es.size ep :=
  ⟨_,Heap.get?_update_self _ ho (Obj.isFreed_of_fields (Obj.data_mapFields hd _)),(Obj.cls_mapFields ..).trans hc,by rw[Obj.data_mapFields hd];simp[rawInt]⟩
 refine wpAny_bind (wpAny_holding ?_);refine wpAny_bind (wpAny_isOneOf_keyiter (s:={s with heap:=s.heap.update it (Obj.mapFields (·.setIfInBounds 1 (rawInt ((i:Int)+1))))}) hit'.typeIs ?_)
 show wpAny _ _ (pure es[i].key) _ _ _;rw[he];exact wpAny_pure (wpAny_pure ⟨_,rfl,wpAny_pure (hQ _ hit' (SameBut.update ..))⟩)
theorem uY{it d:Addr}{i ep:Nat}{es:Array DictEntry}{Q:Option Value→Shared→Prop}(hh:A.handled=none)(hit:s.heap.IsKeyIter it d i es.size ep)(hm:wY s.heap d es ep)(hge:es.size≤i)(hQ:∀h',Heap.ExtBut it s.heap h'→Q none {s with heap:=h'}):wpAny (model prog w) A (pyNext (.ref it)) Q E s:=by
 obtain⟨o,ho,hc,hd⟩:=id hit;obtain⟨od,hod,hcd,hdd⟩:=id hm;unfold pyNext;refine wpAny_bind (wpAny_attempt (wpAny_callSpecial?_slot (name:=ofString "__next__") hit.typeIs slot_dict_keyiterator_next
  (wpAny_call_entry slot_dict_keyiterator_next hit.typeIs PySem.F.entry_dict_keyiterator_next ?_ (PySem.F.args_dict_keyiterator_next_1 _))))
 refine wpAny_bind (wpAny_pure ?_);refine wpAny_bind ?_;refine wpAny_bind ?_
 first|refine wpAny_bind (wpAny_typeNameOfWhole_keyiter hit.typeIs (wpAny_pure ?_))|refine wpAny_bind (wpAny_typeNameOf_keyiter hit.typeIs (wpAny_pure ?_))
 refine wpAny_bind (wpAny_fieldsOf ho hd ?_);have hown:Builtin.Dict_items.ownsTuple "dict_keyiterator"=false:=by decide
 simp only[hown,false_eq_true,if_false];show wpAny _ _ (if (Value.ref d==Value.none)=true then _ else _) _ _ s
 rw[if_neg (show ¬((Value.ref d==Value.none)=true)from Bool.false_ne_true)];refine wpAny_bind (wpAny_pure ?_);refine wpAny_bind (wpAny_dictEntries hod hdd ?_);rw[if_neg (by simp)];refine wpAny_bind (wpAny_pure ?_);refine wpAny_bind (wpAny_dictEpoch hod hdd ?_);rw[if_neg (by simp)];refine wpAny_pure ?_;simp only[show ¬((i:Int)<0)from by omega,if_false,Int.toNat_natCast,Array.getElem?_eq_none hge];refine wpAny_bind ?_
 first|refine wpAny_bind (wpAny_typeNameOfWhole_keyiter hit.typeIs (wpAny_pure ?_))|refine wpAny_bind (wpAny_typeNameOf_keyiter hit.typeIs (wpAny_pure ?_))
 show wpAny _ _ (setField (.ref it) 0 .none >>= _) _ _ s;refine wpAny_bind (wpAny_setField ho hd (by simp) ?_);show wpAny _ _ (newExc (.type "StopIteration") [] >>= _) _ _ _;refine wpAny_bind ?_;simp only[newExc,newTuple];refine wpAny_bind (wpAny_newObj_type ?_ (by size_fits));refine wpAny_bind (m:=firstArgMember _ _) (wpAny_of_eq (a:=Value.none) (by first|rfl|(simp only[firstArgMember];rfl)) ?_)
 refine wpAny_newObj_type ?_ (by size_fits);simp only[raiseNew];refine wpAny_bind (wpAny_handled ?_);rw[show A.in1.handled=none from hh];refine wpAny_bind (wpAny_pure (wpAny_throw ?_));refine wpAny_bind (wpAny_isInstance (T:="StopIteration") (b:=true) ⟨_,get?_push_size _ rfl,rfl⟩ isSubtype_stop ?_);exact wpAny_pure (hQ _ (((SameBut.update ..).extBut.push _).push _))
end
def Itk(d:Addr)(o:Obj)(u:HO)(ks:List V):It:=⟨λi H=>H d=some (.frz o u)∧i<ks.length,λi H x H'=>H'=H∧ks[i]?=some x,λi H=>H d=some (.frz o u)∧ks.length≤i⟩
theorem rj{P:Program}{w:World}{K:PySem.W.Frag}{tg:Expr}{d it:Addr}{o:Obj}{u:HO}{es:Array DictEntry}{ep:Nat}{ks:List V}(hx:o.ExactDict)(hd:o.data=.dict es ep)(hv:aH ks (es.toList.map (·.key))):
  Turn P w K tg (Itk d o u ks) [it] it (λi h=>h.IsKeyIter it d i es.size ep) where
 mem:=by simp
 obj:=λi h st b hb=>by
  have e:b=it:=by simpa using hb
  subst e;obtain⟨o,e,c,d⟩:=st;exact⟨o,e,λv z=>by rw[d]at z;cases z⟩
 keep:=λi h h' st k=>st.at λo e=>k it (by simp) o e
 item:=by
  intro X hP hw hK hc i pins s σ H E I hf st hg;subst hP hw hK;obtain⟨hH,hi⟩:=hg;have ho:=(I.hok d _ hH).1;have hl:ks.length=es.size:=by rw[hv.length,length_map,length_toList]
  have hi':i<es.size:=by omega
  obtain⟨v,hv1,hv2⟩:=hv.get (getElem?_eq_getElem hi);obtain⟨f0,f1,f2,f3,f4,f5⟩:=hf it (by simp);have ev:v=es[i].key:=by
   rw[getElem?_map,getElem?_toList,Array.getElem?_eq_getElem hi']at hv1;exact(Option.some.inj hv1).symm
  refine sS st ⟨o,ho,hx,hd⟩ (Array.getElem?_eq_getElem hi') λh' st' sb=>?_;have I1:Inv X pins σ H {s with heap:=h'}:=I.turned (t':=s.toks) (λb o hb e=>(sb.2 b hb).trans e) f0 f1 f3 f4 f5
  obtain⟨oi,e,c,dd⟩:=id st';exact⟨_,rfl,md (s:={s with heap:=h'}) e c dd (by decide) ⟨ks[i],H,I1,ev ▸ hv2,⟨rfl,getElem?_eq_getElem hi⟩,st',λb hb=>(hf b hb).1⟩⟩
 done:=by
  intro X hP hw hK hc i pins s σ H E I hf st hg;subst hP hw hK;obtain⟨hH,hi⟩:=hg;have ho:=(I.hok d _ hH).1;have hl:ks.length=es.size:=by rw[hv.length,length_map,length_toList]
  obtain⟨f0,f1,f2,f3,f4,f5⟩:=hf it (by simp);exact uY (I.ok.hd hc) st ⟨o,ho,hx,hd⟩ (by omega) λh' eb=>⟨rfl,I.turned (t':=s.toks) (λb o hb e=>eb b o hb e) f0 f1 f3 f4 f5⟩
 self:=λ_ _ _ _ _ st h=>wpAny_pyIter_keyiter st h
section
variable{X:Cx}{tg:Expr}
end
section
variable{prog:Program}{w:World}{A:Around}{E:Value→Shared→Prop}{s:Shared}
end
section
variable{X:Cx}
theorem uZ{P:Program}{w:World}{kvs:List (Key×V)}{vs:List (Key×Value)}{acc:Array Value}(rel:KV kvs vs)(h:ItemsOf (λi v=>∃k x,vs[i]?=some (k,x)∧(aR P w).is k v=true) acc vs.length):aH (kvs.map λp=>kV p.1) acc.toList:=by
 obtain⟨h1,h2⟩:=h;have hl:acc.toList.length=vs.length:=by simpa using h1
 have h3:∀(i:Nat)(v:Value),acc.toList[i]?=some v→∃k x,vs[i]?=some (k,x)∧(aR P w).is k v=true:=λi v hv=>h2 i v (by simpa using hv);clear h1 h2;generalize acc.toList=l at hl h3
 induction rel generalizing l with
 |nil =>
  cases l with
  |nil=>exact .nil
  |cons a r=>simp at hl
 |@cons p q kvs vs r _ ih =>
  cases l with
  |nil=>simp at hl
  |cons a l =>
   refine .cons ?_ (ih l (by simpa using hl) λi v hv=>by simpa using h3 (i+1) v (by simpa using hv))
   obtain⟨k,x,e1,e2⟩:=h3 0 a rfl;have e3:q=(k,x):=by simpa using e1
   show aO (kV p.1) a;rw[r.1,e3];rcases bd e2 with⟨i,t,e4,e5⟩|⟨y,t,e4,e5⟩
   ·rw[e4,e5];exact⟨t,rfl⟩
   ·rw[e4,e5];exact⟨t,rfl⟩
end
end L2
namespace HT
open PySem PyProof.Rows
def fc(x y:Str):Bool:=decide (x.cps.toList<y.cps.toList)
theorem va{x y:Str}(h:x.cps.toList=y.cps.toList):x=y:=by
 obtain⟨x⟩:=x;obtain⟨y⟩:=y
 congr
 exact Array.toList_inj.mp h
theorem rk(x:Str):fc x x=false:=decide_eq_false (List.lt_irrefl _)
theorem sT{x y z:Str}(h1:fc x y=true)(h2:fc y z=true):fc x z=true:=by
 unfold fc at *;rw[decide_eq_true_eq]at *;exact List.lt_trans h1 h2
theorem rn{x y:Str}(h:x≠y):fc x y=true∨fc y x=true:=by
 unfold fc;rw[decide_eq_true_eq,decide_eq_true_eq];rcases Decidable.em (x.cps.toList<y.cps.toList)with a|a
 ·exact .inl a
 ·refine .inr ?_;have hle:y.cps.toList≤x.cps.toList:=List.not_lt.mp a;rcases Decidable.em (y.cps.toList<x.cps.toList)with b|b
  ·exact b
  ·have hle2:x.cps.toList≤y.cps.toList:=List.not_lt.mp b;exact absurd (va (List.le_antisymm hle2 hle)) h
section
open PySem.SeqAt
open PySem.AutoSeq1 (wpAny_loadPart')
open PySem.MeetsSeq PySem.MeetsSeq2 PySem.MeetsSeq3
end
section
variable{prog:Program}{w:World}{A:Around}{E:Value→Shared→Prop}{s:Shared}
end
end HT
namespace L2
open PySem PySem.Spec PyProof.Rows
section
variable{X:Cx}
theorem kX{α:Type}{zs:List α}{val:α→V}{d:α}:∀{us:List Value},aH (zs.map val) us→∀(ps:List Nat),(∀i∈ps,i<zs.length)→aH ((ps.map λi=>zs.getD i d).map val) (ps.map λi=>us.getD i Value.none):=by
 intro us rv ps
 induction ps with
 |nil=>intro _;exact .nil
 |cons i ps ih =>
  intro h;refine .cons ?_ (ih λj hj=>h j (by simp[hj]));have hi:=h i (by simp);obtain⟨u,hu,r⟩:=rv.get (i:=i) (x:=val (zs.getD i d)) (by rw[getElem?_map,(cJ (d:=d) hi).2];rfl);have:us.getD i Value.none=u:=by rw[getD_eq_getElem?_getD,hu];rfl
  show aO (val (zs.getD i d)) (us.getD i Value.none);rw[this];exact r
theorem nq{α:Type}{zs:List α}{val:α→V}{d:α}{us:List Value}{f:α→α→Bool}{l:Addr}{pins:List (Addr×Obj)}{σ:St}{H:Hp}{s:Shared}{Q:VK}{κ:SortKind}{E:Value→Shared→Prop}(I:Inv X pins σ H s)(rv:aH (zs.map val) us)(O:SRT.Ord (λi j=>f (zs.getD i d) (zs.getD j d)) zs.length)(pl:s.heap.IsList l us.toArray)(h64:zs.length<64)(hk:∀(A':Around) (s':Shared),A'.units≤X.A.units+2→(∀b o,s.heap.get? b=some o→s'.heap.get? b=some o)→∀Q:SortKind→Shared→Prop,2≤zs.length→Q κ s'→wpAny (model X.prog X.w) A' (keyKind' us.toArray) Q (λ_ _=>False) s')(hlt:∀(A':Around) (s':Shared),A'.units≤X.A.units+2→(∀b o,s.heap.get? b=some o→s'.heap.get? b=some o)→∀(i j:Nat) (C:Bool→Shared→Prop),i<zs.length→j<zs.length→C (f (zs.getD i d) (zs.getD j d)) s'→wpAny (model X.prog X.w) A' (keyLt' κ (us.getD i Value.none) (us.getD j Value.none)) C (λ_ _=>False) s')(q:∀zs':List α,zs'.Perm zs→zs'.Pairwise (λa b=>f a b=true)→∀p,H p=none→Q (.ref p) (upd H p (.lst (zs'.map val)))):wpAny (model X.prog X.w) X.A (call (.builtin "sorted") [.ref l]) (EP X pins σ Q) E s:=by
 have hlen:us.length=zs.length:=by rw[←rv.length,length_map]
 refine SRT.re (κ:=κ) (f:=λi j=>f (zs.getD i d) (zs.getD j d)) (by rw[hlen];exact O) pl (by rw[hlen];exact h64) (λA' s' h1 h2 Q' h3=>hk A' s' h1 h2 Q' (by omega)) (λA' s' h1 h2 i j C hi hj=>hlt A' s' h1 h2 i j C (by omega) (by omega)) ?_;intro p h' hrow hup kp _ hg;obtain⟨c,hg⟩:=hg;rw[hlen]at hrow hup;have hin:∀i∈p.toList,i<zs.length:=λi hi=>mem_range.mp (hrow.perm.mem_iff.mp hi);have hperm:(p.toList.map λi=>zs.getD i d).Perm zs:=by
  refine(hrow.perm.map _).trans ?_;have:(List.range zs.length).map (λi=>zs.getD i d)=zs:=by
   apply ext_getElem?;intro i;rw[getElem?_map]
   by_cases hi:i<zs.length
   ·rw[List.getElem?_range hi,(cJ (d:=d) hi).2];rfl
   ·rw[getElem?_eq_none (by rw[length_range];omega),getElem?_eq_none (by omega)];rfl
  rw[this]
 have hpl:p.size=zs.length:=hrow.size;have hpw:(p.toList.map λi=>zs.getD i d).Pairwise (λa b=>f a b=true):=by
  rw[List.pairwise_iff_getElem];intro i j hi hj hij;have hi':i<p.size:=by rw[length_map,length_toList]at hi;exact hi
  have hj':j<p.size:=by rw[length_map,length_toList]at hj;exact hj
  have:=hup i j hij (by omega);simp only[]at this;rw[getD_eq_getD_getElem?,getD_eq_getD_getElem?,Array.getElem?_eq_getElem hi',Array.getElem?_eq_getElem hj']at this;simpa using this
 refine⟨.ref (s.heap.objs.size+1),_,I.laid (t':=s.toks) (o:=.lst ((p.toList.map λi=>zs.getD i d).map val)) kp (le_succ _) ⟨?_,_,c,kX rv p.toList hin,hg⟩,rfl,q _ hperm hpw _ (I.hok.fresh (le_succ _))⟩;rw[length_map,hperm.length_eq,sizeLine_eq];omega
theorem vb{ns:List Int}{us:List Value}(r:aH (ns.map V.int) us):IntsAre us ns:=ou r
theorem iC:cx X (.builtin "sorted") (λxs H Q=>∃l,∃ns:List Int,xs=[.ref l]∧H l=some (.lst (ns.map V.int))∧ns.Nodup∧ns.length<64 ∧
  ∀ms:List Int,ms.Perm ns→ms.Pairwise (λa b=>a<b)→∀p,H p=none→Q (.ref p) (upd H p (.lst (ms.map V.int)))):=by
 intro pins s σ H xs us Q I r h;obtain⟨l,ns,rfl,hl,hnd,h64,q⟩:=h;obtain⟨u,rfl,ru⟩:=de r;cases ru;obtain⟨_,its,n,rv,ho⟩:=I.hok l _ hl;have hI:=vb rv;have hlen:its.length=ns.length:=by rw[←rv.length,length_map]
 refine nq (val:=V.int) (d:=(0:Int)) (f:=λa b=>decide (a<b)) (κ:=oneType') I rv ⟨λi _=>by simp,λi j k _ _ _ h1 h2=>?_,λi j hi hj hij=>?_⟩ ⟨_,ho,rfl,n,rfl⟩ h64 (λA' s' _ _ Q' h2 hQ=>?_) (λA' s' _ _ i j C hi hj hC=>?_) λzs' h1 h2 p hp=>q zs' h1 (h2.imp λh=>by simpa using h) p hp
 ·simp only[decide_eq_true_eq]at *;omega
 ·simp only[decide_eq_true_eq];have:ns.getD i 0≠ns.getD j 0:=by
   rw[getD_eq_getElem?_getD,getD_eq_getElem?_getD,getElem?_eq_getElem hi,getElem?_eq_getElem hj];exact λe=>hij ((getElem_inj hnd).mp e)
  omega
 ·rw[ksk_kind (keys:=its.toArray) (kz:=ns) (by simpa using hI) (by rw[size_toArray];omega)];exact wpAny_pure hQ
 ·have gi:∀i,i<ns.length→∃t,its.getD i Value.none=.int (ns.getD i 0) t:=λi hi=>by
   obtain⟨v,hv,r⟩:=rv.get (i:=i) (x:=.int (ns.getD i 0)) (by rw[getElem?_map,(cJ (d:=(0:Int)) hi).2];rfl);obtain⟨t,rfl⟩:=r;exact⟨t,by rw[getD_eq_getElem?_getD,hv];rfl⟩
  obtain⟨t,e1⟩:=gi i hi;obtain⟨t',e2⟩:=gi j hj;rw[e1,e2];exact kat_lt_int hC
end
def hZ(H:Hp):Nat→V→V→Prop
 |0,x,y=>x=y∧cQ x=true
 |n+1,x,y=>(x=y∧cQ x=true)∨∃a b xs ys,x=.ref a∧y=.ref b∧H a=some (.tup xs)∧H b=some (.tup ys)∧xs.length=ys.length∧∀(i:Nat) x' y',xs[i]?=some x'→ys[i]?=some y'→hZ H n x' y'
theorem nu{x:V}(f:cQ x=true):eqV x x=true:=by
 cases x<;>first|rfl|(simp[eqV];done) | (exact absurd (show false=true from f) Bool.false_ne_true)
theorem gH{H:Hp}{n:Nat}{x y:V}(h:x=y∧cQ x=true):hZ H n x y:=by
 cases n with
 |zero=>exact h
 |succ n=>exact .inl h
section
variable{X:Cx}{pins:List (Addr×Obj)}{σ:St}{H:Hp}{s:Shared}
theorem jz(I:Inv X pins σ H s):∀(n:Nat){A:Around}{x y:V}{u v:Value},aO x u→aO y v→hZ H n x y→A.units+n<cLine→EqAt A s u v true:=by
 intro n
 induction n with
 |zero =>
  intro A x y u v ru rv h hu;obtain⟨e,f⟩:=h;subst e;have:=ow (A:=A) (s:=s) ru rv f f;rw[nu f]at this;exact this
 |succ n ih =>
  intro A x y u v ru rv h hu;rcases h with⟨e,f⟩|⟨a,b,xs,ys,rfl,rfl,ha,hb,hl,hx⟩
  ·subst e;have:=ow (A:=A) (s:=s) ru rv f f;rw[nu f]at this;exact this
  ·cases ru;cases rv
   by_cases hab:a=b
   ·subst hab;exact EqAt.same _
   ·obtain⟨_,us,r1,t1⟩:=I.hok a _ ha;obtain⟨_,ws,r2,t2⟩:=I.hok b _ hb;have l1:=r1.length;have l2:=r2.length;have:=SeqAt.RcAt.tuples (A:=A) (s:=s) (e:=λ_=>true) t1 t2 (by omega) (λj h1 h2=>by
     have h1':j<xs.length:=by rw[l1];simpa using h1
     have h2':j<ys.length:=by rw[l2];simpa using h2
     obtain⟨u',hu1,hu2⟩:=r1.get (getElem?_eq_getElem h1');obtain⟨v',hv1,hv2⟩:=r2.get (getElem?_eq_getElem h2');have e1:us.toArray[j]=u':=by
      have:us[j]?=some us.toArray[j]:=by rw[getElem?_eq_getElem (by simpa using h1)];simp
      rw[hu1]at this;exact(Option.some.inj this).symm
     have e2:ws.toArray[j]=v':=by
      have:ws[j]?=some ws.toArray[j]:=by rw[getElem?_eq_getElem (by simpa using h2)];simp
      rw[hv1]at this;exact(Option.some.inj this).symm
     rw[e1,e2];exact ih hu2 hv2 (hx j _ _ (getElem?_eq_getElem h1') (getElem?_eq_getElem h2')) (by simp[Around.in1_units];omega))
    have e3:((List.range (min us.toArray.size ws.toArray.size)).all (λ_=>true)&&us.toArray.size==ws.toArray.size)=true:=by
     have:us.toArray.size=ws.toArray.size:=by simp only[size_toArray];omega
     simp[this]
    rw[e3]at this;exact EqAt.of_refs hab this
def fz(H:Hp)(xs ys:List V):Prop:=xs.length=ys.length∧∀(i:Nat) x y,xs[i]?=some x→ys[i]?=some y→hZ H 3 x y
theorem nv{pins:List (Addr×Obj)}{σ:St}{H:Hp}{s:Shared}(I:Inv X pins σ H s){xs ys:List V}{us ws:List Value}(r1:aH xs us)(r2:aH ys ws)(h:fz H xs ys){A:Around}(hu:A.units+3<cLine):
  ∀j (h1:j<us.toArray.size) (h2:j<ws.toArray.size),EqAt A s us.toArray[j] ws.toArray[j] true:=λj h1 h2=>by
 have h1':j<xs.length:=by rw[r1.length];simpa using h1
 have h2':j<ys.length:=by rw[r2.length];simpa using h2
 obtain⟨u',hu1,hu2⟩:=r1.get (getElem?_eq_getElem h1');obtain⟨v',hv1,hv2⟩:=r2.get (getElem?_eq_getElem h2');have e1:us.toArray[j]=u':=by
  have:us[j]?=some us.toArray[j]:=by rw[getElem?_eq_getElem (by simpa using h1)];simp
  rw[hu1]at this;exact(Option.some.inj this).symm
 have e2:ws.toArray[j]=v':=by
  have:ws[j]?=some ws.toArray[j]:=by rw[getElem?_eq_getElem (by simpa using h2)];simp
  rw[hv1]at this;exact(Option.some.inj this).symm
 rw[e1,e2];exact jz I 3 hu2 hv2 (h.2 j _ _ (getElem?_eq_getElem h1') (getElem?_eq_getElem h2')) hu
theorem oF(hu:X.A.units+4<cLine):OpR X (compareOp .NotEq) (λx y H Q=>rNe x y H Q∨(∃a b xs ys,x=.ref a∧y=.ref b∧fz H xs ys∧((H a=some (.lst xs)∧H b=some (.lst ys))∨(H a=some (.tup xs)∧H b=some (.tup ys)))∧Q (.bl false) H)):=by
 intro pins s σ H x y v u Q I rx ry h;rcases h with h|⟨a,b,xs,ys,rfl,rfl,hx,h,q⟩
 ·exact dH pins s σ H x y v u Q I rx ry h
 ·cases rx;cases ry;rcases h with⟨ha,hb⟩|⟨ha,hb⟩
  ·obtain⟨_,us,n1,r1,o1⟩:=I.hok a _ ha;obtain⟨_,ws,n2,r2,o2⟩:=I.hok b _ hb;have hl:=hx.1;have l1:=r1.length;have l2:=r2.length;refine RcNeAt.lists (e:=λ_=>true) ⟨_,o1,rfl,n1,rfl⟩ ⟨_,o2,rfl,n2,rfl⟩ (by simp only[size_toArray];omega) (by omega) (nv I r1 r2 hx (by simp[Around.in1_units];omega)) _ _ _ _ ⟨.bl false,H,I,?_,q⟩;show _=Value.bool false;simp
  ·obtain⟨_,us,r1,t1⟩:=I.hok a _ ha;obtain⟨_,ws,r2,t2⟩:=I.hok b _ hb;have hl:=hx.1;have l1:=r1.length;have l2:=r2.length;refine RcNeAt.tuples (e:=λ_=>true) t1 t2 (by omega) (nv I r1 r2 hx (by simp[Around.in1_units];omega)) _ _ _ _ ⟨.bl false,H,I,?_,q⟩;show _=Value.bool false;have:us.toArray.size=ws.toArray.size:=by simp only[size_toArray];omega
   simp[this]
theorem wg{A:Around}{s:Shared}{bs:List Bool}:∀y,y∈(bs.map Value.bool).toArray→EqAt A s y (.bool true) (y==.bool true):=λy hy=>by
 have hy':y∈bs.map Value.bool:=by simpa using hy
 obtain⟨b,_,rfl⟩:=mem_map.mp hy';have:=EqAt.bool_bool (A:=A) (s:=s) b true;cases b<;>exact this
theorem sU:MtM X "list.count" (λx vs H Q=>∃l,∃bs:List Bool,x=.ref l∧vs=[.bl true]∧H l=some (.lst (bs.map V.bl))∧Q (.int (bs.count true:Nat)) H):=by
 intro pins s σ H x vs v us Q I rx rv h;obtain⟨l,bs,rfl,rfl,hl,q⟩:=h;cases rx;obtain⟨u,rfl,ru⟩:=de rv;cases (show u=Value.bool true from ru);obtain⟨_,its,n,r,ho⟩:=I.hok l _ hl;have e:=jb r;subst e;refine call_meets PySem.F.slot_list_count ⟨_,ho,rfl⟩ PySem.F.entry_list_count (PySem.F.args_list_count_2 _ _) (SeqAt.list_countAt l _ n none #[] (.bool true) (λy=>y==.bool true)) ⟨ho,wg,⟨.int (bs.count true:Nat),H,I.tok _,?_,q⟩⟩;have:((bs.map Value.bool).toArray.toList.countP λy=>y==.bool true)=bs.count true:=by
  rw[List.count];simp only[List.countP_map]
  congr 1
  funext b
  cases b<;>rfl
 rw[this];exact⟨_,rfl⟩
theorem sV:MtM X "list.index" (λx vs H Q=>∃l j,∃bs:List Bool,x=.ref l∧vs=[.bl true]∧H l=some (.lst (bs.map V.bl))∧bs.length≤1000∧bs[j]?=some true∧(∀m,m<j→bs[m]?=some false)∧Q (.int (j:Nat)) H):=by
 intro pins s σ H x vs v us Q I rx rv h;obtain⟨l,j,bs,rfl,rfl,hl,hz,hj,hm,q⟩:=h;cases rx;obtain⟨u,rfl,ru⟩:=de rv;cases (show u=Value.bool true from ru);obtain⟨_,its,n,r,ho⟩:=I.hok l _ hl;have e:=jb r;subst e;have hjl:j<bs.length:=(List.getElem?_eq_some_iff.mp hj).1;refine call_meets PySem.F.slot_list_index ⟨_,ho,rfl⟩ PySem.F.entry_list_index (PySem.F.args_list_index_2 _ _) (SeqAt.list_indexAt l _ n none #[] (.bool true) (λy=>y==.bool true) j (by simpa using hjl) (by omega) ?_ ?_) ⟨ho,wg,⟨.int (j:Nat),H,I.tok _,⟨_,rfl⟩,q⟩⟩
 ·have:=(List.getElem?_eq_some_iff.mp hj).2;simp[this]
 ·intro m hm1 hm2;have:=(List.getElem?_eq_some_iff.mp (hm m hm2)).2;simp[this]
theorem bi:cx X (.builtin "isinstance") (λxs H Q=>∃ea C c b,xs=[.ref ea,c]∧H ea=some (.ext (XI.ng ea C))∧XI.eE X.K C=true∧((∃n,c=.ty n∧kitOne X.K (.ref C) (.type n)=some b)∨(∃D,c=.ref D∧kitOne X.K (.ref C) (.ref D)=some b))∧Q (.bl b) H):=by
 intro pins s σ H xs us Q I r h;obtain⟨ea,C,c,b,rfl,hH,hxc,hc,q⟩:=h;obtain⟨u,u',rfl,ru,ru'⟩:=sm r;cases ru;obtain⟨hex,_,_⟩:=I.hok ea _ hH;rcases hc with⟨n,rfl,e⟩|⟨D,rfl,e⟩
 ·cases (show u'=type n from ru');exact kia_one (XI.nh hxc) I.kIn hex e (λz=>nomatch z) λtk=>⟨.bl b,H,I.tok tk,rfl,q⟩
 ·cases (show u'=Value.ref D from ru');exact kia_one (XI.nh hxc) I.kIn hex e (λz=>nomatch z) λtk=>⟨.bl b,H,I.tok tk,rfl,q⟩
end
section
variable{prog:Program}{w:World}{A:Around}{E:Value→Shared→Prop}{s:Shared}
end
section
variable{P:Program}{w:World}
end
section
variable{X:Cx}{o e:Expr}{td ty:TE}{apos cpos:Pos}
end
def Ext(p:Addr)(H H':Hp):Prop:=∀b o,b≠p→H b=some o→H' b=some o
theorem Ext.of{p:Addr}{H H':Hp}(s:Same H H'):Ext p H H':=λb o _ e=>s b o e
theorem Ext.upd{p:Addr}{H:Hp}{o:HO}:Ext p H (upd H p o):=λb u hb e=>by rw[aj hb];exact e
theorem Ext.trans{p:Addr}{H H1 H2:Hp}(a:Ext p H H1)(b:Ext p H1 H2):Ext p H H2:=λc o hc e=>b c o hc (a c o hc e)
def yJ(te:TE):Prop:=∀σ H (Q Q':VK),(∀y H,Q y H→Q' y H)→te σ H Q→te σ H Q'
theorem sW{js:List Nat}{J:It}{te:TE}{σ:St}{H1:Hp}{Q:VK}{p:Addr}{fr:List (Option V)}(n:Nat)(hn:n≤1000)(hp:H1 p=none)(hfr:dm 1 js σ=none::fr)(R:Nat→V→Hp→Prop)(hR:∀i y H H',R i y H→Ext p H H'→R i y H')(go:∀i H',i<n→Same H1 H'→J.go i H')(stop:∀H',Same H1 H'→J.stop n H')(me:yJ te)(step:∀i H' x H2,i<n→Same H1 H'→(∃ys,H' p=some (.lst ys))→J.yld i H' x H2→H2=H'∧te (some x::fr) H' λy H4=>Same H' H4∧R i y H4)(fin:∀ys H',Same H1 H'→H' p=some (.lst ys)→ys.length=n→(∀(j:Nat) y,ys[j]?=some y→R j y H')→Q (.ref p) H'):LcW 1 js (cw 0) te σ Q J H1 p:=by
 refine sO (k:=1) (js:=js) (J:=J) (p:=p) n hn (λi ys σ' H'=>(∃o,σ'=o::fr)∧Same H1 H'∧H' p=some (.lst ys)∧ys.length=i∧∀(j:Nat) y,ys[j]?=some y→R j y H') ⟨⟨none,hfr⟩,ae hp,ac,rfl,λj y h=>by simp at h⟩
  (λi ys σ' H' h=>by have:=h.2.2.2.1;omega) (λi ys σ' H' hi h=>go i H' hi h.2.1) (λys σ' H' h=>⟨stop H' h.2.1,fin ys H' h.2.1 h.2.2.1 h.2.2.2.1 h.2.2.2.2⟩) (λi ys σ' H' hi h x H2 hy=>?_) ?_ me
 ·obtain⟨⟨o,rfl⟩,s1,hl,hlen,hrs⟩:=h;obtain⟨rfl,ht⟩:=step i H' x H2 hi s1 ⟨ys,hl⟩ hy;refine me _ _ _ _ (λy H4 h4=>?_) ht;obtain⟨s4,r4⟩:=h4;refine⟨s4 _ _ hl,⟨some x,rfl⟩,aL hp (s1.trans s4),ac,by rw[length_append,hlen];rfl,λj z hz=>?_⟩;have ex:Ext p H2 (upd H4 p (.lst (ys++[y]))):=(Ext.of s4).trans Ext.upd
  by_cases hj:j<ys.length
  ·rw[getElem?_append_left hj]at hz;exact hR _ _ _ _ (hrs j z hz) ex
  ·rw[getElem?_append_right (by omega)]at hz;have hj':j-ys.length=0:=by
    cases e:j-ys.length with
    |zero=>rfl
    |succ m=>rw[e]at hz;simp at hz
   rw[hj']at hz;have ez:y=z:=by simpa using hz
   subst ez;have ej:j=i:=by omega
   subst ej;exact hR _ _ _ _ r4 Ext.upd
 ·intro _ _ _ _ _ m q;exact m _ _ q
theorem gI{H:Hp}{p q:Addr}(hp:∃ys,H p=some (.lst ys))(hq:H q=none):q≠p:=λe=>by
 obtain⟨ys,h⟩:=hp;rw[←e,hq]at h;cases h
section
variable{X:Cx}{N:List Str}{scope:Scope}{cl:List (Str×Addr)}{k:Nat}{js:List Nat}
theorem sX{elt tg iter:Expr}{pos spos py:Pos}{y:Str}{ii:Nat}{wi:TI}{g:TG}{te:TE}(hXN:X.N.Nodup)(hii:X.N[ii]?=some y)(hx:Loc X.env.scope y)(hc:X.calm=true)(L:LcOk X scope cl)(hN:N.length=k+js.length)(hj:∀(i j:Nat) x,js[i]?=some j→N[k+i]?=some x→X.N[j]?=some x∧Vis X.env.scope x∧X.env.scope.names.lookup x≠some .local∧((relabel scope X.env).names.lookup x=some .cell∨(relabel scope X.env).names.lookup x=some .free))(hi:PI X tg iter wi)(hg:∀s H fp,PG (dc X N scope cl s H fp) tg g)(he:∀s H fp,PE (dc X N scope cl s H fp) elt te)(hs:∀x,foldedSetIterable iter X.env x=pure x:=by intro _;rfl)(hsw:swapsWith (.ListComp elt [⟨tg,iter,[],0⟩] scope pos) (some (.Name y py)) spos.line X.env=pure true:=by rfl)(hf:X.fn y=true∨X.env.scope.names.lookup y=some .local:=by first|exact .inl rfl|exact .inr rfl|assumption):PS X (.Assign [.Name y py] (.ListComp elt [⟨tg,iter,[],0⟩] scope pos) spos) (wE (tLc k js wi g te) (cw ii)):=by
 intro pins s σ H D I h;rw[exec_Assign_Name_used _ _ _ _ hsw];refine wpAny_bind (wpAny_standAt (wpAny_bind ?_));show wpAny _ X.A (do let _ ← comprehension (.ListComp elt [⟨tg,iter,[],0⟩] scope pos) scope X.env _ (newList []) false (eval iter X.env) (some (assign (.Name y py) X.env))) _ _ s
 refine wpAny_bind (wpAny_mono (wpAny_comprehension_free (use:=some (assign (.Name y py) X.env)) (Q:=λ_ s'=>∃σ' H',Inv X pins σ' H' s'∧D.nx σ' H') rfl hs L.clos L.kind L.names ?_) (λ_ s' hq=>wpAny_pure (wpAny_pure hq)) λ_ _ e=>e);refine thn (hi pins s σ H _ I h) λv s1 h1=>thn h1 λitv s2 h2=>?_;obtain⟨it,fp,tn,J,H2,e,I2,T,st2,f2,hW⟩:=h2;subst e;have hfp:∀b∈fp,b<s2.heap.objs.size:=λb hb=>by
  obtain⟨o,e,_⟩:=T.obj _ _ st2 b hb;exact lt_size e
 refine wpAny_newObj_type (wpAny_newFunctionEnv L.nocell (by intro y hy;simp at hy) (λh₁ hns hsb=>?_) L.kind);dsimp only at hns hsb⊢;obtain⟨W,⟨m0,w0⟩,turn⟩:=hW s2.heap.objs.size (I2.hok.fresh (le_refl _));have I3:Inv X pins σ (upd H2 s2.heap.objs.size (.lst [])) {s2 with heap:=s2.heap.push {cls:=.type "list",dict:=none,data:=.seq ([]:List Value).toArray}}:=I2.lnew (t':=s2.toks) .nil (zero_le _)
 generalize hA:s2.heap.push {cls:=.type "list",dict:=none,data:=.seq ([]:List Value).toArray}=hpA at hns hsb I3⊢;have hszA:hpA.objs.size=s2.heap.objs.size+1:=by rw[←hA,size_push]
 have keepA:∀b o,s2.heap.get? b=some o→hpA.get? b=some o:=λb o e=>by rw[←hA];exact get?_push_of_some _ e
 have f3:∀b∈fp,gE X pins (upd H2 s2.heap.objs.size (.lst [])) b:=λb hb=>⟨by rw[aj (ne_of_lt (hfp b hb))];exact(f2 b hb).1,(f2 b hb).2⟩;have hfp3:∀b∈fp,b<hpA.objs.size:=λb hb=>by rw[hszA];exact lt_succ_of_lt (hfp b hb)
 have keep1:∀b o,hpA.get? b=some o→h₁.get? b=some o:=λb o e=>hsb.extBut b o (ne_of_lt (lt_size e)) (get?_push_of_some _ e);have J0:=jr (N:=N) (k:=k) (js:=js) (tk:=s2.toks+([]:List (Str×Value)).length) I3 L f3 hfp3 ⟨_,hns⟩ keep1 hN hj;have st1:tn 0 h₁:=T.keep _ _ _ st2 λb hb o e=>keep1 b o (keepA b o e);have stat:∀{H':Hp},(∀b∈fp,H' b=none)→∀b∈fp,gE (dc X N scope cl {s2 with heap:=hpA} (upd H2 s2.heap.objs.size (.lst [])) fp) [] H' b:=λhn b hb =>
  ⟨hn b hb,ne_of_lt (hfp3 b hb),(pT (N:=N) I3 L f3 hfp3).exfs b hb,.inl hb,λx c h=>(f3 b hb).2.2.2.2.1 x c (L.cells x c h),λp hp=>absurd (show p∈([]:List (Addr×Obj))from hp) (by simp)⟩
 have loop:codeAny (model X.prog X.w) X.A (.compLoop (.ListComp elt [⟨tg,iter,[],0⟩] scope pos) 0 (.ref it) (.ref s2.heap.objs.size) (compEnvC scope cl hpA.objs.size X.env))
   (compPost (model X.prog X.w) X.A X.xe (some (assign (.Name y py) X.env)) (λ_ s'=>∃σ' H',Inv X pins σ' H' s'∧D.nx σ' H') (.ref s2.heap.objs.size) hpA.objs.size) {s2 with heap:=h₁,toks:=s2.toks+([]:List (Str×Value)).length}:=by
  refine pU (λn s'=>∃i ys σ' H',Inv (dc X N scope cl {s2 with heap:=hpA} (upd H2 s2.heap.objs.size (.lst [])) fp) [] σ' H' s'∧tn i s'.heap∧(∀b∈fp,H' b=none)∧W i n ys σ' H') ?_ m0 ⟨0,[],_,_,J0,st1,λb hb=>(f3 b hb).1,w0⟩
  rintro n s3 ⟨i,ys,σ3,H3,J3,st3,fr3,w3⟩;rcases turn i n ys σ3 H3 w3 with⟨stop,qn⟩|⟨go,hlen,step⟩
  ·refine thn (T.done (dc X N scope cl {s2 with heap:=hpA} (upd H2 s2.heap.objs.size (.lst [])) fp) rfl rfl rfl hc i [] s3 σ3 H3 (λ_ _=>False) J3 (stat fr3) st3 stop) λr s4 hpt=>?_
   obtain⟨hr,J4⟩:=hpt;subst hr;obtain⟨m,hm,_⟩:=J4.loc;have I4:Inv X pins σ H3 s4:=oy I3 f3 J4 (SameBut.refl _ _);obtain⟨f0,f1,f2,f3',f4,f5⟩:=I3.fpOk (b:=hpA.objs.size) (le_refl _) (H':=H3) J4.free;show wpAny _ _ (assign (.Name y py) X.env (.ref s2.heap.objs.size)) _ _ _;refine wpAny_assign_Name (kn I4 hXN hii hx (v:=.ref s2.heap.objs.size) rfl (λs5 I5 ⟨a,sb,ha⟩=>⟨m,hm.sameBut sb ?_,λh' hs'=>⟨_,H3,I5.turned (t':=s5.toks) (λb o hb e=>(hs'.2 b hb).trans e) f0 f1 f3' f4 f5,qn⟩⟩) hf);rcases ha with e|e
   ·rw[e];exact f1
   ·exact λz=>f4 _ _ e z.symm
  ·refine thn (T.item (dc X N scope cl {s2 with heap:=hpA} (upd H2 s2.heap.objs.size (.lst [])) fp) rfl rfl rfl hc i [] s3 σ3 H3 (λ_ _=>False) J3 (stat fr3) st3 go) λr s4 hpt=>?_
   obtain⟨u,hr,h4⟩:=hpt;subst hr;refine thn h4 λ_ s5 hpt=>?_;obtain⟨x,H5,J5,r5,y5,st5,fr5⟩:=hpt;have J5':=J5.pinned (stat fr5) (T.obj _ _ st5);refine thn (hg _ _ _ _ s5 σ3 H5 x u _ J5' r5 (step x H5 y5)) λ_ s6 hpt=>?_;obtain⟨σ6,H6,J6,q6⟩:=hpt;refine thn (he _ _ _ _ s6 σ6 H6 _ J6 q6) λy s7 hpt=>?_;obtain⟨vy,H7,J7,r7,q7,m',hm',w7⟩:=hpt;refine thn (ce _ s7 σ6 H7 (.ref s2.heap.objs.size) [vy] _ _ (λ_ H8=>H8=upd H7 s2.heap.objs.size (.lst (ys++[vy]))) J7 rfl (.cons r7 .nil) ⟨_,ys,vy,rfl,rfl,q7,hlen,rfl⟩) λ_ s8 hpt=>?_;obtain⟨_,H8,J8,_,e8⟩:=hpt;subst e8;refine⟨m',hm',i+1,ys++[vy],σ6,_,J8.unpinned,T.keep _ _ _ st5 λb hb o e=>(J8.pin (b,o) (mem_append_right _ (mem_append_right _ (bH hb e)))).1,λb hb=>?_,w7⟩;obtain⟨o,e,d⟩:=T.obj _ _ st5 b hb;exact(J8.pin (b,o) (mem_append_right _ (mem_append_right _ (bH hb e)))).2.1
 exact codeAny_compStart_list loop (T.self _ 0 _ _ _ st1 loop)
end
abbrev TJ:=St→Hp→(Hp→Prop)→Prop
section
variable{X:Cx}{tg:Expr}
def PJ(X:Cx)(ps:List Expr)(b:Nat)(t:TJ):Prop :=
 ∀(out:Str)(pins:List (Addr×Obj))(s:Shared)(σ:St)(H:Hp)(Q:VK),Inv X pins σ H s→out.length+b≤1000→(t σ H λH1=>∀y,Q (.str y) H1)→wpAny (model X.prog X.w) X.A (joinParts out (evalEach ps X.env)) (EP X pins σ Q) X.xe s
theorem jA:PJ X [] 0 (λσ H k=>k H):=by
 intro out pins s σ H Q I hb h;exact joinParts_nilE (joinParts_nil ⟨.str _,H,I.tok _,⟨_,rfl⟩,h _⟩ (le_of_lt (ay (by omega))))
theorem dO{x:Str}{c b:Nat}{j:Nat}{p:Pos}{ps:List Expr}{t:TJ}(hx:x.length≤c)(h:PJ X ps b t):PJ X (.Constant (.str x) j p::ps) (c+b) t:=by
 intro out pins s σ H Q I hb hq;refine joinParts_cons (Constant_str ?_);have hl:(out++x).length=out.length+x.length:=strLen_append ..;exact⟨le_of_lt (ay (by omega)),h _ pins _ σ H Q (I.tok _) (by omega) hq⟩
theorem jB{e:Expr}{te:TE}{b:Nat}{p:Pos}{ps:List Expr}{t:TJ}(he:PE X e te)(h:PJ X ps b t):PJ X (.FormattedValue e (-1) none p::ps) (100+b) (λσ H k=>te σ H λv H1=>∃i:Int,v=.int i∧0≤i∧i≤60∧t σ H1 k):=by
 intro out pins s σ H Q I hb hq;refine joinParts_cons (FormattedValue_plain (thn (he pins _ σ H _ I hq) λv s1 hpt=>?_));obtain⟨y,H1,I1,r1,q1⟩:=hpt;obtain⟨i,rfl,h0,h1,q⟩:=q1;obtain⟨tk,rfl⟩:=r1;have h2:=jx i h0 h1;have hl:(out++ofString (toString i)).length=out.length+(ofString (toString i)).length:=strLen_append ..;refine formatField_int_small (lt_of_le_of_lt (Nat.log2_le_self _) (by omega)) ⟨le_of_lt (ay (by omega)),?_⟩;exact h _ pins _ σ H1 Q (I1.tok _) (by omega) q
theorem wZ{e:Expr}{te:TE}{b:Nat}{p:Pos}{ps:List Expr}{t:TJ}(he:PE X e te)(h:PJ X ps b t):PJ X (.FormattedValue e (-1) none p::ps) (100+b) (λσ H k=>te σ H λv H1=>∃x:Str,v=.str x∧x.length≤100∧t σ H1 k):=by
 intro out pins s σ H Q I hb hq;refine joinParts_cons (FormattedValue_plain (thn (he pins _ σ H _ I hq) λv s1 hpt=>?_));obtain⟨y,H1,I1,r1,q1⟩:=hpt;obtain⟨x,rfl,h2,q⟩:=q1;obtain⟨tk,rfl⟩:=r1;have hl:(out++x).length=out.length+x.length:=strLen_append ..;refine formatField_str (λt' tk=>⟨le_of_lt (ay (by omega)),?_⟩) (le_of_lt (ay (by omega)));exact h _ pins _ σ H1 Q (I1.tok _) (by omega) q
def yK(t:TJ):TE:=λσ H Q=>t σ H λH1=>∀y,Q (.str y) H1
theorem ia{p1 p2:Expr}{ps:List Expr}{pos:Pos}{b:Nat}{t:TJ}(h:PJ X (p1::p2::ps) b t)(hb:b≤1000):PE X (.JoinedStr (p1::p2::ps) pos) (yK t):=by
 intro pins s σ H Q I hq;exact JoinedStr_many (h empty pins s σ H Q I (by show 0+b≤1000;omega) hq)
theorem zL{E:XK}(L:Lv X E):PassesOwn (model X.prog X.w) X.A X.env X.xe:=by
 rw[L.xe];exact PassesOwn.leaving
def iDK(td:TE):TI:=λσ H R=>td σ H λv H1=>∃d kvs,v=.ref d∧H1 d=some (.dK kvs)∧∀o,R (Itk d o (.dK kvs) (kvs.map λp=>kV p.1)) (upd H1 d (.frz o (.dK kvs)))
theorem wj{l:Expr}{tl:TE}(hl:PE X l tl):PI X tg l (iDK tl):=by
 intro pins s σ H R I h;refine thn (hl pins s σ H _ I h) λv s1 hpt=>?_;obtain⟨x,H1,I1,r1,q1⟩:=hpt;obtain⟨d,kvs,e,hH,q⟩:=q1;subst e;cases r1;obtain⟨hz,hsm,vs,rel,o,es,ep,ho,hx,hd,hk,hp,hn⟩:=I1.hok d _ hH;have I2:Inv X pins σ (upd H1 d (.frz o (.dK kvs))) s1:=I1.write (t':=s1.toks) (x:=d) (e:=d) (by rw[hH];trivial) (.inl rfl) (λ_ _ _ q=>q) ⟨o,ho⟩ ⟨ho,hz,hsm,vs,rel,o,es,ep,ho,hx,hd,hk,hp,hn⟩;refine sR hsm ⟨o,ho,hx,hd⟩ ?_;refine⟨s1.heap.objs.size,[s1.heap.objs.size],_,_,upd H1 d (.frz o (.dK kvs)),rfl,I2.kept (t':=s1.toks) λb o e=>get?_push_of_some _ e,rj hx hd ?_,⟨_,get?_push_size _ rfl,rfl,rfl⟩,λb hb=>?_,q o⟩
 ·have key:∀(es:List DictEntry)(vs:List (Key×Value))(kvs:List (Key×V)),Pairs (aR X.prog X.w) es vs→KV kvs vs→aH (kvs.map λp=>kV p.1) (es.map (·.key)):=by
   intro es vs kvs hp
   induction hp generalizing kvs with
   |nil=>intro r;cases r;exact .nil
   |cons h1 h2 _ ih =>
    intro r;cases r with
    |cons r1 r2 =>
     refine .cons ?_ (ih _ r2);dsimp only;rw[r1.1];rcases bd h1 with⟨i,t,e1,e2⟩|⟨x,t,e1,e2⟩
     ·rw[e1,e2];exact⟨t,rfl⟩
     ·rw[e1,e2];exact⟨t,rfl⟩
  exact key _ _ _ hp rel
 ·have e:b=s1.heap.objs.size:=by simpa using hb
  subst e;exact I2.fpOk (le_refl _) (I2.hok.fresh (le_refl _))
theorem oG(hu:X.A.units+1<cLine):OpR X (compareOp .In) (λx y H Q=>∃a p ks,∃kss:List (Addr×List Key),x=.ref a∧H a=some (.tup (ks.map kV))∧y=.ref p∧SqL X.K H p ((kss.map (·.1)).map V.ref) ∧
  (∀z∈kss,H z.1=some (.tup (z.2.map kV)))∧Q (.bl (kss.any λz=>decide (z.2=ks))) H):=by
 intro pins s σ H x y v u Q I rx ry h;obtain⟨a,p,ks,kss,rfl,ha,rfl,hq,hk,q⟩:=h;cases rx;cases ry;obtain⟨its,rv,pl,hz⟩:=I.list hq;have e:=dv rv;subst e
 let e:Value→Bool:=λv=>match v with | .ref b=>((kss.find? λz=>z.1==b).map λz=>decide (z.2=ks)).getD false | _=>false
 have he:∀z∈kss,e (.ref z.1)=decide (z.2=ks):=λz hz'=>by
  show((kss.find? λy=>y.1==z.1).map λz=>decide (z.2=ks)).getD false=_;cases ef:kss.find? λy=>y.1==z.1 with
  |none=>have:=List.find?_eq_none.mp ef z hz';simp at this
  |some y =>
   have h1:=List.find?_some ef;have h2:=List.mem_of_find?_eq_some ef;have e1:y.1=z.1:=by simpa using h1
   have e2:=hk y h2;rw[e1,hk z hz']at e2;have e3:z.2.map kV=y.2.map kV:=by injection (Option.some.inj e2)
   rw[lD e3];rfl
 refine in_listAt e pl.isList (λy hy=>?_) ⟨.bl _,H,I,rfl,?_⟩
 ·have hy':y∈(kss.map (·.1)).map Value.ref:=by simpa using hy
  obtain⟨b,hb,rfl⟩:=mem_map.mp hy';obtain⟨z,hz',rfl⟩:=mem_map.mp hb;rw[he z hz'];intro prog w E' Q' hQ;exact wpAny_eqBool_tuple (knd:=aR prog w) (by simp;exact hu) (uT I (hk z hz') prog w) (uT I ha prog w) hQ
 ·have e1:(((kss.map (·.1)).map Value.ref).toArray.any e)=kss.any λz=>decide (z.2=ks):=by
   rw[List.any_toArray,any_map,any_map];apply Bool.eq_iff_iff.mpr;rw[any_eq_true,any_eq_true];constructor
   ·rintro⟨z,hz',h1⟩;exact⟨z,hz',by rw[←he z hz'];exact h1⟩
   ·rintro⟨z,hz',h1⟩;exact⟨z,hz',by show e (.ref z.1)=true;rw[he z hz'];exact h1⟩
  rw[e1];exact q
end
theorem Same.seqT{K:PySem.W.Frag}{H H':Hp}{a:Addr}{xs:List V}(e:Same H H')(h:SqT K H a xs):SqT K H' a xs:=by
 rcases h with (h|⟨o,h⟩)|h
 ·exact .inl (.inl (e _ _ h))
 ·exact .inl (.inr ⟨o,e _ _ h⟩)
 ·exact .inr h
structure Src(J:It)(H1:Hp)(xs:List V):Prop where
 go:∀i H',i<xs.length→Same H1 H'→J.go i H'
 stop:∀H',Same H1 H'→J.stop xs.length H'
 yl:∀i H' x H2,i<xs.length→Same H1 H'→J.yld i H' x H2→H2=H'∧xs[i]?=some x
theorem ib{K:PySem.W.Frag}{a:Addr}{xs:List V}{H1:Hp}(h:SqT K H1 a xs):Src (Itt K a) H1 xs :=
 ⟨λi H' hi s=>⟨xs,xs[i],s.seqT h,getElem?_eq_getElem hi⟩,λH' s=>⟨xs,s.seqT h,le_refl _⟩,λi H' x H2 _ s ⟨e,y⟩=>⟨e,y xs (by subst e;exact s.seqT h)⟩⟩
theorem lL{K:PySem.W.Frag}{a:Addr}{xs:List V}{H1:Hp}(h:SqL K H1 a xs):Src (Itl K a) H1 xs :=
 ⟨λi H' hi s=>⟨xs,xs[i],s.seq h,getElem?_eq_getElem hi⟩,λH' s=>⟨xs,s.seq h,le_refl _⟩,λi H' x H2 _ s ⟨e,y⟩=>⟨e,y xs (by subst e;exact s.seq h)⟩⟩
theorem nz{d:Addr}{o:Obj}{u:HO}{ks:List V}{H1:Hp}(h:H1 d=some (.frz o u)):Src (Itk d o u ks) H1 ks :=
 ⟨λi H' hi s=>⟨s _ _ h,hi⟩,λH' s=>⟨s _ _ h,le_refl _⟩,λi H' x H2 _ s ⟨e,y⟩=>⟨e,y⟩⟩
theorem Paired.snoc{α β:Type}{R:α→β→Prop}:∀{as:List α}{bs:List β}{a:α}{b:β},Paired R as bs→R a b→Paired R (as++[a]) (bs++[b])
 |_,_,_,_,.nil,h=>.cons h .nil
 |_,_,_,_,.cons r t,h=>.cons r (Paired.snoc t h)
theorem lM{α:Type}{js:List Nat}{J:It}{tc:TT}{te:TE}{σ:St}{H1:Hp}{Q:VK}{p:Addr}{fr:List (Option V)}(zs:List α)(val:α→V)(hn:zs.length≤1000)(hp:H1 p=none)(S:Src J H1 (zs.map val))(hfr:dm 1 js σ=none::fr)(g:α→Bool)(R:α→V→Hp→Prop)(hR:∀z y H H',R z y H→Ext p H H'→R z y H')(cond:∀z H' (k:Bool→Hp→Prop),z∈zs→Same H1 H'→(∃ys,H' p=some (.lst ys))→(∀H4,Same H' H4→k (g z) H4)→tc (some (val z)::fr) H' k)(elt:∀z H' (k:VK),z∈zs→g z=true→Same H1 H'→(∃ys,H' p=some (.lst ys))→(∀y H4,Same H' H4→R z y H4→k y H4)→te (some (val z)::fr) H' k)(fin:∀ys H',Same H1 H'→H' p=some (.lst ys)→Paired (λz y=>R z y H') (zs.filter g) ys→Q (.ref p) H'):yG 1 js (cw 0) tc te σ Q J H1 p:=by
 have grow:∀{as:List α}{ys:List V}{H H':Hp},Ext p H H'→Paired (λz y=>R z y H) as ys→Paired (λz y=>R z y H') as ys:=λex r=>Paired.mapP r λa b h=>hR a b _ _ h ex;have hlen:∀{as:List α}{ys:List V}{H:Hp},Paired (λz y=>R z y H) as ys→ys.length=as.length:=λr=>(Paired.length r).symm;refine⟨λi m ys σ' H'=>m=zs.length-i∧i≤zs.length∧(∃o,σ'=o::fr)∧Same H1 H'∧H' p=some (.lst ys)∧Paired (λz y=>R z y H') ((zs.take i).filter g) ys,⟨zs.length,by simp,zero_le _,⟨none,hfr⟩,ae hp,ac,.nil⟩,?_⟩;rintro i m ys σ' H' ⟨rfl,hi,⟨o,rfl⟩,s1,hl,hys⟩
 by_cases hlt:i<zs.length
 ·have hlt':i<(zs.map val).length:=by rw[length_map];exact hlt
  refine .inr ⟨S.go i H' hlt' s1,?_,λx H2 hy=>?_⟩
  ·have h1:ys.length≤zs.length:=by
    rw[hlen hys];exact le_trans (length_filter_le _ _) (by rw[length_take];omega)
   exact lt_of_le_of_lt h1 (ay hn)
  ·obtain⟨rfl,hx⟩:=S.yl i H' x H2 hlt' s1 hy;have gz:zs[i]?=some zs[i]:=getElem?_eq_getElem hlt;have mz:=mem_of_getElem? gz;rw[getElem?_map,gz]at hx;have ex:val zs[i]=x:=Option.some.inj hx;have et:zs.take (i+1)=zs.take i++[zs[i]]:=dw gz;subst ex;generalize zs[i]=z at gz mz et⊢;refine cond z H2 _ mz s1 ⟨ys,hl⟩ λH4 s4=>?_;cases hb:g z with
   |true =>
    rw[if_pos rfl];refine elt z H4 _ mz hb (s1.trans s4) ⟨ys,s4 _ _ hl⟩ λy H5 s5 r5=>⟨s5 _ _ (s4 _ _ hl),zs.length-(i+1),by omega,rfl,hlt,⟨_,rfl⟩,aL hp ((s1.trans s4).trans s5),ac,?_⟩;rw[et,List.filter_append,filter_cons_of_pos hb];exact Paired.snoc (grow ((Ext.of (s4.trans s5)).trans Ext.upd) hys) (hR _ _ _ _ r5 Ext.upd)
   |false =>
    rw[if_neg (by simp)];refine⟨zs.length-(i+1),by omega,rfl,hlt,⟨_,rfl⟩,s1.trans s4,s4 _ _ hl,?_⟩;rw[et,List.filter_append,filter_cons_of_neg (by simp[hb]),List.filter_nil,append_nil];exact grow (Ext.of s4) hys
 ·have e:i=zs.length:=by omega
  subst e;have st:=S.stop H' s1;rw[length_map]at st;refine .inl ⟨st,fin ys H' s1 hl ?_⟩;rw[take_length]at hys;exact hys
theorem gl{α:Type}{js:List Nat}{J:It}{te:TE}{σ:St}{H1:Hp}{Q:VK}{p:Addr}{fr:List (Option V)}(zs:List α)(val:α→V)(hn:zs.length≤1000)(hp:H1 p=none)(S:Src J H1 (zs.map val))(hfr:dm 1 js σ=none::fr)(R:α→V→Hp→Prop)(hR:∀z y H H',R z y H→Ext p H H'→R z y H')(elt:∀z H' (k:VK),z∈zs→Same H1 H'→(∃ys,H' p=some (.lst ys))→(∀y H4,Same H' H4→R z y H4→k y H4)→te (some (val z)::fr) H' k)(fin:∀ys H',Same H1 H'→H' p=some (.lst ys)→Paired (λz y=>R z y H') zs ys→Q (.ref p) H'):LcW 1 js (cw 0) te σ Q J H1 p:=by
 have grow:∀{as:List α}{ys:List V}{H H':Hp},Ext p H H'→Paired (λz y=>R z y H) as ys→Paired (λz y=>R z y H') as ys:=λex r=>Paired.mapP r λa b h=>hR a b _ _ h ex;have hlen:∀{as:List α}{ys:List V}{H:Hp},Paired (λz y=>R z y H) as ys→ys.length=as.length:=λr=>(Paired.length r).symm;refine⟨λi m ys σ' H'=>m=zs.length-i∧i≤zs.length∧(∃o,σ'=o::fr)∧Same H1 H'∧H' p=some (.lst ys)∧Paired (λz y=>R z y H') (zs.take i) ys,⟨zs.length,by simp,zero_le _,⟨none,hfr⟩,ae hp,ac,.nil⟩,?_⟩;rintro i m ys σ' H' ⟨rfl,hi,⟨o,rfl⟩,s1,hl,hys⟩
 by_cases hlt:i<zs.length
 ·have hlt':i<(zs.map val).length:=by rw[length_map];exact hlt
  refine .inr ⟨S.go i H' hlt' s1,?_,λx H2 hy=>?_⟩
  ·have h1:ys.length≤zs.length:=by
    rw[hlen hys,length_take];omega
   exact lt_of_le_of_lt h1 (ay hn)
  ·obtain⟨rfl,hx⟩:=S.yl i H' x H2 hlt' s1 hy;have gz:zs[i]?=some zs[i]:=getElem?_eq_getElem hlt;have mz:=mem_of_getElem? gz;rw[getElem?_map,gz]at hx;have ex:val zs[i]=x:=Option.some.inj hx;have et:zs.take (i+1)=zs.take i++[zs[i]]:=dw gz;subst ex;generalize zs[i]=z at gz mz et⊢;refine elt z H2 _ mz s1 ⟨ys,hl⟩ λy H5 s5 r5=>⟨s5 _ _ hl,zs.length-(i+1),by omega,rfl,hlt,⟨_,rfl⟩,aL hp (s1.trans s5),ac,?_⟩;rw[et];exact Paired.snoc (grow ((Ext.of s5).trans Ext.upd) hys) (hR _ _ _ _ r5 Ext.upd)
 ·have e:i=zs.length:=by omega
  subst e;have st:=S.stop H' s1;rw[length_map]at st;refine .inl ⟨st,fin ys H' s1 hl ?_⟩;rw[take_length]at hys;exact hys
theorem gm{α β:Type}{R:α→V→Prop}{val:β→V}{S:α→β→Prop}{zs:List α}{ys:List V}(h:Paired R zs ys)(f:∀z y,z∈zs→R z y→∃b,y=val b∧S z b):
  ∃bs:List (α×β),bs.map (·.1)=zs∧ys=bs.map (λx=>val x.2)∧∀x∈bs,S x.1 x.2:=by
 induction h with
 |nil=>exact⟨[],rfl,rfl,by simp⟩
 |@cons a y as bs r _ ih =>
  obtain⟨cs,e1,e2,e3⟩:=ih λz y hz=>f z y (by simp[hz]);obtain⟨b,e,s⟩:=f _ _ (by simp) r;refine⟨(a,b)::cs,by rw[map_cons,e1],by rw[map_cons,←e2,e],λx hx=>?_⟩;rcases mem_cons.mp hx with rfl|hx
  ·exact s
  ·exact e3 x hx
theorem cS{α:Type}{R:α→V→Prop}{f:α→V}{zs:List α}{ys:List V}(h:Paired R zs ys)(hf:∀z y,z∈zs→R z y→y=f z):ys=zs.map f:=by
 induction h with
 |nil=>rfl
 |cons r _ ih=>rw[map_cons,←ih λz y hz=>hf z y (by simp[hz]),hf _ _ (by simp) r]
theorem vc(p:Int)(ms:List Int):inV (.int p) (ms.map V.int)=decide (p∈ms):=by
 unfold inV;rw[any_map,Bool.eq_iff_iff,any_eq_true,decide_eq_true_eq];constructor
 ·rintro⟨x,hx,e⟩;have:x=p:=by simpa [eqV]using e
  rw[←this];exact hx
 ·intro h;exact⟨p,h,by simp[eqV]⟩
theorem ro(ms:List Int):(ms.map V.int).all cQ=true:=by
 rw[all_map,all_eq_true];intro x _;rfl
theorem nA{X:Cx}:cG (CX1 X.prog X.w) X E0:=λ_ _ _ _ _ _ _ ⟨_,_,_,_,_,h⟩=>h.elim
theorem Inv.thaw{X:Cx}{pins:List (Addr×Obj)}{σ:St}{H:Hp}{s:Shared}{d:Addr}{o:Obj}{kvs:List (Key×V)}(I:Inv X pins σ H s)(h:H d=some (.frz o (.dK kvs)))(h0:X.H₀ d=none):Inv X pins σ (upd H d (.dK kvs)) s:=by
 have nd:∀b u,H b=some u→(∀o' u',u≠.frz o' u')→b≠d:=λb u e hn z=>by
  subst z;rw[h]at e;cases e;exact hn _ _ rfl
 have nn:∀b,H b=none→b≠d:=λb e z=>by
  subst z;rw[h]at e;cases e
 refine⟨I.ok,I.os,I.bare,⟨I.base.keep,I.base.slot,λb o e n hx=>?_,I.base.there,λb xs e=>?_,λb o' u e=>?_,λb ps e=>?_⟩,I.loc,I.cell,?_,λx c e=>?_,λp hp=>?_,λb u e=>?_,I.len⟩
 ·have:=I.base.free b o e n hx;rw[aj (nn b this)];exact this
 ·have:=I.base.tups b xs e;rw[aj (nd b _ this λ_ _ z=>by cases z)];exact this
 ·have hb:b≠d:=λz=>by subst z;rw[h0]at e;cases e
  rw[aj hb];exact I.base.frzs b o' u e
 ·obtain⟨m,this⟩:=I.base.tbls b ps e;exact⟨m,by rw[aj (nd b _ this λ_ _ z=>by cases z)];exact this⟩
 ·rw[aj (nn _ I.free)];exact I.free
 ·rw[aj (nn _ (I.freeC x c e))];exact I.freeC x c e
 ·obtain⟨e,n,r⟩:=I.pin p hp;exact⟨e,by rw[aj (nn _ n)];exact n,r⟩
 ·by_cases hb:b=d
  ·subst hb;rw[ac]at e;cases e;obtain⟨_,q⟩:=I.hok b _ h;exact q
  ·rw[aj hb]at e;exact(I.hok b u e).stay (λ_ _ _ q=>q) (λc q=>by rw[aj (nd c _ q λ_ _ z=>by cases z)];exact q) λc xs q=>by rw[aj (nd c _ q λ_ _ z=>by cases z)];exact q
def yL(H₀:Hp)(t:TS):TS:=λD σ H=>∃d o kvs,H₀ d=none∧H d=some (.frz o (.dK kvs))∧t D σ (upd H d (.dK kvs))
theorem vd{X:Cx}{st:Stmt}{t:TS}(hs:PS X st t):PS X st (yL X.H₀ t):=λpins s σ H D I ⟨d,o,kvs,h0,h,ht⟩=>hs pins s σ _ D (I.thaw h h0) ht
end L2
namespace TW
structure Nd(S:Type) where
 num:Int
 par:Int
 nm:S
 st:Option Int
section
variable{S:Type}
inductive Reach(ns:List (Nd S))(f:Int):Nd S→Prop where
 |base {n:Nd S}:n∈ns→n.par=f→Reach ns f n
 |step {m n:Nd S}:Reach ns f m→m.st=none→n∈ns→n.par=m.num→Reach ns f n
theorem Reach.mem{ns:List (Nd S)}{f:Int}{n:Nd S}(h:Reach ns f n):n∈ns:=by
 cases h<;>assumption
theorem Reach.mono{ns ms:List (Nd S)}{f:Int}{n:Nd S}(h:Reach ns f n)(hs:∀x∈ns,x∈ms):Reach ms f n:=by
 induction h with
 |base hm hp=>exact .base (hs _ hm) hp
 |step _ hf hm hp ih=>exact .step ih hf (hs _ hm) hp
def inside(ns:List (Nd S))(k:Int):List (Nd S):=ns.filter λn=>decide (n.par=k)
def fe(dn:List Int)(n:Nd S):Bool:=decide (n.par∈dn)
structure Walk(ns:List (Nd S))(f:Int)(dn:List Int)(fd:List (Nd S))(pd:List Int):Prop where
 perm:fd.Perm (ns.filter (fe dn))
 reach:∀n∈fd,Reach ns f n
 cover:∀k,(k∈pd∨k∈dn)↔(k=f∨∃m∈fd,m.st=none∧m.num=k)
theorem Walk.start(ns:List (Nd S))(f:Int):Walk ns f [] [] [f]:=by
 refine⟨?_,by simp,λk=>by simp⟩;have e:ns.filter (fe [])=[]:=by
  rw[List.filter_eq_nil_iff];intro a _;simp[fe]
 rw[e]
theorem fH{α:Type}(p q:α→Bool)(hd:∀x,p x=true→q x=true→False):∀l:List α,
  (l.filter p++l.filter q).Perm (l.filter λx=>p x||q x)
 |[]=>by simp
 |x::l=>by
  have ih:=fH p q hd l;cases hp:p x with
  |true =>
   have hq:q x=false:=by
    cases h:q x with
    |false=>rfl
    |true=>exact(hd x hp h).elim
   rw[filter_cons_of_pos hp,filter_cons_of_neg (by simp[hq]),filter_cons_of_pos (by simp[hp])];exact List.Perm.cons x ih
  |false =>
   cases hq:q x with
   |true =>
    rw[filter_cons_of_neg (by simp[hp]),filter_cons_of_pos hq,filter_cons_of_pos (by simp[hq])];exact List.perm_middle.trans (List.Perm.cons x ih)
   |false =>
    rw[filter_cons_of_neg (by simp[hp]),filter_cons_of_neg (by simp[hq]),filter_cons_of_neg (by simp[hp,hq])];exact ih
def here(ns:List (Nd S))(dn:List Int)(x:Int):List (Nd S):=if x∈dn then []else inside ns x
def aT(l:List (Nd S)):List Int:=(l.filter λn=>n.st.isNone).map (·.num)
theorem iM{l:List (Nd S)}{k:Int}:k∈aT l↔∃m∈l,m.st=none∧m.num=k:=by
 unfold aT;rw[mem_map];constructor
 ·rintro⟨m,hm,e⟩;rw[mem_filter]at hm;exact⟨m,hm.1,by simpa using hm.2,e⟩
 ·rintro⟨m,hm,h,e⟩;exact⟨m,mem_filter.mpr ⟨hm,by simp[h]⟩,e⟩
theorem Walk.turn{ns:List (Nd S)}{f x:Int}{dn:List Int}{fd:List (Nd S)}{pd:List Int}(w:Walk ns f dn fd (pd++[x])):
  Walk ns f (x::dn) (fd++here ns dn x) (pd++aT (here ns dn x)):=by
 have hx:=(w.cover x).mp (.inl (by simp))
 by_cases hd:x∈dn
 ·have eh:here ns dn x=[]:=by unfold here;rw[if_pos hd]
  rw[eh];refine⟨?_,by simpa using w.reach,λk=>?_⟩
  ·have e:ns.filter (fe (x::dn))=ns.filter (fe dn):=by
    apply filter_congr;intro n _;simp only[fe,mem_cons,decide_eq_decide];constructor
    ·rintro(h|h)
     ·rw[h];exact hd
     ·exact h
    ·exact .inr
   rw[e,append_nil];exact w.perm
  ·have c:=w.cover k;rw[append_nil,←c];simp only[aT,List.filter_nil,map_nil,append_nil,mem_append,mem_cons,not_mem_nil,or_false];constructor
   ·rintro(h|h|h)
    ·exact .inl (.inl h)
    ·exact .inl (.inr h)
    ·exact .inr h
   ·rintro((h|h)|h)
    ·exact .inl h
    ·exact .inr (.inl h)
    ·exact .inr (.inr h)
 ·have eh:here ns dn x=inside ns x:=by unfold here;rw[if_neg hd]
  rw[eh];refine⟨?_,λn hn=>?_,λk=>?_⟩
  ·have e:ns.filter (fe (x::dn))=ns.filter λn=>fe dn n||decide (n.par=x):=by
    apply filter_congr;intro n _;rw[Bool.eq_iff_iff];simp only[fe,mem_cons,decide_eq_true_eq,Bool.or_eq_true];constructor
    ·rintro(h|h)
     ·exact .inr h
     ·exact .inl h
    ·rintro(h|h)
     ·exact .inr h
     ·exact .inl h
   rw[e];refine(List.Perm.append_right _ w.perm).trans (fH _ _ (λy h1 h2=>?_) ns);simp only[fe,decide_eq_true_eq]at h1 h2;rw[h2]at h1;exact hd h1
  ·rcases mem_append.mp hn with h|h
   ·exact w.reach n h
   ·unfold inside at h;rw[mem_filter]at h;obtain⟨hm,hp⟩:=h;simp only[decide_eq_true_eq]at hp;rcases hx with e|⟨m,hm',hf,e⟩
    ·exact .base hm (hp.trans e)
    ·exact .step (w.reach m hm') hf hm (hp.trans e.symm)
  ·have c:=w.cover k;simp only[mem_append,mem_cons,not_mem_nil,or_false]at c⊢;rw[iM];constructor
   ·rintro((h|⟨m,hm,h1,h2⟩)|h|h)
    ·rcases c.mp (.inl (.inl h))with e|⟨m,hm,z⟩
     ·exact .inl e
     ·exact .inr ⟨m,.inl hm,z⟩
    ·exact .inr ⟨m,.inr hm,h1,h2⟩
    ·rcases c.mp (.inl (.inr h))with e|⟨m,hm,z⟩
     ·exact .inl e
     ·exact .inr ⟨m,.inl hm,z⟩
    ·rcases c.mp (.inr h)with e|⟨m,hm,z⟩
     ·exact .inl e
     ·exact .inr ⟨m,.inl hm,z⟩
   ·rintro(e|⟨m,hm|hm,z⟩)
    ·rcases c.mpr (.inl e)with (h|h)|h
     ·exact .inl (.inl h)
     ·exact .inr (.inl h)
     ·exact .inr (.inr h)
    ·rcases c.mpr (.inr ⟨m,hm,z⟩)with (h|h)|h
     ·exact .inl (.inl h)
     ·exact .inr (.inl h)
     ·exact .inr (.inr h)
    ·exact .inl (.inr ⟨m,hm,z⟩)
theorem Walk.len{ns:List (Nd S)}{f:Int}{dn:List Int}{fd:List (Nd S)}{pd:List Int}(w:Walk ns f dn fd pd):fd.length≤ns.length:=by
 rw[w.perm.length_eq];exact length_filter_le _ _
theorem dM(l:List (Nd S)):(aT l).length≤l.length:=by
 unfold aT;rw[length_map];exact length_filter_le _ _
theorem Walk.mem{ns:List (Nd S)}{f:Int}{dn:List Int}{fd:List (Nd S)}(w:Walk ns f dn fd [])(n:Nd S):n∈fd↔Reach ns f n:=by
 constructor
 ·exact w.reach n
 ·have cov:∀k,(k=f∨∃m∈fd,m.st=none∧m.num=k)→k∈dn:=λk h=>by
   rcases (w.cover k).mpr h with z|z
   ·simp at z
   ·exact z
  have back:∀x,x∈ns→x.par∈dn→x∈fd:=λx hx hp=>w.perm.mem_iff.mpr (mem_filter.mpr ⟨hx,by simp[fe,hp]⟩);intro h
  induction h with
  |base hm hp=>exact back _ hm (cov _ (.inl hp))
  |step _ hf hm hp ih=>exact back _ hm (cov _ (.inr ⟨_,ih,hf,hp.symm⟩))
def cX(ns:List (Nd S)):Prop:=ns.Pairwise λa b=>a.num<b.num
def eR(ns:List (Nd S)):Prop:=(ns.map λn=>(n.par,n.nm)).Nodup
structure Tree(ns:List (Nd S)):Prop where
 rise:cX ns
 own:eR ns
 down:∀n∈ns,Reach ns 0 n
inductive Built:List (Nd S)→Prop where
 |nil:Built []
 |snoc {l:List (Nd S)} {n:Nd S}:Built l→(n.par=0∨∃m∈l,m.st=none∧m.num=n.par)→Built (l++[n])
theorem Built.down{l:List (Nd S)}(b:Built l):∀n∈l,Reach l 0 n:=by
 induction b with
 |nil=>simp
 |@snoc l n b h ih =>
  intro x hx;have up:∀y∈l,y∈l++[n]:=λy hy=>mem_append_left _ hy;rcases mem_append.mp hx with hx|hx
  ·exact(ih x hx).mono up
  ·have e:x=n:=by simpa using hx
   subst e;rcases h with h|⟨m,hm,hf,he⟩
   ·exact .base (by simp) h
   ·exact .step ((ih m hm).mono up) hf (by simp) he.symm
theorem vf{l t:List (Nd S)}(b:Built l)(p:t.Perm l)(hr:t.Pairwise λa b=>a.num≤b.num)(hn:(l.map (·.num)).Nodup)(ho:eR l):Tree t:=by
 refine⟨?_,?_,λn hn'=>?_⟩
 ·have hn':(t.map (·.num)).Nodup:=((p.map _).nodup_iff).mpr hn;unfold Nodup at hn';rw[pairwise_map]at hn';unfold cX;exact hr.imp₂ (λa b h1 h2=>by omega) hn'
 ·unfold eR;exact((p.map _).nodup_iff).mpr ho
 ·exact(b.down n (p.mem_iff.mp hn')).mono λx hx=>p.mem_iff.mpr hx
theorem sY{t:List (Nd S)}(h:cX t){a b:Nd S}(ha:a∈t)(hb:b∈t)(e:a.num=b.num):a=b:=by
 unfold cX at h
 induction t with
 |nil=>simp at ha
 |cons x r ih =>
  rw[List.pairwise_cons]at h;rcases mem_cons.mp ha with ea|ha'
  ·rcases mem_cons.mp hb with eb|hb'
   ·rw[ea,eb]
   ·have:=h.1 b hb';rw[←ea]at this;omega
  ·rcases mem_cons.mp hb with eb|hb'
   ·have:=h.1 a ha';rw[←eb]at this;omega
   ·exact ih h.2 ha' hb'
end
end TW
namespace TW
section
variable{S:Type}
inductive PathTo(ns:List (Nd S)):Int→List S→Prop where
 |top:PathTo ns 0 []
 |node {n:Nd S} {p:List S}:n∈ns→PathTo ns n.par p→PathTo ns n.num (p++[n.nm])
structure Tree1(ns:List (Nd S)):Prop extends Tree ns where
 pos:∀n∈ns,1≤n.num
theorem Tree1.inj{ns:List (Nd S)}(T:Tree1 ns){a b:Nd S}(ha:a∈ns)(hb:b∈ns)(e:a.num=b.num):a=b:=sY T.rise ha hb e
theorem PathTo.zero{ns:List (Nd S)}(T:Tree1 ns){k:Int}{p:List S}(h:PathTo ns k p)(e:k=0):p=[]:=by
 cases h with
 |top=>rfl
 |@node n p hm _=>have:=T.pos n hm;omega
theorem PathTo.inv{ns:List (Nd S)}(T:Tree1 ns){k:Int}{p:List S}(h:PathTo ns k p){n:Nd S}(hn:n∈ns)(e:k=n.num):∃q,p=q++[n.nm]∧PathTo ns n.par q:=by
 cases h with
 |top=>have:=T.pos n hn;omega
 |@node m q hm hq =>
  have:m=n:=T.inj hm hn e;subst this;exact⟨q,rfl,hq⟩
theorem PathTo.uniq{ns:List (Nd S)}(T:Tree1 ns){k:Int}{p:List S}(h:PathTo ns k p):∀{q:List S},PathTo ns k q→p=q:=by
 induction h with
 |top=>intro q hq;exact(hq.zero T rfl).symm
 |@node n p hm _ ih =>
  intro q hq;obtain⟨q',e,hq'⟩:=hq.inv T hm rfl;rw[e,ih hq']
theorem PathTo.ex{ns:List (Nd S)}(T:Tree1 ns){n:Nd S}(hn:n∈ns):∃p,PathTo ns n.num p:=by
 have key:∀x,Reach ns 0 x→∃p,PathTo ns x.num p:=by
  intro x r
  induction r with
  |base hm hp=>exact⟨_,.node hm (by rw[hp];exact .top)⟩
  |step _ _ hm hp ih =>
   obtain⟨p,h⟩:=ih;exact⟨_,.node hm (by rw[hp];exact h)⟩
 exact key n (T.down n hn)
inductive Und(ns:List (Nd S))(g:Int):Int→Prop where
 |here:Und ns g g
 |up {n:Nd S}:n∈ns→Und ns g n.par→Und ns g n.num
theorem Und.zero{ns:List (Nd S)}(T:Tree1 ns){g k:Int}(h:Und ns g k)(e:k=0):g=0:=by
 cases h with
 |here=>exact e
 |@up n hm _=>have:=T.pos n hm;omega
theorem Und.inv{ns:List (Nd S)}(T:Tree1 ns){g k:Int}(h:Und ns g k){n:Nd S}(hn:n∈ns)(e:k=n.num)(hg:k≠g):Und ns g n.par:=by
 cases h with
 |here=>exact absurd rfl hg
 |@up m hm hu =>
  have:m=n:=T.inj hm hn e;subst this;exact hu
theorem kY{ns:List (Nd S)}(T:Tree1 ns){n:Nd S}(hn:n∈ns):n.par=0∨∃m∈ns,m.st=none∧m.num=n.par:=by
 have:=T.down n hn;cases this with
 |base _ hp=>exact .inl hp
 |@step m _ hr hf _ hp=>exact .inr ⟨m,hr.mem,hf,hp.symm⟩
theorem kZ{ns:List (Nd S)}(T:Tree1 ns){g:Int}{n:Nd S}(h:Reach ns g n):Und ns g n.num∧∃p q,PathTo ns n.num (p++q)∧q≠[]∧PathTo ns g p:=by
 induction h with
 |@base n hm hp =>
  obtain⟨p,h⟩:=PathTo.ex T hm;obtain⟨q,e,hq⟩:=h.inv T hm rfl;refine⟨.up hm (by rw[hp];exact .here),q,[n.nm],by rw[←e];exact h,by simp,by rw[←hp];exact hq⟩
 |@step m n hr hf hm hp ih =>
  obtain⟨hu,p,q,h1,h2,h3⟩:=ih;refine⟨.up hm (by rw[hp];exact hu),p,q++[n.nm],?_,by simp,h3⟩;rw[←append_assoc];exact .node hm (by rw[hp];exact h1)
theorem jC{ns:List (Nd S)}(T:Tree1 ns){g:Int}{n:Nd S}(h:Reach ns g n):n.num≠g:=by
 obtain⟨_,p,q,h1,h2,h3⟩:=kZ T h;intro e;rw[e]at h1;have:=h1.uniq T h3;have hl:=congrArg length this;rw[length_append]at hl;have:q.length≠0:=λz=>h2 (length_eq_zero_iff.mp z);omega
theorem rq{ns:List (Nd S)}(T:Tree1 ns){g:Int}(hg:1≤g):∀{k:Int}{p:List S},PathTo ns k p→∀{n:Nd S},n∈ns→k=n.num→Und ns g k→k≠g→Reach ns g n:=by
 intro k p h
 induction h with
 |top=>intro n hn e;have:=T.pos n hn;omega
 |@node m p hm hp ih =>
  intro n hn e hu hne;have:m=n:=T.inj hm hn e;subst this;have hu':=hu.inv T hm rfl hne
  by_cases hpg:m.par=g
  ·exact .base hm hpg
  ·rcases kY T hm with h0|⟨r,hr,hf,er⟩
   ·have:=hu'.zero T h0;omega
   ·exact .step (ih hr er.symm hu' hpg) hf hm er.symm
theorem eF{ns:List (Nd S)}(T:Tree1 ns){g:Int}(hg:1≤g){n:Nd S}(hn:n∈ns):Reach ns g n↔n.num≠g∧Und ns g n.num:=by
 constructor
 ·intro h;exact⟨jC T h,(kZ T h).1⟩
 ·rintro⟨h1,h2⟩;obtain⟨p,hp⟩:=PathTo.ex T hn;exact rq T hg hp hn rfl h2 h1
end
end TW
namespace TW
section
variable{S:Type}
theorem la{t:List (Nd S)}:cX t↔(t.map (·.num)).Pairwise (λa b:Int=>a<b):=by
 unfold cX;rw[pairwise_map]
def ic(t:List (Nd S))(p:Int):Prop:=p=0∨∃m∈t,m.st=none∧m.num=p
theorem made{t u:List (Nd S)}{n:Nd S}(T:Tree1 t)(hp:u.Perm (n::t))(hr:cX u)(h1:1≤n.num)(hf:ic t n.par)(ho:∀m∈t,¬(m.par=n.par∧m.nm=n.nm)):Tree1 u:=by
 have hm:∀x,x∈u↔x=n∨x∈t:=λx=>by rw[hp.mem_iff,mem_cons]
 have ht:∀x,x∈t→x∈u:=λx hx=>(hm x).mpr (.inr hx);refine⟨⟨hr,?_,λx hx=>?_⟩,λx hx=>?_⟩
 ·unfold eR;rw[(hp.map λn:Nd S=>(n.par,n.nm)).nodup_iff,map_cons,nodup_cons];refine⟨λhx=>?_,T.own⟩;obtain⟨m,h2,e⟩:=mem_map.mp hx;injection e with e1 e2
  exact ho m h2 ⟨e1,e2⟩
 ·rcases (hm x).mp hx with e|hx
  ·subst e;rcases hf with e|⟨m,h2,h3,e⟩
   ·exact .base hx e
   ·exact .step ((T.down m h2).mono ht) h3 hx e.symm
  ·exact(T.down x hx).mono ht
 ·rcases (hm x).mp hx with e|hx
  ·subst e;exact h1
  ·exact T.pos x hx
def put(z:Nd S)(m:Nd S):Nd S:=if m.num=z.num then z else m
theorem pX(z m:Nd S):(put z m).num=m.num:=by
 unfold put
 split
 ·rename_i h;exact h.symm
 ·rfl
theorem cr{z m:Nd S}(h:m.num≠z.num):put z m=m:=by unfold put;rw[if_neg h]
theorem eG{z m:Nd S}(h:m.num=z.num):put z m=z:=by unfold put;rw[if_pos h]
theorem sZ(z:Nd S)(t:List (Nd S)):(t.map (put z)).map (·.num)=t.map (·.num):=by
 rw[map_map];apply map_congr_left;intro m _;exact pX z m
theorem ie{z:Nd S}{t:List (Nd S)}(h:cX t):cX (t.map (put z)):=by
 rw[la,sZ,←la];exact h
theorem pY{z:Nd S}{t:List (Nd S)}(T:Tree1 t):∀n∈t.map (put z),1≤n.num:=λn hn=>by
 obtain⟨m,hm,rfl⟩:=mem_map.mp hn;rw[pX];exact T.pos m hm
theorem wrote{t:List (Nd S)}{y z:Nd S}(T:Tree1 t)(hy:y∈t)(e1:z.num=y.num)(e2:z.par=y.par)(e3:z.nm=y.nm)(hs:y.st≠none):Tree1 (t.map (put z)):=by
 have par:∀m∈t,(put z m).par=m.par∧(put z m).nm=m.nm:=λm hm=>by
  by_cases h:m.num=z.num
  ·have:m=y:=T.inj hm hy (h.trans e1);subst this;rw[eG h];exact⟨e2,e3⟩
  ·rw[cr h];exact⟨rfl,rfl⟩
 refine⟨⟨ie T.rise,?_,λn hn=>?_⟩,pY T⟩
 ·have:(t.map (put z)).map (λn=>(n.par,n.nm))=t.map (λn=>(n.par,n.nm)):=by
   rw[map_map];apply map_congr_left;intro m hm;show((put z m).par,(put z m).nm)=_;rw[(par m hm).1,(par m hm).2]
  unfold eR;rw[this];exact T.own
 ·obtain⟨m,hm,rfl⟩:=mem_map.mp hn;have key:∀x,Reach t 0 x→Reach (t.map (put z)) 0 (put z x):=by
   intro x r
   induction r with
   |@base x hx hp=>exact .base (mem_map.mpr ⟨x,hx,rfl⟩) (by rw[(par x hx).1];exact hp)
   |@step a x ra hf hx hp ih =>
    have ha:put z a=a:=cr λe=>hs (by rw[←T.inj ra.mem hy (e.trans e1)];exact hf);rw[ha]at ih;exact .step ih hf (mem_map.mpr ⟨x,hx,rfl⟩) (by rw[(par x hx).1];exact hp)
  exact key m (T.down m hm)
theorem lb{t:List (Nd S)}{k:Int}{n:Nd S}(r:Reach t 0 n)(h:¬Und t k n.num){u:List (Nd S)}(hu:∀x∈t,¬Und t k x.num→x∈u):Reach u 0 n:=by
 induction r with
 |@base n hm hp=>exact .base (hu n hm h) hp
 |@step m n rm hf hn hp ih=>exact .step (ih λhx=>h (.up hn (by rw[hp];exact hx))) hf (hu n hn h) hp
theorem dropped{t:List (Nd S)}{k:Int}(T:Tree1 t){p:Nd S→Bool}(hp:∀n∈t,p n=true↔¬Und t k n.num):Tree1 (t.filter p):=by
 refine⟨⟨T.rise.sublist filter_sublist,T.own.sublist (filter_sublist.map _),λn hn=>?_⟩,λn hn=>T.pos n (mem_filter.mp hn).1⟩;obtain⟨h1,h2⟩:=mem_filter.mp hn;exact lb (T.down n h1) ((hp n h1).mp h2) λx hx hu=>mem_filter.mpr ⟨hx,(hp x hx).mpr hu⟩
theorem moved{t:List (Nd S)}{y z:Nd S}(T:Tree1 t)(hy:y∈t)(e1:z.num=y.num)(e4:z.st=y.st)(hf:ic t z.par)(hi:z.par≠0→¬Und t y.num z.par)(ho:∀m∈t,m.num≠y.num→¬(m.par=z.par∧m.nm=z.nm)):Tree1 (t.map (put z)):=by
 have hz:z∈t.map (put z):=mem_map.mpr ⟨y,hy,eG e1.symm⟩;have other:∀m∈t,m.num≠y.num→m∈t.map (put z):=λm hm h=>mem_map.mpr ⟨m,hm,cr (by rw[e1];exact h)⟩;have free:∀n∈t,¬Und t y.num n.num→Reach (t.map (put z)) 0 n:=λn hn h=>lb (T.down n hn) h λx hx hu=>other x hx λe=>hu (by rw[e];exact .here);have rz:Reach (t.map (put z)) 0 z:=by
  rcases hf with e|⟨m,h2,h3,e⟩
  ·exact .base hz e
  ·have h0:z.par≠0:=λe'=>by have:=T.pos m h2;omega
   exact .step (free m h2 (by rw[e];exact hi h0)) h3 hz e.symm
 refine⟨⟨ie T.rise,?_,λn hn=>?_⟩,pY T⟩
 ·have h:=T.own;have hr:=T.rise;unfold eR cX Nodup at *;rw[pairwise_map]at h;rw[map_map,pairwise_map];have both:=h.and hr;refine both.imp_of_mem λ{a b} ha hb hab=>?_;obtain⟨h1,h2⟩:=hab;show((put z a).par,(put z a).nm)≠((put z b).par,(put z b).nm)
  by_cases ea:a.num=y.num
  ·have eb:b.num≠y.num:=by omega
   rw[eG (by rw[e1];exact ea),cr (by rw[e1];exact eb)];intro e;injection e with q1 q2
   exact ho b hb eb ⟨q1.symm,q2.symm⟩
  ·by_cases eb:b.num=y.num
   ·rw[eG (m:=b) (by rw[e1];exact eb),cr (by rw[e1];exact ea)];intro e;injection e with q1 q2
    exact ho a ha ea ⟨q1,q2⟩
   ·rw[cr (by rw[e1];exact ea),cr (by rw[e1];exact eb)];exact h1
 ·obtain⟨m,hm,rfl⟩:=mem_map.mp hn
  by_cases em:m.num=y.num
  ·rw[eG (by rw[e1];exact em)];exact rz
  ·rw[cr (by rw[e1];exact em)]
   by_cases hu:Und t y.num m.num
   ·have r:Reach t y.num m:=(eF T (T.pos y hy) hm).mpr ⟨em,hu⟩;clear hu em hm hn
    induction r with
    |@base n hn hp =>
     have hzs:z.st=none:=by
      rcases kY T hn with e|⟨a,ha,h3,e⟩
      ·have:=T.pos y hy;omega
      ·have:a=y:=T.inj ha hy (e.trans hp);subst this;rw[e4];exact h3
     have hne:n.num≠y.num:=jC T (.base hn hp);exact .step rz hzs (other n hn hne) (by rw[hp,e1])
    |@step a n ra hfa hn hp ih=>exact .step ih hfa (other n hn (jC T (.step ra hfa hn hp))) hp
   ·exact free m hm hu
end
end TW
namespace TW
section
variable{S:Type}
inductive Deed(S:Type) where
 |make (n p:Int) (nm:S) (st:Option Int)
 |write (n st:Int)
 |move (n p:Int) (nm:S)
 |drop (n:Int)
inductive Wd where
 |known|noNode|notFile|notFolder|inside|taken
def cK(t:List (Nd S))(k:Int):Prop:=∃m∈t,m.num=k
inductive Told(t:List (Nd S)):Deed S→Sum Wd (List (Nd S))→Prop where
 |mKnown {n p:Int} {nm:S} {st:Option Int}:cK t n→Told t (.make n p nm st) (.inl .known)
 |mNo {n p:Int} {nm:S} {st:Option Int}:¬cK t n→p≠0→¬cK t p→Told t (.make n p nm st) (.inl .noNode)
 |mFile {n p:Int} {nm:S} {st:Option Int} {m:Nd S}:¬cK t n→p≠0→m∈t→m.num=p→m.st≠none→Told t (.make n p nm st) (.inl .notFolder)
 |mTaken {n p:Int} {nm:S} {st:Option Int} {m:Nd S}:¬cK t n→ic t p→m∈t→m.par=p→m.nm=nm→Told t (.make n p nm st) (.inl .taken)
 |made {n p:Int} {nm:S} {st:Option Int} {u:List (Nd S)}:¬cK t n→ic t p→(∀m∈t,¬(m.par=p∧m.nm=nm))→u.Perm (⟨n,p,nm,st⟩::t)→cX u→Told t (.make n p nm st) (.inr u)
 |wNo {n st:Int}:¬cK t n→Told t (.write n st) (.inl .noNode)
 |wFold {n st:Int} {y:Nd S}:y∈t→y.num=n→y.st=none→Told t (.write n st) (.inl .notFile)
 |wrote {n st:Int} {y:Nd S}:y∈t→y.num=n→y.st≠none→Told t (.write n st) (.inr (t.map (put ⟨n,y.par,y.nm,some st⟩)))
 |vNo {n p:Int} {nm:S}:¬cK t n→Told t (.move n p nm) (.inl .noNode)
 |vNoP {n p:Int} {nm:S}:cK t n→p≠0→¬cK t p→Told t (.move n p nm) (.inl .noNode)
 |vFile {n p:Int} {nm:S} {m:Nd S}:cK t n→p≠0→m∈t→m.num=p→m.st≠none→Told t (.move n p nm) (.inl .notFolder)
 |vIn {n p:Int} {nm:S}:cK t n→ic t p→p≠0→Und t n p→Told t (.move n p nm) (.inl .inside)
 |vTaken {n p:Int} {nm:S} {m:Nd S}:cK t n→ic t p→(p≠0→¬Und t n p)→m∈t→m.num≠n→m.par=p→m.nm=nm→Told t (.move n p nm) (.inl .taken)
 |moved {n p:Int} {nm:S} {y:Nd S}:y∈t→y.num=n→ic t p→(p≠0→¬Und t n p)→(∀m∈t,m.num≠n→¬(m.par=p∧m.nm=nm))→Told t (.move n p nm) (.inr (t.map (put ⟨n,p,nm,y.st⟩)))
 |dNo {n:Int}:¬cK t n→Told t (.drop n) (.inl .noNode)
 |dropped {n:Int} {f:Nd S→Bool}:cK t n→(∀m∈t,f m=true↔¬Und t n m.num)→Told t (.drop n) (.inr (t.filter f))
theorem cT{t:List (Nd S)}{p:Int}(h:ic t p)(h0:p≠0)(hn:¬cK t p):False:=by
 rcases h with h|⟨m,hm,_,e⟩
 ·exact h0 h
 ·exact hn ⟨m,hm,e⟩
theorem cf{t:List (Nd S)}(T:Tree1 t){p:Int}{m:Nd S}(h:ic t p)(h0:p≠0)(hm:m∈t)(e:m.num=p)(hs:m.st≠none):False:=by
 rcases h with h|⟨y,hy,h2,e2⟩
 ·exact h0 h
 ·have:=T.inj hm hy (e.trans e2.symm);subst this;exact hs h2
theorem jD{t u:List (Nd S)}(ht:cX t)(hu:cX u)(h:t.Perm u):t=u:=by
 have main:∀{l m:List (Nd S)},cX l→cX m→(∀x,x∈l↔x∈m)→l=m:=by
  intro l
  induction l with
  |nil =>
   intro m _ _ h;cases m with
   |nil=>rfl
   |cons b m=>exact absurd ((h b).mpr (by simp)) (by simp)
  |cons a l ih =>
   intro m hl hm h;cases m with
   |nil=>exact absurd ((h a).mp (by simp)) (by simp)
   |cons b m =>
    unfold cX at hl hm ih;rw[List.pairwise_cons]at hl hm;have e:a=b:=by
     rcases mem_cons.mp ((h a).mp (by simp))with e|h1
     ·exact e
     ·rcases mem_cons.mp ((h b).mpr (by simp))with e|h2
      ·exact e.symm
      ·have:=hl.1 b h2;have:=hm.1 a h1;omega
    subst e;rw[ih hl.2 hm.2 λx=>?_];constructor
    ·intro hx;rcases mem_cons.mp ((h x).mp (by simp[hx]))with e|h1
     ·subst e;have:=hl.1 x hx;omega
     ·exact h1
    ·intro hx;rcases mem_cons.mp ((h x).mpr (by simp[hx]))with e|h1
     ·subst e;have:=hm.1 x hx;omega
     ·exact h1
 exact main ht hu λx=>h.mem_iff
theorem Told.one{t:List (Nd S)}(T:Tree1 t){d:Deed S}{r r':Sum Wd (List (Nd S))}(h:Told t d r)(h':Told t d r'):r=r':=by
 have hno:∀{k:Int}{m:Nd S},m∈t→m.num=k→¬cK t k→False:=λhm e hn=>hn ⟨_,hm,e⟩;have one:∀{k:Int}{a b:Nd S},a∈t→a.num=k→b∈t→b.num=k→a=b:=λha ea hb eb=>T.inj ha hb (ea.trans eb.symm);cases h with
 |mKnown a1=>cases h'<;>first|rfl|(exfalso;contradiction)
 |mNo a1 a2 a3=>cases h' with
  |mKnown b1=>exact absurd b1 a1
  |mNo=>rfl
  |mFile b1 b2 b3 b4 b5=>exact(hno b3 b4 a3).elim
  |mTaken b1 b2=>exact(cT b2 a2 a3).elim
  |made b1 b2=>exact(cT b2 a2 a3).elim
 |mFile a1 a2 a3 a4 a5=>cases h' with
  |mKnown b1=>exact absurd b1 a1
  |mNo b1 b2 b3=>exact(hno a3 a4 b3).elim
  |mFile=>rfl
  |mTaken b1 b2=>exact(cf T b2 a2 a3 a4 a5).elim
  |made b1 b2=>exact(cf T b2 a2 a3 a4 a5).elim
 |mTaken a1 a2 a3 a4 a5=>cases h' with
  |mKnown b1=>exact absurd b1 a1
  |mNo b1 b2 b3=>exact(cT a2 b2 b3).elim
  |mFile b1 b2 b3 b4 b5=>exact(cf T a2 b2 b3 b4 b5).elim
  |mTaken=>rfl
  |made b1 b2 b3=>exact(b3 _ a3 ⟨a4,a5⟩).elim
 |made a1 a2 a3 a4 a5=>cases h' with
  |mKnown b1=>exact absurd b1 a1
  |mNo b1 b2 b3=>exact(cT a2 b2 b3).elim
  |mFile b1 b2 b3 b4 b5=>exact(cf T a2 b2 b3 b4 b5).elim
  |mTaken b1 b2 b3 b4 b5=>exact(a3 _ b3 ⟨b4,b5⟩).elim
  |made b1 b2 b3 b4 b5=>rw[jD a5 b5 (a4.trans b4.symm)]
 |wNo a1=>cases h' with
  |wNo=>rfl
  |wFold b1 b2=>exact(hno b1 b2 a1).elim
  |wrote b1 b2=>exact(hno b1 b2 a1).elim
 |wFold a1 a2 a3=>cases h' with
  |wNo b1=>exact(hno a1 a2 b1).elim
  |wFold=>rfl
  |wrote b1 b2 b3=>rw[one a1 a2 b1 b2]at a3;exact absurd a3 b3
 |wrote a1 a2 a3=>cases h' with
  |wNo b1=>exact(hno a1 a2 b1).elim
  |wFold b1 b2 b3=>rw[one b1 b2 a1 a2]at b3;exact absurd b3 a3
  |wrote b1 b2 b3=>rw[one b1 b2 a1 a2]
 |vNo a1=>cases h' with
  |vNo=>rfl
  |vNoP=>rfl
  |vFile b1=>exact absurd b1 a1
  |vIn b1=>exact absurd b1 a1
  |vTaken b1=>exact absurd b1 a1
  |moved b1 b2=>exact(hno b1 b2 a1).elim
 |vNoP a1 a2 a3=>cases h' with
  |vNo=>rfl
  |vNoP=>rfl
  |vFile b1 b2 b3 b4=>exact(hno b3 b4 a3).elim
  |vIn b1 b2=>exact(cT b2 a2 a3).elim
  |vTaken b1 b2=>exact(cT b2 a2 a3).elim
  |moved b1 b2 b3=>exact(cT b3 a2 a3).elim
 |vFile a1 a2 a3 a4 a5=>cases h' with
  |vNo b1=>exact absurd a1 b1
  |vNoP b1 b2 b3=>exact(hno a3 a4 b3).elim
  |vFile=>rfl
  |vIn b1 b2=>exact(cf T b2 a2 a3 a4 a5).elim
  |vTaken b1 b2=>exact(cf T b2 a2 a3 a4 a5).elim
  |moved b1 b2 b3=>exact(cf T b3 a2 a3 a4 a5).elim
 |vIn a1 a2 a3 a4=>cases h' with
  |vNo b1=>exact absurd a1 b1
  |vNoP b1 b2 b3=>exact(cT a2 b2 b3).elim
  |vFile b1 b2 b3 b4 b5=>exact(cf T a2 b2 b3 b4 b5).elim
  |vIn=>rfl
  |vTaken b1 b2 b3=>exact absurd a4 (b3 a3)
  |moved b1 b2 b3 b4=>exact absurd a4 (b4 a3)
 |vTaken a1 a2 a3 a4 a5 a6 a7=>cases h' with
  |vNo b1=>exact absurd a1 b1
  |vNoP b1 b2 b3=>exact(cT a2 b2 b3).elim
  |vFile b1 b2 b3 b4 b5=>exact(cf T a2 b2 b3 b4 b5).elim
  |vIn b1 b2 b3 b4=>exact absurd b4 (a3 b3)
  |vTaken=>rfl
  |moved b1 b2 b3 b4 b5=>exact(b5 _ a4 a5 ⟨a6,a7⟩).elim
 |moved a1 a2 a3 a4 a5=>cases h' with
  |vNo b1=>exact(hno a1 a2 b1).elim
  |vNoP b1 b2 b3=>exact(cT a3 b2 b3).elim
  |vFile b1 b2 b3 b4 b5=>exact(cf T a3 b2 b3 b4 b5).elim
  |vIn b1 b2 b3 b4=>exact absurd b4 (a4 b3)
  |vTaken b1 b2 b3 b4 b5 b6 b7=>exact(a5 _ b4 b5 ⟨b6,b7⟩).elim
  |moved b1 b2=>rw[one b1 b2 a1 a2]
 |dNo a1=>cases h' with
  |dNo=>rfl
  |dropped b1=>exact absurd b1 a1
 |dropped a1 a2=>cases h' with
  |dNo b1=>exact absurd a1 b1
  |dropped b1 b2 =>
   congr 1
   apply filter_congr;intro m hm;rw[Bool.eq_iff_iff,a2 m hm,b2 m hm]
def Deed.pos:Deed S→Prop
 |.make n _ _ _=>1≤n
 |_=>True
theorem Told.tree{t u:List (Nd S)}(T:Tree1 t){d:Deed S}(h:Told t d (.inr u))(hp:d.pos):Tree1 u:=by
 generalize er:(Sum.inr u:Sum Wd (List (Nd S)))=r at h;cases h with
 |made a1 a2 a3 a4 a5 =>
  injection er with er
  subst er;exact TW.made T a4 a5 hp a2 λm hm=>a3 m hm
 |wrote a1 a2 a3 =>
  injection er with er
  subst er a2;exact TW.wrote T a1 rfl rfl rfl a3
 |moved a1 a2 a3 a4 a5 =>
  injection er with er
  subst er a2;exact TW.moved T a1 rfl rfl a3 a4 a5
 |dropped a1 a2 =>
  injection er with er
  subst er;exact TW.dropped T a2
 |_=>cases er
theorem Told.all{t u:List (Nd S)}{P:Nd S→Prop}(ht:∀n∈t,P n){d:Deed S}(h:Told t d (.inr u))(hm:∀n p nm st,d=.make n p nm st→P ⟨n,p,nm,st⟩)(hw:∀n st,d=.write n st→∀y∈t,y.num=n→P ⟨n,y.par,y.nm,some st⟩)(hv:∀n p nm,d=.move n p nm→∀y∈t,y.num=n→P ⟨n,p,nm,y.st⟩):∀n∈u,P n:=by
 have hput:∀z:Nd S,P z→∀n∈t.map (put z),P n:=λz hz n hn=>by
  obtain⟨m,hm,rfl⟩:=mem_map.mp hn
  by_cases e:m.num=z.num
  ·rw[eG e];exact hz
  ·rw[cr e];exact ht m hm
 generalize er:(Sum.inr u:Sum Wd (List (Nd S)))=r at h;cases h with
 |made a1 a2 a3 a4 a5 =>
  injection er with er
  subst er;intro n hn;rcases mem_cons.mp (a4.mem_iff.mp hn)with e|h
  ·subst e;exact hm _ _ _ _ rfl
  ·exact ht n h
 |wrote a1 a2 a3 =>
  injection er with er
  subst er;exact hput _ (hw _ _ rfl _ a1 a2)
 |moved a1 a2 a3 a4 a5 =>
  injection er with er
  subst er;exact hput _ (hv _ _ _ rfl _ a1 a2)
 |dropped a1 a2 =>
  injection er with er
  subst er;intro n hn;exact ht n (mem_filter.mp hn).1
 |_=>cases er
theorem Told.len{t u:List (Nd S)}{d:Deed S}(h:Told t d (.inr u)):u.length≤t.length+1:=by
 generalize er:(Sum.inr u:Sum Wd (List (Nd S)))=r at h;cases h with
 |made a1 a2 a3 a4 a5 =>
  injection er with er
  subst er;rw[a4.length_eq];simp
 |wrote a1 a2 a3 =>
  injection er with er
  subst er;simp
 |moved a1 a2 a3 a4 a5 =>
  injection er with er
  subst er;simp
 |dropped a1 a2 =>
  injection er with er
  subst er;exact le_succ_of_le (length_filter_le _ _)
 |_=>cases er
end
end TW
namespace TW
section
variable{S:Type}
end
end TW
namespace L2
open PySem PySem.Spec PyProof.Rows
section
variable{P:Program}{w:World}{K:PySem.W.Frag}{mg:Str→Option Value}{base:Heap}
theorem Fun.okX{x qual:Str}{st:Stmt}{f:Addr}{fd:FuncData}{N ps:List Str}{k:Nat}{sp:Sp}(F:Fun K x qual st f fd)(S:FnScope N ps (am st))(len:∀vs H Q E,sp vs H Q E→vs.length=ps.length)(hbody:∀(cdv:Value) (A:Around) (outer:List Env) (s:Shared) (H:Hp) (vs:List V) (Q:VK) (E:XK),Room k (A.deeper (envOfC qual (am st) s.heap.objs.size f cdv))→sp vs H Q E →
   ∃t,PSs (gQ (CX1 P w) P w K mg base N qual (am st) f cdv A outer s H E) (bz st) t∧t {nx:=λ_ H'=>Q .non H',rt:=Q} (start N vs) H):FnOk P w K mg base (CX1 P w) (k+1) f fd ps sp:=by
 obtain⟨oc,od,kV,doc,pm,an,cdv,ct,osl,rfl,lk,hcd⟩:=F.ex;exact sv lk hcd S len λA outer s H vs Q E hr hsp=>hbody cdv A outer s H vs Q E hr hsp
theorem LcOk.mk'{X:Cx}{scope:Scope}{cl:List (Str×Addr)}(fs:List Str)(hk:scope.kind=.function)(hc:closureFor scope X.env=pure cl)(hn:∀x∈scope.names,x.2=.local→scope.names.lookup x.1=some .local)(hnc:∀x∈scope.names,x.2≠.cell)(hcl:∀y∈cl,X.env.cells.lookup y.1=some y.2)(hfs:cl.map (·.1)=fs)(hall:scope.names.all (λy=>!(y.2==.free)||fs.contains y.1)=true):LcOk X scope cl:=by
 refine⟨hk,hc,hn,hnc,λx c h=>hcl (x,c) (PySem.mem_of_lookup h),λx h=>?_⟩;have hm:∃k,(x,k)∈(relabel scope X.env).names∧(k=.cell∨k=.free):=by
  rcases h with h|h
  ·exact⟨_,PySem.mem_of_lookup h,.inl rfl⟩
  ·exact⟨_,PySem.mem_of_lookup h,.inr rfl⟩
 obtain⟨k,hm,hk'⟩:=hm;unfold relabel at hm;obtain⟨⟨y,k0⟩,hy,e⟩:=mem_map.mp hm;have hfree:x=y∧k0=.free:=by
  cases k0 with
  |free =>
   simp only at e
   split at e
   ·injection e with e1 e2;exact⟨e1.symm,rfl⟩
   ·injection e with e1 e2;exact⟨e1.symm,rfl⟩
  |cell=>exact absurd rfl (hnc _ hy)
  |_ =>
   exfalso
   have e2:k=_:=(congrArg Prod.snd e).symm;simp at e2;rcases hk' with z|z<;>rw[z]at e2<;>cases e2
 obtain⟨rfl,rfl⟩:=hfree;have:=all_eq_true.mp hall _ hy;have hin:fs.contains x=true:=by simpa using this
 rw[←hfs]at hin;have hmem:x∈cl.map (·.1):=List.contains_iff_mem.mp hin;cases e:cl.lookup x with
 |some c=>exact⟨c,rfl⟩
 |none =>
  exfalso
  obtain⟨y,hy,ey⟩:=mem_map.mp hmem;have:=List.lookup_eq_none_iff.mp e y hy;rw[ey]at this;simp at this
end
end L2
namespace TK
open PySem L2
abbrev Nd:=TW.Nd Str
def stV:Option Int→V
 |none=>.non
 |some i=>.int i
def vals(n:Nd):List V:=[.int n.num,.int n.par,.str n.nm,stV n.st]
abbrev ZN:=List (Addr×Nd)
def bu(zs:ZN):List V:=(zs.map (·.1)).map V.ref
def nds(zs:ZN):List Nd:=zs.map (·.2)
def At(H:Hp)(zs:ZN):Prop:=∀z∈zs,H z.1=some (.tup (vals z.2))
theorem At.same{H H':Hp}{zs:ZN}(h:At H zs)(s:Same H H'):At H' zs:=λz hz=>s _ _ (h z hz)
theorem cn(zs:ZN):(bu zs).length=zs.length:=by simp[bu]
theorem aZ(zs:ZN):(nds zs).length=zs.length:=by simp[nds]
theorem eI{zs:ZN}{i:Nat}{x:V}(h:(bu zs)[i]?=some x):∃z,zs[i]?=some z∧x=.ref z.1:=by
 unfold bu at h;rw[getElem?_map,getElem?_map]at h;cases e:zs[i]? with
 |none=>rw[e]at h;cases h
 |some z=>rw[e]at h;exact⟨z,rfl,(Option.some.inj h).symm⟩
theorem jE{zs:ZN}{i:Nat}{z:Addr×Nd}(h:zs[i]?=some z):(bu zs)[i]?=some (.ref z.1):=by
 unfold bu;rw[getElem?_map,getElem?_map,h];rfl
theorem at0(n:Nd):atI (vals n) 0=some (.int n.num):=rfl
theorem at1(n:Nd):atI (vals n) 1=some (.int n.par):=rfl
theorem at2(n:Nd):atI (vals n) 2=some (.str n.nm):=rfl
theorem at3(n:Nd):atI (vals n) 3=some (stV n.st):=rfl
theorem xa{σ:St}(h:σ.length=2):∃a b,σ=[a,b]:=by
 match σ,h with
 |[a,b],_=>exact⟨a,b,rfl⟩
theorem xb{σ:St}(h:σ.length=1):∃a,σ=[a]:=by
 match σ,h with
 |[a],_=>exact⟨a,rfl⟩
theorem aq{n:Nat}(h:n≤1000):n≤sizeLine:=le_of_lt (ay h)
theorem le2:2≤sizeLine:=aq (by decide)
theorem oH{A:Around}{k:Nat}(hr:Room k A):A.units+4<cLine:=lt_of_le_of_lt (add_le_add_left (by decide:4≤64) _) hr.units
def plK(n:Nd):List Key:=[.inl n.par,.inr n.nm]
def ins(zs:ZN)(k:Int):ZN:=zs.filter λz=>decide (z.2.par=k)
theorem pZ(zs:ZN)(k:Int):nds (ins zs k)=TW.inside (nds zs) k:=by
 unfold nds ins TW.inside;rw[filter_map];rfl
theorem fJ(zs:ZN)(z:Addr×Nd)(k:Int):ins (zs++[z]) k=if z.2.par=k then ins zs k++[z]else ins zs k:=by
 unfold ins;rw[List.filter_append]
 by_cases h:z.2.par=k
 ·rw[if_pos h,filter_cons_of_pos (by simp[h])];rfl
 ·rw[if_neg h,filter_cons_of_neg (by simp[h])];simp
theorem vg{zs:ZN}{k:Int}{z:Addr×Nd}(h:z∈ins zs k):z∈zs:=(mem_filter.mp h).1
theorem iD(zs:ZN)(z:Addr×Nd):bu (zs++[z])=bu zs++[.ref z.1]:=by simp[bu]
theorem tm{zs:ZN}(h:bu zs=[]):zs=[]:=by
 cases zs with
 |nil=>rfl
 |cons a r=>simp[bu]at h
structure Mem(H0 H:Hp)(d:Addr)(L:Int→Addr)(kvs:List (Key×V))(xs:ZN)(dn:List Int):Prop where
 dict:H d=some (.dK kvs)
 d0:H0 d=none
 len:kvs.length≤xs.length
 val:∀k:Int,bq kvs (Sum.inl k:Key)=if k∈dn∨ins xs k=[]then none else some (.ref (L k))
 at':∀k,k∉dn→ins xs k≠[]→H (L k)=some (.lst (bu (ins xs k)))∧H0 (L k)=none
 inj:∀k k',k∉dn→k'∉dn→ins xs k≠[]→ins xs k'≠[]→L k=L k'→k=k'
 same:Same H0 H
theorem Mem.grow{H0 H H':Hp}{d:Addr}{L:Int→Addr}{kvs:List (Key×V)}{xs:ZN}{dn:List Int}(m:Mem H0 H d L kvs xs dn)(s:Same H H'):Mem H0 H' d L kvs xs dn :=
 ⟨s _ _ m.dict,m.d0,m.len,m.val,λk h1 h2=>⟨s _ _ (m.at' k h1 h2).1,(m.at' k h1 h2).2⟩,m.inj,m.same.trans s⟩
theorem Mem.other{H0 H:Hp}{d p:Addr}{L:Int→Addr}{kvs:List (Key×V)}{xs:ZN}{dn:List Int}{is:List Int}{o:HO}(m:Mem H0 H d L kvs xs dn)(hp:H p=some (.lst (is.map V.int)))(h0:H0 p=none):Mem H0 (upd H p o) d L kvs xs dn:=by
 refine⟨?_,m.d0,m.len,m.val,λk h1 h2=>⟨?_,(m.at' k h1 h2).2⟩,m.inj,aL h0 m.same⟩
 ·rw[aj]
  ·exact m.dict
  ·intro e;have:=m.dict;rw[e,hp]at this;cases this
 ·have e1:=(m.at' k h1 h2).1;rw[aj]
  ·exact e1
  ·intro e;rw[e,hp]at e1;injection e1 with e1
   injection e1 with e1
   have hne:=h2;cases hk:ins xs k with
   |nil=>exact h2 hk
   |cons a r =>
    rw[hk]at e1;cases is with
    |nil=>simp[bu]at e1
    |cons i r'=>simp[bu]at e1
theorem Mem.start{H0:Hp}{d:Addr}(h:H0 d=none):Mem H0 (upd H0 d (.dK [])) d (λ_=>d) [] [] [] :=
 ⟨ac,h,by simp,λk=>by rw[if_pos (.inr rfl)];rfl,λk _ h=>absurd rfl h,λk k' _ _ h=>absurd rfl h,ae h⟩
theorem Mem.hit{H0 H:Hp}{d:Addr}{L:Int→Addr}{kvs:List (Key×V)}{xs:ZN}{z:Addr×Nd}(m:Mem H0 H d L kvs xs [])(hp:ins xs z.2.par≠[]):
  Mem H0 (upd H (L z.2.par) (.lst (bu (ins xs z.2.par)++[.ref z.1]))) d L kvs (xs++[z]) []:=by
 have e1:=(m.at' z.2.par (by simp) hp);have hd:d≠L z.2.par:=λe=>by
  have:=m.dict;rw[e,e1.1]at this;cases this
 have ne:∀k,ins (xs++[z]) k=[]↔ins xs k=[]:=λk=>by
  rw[fJ]
  by_cases h:z.2.par=k
  ·rw[if_pos h];subst h;simp[hp]
  ·rw[if_neg h]
 refine⟨by rw[aj hd];exact m.dict,m.d0,by have:=m.len;simp;omega,λk=>?_,λk h1 h2=>?_,λk k' _ _ h2 h3 e=>m.inj k k' (by simp) (by simp) (λh=>h2 ((ne k).mpr h)) (λh=>h3 ((ne k').mpr h)) e,aL e1.2 m.same⟩
 ·rw[m.val k];simp only[ne k]
 ·have h2':ins xs k≠[]:=λh=>h2 ((ne k).mpr h);refine⟨?_,(m.at' k h1 h2').2⟩
  by_cases h:z.2.par=k
  ·subst h;rw[ac,fJ,if_pos rfl,iD]
  ·rw[aj,fJ,if_neg h]
   ·exact(m.at' k h1 h2').1
   ·intro e;exact h (m.inj _ _ (by simp) (by simp) hp h2' e.symm)
theorem Mem.fresh{H0 H:Hp}{d q:Addr}{L:Int→Addr}{kvs:List (Key×V)}{xs:ZN}{z:Addr×Nd}(m:Mem H0 H d L kvs xs [])(hp:ins xs z.2.par=[])(hq:H q=none):
  Mem H0 (upd (upd (upd H q (.lst [])) d (.dK (cg kvs (Sum.inl z.2.par:Key) (.ref q)))) q (.lst ([]++[.ref z.1]))) d (λk=>if k=z.2.par then q else L k) (cg kvs (Sum.inl z.2.par:Key) (.ref q)) (xs++[z]) []:=by
 have hdq:d≠q:=λe=>by
  have:=m.dict;rw[e,hq]at this;cases this
 have lq:∀k,ins xs k≠[]→L k≠q:=λk h e=>by
  have:=(m.at' k (by simp) h).1;rw[e,hq]at this;cases this
 have ld:∀k,ins xs k≠[]→L k≠d:=λk h e=>by
  have:=(m.at' k (by simp) h).1;rw[e,m.dict]at this;cases this
 have q0:H0 q=none:=m.same.free hq;have e2:∀k,k≠z.2.par→ins (xs++[z]) k=ins xs k:=λk h=>by rw[fJ,if_neg (λe=>h e.symm)]
 have e3:ins (xs++[z]) z.2.par=[z]:=by rw[fJ,if_pos rfl,hp];rfl
 refine⟨by rw[aj hdq,ac],m.d0,?_,λk=>?_,λk h1 h2=>?_,λk k' _ _ h2 h3 e=>?_,?_⟩
 ·have h1:=m.len;have h2:=dJ kvs (Sum.inl z.2.par:Key) (.ref q);rw[length_append,length_singleton];omega
 ·rw[m9t]
  by_cases h:k=z.2.par
  ·subst h;rw[if_pos rfl,if_neg (by rw[e3];simp),if_pos rfl]
  ·rw[if_neg (λe=>h (Sum.inl.inj e)),m.val k,e2 k h,if_neg h]
 ·by_cases h:k=z.2.par
  ·subst h;simp only[if_true];exact⟨by rw[ac,e3];rfl,q0⟩
  ·rw[e2 k h]at h2;simp only[if_neg h];refine⟨?_,(m.at' k h1 h2).2⟩;rw[aj (lq k h2),aj (ld k h2),aj (lq k h2),e2 k h];exact(m.at' k h1 h2).1
 ·by_cases h:k=z.2.par
  ·by_cases h':k'=z.2.par
   ·rw[h,h']
   ·rw[e2 k' h']at h3;simp only[if_pos h,if_neg h']at e;exact absurd e.symm (lq k' h3)
  ·rw[e2 k h]at h2
   by_cases h':k'=z.2.par
   ·simp only[if_neg h,if_pos h']at e;exact absurd e (lq k h2)
   ·rw[e2 k' h']at h3;simp only[if_neg h,if_neg h']at e;exact m.inj k k' (by simp) (by simp) h2 h3 e
 ·exact aL q0 (aL m.d0 (m.same.trans (ae hq)))
theorem rB{κ:Type}[DecidableEq κ](kvs:List (κ×V))(k j:κ):bq (dh kvs k) j=if j=k then none else bq kvs j:=by
 induction kvs with
 |nil=>simp[dh,bq]
 |cons p r ih =>
  by_cases e:p.1=k
  ·rw[qY e,ih]
   by_cases h:j=k
   ·rw[if_pos h,if_pos h]
   ·rw[if_neg h,if_neg h,aY (λz=>h (z.symm.trans e))]
  ·rw[qZ e]
   by_cases h:p.1=j
   ·rw[bp h,if_neg (λz=>e (h.trans z)),bp h]
   ·rw[aY h,ih,aY h]
theorem Mem.drop{H0 H:Hp}{d:Addr}{L:Int→Addr}{kvs:List (Key×V)}{xs:ZN}{dn:List Int}(m:Mem H0 H d L kvs xs dn)(x:Int):Mem H0 (upd H d (.dK (dh kvs (Sum.inl x:Key)))) d L (dh kvs (Sum.inl x:Key)) xs (x::dn):=by
 have ld:∀k,k∉dn→ins xs k≠[]→L k≠d:=λk h0 h e=>by
  have:=(m.at' k h0 h).1;rw[e,m.dict]at this;cases this
 have no:∀k,k∉x::dn→k∉dn:=λk h h'=>h (mem_cons_of_mem _ h');refine⟨ac,m.d0,le_trans (mw _ _) m.len,λk=>?_,λk h1 h2=>?_,λk k' h0 h1 h2 h3 e=>m.inj k k' (no k h0) (no k' h1) h2 h3 e,aL m.d0 m.same⟩
 ·rw[rB,m.val k]
  by_cases h:k=x
  ·rw[if_pos (by rw[h]),if_pos (.inl (by rw[h];simp))]
  ·rw[if_neg (λe=>h (Sum.inl.inj e))];simp[h]
 ·rw[aj (ld k (no k h1) h2)];exact m.at' k (no k h1) h2
theorem Mem.skip{H0 H:Hp}{d:Addr}{L:Int→Addr}{kvs:List (Key×V)}{xs:ZN}{dn:List Int}(m:Mem H0 H d L kvs xs dn){x:Int}(hx:x∈dn∨ins xs x=[]):Mem H0 H d L kvs xs (x::dn):=by
 have no:∀k,k∉x::dn→k∉dn:=λk h h'=>h (mem_cons_of_mem _ h');refine⟨m.dict,m.d0,m.len,λk=>?_,λk h1 h2=>m.at' k (no k h1) h2,λk k' h0 h1 h2 h3 e=>m.inj k k' (no k h0) (no k' h1) h2 h3 e,m.same⟩;rw[m.val k]
 by_cases h:k=x
 ·subst h;rw[if_pos hx,if_pos (.inl (by simp))]
 ·simp[h]
theorem tu{Q:VK}{H0 H:Hp}{d q:Addr}{L:Int→Addr}{kvs:List (Key×V)}{zs:ZN}{dn:List Int}{x:Int}(m:Mem H0 H d L kvs zs dn)(hq:H q=some (.lst []))(k:∀hl Hc kvs' hs,Mem H0 Hc d L kvs' zs (x::dn)→Hc hl=some (.lst (bu hs))→nds hs=TW.here (nds zs) dn x→(∀z∈hs,z∈zs)→(∀p,p≠d→Hc p=H p)→(hs=[]→hl=q)→Q (.ref hl) Hc):
  ∃kvs k,H d=some (.dK kvs)∧V.int x=kV k∧(∀v,bq kvs k=some v→Q v (upd H d (.dK (dh kvs k))))∧(bq kvs k=none→Q (.ref q) H):=by
 refine⟨kvs,.inl x,m.dict,rfl,λv hv=>?_,λhn=>?_⟩
 ·rw[m.val x]at hv
  by_cases h:x∈dn∨ins zs x=[]
  ·rw[if_pos h]at hv;cases hv
  ·rw[if_neg h]at hv;have h1:x∉dn:=λz=>h (.inl z);have h2:ins zs x≠[]:=λz=>h (.inr z);cases hv;have a:=(m.at' x h1 h2).1;have ld:L x≠d:=λe=>by rw[e,m.dict]at a;cases a
   refine k (L x) _ _ (ins zs x) (m.drop x) (by rw[aj ld];exact a) ?_ (λz hz=>vg hz) (λp hp=>aj hp) (λe=>absurd e h2);rw[pZ];unfold TW.here;rw[if_neg h1]
 ·rw[m.val x]at hn
  by_cases h:x∈dn∨ins zs x=[]
  ·refine k q _ _ [] (m.skip h) hq ?_ (by simp) (λp _=>rfl) (λ_=>rfl);unfold TW.here
   by_cases h1:x∈dn
   ·rw[if_pos h1];rfl
   ·rw[if_neg h1];rcases h with h|h
    ·exact absurd h h1
    ·rw[←pZ,h]
  ·rw[if_neg h]at hn;cases hn
theorem qc{H:Hp}{p hl:Addr}{hs:ZN}{is:List Int}(hp:H p=some (.lst (is.map V.int)))(h:H hl=some (.lst (bu hs)))(hne:hs≠[]):hl≠p:=by
 intro e;rw[e,hp]at h;injection h with h
 injection h with h
 cases hs with
 |nil=>exact hne rfl
 |cons a r =>
  cases is with
  |nil=>simp[bu]at h
  |cons i r'=>simp[bu]at h
def lc(H:Hp)(p:Addr):Nat:=match H p with
 |some (.lst xs)=>xs.length
 |_=>0
theorem ig{H:Hp}{p:Addr}{xs:List V}(h:H p=some (.lst xs)):lc H p=xs.length:=by unfold lc;rw[h]
def eJ(l:List Nd):List V:=(l.map (·.num)).map V.int
def di(K:PySem.W.Frag)(H:Hp)(a:Addr):Prop:=∃ns:List Int,SqL K H a (ns.map V.int)
theorem di.same{K:PySem.W.Frag}{H H':Hp}{a:Addr}(h:di K H a)(s:Same H H'):di K H' a:=let⟨ns,e⟩:=h;⟨ns,s.seq e⟩
theorem nB{ns:List Int}{i:Int}(h0:0≤i)(h1:i<ns.length):∃j,atI (ns.map V.int) i=some (.int j):=by
 refine⟨ns[i.toNat]'(by omega),?_⟩;have:=gU (xs:=ns.map V.int) (j:=i.toNat) (v:=.int (ns[i.toNat]'(by omega))) (by rw[getElem?_map,getElem?_eq_getElem (by omega)];rfl);rw[show((i.toNat:Nat):Int)=i by omega]at this;exact this
def Has(P:Program)(w:World)(K:PySem.W.Frag)(mg:Str→Option Value)(base:Heap)(k:Nat)(x:Str)(ps:List Str)(sp:Sp):Prop:=∃f fd,FnOk P w K mg base CX0 k f fd ps sp∧mg x=some (.ref f)∧keepIn K (.ref f)=true∧aG K fd ps []
def vh(n:Nd):Prop:=1≤n.num∧n.num≤12∧(n.nm="a"∨n.nm="b"∨n.nm="c"∨n.nm="abcde")∧(n.st=none∨n.st=some 0∨n.st=some 1∨n.st=some 2∨n.st=some 999)
structure Bd(zs:ZN)(lf:List Int):Prop where
 built:TW.Built (nds zs)
 nd:((nds zs).map (·.num)++lf).Nodup
 rng:∀x∈lf,1≤x∧x≤12
 own:TW.eR (nds zs)
 ok:∀z∈zs,vh z.2
theorem Bd.skip{zs:ZN}{lf:List Int}(b:Bd zs lf)(i:Nat):Bd zs (lf.eraseIdx i) :=
 ⟨b.built,Nodup.sublist (Sublist.append (Sublist.refl _) (List.eraseIdx_sublist lf i)) b.nd,λx hx=>b.rng x ((List.eraseIdx_sublist lf i).mem hx),b.own,b.ok⟩
theorem jF:∀{l:List Int}{i:Nat}{x:Int},l[i]?=some x→(x::l.eraseIdx i).Perm l
 |a::l,0,x,h=>by
  have:a=x:=by simpa using h
  subst this;exact List.Perm.refl _
 |a::l,i+1,x,h=>by
  have h':l[i]?=some x:=by simpa using h
  exact(List.Perm.swap a x _).trans (List.Perm.cons a (jF h'))
 |[],i,x,h=>by simp at h
theorem Bd.add{zs:ZN}{lf:List Int}{i:Nat}{q:Addr}{n:Nd}(b:Bd zs lf)(hi:lf[i]?=some n.num)(hp:n.par∈(0:Int)::TW.aT (nds zs))(ho:∀z∈zs,¬(z.2.par=n.par∧z.2.nm=n.nm))(h3:n.nm="a"∨n.nm="b"∨n.nm="c"∨n.nm="abcde")(h4:n.st=none∨n.st=some 0∨n.st=some 1∨n.st=some 2∨n.st=some 999):Bd (zs++[(q,n)]) (lf.eraseIdx i):=by
 have e:nds (zs++[(q,n)])=nds zs++[n]:=by simp[nds]
 have pm:=jF hi;refine⟨?_,?_,λx hx=>b.rng x ((List.eraseIdx_sublist lf i).mem hx),?_,λz hz=>?_⟩
 ·rw[e];refine .snoc b.built ?_;rcases mem_cons.mp hp with h|h
  ·exact .inl h
  ·exact .inr (TW.iM.mp h)
 ·rw[e,map_append,append_assoc];exact((List.Perm.append_left _ pm).nodup_iff).mpr b.nd
 ·rw[e];unfold TW.eR;rw[map_append,nodup_append];refine⟨b.own,by simp,λx hx y hy=>?_⟩;have ey:y=(n.par,n.nm):=by simpa using hy
  subst ey;obtain⟨m,hm,rfl⟩:=mem_map.mp hx;obtain⟨z,hz,rfl⟩:=mem_map.mp hm;intro h;injection h with h1 h2
  exact ho z hz ⟨h1,h2⟩
 ·rcases mem_append.mp hz with h|h
  ·exact b.ok z h
  ·have ez:z=(q,n):=by simpa using h
   subst ez;have:=b.rng n.num (mem_of_getElem? hi);exact⟨this.1,this.2,h3,h4⟩
def tp(z:Addr×Nd):hX:=(z.1,z.2.num,[.int z.2.par,.str z.2.nm,stV z.2.st])
def un(t:hX):Addr×Nd:=(t.1,match t.2.2 with
 |[.int p,.str s,.int i]=>⟨t.2.1,p,s,some i⟩
 |[.int p,.str s,_]=>⟨t.2.1,p,s,none⟩
 | _=>⟨0,0,"",none⟩)
theorem wl(z:Addr×Nd):un (tp z)=z:=by
 obtain⟨a,⟨n,p,s,st⟩⟩:=z;cases st<;>rfl
theorem back{zs:ZN}{ts:List hX}(h:ts.Perm (zs.map tp)):(ts.map un).Perm zs∧(ts.map un).map tp=ts:=by
 constructor
 ·have:=h.map un;rw[map_map]at this;have e:zs.map (un∘tp)=zs.map id:=map_congr_left λz _=>wl z;rw[e,List.map_id]at this;exact this
 ·rw[map_map,map_congr_left (g:=id)]
  ·simp
  ·intro t ht;obtain⟨z,_,rfl⟩:=mem_map.mp (h.mem_iff.mp ht);show tp (un (tp z))=tp z;rw[wl]
theorem jc(zs:ZN):((zs.map tp).map (·.1)).map V.ref=bu zs:=by
 unfold bu;simp only[map_map];rfl
theorem xf{n:Nat}{j:Int}(h0:0≤j)(h1:j<n):seqIndex? j n=some j.toNat:=(pQ (by unfold ixN;rw[if_pos h0,if_pos h1])).1
theorem lg:∀(l:List Int)(i:Nat),(l.map V.int).eraseIdx i=(l.eraseIdx i).map V.int
 |[],i=>by simp
 |a::l,0=>rfl
 |a::l,i+1=>by
  show V.int a::(l.map V.int).eraseIdx i=V.int a::(l.eraseIdx i).map V.int;rw[lg l i]
theorem qe{ns:List Int}{i:Int}(h0:0≤i)(h1:i<ns.length):∃x∈ns,atI (ns.map V.int) i=some (.int x):=by
 refine⟨ns[i.toNat]'(by omega),getElem_mem _,?_⟩;have:=gU (xs:=ns.map V.int) (j:=i.toNat) (v:=.int (ns[i.toNat]'(by omega))) (by rw[getElem?_map,getElem?_eq_getElem (by omega)];rfl);rw[show((i.toNat:Nat):Int)=i by omega]at this;exact this
theorem qf{j:Int}(h0:0≤j)(h1:j<4):∃x:Str,(x="a"∨x="b"∨x="c"∨x="abcde")∧atI [V.str "a",.str "b",.str "c",.str "abcde"] j=some (.str x):=by
 obtain rfl|rfl|rfl|rfl:j=0∨j=1∨j=2∨j=3:=by omega
 ·exact⟨"a",.inl rfl,rfl⟩
 ·exact⟨"b",.inr (.inl rfl),rfl⟩
 ·exact⟨"c",.inr (.inr (.inl rfl)),rfl⟩
 ·exact⟨"abcde",.inr (.inr (.inr rfl)),rfl⟩
theorem vi{j:Int}(h0:0≤j)(h1:j<4):∃i:Int,(some i=none∨some i=some (0:Int)∨some i=some 1∨some i=some 2∨some i=some 999)∧atI [V.int 0,.int 1,.int 2,.int 999] j=some (.int i):=by
 obtain rfl|rfl|rfl|rfl:j=0∨j=1∨j=2∨j=3:=by omega
 ·exact⟨0,.inr (.inl rfl),rfl⟩
 ·exact⟨1,.inr (.inr (.inl rfl)),rfl⟩
 ·exact⟨2,.inr (.inr (.inr (.inl rfl))),rfl⟩
 ·exact⟨999,.inr (.inr (.inr (.inr rfl))),rfl⟩
structure Sta(H:Hp)(pl pf pn:Addr)(Hx:Hp)(lf fs:List Int)(zs:ZN):Prop where
 same:Same H Hx
 l:Hx pl=some (.lst (lf.map V.int))
 f:Hx pf=some (.lst (fs.map V.int))
 n:Hx pn=some (.lst (bu zs))
 nd:At Hx zs
 l0:H pl=none
 f0:H pf=none
 n0:H pn=none
 lf':pl≠pf
 ln':pl≠pn
 fn':pf≠pn
theorem Sta.grow{H Hx Hy:Hp}{pl pf pn:Addr}{lf fs:List Int}{zs:ZN}(a:Sta H pl pf pn Hx lf fs zs)(s:Same Hx Hy):Sta H pl pf pn Hy lf fs zs :=
 ⟨a.same.trans s,s _ _ a.l,s _ _ a.f,s _ _ a.n,a.nd.same s,a.l0,a.f0,a.n0,a.lf',a.ln',a.fn'⟩
theorem At.over{H:Hp}{p:Addr}{xs:List V}{o:HO}{zs:ZN}(h:At H zs)(hp:H p=some (.lst xs)):At (upd H p o) zs:=λz hz=>by
 rw[aj]
 ·exact h z hz
 ·intro e;have:=h z hz;rw[e,hp]at this;cases this
theorem Sta.pop{H Hx:Hp}{pl pf pn:Addr}{lf fs:List Int}{zs:ZN}(a:Sta H pl pf pn Hx lf fs zs)(lf2:List Int):Sta H pl pf pn (upd Hx pl (.lst (lf2.map V.int))) lf2 fs zs :=
 ⟨aL a.l0 a.same,ac,by rw[aj (symm a.lf')];exact a.f,by rw[aj (symm a.ln')];exact a.n,a.nd.over a.l,a.l0,a.f0,a.n0,a.lf',a.ln',a.fn'⟩
theorem Sta.fold{H Hx:Hp}{pl pf pn:Addr}{lf fs:List Int}{zs:ZN}(a:Sta H pl pf pn Hx lf fs zs)(x:Int):Sta H pl pf pn (upd Hx pf (.lst (fs.map V.int++[.int x]))) lf (fs++[x]) zs :=
 ⟨aL a.f0 a.same,by rw[aj a.lf'];exact a.l,by rw[ac];simp,by rw[aj (symm a.fn')];exact a.n,a.nd.over a.f,a.l0,a.f0,a.n0,a.lf',a.ln',a.fn'⟩
theorem Sta.node{H Hx:Hp}{pl pf pn q:Addr}{lf fs:List Int}{zs:ZN}{n:Nd}(a:Sta H pl pf pn Hx lf fs zs)(hq:Hx q=some (.tup (vals n))):Sta H pl pf pn (upd Hx pn (.lst (bu zs++[.ref q]))) lf fs (zs++[(q,n)]) :=
 ⟨aL a.n0 a.same,by rw[aj a.ln'];exact a.l,by rw[aj a.fn'];exact a.f,by rw[ac,iD],(λz hz=>by
  rcases mem_append.mp hz with h|h
  ·exact a.nd.over a.n z h
  ·have ez:z=(q,n):=by simpa using h
   subst ez;rw[aj]
   ·exact hq
   ·intro e;have e':q=pn:=e;rw[e',a.n]at hq;cases hq),a.l0,a.f0,a.n0,a.lf',a.ln',a.fn'⟩
def lf0(m:Int):List Int:=(List.range (m+4-1).toNat).map λk=>(1:Int)+(k:Nat)
theorem vj{m:Int}(h:0≤m):((lf0 m).length:Int)=m+3:=by unfold lf0;rw[length_map,length_range];omega
theorem vk{m:Int}(h:m≤9):∀x∈lf0 m,1≤x∧x≤12:=λx hx=>by
 unfold lf0 at hx;obtain⟨k,hk,rfl⟩:=mem_map.mp hx;have:=mem_range.mp hk;omega
theorem xh(m:Int):(lf0 m).Nodup:=by
 unfold lf0 Nodup;rw[pairwise_map];exact List.nodup_range.imp λh e=>h (by omega)
theorem Bd.zero{m:Int}(h:m≤9):Bd [] (lf0 m):=⟨.nil,by show(([]:List Int)++lf0 m).Nodup;rw[nil_append];exact xh m,vk h,by unfold TW.eR nds;simp,by simp⟩
def eS(zs:ZN):List (Key×V):=zs.map λz=>((Sum.inl z.2.num:Key),V.ref z.1)
theorem lN{zs:ZN}(hn:((nds zs).map (·.num)).Nodup){z:Addr×Nd}(hz:z∈zs):bq (eS zs) (Sum.inl z.2.num:Key)=some (.ref z.1):=by
 induction zs with
 |nil=>simp at hz
 |cons y zs ih =>
  have hn':y.2.num∉(nds zs).map (·.num)∧((nds zs).map (·.num)).Nodup:=by simpa [nds]using hn
  show bq (((Sum.inl y.2.num:Key),V.ref y.1)::eS zs) _=_;rcases mem_cons.mp hz with e|hz'
  ·subst e;exact bp rfl
  ·rw[aY]
   ·exact ih hn'.2 hz'
   ·intro e;injection e with e
    exact hn'.1 (mem_map.mpr ⟨z.2,mem_map.mpr ⟨z,hz',rfl⟩,e.symm⟩)
theorem oI{zs:ZN}{k:Int}(h:∀z∈zs,z.2.num≠k):bq (eS zs) (Sum.inl k:Key)=none:=by
 induction zs with
 |nil=>rfl
 |cons y zs ih =>
  show bq (((Sum.inl y.2.num:Key),V.ref y.1)::eS zs) _=_;rw[aY]
  ·exact ih λz hz=>h z (mem_cons_of_mem _ hz)
  ·intro e;injection e with e
   exact h y (by simp) e
def oJ(H:Hp)(d:Addr)(zs:ZN):Prop:=∃o,H d=some (.frz o (.dK (eS zs)))
theorem oJ.get{H:Hp}{d:Addr}{zs:ZN}(h:oJ H d zs)(hn:((nds zs).map (·.num)).Nodup){z:Addr×Nd}(hz:z∈zs):fo H d (.int z.2.num) (some (.ref z.1)):=by
 obtain⟨o,e⟩:=h;exact .inl ⟨eS zs,Sum.inl z.2.num,.inr ⟨o,e⟩,rfl,(lN hn hz).symm⟩
theorem oJ.not{H:Hp}{d:Addr}{zs:ZN}(h:oJ H d zs){k:Int}(hk:∀z∈zs,z.2.num≠k):fo H d (.int k) none:=by
 obtain⟨o,e⟩:=h;exact .inl ⟨eS zs,Sum.inl k,.inr ⟨o,e⟩,rfl,(oI hk).symm⟩
theorem cu{ns:List Nd}(T:TW.Tree1 ns):(ns.map (·.num)).Nodup:=by
 have h:=T.rise;unfold TW.cX at h;unfold Nodup;rw[pairwise_map];exact h.imp λh e=>by omega
theorem vm{ys:List V}{zs:ZN}{H:Hp}{p:Addr}{g:Addr×Nd→List V}(hlen:ys.length=zs.length)(h:∀(i:Nat) y,ys[i]?=some y→∃q z,zs[i]?=some z∧y=.ref q∧q≠p∧H q=some (.tup (g z))):
  ∃as:List (Addr×(Addr×Nd)),as.map (·.2)=zs∧ys=(as.map (·.1)).map V.ref∧∀a∈as,a.1≠p∧H a.1=some (.tup (g a.2)):=by
 induction ys generalizing zs with
 |nil =>
  have:zs=[]:=length_eq_zero_iff.mp hlen.symm;subst this;exact⟨[],rfl,rfl,by simp⟩
 |cons y ys ih =>
  cases zs with
  |nil=>simp at hlen
  |cons z zs =>
   obtain⟨as,e1,e2,e3⟩:=ih (zs:=zs) (by simpa using hlen) λi x hx=>by simpa using h (i+1) x (by simpa using hx)
   obtain⟨q,z',f1,f2,f3,f4⟩:=h 0 y rfl;have:z=z':=by simpa using f1
   subst this;refine⟨(q,z)::as,by simp[e1],by simp[e2,f2],λa ha=>?_⟩;rcases mem_cons.mp ha with rfl|ha
   ·exact⟨f3,f4⟩
   ·exact e3 a ha
theorem jG{κ:Type}[DecidableEq κ]{kvs:List (κ×V)}(hn:(kvs.map (·.1)).Nodup){k:κ}{v:V}(h:(k,v)∈kvs):bq kvs k=some v:=by
 induction kvs with
 |nil=>simp at h
 |cons y kvs ih =>
  have hn':y.1∉kvs.map (·.1)∧(kvs.map (·.1)).Nodup:=by simpa using hn
  rcases mem_cons.mp h with e|h'
  ·subst e;exact bp rfl
  ·rw[aY]
   ·exact ih hn'.2 h'
   ·intro e;exact hn'.1 (mem_map.mpr ⟨_,h',e.symm⟩)
theorem qg{κ:Type}[DecidableEq κ]{kvs:List (κ×V)}{k:κ}(h:k∉kvs.map (·.1)):bq kvs k=none:=by
 induction kvs with
 |nil=>rfl
 |cons y kvs ih =>
  have h':¬k=y.1∧k∉kvs.map (·.1):=by simpa using h
  rw[aY (λe=>h'.1 e.symm)];exact ih h'.2
theorem vn{zs:ZN}{k:Int}{q:List Str}(T:TW.Tree1 (nds zs))(h:TW.PathTo (nds zs) k q)(hk:k≠0):∃z∈zs,z.2.num=k∧∃q',q=q'++[z.2.nm]∧TW.PathTo (nds zs) z.2.par q':=by
 cases h with
 |top=>exact absurd rfl hk
 |@node n q' hm hq' =>
  obtain⟨z,hz,rfl⟩:=mem_map.mp hm;exact⟨z,hz,rfl,q',rfl,hq'⟩
def ff(P:Program)(w:World)(K:PySem.W.Frag)(mg:Str→Option Value)(base:Heap)(k:Nat)(x:Str)(ps:List Str)(sp:Sp):Prop:=∃f fd,FnOk P w K mg base (CX1 P w) k f fd ps sp∧mg x=some (.ref f)∧keepIn K (.ref f)=true∧aG K fd ps []
structure Tre(H:Hp)(t:Addr)(zs:ZN):Prop where
 tup:H t=some (.tup (bu zs))
 nod:At H zs
 tr:TW.Tree1 (nds zs)
 len:zs.length≤30
theorem Tre.same{H H':Hp}{t:Addr}{zs:ZN}(h:Tre H t zs)(s:Same H H'):Tre H' t zs:=⟨s _ _ h.tup,h.nod.same s,h.tr,h.len⟩
theorem rC{ns:List Nd}(T:TW.Tree1 ns){f:Int}{dn:List Int}{fd:List Nd}(wk:TW.Walk ns f dn fd []):(fd.map (·.num)).Nodup:=by
 have h:=cu T;have:(fd.map (·.num)).Perm ((ns.filter (TW.fe dn)).map (·.num)):=wk.perm.map _;exact this.nodup_iff.mpr (h.sublist (filter_sublist.map _))
theorem _root_.L2.Same.rd{H H':Hp}(s:Same H H'){a:Addr}{u:HO}(r:Rd H a u):Rd H' a u:=by
 rcases r with r|⟨o,r⟩
 ·exact .inl (s _ _ r)
 ·exact .inr ⟨o,s _ _ r⟩
def bj(as:List (Addr×(Addr×Nd))):List (Key×V):=as.map λa=>((Sum.inl a.2.2.num:Key),V.ref a.1)
def bX(n:Nd):List V:=[.int n.par,.str n.nm,stV n.st]
structure Book(H:Hp)(d:Addr)(as:List (Addr×(Addr×Nd)))(zs:ZN):Prop where
 dict:Rd H d (.dK (bj as))
 of:as.map (·.2)=zs
 at':∀a∈as,H a.1=some (.tup (bX a.2.2))
theorem Book.same{H H':Hp}{d:Addr}{as:List (Addr×(Addr×Nd))}{zs:ZN}(b:Book H d as zs)(s:Same H H'):Book H' d as zs:=⟨s.rd b.dict,b.of,λa ha=>s _ _ (b.at' a ha)⟩
theorem jH{as:List (Addr×(Addr×Nd))}{zs:ZN}(h:as.map (·.2)=zs):(bj as).map (·.1)=((nds zs).map (·.num)).map (Sum.inl:Int→Key):=by
 rw[←h];unfold bj nds;simp only[map_map];rfl
theorem tw{as:List (Addr×(Addr×Nd))}{zs:ZN}(h:as.map (·.2)=zs)(hn:((nds zs).map (·.num)).Nodup):((bj as).map (·.1)).Nodup:=by
 rw[jH h];unfold Nodup at hn⊢;rw[pairwise_map];exact hn.imp λh e=>h (by injection e)
theorem Book.get{H:Hp}{d:Addr}{as:List (Addr×(Addr×Nd))}{zs:ZN}(b:Book H d as zs)(hn:((nds zs).map (·.num)).Nodup){z:Addr×Nd}(hz:z∈zs):∃q,fo H d (.int z.2.num) (some (.ref q))∧H q=some (.tup (bX z.2)):=by
 have:z∈as.map (·.2):=by rw[b.of];exact hz
 obtain⟨a,ha,rfl⟩:=mem_map.mp this;refine⟨a.1,.inl ⟨bj as,Sum.inl a.2.2.num,b.dict,rfl,?_⟩,b.at' a ha⟩;exact(jG (tw b.of hn) (mem_map.mpr ⟨a,ha,rfl⟩)).symm
theorem Book.not{H:Hp}{d:Addr}{as:List (Addr×(Addr×Nd))}{zs:ZN}(b:Book H d as zs){k:Int}(hk:∀z∈zs,z.2.num≠k):fo H d (.int k) none:=by
 refine .inl ⟨bj as,Sum.inl k,b.dict,rfl,(qg λhm=>?_).symm⟩;rw[jH b.of]at hm;obtain⟨i,hi,e⟩:=mem_map.mp hm;obtain⟨n,hn,rfl⟩:=mem_map.mp hi;obtain⟨z,hz,rfl⟩:=mem_map.mp hn;injection e with e
 exact hk z hz e
def tz(ns:List Nd)(k:Int):Nat:=open Classical in if h:∃p,TW.PathTo ns k p then (Classical.choose h).length else 0
theorem qh{ns:List Nd}(T:TW.Tree1 ns){k:Int}{p:List Str}(h:TW.PathTo ns k p):tz ns k=p.length:=by
 unfold tz;have hx:∃p,TW.PathTo ns k p:=⟨p,h⟩;rw[dif_pos hx];rw[(Classical.choose_spec hx).uniq T h]
theorem zM(n:Nd):atI (bX n) 0=some (.int n.par):=rfl
abbrev jI(x:Str)(mg:Str→Option Value)(base:Heap)(C:Addr):Prop:=PyProof.Rows.OwnCls x C bmV "ValueError.__new__" mg base
theorem qi(o:Option Int):(!decide (stV o=V.non))=o.isSome:=by cases o<;>simp[stV]
theorem cz(zs:ZN):zs.map (λz=>V.ref z.1)=bu zs:=by simp[bu]
def zN:TW.Wd→Str
 |.known=>"Known"
 |.noNode=>"NoNode"
 |.notFile=>"NotFile"
 |.notFolder=>"NotFolder"
 |.inside=>"Inside"
 |.taken=>"Taken"
abbrev vo(mg:Str→Option Value)(base:Heap)(cls:TW.Wd→Addr):Prop:=∀w,jI (zN w) mg base (cls w)
structure Outs(H:Hp)(t:List Nd)(d:TW.Deed Str)(cls:TW.Wd→Addr)(Q:VK)(E:XK):Prop where
 ok:∀us t' H',Same H H'→H' t'=some (.tup (bu us))→At H' us→TW.Told t d (.inr (nds us))→Q (.ref t') H'
 no:∀w H',Same H H'→TW.Told t d (.inl w)→E (.ref (cls w)) none H'
theorem iN{K:PySem.W.Frag}{H:Hp}{l:Addr}{zs:ZN}{Q:VK}(hl:SqL K H l (bu zs)∨SqT K H l (bu zs))(hA:At H zs)(hn:((nds zs).map (·.num)).Nodup)(h64:zs.length<64)(q:∀us t' H',Same H H'→H' t'=some (.tup (bu us))→At H' us→us.Perm zs→TW.cX (nds us)→Q (.ref t') H'):
  ∃l',∃ts:List hX,[V.ref l]=[V.ref l']∧(SqL K H l' ((ts.map (·.1)).map V.ref)∨SqT K H l' ((ts.map (·.1)).map V.ref))∧(∀z∈ts,H z.1=some (.tup (.int z.2.1::z.2.2)))∧(ts.map (·.2.1)).Nodup∧ts.length<64 ∧
   ∀ts':List hX,ts'.Perm ts→ts'.Pairwise (λa b=>a.2.1<b.2.1)→∀p,H p=none→∃p' ys,[V.ref p]=[V.ref p']∧((SqL K (upd H p (.lst ((ts'.map (·.1)).map V.ref))) p' ys∧∀l,upd H p (.lst ((ts'.map (·.1)).map V.ref)) l=none→Q (.ref l) (upd (upd H p (.lst ((ts'.map (·.1)).map V.ref))) l (.tup ys))) ∨
    (SqT K (upd H p (.lst ((ts'.map (·.1)).map V.ref))) p' ys∧Q (.ref p') (upd H p (.lst ((ts'.map (·.1)).map V.ref))))):=by
 have hnum:(zs.map tp).map (·.2.1)=(nds zs).map (·.num):=by
  unfold nds;simp only[map_map];rfl
 refine⟨l,zs.map tp,rfl,by rw[jc];exact hl,λz hz=>?_,by rw[hnum];exact hn,by rw[length_map];exact h64,λts pm up p hp=>?_⟩
 ·obtain⟨y,hy,rfl⟩:=mem_map.mp hz;exact hA y hy
 ·obtain⟨pm2,eb⟩:=back pm;have er:(ts.map (·.1)).map V.ref=bu (ts.map un):=by rw[←jc,eb]
  rw[er];refine⟨p,_,rfl,.inl ⟨SqL.of ac,λl hl=>?_⟩⟩;refine q (ts.map un) l _ ((ae hp).trans (ae hl)) ac ?_ pm2 ?_
  ·intro z hz;exact((ae hp).trans (ae hl)) _ _ (hA z (pm2.mem_iff.mp hz))
  ·unfold nds TW.cX;rw[pairwise_map];have up2:((ts.map un).map tp).Pairwise (λa b=>a.2.1<b.2.1):=by rw[eb];exact up
   rw[pairwise_map]at up2;exact up2
def aS:TW.Deed Str→List V
 |.make n p nm st=>[.str "make",.int n,.int p,.str nm,stV st]
 |.write n st=>[.str "write",.int n,.int st]
 |.move n p nm=>[.str "move",.int n,.int p,.str nm]
 |.drop n=>[.str "drop",.int n]
def dC:TW.Deed Str→Prop
 |.make n p nm _=>1≤n∧n≤60∧0≤p∧p≤60∧nm.length≤100
 |.write n _=>1≤n∧n≤60
 |.move n p nm=>1≤n∧n≤60∧0≤p∧p≤60∧nm.length≤100
 |.drop n=>1≤n∧n≤60
theorem dC.pos{d:TW.Deed Str}(h:dC d):d.pos:=by
 cases d<;>first|exact h.1|trivial
theorem ck{zs:ZN}{z:Addr×Nd}(h:z∈zs):z.2∈nds zs:=mem_map.mpr ⟨z,h,rfl⟩
theorem gJ{zs:ZN}{n:Nd}(h:n∈nds zs):∃z∈zs,z.2=n:=mem_map.mp h
theorem cM{zs:ZN}{k:Int}(h:¬∃z∈zs,z.2.num=k):¬TW.cK (nds zs) k:=λ⟨m,hm,e⟩=>by
 obtain⟨z,hz,rfl⟩:=gJ hm;exact h ⟨z,hz,e⟩
theorem eK{zs:ZN}{k:Int}{z:Addr×Nd}(hz:z∈zs)(e:z.2.num=k):TW.cK (nds zs) k:=⟨z.2,ck hz,e⟩
def iO:TW.Wd→Str
 |.known=>"known"
 |.noNode=>"no node"
 |.notFile=>"not file"
 |.notFolder=>"not folder"
 |.inside=>"inside"
 |.taken=>"taken"
def bQ(bs:List (Addr×Nd)):List (Key×V):=bs.map λb=>((Sum.inl b.2.num:Key),V.ref b.1)
theorem lO(as:List (Addr×(Addr×Nd))):bj as=bQ (as.map λa=>(a.1,a.2.2)):=by
 unfold bj bQ;rw[map_map];rfl
theorem jJ(bs:List (Addr×Nd)):(bQ bs).map (λp=>kV p.1)=bs.map λb=>V.int b.2.num:=by
 unfold bQ;rw[map_map];rfl
theorem lh{bs:List (Addr×Nd)}(hn:(bs.map (·.2.num)).Nodup){b:Addr×Nd}(hb:b∈bs):bq (bQ bs) (Sum.inl b.2.num:Key)=some (.ref b.1):=by
 refine jG ?_ (mem_map.mpr ⟨b,hb,rfl⟩);unfold bQ;rw[map_map];unfold Nodup at hn⊢;rw[pairwise_map]at hn⊢;exact hn.imp λh e=>h (by injection e)
theorem rD(bs:List (Addr×Nd))(c:Addr)(n:Nd):cg (bQ bs) (Sum.inl n.num:Key) (.ref c)=bQ (if ∃b∈bs,b.2.num=n.num then bs.map (λb=>if b.2.num=n.num then (c,n)else b)else bs++[(c,n)]):=by
 unfold cg
 by_cases h:∃b∈bs,b.2.num=n.num
 ·obtain⟨b,hb,e⟩:=h;have ha:((bQ bs).any λkv=>decide (kv.1=(Sum.inl n.num:Key)))=true:=by
   rw[any_eq_true];exact⟨_,mem_map.mpr ⟨b,hb,rfl⟩,by simp[e]⟩
  rw[if_pos ha,if_pos ⟨b,hb,e⟩];unfold bQ;rw[map_map,map_map];apply map_congr_left;intro x _;show(if (Sum.inl x.2.num:Key)=Sum.inl n.num then ((Sum.inl x.2.num:Key),V.ref c)else ((Sum.inl x.2.num:Key),V.ref x.1))=_
  by_cases e:x.2.num=n.num
  ·rw[if_pos (by rw[e])];show _=((Sum.inl (if x.2.num=n.num then (c,n)else x).2.num:Key),V.ref (if x.2.num=n.num then (c,n)else x).1)
   rw[if_pos e,e]
  ·rw[if_neg (λh=>e (by injection h))];show _=((Sum.inl (if x.2.num=n.num then (c,n)else x).2.num:Key),V.ref (if x.2.num=n.num then (c,n)else x).1)
   rw[if_neg e]
 ·have ha:¬((bQ bs).any λkv=>decide (kv.1=(Sum.inl n.num:Key)))=true:=λha=>h (by
   obtain⟨y,hy,e⟩:=any_eq_true.mp ha;obtain⟨b,hb,rfl⟩:=mem_map.mp hy;have e':(Sum.inl b.2.num:Key)=Sum.inl n.num:=by simpa using e
   exact⟨b,hb,by injection e'⟩)
  rw[if_neg ha,if_neg h];unfold bQ;rw[map_append];rfl
theorem xi(n:Nd):atI (bX n) 2=some (stV n.st):=rfl
theorem nD{H:Hp}{d q:Addr}{as:List (Addr×(Addr×Nd))}{zs:ZN}{new:Nd}(hd:H d=some (.dK (bj as)))(hof:as.map (·.2)=zs)(hat:∀a∈as,H a.1=some (.tup (bX a.2.2)))(hq:H q=some (.tup (bX new)))(hnd:((nds zs).map (·.num)).Nodup):
  ∃bs:List (Addr×Nd),upd H d (.dK (cg (bj as) (Sum.inl new.num:Key) (.ref q))) d=some (.dK (bQ bs))∧(∀b∈bs,upd H d (.dK (cg (bj as) (Sum.inl new.num:Key) (.ref q))) b.1=some (.tup (bX b.2)))∧(bs.map (·.2.num)).Nodup∧bs.length≤zs.length+1 ∧
   ((TW.cK (nds zs) new.num∧bs.map (·.2)=(nds zs).map (TW.put new))∨(¬TW.cK (nds zs) new.num∧bs.map (·.2)=nds zs++[new])):=by
 have en:(as.map λa=>(a.1,a.2.2)).map (·.2)=nds zs:=by rw[←hof];unfold nds;rw[map_map,map_map];rfl
 have hl:(as.map λa=>(a.1,a.2.2)).length=zs.length:=by rw[←hof,length_map,length_map]
 have ne:∀a xs,H a=some (.tup xs)→a≠d:=λa xs h e=>by rw[e,hd]at h;cases h
 have hat':∀b∈as.map (λa=>(a.1,a.2.2)),H b.1=some (.tup (bX b.2)):=λb hb=>by
  obtain⟨a,ha,rfl⟩:=mem_map.mp hb;exact hat a ha
 rw[lO,rD];generalize as.map (λa=>(a.1,a.2.2))=cs at en hl hat'⊢;have hh:(∃b∈cs,b.2.num=new.num)↔TW.cK (nds zs) new.num:=by
  rw[←en];constructor
  ·rintro⟨b,hb,e⟩;exact⟨b.2,mem_map.mpr ⟨b,hb,rfl⟩,e⟩
  ·rintro⟨m,hm,e⟩;obtain⟨b,hb,rfl⟩:=mem_map.mp hm;exact⟨b,hb,e⟩
 have hn2:(cs.map (·.2.num)).Nodup:=by
  have:cs.map (·.2.num)=(nds zs).map (·.num):=by rw[←en,map_map];rfl
  rw[this];exact hnd
 by_cases h:∃b∈cs,b.2.num=new.num
 ·rw[if_pos h];refine⟨_,ac,λb hb=>?_,?_,by rw[length_map];omega,.inl ⟨hh.mp h,?_⟩⟩
  ·obtain⟨c,hc,rfl⟩:=mem_map.mp hb
   by_cases e:c.2.num=new.num
   ·rw[if_pos e,aj (ne _ _ hq)];exact hq
   ·rw[if_neg e,aj (ne _ _ (hat' c hc))];exact hat' c hc
  ·have:(cs.map λb=>if b.2.num=new.num then (q,new)else b).map (·.2.num)=cs.map (·.2.num):=by
    rw[map_map];apply map_congr_left;intro c _;show(if c.2.num=new.num then (q,new)else c).2.num=c.2.num
    by_cases e:c.2.num=new.num
    ·rw[if_pos e];exact e.symm
    ·rw[if_neg e]
   rw[this];exact hn2
  ·rw[←en,map_map,map_map];apply map_congr_left;intro c _;show(if c.2.num=new.num then (q,new)else c).2=TW.put new c.2
   unfold TW.put
   by_cases e:c.2.num=new.num
   ·rw[if_pos e,if_pos e]
   ·rw[if_neg e,if_neg e]
 ·rw[if_neg h];refine⟨_,ac,λb hb=>?_,?_,by rw[length_append];simp;omega,.inr ⟨λx=>h (hh.mpr x),by rw[map_append,en];rfl⟩⟩
  ·rcases mem_append.mp hb with hb|hb
   ·rw[aj (ne _ _ (hat' b hb))];exact hat' b hb
   ·have e:b=(q,new):=by simpa using hb
    subst e;rw[aj (ne _ _ hq)];exact hq
  ·rw[map_append,nodup_append];refine⟨hn2,by simp,λx hx y hy e=>?_⟩;have ey:y=new.num:=by simpa using hy
   obtain⟨b,hb,eb⟩:=mem_map.mp hx;exact h ⟨b,hb,by rw[eb,e,ey]⟩
def jK(t:List Nd)(dd:TW.Deed Str)(n p:Int)(nm:Str):Prop:=(∃st,dd=.make n p nm st∧¬TW.cK t n)∨(dd=.move n p nm∧TW.cK t n)
theorem jK.no{t:List Nd}{dd:TW.Deed Str}{n p:Int}{nm:Str}(h:jK t dd n p nm)(h0:p≠0)(hp:¬TW.cK t p):TW.Told t dd (.inl .noNode):=by
 rcases h with⟨st,rfl,hn⟩|⟨rfl,hn⟩
 ·exact .mNo hn h0 hp
 ·exact .vNoP hn h0 hp
theorem jK.file{t:List Nd}{dd:TW.Deed Str}{n p:Int}{nm:Str}(h:jK t dd n p nm)(h0:p≠0){m:Nd}(hm:m∈t)(e:m.num=p)(hs:m.st≠none):TW.Told t dd (.inl .notFolder):=by
 rcases h with⟨st,rfl,hn⟩|⟨rfl,hn⟩
 ·exact .mFile hn h0 hm e hs
 ·exact .vFile hn h0 hm e hs
def NotIn(t:List Nd)(dd:TW.Deed Str)(n p:Int):Prop:=(∃nm,dd=.move n p nm)→p≠0→¬TW.Und t n p
theorem jK.taken{t:List Nd}{dd:TW.Deed Str}{n p:Int}{nm:Str}(h:jK t dd n p nm)(hF:TW.ic t p)(hi:NotIn t dd n p){m:Nd}(hm:m∈t)(hne:m.num≠n)(e1:m.par=p)(e2:m.nm=nm):TW.Told t dd (.inl .taken):=by
 rcases h with⟨st,rfl,hn⟩|⟨rfl,hn⟩
 ·exact .mTaken hn hF hm e1 e2
 ·exact .vTaken hn hF (hi ⟨_,rfl⟩) hm hne e1 e2
def nE(x:Str):Prop:=x="a"∨x="b"∨x="c"∨x="abcde"
def xj(s:Option Int):Prop:=∀i,s=some i→0≤i∧i≤999
def ik(n:Nd):Prop:=1≤n.num∧n.num≤60∧nE n.nm∧xj n.st
def bR:TW.Deed Str→Prop
 |.make n p nm st=>1≤n∧n≤60∧0≤p∧p≤60∧nE nm∧xj st
 |.write n st=>1≤n∧n≤60∧0≤st∧st≤999
 |.move n p nm=>1≤n∧n≤60∧0≤p∧p≤60∧nE nm
 |.drop n=>1≤n∧n≤60
theorem nE.len{x:Str}(h:nE x):x.length≤100:=by
 rcases h with rfl|rfl|rfl|rfl<;>decide +kernel
theorem bR.ok{d:TW.Deed Str}(h:bR d):dC d:=by
 cases d with
 |make n p nm st=>obtain⟨h1,h2,h3,h4,h5,_⟩:=h;exact⟨h1,h2,h3,h4,h5.len⟩
 |write n st=>exact⟨h.1,h.2.1⟩
 |move n p nm=>obtain⟨h1,h2,h3,h4,h5⟩:=h;exact⟨h1,h2,h3,h4,h5.len⟩
 |drop n=>exact h
theorem ik.told{t u:List Nd}{d:TW.Deed Str}(ht:∀n∈t,ik n)(hd:bR d)(h:TW.Told t d (.inr u)):∀n∈u,ik n:=by
 refine h.all ht (λn p nm st e=>?_) (λn st e y hy ey=>?_) (λn p nm e y hy ey=>?_)
 ·subst e;obtain⟨h1,h2,h3,h4,h5,h6⟩:=hd;exact⟨h1,h2,h5,h6⟩
 ·subst e;obtain⟨h1,h2,h3,h4⟩:=hd;exact⟨h1,h2,(ht y hy).2.2.1,λi e=>by injection e with e;omega⟩
 ·subst e;obtain⟨h1,h2,h3,h4,h5⟩:=hd;exact⟨h1,h2,h5,(ht y hy).2.2.2⟩
theorem vh.ok{n:Nd}(h:vh n):ik n:=by
 obtain⟨h1,h2,h3,h4⟩:=h;refine⟨h1,by omega,h3,λi e=>?_⟩;rcases h4 with h|h|h|h|h<;>rw[h]at e<;>cases e<;>decide
theorem qj{ns:List Int}{i:Int}(h0:0≤i)(h1:i<ns.length){P:Int→Prop}(hP:∀x∈ns,P x):∃x,atI (ns.map V.int) i=some (.int x)∧P x:=by
 obtain⟨x,hx,e⟩:=qe h0 h1;exact⟨x,e,hP x hx⟩
def top(i:Nat):Stmt:=PySem.Challenge.pw_treewatch_k86_whole_ledger_twins.main.body.getD i (.Pass ⟨0,0,0,0⟩)
abbrev eT:Stmt:=cq (top 34) 0
abbrev dP:Stmt:=cq (top 34) 1
abbrev gK:Stmt:=cq (top 34) 2
abbrev fO:Stmt:=cq (top 34) 3
abbrev dD:Stmt:=cq (top 34) 4
abbrev eU:Stmt:=cq (top 34) 6
abbrev fQ:Stmt:=cq (top 34) 7
abbrev dQ:Stmt:=cq (top 34) 9
abbrev cN:Stmt:=cq (top 34) 10
abbrev eV:Stmt:=cq (top 34) 11
abbrev dR:Stmt:=cq (top 34) 12
abbrev dS:Stmt:=cq (top 34) 13
abbrev eW:Stmt:=cq (top 34) 14
abbrev tE:Stmt:=top 19
abbrev xk:Stmt:=top 20
abbrev xl:Stmt:=top 21
abbrev xm:Stmt:=top 22
abbrev xn:Stmt:=top 23
abbrev xo:Stmt:=top 24
abbrev xp:Stmt:=top 26
abbrev qk:Stmt:=top 27
abbrev tF:Stmt:=top 28
abbrev oK:Stmt:=top 29
abbrev tG:Stmt:=top 30
abbrev ql:Stmt:=top 31
abbrev tH:Stmt:=top 32
abbrev tI:Stmt:=top 36
abbrev tJ:Stmt:=top 37
abbrev iE:Stmt:=top 38
abbrev tK:Stmt:=top 39
abbrev oM:Stmt:=top 41
abbrev cp:Stmt:=top 42
abbrev iP:Stmt:=top 43
abbrev dN:Stmt:=top 44
abbrev eX:Stmt:=top 45
abbrev gL:Stmt:=top 46
abbrev eY:Stmt:=top 47
abbrev iF:Stmt:=top 48
abbrev dq:Stmt:=top 49
abbrev rE:Stmt:=top 50
structure Txt(mg:Str→Option Value):Prop where
 isin:mg "isinstance"=none
 dict:mg "dict"=none
 len:mg "len"=none
 tuple:mg "tuple"=none
 list:mg "list"=none
 range:mg "range"=none
 sorted:mg "sorted"=none
 reversed:mg "reversed"=none
 ValueError:mg "ValueError"=none
 str:mg "str"=none
 set:mg "set"=none
 max:mg "max"=none
 min:mg "min"=none
 sum:mg "sum"=none
 zip:mg "zip"=none
 enumerate:mg "enumerate"=none
 all:mg "all"=none
 int:mg "int"=none
 bool:mg "bool"=none
 top:∃t,mg "TOP"=some (.int 0 t)
 letters:∃t,mg "LETTERS"=some (.str "abcdefghijklmnopqrstuvwxyz" t)
 longest:∃t,mg "LONGEST_NAME"=some (.int 5 t)
section
variable{P:Program}{w:World}{K:PySem.W.Frag}{mg:Str→Option Value}{base:Heap}
def qm:Sp:=λvs H Q _=>∃t f zs,vs=[.ref t,.int f]∧H t=some (.tup (bu zs))∧At H zs∧zs.length≤100∧∀fd dn l H',TW.Walk (nds zs) f dn fd []→H' l=some (.lst (eJ fd))→Same H H'→Q (.ref l) H'
theorem jL:FnScope ["nodes","folder","members","node","found","pending","here"] ["nodes","folder"] (am xk):=fsc
theorem xq{f:Addr}{fd:FuncData}(F:Fun K "numbers_inside" "numbers_inside" xk f fd)(T:Txt mg):FnOk P w K mg base CX0 1 f fd ["nodes","folder"] qm:=by
 refine F.ok jL (λvs H Q E h=>?_) (λcdv A outer s H vs Q E hr h=>?_)
 ·obtain⟨t,f,zs,rfl,_⟩:=h;rfl
 ·obtain⟨t,f,zs,rfl,ht,hA,hl,k⟩:=h;refine⟨_,ai (aJ (i:=2) jL.nd rfl (Or.inl rfl) gZ)
   (ai (eP PassesOwn.never rfl (eO (pv 0)) (aQ (i:=3) jL.nd rfl (Or.inl rfl)) (ao (bn (fk plainAttrs_list PySem.F.slot_list_append PySem.F.type_list_append ce
     (fk plainAttrs_dict PySem.F.slot_dict_setdefault PySem.F.type_dict_setdefault kj (pv 2) (aa (aB aA (pv 3) ak (λ_ _=>rfl)) (aa (ba af) af))) (aa (pv 3) af)))))
   (ai (aJ (i:=4) jL.nd rfl (Or.inl rfl) (ba af))
   (ai (aJ (i:=5) jL.nd rfl (Or.inl rfl) (ba (aa (pv 1) af)))
   (ai (ma PassesOwn.never (ml (pv 5) (λ_=>rfl))
    (ai (aJ (i:=6) jL.nd rfl (Or.inl rfl) (sG (pv 2) (sC plainAttrs_list slot_list_pop type_list_pop sE (pv 5)) (ba af) ⟨rfl,rfl,rfl,rfl⟩))
    (ao (eP PassesOwn.never rfl (gk (pv 6)) (aQ (i:=3) jL.nd rfl (Or.inl rfl))
     (ai (bn (fk plainAttrs_list PySem.F.slot_list_append PySem.F.type_list_append ce (pv 4) (aa (aB aA (pv 3) ak (λ_ _=>rfl)) af)))
     (ao (aX (au jk (aB aA (pv 3) ak (λ_ _=>rfl)) dz (aD _)) (ao (bn (fk plainAttrs_list PySem.F.slot_list_append PySem.F.type_list_append ce (pv 5) (aa (aB aA (pv 3) ak (λ_ _=>rfl)) af)))) aE)))))))
   (ao (ax (pv 4))))))),?_⟩
  refine λd hd=>?_;have z100:∀{n:Nat},n≤100→n<sizeLine:=λh=>ay (by omega);refine⟨_,rfl,t,rfl,⟨_,SqT.of (bf hd ht)⟩,pG (xs:=bu zs) (λi σ H'=>∃L kvs on,σ=[some (.ref t),some (.int f),some (.ref d),on,none,none,none]∧Mem H H' d L kvs (zs.take i) [])
   ⟨_,_,_,rfl,Mem.start hd⟩ (λi σ H' _ h=>?_) (λi x σ H' hx h=>?_) (λσ H' h=>?_)⟩
  ·obtain⟨_,_,_,_,m⟩:=h;exact SqT.of (m.same _ _ ht)
  ·obtain⟨L,kvs,on,rfl,m⟩:=h;obtain⟨z,gz,rfl⟩:=eI hx;have mz:=mem_of_getElem? gz;have ez:zs.take (i+1)=zs.take i++[z]:=by rw[take_succ,gz];rfl
   have hkl:kvs.length≤100:=by have:=m.len;rw[length_take]at this;omega
   refine⟨_,rfl,.inr (.inr (.inl ⟨rfl,.inl ⟨_,m.dict⟩⟩)),_,rfl,z.1,_,_,_,rfl,rfl,SqT.of (m.same _ _ (hA z mz)),at1 z.2,zero_le _,λq hq=>?_⟩;have m':=m.grow (ae (o:=.lst []) hq);refine⟨d,kvs,.inl z.2.par,.ref q,rfl,rfl,m'.dict,z100 hkl,λv hv=>?_,λhn=>?_⟩
   ·rw[m.val]at hv
    by_cases h:z.2.par∈([]:List Int)∨ins (zs.take i) z.2.par=[]
    ·rw[if_pos h]at hv;cases hv
    ·rw[if_neg h]at hv;cases hv;have h2:ins (zs.take i) z.2.par≠[]:=λz=>h (.inr z);have a:=(m'.at' z.2.par (by simp) h2).1;refine⟨.inl ⟨rfl,_,SqL.of a⟩,_,rfl,_,_,_,rfl,rfl,a,?_,?_⟩
     ·refine z100 ?_;rw[cn];exact le_trans (Sublist.length_le (Sublist.trans filter_sublist (take_sublist _ _))) hl
     ·refine⟨L,kvs,_,rfl,?_⟩;rw[ez];exact m'.hit h2
   ·rw[m.val]at hn
    by_cases h:z.2.par∈([]:List Int)∨ins (zs.take i) z.2.par=[]
    ·have h2:ins (zs.take i) z.2.par=[]:=h.resolve_left (by simp);have hqd:q≠d:=λe=>by rw[e,m.dict]at hq;cases hq
     have a:upd (upd H' q (.lst [])) d (.dK (cg kvs (Sum.inl z.2.par:Key) (.ref q))) q=some (.lst []):=by rw[aj hqd];exact ac
     refine⟨.inl ⟨rfl,_,SqL.of a⟩,_,rfl,q,[],_,rfl,rfl,a,z100 (zero_le _),?_⟩;have fr:=m.fresh (z:=z) h2 hq;rw[←ez]at fr;exact⟨_,_,_,rfl,fr⟩
    ·rw[if_neg h]at hn;cases hn
  ·obtain⟨L,kvs,on,rfl,m⟩:=h;rw[cn,take_length]at m;refine⟨zero_le _,λpf hpf=>⟨_,rfl,aq (by simp),λpp hpp=>?_⟩⟩;have m1:=(m.grow (ae (o:=.lst []) hpf)).grow (ae (o:=.lst [.int f]) hpp);have hpf0:H pf=none:=m.same.free hpf;have hne:pp≠pf:=λe=>by rw[e,ac]at hpp;cases hpp
   have hpp0:H pp=none:=by rw[aj hne]at hpp;exact m.same.free hpp
   dsimp only[cw,lZ];refine mf (λσ H'=>∃L kvs dn fd pd on oh,σ=[some (.ref t),some (.int f),some (.ref d),on,some (.ref pf),some (.ref pp),oh]∧pd.length≤fd.length+1∧Mem H H' d L kvs zs dn∧TW.Walk (nds zs) f dn fd pd∧H' pf=some (.lst (eJ fd))∧H' pp=some (.lst (pd.map V.int)))
    (λσ H'=>2*(zs.length-lc H' pf)+lc H' pp) ⟨L,kvs,[],[],[f],_,_,rfl,le_refl _,m1,TW.Walk.start _ _,by rw[aj (symm hne),ac];rfl,ac⟩ (λσ H' h=>?_) ?_
   ·obtain⟨L,kvs,dn,fd,pd,on,oh,rfl,hpl,m,wk,ef,ep⟩:=h;refine⟨_,rfl,_,.inl ⟨_,SqL.of ep,rfl⟩,?_⟩
    by_cases hpd:pd=[]
    ·subst hpd;exact aM ⟨_,rfl,k fd dn pf H' wk ef m.same⟩
    ·obtain⟨pd',x,rfl⟩:∃pd' x,pd=pd'++[x]:=⟨pd.dropLast,pd.getLast hpd,(List.dropLast_concat_getLast hpd).symm⟩;have et:(!((pd'++[x]).map V.int).isEmpty)=true:=by simp
     rw[if_pos et];have elast:((pd'++[x]).map V.int)[((pd'++[x]).map V.int).length-1]?=some (.int x):=by simp
     have edrop:((pd'++[x]).map V.int).dropLast=pd'.map V.int:=by simp
     refine⟨_,rfl,d,rfl,.inl ⟨_,Rd.of m.dict⟩,_,rfl,.inl ⟨rfl,_,SqL.of ep⟩,pp,_,.int x,rfl,rfl,ep,elast,zero_le _,λq hq=>?_⟩;rw[edrop]at hq⊢;have m2:=(m.other (o:=.lst (pd'.map V.int)) ep hpp0).grow (ae (o:=.lst []) hq);have hqp:q≠pp:=λe=>by rw[e,ac]at hq;cases hq
     have hqf:q≠pf:=λe=>by rw[e,aj (symm hne),ef]at hq;cases hq
     refine tu m2 ac λhl Hc kvs' hs m3 ehl eh hsub hkeep hnil=>?_;have df:pf≠d:=λe=>by have:=m.dict;rw[←e,ef]at this;cases this
     have dp:pp≠d:=λe=>by have:=m.dict;rw[←e,ep]at this;cases this
     have ef3:Hc pf=some (.lst (eJ fd)):=by rw[hkeep pf df,aj (symm hqf),aj (symm hne)];exact ef
     have ep3:Hc pp=some (.lst (pd'.map V.int)):=by rw[hkeep pp dp,aj (symm hqp),ac]
     have hlf:hl≠pf:=by
      by_cases h:hs=[]
      ·rw[hnil h];exact hqf
      ·exact qc ef3 ehl h
     have hlp:hl≠pp:=by
      by_cases h:hs=[]
      ·rw[hnil h];exact hqp
      ·exact qc ep3 ehl h
     have wk':=wk.turn;rw[←eh]at wk';have hlen:=wk'.len;rw[length_append,aZ,aZ]at hlen;rw[length_append,length_singleton]at hpl;refine⟨_,rfl,hl,rfl,⟨_,SqL.of ehl⟩,ji (xs:=bu hs) (λj σ H'=>∃on,σ=[some (.ref t),some (.int f),some (.ref d),on,some (.ref pf),some (.ref pp),some (.ref hl)]∧Mem H H' d L kvs' zs (x::dn)∧H' hl=some (.lst (bu hs)) ∧
      H' pf=some (.lst (eJ (fd++nds (hs.take j))))∧H' pp=some (.lst ((pd'++TW.aT (nds (hs.take j))).map V.int))) ⟨_,rfl,m3,ehl,by rw[ef3];simp[nds],by rw[ep3];simp[nds,TW.aT]⟩
      (λj σ H' _ h=>?_) (λj y σ H' hy h=>?_) (λσ H' h=>?_)⟩
     ·obtain⟨_,_,_,e,_⟩:=h;exact SqL.of e
     ·obtain⟨on,rfl,m4,e1,e2,e3⟩:=h;obtain⟨z,gz,rfl⟩:=eI hy;have mz:=hsub z (mem_of_getElem? gz);have ez:hs.take (j+1)=hs.take j++[z]:=by rw[take_succ,gz];rfl
      have l1:(eJ (fd++nds (hs.take j))).length≤100:=by
       unfold eJ;rw[length_map,length_map,length_append,aZ,length_take];omega
      have l2:((pd'++TW.aT (nds (hs.take j))).map V.int).length≤1000:=by
       have:=TW.dM (nds (hs.take j));rw[aZ,length_take]at this;rw[length_map,length_append];omega
      have g0:∀{Hx:Hp},Same H Hx→Hx z.1=some (.tup (vals z.2)):=λs=>s _ _ (hA z mz);have e4:eJ (fd++nds (hs.take (j+1)))=eJ (fd++nds (hs.take j))++[.int z.2.num]:=by rw[ez];simp[eJ,nds]
      have m5:Mem H (upd H' pf (.lst (eJ (fd++nds (hs.take j))++[.int z.2.num]))) d L kvs' zs (x::dn):=m4.other e2 hpf0;have e5:(upd H' pf (.lst (eJ (fd++nds (hs.take j))++[.int z.2.num]))) hl=some (.lst (bu hs)):=by rw[aj hlf];exact e1
      have e6:(upd H' pf (.lst (eJ (fd++nds (hs.take j))++[.int z.2.num]))) pp=some (.lst ((pd'++TW.aT (nds (hs.take j))).map V.int)):=by rw[aj hne];exact e3
      refine⟨_,rfl,.inl ⟨rfl,_,SqL.of e2⟩,_,rfl,z.1,_,_,_,rfl,rfl,SqT.of (g0 m4.same),at0 z.2,pf,_,_,rfl,rfl,e2,z100 l1,?_⟩;refine⟨_,rfl,z.1,_,_,_,rfl,rfl,SqT.of (g0 m5.same),at3 z.2,rfl,_,rfl,?_⟩;cases est:z.2.st with
      |none =>
       have e7:TW.aT (nds (hs.take (j+1)))=TW.aT (nds (hs.take j))++[z.2.num]:=by rw[ez];simp[TW.aT,nds,est]
       refine be ⟨_,rfl,.inl ⟨rfl,_,SqL.of e6⟩,_,rfl,z.1,_,_,_,rfl,rfl,SqT.of (g0 m5.same),at0 z.2,pp,_,_,rfl,rfl,e6,ay l2,?_⟩;refine⟨_,rfl,m5.other e6 hpp0,by rw[aj hlp];exact e5,by rw[aj (symm hne),ac,e4],?_⟩;rw[ac,e7];simp
      |some i =>
       have e7:TW.aT (nds (hs.take (j+1)))=TW.aT (nds (hs.take j)):=by rw[ez];simp[TW.aT,nds,est]
       refine aM ⟨_,rfl,m5,e5,by rw[ac,e4],?_⟩;rw[e6,e7]
     ·obtain⟨on,rfl,m4,e1,e2,e3⟩:=h;rw[cn,take_length]at e2 e3;refine⟨⟨L,kvs',x::dn,_,_,on,_,rfl,?_,m4,wk',e2,e3⟩,?_⟩
      ·have:=TW.dM (nds hs);rw[aZ]at this;rw[length_append,length_append,aZ];omega
      show 2*(zs.length-lc H' pf)+lc H' pp<_;rw[ig e2,ig e3,ig ef,ig ep];have:=TW.dM (nds hs);rw[aZ]at this;simp only[eJ,length_map,length_append,aZ,length_singleton];omega
   ·rintro σ H Q Q' mo ⟨v,e,k,tv,q⟩;exact⟨v,e,k,tv,mo _ _ q⟩
def jM:Sp:=λvs H Q _=>∃t zs,vs=[.ref t]∧H t=some (.tup (bu zs))∧At H zs∧zs.length≤100∧((nds zs).map (·.num)).Nodup∧∀d H',Same H H'→oJ H' d zs→Q (.ref d) H'
theorem yM:FnScope ["tree"] ["tree"] (am xl):=fsc
theorem xr{f:Addr}{fd:FuncData}(F:Fun K "by_number" "by_number" xl f fd)(T:Txt mg):FnOk P w K mg base CX0 1 f fd ["tree"] jM:=by
 refine F.ok yM (λvs H Q E h=>?_) (λcdv A outer s H vs Q E hr h=>?_)
 ·obtain⟨t,zs,rfl,_⟩:=h;rfl
 ·obtain⟨t,zs,rfl,ht,hA,hl,hnd,k⟩:=h;refine⟨_,ao (ax (aW (oE rfl) rfl T.dict boot_dict (aa (hJ (N:=["node"]) (k:=1) (js:=[]) (g:=cw 0) rfl (fq rfl (by decide +kernel) (by decide +kernel) (by decide +kernel)) rfl (λi j x h=>by simp at h)
   (eO (pv 0)) (λs H fp=>aQ (i:=0) (show(["node"]:List Str).Nodup by decide +kernel) rfl (Or.inl rfl) (Or.inr rfl))
   (λs H fp=>aP (aa (aB (r:=iT K) aA (pv 0) ak (λ_ _=>rfl)) (aa (pv 0) af)))) af))),?_⟩
  refine⟨_,rfl,t,rfl,⟨_,SqT.of ht⟩,λp hp=>?_⟩;refine sW (fr:=[]) zs.length (by omega) hp rfl (λi y H'=>∃q z,zs[i]?=some z∧y=.ref q∧q≠p∧H' q=some (.tup [.int z.2.num,.ref z.1])) (λi y H1 H2 h ex=>?_) (λi H' hi s1=>?_) (λH' s1=>?_) ?_ (λi H' x H2 hi s1 hpl hy=>?_) (λys H' s1 hp' hlen hys=>?_)
  ·obtain⟨q,z,e1,e2,e3,e4⟩:=h;exact⟨q,z,e1,e2,e3,ex q _ e3 e4⟩
  ·exact⟨_,_,SqT.of (s1 _ _ ht),jE (getElem?_eq_getElem hi)⟩
  ·exact⟨_,SqT.of (s1 _ _ ht),by rw[cn];exact le_refl _⟩
  ·rintro _ _ _ _ m ⟨v1,b1,p1,xs,i1,v2,c1,c2,c3,c4,v3,b3,hz,q⟩;exact⟨v1,b1,p1,xs,i1,v2,c1,c2,c3,c4,v3,b3,hz,λl hl=>m _ _ (q l hl)⟩
  ·obtain⟨rfl,hx⟩:=hy;obtain⟨z,gz,rfl⟩:=eI (hx _ (SqT.of (s1 _ _ ht)));have mz:=mem_of_getElem? gz;refine⟨rfl,_,rfl,z.1,_,_,_,rfl,rfl,SqT.of (s1 _ _ (hA z mz)),at0 z.2,_,rfl,le2,λq hq=>⟨ae hq,q,z,gz,rfl,gI hpl hq,ac⟩⟩
  ·obtain⟨as,e1,e2,e3⟩:=vm (g:=λz=>[.int z.2.num,.ref z.1]) hlen hys;have e4:as.length=zs.length:=by rw[←e1,length_map]
   have e5:(as.map λa=>((Sum.inl a.2.2.num:Key),V.ref a.2.1))=eS zs:=by rw[←e1];unfold eS;rw[map_map];rfl
   refine⟨p,as.map λa=>(a.1,(Sum.inl a.2.2.num:Key),V.ref a.2.1),rfl,?_,?_,?_,?_,λd o hd=>?_⟩
   ·rw[hp',e2,map_map,map_map,map_map];rfl
   ·intro z hz;obtain⟨a,ha,rfl⟩:=mem_map.mp hz;exact(e3 a ha).2
   ·rw[length_map];omega
   ·rw[map_map];have:(as.map ((λx:Addr×Key×V=>x.2.1)∘λa=>(a.1,(Sum.inl a.2.2.num:Key),V.ref a.2.1)))=((nds zs).map (·.num)).map (Sum.inl:Int→Key):=by
     rw[←e1];unfold nds;simp only[map_map];rfl
    rw[this];unfold Nodup at hnd⊢;rw[pairwise_map];exact hnd.imp λh e=>h (by injection e)
   ·refine k d _ (s1.trans (ae hd)) ⟨o,?_⟩;rw[ac,map_map];exact congrArg (λx=>some (HO.frz o (.dK x))) e5
abbrev tL(mg:Str→Option Value)(base:Heap)(C:Addr):Prop:=PyProof.Rows.OwnCls "NoNode" C bmV "ValueError.__new__" mg base
def jN(C:Addr):Sp:=λvs H Q E=>∃d k zs,vs=[.ref d,.int k]∧oJ H d zs∧((nds zs).map (·.num)).Nodup∧0≤k∧k≤60∧(∀z∈zs,z.2.num=k→Q (.ref z.1) H)∧((∀z∈zs,z.2.num≠k)→E (.ref C) none H)
theorem yN:FnScope ["nodes","number"] ["nodes","number"] (am xm):=fsc
theorem xt{f C:Addr}{fd:FuncData}(F:Fun K "node_of" "node_of" xm f fd)(O:tL mg base C):FnOk P w K mg base (CX1 P w) 1 f fd ["nodes","number"] (jN C):=by
 refine F.okX yN (λvs H Q E h=>?_) (λcdv A outer s H vs Q E hr h=>?_)
 ·obtain⟨d,k,zs,rfl,_⟩:=h;rfl
 ·obtain⟨d,k,zs,rfl,hd,hnd,h0,h1,q1,q2⟩:=h;refine⟨_,ai (aX (gy (eB (cj hr) (pv 1) (pv 0))) (ao (cW bO O hr.hd rfl (wf (pv 1) (by decide +kernel)))) aE) (ao (ax (dk (cj hr) (pv 0) (pv 1) (λ_ _=>rfl)))),?_⟩
  by_cases hk:∀z∈zs,z.2.num≠k
  ·refine⟨_,rfl,_,rfl,d,_,rfl,hd.not hk,_,rfl,?_⟩;exact be ⟨_,rfl,k,rfl,h0,h1,λy=>⟨aq (show 1≤1000 by decide),q2 hk⟩⟩
  ·obtain⟨z,hz,e⟩:∃z∈zs,z.2.num=k:=by
    by_cases h:∃z∈zs,z.2.num=k
    ·exact h
    ·exact absurd (λz hz e=>h ⟨z,hz,e⟩) hk
   subst e;refine⟨_,rfl,_,rfl,d,_,rfl,hd.get hnd hz,_,rfl,?_⟩;exact aM ⟨_,rfl,_,rfl,d,_,rfl,hd.get hnd hz,q1 z hz rfl⟩
def qp(C:Addr):Sp:=λvs H Q E=>∃t k zs,vs=[.ref t,.int k]∧Tre H t zs∧0≤k∧k≤60 ∧
 ((k=0∨∃z∈zs,z.2.num=k)→∀(ms:List Int)(l:Addr)(H':Hp),Same H H'→ms.Pairwise (λa b:Int=>a<b)→ms.length≤zs.length→(∀x,x∈ms↔∃n∈nds zs,n.num=x∧TW.Reach (nds zs) k n)→H' l=some (.lst (ms.map V.int))→Q (.ref l) H') ∧
 (k≠0→(∀z∈zs,z.2.num≠k)→∀H',Same H H'→E (.ref C) none H')
theorem yO:FnScope ["tree","number"] ["tree","number"] (am xo):=fsc
theorem xu{f C:Addr}{fd:FuncData}(F:Fun K "below" "below" xo f fd)(T:Txt mg)(CB:Has P w K mg base 1 "by_number" ["tree"] jM)(CN:ff P w K mg base 1 "node_of" ["nodes","number"] (jN C))(CI:Has P w K mg base 1 "numbers_inside" ["nodes","folder"] qm):
  FnOk P w K mg base (CX1 P w) 2 f fd ["tree","number"] (qp C):=by
 obtain⟨fB,fdB,GB,mB,kB,bB⟩:=CB;obtain⟨fN,fdN,GN,mN,kN,bN⟩:=CN;obtain⟨fI,fdI,GI,mI,kI,bI⟩:=CI;obtain⟨tt,hT⟩:=T.top;refine F.okX yO (λvs H Q E h=>?_) (λcdv A outer s H vs Q E hr h=>?_)
 ·obtain⟨t,k,zs,rfl,_⟩:=h;rfl
 ·obtain⟨t,k,zs,rfl,tr,h0,h1,q1,q2⟩:=h;have hnd:=cu tr.tr;have hl:=tr.len;refine⟨_,ai (aX (au dH (pv 1) (bJ (v:=.int 0) rfl hT ⟨_,rfl⟩) (aD _))
    (ao (bn (ar (E:=E) GN hr rfl mN kN bN .nil (cy bO) (aa (ar GB hr rfl mB kB bB .nil aK (aa (pv 0) af)) (aa (pv 1) af))))) aE)
   (ao (ax (aF iC rfl T.sorted boot_sorted (aa (ar GI hr rfl mI kI bI .nil aK (aa (pv 0) (aa (pv 1) af))) af)))),?_⟩
  have main:∀H1,Same H H1→(k=0∨∃z∈zs,z.2.num=k)→wD (tCB (λxs H Q=>∃l,∃ns:List Int,xs=[.ref l]∧H l=some (.lst (ns.map V.int))∧ns.Nodup∧ns.length<64∧∀ms:List Int,ms.Perm ns→ms.Pairwise (λa b=>a<b)→∀p,H p=none→Q (.ref p) (upd H p (.lst (ms.map V.int))))
    (cV (mn qm [] E0 (cV (ir 0) (cV (ir 1) kh))) kh)) {nx:=λ_ H'=>Q .non H',rt:=Q} [some (.ref t),some (.int k)] H1:=by
   intro H1 s1 hk;refine⟨_,rfl,_,rfl,t,k,zs,rfl,s1 _ _ tr.tup,tr.nod.same s1,by omega,λfd dn l H2 wk el s2=>?_⟩;have hfl:=wk.len;rw[aZ]at hfl;refine⟨l,fd.map (λn:Nd=>n.num),rfl,(show H2 l=some (.lst ((fd.map λn:Nd=>n.num).map V.int))from el),rC tr.tr wk,by rw[length_map];omega,λms hp hs p hpn=>?_⟩;refine q1 hk ms p _ ((s1.trans s2).trans (ae hpn)) hs (by rw[hp.length_eq,length_map];exact hfl) (λx=>?_) ac;rw[hp.mem_iff,mem_map];constructor
   ·rintro⟨n,hn,e⟩;have:=(wk.mem n).mp hn;exact⟨n,this.mem,e,this⟩
   ·rintro⟨n,_,e,hr⟩;exact⟨n,(wk.mem n).mpr hr,e⟩
  refine⟨_,rfl,rfl,_,rfl,?_⟩
  by_cases hk0:k=0
  ·have:decide (V.int k=V.int 0)=true:=by simp[hk0]
   rw[this];exact aM (main H (Same.refl _) (.inl hk0))
  ·have:decide (V.int k=V.int 0)=false:=by simp[hk0]
   rw[this];refine be ?_;refine⟨_,rfl,t,zs,rfl,tr.tup,tr.nod,by omega,hnd,λd H1 s1 nd1=>?_⟩;refine⟨_,rfl,d,k,zs,rfl,nd1,hnd,h0,h1,λz hz e=>main H1 s1 (.inr ⟨z,hz,e⟩),λhk=>q2 hk0 hk H1 s1⟩
def qq(CN CF:Addr):Sp:=λvs H Q E=>∃d p zs,vs=[.ref d,.int p]∧oJ H d zs∧At H zs∧((nds zs).map (·.num)).Nodup∧0≤p∧p≤60 ∧
 (TW.ic (nds zs) p→Q .non H)∧(p≠0→(∀z∈zs,z.2.num≠p)→E (.ref CN) none H)∧(∀z∈zs,z.2.num=p→p≠0→z.2.st≠none→E (.ref CF) none H)
theorem yP:FnScope ["nodes","number"] ["nodes","number"] (am xn):=fsc
theorem xv{f CN CF:Addr}{fd:FuncData}(F:Fun K "check_folder" "check_folder" xn f fd)(T:Txt mg)(O:jI "NotFolder" mg base CF)(CNo:ff P w K mg base 1 "node_of" ["nodes","number"] (jN CN)):
  FnOk P w K mg base (CX1 P w) 2 f fd ["nodes","number"] (qq CN CF):=by
 obtain⟨fN,fdN,GN,mN,kN,bN⟩:=CNo;obtain⟨tt,hT⟩:=T.top;refine F.okX yP (λvs H Q E h=>?_) (λcdv A outer s H vs Q E hr h=>?_)
 ·obtain⟨d,p,zs,rfl,_⟩:=h;rfl
 ·obtain⟨d,p,zs,rfl,hd,hA,hnd,h0,h1,q1,q2,q3⟩:=h;refine⟨_,ao (aX (PW.pt (pw_and (au dH (pv 1) (bJ (v:=.int 0) rfl hT ⟨_,rfl⟩) (aD _)) (pw_and1 (au pL (aB aA (ar (E:=E) GN hr rfl mN kN bN .nil (cy bO) (aa (pv 0) (aa (pv 1) af))) ak (λ_ _=>rfl)) dz (aD _)))))
   (ao (cW bO O hr.hd rfl (ia (dO (c:=100) (by decide +kernel) (jB (pv 1) (dO (c:=100) (by decide +kernel) jA))) (by decide)))) aE),?_⟩
  refine⟨_,rfl,rfl,_,rfl,?_⟩
  by_cases hp0:p=0
  ·have:decide (V.int p=V.int 0)=true:=by simp[hp0]
   rw[this];exact aM (aM (q1 (.inl hp0)))
  ·have:decide (V.int p=V.int 0)=false:=by simp[hp0]
   rw[this];refine be ⟨_,rfl,_,rfl,d,p,zs,rfl,hd,hnd,h0,h1,λz hz e=>?_,λhk=>q2 hp0 hk⟩;refine⟨z.1,_,_,_,rfl,rfl,SqT.of (hA z hz),at3 z.2,rfl,_,rfl,?_⟩;rw[qi];cases hs:z.2.st with
   |none=>exact aM (q1 (.inr ⟨z.2,ck hz,hs,e⟩))
   |some i=>exact be ⟨_,rfl,p,rfl,h0,h1,λy=>⟨aq (show 1≤1000 by decide),q3 z hz e hp0 (by rw[hs];simp)⟩⟩
def nF(CT:Addr):Sp:=λvs H Q E=>∃t k p nm zs,vs=[.ref t,.int k,.int p,.str nm]∧H t=some (.tup (bu zs))∧At H zs∧0≤p∧p≤60∧nm.length≤100 ∧
 ((∀z∈zs,z.2.num≠k→¬(z.2.par=p∧z.2.nm=nm))→Q .non H)∧(∀z∈zs,z.2.num≠k→z.2.par=p→z.2.nm=nm→E (.ref CT) none H)
theorem wm:FnScope ["tree","number","parent","name","node"] ["tree","number","parent","name"] (am xp):=fsc
theorem xw{f CT:Addr}{fd:FuncData}(F:Fun K "check_place" "check_place" xp f fd)(O:jI "Taken" mg base CT):FnOk P w K mg base (CX1 P w) 1 f fd ["tree","number","parent","name"] (nF CT):=by
 refine F.okX wm (λvs H Q E h=>?_) (λcdv A outer s H vs Q E hr h=>?_)
 ·obtain⟨t,k,p,nm,zs,rfl,_⟩:=h;rfl
 ·obtain⟨t,k,p,nm,zs,rfl,ht,hA,h0,h1,hn,q1,q2⟩:=h;refine⟨_,ao (eP (zL bO) rfl (eO (pv 0)) (aQ (i:=4) wm.nd rfl (Or.inl rfl))
   (ao (aX (PW.pt (pw_and (au dH (aB aA (pv 4) ak (λ_ _=>rfl)) (pv 1) (aD _)) (pw_and (au cD (aB aA (pv 4) ak (λ_ _=>rfl)) (pv 2) (aD _)) (pw_and1 (au cD (aB aA (pv 4) ak (λ_ _=>rfl)) (pv 3) (aD _))))))
    (ao (cW bO O hr.hd rfl (ia (dO (c:=100) (by decide +kernel) (jB (pv 2) (dO (c:=100) (by decide +kernel) (wZ (pv 3) jA)))) (by decide)))) aE))),?_⟩
  refine⟨_,rfl,t,rfl,⟨_,SqT.of ht⟩,pG (xs:=bu zs) (λi σ H'=>(∃on,σ=[some (.ref t),some (.int k),some (.int p),some (.str nm),on])∧H'=H∧∀z∈zs.take i,z.2.num≠k→¬(z.2.par=p∧z.2.nm=nm)) ⟨⟨none,rfl⟩,rfl,by simp⟩ (λi σ H' _ h=>by rw[h.2.1];exact SqT.of ht) (λi x σ H' hx h=>?_) (λσ H' h=>?_)⟩
  ·obtain⟨⟨on,rfl⟩,rfl,hi⟩:=h;obtain⟨z,gz,rfl⟩:=eI hx;have mz:=mem_of_getElem? gz;have az:SqT K H' z.1 (vals z.2):=SqT.of (hA z mz);have et:zs.take (i+1)=zs.take i++[z]:=dw gz;have nxt:(z.2.num≠k→¬(z.2.par=p∧z.2.nm=nm))→∀y∈zs.take (i+1),y.2.num≠k→¬(y.2.par=p∧y.2.nm=nm):=λhz y hy=>by
    rw[et]at hy;rcases mem_append.mp hy with hy|hy
    ·exact hi y hy
    ·have e:y=z:=by simpa using hy
     subst e;exact hz
   refine⟨_,rfl,z.1,_,_,_,rfl,rfl,az,at0 z.2,_,rfl,rfl,_,rfl,?_⟩
   by_cases hk:z.2.num=k
   ·have e1:(!decide (V.int z.2.num=V.int k))=false:=by simp[hk]
    rw[e1];exact aM (aM ⟨⟨_,rfl⟩,rfl,nxt λh=>absurd hk h⟩)
   ·have e1:(!decide (V.int z.2.num=V.int k))=true:=by simp[hk]
    rw[e1];refine be ⟨_,rfl,z.1,_,_,_,rfl,rfl,az,at1 z.2,_,rfl,rfl,_,rfl,?_⟩
    by_cases hp:z.2.par=p
    ·have e2:decide (V.int z.2.par=V.int p)=true:=by simp[hp]
     rw[e2];refine be ⟨_,rfl,z.1,_,_,_,rfl,rfl,az,at2 z.2,_,rfl,rfl,_,rfl,?_⟩
     by_cases hm:z.2.nm=nm
     ·have e3:decide (V.str z.2.nm=V.str nm)=true:=by simp[hm]
      rw[e3];exact be ⟨_,rfl,p,rfl,h0,h1,_,rfl,nm,rfl,hn,λy=>⟨aq (show 1≤1000 by decide),q2 z mz hk hp hm⟩⟩
     ·have e3:decide (V.str z.2.nm=V.str nm)=false:=by simp[hm]
      rw[e3];exact aM ⟨⟨_,rfl⟩,rfl,nxt λ_ h=>hm h.2⟩
    ·have e2:decide (V.int z.2.par=V.int p)=false:=by simp[hp]
     rw[e2];exact aM (aM ⟨⟨_,rfl⟩,rfl,nxt λ_ h=>hp h.1⟩)
  ·obtain⟨_,rfl,hi⟩:=h;rw[cn,take_length]at hi;exact q1 hi
def jO:Sp:=λvs H Q _=>∃t c n zs,vs=[.ref t,.ref c]∧H t=some (.tup (bu zs))∧At H zs∧H c=some (.tup (vals n))∧zs.length≤100∧∀us t' H',Same H H'→H' t'=some (.tup (bu us))→At H' us→nds us=(nds zs).map (TW.put n)→Q (.ref t') H'
theorem xx:FnScope ["tree","changed"] ["tree","changed"] (am qk):=fsc
theorem vp{f:Addr}{fd:FuncData}(F:Fun K "with_node" "with_node" qk f fd)(T:Txt mg):FnOk P w K mg base CX0 1 f fd ["tree","changed"] jO:=by
 refine F.ok xx (λvs H Q E h=>?_) (λcdv A outer s H vs Q E hr h=>?_)
 ·obtain⟨t,c,n,zs,rfl,_⟩:=h;rfl
 ·obtain⟨t,c,n,zs,rfl,ht,hA,hc,hl,q⟩:=h;refine⟨_,ao (ax (aW cb rfl T.tuple rfl (aa (hJ (N:=["node","changed"]) (cl:=[("changed",s.heap.objs.size+1)]) (k:=1) (js:=[1]) (g:=cw 0) rfl
    (LcOk.mk' ["changed"] rfl rfl (by decide +kernel) (by decide +kernel) ?hcl rfl (by decide +kernel)) rfl ?hj (eO (pv 0)) (λs H fp=>aQ (i:=0) (show(["node","changed"]:List Str).Nodup by decide +kernel) rfl (Or.inl rfl) (Or.inr rfl))
    (λs H fp=>fj (au cD (aB (r:=iT K) aA (pv 0) ak (λ_ _=>rfl)) (aB (r:=iT K) aA (pv 1) ak (λ_ _=>rfl)) (aD _)) (pv 1) (pv 0))) af))),?_⟩
  case hcl =>
   intro y hy;rcases mem_cons.mp hy with e|hy
   ·rw[e];rfl
   ·cases hy
  case hj =>
   intro i j x h1 h2
   match i,h1,h2 with
   |0,h1,h2 =>
    cases h1;cases h2;exact⟨rfl,Or.inr (Or.inl rfl),(show((am qk).names.lookup ("changed":Str)≠some NameKind.local)by decide +kernel),by first|exact Or.inl rfl|exact Or.inr rfl⟩
   |i+1,h1,h2=>simp at h1
  refine⟨_,rfl,t,rfl,⟨_,SqT.of ht⟩,λp hp=>?_⟩;refine gl (fr:=[some (.ref c)]) zs (λz=>V.ref z.1) (by omega) hp (ib (by rw[cz];exact SqT.of ht)) rfl (λz y H'=>y=.ref (if z.2.num=n.num then c else z.1)) (λz y H H' h _=>h) (λz H' k mz s1 _ hk=>?_) (λys H' s1 hp' hys=>?_)
  ·refine⟨_,rfl,z.1,_,_,_,rfl,rfl,SqT.of (s1 _ _ (hA z mz)),at0 z.2,_,rfl,c,_,_,_,rfl,rfl,SqT.of (s1 _ _ hc),at0 n,rfl,_,rfl,?_⟩
   by_cases e:z.2.num=n.num
   ·have e1:decide (V.int z.2.num=V.int n.num)=true:=by simp[e]
    rw[e1];exact be ⟨_,rfl,hk _ H' (Same.refl _) (by rw[if_pos e])⟩
   ·have e1:decide (V.int z.2.num=V.int n.num)=false:=by simp[e]
    rw[e1];exact aM ⟨_,rfl,hk _ H' (Same.refl _) (by rw[if_neg e])⟩
  ·have ey:=cS (f:=λz:Addr×Nd=>V.ref (if z.2.num=n.num then c else z.1)) hys (λz y _ h=>h);refine⟨p,_,rfl,.inl ⟨SqL.of hp',λl hl'=>?_⟩⟩;have er:bu (zs.map λz=>if z.2.num=n.num then (c,n)else z)=ys:=by
    rw[ey,←cz,map_map];apply map_congr_left;intro z _;show V.ref (if z.2.num=n.num then (c,n)else z).1=_
    by_cases e:z.2.num=n.num
    ·rw[if_pos e,if_pos e]
    ·rw[if_neg e,if_neg e]
   refine q (zs.map λz=>if z.2.num=n.num then (c,n)else z) l _ (s1.trans (ae hl')) (by rw[er];exact ac) (λy hy=>?_) ?_
   ·obtain⟨z,mz,rfl⟩:=mem_map.mp hy
    by_cases e:z.2.num=n.num
    ·rw[if_pos e];exact(s1.trans (ae hl')) _ _ hc
    ·rw[if_neg e];exact(s1.trans (ae hl')) _ _ (hA z mz)
   ·unfold nds;rw[map_map,map_map];apply map_congr_left;intro z _;show(if z.2.num=n.num then (c,n)else z).2=TW.put n z.2
    unfold TW.put
    by_cases e:z.2.num=n.num
    ·rw[if_pos e,if_pos e]
    ·rw[if_neg e,if_neg e]
def oN(cls:TW.Wd→Addr):Sp:=λvs H Q E=>∃t n p nm st zs,vs=[.ref t,.int n,.int p,.str nm,stV st]∧Tre H t zs∧zs.length≤29∧dC (.make n p nm st)∧Outs H (nds zs) (.make n p nm st) cls Q E
theorem tN:FnScope ["tree","number","parent","name","stamp","nodes"] ["tree","number","parent","name","stamp"] (am tF):=fsc
theorem vq{f:Addr}{fd:FuncData}{cls:TW.Wd→Addr}(F:Fun K "make" "make" tF f fd)(T:Txt mg)(O:vo mg base cls)(CB:Has P w K mg base 1 "by_number" ["tree"] jM)(CF:ff P w K mg base 2 "check_folder" ["nodes","number"] (qq (cls .noNode) (cls .notFolder)))(CL:ff P w K mg base 1 "check_place" ["tree","number","parent","name"] (nF (cls .taken))):FnOk P w K mg base (CX1 P w) 3 f fd ["tree","number","parent","name","stamp"] (oN cls):=by
 obtain⟨fB,fdB,GB,mB,kB,bB⟩:=CB;obtain⟨fF,fdF,GF,mF,kF,bF⟩:=CF;obtain⟨fL,fdL,GL,mL,kL,bL⟩:=CL;refine F.okX tN (λvs H Q E h=>?_) (λcdv A outer s H vs Q E hr h=>?_)
 ·obtain⟨t,n,p,nm,st,zs,rfl,_⟩:=h;rfl
 ·obtain⟨t,n,p,nm,st,zs,rfl,tr,hl,⟨hn1,hn2,hp1,hp2,hnm⟩,o⟩:=h;have hr1:Room 1 _:=hr.mono (by decide);have hnd:=cu tr.tr;refine⟨_,ai (aJ (i:=5) tN.nd rfl (Or.inl rfl) (ar GB hr1 rfl mB kB bB .nil aK (aa (pv 0) af)))
   (ai (aX (gy (lF (cj hr) (pv 1) (pv 5))) (ao (cW bO (O .known) hr.hd rfl (wf (pv 1) (by decide +kernel)))) aE)
   (ai (bn (ar (E:=E) GF hr rfl mF kF bF .nil (cy bO) (aa (pv 5) (aa (pv 2) af))))
   (ai (bn (ar (E:=E) GL hr1 rfl mL kL bL .nil (cy bO) (aa (pv 0) (aa (pv 1) (aa (pv 2) (aa (pv 3) af))))))
   (ao (ax (aW cb rfl T.tuple rfl (aa (aF cI rfl T.sorted boot_sorted (aa (aI (sM.or iY) (pv 0) (aP (aa (aP (aa (pv 1) (aa (pv 2) (aa (pv 3) (aa (pv 4) af))))) af))) af)) af))))))),?_⟩
  refine⟨_,rfl,t,zs,rfl,tr.tup,tr.nod,by omega,hnd,λd H1 s1 nd1=>?_⟩
  by_cases hk:∃z∈zs,z.2.num=n
  ·obtain⟨z,hz,e⟩:=hk;subst e;exact⟨_,rfl,_,rfl,d,_,rfl,nd1.get hnd hz,_,rfl,be ⟨_,rfl,_,rfl,by omega,hn2,λy=>⟨aq (show 1≤1000 by decide),o.no .known H1 s1 (.mKnown (eK hz rfl))⟩⟩⟩
  ·have hno:=cM hk;refine⟨_,rfl,_,rfl,d,_,rfl,nd1.not (λz hz e=>hk ⟨z,hz,e⟩),_,rfl,aM ?_⟩;refine⟨_,rfl,_,rfl,d,p,zs,rfl,nd1,tr.nod.same s1,hnd,hp1,hp2,λhF=>?_,λh0 hz=>o.no .noNode H1 s1 (.mNo hno h0 (cM λ⟨z,hz',e⟩=>hz z hz' e)),λz hz e h0 hs=>o.no .notFolder H1 s1 (.mFile hno h0 (ck hz) e hs)⟩;refine⟨_,rfl,_,rfl,_,rfl,_,rfl,t,n,p,nm,zs,rfl,s1 _ _ tr.tup,tr.nod.same s1,hp1,hp2,hnm,λhfree=>?_,λz hz _ e1 e2=>o.no .taken H1 s1 (.mTaken hno hF (ck hz) e1 e2)⟩;refine⟨_,rfl,_,rfl,_,rfl,_,rfl,_,rfl,(show 4≤sizeLine from aq (by decide)),λq hq=>⟨(show 1≤sizeLine from aq (by decide)),λc hc=>?_⟩⟩;have s2:Same H1 (upd (upd H1 q (.tup [.int n,.int p,.str nm,stV st])) c (.tup [.ref q])):=(ae hq).trans (ae hc);have gq:upd (upd H1 q (.tup [.int n,.int p,.str nm,stV st])) c (.tup [.ref q]) q=some (.tup (vals ⟨n,p,nm,st⟩)):=bf hc ac;have gc:upd (upd H1 q (.tup [.int n,.int p,.str nm,stV st])) c (.tup [.ref q]) c=some (.tup [.ref q]):=ac;generalize upd (upd H1 q (.tup [.int n,.int p,.str nm,stV st])) c (.tup [.ref q])=H2 at s2 gq gc⊢;have fin:∀(l:Addr)(H3:Hp),Same H2 H3→SqT K H3 l (bu (zs++[(q,⟨n,p,nm,st⟩)]))→tCB (λxs H Q=>∃l,∃zs:List hX,xs=[.ref l]∧(SqL K H l ((zs.map (·.1)).map V.ref)∨SqT K H l ((zs.map (·.1)).map V.ref))∧(∀z∈zs,H z.1=some (.tup (.int z.2.1::z.2.2)))∧(zs.map (·.2.1)).Nodup∧zs.length<64 ∧
     ∀zs':List hX,zs'.Perm zs→zs'.Pairwise (λa b=>a.2.1<b.2.1)→∀p,H p=none→Q (.ref p) (upd H p (.lst ((zs'.map (·.1)).map V.ref)))) (cV (tC (.ref l)) kh) [] H3 (λx H1=>(λxs H Q=>∃p ys,xs=[V.ref p]∧((SqL K H p ys∧∀l,H l=none→Q (V.ref l) (upd H l (.tup ys)))∨(SqT K H p ys∧Q (.ref p) H))) [x] H1 Q):=by
    intro l H3 s3 hl3;have s123:=(s1.trans s2).trans s3;refine iN (.inr hl3) (λz hz=>?_) ?_ (by rw[length_append];simp;omega) (λus t' H' s' ht' hA' hp hrise=>?_)
    ·rcases mem_append.mp hz with h|h
     ·exact s123 _ _ (tr.nod z h)
     ·have e:z=(q,⟨n,p,nm,st⟩):=by simpa using h
      subst e;exact s3 _ _ gq
    ·have e:(nds (zs++[(q,(⟨n,p,nm,st⟩:Nd))])).map (·.num)=(nds zs).map (·.num)++[n]:=by simp[nds]
     rw[e,nodup_append];refine⟨hnd,by simp,λa ha b hb e=>?_⟩;have eb:b=n:=by simpa using hb
     obtain⟨m,hm,em⟩:=mem_map.mp ha;exact hno ⟨m,hm,by rw[em,e,eb]⟩
    ·refine o.ok us t' H' (s123.trans s') ht' hA' (.made hno hF (λm hm=>?_) ?_ hrise)
     ·obtain⟨z,hz,rfl⟩:=gJ hm;exact hfree z hz λe=>hno ⟨z.2,hm,e⟩
     ·have:(nds us).Perm (nds (zs++[(q,⟨n,p,nm,st⟩)])):=hp.map _;refine this.trans ?_;unfold nds;rw[map_append];exact List.perm_append_comm
   by_cases hz:zs=[]
   ·subst hz;exact .inl ⟨t,c,_,rfl,rfl,SqT.of ((s1.trans s2) _ _ tr.tup),SqT.of gc,fin c H2 (Same.refl _) (SqT.of gc)⟩
   ·refine .inr ⟨t,c,_,_,rfl,rfl,SqT.of ((s1.trans s2) _ _ tr.tup),SqT.of gc,?_,?_,λh=>absurd h (cons_ne_nil _ _),λ_ l hl3=>fin l _ (ae hl3) (by rw[iD];exact SqT.of ac)⟩
    ·intro e;exact hz (tm e)
    ·rw[cn];exact aq (by show zs.length+1≤1000;omega)
def lP(cls:TW.Wd→Addr):Sp:=λvs H Q E=>∃t n st zs,vs=[.ref t,.int n,.int st]∧Tre H t zs∧dC (.write n st)∧Outs H (nds zs) (.write n st) cls Q E
theorem qr:FnScope ["tree","number","stamp","node"] ["tree","number","stamp"] (am oK):=fsc
theorem tO{f:Addr}{fd:FuncData}{cls:TW.Wd→Addr}(F:Fun K "write" "write" oK f fd)(O:vo mg base cls)(CB:Has P w K mg base 1 "by_number" ["tree"] jM)(CN:ff P w K mg base 1 "node_of" ["nodes","number"] (jN (cls .noNode)))(CW:Has P w K mg base 1 "with_node" ["tree","changed"] jO):FnOk P w K mg base (CX1 P w) 2 f fd ["tree","number","stamp"] (lP cls):=by
 obtain⟨fB,fdB,GB,mB,kB,bB⟩:=CB;obtain⟨fN,fdN,GN,mN,kN,bN⟩:=CN;obtain⟨fW,fdW,GW,mW,kW,bW⟩:=CW;refine F.okX qr (λvs H Q E h=>?_) (λcdv A outer s H vs Q E hr h=>?_)
 ·obtain⟨t,n,st,zs,rfl,_⟩:=h;rfl
 ·obtain⟨t,n,st,zs,rfl,tr,⟨hn1,hn2⟩,o⟩:=h;have hnd:=cu tr.tr;have hl:=tr.len;refine⟨_,ai (aJ (i:=3) qr.nd rfl (Or.inl rfl) (ar (E:=E) GN hr rfl mN kN bN .nil (cy bO) (aa (ar GB hr rfl mB kB bB .nil aK (aa (pv 0) af)) (aa (pv 1) af))))
   (ai (aX (au jk (aB aA (pv 3) ak (λ_ _=>rfl)) dz (aD _)) (ao (cW bO (O .notFile) hr.hd rfl (ia (dO (c:=100) (by decide +kernel) (jB (pv 1) (dO (c:=100) (by decide +kernel) jA))) (by decide)))) aE)
   (ao (ax (ar GW hr rfl mW kW bW .nil aK (aa (pv 0) (aa (aP (aa (pv 1) (aa (aB aA (pv 3) ak (λ_ _=>rfl)) (aa (aB aA (pv 3) ak (λ_ _=>rfl)) (aa (pv 2) af))))) af)))))),?_⟩
  refine⟨_,rfl,t,zs,rfl,tr.tup,tr.nod,by omega,hnd,λd H1 s1 nd1=>?_⟩;refine⟨_,rfl,d,n,zs,rfl,nd1,hnd,by omega,hn2,λz hz e=>?_,λhk=>o.no .noNode H1 s1 (.wNo (cM λ⟨z,hz,e⟩=>hk z hz e))⟩;subst e;have az:SqT K H1 z.1 (vals z.2):=SqT.of (s1 _ _ (tr.nod z hz));refine⟨_,rfl,z.1,_,_,_,rfl,rfl,az,at3 z.2,rfl,_,rfl,?_⟩;cases hs:z.2.st with
  |none=>exact be ⟨_,rfl,_,rfl,by omega,hn2,λy=>⟨aq (show 1≤1000 by decide),o.no .notFile H1 s1 (.wFold (ck hz) rfl hs)⟩⟩
  |some i =>
   refine aM ⟨_,rfl,_,rfl,_,rfl,z.1,_,_,_,rfl,rfl,az,at1 z.2,_,rfl,z.1,_,_,_,rfl,rfl,az,at2 z.2,_,rfl,(show 4≤sizeLine from aq (by decide)),λc hc=>?_⟩;have s2:=s1.trans (ae (o:=.tup [.int z.2.num,.int z.2.par,.str z.2.nm,.int st]) hc);refine⟨t,c,⟨z.2.num,z.2.par,z.2.nm,some st⟩,zs,rfl,s2 _ _ tr.tup,tr.nod.same s2,ac,by omega,λus t' H' s' ht' hA' e=>o.ok us t' H' (s2.trans s') ht' hA' ?_⟩;rw[e];exact .wrote (ck hz) rfl (by rw[hs];simp)
def oO(cls:TW.Wd→Addr):Sp:=λvs H Q E=>∃t n p nm zs,vs=[.ref t,.int n,.int p,.str nm]∧Tre H t zs∧dC (.move n p nm)∧Outs H (nds zs) (.move n p nm) cls Q E
theorem oP:FnScope ["tree","number","parent","name","nodes","node"] ["tree","number","parent","name"] (am tG):=fsc
theorem vt{f:Addr}{fd:FuncData}{cls:TW.Wd→Addr}(F:Fun K "move" "move" tG f fd)(O:vo mg base cls)(CB:Has P w K mg base 1 "by_number" ["tree"] jM)(CN:ff P w K mg base 1 "node_of" ["nodes","number"] (jN (cls .noNode)))(CF:ff P w K mg base 2 "check_folder" ["nodes","number"] (qq (cls .noNode) (cls .notFolder)))(CE:ff P w K mg base 2 "below" ["tree","number"] (qp (cls .noNode)))(CL:ff P w K mg base 1 "check_place" ["tree","number","parent","name"] (nF (cls .taken)))(CW:Has P w K mg base 1 "with_node" ["tree","changed"] jO):FnOk P w K mg base (CX1 P w) 3 f fd ["tree","number","parent","name"] (oO cls):=by
 obtain⟨fB,fdB,GB,mB,kB,bB⟩:=CB;obtain⟨fN,fdN,GN,mN,kN,bN⟩:=CN;obtain⟨fF,fdF,GF,mF,kF,bF⟩:=CF;obtain⟨fE,fdE,GE,mE,kE,bE⟩:=CE;obtain⟨fL,fdL,GL,mL,kL,bL⟩:=CL;obtain⟨fW,fdW,GW,mW,kW,bW⟩:=CW;refine F.okX oP (λvs H Q E h=>?_) (λcdv A outer s H vs Q E hr h=>?_)
 ·obtain⟨t,n,p,nm,zs,rfl,_⟩:=h;rfl
 ·obtain⟨t,n,p,nm,zs,rfl,tr,⟨hn1,hn2,hp1,hp2,hnm⟩,o⟩:=h;have hnd:=cu tr.tr;have hl:=tr.len;have hT:=tr.tr;have hr1:Room 1 _:=hr.mono (by decide);refine⟨_,ai (aJ (i:=4) oP.nd rfl (Or.inl rfl) (ar GB hr1 rfl mB kB bB .nil aK (aa (pv 0) af)))
   (ai (aJ (i:=5) oP.nd rfl (Or.inl rfl) (ar (E:=E) GN hr1 rfl mN kN bN .nil (cy bO) (aa (pv 4) (aa (pv 1) af))))
   (ai (bn (ar (E:=E) GF hr rfl mF kF bF .nil (cy bO) (aa (pv 4) (aa (pv 2) af))))
   (ai (aX (PW.pt (pw_or (au cD (pv 2) (pv 1) (aD _)) (pw_or1 (au qT (pv 2) (ar (E:=E) GE hr rfl mE kE bE .nil (cy bO) (aa (pv 0) (aa (pv 1) af))) rfl))))
    (ao (cW bO (O .inside) hr.hd rfl (ia (dO (c:=100) (by decide +kernel) (jB (pv 2) (dO (c:=100) (by decide +kernel) (jB (pv 1) (dO (c:=100) (by decide +kernel) jA))))) (by decide)))) aE)
   (ai (bn (ar (E:=E) GL hr1 rfl mL kL bL .nil (cy bO) (aa (pv 0) (aa (pv 1) (aa (pv 2) (aa (pv 3) af))))))
   (ao (ax (ar GW hr1 rfl mW kW bW .nil aK (aa (pv 0) (aa (aP (aa (pv 1) (aa (pv 2) (aa (pv 3) (aa (aB aA (pv 5) ak (λ_ _=>rfl)) af))))) af))))))))),?_⟩
  refine⟨_,rfl,t,zs,rfl,tr.tup,tr.nod,by omega,hnd,λd H1 s1 nd1=>?_⟩;refine⟨_,rfl,_,rfl,d,n,zs,rfl,nd1,hnd,by omega,hn2,λz hz e=>?_,λhk=>o.no .noNode H1 s1 (.vNo (cM λ⟨z,hz,e⟩=>hk z hz e))⟩;subst e;have hh:TW.cK (nds zs) z.2.num:=eK hz rfl;refine⟨_,rfl,_,rfl,d,p,zs,rfl,nd1,tr.nod.same s1,hnd,hp1,hp2,λhF=>?_,λh0 hk=>o.no .noNode H1 s1 (.vNoP hh h0 (cM λ⟨y,hy,e⟩=>hk y hy e)),λy hy e h0 hs=>o.no .notFolder H1 s1 (.vFile hh h0 (ck hy) e hs)⟩;have insd:∀H2,Same H1 H2→p≠0→TW.Und (nds zs) z.2.num p→∀y:Str,E (.ref (cls .inside)) none H2:=λH2 s2 h0 hu _=>o.no .inside H2 (s1.trans s2) (.vIn hh hF h0 hu);have rest:∀H2,Same H1 H2→(p≠0→¬TW.Und (nds zs) z.2.num p)→lZ (vY (mn (nF (cls .taken)) [] E (cV (ir 0) (cV (ir 1) (cV (ir 2) (cV (ir 3) kh)))))) (wD (mn jO [] E0 (cV (ir 0) (cV (yx (cV (ir 1) (cV (ir 2) (cV (ir 3) (cV (tOp (iT K) (ir 5) (tC (.int 3))) kh))))) kh))))
    {nx:=λ_ H'=>Q .non H',rt:=Q} [some (.ref t),some (.int z.2.num),some (.int p),some (.str nm),some (.ref d),some (.ref z.1)] H2:=by
   intro H2 s2 hu;have s12:=s1.trans s2;refine⟨_,rfl,_,rfl,_,rfl,_,rfl,t,z.2.num,p,nm,zs,rfl,s12 _ _ tr.tup,tr.nod.same s12,hp1,hp2,hnm,λhfree=>?_,λy hy hne e1 e2=>o.no .taken H2 s12 (.vTaken hh hF hu (ck hy) hne e1 e2)⟩;refine⟨_,rfl,_,rfl,_,rfl,_,rfl,_,rfl,z.1,_,_,_,rfl,rfl,SqT.of (s12 _ _ (tr.nod z hz)),at3 z.2,(show 4≤sizeLine from aq (by decide)),λc hc=>?_⟩;have s3:=s12.trans (ae (o:=.tup [.int z.2.num,.int p,.str nm,stV z.2.st]) hc);refine⟨t,c,⟨z.2.num,p,nm,z.2.st⟩,zs,rfl,s3 _ _ tr.tup,tr.nod.same s3,ac,by omega,λus t' H' s' ht' hA' e=>o.ok us t' H' (s3.trans s') ht' hA' ?_⟩;rw[e];refine .moved (ck hz) rfl hF hu λm hm hne h=>?_;obtain⟨y,hy,rfl⟩:=gJ hm;exact hfree y hy hne h
  refine⟨_,rfl,_,rfl,rfl,_,rfl,?_⟩
  by_cases hpn:p=z.2.num
  ·have e1:decide (V.int p=V.int z.2.num)=true:=by simp[hpn]
   rw[e1];exact be (be ⟨_,rfl,p,rfl,hp1,hp2,_,rfl,_,rfl,by omega,hn2,λy=>⟨aq (show 1≤1000 by decide),insd H1 (Same.refl _) (by omega) (by rw[hpn];exact .here) y⟩⟩)
  ·have e1:decide (V.int p=V.int z.2.num)=false:=by simp[hpn]
   rw[e1];refine aM ⟨_,rfl,_,rfl,_,rfl,t,z.2.num,zs,rfl,tr.same s1,by omega,hn2,λ_ ms l H2 s2 hms _ hm hl2=>?_,λh0 hk=>absurd rfl (hk z hz)⟩;refine⟨l,_,rfl,.inl (SqL.of hl2),rfl,ro ms,_,rfl,?_⟩;show if (inV (.int p) (ms.map V.int))=true then _ else _
   rw[vc]
   by_cases hin:p∈ms
   ·rw[decide_eq_true hin];obtain⟨m,hm1,hm2,hm3⟩:=(hm p).mp hin;have hu:TW.Und (nds zs) z.2.num p:=by rw[←hm2];exact((TW.eF hT hn1 hm1).mp hm3).2
    have h0:p≠0:=by have:=hT.pos m hm1;omega
    exact be ⟨_,rfl,p,rfl,hp1,hp2,_,rfl,_,rfl,by omega,hn2,λy=>⟨aq (show 1≤1000 by decide),insd H2 s2 h0 hu y⟩⟩
   ·rw[decide_eq_false hin];refine aM (rest H2 s2 λh0 hu=>?_);rcases hF with e|⟨m,hm1,hm2,hm3⟩
    ·exact h0 e
    ·refine hin ((hm p).mpr ⟨m,hm1,hm3,(TW.eF hT hn1 hm1).mpr ⟨by rw[hm3];exact hpn,by rw[hm3];exact hu⟩⟩)
def oQ(cls:TW.Wd→Addr):Sp:=λvs H Q E=>∃t n zs,vs=[.ref t,.int n]∧Tre H t zs∧dC (.drop n)∧Outs H (nds zs) (.drop n) cls Q E
theorem tP:FnScope ["tree","number","gone"] ["tree","number"] (am ql):=fsc
def nG(n:Int)(ms:List Int)(m:Nd):Bool:=!decide (m.num=n∨m.num∈ms)
theorem vw{f:Addr}{fd:FuncData}{cls:TW.Wd→Addr}(F:Fun K "drop" "drop" ql f fd)(T:Txt mg)(CB:Has P w K mg base 1 "by_number" ["tree"] jM)(CN:ff P w K mg base 1 "node_of" ["nodes","number"] (jN (cls .noNode)))(CE:ff P w K mg base 2 "below" ["tree","number"] (qp (cls .noNode))):FnOk P w K mg base (CX1 P w) 3 f fd ["tree","number"] (oQ cls):=by
 obtain⟨fB,fdB,GB,mB,kB,bB⟩:=CB;obtain⟨fN,fdN,GN,mN,kN,bN⟩:=CN;obtain⟨fE,fdE,GE,mE,kE,bE⟩:=CE;refine F.okX tP (λvs H Q E h=>?_) (λcdv A outer s H vs Q E hr h=>?_)
 ·obtain⟨t,n,zs,rfl,_⟩:=h;rfl
 ·obtain⟨t,n,zs,rfl,tr,⟨hn1,hn2⟩,o⟩:=h;have hnd:=cu tr.tr;have hl:=tr.len;have hT:=tr.tr;have hr1:Room 1 _:=hr.mono (by decide);refine⟨_,ai (bn (ar (E:=E) GN hr1 rfl mN kN bN .nil (cy bO) (aa (ar GB hr1 rfl mB kB bB .nil aK (aa (pv 0) af)) (aa (pv 1) af))))
   (ai (aJ (i:=2) tP.nd rfl (Or.inr rfl) (aW (fw rfl) rfl T.dict boot_dict (aa (hJ (N:=["inner"]) (k:=1) (js:=[]) (g:=cw 0) rfl (fq rfl (by decide +kernel) (by decide +kernel) (by decide +kernel)) rfl (λi j x h=>by simp at h)
    (gk (ar (E:=E) GE hr rfl mE kE bE .nil (cy bO) (aa (pv 0) (aa (pv 1) af)))) (λs H fp=>aQ (i:=0) (show(["inner"]:List Str).Nodup by decide +kernel) rfl (Or.inl rfl) (Or.inr rfl))
    (λs H fp=>aP (aa (pv 0) (aa fi af)))) af)))
   (ai (iZ (cj hr) (pv 2) (pv 1) fi rfl)
   (ao (ax (aW cb rfl T.tuple rfl (aa (lG (N:=["node","gone"]) (cl:=[("gone",s.heap.objs.size+1)]) (k:=1) (js:=[2]) (g:=cw 0) rfl
    (LcOk.mk' ["gone"] rfl rfl (by decide +kernel) (by decide +kernel) ?hcl rfl (by decide +kernel)) rfl ?hj (eO (pv 0)) (λs H fp=>aQ (i:=0) (show(["node","gone"]:List Str).Nodup by decide +kernel) rfl (Or.inl rfl) (Or.inr rfl))
    (λs H fp=>gy (eB (cj hr) (aB (r:=iT K) aA (pv 0) ak (λ_ _=>rfl)) (pv 1))) (λs H fp=>pv 0)) af)))))),?_⟩
  case hcl =>
   intro y hy;rcases mem_cons.mp hy with e|hy
   ·rw[e];rfl
   ·cases hy
  case hj =>
   intro i j x h1 h2
   match i,h1,h2 with
   |0,h1,h2 =>
    cases h1;cases h2;exact⟨rfl,Or.inr (Or.inl rfl),(show((am ql).names.lookup ("gone":Str)≠some NameKind.local)by decide +kernel),by first|exact Or.inl rfl|exact Or.inr rfl⟩
   |i+1,h1,h2=>simp at h1
  refine⟨_,rfl,t,zs,rfl,tr.tup,tr.nod,by omega,hnd,λd H1 s1 nd1=>?_⟩;refine⟨_,rfl,d,n,zs,rfl,nd1,hnd,by omega,hn2,λz hz e=>?_,λhk=>o.no .noNode H1 s1 (.dNo (cM λ⟨z,hz,e⟩=>hk z hz e))⟩;refine⟨_,rfl,_,rfl,t,n,zs,rfl,tr.same s1,by omega,hn2,λ_ ms l H2 s2 hms hml0 hm hl2=>?_,λh0 hk=>absurd e (hk z hz)⟩;have hml:ms.length≤1000:=by omega
  refine⟨l,rfl,⟨_,SqL.of hl2⟩,λp hp=>?_⟩;refine gl (fr:=[]) ms V.int hml hp (lL (SqL.of hl2)) rfl (λm y H'=>∃q,y=.ref q∧q≠p∧H' q=some (.tup [.int m,.bl true])) (λm y H H' ⟨q,e,ne,h⟩ ex=>⟨q,e,ne,ex q _ ne h⟩) (λm H' k _ s3 hpl hk=>?_) (λys H3 s3 hp3 hys=>?_)
  ·exact⟨_,rfl,le2,λq hq=>hk _ _ (ae hq) ⟨q,rfl,gI hpl hq,ac⟩⟩
  ·obtain⟨bs,e1,e2,e3⟩:=gm (val:=V.ref) (S:=λ(m:Int) (q:Addr)=>H3 q=some (.tup [.int m,.bl true])) hys (λm y _ ⟨q,e,_,h⟩=>⟨q,e,h⟩);have s123:=(s1.trans s2).trans s3;have hbl:bs.length=ms.length:=by rw[←e1,length_map]
   refine⟨p,bs.map λx=>(x.2,(Sum.inl x.1:Key),V.bl true),rfl,by rw[hp3,e2,map_map,map_map];rfl,λy hy=>?_,by rw[length_map];omega,?_,λg hg=>?_⟩
   ·obtain⟨x,hx,rfl⟩:=mem_map.mp hy;exact e3 x hx
   ·rw[map_map];have:(bs.map ((λx:Addr×Key×V=>x.2.1)∘λx=>(x.2,(Sum.inl x.1:Key),V.bl true)))=ms.map (Sum.inl:Int→Key):=by rw[←e1,map_map];rfl
    rw[this];unfold Nodup;rw[pairwise_map];exact hms.imp λh e=>by injection e with e;omega
   ·have ekv:(bs.map λx=>(x.2,(Sum.inl x.1:Key),V.bl true)).map (·.2)=ms.map λm=>((Sum.inl m:Key),V.bl true):=by rw[←e1,map_map,map_map];rfl
    rw[ekv];have s4:=s123.trans (ae (o:=.dK (ms.map λm=>((Sum.inl m:Key),V.bl true))) hg);have s5:Same H (upd (upd H3 g (.dK (ms.map λm=>((Sum.inl m:Key),V.bl true)))) g (.dK (cg (ms.map λm=>((Sum.inl m:Key),V.bl true)) (Sum.inl n:Key) (.bl true)))):=aL (s123.free hg) s4;refine⟨_,rfl,_,rfl,g,_,rfl,lE.k (k:=Sum.inl n) ac (ay (by rw[length_map];exact hml)),?_⟩;have hgo:(upd (upd H3 g (.dK (ms.map λm=>((Sum.inl m:Key),V.bl true)))) g (.dK (cg (ms.map λm=>((Sum.inl m:Key),V.bl true)) (Sum.inl n:Key) (.bl true)))) g=some (.dK (cg (ms.map λm=>((Sum.inl m:Key),V.bl true)) (Sum.inl n:Key) (.bl true))):=ac;generalize upd (upd H3 g (.dK (ms.map λm=>((Sum.inl m:Key),V.bl true)))) g (.dK (cg (ms.map λm=>((Sum.inl m:Key),V.bl true)) (Sum.inl n:Key) (.bl true)))=H5 at s5 hgo⊢;have hval:∀k:Int,(!(bq (cg (ms.map λm=>((Sum.inl m:Key),V.bl true)) (Sum.inl n:Key) (.bl true)) (Sum.inl k:Key)).isSome) = !decide (k=n∨k∈ms):=λk=>by
     rw[m9t]
     by_cases e:k=n
     ·subst e;simp
     ·have e':¬(Sum.inl k:Key)=Sum.inl n:=λh=>e (by injection h);rw[if_neg e']
      by_cases hk:k∈ms
      ·have:bq (ms.map λm=>((Sum.inl m:Key),V.bl true)) (Sum.inl k:Key)=some (.bl true):=by
        refine jG ?_ (mem_map.mpr ⟨k,hk,rfl⟩);rw[map_map];unfold Nodup;rw[pairwise_map];exact hms.imp λh e=>by injection e with e;omega
       rw[this];simp[hk]
      ·have:bq (ms.map λm=>((Sum.inl m:Key),V.bl true)) (Sum.inl k:Key)=none:=by
        refine qg λhx=>hk ?_;rw[map_map]at hx;obtain⟨m,hm',e⟩:=mem_map.mp hx;injection e with e
        rw[←e];exact hm'
       rw[this];simp[e,hk]
    refine⟨_,rfl,t,rfl,⟨_,SqT.of (s5 _ _ tr.tup)⟩,λp2 hp2=>?_⟩;refine lM (fr:=[some (.ref g)]) zs (λz=>V.ref z.1) (by omega) hp2 (ib (by rw[cz];exact SqT.of (s5 _ _ tr.tup))) rfl (λz=>nG n ms z.2) (λz y _=>y=.ref z.1) (λz y H H' h _=>h) (λz H' k mz s6 _ hk=>?_) (λz H' k mz _ s6 _ hk=>?_) (λys H6 s6 hp6 hys=>?_)
    ·refine⟨_,rfl,z.1,_,_,_,rfl,rfl,SqT.of (s6 _ _ (s5 _ _ (tr.nod z mz))),at0 z.2,_,rfl,g,_,rfl,fo.k (k:=Sum.inl z.2.num) (s6 _ _ hgo),_,rfl,?_⟩;rw[hval];exact hk H' (Same.refl _)
    ·exact⟨_,rfl,hk _ H' (Same.refl _) rfl⟩
    ·have ey:=cS (f:=λz:Addr×Nd=>V.ref z.1) hys (λz y _ h=>h);refine⟨p2,_,rfl,.inl ⟨SqL.of hp6,λl6 hl6=>?_⟩⟩;have s56:=(s5.trans s6).trans (ae (o:=.tup ys) hl6);refine o.ok (zs.filter λz=>nG n ms z.2) l6 _ s56 (by rw[ac,ey,cz]) (λy hy=>s56 _ _ (tr.nod y (mem_filter.mp hy).1)) ?_;have en:nds (zs.filter λz=>nG n ms z.2)=(nds zs).filter (nG n ms):=by
      unfold nds;rw[filter_map];rfl
     rw[en];refine .dropped ⟨z.2,ck hz,e⟩ λm hm'=>?_;unfold nG;rw[Bool.not_eq_true',decide_eq_false_iff_not];constructor
     ·intro h hu
      by_cases em:m.num=n
      ·exact h (.inl em)
      ·exact h (.inr ((hm m.num).mpr ⟨m,hm',rfl,(TW.eF hT hn1 hm').mpr ⟨em,hu⟩⟩))
     ·intro h hx;rcases hx with em|hx
      ·exact h (by rw[em];exact .here)
      ·obtain⟨m',h1,h2,h3⟩:=(hm m.num).mp hx;have:m'=m:=hT.inj h1 hm' h2;subst this;exact h ((TW.eF hT hn1 h1).mp h3).2
def oR(cls:TW.Wd→Addr):Sp:=λvs H Q E=>∃t d dd zs,vs=[.ref t,.ref d]∧Tre H t zs∧zs.length≤29∧H d=some (.tup (aS dd))∧dC dd∧Outs H (nds zs) dd cls Q E
theorem tQ:FnScope ["tree","deed","word"] ["tree","deed"] (am tH):=fsc
theorem vx{f:Addr}{fd:FuncData}{cls:TW.Wd→Addr}(F:Fun K "done" "done" tH f fd)(CM:ff P w K mg base 3 "make" ["tree","number","parent","name","stamp"] (oN cls))(CW:ff P w K mg base 2 "write" ["tree","number","stamp"] (lP cls))(CV:ff P w K mg base 3 "move" ["tree","number","parent","name"] (oO cls))(CD:ff P w K mg base 3 "drop" ["tree","number"] (oQ cls)):FnOk P w K mg base (CX1 P w) 4 f fd ["tree","deed"] (oR cls):=by
 obtain⟨fM,fdM,GM,mM,kM,bM⟩:=CM;obtain⟨fW,fdW,GW,mW,kW,bW⟩:=CW;obtain⟨fV,fdV,GV,mV,kV',bV⟩:=CV;obtain⟨fD,fdD,GD,mD,kD,bD⟩:=CD;refine F.okX tQ (λvs H Q E h=>?_) (λcdv A outer s H vs Q E hr h=>?_)
 ·obtain⟨t,d,dd,zs,rfl,_⟩:=h;rfl
 ·obtain⟨t,d,dd,zs,rfl,tr,hl,hd,hok,o⟩:=h;have hr2:Room 2 _:=hr.mono (by decide);refine⟨_,ai (aJ (i:=2) tQ.nd rfl (Or.inl rfl) (aB aA (pv 1) ak (λ_ _=>rfl)))
   (ai (aX (au cD (pv 2) aC (aD _)) (ao (ax (ar (E:=E) GM hr rfl mM kM bM .nil (cy bO) (aa (pv 0) (aa (aB aA (pv 1) ak (λ_ _=>rfl)) (aa (aB aA (pv 1) ak (λ_ _=>rfl)) (aa (aB aA (pv 1) ak (λ_ _=>rfl)) (aa (aB aA (pv 1) ak (λ_ _=>rfl)) af)))))))) aE)
   (ai (aX (au cD (pv 2) aC (aD _)) (ao (ax (ar (E:=E) GW hr2 rfl mW kW bW .nil (cy bO) (aa (pv 0) (aa (aB aA (pv 1) ak (λ_ _=>rfl)) (aa (aB aA (pv 1) ak (λ_ _=>rfl)) af)))))) aE)
   (ai (aX (au cD (pv 2) aC (aD _)) (ao (ax (ar (E:=E) GV hr rfl mV kV' bV .nil (cy bO) (aa (pv 0) (aa (aB aA (pv 1) ak (λ_ _=>rfl)) (aa (aB aA (pv 1) ak (λ_ _=>rfl)) (aa (aB aA (pv 1) ak (λ_ _=>rfl)) af))))))) aE)
   (ai (aX (au cD (pv 2) aC (aD _)) (ao (ax (ar (E:=E) GD hr rfl mD kD bD .nil (cy bO) (aa (pv 0) (aa (aB aA (pv 1) ak (λ_ _=>rfl)) af))))) aE)
   (ao se))))),?_⟩
  have sd:SqT K H d (aS dd):=SqT.of hd;cases dd with
  |make n p nm st =>
   refine⟨_,rfl,d,_,_,_,rfl,rfl,sd,rfl,?_⟩;refine⟨_,rfl,rfl,_,rfl,be ⟨_,rfl,_,rfl,d,_,_,_,rfl,rfl,sd,rfl,_,rfl,d,_,_,_,rfl,rfl,sd,rfl,_,rfl,d,_,_,_,rfl,rfl,sd,rfl,_,rfl,d,_,_,_,rfl,rfl,sd,rfl,t,n,p,nm,st,zs,rfl,tr,hl,hok,o⟩⟩
  |write n st =>
   refine⟨_,rfl,d,_,_,_,rfl,rfl,sd,rfl,?_⟩;refine⟨_,rfl,rfl,_,rfl,aM ⟨_,rfl,rfl,_,rfl,be ⟨_,rfl,_,rfl,d,_,_,_,rfl,rfl,sd,rfl,_,rfl,d,_,_,_,rfl,rfl,sd,rfl,t,n,st,zs,rfl,tr,hok,o⟩⟩⟩
  |move n p nm =>
   refine⟨_,rfl,d,_,_,_,rfl,rfl,sd,rfl,?_⟩;refine⟨_,rfl,rfl,_,rfl,aM ⟨_,rfl,rfl,_,rfl,aM ⟨_,rfl,rfl,_,rfl,be ⟨_,rfl,_,rfl,d,_,_,_,rfl,rfl,sd,rfl,_,rfl,d,_,_,_,rfl,rfl,sd,rfl,_,rfl,d,_,_,_,rfl,rfl,sd,rfl,t,n,p,nm,zs,rfl,tr,hok,o⟩⟩⟩⟩
  |drop n =>
   refine⟨_,rfl,d,_,_,_,rfl,rfl,sd,rfl,?_⟩;refine⟨_,rfl,rfl,_,rfl,aM ⟨_,rfl,rfl,_,rfl,aM ⟨_,rfl,rfl,_,rfl,aM ⟨_,rfl,rfl,_,rfl,be ⟨_,rfl,_,rfl,d,_,_,_,rfl,rfl,sd,rfl,t,n,zs,rfl,tr,hok,o⟩⟩⟩⟩⟩
end
end TK
namespace TB
open PySem SetTable
section
variable{prog:Program}{w:World}{A:Around}{E:Value→Shared→Prop}{s:Shared}
end
section
variable{prog:Program}{w:World}{A:Around}{R:Result→Shared→Prop}{I:Addr}{fp wr:List Addr}{G:Array GenState→Array GenState→Prop}{n:Nat}{P:Nat→Value→Prop}{St:Nat→Shared→Prop}
end
section
variable{prog:Program}{w:World}{A:Around}{E:Value→Shared→Prop}{s:Shared}
end
end TB
namespace SRT
open PySem PySem.W PyProof.Rows
section
variable{prog:Program}{w:World}{A:Around}{E:Value→Shared→Prop}{s:Shared}
theorem nH{f:Nat→Nat→Bool}{vs:List Value}{κ:SortKind}{Q:Value→Shared→Prop}(O:Ord f vs.length)(h64:vs.length<64)(hk:∀(A':Around) (s':Shared),A'.units≤A.units+1→(∀b o,s.heap.get? b=some o→s'.heap.get? b=some o)→∀Q:SortKind→Shared→Prop,2≤vs.length→Q κ s'→wpAny (model prog w) A' (keyKind' vs.toArray) Q (λ_ _=>False) s')(hlt:∀(A':Around) (s':Shared),A'.units≤A.units+1→(∀b o,s.heap.get? b=some o→s'.heap.get? b=some o)→∀(i j:Nat) (C:Bool→Shared→Prop),i<vs.length→j<vs.length→C (f i j) s'→wpAny (model prog w) A' (keyLt' κ (vs.getD i Value.none) (vs.getD j Value.none)) C (λ_ _=>False) s')(h:∀(p:Array Nat) (h':Heap),Row vs.length p→Up f p vs.length→(∀b o,s.heap.get? b=some o→h'.get? b=some o)→(∃k,h'.get? s.heap.objs.size=some (seqObj "list" (toArray (p.toList.map λi=>vs.getD i Value.none)) k))→Q (.ref s.heap.objs.size) {s with heap:=h'}):
  wpAny (model prog w) A (do
   let l ← newList vs
   let _ ← holding [l] (call (.builtin "list.sort") [l] [])
   ret l) (λfin s'=>∃v,fin=.done (.ret v)∧Q v s') E s:=by
 refine wpAny_bind (wpAny_newList ?_ (by rw[sizeLine_eq];omega));have hoL:(s.heap.push (seqObj "list" vs.toArray 0)).get? s.heap.objs.size=some (seqObj "list" vs.toArray 0):=get?_push_size _ rfl;have keep:∀b o,s.heap.get? b=some o→(s.heap.push (seqObj "list" vs.toArray 0)).get? b=some o:=λb o q=>get?_push_of_some _ q;have neD:∀b o,s.heap.get? b=some o→b≠s.heap.objs.size:=λb o q=>ne_of_lt (lt_size q);show wpAny _ _ _ _ _ {s with heap:=s.heap.push (seqObj "list" vs.toArray 0)}
 refine wpAny_bind (wpAny_holding (wpAny_call_entry slot_list_sort ⟨_,hoL,rfl⟩ entry_list_sort (hV (κ:=κ) (s:={s with heap:=s.heap.push (seqObj "list" vs.toArray 0)}) O hoL h64 ?_ ?_ λp hr hu=>⟨_,rfl,?_⟩) (args_list_sort _)))
 ·intro s' hs' Q' h2 hq;exact hk _ s' (by simp[Around.in1_units]) (λb o e=>hs' b o (neD b o e) (keep b o e)) Q' h2 hq
 ·intro s' hs' i j C hi hj hC;exact hlt _ s' (by simp[Around.in1_units]) (λb o e=>hs' b o (neD b o e) (keep b o e)) i j C hi hj hC
 ·refine wpAny_pure ⟨_,rfl,h p _ hr hu (λb o e=>?_) ?_⟩
  ·unfold sortedHeap;rw[get?_update_ne _ _ _ _ (neD b o e)];refine get?_push_of_some _ (get?_push_of_some _ ?_);rw[get?_update_ne _ _ _ _ (neD b o e)];exact keep b o e
  ·unfold sortedHeap;obtain⟨e1,ho1⟩:∃e1,((s.heap.push (seqObj "list" vs.toArray 0)).update s.heap.objs.size (Obj.mapSeq λ_=>(#[]:Array Value))).get? s.heap.objs.size=some (seqObj "list" #[] e1):=⟨_,get?_update_seq hoL λ_=>#[]⟩;exact⟨_,get?_update_seq (get?_push_of_some _ (get?_push_of_some _ ho1)) _⟩
theorem nI{T:String}{r d:Addr}{n:Nat}{P:Nat→Value→Prop}{OK:Heap→Prop}{Q:List Value→Shared→Prop}(K:KdlSrc prog w T r d n P OK)(hh:A.handled=none)(hok:OK s.heap)(hn:n≤sizeLine)(hQ:∀h' tk acc,(∀b o,s.heap.get? b=some o→h'.get? b=some o)→s.heap.objs.size<h'.objs.size→ItemsOf P acc n→Q acc.toList {s with heap:=h',toks:=tk}):wpAny (model prog w) A (collect (.ref r)) Q E s:=by
 unfold collect;refine wpAny_bind (wpAny_runValue (codeAny_builtin entry_proto_collect' ?_));show wpAny _ _ (do again (.builtin "list.__iadd__" ⟨[←newList [],.ref r],[]⟩)) _ _ s
 refine wpAny_bind (wpAny_newList (wpAny_pure ⟨Code.quiet_builtin _ (by decide +kernel),codeAny_builtin entry_list_iadd' ?_⟩));rw[Around.under_plainId PySem.F.plain_list_iadd _];show wpAny _ _ (Builtin.List.listExtendWith (.ref s.heap.objs.size) (.ref r) (.ref s.heap.objs.size)) _ _ {s with heap:=s.heap.push (seqObj "list" #[] 0)}
 have hlt:=K.there _ hok;have hS:(s.heap.push (seqObj "list" #[] 0)).get? s.heap.objs.size=some (seqObj "list" #[] 0):=get?_push_size _ rfl;have key:=PySem.W.kdl_extend (A:=A) (s:={s with heap:=s.heap.push (seqObj "list" #[] 0)}) (R:=λr s'=>∃h' tk acc c',r=.ok (.ret (.ref s.heap.objs.size))∧s'={s with heap:=h',toks:=tk}∧(∀b o,s.heap.get? b=some o→h'.get? b=some o)∧h'.get? s.heap.objs.size=some {cls:=.type "list",dict:=none,data:=.seq acc c',slots:=#[]}∧ItemsOf P acc n)
  K hh (K.keep _ _ hok λb _ o e=>get?_push_of_some _ e) s.heap.objs.size (ne_of_gt hlt.1) (ne_of_gt hlt.2) (.ref s.heap.objs.size) 0 hS (λh' tk acc' c' hk hS' hacc=>⟨h',tk,acc',c',rfl,rfl,λb o e=>hk b o (ne_of_lt (lt_size e)) (get?_push_of_some _ e),hS',hacc⟩) hn
 have fin:∀(h':Heap)(tk:Nat)(acc:Array Value)(c':Nat),(∀b o,s.heap.get? b=some o→h'.get? b=some o)→h'.get? s.heap.objs.size=some {cls:=.type "list",dict:=none,data:=.seq acc c',slots:=#[]}→ItemsOf P acc n→wpAny (model prog w) A (do
   let o ← load s.heap.objs.size
   match o.data with
   |.seq xs _=>pure xs.toList
   | _=>unsupported "internal:collect") Q E {s with heap:=h',toks:=tk}:=λh' tk acc c' hk hS' hacc=>by
  refine wpAny_bind (wpAny_load hS' ?_);exact wpAny_pure (hQ h' tk acc hk (lt_size hS') hacc)
 refine wpAny_mono key (λfn s' hf=>?_) λe s' hf=>?_
 ·cases fn with
  |done f =>
   obtain⟨h',tk,acc,c',e1,e2,hk,hS',hacc⟩:=hf;cases e1;subst e2;exact fin h' tk acc c' hk hS' hacc
  |again c =>
   refine⟨hf.1,codeAny_mono hf.2 λr s' hr=>?_⟩;obtain⟨h',tk,acc,c',e1,e2,hk,hS',hacc⟩:=hr;subst e1 e2;exact fin h' tk acc c' hk hS' hacc
 ·obtain⟨h',tk,acc,c',e1,_⟩:=hf;cases e1
theorem oS{T:String}{r d:Addr}{n:Nat}{P:Nat→Value→Prop}{OK:Heap→Prop}{κ:SortKind}{Q:Value→Shared→Prop}(K:KdlSrc prog w T r d n P OK)(hh:A.handled=none)(hok:OK s.heap)(hn:n≤sizeLine)(hQ:∀(h1:Heap) (tk:Nat) (vs:List Value),(∀b o,s.heap.get? b=some o→h1.get? b=some o)→s.heap.objs.size<h1.objs.size→ItemsOf P vs.toArray n→∃f:Nat→Nat→Bool,Ord f vs.length∧vs.length<64 ∧
   (∀(A':Around) (s':Shared),A'.units≤A.units+2→(∀b o,s.heap.get? b=some o→s'.heap.get? b=some o)→∀Q:SortKind→Shared→Prop,2≤vs.length→Q κ s'→wpAny (model prog w) A' (keyKind' vs.toArray) Q (λ_ _=>False) s') ∧
   (∀(A':Around) (s':Shared),A'.units≤A.units+2→(∀b o,s.heap.get? b=some o→s'.heap.get? b=some o)→∀(i j:Nat) (C:Bool→Shared→Prop),i<vs.length→j<vs.length→C (f i j) s'→wpAny (model prog w) A' (keyLt' κ (vs.getD i Value.none) (vs.getD j Value.none)) C (λ_ _=>False) s') ∧
   ∀(p:Array Nat) (h':Heap),Row vs.length p→Up f p vs.length→(∀b o,s.heap.get? b=some o→h'.get? b=some o)→(∃k,h'.get? h1.objs.size=some (seqObj "list" (toArray (p.toList.map λi=>vs.getD i Value.none)) k))→Q (.ref h1.objs.size) {s with heap:=h',toks:=tk}):
  wpAny (model prog w) A (call (.builtin "sorted") [.ref r]) Q E s:=by
 refine Calls.call_function_entry kind_sorted plain_sorted entry_sorted (args_sorted1 _) ?_;unfold Builtin.«sorted»;refine wpAny_bind (m:=checkCount "sorted" 1 1 _) (wpAny_pure ?_);refine wpAny_bind (nI K hh hok hn λh1 tk acc hk hlt hacc=>?_);obtain⟨f,O,h64,hkk,hltt,hq⟩:=hQ h1 tk acc.toList hk hlt (by rw[Array.toArray_toList];exact hacc);exact nH (s:={s with heap:=h1,toks:=tk}) O h64 (λA' s' hu hk'=>hkk A' s' (by have:=hu;simp only[Around.in1_units]at this;omega) λb o e=>hk' b o (hk b o e)) (λA' s' hu hk'=>hltt A' s' (by have:=hu;simp only[Around.in1_units]at this;omega) λb o e=>hk' b o (hk b o e))
  λp h' hr hu' hk' hg=>hq p h' hr hu' (λb o e=>hk' b o (hk b o e)) hg
end
end SRT
namespace L2
open PySem PySem.Spec PyProof.Rows
section
variable{X:Cx}
end
end L2
namespace TB
open PySem SetTable
section
variable{prog:Program}{w:World}{A:Around}{E:Value→Shared→Prop}{s:Shared}
end
end TB
namespace L2
open PySem PySem.Spec PyProof.Rows
section
variable{X:Cx}
theorem Inv.dK{pins:List (Addr×Obj)}{σ:St}{H:Hp}{s:Shared}(I:Inv X pins σ H s){a:Addr}{kvs:List (Key×V)}(h:Rd H a (.dK kvs)):
  kvs.length≤sizeLine∧(a==sysModules)=false∧∃vs,KV kvs vs∧s.heap.DictOf (aR X.prog X.w) a vs:=by
 rcases h with h|⟨o,h⟩
 ·obtain⟨hz,hsm,vs,rel,dd⟩:=I.hok a _ h;exact⟨hz,hsm,vs,rel,dd⟩
 ·obtain⟨_,hz,hsm,vs,rel,dd⟩:=I.hok a _ h;exact⟨hz,hsm,vs,rel,dd⟩
end
theorem nJ{α:Type}[DecidableEq α]:∀{l m:List α},l.Nodup→(∀x∈l,x∈m)→l.length≤m.length
 |[],_,_,_=>zero_le _
 |x::l,m,hn,h=>by
  obtain⟨h1,h2⟩:=nodup_cons.mp hn;have hx:=h x mem_cons_self;have ih:=nJ (l:=l) (m:=m.erase x) h2 λy hy=>(List.mem_erase_of_ne (by rintro rfl;exact h1 hy)).mpr (h y (mem_cons_of_mem _ hy));rw[List.length_erase_of_mem hx]at ih;have:=List.length_pos_of_mem hx;rw[length_cons];omega
section
variable{X:Cx}
end
end L2
namespace TW
section
variable{S:Type}
end
end TW
namespace TW
section
variable{S:Type}
end
end TW
namespace L2
open PySem PySem.Spec PyProof.Rows
end L2
namespace TK
open PySem L2
instance decNd:DecidableEq (TW.Nd Str):=λa b=>Classical.propDecidable _
end TK
namespace L2
open PySem PySem.Spec PyProof.Rows
section
variable{X:Cx}
end
end L2
namespace TW
section
variable{S:Type}
end
end TW
namespace L2
open PySem PySem.Spec PyProof.Rows
end L2
namespace TK
open PySem L2
theorem vz(o:Option Int):cQ (stV o)=true:=by cases o<;>rfl
theorem oT(H:Hp)(n:Nd)(k:Nat):∀(i:Nat) x y,(vals n)[i]?=some x→(vals n)[i]?=some y→hZ H k x y:=λi x y h1 h2=>by
 have e:x=y:=Option.some.inj (h1.symm.trans h2);subst e;refine gH ⟨rfl,?_⟩
 match i,h1 with
 |0,h=>cases h;rfl
 |1,h=>cases h;rfl
 |2,h=>cases h;rfl
 |3,h=>cases h;exact vz _
 |i+4,h=>simp[vals]at h
end TK
namespace L2
open PySem PySem.Spec PyProof.Rows
section
variable{X:Cx}{tg:Expr}
abbrev Cx.within(X:Cx)(pl:List (Addr×Obj))(xe:Value→Shared→Prop):Cx:={X with pn:=pl,xe:=xe}
theorem Cx.Ok.within(ok:X.Ok)(pl:List (Addr×Obj))(xe:Value→Shared→Prop):(X.within pl xe).Ok:=⟨ok.mod,ok.kind,ok.glob,ok.blt,ok.above,ok.inj,ok.has,ok.cab,ok.hd,ok.frames,ok.stk,ok.exf,ok.bs,ok.bsz,ok.noex,ok.exfs,ok.funs,ok.frf⟩
theorem Cx.Ok.without{pl:List (Addr×Obj)}{xe:Value→Shared→Prop}(ok:(X.within pl xe).Ok):X.Ok:=⟨ok.mod,ok.kind,ok.glob,ok.blt,ok.above,ok.inj,ok.has,ok.cab,ok.hd,ok.frames,ok.stk,ok.exf,ok.bs,ok.bsz,ok.noex,ok.exfs,ok.funs,ok.frf⟩
theorem Inv.within{pins:List (Addr×Obj)}{σ:St}{H:Hp}{s:Shared}(I:Inv X pins σ H s)(xe:Value→Shared→Prop):Inv (X.within (X.pn++pins) xe) [] σ H s :=
 ⟨I.ok.within _ _,I.os,I.bare,I.base,I.loc,I.cell,I.free,I.freeC,λp hp=>I.pin p (by simpa using hp),I.hok,I.len⟩
theorem Inv.without{pins pins':List (Addr×Obj)}{σ:St}{H:Hp}{s:Shared}{xe:Value→Shared→Prop}(I:Inv (X.within (X.pn++pins) xe) pins' σ H s):Inv X pins σ H s :=
 ⟨I.ok.without,I.os,I.bare,I.base,I.loc,I.cell,I.free,I.freeC,λp hp=>I.pin p (mem_append_left _ hp),I.hok,I.len⟩
end
end L2
namespace L2
open PySem PyProof PyProof.Rows
section
variable{X:Cx}{pos:Pos}
def yQ(K:PySem.W.Frag)(te:TE)(i j:Nat):TS:=λD σ H=>te σ H λv H1=>∃a y1 y2,v=.ref a∧SqT K H1 a [y1,y2]∧D.nx ((σ.set j (some y2)).set i (some y1)) H1
theorem nK{x1 x2:Str}{p1 p2 tpos:Pos}{k:Nat}{value:Expr}{te:TE}{i j:Nat}(hc:X.calm=true)(hN:X.N.Nodup)(hi:X.N[i]?=some x1)(hj:X.N[j]?=some x2)(hx1:Loc X.env.scope x1)(hx2:Loc X.env.scope x2)(hf1:X.env.scope.names.lookup x1=some .local)(hf2:X.env.scope.names.lookup x2=some .local)(he:PE X value te)(hs:swapsWithSole [.Tuple [.Name x1 p1,.Name x2 p2] k tpos] value pos.line X.env=pure false:=by rfl)(hw:swappedStores [.Tuple [.Name x1 p1,.Name x2 p2] k tpos] value X.env=pure (some [x1,x2]):=by rfl):PS X (.Assign [.Tuple [.Name x1 p1,.Name x2 p2] k tpos] value pos) (yQ X.K te i j):=by
 intro pins s σ H D I h;refine Assign_Tuple_swapped (names:=[x1,x2]) (thn (he pins s σ H _ I h) λv s1 ⟨x,H1,I1,r1,q1⟩=>?_) hs hw;obtain⟨a,y1,y2,rfl,hq,q⟩:=q1;cases r1;obtain⟨its,rv,ht,hz⟩:=I1.tuple hq;cases rv with
 |@cons _ u1 _ _ r1 rv=>cases rv with
  |@cons _ u2 _ _ r2 rv=>cases rv with
   |nil =>
    refine unpackItems_tuple (items:=#[u1,u2]) (I1.ok.hd hc) ht λh' hx=>?_;have I2:Inv X pins σ H1 {s1 with heap:=h'}:=I1.kept (t':=s1.toks) λb o e=>hx b o (ne_of_lt (lt_size e)) e
    show wpAny _ _ (assignInOrder [bindName X.env x2,bindName X.env x1] [u2,u1]) _ _ _;refine assignInOrder_cons (wpAny_bindName (fg I2 hN hj hx2 r2 (λs2 I3=>?_) (.inr hf2)));refine assignInOrder_cons (wpAny_bindName (fg I3 hN hi hx1 r1 (λs3 I4=>?_) (.inr hf1)));exact assignInOrder_nil ⟨_,H1,I4,q⟩
end
end L2
namespace L2
open PySem PySem.Spec PyProof.Rows
section
variable{X:Cx}{pins:List (Addr×Obj)}{σ:St}{H:Hp}{s:Shared}
theorem jP{H:Hp}{xs:List V}(h:xs.all cQ=true):fz H xs xs:=⟨rfl,λi x y hx hy=>by
 rw[hx]at hy;cases hy;exact gH ⟨rfl,all_eq_true.mp h x (mem_of_getElem? hx)⟩⟩
theorem jQ(hc:X.calm=true):cx X (.builtin "sorted") (λxs H Q=>∃d kvs,∃ns:List Str,xs=[.ref d]∧Rd H d (.dK kvs)∧kvs.map (·.1)=ns.map (Sum.inr:Str→Key)∧ns.Nodup∧ns.length≤60 ∧
  ∀ms:List Str,ms.Perm ns→ms.Pairwise (λa b=>HT.fc a b=true)→∀p,H p=none→Q (.ref p) (upd H p (.lst (ms.map V.str)))):=by
 intro pins s σ H xs us Q I r h;obtain⟨d,kvs,ns,rfl,hH,hks,hnd',h60,q⟩:=h;obtain⟨u,rfl,ru⟩:=de r;cases ru;obtain⟨hz,hsm,vs0,rel,dd⟩:=I.dK hH;obtain⟨ep,da⟩:=dd.dictAt;have hzv:vs0.length≤sizeLine:=by rw[←rel.length];exact hz
 refine SRT.oS (κ:=oneType') (PySem.W.kdl_dict hsm) (I.ok.hd hc) da hzv λh1 tk vs hk1 hlt1 hit=>?_;have rv:aH (ns.map V.str) vs:=by
  have:=uZ rel hit;have e:(kvs.map λp=>kV p.1)=ns.map V.str:=by
   have:=congrArg (List.map kV) hks;rw[map_map,map_map]at this;exact this
  rw[e]at this;simpa using this
 have hvl:vs.length=ns.length:=by rw[←rv.length,length_map]
 have gd:∀i,i<ns.length→∃t,vs.getD i Value.none=.str (ns.getD i "") t:=λi hi=>by
  obtain⟨v,hv,r⟩:=rv.get (i:=i) (x:=.str (ns.getD i "")) (by rw[getElem?_map,(cJ (d:=("":Str)) hi).2];rfl);obtain⟨t,rfl⟩:=r;exact⟨t,by rw[getD_eq_getElem?_getD,hv];rfl⟩
 refine⟨λi j=>HT.fc (ns.getD i "") (ns.getD j ""),⟨λi _=>HT.rk _,λi j k _ _ _ h1 h2=>HT.sT h1 h2,λi j hi hj hij=>HT.rn ?_⟩,by omega,λA' s' _ _ Q' h2 hQ=>?_,λA' s' _ _ i j C hi hj hC=>?_,λp h' hrow hup kp hg=>?_⟩
 ·rw[getD_eq_getElem?_getD,getD_eq_getElem?_getD,getElem?_eq_getElem (by omega),getElem?_eq_getElem (by omega)];exact λe=>hij ((getElem_inj hnd').mp e)
 ·refine PySem.W.kas_kind (T:=.type "str") (by omega) (λu hu=>?_) (by rfl) (by rfl) hQ;obtain⟨i,hi,e⟩:=List.getElem_of_mem hu;obtain⟨t,e'⟩:=gd i (by omega);rw[getD_eq_getElem?_getD,getElem?_eq_getElem hi,e]at e';rw[show u=_ from e'];exact PySem.W.Looks.now
 ·obtain⟨t1,e1⟩:=gd i (by omega);obtain⟨t2,e2⟩:=gd j (by omega);rw[e1,e2];exact PySem.W.kas_lt_str hC
 ·obtain⟨c,hg⟩:=hg;rw[hvl]at hrow hup;have hin:∀i∈p.toList,i<ns.length:=λi hi=>mem_range.mp (hrow.perm.mem_iff.mp hi);have hperm2:(p.toList.map λi=>ns.getD i "").Perm ns:=by
   refine(hrow.perm.map _).trans ?_;have:(List.range ns.length).map (λi=>ns.getD i "")=ns:=by
    apply ext_getElem?;intro i;rw[getElem?_map]
    by_cases hi:i<ns.length
    ·rw[List.getElem?_range hi,(cJ (d:=("":Str)) hi).2];rfl
    ·rw[getElem?_eq_none (by rw[length_range];omega),getElem?_eq_none (by omega)];rfl
   rw[this]
  have hpl:p.size=ns.length:=hrow.size;have hpw:(p.toList.map λi=>ns.getD i "").Pairwise (λa b=>HT.fc a b=true):=by
   rw[List.pairwise_iff_getElem];intro i j hi hj hij;have hi':i<p.size:=by rw[length_map,length_toList]at hi;exact hi
   have hj':j<p.size:=by rw[length_map,length_toList]at hj;exact hj
   have:=hup i j hij (by omega);simp only[]at this;rw[getD_eq_getD_getElem?,getD_eq_getD_getElem?,Array.getElem?_eq_getElem hi',Array.getElem?_eq_getElem hj']at this;simpa using this
  refine⟨.ref h1.objs.size,_,I.laid (t':=tk) (o:=.lst ((p.toList.map λi=>ns.getD i "").map V.str)) kp (le_of_lt hlt1) ⟨?_,_,c,kX rv p.toList hin,hg⟩,rfl,q _ hperm2 hpw _ (I.hok.fresh (le_of_lt hlt1))⟩;rw[length_map,hperm2.length_eq,sizeLine_eq];omega
theorem nM:cx X (.type "dict") (λxs H Q=>∃a kvs,xs=[.ref a]∧Rd H a (.dK kvs)∧∀d,H d=none→Q (.ref d) (upd H d (.dK kvs))):=by
 intro pins s σ H xs us Q I r h;obtain⟨a,kvs,rfl,hH,q⟩:=h;obtain⟨u,rfl,ru⟩:=de r;cases ru;obtain⟨hz,hsm,vs,rel,dd⟩:=I.dK hH;refine kt_call_dict hsm dd (by rw[←rel.length];exact hz) λh' hd hs=>?_;have hkeep:∀b o,s.heap.get? b=some o→h'.get? b=some o:=λb o e=>by
  have:=hs.2 b (ne_of_lt (lt_size e));rw[this];exact get?_push_of_some _ e
 exact⟨.ref s.heap.objs.size,_,I.laid (t':=s.toks) (o:=.dK kvs) hkeep (le_refl _) (gF hz (beq_eq_false_iff_ne.mpr (symm (ne_of_lt I.big))) rel hd),rfl,q _ (I.hok.fresh (le_refl _))⟩
end
end L2
namespace TK
open PySem L2
def Off(S:List Addr)(H H':Hp):Prop:=∀b o,H b=some o→b∉S→H' b=some o
theorem jR{f:Str}{v:V}{r:List (Str×V)}:((f,v)::r).lookup f=some v:=by rw[lookup_cons,beq_self_eq_true]
theorem bY{f g:Str}{v:V}{r:List (Str×V)}(h:¬g=f):((g,v)::r).lookup f=r.lookup f:=by
 have:(f==g)=false:=by simpa using λe:f=g=>h e.symm
 rw[lookup_cons,this]
theorem lQ{f:Str}{v w:V}{r:List (Str×V)}:cR f v ((f,w)::r)=(f,v)::r:=by
 show(if f=f then _ else _)=_;rw[if_pos rfl]
theorem br{f g:Str}{v w:V}{r:List (Str×V)}(h:¬g=f):cR f v ((g,w)::r)=(g,w)::cR f v r:=by
 show(if g=f then _ else _)=_;rw[if_neg h]
def cA(H H':Hp):Prop:=∀b u,H b=some u→(∀xs,u≠.lst xs)→(∀C dx fs,u≠.ins C dx fs)→H' b=some u
theorem cA.trans{H1 H2 H3:Hp}(a:cA H1 H2)(b:cA H2 H3):cA H1 H3:=λp u h n1 n2=>b p u (a p u h n1 n2) n1 n2
theorem av{H H':Hp}(s:Same H H'):cA H H':=λb u h _ _=>s b u h
theorem jS{H:Hp}{a:Addr}{xs ys:List V}(h:H a=some (.lst xs)):cA H (upd H a (.lst ys)):=λb u hb n _=>by
 rw[aj (λe=>by rw[e,h]at hb;exact n xs (Option.some.inj hb).symm)];exact hb
theorem fR{H:Hp}{a C dx:Addr}{fs gs:List (Str×V)}(h:H a=some (.ins C dx fs)):cA H (upd H a (.ins C dx gs)):=λb u hb _ n=>by
 rw[aj (λe=>by rw[e,h]at hb;exact n C dx fs (Option.some.inj hb).symm)];exact hb
theorem cA.tup{H H':Hp}(s:cA H H'){b:Addr}{xs:List V}(h:H b=some (.tup xs)):H' b=some (.tup xs):=s b _ h (λ_ h=>by cases h) (λ_ _ _ h=>by cases h)
theorem cA.rd{H H':Hp}(s:cA H H'){b:Addr}{kvs:List (Key×V)}(h:Rd H b (.dK kvs)):Rd H' b (.dK kvs):=by
 rcases h with h|⟨o,h⟩
 ·exact .inl (s b _ h (λ_ h=>by cases h) (λ_ _ _ h=>by cases h))
 ·exact .inr ⟨o,s b _ h (λ_ h=>by cases h) (λ_ _ _ h=>by cases h)⟩
theorem Tre.stay{H H':Hp}{t:Addr}{z:ZN}(h:Tre H t z)(s:cA H H'):Tre H' t z:=⟨s.tup h.tup,λz hz=>s.tup (h.nod z hz),h.tr,h.len⟩
abbrev TG:=List (Str×(Addr×ZN))
def bv(gs:TG):List (Key×V):=gs.map λg=>((Sum.inr g.1:Key),V.ref g.2.1)
structure Tags(H:Hp)(d:Addr)(gs:TG):Prop where
 dct:Rd H d (.dK (bv gs))
 at':∀g∈gs,Tre H g.2.1 g.2.2
 nd:(gs.map (·.1)).Nodup
 len:gs.length≤50
theorem Tags.stay{H H':Hp}{d:Addr}{gs:TG}(h:Tags H d gs)(s:cA H H'):Tags H' d gs:=⟨s.rd h.dct,λg hg=>(h.at' g hg).stay s,h.nd,h.len⟩
theorem Tags.same{H H':Hp}{d:Addr}{gs:TG}(h:Tags H d gs)(s:Same H H'):Tags H' d gs:=h.stay (av s)
structure Ent where
 a:Addr
 sa:Addr
 ta:Addr
 da:Addr
 xs:List V
 z:ZN
 gs:TG
structure EntAt(H:Hp)(e:Ent):Prop where
 ob:H e.a=some (.tup [.ref e.sa,.ref e.ta,.ref e.da])
 st:H e.sa=some (.tup e.xs)
 tr:Tre H e.ta e.z
 tg:Tags H e.da e.gs
theorem EntAt.stay{H H':Hp}{e:Ent}(h:EntAt H e)(s:cA H H'):EntAt H' e:=⟨s.tup h.ob,s.tup h.st,h.tr.stay s,h.tg.stay s⟩
abbrev bc(es:List Ent):List V:=es.map λe=>V.ref e.a
def flL(ft t d pl al:Addr):List (Str×V):=[("first_tree",.ref ft),("tree",.ref t),("tag_trees",.ref d),("past",.ref pl),("ahead",.ref al)]
abbrev fi1(t:Addr):List (Str×V):=[("first_tree",V.ref t)]
abbrev fi2(t:Addr):List (Str×V):=[("first_tree",V.ref t),("tree",V.ref t)]
abbrev fi3(t d:Addr):List (Str×V):=[("first_tree",V.ref t),("tree",V.ref t),("tag_trees",V.ref d)]
abbrev fi4(t d pl:Addr):List (Str×V):=[("first_tree",V.ref t),("tree",V.ref t),("tag_trees",V.ref d),("past",V.ref pl)]
theorem xy:¬(("first_tree":Str)="tree"):=by decide +kernel
theorem xA:¬(("first_tree":Str)="tag_trees"):=by decide +kernel
theorem xB:¬(("first_tree":Str)="past"):=by decide +kernel
theorem xC:¬(("first_tree":Str)="ahead"):=by decide +kernel
theorem xE:¬(("tree":Str)="tag_trees"):=by decide +kernel
theorem xF:¬(("tree":Str)="past"):=by decide +kernel
theorem xG:¬(("tree":Str)="ahead"):=by decide +kernel
theorem xH:¬(("tag_trees":Str)="past"):=by decide +kernel
theorem xI:¬(("tag_trees":Str)="ahead"):=by decide +kernel
theorem xJ:¬(("past":Str)="ahead"):=by decide +kernel
section
variable{ft t d pl al x:Addr}
theorem yR:(flL ft t d pl al).lookup ("first_tree":Str)=some (.ref ft):=jR
theorem jT:(flL ft t d pl al).lookup ("tree":Str)=some (.ref t):=by unfold flL;rw[bY xy,jR]
theorem oU:cR "tree" (.ref x) (flL ft t d pl al)=flL ft x d pl al:=by unfold flL;rw[br xy,lQ]
theorem il:(flL ft t d pl al).lookup ("tag_trees":Str)=some (.ref d):=by unfold flL;rw[bY xA,bY xE,jR]
theorem oV:cR "tag_trees" (.ref x) (flL ft t d pl al)=flL ft t x pl al:=by unfold flL;rw[br xA,br xE,lQ]
theorem li:(flL ft t d pl al).lookup ("past":Str)=some (.ref pl):=by unfold flL;rw[bY xB,bY xF,bY xH,jR]
theorem xK:cR "past" (.ref x) (flL ft t d pl al)=flL ft t d x al:=by unfold flL;rw[br xB,br xF,br xH,lQ]
theorem qu:(flL ft t d pl al).lookup ("ahead":Str)=some (.ref al):=by unfold flL;rw[bY xC,bY xG,bY xI,bY xJ,jR]
theorem tT:cR "ahead" (.ref x) (flL ft t d pl al)=flL ft t d pl x:=by unfold flL;rw[br xC,br xG,br xI,br xJ,lQ]
theorem dt:(flL ft t d pl al).length<1000:=by show 5<1000;decide
end
structure LCls(K:PySem.W.Frag)(mg:Str→Option Value)(C:Addr):Prop where
 cl:Cls K C
 n0:dB K C "first_tree"
 n1:dB K C "tree"
 n2:dB K C "tag_trees"
 n3:dB K C "past"
 n4:dB K C "ahead"
 mgC:mg "Ledger"=some (.ref C)
structure LAt(C:Addr)(H:Hp)(p ft t d pl al:Addr)(zf z:ZN)(gs:TG)(es as:List Ent):Prop where
 ob:∃dx,H p=some (.ins C dx (flL ft t d pl al))
 tf:Tre H ft zf
 tr:Tre H t z
 tg:Tags H d gs
 ps:H pl=some (.lst (bc es))
 ah:H al=some (.lst (bc as))
 ne:pl≠al
 ep:∀e∈es,EntAt H e
 ea:∀e∈as,EntAt H e
theorem LAt.same{C:Addr}{H H':Hp}{p ft t d pl al:Addr}{zf z:ZN}{gs:TG}{es as:List Ent}(h:LAt C H p ft t d pl al zf z gs es as)(s:Same H H'):LAt C H' p ft t d pl al zf z gs es as :=
 ⟨let⟨dx,e⟩:=h.ob;⟨dx,s _ _ e⟩,h.tf.same s,h.tr.same s,h.tg.same s,s _ _ h.ps,s _ _ h.ah,h.ne,λe he=>(h.ep e he).stay (av s),λe he=>(h.ea e he).stay (av s)⟩
section
variable{P:Program}{w:World}{K:PySem.W.Frag}{mg:Str→Option Value}{base:Heap}
def iG(C:Addr):Sp:=λvs H Q _=>∃p dx t z,vs=[.ref p,.ref t]∧H p=some (.ins C dx [])∧Tre H t z∧∀d pl al H',H d=none→H pl=none→H al=none→LAt C H' p t t d pl al z z [] [] []→Off [p] H H'→Q .non H'
theorem xL:FnScope ["self","tree"] ["self","tree"] (am eT):=fsc
theorem vA{f C:Addr}{fd:FuncData}(F:Fun K "__init__" "Ledger.__init__" eT f fd)(T:LCls K mg C):FnOk P w K mg base CX0 1 f fd ["self","tree"] (iG C):=by
 refine F.ok xL (λvs H Q E h=>?_) (λcdv A outer s H vs Q E hr h=>?_)
 ·obtain⟨p,dx,t,z,rfl,_⟩:=h;rfl
 ·obtain⟨p,dx,t,z,rfl,hp,tr,k⟩:=h;refine⟨_,ai (cF (pv 0) (pv 1) rfl) (ai (cF (pv 0) (pv 1) rfl) (ai (cF (pv 0) gZ rfl) (ai (cF (pv 0) (ba af) rfl) (ao (cF (pv 0) (ba af) rfl))))),?_⟩;refine⟨_,rfl,_,rfl,p,C,dx,[],rfl,hp,T.cl,T.n0,(by show 0<1000;decide),?_⟩;have q1:upd H p (.ins C dx (fi1 t)) p=some (.ins C dx (fi1 t)):=ac;have f1:∀b,upd H p (.ins C dx (fi1 t)) b=none→H b=none:=λb e=>by
   rw[aj λz=>by rw[z,ac]at e;cases e]at e;exact e
  have o1:Off [p] H (upd H p (.ins C dx (fi1 t))):=λb o e hb=>by
   rw[aj (by simpa using hb)];exact e
  show lZ _ _ _ _ (upd H p (.ins C dx (fi1 t)));generalize upd H p (.ins C dx (fi1 t))=H1 at q1 f1 o1⊢;refine⟨_,rfl,_,rfl,p,C,dx,_,rfl,q1,T.cl,T.n1,(by show 1<1000;decide),?_⟩;rw[show cR "tree" (V.ref t) (fi1 t)=(fi2 t)from br xy];have q2:upd H1 p (.ins C dx (fi2 t)) p=some (.ins C dx (fi2 t)):=ac;have f2:∀b,upd H1 p (.ins C dx (fi2 t)) b=none→H1 b=none:=λb e=>by
   rw[aj λz=>by rw[z,ac]at e;cases e]at e;exact e
  have o2:Off [p] H1 (upd H1 p (.ins C dx (fi2 t))):=λb o e hb=>by
   rw[aj (by simpa using hb)];exact e
  generalize upd H1 p (.ins C dx (fi2 t))=H2 at q2 f2 o2⊢;intro d hd;have nd:p≠d:=aw q2 hd;refine⟨_,rfl,p,C,dx,_,rfl,by rw[aj nd];exact q2,T.cl,T.n2,(by show 2<1000;decide),?_⟩;rw[show cR "tag_trees" (V.ref d) (fi2 t)=(fi3 t d)by rw[br xA,br xE];rfl];have q3:upd (upd H2 d (.dK [])) p (.ins C dx (fi3 t d)) p=some (.ins C dx (fi3 t d)):=ac;have d3:upd (upd H2 d (.dK [])) p (.ins C dx (fi3 t d)) d=some (.dK []):=by rw[aj (symm nd),ac]
  have f3:∀b,upd (upd H2 d (.dK [])) p (.ins C dx (fi3 t d)) b=none→H2 b=none:=λb e=>by
   rw[aj (λz=>by rw[z,ac]at e;cases e),aj (λz=>by rw[z,ac]at e;cases e)]at e;exact e
  have o3:Off [p] H2 (upd (upd H2 d (.dK [])) p (.ins C dx (fi3 t d))):=λb o e hb=>by
   rw[aj (by simpa using hb),aj (aw e hd)];exact e
  show lZ _ _ _ _ (upd (upd H2 d (.dK [])) p (.ins C dx (fi3 t d)));generalize upd (upd H2 d (.dK [])) p (.ins C dx (fi3 t d))=H3 at q3 d3 f3 o3⊢;refine⟨zero_le _,λpl hpl=>?_⟩;have np:p≠pl:=aw q3 hpl;refine⟨_,rfl,p,C,dx,_,rfl,by rw[aj np];exact q3,T.cl,T.n3,(by show 3<1000;decide),?_⟩;rw[show cR "past" (V.ref pl) (fi3 t d)=(fi4 t d pl)by rw[br xB,br xF,br xH];rfl];have q4:upd (upd H3 pl (.lst [])) p (.ins C dx (fi4 t d pl)) p=some (.ins C dx (fi4 t d pl)):=ac;have l4:upd (upd H3 pl (.lst [])) p (.ins C dx (fi4 t d pl)) pl=some (.lst []):=by rw[aj (symm np),ac]
  have f4:∀b,upd (upd H3 pl (.lst [])) p (.ins C dx (fi4 t d pl)) b=none→H3 b=none:=λb e=>by
   rw[aj (λz=>by rw[z,ac]at e;cases e),aj (λz=>by rw[z,ac]at e;cases e)]at e;exact e
  have o4:Off [p] H3 (upd (upd H3 pl (.lst [])) p (.ins C dx (fi4 t d pl))):=λb o e hb=>by
   rw[aj (by simpa using hb),aj (aw e hpl)];exact e
  show _;generalize upd (upd H3 pl (.lst [])) p (.ins C dx (fi4 t d pl))=H4 at q4 l4 f4 o4⊢;refine⟨zero_le _,λal hal=>?_⟩;have na:p≠al:=aw q4 hal;refine⟨_,rfl,p,C,dx,_,rfl,by rw[aj na];exact q4,T.cl,T.n4,(by show 4<1000;decide),?_⟩;rw[show cR "ahead" (V.ref al) (fi4 t d pl)=flL t t d pl al by rw[br xC,br xG,br xI,br xJ];rfl];have o5:Off [p] H4 (upd (upd H4 al (.lst [])) p (.ins C dx (flL t t d pl al))):=λb o e hb=>by
   rw[aj (by simpa using hb),aj (aw e hal)];exact e
  have oA:Off [p] H (upd (upd H4 al (.lst [])) p (.ins C dx (flL t t d pl al))):=λb o e hb=>o5 _ _ (o4 _ _ (o3 _ _ (o2 _ _ (o1 _ _ e hb) hb) hb) hb) hb;have nt:∀{b:Addr}{xs:List V},H b=some (.tup xs)→b∉[p]:=λ{b xs} hb h=>by
   have e:b=p:=by simpa using h
   rw[e,hp]at hb;cases hb
  have tA:Tre (upd (upd H4 al (.lst [])) p (.ins C dx (flL t t d pl al))) t z:=⟨oA _ _ tr.tup (nt tr.tup),λy hy=>oA _ _ (tr.nod y hy) (nt (tr.nod y hy)),tr.tr,tr.len⟩;refine k d pl al _ (f1 _ (f2 _ hd)) (f1 _ (f2 _ (f3 _ hpl))) (f1 _ (f2 _ (f3 _ (f4 _ hal)))) ⟨⟨dx,ac⟩,tA,tA,⟨.inl (o5 _ _ (o4 _ _ d3 (by simpa using symm nd)) (by simpa using symm nd)),(λg hg=>nomatch hg),nodup_nil,by decide⟩,o5 _ _ l4 (by simpa using symm np),?_,aw l4 hal,(λe he=>nomatch he),(λe he=>nomatch he)⟩ oA;rw[aj (symm na),ac];rfl
def oW(C:Addr):Sp:=λvs H Q _=>∃p ft t d pl al zf z gs es as,vs=[.ref p]∧LAt C H p ft t d pl al zf z gs es as∧Q (.ref t) H
theorem xM:FnScope ["self"] ["self"] (am fQ):=fsc
theorem vB{f C:Addr}{fd:FuncData}(F:Fun K "now" "Ledger.now" fQ f fd)(T:LCls K mg C):FnOk P w K mg base CX0 1 f fd ["self"] (oW C):=by
 refine F.ok xM (λvs H Q E h=>?_) (λcdv A outer s H vs Q E hr h=>?_)
 ·obtain⟨p,ft,t,d,pl,al,zf,z,gs,es,as,rfl,_⟩:=h;rfl
 ·obtain⟨p,ft,t,d,pl,al,zf,z,gs,es,as,rfl,L,q⟩:=h;obtain⟨dx,hp⟩:=L.ob;exact⟨_,ao (ax (bh (pv 0) rfl)),_,rfl,p,C,dx,_,_,rfl,hp,T.cl,T.n1,jT,q⟩
def iH(C:Addr):Sp:=λvs H Q _=>∃p ft t d pl al zf z gs es as,vs=[.ref p]∧LAt C H p ft t d pl al zf z gs es as∧∀u,H u=none→Q (.ref u) (upd H u (.tup [.int es.length,.int as.length]))
theorem xN:FnScope ["self"] ["self"] (am dS):=fsc
theorem vC{f C:Addr}{fd:FuncData}(F:Fun K "sizes" "Ledger.sizes" dS f fd)(Tx:Txt mg)(T:LCls K mg C):FnOk P w K mg base CX0 1 f fd ["self"] (iH C):=by
 refine F.ok xN (λvs H Q E h=>?_) (λcdv A outer s H vs Q E hr h=>?_)
 ·obtain⟨p,ft,t,d,pl,al,zf,z,gs,es,as,rfl,_⟩:=h;rfl
 ·obtain⟨p,ft,t,d,pl,al,zf,z,gs,es,as,rfl,L,q⟩:=h;obtain⟨dx,hp⟩:=L.ob;refine⟨_,ao (ax (aP (aa (aF bo rfl Tx.len boot_len (aa (bh (pv 0) rfl) af)) (aa (aF bo rfl Tx.len boot_len (aa (bh (pv 0) rfl) af)) af)))),?_⟩;refine⟨_,rfl,p,C,dx,_,_,rfl,hp,T.cl,T.n3,li,pl,_,rfl,.inl (SqL.of L.ps),_,rfl,p,C,dx,_,_,rfl,hp,T.cl,T.n4,qu,al,_,rfl,.inl (SqL.of L.ah),(show 2≤sizeLine from aq (by decide)),λu hu=>?_⟩;rw[length_map,length_map];exact q u hu
end
theorem ci{ft t d pl al:Addr}{m:Str}(h0:¬(("first_tree":Str)=m))(h1:¬(("tree":Str)=m))(h2:¬(("tag_trees":Str)=m))(h3:¬(("past":Str)=m))(h4:¬(("ahead":Str)=m)):(flL ft t d pl al).lookup m=none:=by
 unfold flL;rw[bY h0,bY h1,bY h2,bY h3,bY h4];rfl
theorem gn{H H':Hp}(s:Same H H'){b:Addr}(h:H' b=none):H b=none:=by
 cases hh:H b with
 |none=>rfl
 |some o=>rw[s _ _ hh]at h;cases h
section
variable{P:Program}{w:World}{K:PySem.W.Frag}{mg:Str→Option Value}{base:Heap}
def qv(C:Addr):Sp:=λvs H Q _=>∃p ft t d pl al zf z gs es as sa xs t' z' d' gs',vs=[.ref p,.ref sa,.ref t',.ref d']∧LAt C H p ft t d pl al zf z gs es as∧H sa=some (.tup xs)∧Tre H t' z'∧Tags H d' gs'∧es.length≤200 ∧
 ∀q al' H',H al'=none→LAt C H' p ft t' d' pl al' zf z' gs' (es++[⟨q,sa,t,d,xs,z,gs⟩]) []→cA H H'→Off [p,pl] H H'→Q .non H'
theorem yS:FnScope ["self","step","tree","tag_trees"] ["self","step","tree","tag_trees"] (am dP):=fsc
theorem xO{f C:Addr}{fd:FuncData}(F:Fun K "go_on" "Ledger.go_on" dP f fd)(T:LCls K mg C):FnOk P w K mg base CX0 1 f fd ["self","step","tree","tag_trees"] (qv C):=by
 refine F.ok yS (λvs H Q E h=>?_) (λcdv A outer s H vs Q E hr h=>?_)
 ·obtain⟨p,ft,t,d,pl,al,zf,z,gs,es,as,sa,xs,t',z',d',gs',rfl,_⟩:=h;rfl
 ·obtain⟨p,ft,t,d,pl,al,zf,z,gs,es,as,sa,xs,t',z',d',gs',rfl,L,hsa,tr',tg',hl,q⟩:=h;obtain⟨dx,hp⟩:=L.ob;refine⟨_,ai (bn (fk plainAttrs_list PySem.F.slot_list_append PySem.F.type_list_append ce (bh (pv 0) rfl) (aa (aP (aa (pv 1) (aa (bh (pv 0) rfl) (aa (bh (pv 0) rfl) af)))) af)))
   (ai (cF (pv 0) (ba af) rfl) (ai (cF (pv 0) (pv 2) rfl) (ao (cF (pv 0) (pv 3) rfl)))),?_⟩
  refine⟨_,rfl,p,C,dx,_,_,rfl,hp,T.cl,T.n3,li,.inl ⟨rfl,_,SqL.of L.ps⟩,_,rfl,_,rfl,p,C,dx,_,_,rfl,hp,T.cl,T.n1,jT,_,rfl,p,C,dx,_,_,rfl,hp,T.cl,T.n2,il,(show 3≤sizeLine from aq (by decide)),λe he=>?_⟩;have s1:=ae (o:=.tup [.ref sa,.ref t,.ref d]) he;have g1:upd H e (.tup [.ref sa,.ref t,.ref d]) e=some (.tup [.ref sa,.ref t,.ref d]):=ac;generalize upd H e (.tup [.ref sa,.ref t,.ref d])=H1 at s1 g1⊢;have L1:=L.same s1;have hp1:=s1 _ _ hp;refine⟨pl,_,_,rfl,rfl,L1.ps,ay (by rw[length_map];omega),?_⟩;have npl:p≠pl:=lY hp1 L1.ps (by intro h;cases h);have k2:=jS (ys:=bc es++[.ref e]) L1.ps;have hp2:upd H1 pl (.lst (bc es++[.ref e])) p=some (.ins C dx (flL ft t d pl al)):=by rw[aj npl];exact hp1
  have hl2:upd H1 pl (.lst (bc es++[.ref e])) pl=some (.lst (bc (es++[⟨e,sa,t,d,xs,z,gs⟩]))):=by rw[ac];unfold bc;rw[map_append];rfl
  have o2:Off [p,pl] H1 (upd H1 pl (.lst (bc es++[.ref e]))):=λb o h hb=>by rw[aj (λz=>hb (by rw[z];simp))];exact h
  generalize upd H1 pl (.lst (bc es++[.ref e]))=H2 at k2 hp2 hl2 o2⊢;refine⟨zero_le _,λal' hal'=>?_⟩;have na:p≠al':=aw hp2 hal';have nla:pl≠al':=aw hl2 hal';have fa:H al'=none:=by
   cases hh:H al' with
   |none=>rfl
   |some o =>
    have h2:=o2 _ _ (s1 _ _ hh) (by simp[symm na,symm nla]);rw[hal']at h2;cases h2
  refine⟨_,rfl,p,C,dx,_,rfl,by rw[aj na];exact hp2,T.cl,T.n4,dt,?_⟩;rw[tT];have hpA:upd H2 al' (.lst []) p=some (.ins C dx (flL ft t d pl al)):=by rw[aj na];exact hp2
  have sA:=ae (o:=.lst []) hal';have gA:upd H2 al' (.lst []) al'=some (.lst []):=ac;generalize upd H2 al' (.lst [])=H3 at hpA sA gA⊢;have k4:=fR (gs:=flL ft t d pl al') hpA;have g4:upd H3 p (.ins C dx (flL ft t d pl al')) p=some (.ins C dx (flL ft t d pl al')):=ac;have o4:Off [p,pl] H3 (upd H3 p (.ins C dx (flL ft t d pl al'))):=λb o h hb=>by rw[aj (λz=>hb (by rw[z];simp))];exact h
  have l4:upd H3 p (.ins C dx (flL ft t d pl al')) pl=some (.lst (bc (es++[⟨e,sa,t,d,xs,z,gs⟩]))):=by rw[aj (symm npl)];exact sA _ _ hl2
  have a4:upd H3 p (.ins C dx (flL ft t d pl al')) al'=some (.lst []):=by rw[aj (symm na)];exact gA
  generalize upd H3 p (.ins C dx (flL ft t d pl al'))=H4 at k4 g4 o4 l4 a4⊢;refine⟨_,rfl,_,rfl,p,C,dx,_,rfl,g4,T.cl,T.n1,dt,?_⟩;rw[oU];have k5:=fR (gs:=flL ft t' d pl al') g4;have g5:upd H4 p (.ins C dx (flL ft t' d pl al')) p=some (.ins C dx (flL ft t' d pl al')):=ac;have o5:Off [p,pl] H4 (upd H4 p (.ins C dx (flL ft t' d pl al'))):=λb o h hb=>by rw[aj (λz=>hb (by rw[z];simp))];exact h
  have l5:upd H4 p (.ins C dx (flL ft t' d pl al')) pl=some (.lst (bc (es++[⟨e,sa,t,d,xs,z,gs⟩]))):=by rw[aj (symm npl)];exact l4
  have a5:upd H4 p (.ins C dx (flL ft t' d pl al')) al'=some (.lst []):=by rw[aj (symm na)];exact a4
  generalize upd H4 p (.ins C dx (flL ft t' d pl al'))=H5 at k5 g5 o5 l5 a5⊢;refine⟨_,rfl,_,rfl,p,C,dx,_,rfl,g5,T.cl,T.n2,dt,?_⟩;rw[oV];have k6:=fR (gs:=flL ft t' d' pl al') g5;have o6:Off [p,pl] H5 (upd H5 p (.ins C dx (flL ft t' d' pl al'))):=λb o h hb=>by rw[aj (λz=>hb (by rw[z];simp))];exact h
  have kA:cA H (upd H5 p (.ins C dx (flL ft t' d' pl al'))):=(((((av s1).trans k2).trans (av sA)).trans k4).trans k5).trans k6;have k16:cA H1 (upd H5 p (.ins C dx (flL ft t' d' pl al'))):=((((k2).trans (av sA)).trans k4).trans k5).trans k6;refine q e al' _ fa ⟨⟨dx,ac⟩,L.tf.stay kA,tr'.stay kA,tg'.stay kA,by rw[aj (symm npl)];exact l5,by rw[aj (symm na)];exact a5,nla,λy hy=>?_,(λy hy=>nomatch hy)⟩ kA λb o h hb=>o6 _ _ (o5 _ _ (o4 _ _ (sA _ _ (o2 _ _ (s1 _ _ h) hb)) hb) hb) hb;rcases mem_append.mp hy with h|h
  ·exact(L.ep y h).stay kA
  ·have ey:y=⟨e,sa,t,d,xs,z,gs⟩:=by simpa using h
   rw[ey];exact⟨k16.tup g1,kA.tup hsa,L.tr.stay kA,L.tg.stay kA⟩
def nN(C:Addr)(cls:TW.Wd→Addr):Sp:=λvs H Q E=>∃p ft t d pl al zf z gs es as sa dd,vs=[.ref p,.ref sa]∧LAt C H p ft t d pl al zf z gs es as∧z.length≤29∧H sa=some (.tup (aS dd))∧dC dd∧es.length≤200 ∧
 (∀t' us q al' H',H al'=none→TW.Told (nds z) dd (.inr (nds us))→LAt C H' p ft t' d pl al' zf us gs (es++[⟨q,sa,t,d,aS dd,z,gs⟩]) []→cA H H'→Off [p,pl] H H'→Q .non H') ∧
 ∀wd H',Same H H'→TW.Told (nds z) dd (.inl wd)→E (.ref (cls wd)) none H'
theorem yT:FnScope ["self","deed"] ["self","deed"] (am gK):=fsc
theorem xP{f C fG:Addr}{fd fdG:FuncData}{cls:TW.Wd→Addr}(F:Fun K "do" "Ledger.do" gK f fd)(T:LCls K mg C)(CD:ff P w K mg base 4 "done" ["tree","deed"] (oR cls))(MG:Meth K C "go_on" fG)(GG:FnOk P w K mg base CX0 1 fG fdG ["self","step","tree","tag_trees"] (qv C))(bG:aG K fdG ["self","step","tree","tag_trees"] []):FnOk P w K mg base (CX1 P w) 5 f fd ["self","deed"] (nN C cls):=by
 obtain⟨fD,fdD,GD,mD,kD,bD⟩:=CD;refine F.okX yT (λvs H Q E h=>?_) (λcdv A outer s H vs Q E hr h=>?_)
 ·obtain⟨p,ft,t,d,pl,al,zf,z,gs,es,as,sa,dd,rfl,_⟩:=h;rfl
 ·have hr1:Room 1 _:=hr.mono (by decide);refine⟨_,ao (bn (dI (pv 0) T.cl MG GG hr1 bG .nil aK (aa (pv 1) (aa (ar (E:=E) GD hr rfl mD kD bD .nil (cy bO) (aa (bh (pv 0) rfl) (aa (pv 1) af))) (aa (bh (pv 0) rfl) af))))),?_⟩;obtain⟨p,ft,t,d,pl,al,zf,z,gs,es,as,sa,dd,rfl,L,hz,hsa,hok,hl,qo,qE⟩:=h;obtain⟨dx,hp⟩:=L.ob;refine⟨_,rfl,p,dx,_,rfl,hp,ci (by decide +kernel) (by decide +kernel) (by decide +kernel) (by decide +kernel) (by decide +kernel),_,rfl,_,rfl,p,C,dx,_,_,rfl,hp,T.cl,T.n1,jT,_,rfl,t,sa,dd,z,rfl,L.tr,hz,hsa,hok,⟨λus t' H1 s1 ht' hA told=>?_,λwd H1 s1 told=>qE wd H1 s1 told⟩⟩;have L1:=L.same s1;have Tb:Tre H1 t' us:=⟨ht',hA,told.tree L.tr.tr hok.pos,by have:=told.len;rw[aZ,aZ]at this;omega⟩;exact⟨_,rfl,p,C,dx,_,_,rfl,s1 _ _ hp,T.cl,T.n2,il,p,ft,t,d,pl,al,zf,z,gs,es,as,sa,aS dd,t',us,d,gs,rfl,L1,s1 _ _ hsa,Tb,L1.tg,hl,λq al' H' fa L' k o=>qo t' us q al' H' (gn s1 fa) told L' ((av s1).trans k) λb o' h hb=>o _ _ (s1 _ _ h) hb⟩
end
def letters:Str:="abcdefghijklmnopqrstuvwxyz"
def inL(c:Nat):Bool:=!(Builtin.Str.occurrences letters ⟨#[c]⟩ 0 letters.length 1).isEmpty
def dE(x:Str):Bool:=decide (1≤x.length)&&decide (x.length≤5)&&x.cps.toList.all inL
theorem xQ:FnScope ["thing"] ["thing"] (am tE):=fsc
end TK
namespace L2
open PySem PySem.Spec PyProof.Rows
section
variable{X:Cx}
theorem gv{M:Model}{A:Around}{E:Value→Shared→Prop}{s:Shared}{env:Env}{value:Expr}{pos:Pos}{Q:Value→Shared→Prop}(h:wpAny M A (eval value env) (λv s₁=>wpAny M A (pyReprObj v) (λv' s₂=>wpAny M A (formatField v' empty) Q E s₂) E s₁) E s):wpAny M A (eval (.FormattedValue value 114 none pos) env) Q E s:=by
 show wpAny M A (do let v ← eval value env;standAt pos;formatted pos (← holding [v] (converted 114 v)) none) Q E s
 refine wpAny_bind (wpAny_mono h (λv s₁ h₁=>?_) λ_ _ x=>x);refine wpAny_bind (wpAny_standAt ?_);show wpAny _ _ (do let v' ← holding [v] (pyReprObj v);formatField v' empty) Q E s₁
 exact wpAny_bind (wpAny_holding h₁)
theorem vD{e:Expr}{te:TE}{b:Nat}{p:Pos}{ps:List Expr}{t:TJ}(he:PE X e te)(h:PJ X ps b t):PJ X (.FormattedValue e 114 none p::ps) (300+b) (λσ H k=>te σ H λv H1=>∃x:Str,v=.str x∧(reprText x).length≤300∧t σ H1 k):=by
 intro out pins s σ H Q I hb hq;refine joinParts_cons (gv (thn (he pins _ σ H _ I hq) λv s1 hpt=>?_));obtain⟨y,H1,I1,r1,q1⟩:=hpt;obtain⟨x,rfl,hx,q⟩:=q1;obtain⟨tk,rfl⟩:=r1;have hl:(out++reprText x).length=out.length+(reprText x).length:=strLen_append ..;refine wpAny_pyReprObj_str (formatField_str (λt' tk'=>⟨le_of_lt (ay (by omega)),?_⟩) (le_of_lt (ay (by omega)))) (le_of_lt (ay (by omega)));exact h _ pins _ σ H1 Q (I1.tok _) (by omega) q
end
end L2
namespace TK
open PySem L2
section
variable{P:Program}{w:World}{K:PySem.W.Frag}{mg:Str→Option Value}{base:Heap}
def jU(C:Addr):Sp:=λvs H Q _=>∃p ft t d pl al zf z gs es as,vs=[.ref p]∧LAt C H p ft t d pl al zf z gs es as∧es.length≤200∧∀l H',Same H H'→H' l=some (.lst (es.map λe=>V.ref e.sa))→Q (.ref l) H'
theorem xR:FnScope ["self"] ["self"] (am dQ):=fsc
theorem vE{f C:Addr}{fd:FuncData}(F:Fun K "steps" "Ledger.steps" dQ f fd)(T:LCls K mg C):FnOk P w K mg base CX0 1 f fd ["self"] (jU C):=by
 refine F.ok xR (λvs H Q E h=>?_) (λcdv A outer s H vs Q E hr h=>?_)
 ·obtain⟨p,ft,t,d,pl,al,zf,z,gs,es,as,rfl,_⟩:=h;rfl
 ·obtain⟨p,ft,t,d,pl,al,zf,z,gs,es,as,rfl,L,hl,q⟩:=h;obtain⟨dx,hp⟩:=L.ob;refine⟨_,ao (ax (hJ (N:=["entry"]) (cl:=[]) (k:=1) (js:=[]) (g:=cw 0) rfl (fq rfl (by decide +kernel) (by decide +kernel) (by decide +kernel)) rfl (λi j x h=>by simp at h) (gk (bh (pv 0) rfl)) (λs H fp=>aQ (i:=0) (show(["entry"]:List Str).Nodup by decide +kernel) rfl (Or.inl rfl) (Or.inr rfl))
    (λs H fp=>aB (r:=iT K) aA (pv 0) ak (λ_ _=>rfl)))),?_⟩
  refine⟨_,rfl,p,C,dx,_,_,rfl,hp,T.cl,T.n3,li,pl,rfl,⟨_,SqL.of L.ps⟩,λr hr0=>?_⟩;refine gl (fr:=[]) es (λe=>V.ref e.a) (by omega) hr0 (lL (SqL.of L.ps)) rfl (λe y _=>y=.ref e.sa) (λ_ _ _ _ h _=>h) (λe H' kk me s1 _ hk=>?_) (λys H1 s1 hp1 hys=>?_)
  ·exact⟨_,rfl,e.a,_,_,_,rfl,rfl,SqT.of (s1 _ _ (L.ep e me).ob),rfl,hk _ H' (Same.refl _) rfl⟩
  ·have ey:=cS (f:=λe:Ent=>V.ref e.sa) hys (λz y _ h=>h);exact q r H1 s1 (by rw[hp1,ey])
def lR(C:Addr):Sp:=λvs H Q _=>∃p ft t d pl al zf z gs es as,vs=[.ref p]∧LAt C H p ft t d pl al zf z gs es as∧∀ms:List Str,ms.Perm (gs.map (·.1))→ms.Pairwise (λa b=>HT.fc a b=true)→∀l,H l=none→Q (.ref l) (upd H l (.lst (ms.map V.str)))
theorem vF:FnScope ["self"] ["self"] (am eU):=fsc
theorem tU{f C:Addr}{fd:FuncData}(F:Fun K "tags" "Ledger.tags" eU f fd)(Tx:Txt mg)(T:LCls K mg C):FnOk P w K mg base CX0 1 f fd ["self"] (lR C):=by
 refine F.ok vF (λvs H Q E h=>?_) (λcdv A outer s H vs Q E hr h=>?_)
 ·obtain⟨p,ft,t,d,pl,al,zf,z,gs,es,as,rfl,_⟩:=h;rfl
 ·obtain⟨p,ft,t,d,pl,al,zf,z,gs,es,as,rfl,L,q⟩:=h;obtain⟨dx,hp⟩:=L.ob;refine⟨_,ao (ax (aF (jQ rfl) rfl Tx.sorted boot_sorted (aa (bh (pv 0) rfl) af))),?_⟩;have hlen:=L.tg.len;exact⟨_,rfl,p,C,dx,_,_,rfl,hp,T.cl,T.n2,il,d,_,gs.map (·.1),rfl,L.tg.dct,by unfold bv;rw[map_map,map_map];rfl,L.tg.nd,by rw[length_map];omega,λms h1 h2 l hl=>q ms h1 h2 l hl⟩
def jd:Sp:=λvs H Q _=>∃x:Str,vs=[.str x]∧x.length≤100∧∀H',Same H H'→Q (.bl (dE x)) H'
theorem tV{f:Addr}{fd:FuncData}(F:Fun K "is_name" "is_name" tE f fd)(T:Txt mg):FnOk P w K mg base CX0 1 f fd ["thing"] jd:=by
 obtain⟨tl,hL⟩:=T.letters;obtain⟨tn,hN⟩:=T.longest;refine F.ok xQ (λvs H Q E h=>?_) (λcdv A outer s H vs Q E hr h=>?_)
 ·obtain⟨v,rfl,_⟩:=h;rfl
 ·obtain⟨x,rfl,hx,k⟩:=h;refine⟨_,ai (aX (PW.pt (pw_or (gC (gB (aF dL rfl T.isin boot_isinstance (aa (pv 0) (aa (gP (v:=.ty "str") rfl T.str boot_str rfl) af))) (λ_=>rfl)))
    (pw_or1 (gC (sk vZ vZ ak (aF lC rfl T.len boot_len (aa (pv 0) af)) (bJ (v:=.int 5) rfl hN ⟨_,rfl⟩))))))
   (ao (ax fi)) aE)
   (ao (ax (aF (sK rfl) rfl T.all boot_all (aa (hJ (N:=["sign"]) (k:=1) (js:=[]) (g:=cw 0) rfl (fq rfl (by decide +kernel) (by decide +kernel) (by decide +kernel)) rfl (λi j x h=>by simp at h)
    (wV (pv 0)) (λs H fp=>aQ (i:=0) (show(["sign"]:List Str).Nodup by decide +kernel) rfl (Or.inl rfl) (Or.inr rfl)) (λs H fp=>pN qO (pv 0) (bJ (v:=.str letters) rfl hL ⟨_,rfl⟩) (by with_unfolding_all rfl))) af)))),?_⟩
  refine⟨_,rfl,_,_,_,_,rfl,.str x,(by kernel_rfl:_=some true),_,rfl,aM ?_⟩;refine⟨_,rfl,x,rfl,le_of_lt (ay (by omega)),_,_,rfl,rfl,_,rfl,?_⟩
  by_cases a1:1≤x.length
  ·have h1:decide ((1:Int)≤(x.length:Int))=true:=decide_eq_true (by omega);rw[h1];refine be ⟨_,_,rfl,rfl,_,rfl,?_⟩
   by_cases a2:x.length≤5
   ·have h2:decide ((x.length:Int)≤5)=true:=decide_eq_true (by omega);rw[h2];refine aM ?_;have en:dE x=x.cps.toList.all inL:=by unfold dE;rw[decide_eq_true a1,decide_eq_true a2];rfl
    have hsz:x.cps.size=x.length:=rfl;refine⟨_,rfl,x,rfl,λp hp=>?_⟩;refine sO (k:=1) (js:=[]) (J:=Its x) (p:=p) x.cps.size (by omega) (λi ys σ' H'=>ys=((x.cps.toList.take i).map inL).map V.bl∧σ'.length=1∧Same H H'∧H' p=some (.lst ys))
     ⟨rfl,rfl,ae hp,ac⟩ (λi ys σ' H' h=>?_) (λi ys σ' H' hi h=>hi) (λys σ' H' h=>?_) (λi ys σ' H' hi h v H2 hy=>?_) ?_ ?_
    ·rw[h.1,length_map,length_map,length_take];omega
    ·obtain⟨e1,_,s1,e2⟩:=h;have e3:ys=(x.cps.toList.map inL).map V.bl:=by rw[e1,List.take_of_length_le (by simp)]
     subst e3;refine⟨le_refl _,_,_,rfl,SqL.of e2,?_⟩;have e4:(x.cps.toList.map inL).all id=dE x:=by rw[all_map,en];rfl
     rw[e4];exact k _ s1
    ·obtain⟨e1,e0,s1,e2⟩:=h;obtain⟨rfl,c,hc,rfl⟩:=hy;refine⟨_,getElem?_set_self (by omega),_,_,rfl,rfl,e2,?_,by simpa using e0,aL hp s1,ac⟩
     have hc':x.cps.toList[i]?=some c:=by simpa using hc
     rw[e1,take_succ,hc'];simp[inL]
    ·intro _ _ _ _ _ m q;exact m _ _ q
    ·rintro _ _ _ _ m ⟨v,hv,i,j,a1,a2,q⟩;exact⟨v,hv,i,j,a1,a2,m _ _ q⟩
   ·have h2:decide ((x.length:Int)≤5)=false:=decide_eq_false (by omega);have en:dE x=false:=by unfold dE;rw[decide_eq_false a2,Bool.and_false];rfl
    rw[h2];have:=k H (Same.refl _);rw[en]at this;exact be this
  ·have h1:decide ((1:Int)≤(x.length:Int))=false:=decide_eq_false (by omega);have en:dE x=false:=by unfold dE;rw[decide_eq_false a1];rfl
   rw[h1];have:=k H (Same.refl _);rw[en]at this;exact aM ⟨false,rfl,be this⟩
end
def cP(gs:TG)(x:Str)(v:Addr×ZN):TG:=if (gs.any λg=>decide (g.1=x))=true then gs.map (λg=>if g.1=x then (g.1,v)else g)else gs++[(x,v)]
theorem nO(gs:TG)(x:Str)(v:Addr×ZN):cg (bv gs) (Sum.inr x:Key) (V.ref v.1)=bv (cP gs x v):=by
 have e:((bv gs).any λkv=>decide (kv.1=(Sum.inr x:Key)))=gs.any λg=>decide (g.1=x):=by
  unfold bv;rw[any_map]
  congr 1
  funext g
  show decide ((Sum.inr g.1:Key)=Sum.inr x)=decide (g.1=x);rw[Bool.eq_iff_iff,decide_eq_true_iff,decide_eq_true_iff];exact⟨λh=>by injection h,λh=>by rw[h]⟩
 unfold cg cP;rw[e]
 by_cases h:(gs.any λg=>decide (g.1=x))=true
 ·rw[if_pos h,if_pos h];unfold bv;rw[map_map,map_map];refine map_congr_left λg _=>?_;show(if (Sum.inr g.1:Key)=Sum.inr x then ((Sum.inr g.1:Key),V.ref v.1)else ((Sum.inr g.1:Key),V.ref g.2.1))=((Sum.inr (if g.1=x then (g.1,v)else g).1:Key),V.ref (if g.1=x then (g.1,v)else g).2.1)
  by_cases hx:g.1=x
  ·rw[if_pos (by rw[hx]),if_pos hx]
  ·rw[if_neg (λh=>hx (by injection h)),if_neg hx]
 ·rw[if_neg h,if_neg h];unfold bv;rw[map_append];rfl
theorem nP{gs:TG}{x:Str}{v:Addr×ZN}:(cP gs x v).length≤gs.length+1:=by
 unfold cP
 split
 ·rw[length_map];omega
 ·rw[length_append];exact le_refl _
theorem jV{gs:TG}{x:Str}{v:Addr×ZN}{g:Str×(Addr×ZN)}(h:g∈cP gs x v):g=(x,v)∨g∈gs:=by
 unfold cP at h
 split at h
 ·obtain⟨y,hy,e⟩:=mem_map.mp h
  by_cases hx:y.1=x
  ·rw[if_pos hx]at e;rw[←e,hx];exact .inl rfl
  ·rw[if_neg hx]at e;rw[←e];exact .inr hy
 ·rcases mem_append.mp h with h|h
  ·exact .inr h
  ·exact .inl (by simpa using h)
theorem je{gs:TG}{x:Str}:(gs.any λg=>decide (g.1=x))=true↔x∈gs.map (·.1):=by
 rw[any_eq_true,mem_map];exact⟨λ⟨g,hg,e⟩=>⟨g,hg,of_decide_eq_true e⟩,λ⟨g,hg,e⟩=>⟨g,hg,decide_eq_true e⟩⟩
theorem oX{gs:TG}{x:Str}{v:Addr×ZN}:(cP gs x v).map (·.1)=if x∈gs.map (·.1)then gs.map (·.1)else gs.map (·.1)++[x]:=by
 unfold cP
 by_cases h:x∈gs.map (·.1)
 ·rw[if_pos h,if_pos (je.mpr h),map_map];refine map_congr_left λg _=>?_;show(if g.1=x then (g.1,v)else g).1=g.1
  split<;>rfl
 ·rw[if_neg h,if_neg (λe=>h (je.mp e)),map_append];rfl
theorem qx{gs:TG}{x:Str}{v:Addr×ZN}(h:(gs.map (·.1)).Nodup):((cP gs x v).map (·.1)).Nodup:=by
 rw[oX]
 split
 ·exact h
 ·rename_i hx
  rw[nodup_append];exact⟨h,by simp,λa ha b hb e=>hx (by rw[←show b=x by simpa using hb,←e];exact ha)⟩
theorem Tags.val{H:Hp}{d:Addr}{gs:TG}(h:Tags H d gs)(x:Str):(bq (bv gs) (Sum.inr x:Key)).isSome=decide (x∈gs.map (·.1)):=by
 have:∀gs:TG,(bq (bv gs) (Sum.inr x:Key)).isSome=decide (x∈gs.map (·.1)):=by
  intro gs
  induction gs with
  |nil=>rfl
  |cons g r ih =>
   unfold bv at ih⊢;rw[map_cons]
   by_cases e:g.1=x
   ·rw[bp (by rw[e]),decide_eq_true (by rw[map_cons,e];exact mem_cons_self)];rfl
   ·rw[aY (by intro z;exact e (by injection z)),ih];rw[Bool.eq_iff_iff,decide_eq_true_iff,decide_eq_true_iff,map_cons,mem_cons];exact⟨λh=>.inr h,λh=>h.resolve_left (λz=>e z.symm)⟩
 exact this gs
theorem Tags.get{H:Hp}{d:Addr}{gs:TG}(h:Tags H d gs){g:Str×(Addr×ZN)}(hg:g∈gs):bq (bv gs) (Sum.inr g.1:Key)=some (.ref g.2.1):=by
 have hn:=h.nd;clear h
 induction gs with
 |nil=>cases hg
 |cons y r ih =>
  rw[map_cons,nodup_cons]at hn;unfold bv at ih⊢;rw[map_cons];rcases mem_cons.mp hg with e|hr
  ·rw[e];exact bp rfl
  ·rw[aY (by intro z;have e:y.1=g.1:=by injection z
             exact hn.1 (by rw[e];exact mem_map.mpr ⟨g,hr,rfl⟩))]
   exact ih hr hn.2
section
variable{P:Program}{w:World}{K:PySem.W.Frag}{mg:Str→Option Value}{base:Heap}
def oY(C:Addr):Sp:=λvs H Q _=>∃p ft t d pl al zf z gs es as g,vs=[.ref p,.str g.1]∧LAt C H p ft t d pl al zf z gs es as∧g.1.length≤100∧dE g.1=true∧g∈gs∧∀H',Same H H'→Q (.ref g.2.1) H'
theorem xS:FnScope ["self","name"] ["self","name"] (am dD):=fsc
theorem vG{f C:Addr}{fd:FuncData}(F:Fun K "tagged" "Ledger.tagged" dD f fd)(T:LCls K mg C)(CN:Has P w K mg base 1 "is_name" ["thing"] jd):FnOk P w K mg base CX0 2 f fd ["self","name"] (oY C):=by
 obtain⟨fN,fdN,GN,mN,kN,bN⟩:=CN;refine F.ok xS (λvs H Q E h=>?_) (λcdv A outer s H vs Q E hr h=>?_)
 ·obtain⟨p,ft,t,d,pl,al,zf,z,gs,es,as,g,rfl,_⟩:=h;rfl
 ·obtain⟨p,ft,t,d,pl,al,zf,z,gs,es,as,g,rfl,L,hx,hn,hg,q⟩:=h;obtain⟨dx,hp⟩:=L.ob;refine⟨_,ai (aX (PW.pt (pw_or (gC (gB (ar GN hr rfl mN kN bN .nil aK (aa (pv 1) af)) (λ_=>rfl))) (pw_or1 (gy (eB (cj hr) (pv 1) (bh (pv 0) rfl)))))) qL aE)
   (ao (ax (dk (cj hr) (bh (pv 0) rfl) (pv 1) (λ_ _=>rfl)))),?_⟩
  refine⟨_,rfl,g.1,rfl,hx,λH1 s1=>?_⟩;rw[hn];have L1:=L.same s1;have hp1:=s1 _ _ hp;have dg:fo H1 d (kV (Sum.inr g.1)) (some (.ref g.2.1)):=by rw[←L.tg.get hg];exact .inl ⟨_,_,L1.tg.dct,rfl,rfl⟩
  refine⟨true,rfl,aM ⟨_,rfl,_,rfl,p,C,dx,_,_,rfl,hp1,T.cl,T.n2,il,d,_,rfl,dg,_,rfl,aM ?_⟩⟩;exact⟨_,rfl,p,C,dx,_,_,rfl,hp1,T.cl,T.n2,il,_,rfl,d,_,rfl,dg,q H1 s1⟩
def gM(C CT:Addr):Sp:=λvs H Q E=>∃p ft t d pl al zf z gs es as x,vs=[.ref p,.str x]∧LAt C H p ft t d pl al zf z gs es as∧x.length≤100∧(reprText x).length≤300∧es.length≤200∧gs.length<50 ∧
 (dE x=true→∀q sa d' al' H',H al'=none→LAt C H' p ft t d' pl al' zf z (cP gs x (t,z)) (es++[⟨q,sa,t,d,[.str "tag",.str x],z,gs⟩]) []→cA H H'→Off [p,pl] H H'→Q (.bl (decide (x∈gs.map (·.1)))) H') ∧
 (dE x=false→∀H',Same H H'→E (.ref CT) none H')
theorem oZ:FnScope ["self","name","had","tag_trees"] ["self","name"] (am fO):=fsc
theorem vH{f C CT fG:Addr}{fd fdG:FuncData}(F:Fun K "tag" "Ledger.tag" fO f fd)(Tx:Txt mg)(T:LCls K mg C)(O:jI "NoTag" mg base CT)(CN:Has P w K mg base 1 "is_name" ["thing"] jd)(MG:Meth K C "go_on" fG)(GG:FnOk P w K mg base CX0 1 fG fdG ["self","step","tree","tag_trees"] (qv C))(bG:aG K fdG ["self","step","tree","tag_trees"] []):FnOk P w K mg base (CX1 P w) 2 f fd ["self","name"] (gM C CT):=by
 obtain⟨fN,fdN,GN,mN,kN,bN⟩:=CN;refine F.okX oZ (λvs H Q E h=>?_) (λcdv A outer s H vs Q E hr h=>?_)
 ·obtain⟨p,ft,t,d,pl,al,zf,z,gs,es,as,x,rfl,_⟩:=h;rfl
 ·obtain⟨p,ft,t,d,pl,al,zf,z,gs,es,as,x,rfl,L,hx,hrx,hl,hgl,qo,qE⟩:=h;obtain⟨dx,hp⟩:=L.ob;refine⟨_,ai (aX (gC (gB (ar GN hr rfl mN kN bN .nil aK (aa (pv 1) af)) (λ_=>rfl))) (ao (cW bO O hr.hd rfl (ia (vD (pv 1) (dO (c:=100) (by decide +kernel) jA)) (by decide)))) aE)
   (ai (aJ (i:=2) oZ.nd rfl (Or.inl rfl) (rX (lF (cj hr) (pv 1) (bh (pv 0) rfl))))
   (ai (aJ (i:=3) oZ.nd rfl (Or.inl rfl) (aW nM rfl Tx.dict rfl (aa (bh (pv 0) rfl) af)))
   (ai (iZ (cj hr) (pv 3) (pv 1) (bh (pv 0) rfl) rfl)
   (ai (bn (dI (pv 0) T.cl MG GG hr bG .nil aK (aa (aP (aa aC (aa (pv 1) af))) (aa (bh (pv 0) rfl) (aa (pv 3) af)))))
   (ao (ax (pv 2))))))),?_⟩
  refine⟨_,rfl,x,rfl,hx,λH1 s1=>⟨_,rfl,?_⟩⟩;have L1:=L.same s1;have hp1:=s1 _ _ hp;cases hb:dE x with
  |false =>
   refine be ⟨_,rfl,x,rfl,hrx,λy=>⟨aq (show 1≤1000 by decide),qE hb H1 s1⟩⟩
  |true =>
   refine aM ?_;have dg:fo H1 d (kV (Sum.inr x)) (bq (bv gs) (Sum.inr x:Key)):=.inl ⟨_,_,L1.tg.dct,rfl,rfl⟩;refine⟨_,rfl,_,rfl,p,C,dx,_,_,rfl,hp1,T.cl,T.n2,il,d,_,rfl,dg,?_⟩;rw[L.tg.val x];refine⟨_,rfl,p,C,dx,_,_,rfl,hp1,T.cl,T.n2,il,d,_,rfl,L1.tg.dct,λd' hd'=>?_⟩;have s2:=ae (o:=.dK (bv gs)) hd';have g2:upd H1 d' (.dK (bv gs)) d'=some (.dK (bv gs)):=ac;generalize upd H1 d' (.dK (bv gs))=H2 at s2 g2⊢;have hp2:=s2 _ _ hp1;have npd:p≠d':=lY hp2 g2 (by intro h;cases h);refine⟨_,rfl,p,C,dx,_,_,rfl,hp2,T.cl,T.n1,jT,_,rfl,_,rfl,d',_,rfl,lE.k (k:=Sum.inr x) g2 (ay (by unfold bv;rw[length_map];omega)),?_⟩;rw[nO gs x (t,z)];have s3:Same H1 (upd H2 d' (.dK (bv (cP gs x (t,z))))):=aL hd' s2;have g3:upd H2 d' (.dK (bv (cP gs x (t,z)))) d'=some (.dK (bv (cP gs x (t,z)))):=ac;generalize upd H2 d' (.dK (bv (cP gs x (t,z))))=H3 at s3 g3⊢;have L3:=L1.same s3;have hp3:=s3 _ _ hp1;refine⟨_,rfl,p,dx,_,rfl,hp3,ci (by decide +kernel) (by decide +kernel) (by decide +kernel) (by decide +kernel) (by decide +kernel),_,rfl,(show 2≤sizeLine from aq (by decide)),λsa hsa=>?_⟩;have s4:=ae (o:=.tup [.str "tag",.str x]) hsa;have g4:upd H3 sa (.tup [.str "tag",.str x]) sa=some (.tup [.str "tag",.str x]):=ac;generalize upd H3 sa (.tup [.str "tag",.str x])=H4 at s4 g4⊢;have L4:=L3.same s4;have s14:=s1.trans (s3.trans s4);have Tg:Tags H4 d' (cP gs x (t,z)):=⟨.inl (s4 _ _ g3),λg hg=>?_,qx L.tg.nd,by have:=nP (gs:=gs) (x:=x) (v:=(t,z));omega⟩
   ·refine⟨_,rfl,p,C,dx,_,_,rfl,s4 _ _ hp3,T.cl,T.n1,jT,_,rfl,p,ft,t,d,pl,al,zf,z,gs,es,as,sa,[.str "tag",.str x],t,z,d',cP gs x (t,z),rfl,L4,g4,L4.tr,Tg,hl,λe al' H' fa L' k o=>?_⟩;exact⟨_,rfl,qo hb e sa d' al' H' (gn s14 fa) L' ((av s14).trans k) λb o' h hb'=>o _ _ (s14 _ _ h) hb'⟩
   ·rcases jV hg with e|h
    ·rw[e];exact L4.tr
    ·exact L4.tg.at' g h
end
theorem rF(es:List Ent)(e:Ent):(bc (es++[e]))[(bc (es++[e])).length-1]?=some (V.ref e.a):=by
 unfold bc;rw[map_append,length_append];simp
theorem rG(es:List Ent)(e:Ent):(bc (es++[e])).dropLast=bc es:=by
 unfold bc;rw[map_append];simp
section
variable{P:Program}{w:World}{K:PySem.W.Frag}{mg:Str→Option Value}{base:Heap}
def qy(C CB:Addr):Sp:=λvs H Q E=>∃p dx ft t d pl al sl tl z gs ss ts,vs=[.ref p,.ref sl,.ref tl]∧H p=some (.ins C dx (flL ft t d pl al))∧Tre H t z∧Tags H d gs∧H sl=some (.lst (bc ss))∧H tl=some (.lst (bc ts))∧sl≠tl∧(∀e∈ss,EntAt H e∧∃y,e.xs[0]?=some y)∧ts.length≤200 ∧
 (∀ss' e y q H',ss=ss'++[e]→e.xs[0]?=some y→H' p=some (.ins C dx (flL ft e.ta e.da pl al))→H' sl=some (.lst (bc ss'))→H' tl=some (.lst (bc (ts++[⟨q,e.sa,t,d,e.xs,z,gs⟩])))→EntAt H' ⟨q,e.sa,t,d,e.xs,z,gs⟩→cA H H'→Off [p,sl,tl] H H'→Q y H') ∧
 (ss=[]→∀H',Same H H'→E (.ref CB) none H')
theorem wn:FnScope ["self","source","target","entry"] ["self","source","target"] (am cN):=fsc
theorem xT{f C CB:Addr}{fd:FuncData}(F:Fun K "pass_over" "Ledger.pass_over" cN f fd)(T:LCls K mg C)(O:jI "NoBack" mg base CB):FnOk P w K mg base (CX1 P w) 1 f fd ["self","source","target"] (qy C CB):=by
 refine F.okX wn (λvs H Q E h=>?_) (λcdv A outer s H vs Q E hr h=>?_)
 ·obtain⟨p,dx,ft,t,d,pl,al,sl,tl,z,gs,ss,ts,rfl,_⟩:=h;rfl
 ·obtain⟨p,dx,ft,t,d,pl,al,sl,tl,z,gs,ss,ts,rfl,hp,tr,tg,hsl,htl,ne,he,hl,qo,qE⟩:=h;refine⟨_,ai (aX (gC (ml (pv 1) (λ_=>rfl))) (ao (cW bO O hr.hd rfl aC)) aE)
   (ai (aJ (i:=3) wn.nd rfl (Or.inl rfl) (sC plainAttrs_list slot_list_pop type_list_pop sE (pv 1)))
   (ai (bn (fk plainAttrs_list PySem.F.slot_list_append PySem.F.type_list_append ce (pv 2) (aa (aP (aa (aB aA (pv 3) ak (λ_ _=>rfl)) (aa (bh (pv 0) rfl) (aa (bh (pv 0) rfl) af)))) af)))
   (ai (cF (pv 0) (aB aA (pv 3) ak (λ_ _=>rfl)) rfl)
   (ai (cF (pv 0) (aB aA (pv 3) ak (λ_ _=>rfl)) rfl)
   (ao (ax (aB aA (aB aA (pv 3) ak (λ_ _=>rfl)) ak (λ_ _=>rfl)))))))),?_⟩
  refine⟨_,rfl,_,.inl ⟨_,SqL.of hsl,rfl⟩,?_⟩;rcases List.eq_nil_or_concat ss with e0|⟨ss',e,e0⟩
  ·subst e0;exact be ⟨aq (show 1≤1000 by decide),qE rfl H (Same.refl _)⟩
  ·rw[List.concat_eq_append]at e0;subst e0;have hne:(!(!(bc (ss'++[e])).isEmpty))=false:=by unfold bc;rw[map_append];simp
   rw[hne];refine aM ?_;obtain⟨E0,y,hy⟩:=he e (by simp);refine⟨_,rfl,.inl ⟨rfl,_,SqL.of hsl⟩,sl,_,_,rfl,rfl,hsl,rF ss' e,?_⟩;rw[rG];have nps:p≠sl:=lY hp hsl (by intro h;cases h);have npt:p≠tl:=lY hp htl (by intro h;cases h);have k1:=jS (ys:=bc ss') hsl;have p1:upd H sl (.lst (bc ss')) p=some (.ins C dx (flL ft t d pl al)):=by rw[aj nps];exact hp
   have t1:upd H sl (.lst (bc ss')) tl=some (.lst (bc ts)):=by rw[aj (symm ne)];exact htl
   have l1:upd H sl (.lst (bc ss')) sl=some (.lst (bc ss')):=ac;have o1:Off [p,sl,tl] H (upd H sl (.lst (bc ss'))):=λb o h hb=>by rw[aj (λz=>hb (by rw[z];simp))];exact h
   generalize upd H sl (.lst (bc ss'))=H1 at k1 p1 t1 l1 o1⊢;have E1:=E0.stay k1;refine⟨_,rfl,.inl ⟨rfl,_,SqL.of t1⟩,_,rfl,e.a,_,_,_,rfl,rfl,SqT.of E1.ob,rfl,_,rfl,p,C,dx,_,_,rfl,p1,T.cl,T.n1,jT,_,rfl,p,C,dx,_,_,rfl,p1,T.cl,T.n2,il,(show 3≤sizeLine from aq (by decide)),λq hq=>?_⟩;have s2:=ae (o:=.tup [.ref e.sa,.ref t,.ref d]) hq;have g2:upd H1 q (.tup [.ref e.sa,.ref t,.ref d]) q=some (.tup [.ref e.sa,.ref t,.ref d]):=ac;generalize upd H1 q (.tup [.ref e.sa,.ref t,.ref d])=H2 at s2 g2⊢;refine⟨tl,_,_,rfl,rfl,s2 _ _ t1,ay (by rw[length_map];omega),?_⟩;have k3:=jS (ys:=bc ts++[.ref q]) (s2 _ _ t1);have p3:upd H2 tl (.lst (bc ts++[.ref q])) p=some (.ins C dx (flL ft t d pl al)):=by rw[aj npt];exact s2 _ _ p1
   have l3:upd H2 tl (.lst (bc ts++[.ref q])) sl=some (.lst (bc ss')):=by rw[aj ne];exact s2 _ _ l1
   have t3:upd H2 tl (.lst (bc ts++[.ref q])) tl=some (.lst (bc (ts++[⟨q,e.sa,t,d,e.xs,z,gs⟩]))):=by rw[ac];unfold bc;rw[map_append];rfl
   have o3:Off [p,sl,tl] H2 (upd H2 tl (.lst (bc ts++[.ref q]))):=λb o h hb=>by rw[aj (λz=>hb (by rw[z];simp))];exact h
   generalize upd H2 tl (.lst (bc ts++[.ref q]))=H3 at k3 p3 l3 t3 o3⊢;have E3:=(E1.stay (av s2)).stay k3;refine⟨_,rfl,e.a,_,_,_,rfl,rfl,SqT.of E3.ob,rfl,_,rfl,p,C,dx,_,rfl,p3,T.cl,T.n1,dt,?_⟩;rw[oU];have k4:=fR (gs:=flL ft e.ta d pl al) p3;have p4:upd H3 p (.ins C dx (flL ft e.ta d pl al)) p=some (.ins C dx (flL ft e.ta d pl al)):=ac;have l4:upd H3 p (.ins C dx (flL ft e.ta d pl al)) sl=some (.lst (bc ss')):=by rw[aj (symm nps)];exact l3
   have t4:upd H3 p (.ins C dx (flL ft e.ta d pl al)) tl=some (.lst (bc (ts++[⟨q,e.sa,t,d,e.xs,z,gs⟩]))):=by rw[aj (symm npt)];exact t3
   have o4:Off [p,sl,tl] H3 (upd H3 p (.ins C dx (flL ft e.ta d pl al))):=λb o h hb=>by rw[aj (λz=>hb (by rw[z];simp))];exact h
   generalize upd H3 p (.ins C dx (flL ft e.ta d pl al))=H4 at k4 p4 l4 t4 o4⊢;have E4:=E3.stay k4;refine⟨_,rfl,e.a,_,_,_,rfl,rfl,SqT.of E4.ob,rfl,_,rfl,p,C,dx,_,rfl,p4,T.cl,T.n2,dt,?_⟩;rw[oV];have k5:=fR (gs:=flL ft e.ta e.da pl al) p4;have p5:upd H4 p (.ins C dx (flL ft e.ta e.da pl al)) p=some (.ins C dx (flL ft e.ta e.da pl al)):=ac;have l5:upd H4 p (.ins C dx (flL ft e.ta e.da pl al)) sl=some (.lst (bc ss')):=by rw[aj (symm nps)];exact l4
   have t5:upd H4 p (.ins C dx (flL ft e.ta e.da pl al)) tl=some (.lst (bc (ts++[⟨q,e.sa,t,d,e.xs,z,gs⟩]))):=by rw[aj (symm npt)];exact t4
   have o5:Off [p,sl,tl] H4 (upd H4 p (.ins C dx (flL ft e.ta e.da pl al))):=λb o h hb=>by rw[aj (λz=>hb (by rw[z];simp))];exact h
   generalize upd H4 p (.ins C dx (flL ft e.ta e.da pl al))=H5 at k5 p5 l5 t5 o5⊢;have E5:=E4.stay k5;have kA:cA H H5:=(((k1.trans (av s2)).trans k3).trans k4).trans k5;have k25:cA H2 H5:=(k3.trans k4).trans k5;refine⟨_,rfl,e.a,_,_,_,rfl,rfl,SqT.of E5.ob,rfl,e.sa,_,_,_,rfl,rfl,SqT.of E5.st,gU (j:=0) hy,?_⟩;exact qo ss' e y q H5 rfl hy p5 l5 t5 ⟨k25.tup g2,E5.st,tr.stay kA,tg.stay kA⟩ kA λb o h hb=>o5 _ _ (o4 _ _ (o3 _ _ (s2 _ _ (o1 _ _ h hb)) hb) hb) hb
def im(C CB:Addr):Sp:=λvs H Q E=>∃p ft t d pl al zf z gs es as,vs=[.ref p]∧LAt C H p ft t d pl al zf z gs es as∧(∀e∈es,∃y,e.xs[0]?=some y)∧as.length≤200 ∧
 (∀es' e y q H',es=es'++[e]→e.xs[0]?=some y→LAt C H' p ft e.ta e.da pl al zf e.z e.gs es' (as++[⟨q,e.sa,t,d,e.xs,z,gs⟩])→cA H H'→Off [p,pl,al] H H'→Q y H')∧(es=[]→∀H',Same H H'→E (.ref CB) none H')
theorem yU:FnScope ["self"] ["self"] (am eV):=fsc
theorem tW{f C CB fP:Addr}{fd fdP:FuncData}(F:Fun K "back" "Ledger.back" eV f fd)(T:LCls K mg C)(MP:Meth K C "pass_over" fP)(GP:FnOk P w K mg base (CX1 P w) 1 fP fdP ["self","source","target"] (qy C CB))(bP:aG K fdP ["self","source","target"] []):FnOk P w K mg base (CX1 P w) 2 f fd ["self"] (im C CB):=by
 refine F.okX yU (λvs H Q E h=>?_) (λcdv A outer s H vs Q E hr h=>?_)
 ·obtain⟨p,ft,t,d,pl,al,zf,z,gs,es,as,rfl,_⟩:=h;rfl
 ·refine⟨_,ao (ax (dI (E:=E) (pv 0) T.cl MP GP hr bP .nil (cy bO) (aa (bh (pv 0) rfl) (aa (bh (pv 0) rfl) af)))),?_⟩;obtain⟨p,ft,t,d,pl,al,zf,z,gs,es,as,rfl,L,hx,hl,qo,qE⟩:=h;obtain⟨dx,hp⟩:=L.ob;refine⟨_,rfl,p,dx,_,rfl,hp,ci (by decide +kernel) (by decide +kernel) (by decide +kernel) (by decide +kernel) (by decide +kernel),_,rfl,p,C,dx,_,_,rfl,hp,T.cl,T.n3,li,_,rfl,p,C,dx,_,_,rfl,hp,T.cl,T.n4,qu,?_⟩;refine⟨p,dx,ft,t,d,pl,al,pl,al,z,gs,es,as,rfl,hp,L.tr,L.tg,L.ps,L.ah,L.ne,λe he=>⟨L.ep e he,hx e he⟩,hl,λss' e y q H' e0 hy p' l' t' E' k o=>?_,qE⟩;have Ee:=(L.ep e (by rw[e0];simp)).stay k;have old:∀x∈ss',EntAt H' x:=λx hx=>(L.ep x (by rw[e0];exact mem_append_left _ hx)).stay k;have new:∀x∈as++[⟨q,e.sa,t,d,e.xs,z,gs⟩],EntAt H' x:=λx hx=>by
   rcases mem_append.mp hx with h|h
   ·exact(L.ea x h).stay k
   ·have ex:x=_:=mem_singleton.mp h;rw[ex];exact E'
  exact qo ss' e y q H' e0 hy ⟨⟨dx,p'⟩,L.tf.stay k,Ee.tr,Ee.tg,l',t',L.ne,old,new⟩ k λb o' h hb=>o b o' h (λz=>hb (by simp only[mem_cons,not_mem_nil,or_false]at z⊢;exact z))
end
end TK
namespace L2
open PySem PySem.Spec PyProof.Rows
def tX(H:Hp)(x y:V):Prop:=hZ H 3 x y∨∃a b kvs lvs,x=.ref a∧y=.ref b∧Rd H a (.dK kvs)∧Rd H b (.dK lvs)∧kvs.length=lvs.length∧∀k v,(k,v)∈kvs→∃u,bq lvs k=some u∧hZ H 3 v u
def lj(H:Hp)(xs ys:List V):Prop:=xs.length=ys.length∧∀(i:Nat) x y,xs[i]?=some x→ys[i]?=some y→tX H x y
def EqW(prog:Program)(w:World)(A:Around)(s:Shared)(y x:Value):Prop:=∀(E:Value→Shared→Prop)(Q:Bool→Shared→Prop),Q true s→wpAny (model prog w) A (eqBool y x) Q E s
theorem rH{prog:Program}{w:World}(l b:Addr)(items items2:Array Value)(n n2:Nat)(dd dd2:Option Addr)(sl sl2:Array (Option Value))(hsz:items.size=items2.size):
  MeetsIn prog w (Builtin.«tuple.__ne__» ⟨[.ref l,.ref b],[]⟩)
   (λA R s=>s.heap.get? l=some {cls:=.type "tuple",dict:=dd,data:=.seq items n,slots:=sl}∧s.heap.get? b=some {cls:=.type "tuple",dict:=dd2,data:=.seq items2 n2,slots:=sl2} ∧
    (∀p∈items.toList.zip items2.toList,EqW prog w A.in1 s p.1 p.2)∧R (.ok (.ret (.bool false))) s) :=
 .of_wp λA R s h=>by
  obtain⟨hp,g,d,tk,os⟩:=s;obtain⟨hl,hb,he,h⟩:=h;have f2:=AutoSeq1.sub_tuple_tuple
  wp_walk using AutoSeq1.wpAny_loadPart' hl,AutoSeq1.wpAny_loadPart' hb,wpAny_forIn_list _ (λrest b s'=>b.1=none∧s'=⟨hp,g,d,tk,os⟩∧∀p∈rest,EqW prog w A.in1 ⟨hp,g,d,tk,os⟩ p.1 p.2) _
  case turn =>
   rintro⟨y,x⟩ rest b s' ⟨hb',rfl,hall⟩;refine wpAny_bind (hall (y,x) mem_cons_self _ _ ?_)
   wp_walk
   exact⟨rfl,rfl,λp hp=>hall p (mem_cons_of_mem _ hp)⟩
  case fin =>
   rintro⟨b1,b2⟩ s' ⟨hb',rfl,_⟩;simp only at hb';subst hb'
   wp_walk
   exact⟨_,rfl,by simpa [Builtin.Tuple.tupleCompareSizes,hsz]using h⟩
  case h=>exact⟨rfl,rfl,he⟩
section
variable{X:Cx}{pins:List (Addr×Obj)}{σ:St}{H:Hp}{s:Shared}
theorem qz(I:Inv X pins σ H s){A:Around}{lvs:List (Key×V)}{ws:List (Key×Value)}(rl:KV lvs ws)(hu:A.units+3<cLine):∀{kvs:List (Key×V)}{vs:List (Key×Value)},KV kvs vs→(∀k v,(k,v)∈kvs→∃u,bq lvs k=some u∧hZ H 3 v u)→KeqHits A s ws vs true
 |[],[],_,_=>.nil
 |p::kvs,q::vs,.cons h r,hv=>by
  obtain⟨k,v⟩:=p;obtain⟨k',v'⟩:=q;obtain⟨e,rv⟩:=h;have e':k=k':=e;subst e';obtain⟨u,hu1,al⟩:=hv k v mem_cons_self;obtain⟨u',hu2,ru⟩:=eN.some_of (v:=u) (o:=valueAt ws k) (by rw[←hu1];exact rl.val k);exact KeqHits.hit (e:=true) (b:=true) hu2 (jz I 3 rv ru al hu) (qz I rl hu r λk v h=>hv k v (mem_cons_of_mem _ h))
theorem rJ(I:Inv X pins σ H s){A:Around}{x y:V}{u v:Value}(ru:aO x u)(rv:aO y v)(h:tX H x y)(hu:A.units+4<cLine):EqW X.prog X.w A s u v:=by
 rcases h with h|⟨a,b,kvs,lvs,rfl,rfl,ha,hb,hl,hv⟩
 ·exact λE Q hq=>jz I 3 ru rv h (by omega) _ _ E Q hq
 ·cases ru;cases rv;intro E Q hq
  by_cases hab:a=b
  ·subst hab;exact EqAt.same _ _ _ E Q hq
  ·obtain⟨_,sa,vs,ra,da⟩:=I.dK ha;obtain⟨_,sb,ws,rb,db⟩:=I.dK hb;unfold eqBool;refine wpAny_holding ?_;refine wpAny_ite_split (λe=>absurd (by have:=eq_of_beq e;injection this) hab) (λ_=>?_);refine wpAny_bind (PySem.W.keq_eq (r:=true) sa sb da db (by omega) (λ_=>qz I rb (by simp[Around.in1_units];omega) ra hv) (wpAny_truthy_bool ?_));rw[←ra.length,←rb.length,hl,beq_self_eq_true];exact hq
theorem lS(hu:X.A.units+6<cLine):OpR X (compareOp .NotEq) (λx y H Q=>∃a b xs ys,x=.ref a∧y=.ref b∧lj H xs ys∧H a=some (.tup xs)∧H b=some (.tup ys)∧Q (.bl false) H):=by
 intro pins s σ H x y v u Q I rx ry h;obtain⟨a,b,xs,ys,rfl,rfl,hx,ha,hb,q⟩:=h;cases rx;cases ry;obtain⟨_,us,r1,t1⟩:=I.hok a _ ha;obtain⟨_,ws,r2,t2⟩:=I.hok b _ hb;have hl:=hx.1;have l1:=r1.length;have l2:=r2.length;obtain⟨⟨cls,dd,data,sl⟩,ho,hc,n,hd⟩:=id t1;obtain⟨⟨cls2,dd2,data2,sl2⟩,ho2,hc2,n2,hd2⟩:=id t2;simp only at hc hd hc2 hd2;subst hc hd hc2 hd2;have T1:s.TypeIs (.ref a) "tuple":=⟨_,ho,rfl⟩;have T2:s.TypeIs (.ref b) "tuple":=⟨_,ho2,rfl⟩;show wpAny _ _ (richCompare .NotEq (.ref a) (.ref b)) _ _ _;refine wpAny_richCompare_same_room (op:=.NotEq) T1 T2 slot_tuple_ne (wpAny_call (codeAny_call_builtin slot_tuple_ne.plain PySem.F.entry_tuple_ne (slot_tuple_ne.check _ _ _ _ _ _ _ _ T1 (PySem.F.args_tuple_ne_2 _ _) (rH (prog:=X.prog) (w:=X.w) a b us.toArray ws.toArray n n2 dd dd2 sl sl2 (by simp only[size_toArray];omega) X.A (wants (λv s'=>v≠.notImplemented∧EP X pins σ Q v s') X.xe) s ⟨ho,ho2,λp hp=>?_,?_⟩)))) (by omega)
 ·obtain⟨j,hj,ej⟩:=mem_iff_getElem.mp hp;have hj0:j<min us.length ws.length:=by simpa using hj
  have hj':j<us.length∧j<ws.length:=⟨by omega,by omega⟩;have ep:p=(us[j]'hj'.1,ws[j]'hj'.2):=by rw[←ej];simp
  have h1':j<xs.length:=by omega
  have h2':j<ys.length:=by omega
  obtain⟨u',hu1,hu2⟩:=r1.get (getElem?_eq_getElem h1');obtain⟨v',hv1,hv2⟩:=r2.get (getElem?_eq_getElem h2');rw[getElem?_eq_getElem hj'.1]at hu1;rw[getElem?_eq_getElem hj'.2]at hv1;rw[ep,Option.some.inj hu1,Option.some.inj hv1];exact rJ I hu2 hv2 (hx.2 j _ _ (getElem?_eq_getElem h1') (getElem?_eq_getElem h2')) (by simp[Around.in1_units];omega)
 ·exact⟨(λx=>nomatch x),.bl false,H,I,rfl,q⟩
end
end L2
namespace TK
open PySem L2
theorem tY{gs:TG}(hn:(gs.map (·.1)).Nodup){a b:Str×(Addr×ZN)}(ha:a∈gs)(hb:b∈gs)(e:a.1=b.1):a=b:=by
 induction gs with
 |nil=>cases ha
 |cons y r ih =>
  rw[map_cons,nodup_cons]at hn;rcases mem_cons.mp ha with ea|ea<;>rcases mem_cons.mp hb with eb|eb
  ·rw[ea,eb]
  ·exact absurd (by rw[←ea,e];exact mem_map.mpr ⟨b,eb,rfl⟩) hn.1
  ·exact absurd (by rw[←eb,←e];exact mem_map.mpr ⟨a,ea,rfl⟩) hn.1
  ·exact ih hn.2 ea eb
section
variable{P:Program}{w:World}{K:PySem.W.Frag}{mg:Str→Option Value}{base:Heap}
def iQ(C:Addr):Sp:=λvs H Q _=>∃p ft t d pl al zf z gs es as,vs=[.ref p]∧LAt C H p ft t d pl al zf z gs es as∧(∀g∈gs,g.1.length≤100∧dE g.1=true) ∧
 ∀u d2 gs' H',Same H H'→H' u=some (.tup [.ref t,.ref d2])→H' d2=some (.dK (bv gs'))→(∀g,g∈gs'↔g∈gs)→gs'.length=gs.length→(gs'.map (·.1)).Nodup→Q (.ref u) H'
theorem yV:FnScope ["_law_ledger"] ["_law_ledger"] (am dq):=fsc
theorem xU{f C fN fT fG:Addr}{fd fdN fdT fdG:FuncData}(F:Fun K "_law_all_of" "_law_all_of" dq f fd)(Tx:Txt mg)(T:LCls K mg C)(MN:Meth K C "now" fN)(GN:FnOk P w K mg base CX0 1 fN fdN ["self"] (oW C))(bN:aG K fdN ["self"] [])(MT:Meth K C "tags" fT)(GT:FnOk P w K mg base CX0 1 fT fdT ["self"] (lR C))(bT:aG K fdT ["self"] [])(MG:Meth K C "tagged" fG)(GG:FnOk P w K mg base CX0 2 fG fdG ["self","name"] (oY C))(bG:aG K fdG ["self","name"] []):FnOk P w K mg base CX0 3 f fd ["_law_ledger"] (iQ C):=by
 refine F.ok yV (λvs H Q E h=>?_) (λcdv A outer s H vs Q E hr h=>?_)
 ·obtain⟨p,ft,t,d,pl,al,zf,z,gs,es,as,rfl,_⟩:=h;rfl
 ·obtain⟨p,ft,t,d,pl,al,zf,z,gs,es,as,rfl,L,hnm,q⟩:=h;obtain⟨dx,hp⟩:=L.ob;have hr1:Room 1 _:=hr.mono (by decide);refine⟨_,ao (ax (aP (aa (ca (pv 0) T.cl MN GN hr1 bN .nil aK) (aa (aW (fw rfl) rfl Tx.dict rfl (aa (hJ (N:=["_law_name","_law_ledger"]) (cl:=[("_law_ledger",s.heap.objs.size+1)]) (k:=1) (js:=[0]) (g:=cw 0) rfl
    (LcOk.mk' ["_law_ledger"] rfl rfl (by decide +kernel) (by decide +kernel) ?hcl rfl (by decide +kernel)) rfl ?hj (gk (ca (pv 0) T.cl MT GT hr1 bT .nil aK)) (λs H fp=>aQ (i:=0) (show(["_law_name","_law_ledger"]:List Str).Nodup by decide +kernel) rfl (Or.inl rfl) (Or.inr rfl))
    (λs H fp=>aP (aa (pv 0) (aa (dI (X:=dc _ _ _ _ _ _ _) (pv 1) T.cl MG GG hr bG .nil aK (aa (pv 0) af)) af)))) af)) af)))),?_⟩
  case hcl =>
   intro y hy;rcases mem_cons.mp hy with e|hy
   ·rw[e];rfl
   ·cases hy
  case hj =>
   intro i j x h1 h2
   match i,h1,h2 with
   |0,h1,h2 =>
    cases h1;cases h2;exact⟨rfl,Or.inr (Or.inl rfl),(show((am dq).names.lookup ("_law_ledger":Str)≠some NameKind.local)by decide +kernel),by first|exact Or.inl rfl|exact Or.inr rfl⟩
   |i+1,h1,h2=>simp at h1
  have nm:∀{m:Str},¬(("first_tree":Str)=m)→¬(("tree":Str)=m)→¬(("tag_trees":Str)=m)→¬(("past":Str)=m)→¬(("ahead":Str)=m)→(flL ft t d pl al).lookup m=none:=λh0 h1 h2 h3 h4=>ci h0 h1 h2 h3 h4;have hgl:=L.tg.len;refine⟨_,rfl,p,dx,_,rfl,hp,nm (by decide +kernel) (by decide +kernel) (by decide +kernel) (by decide +kernel) (by decide +kernel),p,ft,t,d,pl,al,zf,z,gs,es,as,rfl,L,?_⟩;refine⟨_,rfl,p,dx,_,rfl,hp,nm (by decide +kernel) (by decide +kernel) (by decide +kernel) (by decide +kernel) (by decide +kernel),p,ft,t,d,pl,al,zf,z,gs,es,as,rfl,L,λms hms _ l hl=>?_⟩;have s1:=ae (o:=.lst (ms.map V.str)) hl;have g1:upd H l (.lst (ms.map V.str)) l=some (.lst (ms.map V.str)):=ac;generalize upd H l (.lst (ms.map V.str))=H1 at s1 g1⊢;have hml:ms.length=gs.length:=by rw[hms.length_eq,length_map]
  refine⟨l,rfl,⟨_,SqL.of g1⟩,λr hr0=>?_⟩;refine gl (fr:=[some (.ref p)]) ms V.str (by omega) hr0 (lL (SqL.of g1)) rfl (λm y H'=>∃b:Addr×(Str×(Addr×ZN)),y=.ref b.1∧b.1≠r∧H' b.1=some (.tup [.str b.2.1,.ref b.2.2.1])∧b.2∈gs∧b.2.1=m) (λm y H H' h ex=>?_) (λm H' kk mm s2 hpl hk=>?_) (λys H2 s2 hp2 hys=>?_)
  ·obtain⟨b,e,n1,h1,h2⟩:=h;exact⟨b,e,n1,ex _ _ n1 h1,h2⟩
  ·obtain⟨g,hg,eg⟩:=mem_map.mp (hms.mem_iff.mp mm);have L2:=(L.same s1).same s2;have hp2:=s2 _ _ (s1 _ _ hp);have eg':g.1=m:=eg;subst eg';refine⟨_,rfl,_,rfl,p,dx,_,rfl,hp2,nm (by decide +kernel) (by decide +kernel) (by decide +kernel) (by decide +kernel) (by decide +kernel),_,rfl,p,ft,t,d,pl,al,zf,z,gs,es,as,g,rfl,L2,(hnm g hg).1,(hnm g hg).2,hg,λH3 s3=>?_⟩;refine⟨le2,λq1 hq1=>?_⟩;have hpl3:∃ys,H3 r=some (.lst ys):=let⟨ys,e⟩:=hpl;⟨ys,s3 _ _ e⟩;exact hk _ _ (s3.trans (ae hq1)) ⟨(q1,g),rfl,gI hpl3 hq1,ac,hg,rfl⟩
  ·obtain⟨bs,e1,e2,e3⟩:=gm (val:=λb:Addr×(Str×(Addr×ZN))=>V.ref b.1) (S:=λ(m:Str) (b:Addr×(Str×(Addr×ZN)))=>H2 b.1=some (.tup [.str b.2.1,.ref b.2.2.1])∧b.2∈gs∧b.2.1=m) hys (λm y _ ⟨b,e,_,h1,h2,h3⟩=>⟨b,e,h1,h2,h3⟩);have hbl:bs.length=ms.length:=by rw[←e1,length_map]
   have enm:bs.map (λb=>b.2.2.1)=ms:=by
    rw[←e1];exact map_congr_left λb hb=>(e3 b hb).2.2
   have hnd:ms.Nodup:=hms.nodup_iff.mpr L.tg.nd;refine⟨r,bs.map (λb=>(b.2.1,((Sum.inr b.2.2.1:Key),V.ref b.2.2.2.1))),rfl,?_,λy hy=>?_,by rw[length_map];omega,?_,λd2 hd2=>?_⟩
   ·rw[hp2,e2,map_map,map_map];rfl
   ·obtain⟨b,hb,rfl⟩:=mem_map.mp hy;exact(e3 b hb).1
   ·rw[map_map];have:(bs.map (λb=>b.2.2.1)).map (Sum.inr:Str→Key)=bs.map ((λz:Addr×Key×V=>z.2.1)∘λb=>(b.2.1,((Sum.inr b.2.2.1:Key),V.ref b.2.2.2.1))):=by rw[map_map];rfl
    rw[←this,enm];unfold Nodup;rw[pairwise_map];exact hnd.imp λh e=>h (by injection e)
   ·have s3:=ae (o:=.dK ((bs.map (λb=>(b.2.1,((Sum.inr b.2.2.1:Key),V.ref b.2.2.2.1)))).map (·.2))) hd2;have g3:upd H2 d2 (.dK ((bs.map (λb=>(b.2.1,((Sum.inr b.2.2.1:Key),V.ref b.2.2.2.1)))).map (·.2))) d2=some (.dK (bv (bs.map λb=>b.2.2))):=by
     rw[ac];unfold bv;rw[map_map,map_map];rfl
    generalize upd H2 d2 (.dK ((bs.map (λb=>(b.2.1,((Sum.inr b.2.2.1:Key),V.ref b.2.2.2.1)))).map (·.2)))=H3 at s3 g3⊢;refine⟨le2,λu hu=>?_⟩;have s4:=ae (o:=.tup [.ref t,.ref d2]) hu;refine q u d2 (bs.map λb=>b.2.2) _ (s1.trans (s2.trans (s3.trans s4))) ac (s4 _ _ g3) (λg=>⟨λh=>?_,λh=>?_⟩) (by rw[length_map];omega) ?_
    ·obtain⟨b,hb,rfl⟩:=mem_map.mp h;exact(e3 b hb).2.1
    ·have hm:g.1∈ms:=hms.mem_iff.mpr (mem_map.mpr ⟨g,h,rfl⟩);rw[←enm]at hm;obtain⟨b,hb,eb⟩:=mem_map.mp hm;exact mem_map.mpr ⟨b,hb,tY L.tg.nd (e3 b hb).2.1 h eb⟩
    ·rw[map_map];rw[←enm]at hnd;exact hnd
end
end TK
namespace L2
open PySem PySem.Spec PyProof.Rows
section
variable{X:Cx}
def gr(zs:List (Addr×Key×V)):List (Key×V):=zs.foldl (λm z=>cg m z.2.1 z.2.2) []
theorem pc{α:Type}[DecidableEq α](m:List (α×Value))(k:α)(v:Value):(stored m k v).length≤m.length+1:=by
 unfold stored
 split
 ·rw[length_map];omega
 ·rw[length_append];exact le_refl _
theorem dU{β:Type}(k:β→Key)(v:β→Value):∀(l:List β)(m:List (Key×Value)),(l.foldl (λm z=>stored m (k z) (v z)) m).length≤m.length+l.length
 |[],m=>le_refl _
 |a::l,m=>by
  rw[foldl_cons];have h1:=dU k v l (stored m (k a) (v a));have h2:=pc m (k a) (v a);rw[length_cons];omega
theorem ll{f:Addr×Key×V→Value×Value}:∀{ys:List (Addr×Key×V)}{m:List (Key×V)}{n:List (Key×Value)},KV m n→(∀z∈ys,aO z.2.2 (f z).2)→KV (ys.foldl (λm z=>cg m z.2.1 z.2.2) m) (ys.foldl (λm z=>stored m z.2.1 (f z).2) n)
 |[],m,n,r,_=>r
 |z::ys,m,n,r,h=>by
  rw[foldl_cons,foldl_cons];exact ll (r.put z.2.1 (h z mem_cons_self)) λy hy=>h y (mem_cons_of_mem _ hy)
theorem ph(hc:X.calm=true):cx X (.type "dict") (λxs H Q=>∃l,∃zs:List (Addr×Key×V),xs=[.ref l]∧H l=some (.lst ((zs.map (·.1)).map V.ref))∧(∀z∈zs,H z.1=some (.tup [kV z.2.1,z.2.2]))∧zs.length≤900∧∀d,H d=none→Q (.ref d) (upd H d (.dK (gr zs)))):=by
 intro pins s σ H xs us Q I r h;obtain⟨l,zs,rfl,hl,hk,hz,q⟩:=h;obtain⟨u,rfl,ru⟩:=de r;cases ru;obtain⟨_,its,nl,rv,ho⟩:=I.hok l _ hl;have e:=dv rv;subst e;obtain⟨f,hf⟩:=nk I (λz=>kV z.2.1) hk;have hsz:(((zs.map (·.1)).map Value.ref).toArray).size=zs.length:=by simp
 refine DL.fu (s:=s) (I.ok.hd hc) ho (λi=>(zs.getD i (0,.inl 0,.non)).1) (λi=>(f (zs.getD i (0,.inl 0,.non))).1) (λi=>(f (zs.getD i (0,.inl 0,.non))).2) (λi v hv=>kR hv) (λi hi=>?_)
  (λi h'=>h'.DictOf (aR X.prog X.w) s.heap.objs.size ((zs.take i).foldl (λm z=>stored m z.2.1 (f z).2) [])) (λh' hg _=>?_) (λi g g' hd hk=>?_) (λi s' E Q hi hd hq=>?_) λh' tk hd hkeep=>?_
 ·rw[hsz]at hi;exact(hf _ (cJ hi).1).2.2
 ·exact⟨_,#[],0,hg,⟨rfl,rfl,rfl⟩,rfl,λ_ he=>by simp at he,Pairs.nil,nodup_nil⟩
 ·obtain⟨o,es,ep,ho,r⟩:=hd;exact⟨o,es,ep,hk _ o (le_refl _) ho,r⟩
 ·rw[hsz]at hi;obtain⟨hm,hg⟩:=cJ (d:=((0,.inl 0,.non):Addr×Key×V)) hi;have hb:=dU (λz:Addr×Key×V=>z.2.1) (λz=>(f z).2) (zs.take i) [];rw[length_take,length_nil]at hb;have hle:((zs.take i).foldl (λm z=>stored m z.2.1 (f z).2) ([]:List (Key×Value))).length≤900:=by omega
  refine wpAny_dictSet_pairs (hsz:=by have:=ay (n:=901) (by decide);omega) (k:=(zs.getD i (0,.inl 0,.non)).2.1) (fm (hf _ hm).1) hd λh' hd' hs=>hq h' _ (le_succ _) hs ?_;rw[dw hg,List.foldl_append];exact hd'
 ·rw[hsz,take_length]at hd;have hrel:KV (gr zs) (zs.foldl (λm z=>stored m z.2.1 (f z).2) []):=ll .nil λz hz=>(hf z hz).2.1;have hb:=dU (λz:Addr×Key×V=>z.2.1) (λz=>(f z).2) zs [];rw[length_nil]at hb;have hlen:(gr zs).length≤900:=le_trans (le_of_eq (Paired.length hrel)) (le_trans hb (by omega));exact⟨.ref s.heap.objs.size,_,I.laid (t':=tk) (o:=.dK (gr zs)) hkeep (le_refl _) (gF (le_of_lt (ay (by omega))) (beq_eq_false_iff_ne.mpr (symm (ne_of_lt I.big))) hrel hd),rfl,q _ (I.hok.fresh (le_refl _))⟩
theorem Inv.laids{pins:List (Addr×Obj)}{σ:St}{H H':Hp}{s:Shared}{h':Heap}{t':Nat}(I:Inv X pins σ H s)(k:∀b u,s.heap.get? b=some u→h'.get? b=some u)(ext:∀b o,H b=some o→H' b=some o)(new:∀b o,H' b=some o→H b=some o∨(s.heap.objs.size≤b∧bt X.prog X.w H' h' b o)):Inv X pins σ H' {s with heap:=h',toks:=t'}:=by
 refine I.un ⟨λb u q _ _ _=>k b u q,λb u q _ _ _=>⟨u.slots,k b u q⟩,λb u q n _=>?_,λb u q _=>⟨u,k b u q⟩,λb xs q=>ext _ _ q,λb o u q=>ext _ _ q,λb ps q=>⟨#[],by rw[ext _ _ q];simp⟩⟩ λb u e=>?_
 ·cases hq:H' b with
  |none=>rfl
  |some o =>
   rcases new b o hq with h|⟨h,_⟩
   ·rw[n]at h;cases h
   ·exact absurd (lt_size q) (not_lt.mpr h)
 ·rcases new b u e with h|⟨_,h⟩
  ·exact(I.hok b u h).stay (λc v _ q=>k c v q) (λc q=>ext _ _ q) λc xs q=>ext _ _ q
  ·exact h
def vI(te:TE):TE:=λσ H Q=>te σ H λx H1=>∃d kvs,x=.ref d∧Rd H1 d (.dK kvs)∧∀l (as:List Addr) H2,(∀b o,H1 b=some o→H2 b=some o)→H2 l=some (.lst (as.map V.ref))→as.length=kvs.length→(∀(j:Nat) a p,as[j]?=some a→kvs[j]?=some p→H2 a=some (.tup [kV p.1,p.2]))→Q (.ref l) H2
theorem gO{β:Type}:∀{as:List Addr}{bs:List β}{a:Addr}{b:β},(as.zip bs).lookup a=some b→∃j:Nat,as[j]?=some a∧bs[j]?=some b
 |[],_,a,b,h=>by cases h
 |_::_,[],a,b,h=>by cases h
 |x::as,y::bs,a,b,h=>by
  rw[zip_cons_cons,lookup_cons]at h
  by_cases e:(a==x)=true
  ·rw[e]at h;exact⟨0,by rw[eq_of_beq e];rfl,by cases h;rfl⟩
  ·rw[Bool.not_eq_true]at e;rw[e]at h;obtain⟨j,h1,h2⟩:=gO h;exact⟨j+1,h1,h2⟩
theorem jW{β:Type}:∀{as:List Addr}{bs:List β}{j:Nat}{a:Addr}{b:β},as.Pairwise (· < ·)→as[j]?=some a→bs[j]?=some b→(as.zip bs).lookup a=some b
 |[],_,j,a,b,_,h,_=>by cases h
 |_::_,[],j,a,b,_,_,h=>by cases h
 |x::as,y::bs,0,a,b,_,h1,h2=>by
  cases h1;cases h2;rw[zip_cons_cons,lookup_cons,beq_self_eq_true]
 |x::as,y::bs,j+1,a,b,hp,h1,h2=>by
  obtain⟨p1,p2⟩:=List.pairwise_cons.mp hp;have h1':as[j]?=some a:=h1;have h2':bs[j]?=some b:=h2;have lt:x<a:=p1 a (mem_of_getElem? h1');have e:(a==x)=false:=beq_eq_false_iff_ne.mpr (ne_of_gt lt);rw[zip_cons_cons,lookup_cons,e];exact jW p2 h1' h2'
theorem yW{kvs:List (Key×V)}{vs:List (Key×Value)}(r:KV kvs vs){j:Nat}{q:Key×Value}(h:vs[j]?=some q):∃p,kvs[j]?=some p∧p.1=q.1∧aO p.2 q.2:=by
 induction r generalizing j with
 |nil=>cases h
 |cons hh _ ih =>
  cases j with
  |zero=>cases h;exact⟨_,rfl,hh.1,hh.2⟩
  |succ j=>exact ih h
theorem lm:∀as:List Addr,aH (as.map V.ref) (as.map Value.ref)
 |[]=>.nil
 |a::as=>.cons rfl (lm as)
theorem yX{P:Program}{w:World}{k:Key}{u:Value}(h:(aR P w).is k u=true):aO (kV k) u:=by
 rcases bd h with⟨i,t,e4,e5⟩|⟨y,t,e4,e5⟩
 ·rw[e4,e5];exact⟨_,rfl⟩
 ·rw[e4,e5];exact⟨_,rfl⟩
theorem lT{e:Expr}{te:TE}{q2 apos cpos p2:Pos}(hc:X.calm=true)(hg:Gl X "list")(hm:X.mg "list"=none)(he:PE X e te)(s2:starEach [.Call (.Attribute e "items" apos) [] [] cpos] X.env=[(false,eval (.Call (.Attribute e "items" apos) [] [] cpos) X.env)]:=by rfl)(hbase:attributeBase e "items" X.env (eval e X.env)=eval e X.env:=by rfl)(hline:(apos.endLine==cpos.line)=true:=by rfl):
  PE X (.Call (.Name "list" q2) [.Call (.Attribute e "items" apos) [] [] cpos] [] p2) (vI te):=by
 intro pins s σ H Q I h;refine wpAny_Call_Name_kw (jh I hg hm boot_list ?_ (by decide) (by decide));refine PyProof.Rows.callWith_type1 ?_ s2 rfl;rw[s2];refine spliced_cons ?_;refine wpAny_Call_method0_late hbase hline (thn (he pins s σ H _ I h) λv s1 hpt=>?_);obtain⟨x,H1,I1,r1,q1⟩:=hpt;obtain⟨d,kvs,rfl,hd,q⟩:=q1;cases r1;obtain⟨hz,hsm,vs,rel,dd⟩:=I1.dK hd;obtain⟨ep,da⟩:=dd.dictAt;have hT:s1.TypeIs (.ref d) "dict":=dd.typeIs;refine⟨"dict","dict.items",plainAttrs_dict,slot_dict_items,PySem.F.type_dict_items,hT,?_,callWith_builtin rfl (PySem.evalArgs_none ?_)⟩
 ·obtain⟨o,es,ep',e',ex,_⟩:=dd;intro a ea;cases ea;exact⟨o,e',ex.2.1⟩
 ·show wpAny _ _ (call (.builtin "dict.items") [.ref d]) _ _ _;have key:∀(Q:Value→Shared→Prop)(E:Value→Shared→Prop),Q (.ref s1.heap.objs.size) {s1 with heap:=s1.heap.push {cls:=.type "dict_items",data:=.fields #[.ref d]}}→wpAny (model X.prog X.w) X.A (call (.builtin "dict.items") [.ref d]) Q E s1:=λQ E hq =>
   wpAny_call (codeAny_call_builtin slot_dict_items.plain PySem.F.entry_dict_items (slot_dict_items.check _ _ _ _ _ _ _ _ hT (PySem.F.args_dict_items_1 _) (meets_dict_items (aR X.prog X.w) d hsm X.A (wants Q E) s1 ⟨⟨vs,dd⟩,hq⟩)))
  refine key _ _ (spliced_nil ?_);have hv:(s1.heap.push {cls:=.type "dict_items",data:=.fields #[.ref d]}).IsItemsView s1.heap.objs.size d:=⟨_,get?_push_size _ rfl,rfl,rfl⟩;refine PySem.W.kdx_call (s:={s1 with heap:=s1.heap.push {cls:=.type "dict_items",data:=.fields #[.ref d]}}) (I.ok.hd hc) hv (da.push _) (by rw[←rel.length];exact hz) λh' tk acc c as hk hS hl hG hacc=>?_;have hsz:(s1.heap.push {cls:=.type "dict_items",data:=.fields #[.ref d]}).objs.size=s1.heap.objs.size+1:=size_push' ..;rw[hsz]at hS hG⊢;have k0:∀b o,s1.heap.get? b=some o→h'.get? b=some o:=λb o e=>hk b o (get?_push_of_some _ e);have hlk:as.length=kvs.length:=by rw[hl,rel.length]
  let H2:Hp:=λb=>if b=s1.heap.objs.size+1 then some (.lst (as.map V.ref))else match (as.zip (kvs.map λp=>[kV p.1,p.2])).lookup b with|some xs=>some (.tup xs)|none=>H1 b
  have above:∀{b:Addr}{xs:List V},(as.zip (kvs.map λp=>[kV p.1,p.2])).lookup b=some xs→s1.heap.objs.size+1<b:=λ{b xs} hb=>by
   obtain⟨j,h1,_⟩:=gO hb;exact hG.above b (mem_of_getElem? h1)
  have hl2:H2 (s1.heap.objs.size+1)=some (.lst (as.map V.ref)):=if_pos rfl;have ht2:∀(j:Nat) a p,as[j]?=some a→kvs[j]?=some p→H2 a=some (.tup [kV p.1,p.2]):=λj a p h1 h2=>by
   have e1:=jW (bs:=kvs.map λp=>[kV p.1,p.2]) hG.rise h1 (by rw[getElem?_map,h2];rfl);have n1:a≠s1.heap.objs.size+1:=ne_of_gt (above e1);show(if a=s1.heap.objs.size+1 then _ else _)=_;rw[if_neg n1,e1]
  have ext:∀b o,H1 b=some o→H2 b=some o:=λb o hb=>by
   have lt:b<s1.heap.objs.size:=by
    rcases Nat.lt_or_ge b s1.heap.objs.size with h|h
    ·exact h
    ·rw[I1.hok.fresh h]at hb;cases hb
   show(if b=s1.heap.objs.size+1 then _ else _)=_;rw[if_neg (by intro z;rw[z]at lt;exact absurd lt (not_lt.mpr (le_succ _)))];cases hq:(as.zip (kvs.map λp=>[kV p.1,p.2])).lookup b with
   |none=>exact hb
   |some xs=>exact absurd (lt_trans (lt_succ_self _) (above hq)) (Nat.lt_asymm lt)
  have I2:Inv X pins σ H2 {s1 with heap:=h',toks:=tk}:=I1.laids k0 ext λb o hb=>by
   have hb':(if b=s1.heap.objs.size+1 then some (HO.lst (as.map V.ref))else match (as.zip (kvs.map λp=>[kV p.1,p.2])).lookup b with|some xs=>some (.tup xs)|none=>H1 b)=some o:=hb
   by_cases e:b=s1.heap.objs.size+1
   ·rw[if_pos e]at hb';cases hb';subst e;refine .inr ⟨le_succ _,?_,acc.toList,c,?_,by simpa using hS⟩
    ·rw[length_map,hlk];exact hz
    ·rw[hacc];exact lm as
   ·rw[if_neg e]at hb';cases hq:(as.zip (kvs.map λp=>[kV p.1,p.2])).lookup b with
    |none=>rw[hq]at hb';exact .inl hb'
    |some xs =>
     rw[hq]at hb';cases hb';refine .inr ⟨le_of_lt (lt_trans (lt_succ_self _) (above hq)),?_⟩;obtain⟨j,h1,h2⟩:=gO hq;obtain⟨ky,k,x,hx,hky,ho⟩:=hG.pairs j b h1;obtain⟨p,hp,ep1,rp⟩:=yW rel hx;rw[getElem?_map,hp]at h2;cases h2;refine⟨le_of_lt (ay (show 2≤1000 by decide)),[ky,x],.cons ?_ (.cons rp .nil),⟨_,ho,rfl,_,rfl⟩⟩;have ep2:p.1=k:=ep1;rw[ep2];exact yX hky
  exact⟨.ref (s1.heap.objs.size+1),H2,I2,rfl,q _ as H2 ext hl2 hlk ht2⟩
end
end L2
namespace TK
open PySem L2
section
variable{P:Program}{w:World}{K:PySem.W.Frag}{mg:Str→Option Value}{base:Heap}
def pi:Sp:=λvs H Q _=>∃t zs,vs=[.ref t]∧Tre H t zs∧∀d as H',Same H H'→H d=none→Book H' d as zs→H' d=some (.dK (bj as))→Q (.ref d) H'
theorem xV:FnScope ["_law_tree_here"] ["_law_tree_here"] (am tK):=fsc
theorem vJ{f:Addr}{fd:FuncData}(F:Fun K "_law_book" "_law_book" tK f fd)(T:Txt mg):FnOk P w K mg base CX0 1 f fd ["_law_tree_here"] pi:=by
 refine F.ok xV (λvs H Q E h=>?_) (λcdv A outer s H vs Q E hr h=>?_)
 ·obtain⟨t,zs,rfl,_⟩:=h;rfl
 ·obtain⟨t,zs,rfl,tr,k⟩:=h;have hnd:=cu tr.tr;have hl:=tr.len;have ht:=tr.tup;have hA:=tr.nod;refine⟨_,ao (ax (aW (fw rfl) rfl T.dict boot_dict (aa (hJ (N:=["_law_node"]) (k:=1) (js:=[]) (g:=cw 0) rfl (fq rfl (by decide +kernel) (by decide +kernel) (by decide +kernel)) rfl (λi j x h=>by simp at h)
   (eO (pv 0)) (λs H fp=>aQ (i:=0) (show(["_law_node"]:List Str).Nodup by decide +kernel) rfl (Or.inl rfl) (Or.inr rfl))
   (λs H fp=>aP (aa (aB (r:=iT K) aA (pv 0) ak (λ_ _=>rfl)) (aa (eA (r:=uI K) iz (pv 0) (dj ak) lz) af)))) af))),?_⟩
  refine⟨_,rfl,t,rfl,⟨_,SqT.of ht⟩,λp hp=>?_⟩;refine sW (fr:=[]) zs.length (by omega) hp rfl (λi y H'=>∃q t' z,zs[i]?=some z∧y=.ref q∧q≠p∧t'≠p∧H' q=some (.tup [.int z.2.num,.ref t'])∧H' t'=some (.tup (bX z.2))) (λi y H1 H2 h ex=>?_) (λi H' hi s1=>?_) (λH' s1=>?_) ?_ (λi H' x H2 hi s1 hpl hy=>?_) (λys H' s1 hp' hlen hys=>?_)
  ·obtain⟨q,t',z,e1,e2,e3,e4,e5,e6⟩:=h;exact⟨q,t',z,e1,e2,e3,e4,ex q _ e3 e5,ex t' _ e4 e6⟩
  ·exact⟨_,_,SqT.of (s1 _ _ ht),jE (getElem?_eq_getElem hi)⟩
  ·exact⟨_,SqT.of (s1 _ _ ht),by rw[cn];exact le_refl _⟩
  ·rintro _ _ _ _ m ⟨v1,b1,p1,xs,i1,v2,c1,c2,c3,c4,v3,b3,i3,d0,a3,xs3,d1,d2,d3,q⟩;refine⟨v1,b1,p1,xs,i1,v2,c1,c2,c3,c4,v3,b3,i3,d0,a3,xs3,d1,d2,d3,λl hl=>?_⟩;obtain⟨hz',q'⟩:=q l hl;exact⟨hz',λl' hl'=>m _ _ (q' l' hl')⟩
  ·obtain⟨rfl,hx⟩:=hy;obtain⟨z,gz,rfl⟩:=eI (hx _ (SqT.of (s1 _ _ ht)));have mz:=mem_of_getElem? gz;have hz1:=s1 _ _ (hA z mz);have ecut:gT (vals z.2) (some 1) none=bX z.2:=rfl;refine⟨rfl,_,rfl,z.1,_,_,_,rfl,rfl,SqT.of hz1,at0 z.2,_,rfl,_,rfl,z.1,_,rfl,SqT.of hz1,(by intro h;exact absurd h.1 (show ¬HT.sIx 4 0 (some 1)=0 by decide)),λt' ht'=>?_⟩;rw[ecut];have s2:=ae (o:=.tup (bX z.2)) ht';have hpl2:∃ys,upd H2 t' (.tup (bX z.2)) p=some (.lst ys):=let⟨ys,e⟩:=hpl;⟨ys,s2 _ _ e⟩;refine⟨le2,λq hq=>⟨s2.trans (ae hq),q,t',z,gz,rfl,gI hpl2 hq,gI hpl ht',ac,bf hq ac⟩⟩
  ·obtain⟨as,e1,e2,e3⟩:∃as:List ((Addr×Addr)×(Addr×Nd)),as.map (·.2)=zs∧ys=(as.map (·.1.1)).map V.ref∧∀a∈as,H' a.1.1=some (.tup [.int a.2.2.num,.ref a.1.2])∧H' a.1.2=some (.tup (bX a.2.2)):=by
    clear hp';have main:∀(ys:List V)(xs:ZN),ys.length=xs.length→(∀(i:Nat) y,ys[i]?=some y→∃q t' z,xs[i]?=some z∧y=.ref q∧q≠p∧t'≠p∧H' q=some (.tup [.int z.2.num,.ref t'])∧H' t'=some (.tup (bX z.2))) →
      ∃as:List ((Addr×Addr)×(Addr×Nd)),as.map (·.2)=xs∧ys=(as.map (·.1.1)).map V.ref∧∀a∈as,H' a.1.1=some (.tup [.int a.2.2.num,.ref a.1.2])∧H' a.1.2=some (.tup (bX a.2.2)):=by
     intro ys
     induction ys with
     |nil =>
      intro xs hl _;have:xs=[]:=length_eq_zero_iff.mp hl.symm;subst this;exact⟨[],rfl,rfl,by simp⟩
     |cons y ys ih =>
      intro xs hl h;cases xs with
      |nil=>simp at hl
      |cons x xs =>
       obtain⟨as,e1,e2,e3⟩:=ih xs (by simpa using hl) λi y hy=>by simpa using h (i+1) y (by simpa using hy)
       obtain⟨q,t',z,f1,f2,f3,f4,f5,f6⟩:=h 0 y rfl;have:x=z:=by simpa using f1
       subst this;refine⟨((q,t'),x)::as,by simp[e1],by simp[e2,f2],λa ha=>?_⟩;rcases mem_cons.mp ha with rfl|ha
       ·exact⟨f5,f6⟩
       ·exact e3 a ha
    exact main ys zs hlen hys
   have hal:as.length=zs.length:=by rw[←e1,length_map]
   refine⟨p,as.map λa=>(a.1.1,(Sum.inl a.2.2.num:Key),V.ref a.1.2),rfl,?_,?_,?_,?_,λd hd=>?_⟩
   ·rw[hp',e2,map_map,map_map,map_map];rfl
   ·intro z hz;obtain⟨a,ha,rfl⟩:=mem_map.mp hz;exact(e3 a ha).1
   ·rw[length_map];omega
   ·rw[map_map];have:(as.map ((λx:Addr×Key×V=>x.2.1)∘λa=>(a.1.1,(Sum.inl a.2.2.num:Key),V.ref a.1.2)))=((nds zs).map (·.num)).map (Sum.inl:Int→Key):=by
     rw[←e1];unfold nds;simp only[map_map];rfl
    rw[this];unfold Nodup at hnd⊢;rw[pairwise_map];exact hnd.imp λh e=>h (by injection e)
   ·have sd:=ae (o:=.dK ((as.map λa=>(a.1.1,(Sum.inl a.2.2.num:Key),V.ref a.1.2)).map (·.2))) hd;have ed:upd H' d (.dK ((as.map λa=>(a.1.1,(Sum.inl a.2.2.num:Key),V.ref a.1.2)).map (·.2))) d=some (.dK (bj (as.map λa=>(a.1.2,a.2)))):=by
     rw[ac];refine congrArg (λx=>some (HO.dK x)) ?_;unfold bj;simp only[map_map];rfl
    refine k d (as.map λa=>(a.1.2,a.2)) _ (s1.trans sd) (s1.free hd) ⟨.inl ed,by rw[map_map];exact e1,λa ha=>?_⟩ ed;obtain⟨b,hb,rfl⟩:=mem_map.mp ha;exact sd _ _ (e3 b hb).2
def jX:Sp:=λvs H Q _=>∃d k g as zs p,vs=[.ref d,.int k,.int g]∧Book H d as zs∧TW.Tree1 (nds zs)∧TW.PathTo (nds zs) k p∧1≤g∧∀b,(b=true↔TW.Und (nds zs) g k)→Q (.bl b) H
theorem wo:FnScope ["_law_book_here","_law_number","_law_goal"] ["_law_book_here","_law_number","_law_goal"] (am oM):=fsc
theorem xW{f:Addr}{fd:FuncData}(F:Fun K "_law_under" "_law_under" oM f fd):FnOk P w K mg base CX0 1 f fd ["_law_book_here","_law_number","_law_goal"] jX:=by
 refine F.ok wo (λvs H Q E h=>?_) (λcdv A outer s H vs Q E hr h=>?_)
 ·obtain⟨d,k,g,as,zs,p,rfl,_⟩:=h;rfl
 ·obtain⟨d,k,g,as,zs,p,rfl,bk,hTr,hp,hg,q⟩:=h;have hnd:=cu hTr;refine⟨_,ai (ma PassesOwn.never (PW.pt (pw_and (au dH (pv 1) ak (aD _)) (pw_and1 (au dH (pv 1) (pv 2) (aD _)))))
    (ao (aJ (i:=1) wo.nd rfl (Or.inl rfl) (aB aA (dk (cj hr) (pv 0) (pv 1) (λ_ _=>rfl)) ak (λ_ _=>rfl)))))
   (ao (ax (pN cD (pv 1) (pv 2) (aD _)))),?_⟩
  refine mf (λσ H'=>∃at' q',σ=[some (.ref d),some (.int at'),some (.int g)]∧TW.PathTo (nds zs) at' q'∧(TW.Und (nds zs) g k↔TW.Und (nds zs) g at')∧H'=H)
   (λσ H'=>match σ with | [_,some (.int k),_]=>tz (nds zs) k | _=>0) ⟨k,p,rfl,hp,Iff.rfl,rfl⟩ (λσ H' h=>?_) ?_
  ·obtain⟨at',q',rfl,hq',hu,rfl⟩:=h;have last:∀b:Bool,(b=true↔TW.Und (nds zs) g at')→Q (.bl b) H':=λb hb=>q b (hb.trans hu.symm);refine⟨_,rfl,rfl,_,rfl,?_⟩
   by_cases h0:at'=0
   ·have hne:decide (V.int at'=V.int 0)=true:=by simp[h0]
    rw[hne];refine aM (aM ⟨_,rfl,_,rfl,rfl,last _ ?_⟩);rw[decide_eq_true_eq];constructor
    ·intro e;injection e with e;omega
    ·intro hx;have:=hx.zero hTr h0;omega
   ·have hne:decide (V.int at'=V.int 0)=false:=by simp[h0]
    rw[hne];refine be ⟨_,rfl,_,rfl,rfl,_,rfl,?_⟩
    by_cases hg':at'=g
    ·have hne:decide (V.int at'=V.int g)=true:=by simp[hg']
     rw[hne];refine aM ⟨_,rfl,_,rfl,rfl,last _ ?_⟩;rw[hne];constructor
     ·intro _;rw[hg'];exact .here
     ·intro _;rfl
    ·have hne:decide (V.int at'=V.int g)=false:=by simp[hg']
     rw[hne];refine be ?_;obtain⟨z,hz,e1,q'',e2,hq''⟩:=vn hTr hq' h0;subst e1;obtain⟨b,hb1,hb2⟩:=bk.get hnd hz;refine⟨_,rfl,_,rfl,d,_,rfl,hb1,b,_,_,_,rfl,rfl,SqT.of hb2,zM z.2,?_⟩;have mz:z.2∈nds zs:=mem_map.mpr ⟨z,hz,rfl⟩;refine⟨⟨z.2.par,q'',rfl,hq'',hu.trans ⟨λh=>h.inv hTr mz rfl hg',λh=>.up mz h⟩,rfl⟩,?_⟩;show tz (nds zs) z.2.par<tz (nds zs) z.2.num;rw[qh hTr hq'',qh hTr hq',e2];simp
  ·rintro σ H1 Q1 Q2 m ⟨v,e,h2,b,e3,q⟩;refine⟨v,e,h2,b,e3,?_⟩;cases b with
   |false=>exact m _ _ q
   |true =>
    obtain⟨v1,f1,v2,f2,h3,b',e4,q'⟩:=q;exact⟨v1,f1,v2,f2,h3,b',e4,m _ _ q'⟩
end
def ldS(i:Nat):Stmt:=(bz cp).getD i (.Pass ⟨0,0,0,0⟩)
def DN:List Str:=["_law_tree_here","_law_deed_here","_law_book_here","_law_number","_law_parent"]
theorem jf:FnScope DN ["_law_tree_here","_law_deed_here"] (am cp):=fsc
abbrev DX(P:Program)(w:World)(K:PySem.W.Frag)(mg:Str→Option Value)(base:Heap)(f:Addr)(cdv:Value)(A:Around)(outer:List Env)(s:Shared)(H:Hp)(E:XK):Cx:=(gQ CX0 P w K mg base DN "_law_done" (am cp) f cdv A outer s H E).nox
section
variable{P:Program}{w:World}{K:PySem.W.Frag}{mg:Str→Option Value}{base:Heap}{f:Addr}{cdv:Value}{A:Around}{outer:List Env}{s:Shared}{H0:Hp}{E:XK}
theorem xX(T:Txt mg)(hr:Room 1 (A.deeper (PyProof.Rows.envOfC "_law_done" (am cp) s.heap.objs.size f cdv))):
  ∃t,PS (DX P w K mg base f cdv A outer s H0 E) (ldS 6) t∧∀(D:Ends)(H:Hp)(σ:St)(x0 x1 x3 x4:Option V)(d:Addr)(bs:List (Addr×Nd)),σ=[x0,x1,some (.ref d),x3,x4]→H d=some (.dK (bQ bs))→(∀b∈bs,H b.1=some (.tup (bX b.2)))→(bs.map (·.2.num)).Nodup→bs.length≤60 →
   (∀o us t' H',Same (upd H d (.frz o (.dK (bQ bs)))) H'→H' t'=some (.tup (bu us))→At H' us→(nds us).Perm (bs.map (·.2))→TW.cX (nds us)→D.rt (.ref t') H')→t D σ H:=by
 refine⟨_,ax (aW cb rfl T.tuple rfl (aa (aF cI rfl T.sorted boot_sorted (aa (hJ (N:=["_law_one","_law_book_here"]) (cl:=[("_law_book_here",s.heap.objs.size+1)]) (k:=1) (js:=[2]) (g:=cw 0) rfl
    (LcOk.mk' ["_law_book_here"] rfl rfl (by decide +kernel) (by decide +kernel) ?hcl rfl (by decide +kernel)) rfl ?hj (wj (pv 2)) (λs H fp=>aQ (i:=0) (show(["_law_one","_law_book_here"]:List Str).Nodup by decide +kernel) rfl (Or.inl rfl) (Or.inr rfl))
    (λs H fp=>aI (r:=wc K) iY (aP (aa (pv 0) af)) (dk (cj hr) (pv 1) (pv 0) (λ_ _=>rfl)))) af)) af)),?_⟩
 case hcl =>
  intro y hy;rcases mem_cons.mp hy with e|hy
  ·rw[e];rfl
  ·cases hy
 case hj =>
  intro i j x h1 h2
  match i,h1,h2 with
  |0,h1,h2 =>
   cases h1;cases h2;exact⟨rfl,Or.inr (Or.inl rfl),(show((am cp).names.lookup ("_law_book_here":Str)≠some NameKind.local)by decide +kernel),by first|exact Or.inl rfl|exact Or.inr rfl⟩
  |i+1,h1,h2=>simp at h1
 rintro D H _ x0 x1 x3 x4 d bs rfl hd hb hnd hl q;refine⟨_,rfl,d,_,rfl,hd,λo p hp=>?_⟩;have hb1:∀b∈bs,upd H d (.frz o (.dK (bQ bs))) b.1=some (.tup (bX b.2)):=λb mb=>by
  rw[aj]
  ·exact hb b mb
  ·intro e;have:=hb b mb;rw[e,hd]at this;cases this
 have hd1:upd H d (.frz o (.dK (bQ bs))) d=some (.frz o (.dK (bQ bs))):=ac;have sq:∀us t' H',Same (upd H d (.frz o (.dK (bQ bs)))) H'→H' t'=some (.tup (bu us))→At H' us→(nds us).Perm (bs.map (·.2))→TW.cX (nds us)→D.rt (.ref t') H':=q o;generalize upd H d (.frz o (.dK (bQ bs)))=H1 at hb1 hd1 sq hp⊢;rw[jJ];refine gl (fr:=[some (.ref d)]) bs (λb=>V.int b.2.num) (by omega) hp (nz hd1) rfl (λb y H'=>∃q,y=.ref q∧q≠p∧H' q=some (.tup (vals b.2))) (λb y H H' ⟨q,e,ne,h⟩ ex=>⟨q,e,ne,ex q _ ne h⟩) (λb H' k mb s1 hpl hk=>?_) (λys H' s1 hp' hys=>?_)
 ·refine⟨_,rfl,(show 1≤sizeLine from aq (by decide)),λc hc=>?_⟩;have s2:=ae (o:=.tup [.int b.2.num]) hc;refine⟨_,rfl,_,rfl,d,_,rfl,.inl ⟨bQ bs,Sum.inl b.2.num,.inr ⟨o,s2 _ _ (s1 _ _ hd1)⟩,rfl,(lh hnd mb).symm⟩,c,b.1,_,_,rfl,rfl,SqT.of ac,SqT.of (s2 _ _ (s1 _ _ (hb1 b mb))),by simp,(show 4≤sizeLine from aq (by decide)),λh=>absurd h (cons_ne_nil _ _),λ_ q hq=>?_⟩;have hpl2:∃ys,upd H' c (.tup [.int b.2.num]) p=some (.lst ys):=let⟨ys,e⟩:=hpl;⟨ys,s2 _ _ e⟩;exact hk _ _ (s2.trans (ae hq)) ⟨q,rfl,gI hpl2 hq,ac⟩
 ·obtain⟨cs,e1,e2,e3⟩:=gm (val:=V.ref) (S:=λ(b:Addr×Nd) (q:Addr)=>H' q=some (.tup (vals b.2))) hys (λb y _ ⟨q,e,_,h⟩=>⟨q,e,h⟩);have er:ys=bu (cs.map λx=>(x.2,x.1.2)):=by rw[e2,←cz,map_map];rfl
  have en:nds (cs.map λx=>(x.2,x.1.2))=bs.map (·.2):=by rw[←e1];unfold nds;rw[map_map,map_map];rfl
  have hcl:cs.length=bs.length:=by rw[←e1,length_map]
  refine iN (zs:=cs.map λx=>(x.2,x.1.2)) (.inl (SqL.of (by rw[hp',er]))) (λz hz=>?_) ?_ (by rw[length_map];omega) (λus t' H2 s2 ht' hA' hpm hrise=>?_)
  ·obtain⟨x,hx,rfl⟩:=mem_map.mp hz;exact e3 x hx
  ·rw[en,map_map];exact hnd
  ·refine sq us t' H2 (s1.trans s2) ht' hA' ?_ hrise;have:(nds us).Perm (nds (cs.map λx=>(x.2,x.1.2))):=hpm.map _;rw[en]at this;exact this
theorem vK(T:Txt mg)(hr:Room 1 (A.deeper (PyProof.Rows.envOfC "_law_done" (am cp) s.heap.objs.size f cdv)))(CU:Has P w K mg base 1 "_law_under" ["_law_book_here","_law_number","_law_goal"] jX):
  ∃t,PS (DX P w K mg base f cdv A outer s H0 E) (ldS 4) t∧∀(D:Ends)(H:Hp)(σ:St)(a c d:Addr)(dd:TW.Deed Str)(n:Int)(as:List (Addr×(Addr×Nd)))(zs:ZN),σ=[some (.ref a),some (.ref c),some (.ref d),some (.int n),none]→Tre H a zs→H c=some (.tup (aS dd))→Book H d as zs→1≤n →
   ((∃k,dd=.drop k)→∀us t' H' (g:Nd→Bool),Same H H'→H' t'=some (.tup (bu us))→At H' us→nds us=(nds zs).filter g→(∀m∈nds zs,g m=true↔¬TW.Und (nds zs) n m.num)→D.rt (.ref t') H')→((¬∃k,dd=.drop k)→D.nx σ H)→t D σ H:=by
 obtain⟨fU,fdU,GU,mU,kU,bU⟩:=CU;refine⟨_,aX (au cD (aB aA (pv 1) ak (λ_ _=>rfl)) aC (aD _)) (ao (ax (aW cb rfl T.tuple rfl (aa (lG (N:=["_law_node","_law_book_here","_law_number"]) (cl:=[("_law_number",s.heap.objs.size+2),("_law_book_here",s.heap.objs.size+1)]) (k:=1) (js:=[2,3]) (g:=cw 0) rfl
    (LcOk.mk' ["_law_number","_law_book_here"] rfl rfl (by decide +kernel) (by decide +kernel) ?hcl rfl (by decide +kernel)) rfl ?hj (eO (pv 0)) (λs H fp=>aQ (i:=0) (show(["_law_node","_law_book_here","_law_number"]:List Str).Nodup by decide +kernel) rfl (Or.inl rfl) (Or.inr rfl))
    (λs H fp=>gC (gB (ar (X:=dc _ _ _ _ _ _ _) GU hr rfl mU kU bU .nil aK (aa (pv 1) (aa (aB (r:=iT K) aA (pv 0) ak (λ_ _=>rfl)) (aa (pv 2) af)))) (λ_=>rfl))) (λs H fp=>pv 0)) af)))) aE,?_⟩
 case hcl =>
  intro y hy;rcases mem_cons.mp hy with e|hy
  ·rw[e];rfl
  ·rcases mem_cons.mp hy with e|hy
   ·rw[e];rfl
   ·cases hy
 case hj =>
  intro i j x h1 h2
  match i,h1,h2 with
  |0,h1,h2 =>
   cases h1;cases h2;exact⟨rfl,Or.inr (Or.inl rfl),(show((am cp).names.lookup ("_law_book_here":Str)≠some NameKind.local)by decide +kernel),by first|exact Or.inl rfl|exact Or.inr rfl⟩
  |1,h1,h2 =>
   cases h1;cases h2;exact⟨rfl,Or.inr (Or.inl rfl),(show((am cp).names.lookup ("_law_number":Str)≠some NameKind.local)by decide +kernel),by first|exact Or.inl rfl|exact Or.inr rfl⟩
  |i+2,h1,h2=>simp at h1
 rintro D H _ a c d dd n as zs rfl tr hc bk hn q1 q2;have hT:=tr.tr;have hl:=tr.len;have sd:SqT K H c (aS dd):=SqT.of hc;cases dd with
 |make n' p nm st=>exact⟨_,rfl,c,_,_,_,rfl,rfl,sd,rfl,rfl,_,rfl,aM (q2 λ⟨k,e⟩=>by cases e)⟩
 |write n' st=>exact⟨_,rfl,c,_,_,_,rfl,rfl,sd,rfl,rfl,_,rfl,aM (q2 λ⟨k,e⟩=>by cases e)⟩
 |move n' p nm=>exact⟨_,rfl,c,_,_,_,rfl,rfl,sd,rfl,rfl,_,rfl,aM (q2 λ⟨k,e⟩=>by cases e)⟩
 |drop n' =>
  refine⟨_,rfl,c,_,_,_,rfl,rfl,sd,rfl,rfl,_,rfl,be ?_⟩;refine⟨_,rfl,a,rfl,⟨_,SqT.of tr.tup⟩,λp hp=>?_⟩
  classical
  refine lM (fr:=[some (.ref d),some (.int n)]) zs (λz=>V.ref z.1) (by omega) hp (ib (by rw[cz];exact SqT.of tr.tup)) rfl (λz=>!decide (TW.Und (nds zs) n z.2.num)) (λz y _=>y=.ref z.1) (λz y H H' h _=>h) (λz H' k mz s1 _ hk=>?_) (λz H' k mz _ s1 _ hk=>⟨_,rfl,hk _ H' (Same.refl _) rfl⟩) (λys H' s1 hp' hys=>?_)
  ·obtain⟨pa,hpa⟩:=TW.PathTo.ex hT (ck mz);refine⟨_,rfl,_,rfl,z.1,_,_,_,rfl,rfl,SqT.of (s1 _ _ (tr.nod z mz)),at0 z.2,_,rfl,d,z.2.num,n,as,zs,pa,rfl,bk.same s1,hT,hpa,hn,λb hb=>⟨b,rfl,?_⟩⟩;have:b=decide (TW.Und (nds zs) n z.2.num):=by rw[Bool.eq_iff_iff,hb,decide_eq_true_eq]
   rw[this];exact hk H' (Same.refl _)
  ·have ey:=cS (f:=λz:Addr×Nd=>V.ref z.1) hys (λz y _ h=>h);refine⟨p,_,rfl,.inl ⟨SqL.of hp',λl hl'=>?_⟩⟩;have s2:=s1.trans (ae (o:=.tup ys) hl');refine q1 ⟨n',rfl⟩ (zs.filter λz=>!decide (TW.Und (nds zs) n z.2.num)) l _ (λm=>!decide (TW.Und (nds zs) n m.num)) s2 (by rw[ac,ey,cz]) (λy hy=>s2 _ _ (tr.nod y (mem_filter.mp hy).1)) ?_ λm _=>?_
   ·have hfm:∀g:Nd→Bool,nds (zs.filter λz=>g z.2)=(nds zs).filter g:=λg=>by
     unfold nds;rw[filter_map];rfl
    exact hfm λm=>!decide (TW.Und (nds zs) n m.num)
   ·rw[Bool.not_eq_true',decide_eq_false_iff_not]
end
def wp:List Stmt:=match ldS 5 with
 |.If _ _ b _=>b
 |_=>[]
def elS(i:Nat):Stmt:=wp.getD i (.Pass ⟨0,0,0,0⟩)
structure LD(H0 H:Hp)(a c d:Addr)(dd:TW.Deed Str)(as:List (Addr×(Addr×Nd)))(zs:ZN):Prop where
 s0:Same H0 H
 d0:H0 d=none
 tre:Tre H a zs
 deed:H c=some (.tup (aS dd))
 book:Book H d as zs
theorem LD.same{H0 H H':Hp}{a c d:Addr}{dd:TW.Deed Str}{as:List (Addr×(Addr×Nd))}{zs:ZN}(h:LD H0 H a c d dd as zs)(s:Same H H'):LD H0 H' a c d dd as zs :=
 ⟨h.s0.trans s,h.d0,h.tre.same s,s _ _ h.deed,h.book.same s⟩
theorem tZ{H:Hp}{a d:Addr}{xs:List V}{kvs:List (Key×V)}(h:H a=some (.tup xs))(hd:Rd H d (.dK kvs)):a≠d:=λe=>by
 rcases hd with hd|⟨o,hd⟩<;>rw[e,hd]at h<;>cases h
theorem LD.turn{H0 H:Hp}{a c d:Addr}{dd:TW.Deed Str}{as:List (Addr×(Addr×Nd))}{zs:ZN}(h:LD H0 H a c d dd as zs){u:HO}(hu:Rd (upd H d u) d (.dK (bj as))):LD H0 (upd H d u) a c d dd as zs:=by
 have keep:∀{b:Addr}{xs:List V},H b=some (.tup xs)→upd H d u b=some (.tup xs):=λhb=>by rw[aj (tZ hb h.book.dict)];exact hb
 exact⟨aL h.d0 h.s0,h.d0,⟨keep h.tre.tup,λz hz=>keep (h.tre.nod z hz),h.tre.tr,h.tre.len⟩,keep h.deed,⟨hu,h.book.of,λa ha=>keep (h.book.at' a ha)⟩⟩
section
variable{P:Program}{w:World}{K:PySem.W.Frag}{mg:Str→Option Value}{base:Heap}{f:Addr}{cdv:Value}{A:Around}{outer:List Env}{s:Shared}{H0:Hp}{E:XK}
theorem xY(hr:Room 1 (A.deeper (PyProof.Rows.envOfC "_law_done" (am cp) s.heap.objs.size f cdv))):
  ∃t,PS (DX P w K mg base f cdv A outer s H0 E) (elS 5) t∧∀(D:Ends)(H:Hp)(a c d:Addr)(dd:TW.Deed Str)(n p:Int)(nm:Str)(as:List (Addr×(Addr×Nd)))(zs:ZN)(x4:Option V)(o:Obj),LD H0 H a c d dd as zs→H d=some (.frz o (.dK (bj as)))→jK (nds zs) dd n p nm→TW.ic (nds zs) p→NotIn (nds zs) dd n p→(∀m∈nds zs,m.num≠n→¬(m.par=p∧m.nm=nm)) →
   (∀bs H',Same H0 H'→H' d=some (.dK (bQ bs))→(∀b∈bs,H' b.1=some (.tup (bX b.2)))→(bs.map (·.2.num)).Nodup→bs.length≤zs.length+1→(∀us,us.Perm (bs.map (·.2))→TW.cX us→TW.Told (nds zs) dd (.inr us))→D.nx [some (.ref a),some (.ref c),some (.ref d),some (.int n),x4] H') →
   t D [some (.ref a),some (.ref c),some (.ref d),some (.int n),x4] H:=by
 refine⟨_,vd (iZ (cj hr) (pv 2) (pv 3) (aI iY (eA iz (pv 1) (dj ak) (dj ak)) (aP (aa (fj (au cD (aB aA (pv 1) ak (λ_ _=>rfl)) aC (aD _)) (aB aA (pv 1) ak (λ_ _=>rfl)) (aB aA (dk (cj hr) (pv 2) (pv 3) (λ_ _=>rfl)) ak (λ_ _=>rfl))) af))) rfl),?_⟩;intro D H a c d dd n p nm as zs x4 o L0 hd mm hF hi hfree qn;refine⟨d,o,bj as,L0.d0,hd,?_⟩;have L:=L0.turn (u:=.dK (bj as)) (.inl ac);have hd1:upd H d (.dK (bj as)) d=some (.dK (bj as)):=ac;generalize upd H d (.dK (bj as))=H1 at L hd1⊢;have hT:=L.tre.tr;have hnd:=cu hT;have hlen:=L.tre.len;have fin:∀(st:Option Int)(q:Addr)(H2:Hp),Same H1 H2→H2 q=some (.tup (bX ⟨n,p,nm,st⟩))→(∀us,(TW.cK (nds zs) n→us=(nds zs).map (TW.put ⟨n,p,nm,st⟩)→TW.Told (nds zs) dd (.inr us))∧(¬TW.cK (nds zs) n→us.Perm (⟨n,p,nm,st⟩::nds zs)→TW.cX us→TW.Told (nds zs) dd (.inr us))) →
   D.nx [some (.ref a),some (.ref c),some (.ref d),some (.int n),x4] (upd H2 d (.dK (cg (bj as) (Sum.inl n:Key) (.ref q)))):=by
  intro st q H2 s2 hq ht;have L2':=L.same s2;obtain⟨bs,e1,e2,e3,e4,e5⟩:=nD (new:=⟨n,p,nm,st⟩) (s2 _ _ hd1) L2'.book.of L2'.book.at' hq hnd;refine qn bs _ (aL L.d0 L2'.s0) e1 e2 e3 e4 λus hp hrise=>?_;rcases e5 with⟨h1,h2⟩|⟨h1,h2⟩
  ·rw[h2]at hp;exact(ht us).1 h1 (TW.jD hrise (TW.ie hT.rise) hp)
  ·rw[h2]at hp;exact(ht us).2 h1 (hp.trans List.perm_append_comm) hrise
 have sd:∀{H2:Hp},Same H1 H2→SqT K H2 c (aS dd):=λs2=>SqT.of (s2 _ _ L.deed);rcases mm with⟨st,rfl,hno⟩|⟨rfl,hh⟩
 ·refine⟨_,rfl,_,rfl,_,rfl,c,_,rfl,sd (Same.refl _),(λh=>absurd h.1 (show ¬HT.sIx 5 0 (some 2)=0 by decide)),λt1 ht1=>?_⟩;have s2:=ae (o:=.tup (gT (aS (.make n p nm st)) (some 2) (some 4))) ht1;refine⟨_,rfl,c,_,_,_,rfl,rfl,sd s2,rfl,rfl,_,rfl,be ⟨_,rfl,c,_,_,_,rfl,rfl,sd s2,rfl,(show 1≤sizeLine from aq (by decide)),λt2 ht2=>?_⟩⟩;have s3:=s2.trans (ae (o:=.tup [stV st]) ht2);refine⟨t1,t2,[.int p,.str nm],[stV st],rfl,rfl,SqT.of (bf ht2 ac),SqT.of ac,by simp,(show 3≤sizeLine from aq (by decide)),λh=>absurd h (cons_ne_nil _ _),λ_ q hq=>?_⟩;have s4:=s3.trans (ae (o:=.tup ([.int p,.str nm]++[stV st])) hq);refine⟨_,rfl,_,rfl,d,_,rfl,lE.k (k:=Sum.inl n) (s4 _ _ hd1) (ay ?_),fin st q _ s4 ac λus=>⟨λh _=>absurd h hno,λ_ hp hrise=>.made hno hF (λm hm h=>hfree m hm (λe=>hno ⟨m,hm,e⟩) h) hp hrise⟩⟩;have:=congrArg length L.book.of;unfold bj;rw[length_map]at this⊢;omega
 ·refine⟨_,rfl,_,rfl,_,rfl,c,_,rfl,sd (Same.refl _),(λh=>absurd h.1 (show ¬HT.sIx 4 0 (some 2)=0 by decide)),λt1 ht1=>?_⟩;have s2:=ae (o:=.tup (gT (aS (.move n p nm)) (some 2) (some 4))) ht1;obtain⟨m,hm,em⟩:=id hh;obtain⟨z,hz,rfl⟩:=gJ hm;obtain⟨b,hb1,hb2⟩:=(L.same s2).book.get hnd hz;rw[em]at hb1;refine⟨_,rfl,c,_,_,_,rfl,rfl,sd s2,rfl,rfl,_,rfl,aM ⟨_,rfl,_,rfl,d,_,rfl,hb1,b,_,_,_,rfl,rfl,SqT.of hb2,xi z.2,(show 1≤sizeLine from aq (by decide)),λt2 ht2=>?_⟩⟩;have s3:=s2.trans (ae (o:=.tup [stV z.2.st]) ht2);refine⟨t1,t2,[.int p,.str nm],[stV z.2.st],rfl,rfl,SqT.of (bf ht2 ac),SqT.of ac,by simp,(show 3≤sizeLine from aq (by decide)),λh=>absurd h (cons_ne_nil _ _),λ_ q hq=>?_⟩;have s4:=s3.trans (ae (o:=.tup ([.int p,.str nm]++[stV z.2.st])) hq);refine⟨_,rfl,_,rfl,d,_,rfl,lE.k (k:=Sum.inl n) (s4 _ _ hd1) (ay ?_),fin z.2.st q _ s4 ac λus=>⟨λ_ e=>by rw[e];exact .moved hm em hF (hi ⟨_,rfl⟩) hfree,λh=>absurd hh h⟩⟩;have:=congrArg length L.book.of;unfold bj;rw[length_map]at this⊢;omega
theorem ua(hr:Room 1 (A.deeper (PyProof.Rows.envOfC "_law_done" (am cp) s.heap.objs.size f cdv))):
  ∃t,PS (DX P w K mg base f cdv A outer s H0 E) (elS 4) t∧∀(D:Ends)(H:Hp)(a c d:Addr)(dd:TW.Deed Str)(n p:Int)(nm:Str)(as:List (Addr×(Addr×Nd)))(zs:ZN)(x4:Option V),LD H0 H a c d dd as zs→H d=some (.dK (bj as))→jK (nds zs) dd n p nm →
   (∀H',Same H0 H'→(∃m∈nds zs,m.num≠n∧m.par=p∧m.nm=nm)→D.rt (.str "taken") H') →
   (∀o H',LD H0 H' a c d dd as zs→H' d=some (.frz o (.dK (bj as)))→(∀m∈nds zs,m.num≠n→¬(m.par=p∧m.nm=nm))→D.nx [some (.ref a),some (.ref c),some (.ref d),some (.int n),x4] H') →
   t D [some (.ref a),some (.ref c),some (.ref d),some (.int n),x4] H:=by
 refine⟨_,aX (au (oG (cj hr)) (eA iz (pv 1) (dj ak) (dj ak)) (lG (N:=["_law_one","_law_book_here","_law_number"]) (cl:=[("_law_number",s.heap.objs.size+2),("_law_book_here",s.heap.objs.size+1)]) (k:=1) (js:=[2,3]) (g:=cw 0) rfl
    (LcOk.mk' ["_law_number","_law_book_here"] rfl rfl (by decide +kernel) (by decide +kernel) ?hcl rfl (by decide +kernel)) rfl ?hj (wj (pv 2)) (λs H fp=>aQ (i:=0) (show(["_law_one","_law_book_here","_law_number"]:List Str).Nodup by decide +kernel) rfl (Or.inl rfl) (Or.inr rfl))
    (λs H fp=>au dH (pv 0) (pv 2) (aD _)) (λs H fp=>eA (r:=uI K) iz (dk (cj hr) (pv 1) (pv 0) (λ_ _=>rfl)) lz (dj ak))) rfl) (ao (ax aC)) aE,?_⟩
 case hcl =>
  intro y hy;rcases mem_cons.mp hy with e|hy
  ·rw[e];rfl
  ·rcases mem_cons.mp hy with e|hy
   ·rw[e];rfl
   ·cases hy
 case hj =>
  intro i j x h1 h2
  match i,h1,h2 with
  |0,h1,h2 =>
   cases h1;cases h2;exact⟨rfl,Or.inr (Or.inl rfl),(show((am cp).names.lookup ("_law_book_here":Str)≠some NameKind.local)by decide +kernel),by first|exact Or.inl rfl|exact Or.inr rfl⟩
  |1,h1,h2 =>
   cases h1;cases h2;exact⟨rfl,Or.inr (Or.inl rfl),(show((am cp).names.lookup ("_law_number":Str)≠some NameKind.local)by decide +kernel),by first|exact Or.inl rfl|exact Or.inr rfl⟩
  |i+2,h1,h2=>simp at h1
 intro D H a c d dd n p nm as zs x4 L hd mm qt qn;have hT:=L.tre.tr;have hnd:=cu hT;have hlen:=L.tre.len;have ecut:gT (aS dd) (some 2) (some 4)=[Sum.inl p,Sum.inr nm].map kV:=by rcases mm with⟨st,rfl,_⟩|⟨rfl,_⟩<;>rfl
 have nw:¬(HT.sIx (aS dd).length 0 (some 2)=0∧HT.sIx (aS dd).length (aS dd).length (some 4)=(aS dd).length):=by
  rcases mm with⟨st,rfl,_⟩|⟨rfl,_⟩
  ·exact λh=>absurd h.1 (show ¬HT.sIx 5 0 (some 2)=0 by decide)
  ·exact λh=>absurd h.1 (show ¬HT.sIx 4 0 (some 2)=0 by decide)
 refine⟨_,rfl,_,rfl,_,rfl,c,_,rfl,SqT.of L.deed,nw,λt1 ht1=>?_⟩;have s1:=ae (o:=.tup (gT (aS dd) (some 2) (some 4))) ht1;have g1:upd H t1 (.tup (gT (aS dd) (some 2) (some 4))) t1=some (.tup ([Sum.inl p,Sum.inr nm].map kV)):=by rw[ac,ecut]
 have L1:=L.same s1;have hd1:=s1 _ _ hd;generalize upd H t1 (.tup (gT (aS dd) (some 2) (some 4)))=H1 at L1 g1 hd1⊢;refine⟨_,rfl,d,_,rfl,hd1,λo p1 hp1=>?_⟩;have L2:=L1.turn (u:=.frz o (.dK (bj as))) (.inr ⟨o,ac⟩);have g2:upd H1 d (.frz o (.dK (bj as))) t1=some (.tup ([Sum.inl p,Sum.inr nm].map kV)):=by rw[aj (tZ g1 L1.book.dict)];exact g1
 have hd2:upd H1 d (.frz o (.dK (bj as))) d=some (.frz o (.dK (bj as))):=ac;generalize upd H1 d (.frz o (.dK (bj as)))=H2 at L2 g2 hd2 hp1⊢;have eb:(as.map λa=>(a.1,a.2.2)).map (·.2)=nds zs:=by rw[←L.book.of];unfold nds;rw[map_map,map_map];rfl
 have hbl:(as.map λa=>(a.1,a.2.2)).length=zs.length:=by rw[←L.book.of,length_map,length_map]
 have hbn:((as.map λa=>(a.1,a.2.2)).map (·.2.num)).Nodup:=by
  have:(as.map λa=>(a.1,a.2.2)).map (·.2.num)=(nds zs).map (·.num):=by rw[←eb];simp only[map_map];rfl
  rw[this];exact hnd
 have hba:∀b∈as.map (λa=>(a.1,a.2.2)),H2 b.1=some (.tup (bX b.2)):=λb hb=>by
  obtain⟨x,hx,rfl⟩:=mem_map.mp hb;exact L2.book.at' x hx
 rw[lO]at hd2⊢;rw[jJ];have hkeep:bj as=bQ (as.map λa=>(a.1,a.2.2)):=lO as;generalize as.map (λa=>(a.1,a.2.2))=bs at eb hbl hbn hba hd2 hkeep⊢;refine lM (fr:=[some (.ref d),some (.int n)]) bs (λb=>V.int b.2.num) (by omega) hp1 (nz hd2) rfl (λb=>!decide (V.int b.2.num=V.int n)) (λb y H'=>∃q,y=.ref q∧q≠p1∧H' q=some (.tup ((plK b.2).map kV))) (λb y H H' ⟨q,e,ne,h⟩ ex=>⟨q,e,ne,ex q _ ne h⟩) (λb H' k mb s3 _ hk=>?_) (λb H' k mb _ s3 hpl hk=>?_) (λys H3 s3 hp3 hys=>?_)
 ·exact⟨_,rfl,_,rfl,rfl,_,rfl,hk H' (Same.refl _)⟩
 ·refine⟨_,rfl,_,rfl,d,_,rfl,.inl ⟨bQ bs,Sum.inl b.2.num,.inr ⟨o,s3 _ _ hd2⟩,rfl,(lh hbn mb).symm⟩,_,rfl,b.1,_,rfl,SqT.of (s3 _ _ (hba b mb)),(λh=>absurd h.2 (show ¬HT.sIx 3 3 (some 2)=3 by decide)),λq hq=>?_⟩;exact hk _ _ (ae hq) ⟨q,rfl,gI hpl hq,ac⟩
 ·obtain⟨cs,e1,e2,e3⟩:=gm (val:=V.ref) (S:=λ(b:Addr×Nd) (q:Addr)=>H3 q=some (.tup ((plK b.2).map kV))) hys (λb y _ ⟨q,e,_,h⟩=>⟨q,e,h⟩);refine⟨t1,p1,_,cs.map λx=>(x.2,plK x.1.2),rfl,s3 _ _ g2,rfl,SqL.of (by rw[hp3,e2,map_map,map_map];rfl),λy hy=>?_,_,rfl,?_⟩
  ·obtain⟨x,hx,rfl⟩:=mem_map.mp hy;exact e3 x hx
  ·have L3:=L2.same s3;cases ha:((cs.map λx=>(x.2,plK x.1.2)).any λz=>decide (z.2=[Sum.inl p,Sum.inr nm]))with
   |true =>
    refine be (qt H3 L3.s0 ?_);obtain⟨y,hy,e⟩:=any_eq_true.mp ha;obtain⟨x,hx,rfl⟩:=mem_map.mp hy;have mx:x.1∈bs.filter λb=>!decide (V.int b.2.num=V.int n):=by rw[←e1];exact mem_map.mpr ⟨x,hx,rfl⟩
    obtain⟨mx1,mx2⟩:=mem_filter.mp mx;have e':plK x.1.2=[Sum.inl p,Sum.inr nm]:=by simpa using e
    have hp:x.1.2.par=p∧x.1.2.nm=nm:=by
     unfold plK at e';injection e' with q1 q2
     injection q2 with q2 _
     injection q1 with q1
     injection q2 with q2
     exact⟨q1,q2⟩
    refine⟨x.1.2,by rw[←eb];exact mem_map.mpr ⟨x.1,mx1,rfl⟩,λe=>?_,hp⟩;simp[e]at mx2
   |false =>
    refine aM (qn o H3 L3 (by rw[hkeep];exact s3 _ _ hd2) λm hm hne h=>?_);rw[←eb]at hm;obtain⟨b,hb,rfl⟩:=mem_map.mp hm;have mb:b∈bs.filter λb=>!decide (V.int b.2.num=V.int n):=mem_filter.mpr ⟨hb,by simp[hne]⟩;rw[←e1]at mb;obtain⟨x,hx,ex⟩:=mem_map.mp mb;have:((cs.map λx=>(x.2,plK x.1.2)).any λz=>decide (z.2=[Sum.inl p,Sum.inr nm]))=true:=any_eq_true.mpr ⟨_,mem_map.mpr ⟨x,hx,rfl⟩,by
     rw[decide_eq_true_eq];show plK x.1.2=_;rw[ex];unfold plK;rw[h.1,h.2]⟩
    rw[ha]at this;cases this
theorem rK(hr:Room 1 (A.deeper (PyProof.Rows.envOfC "_law_done" (am cp) s.heap.objs.size f cdv)))(CU:Has P w K mg base 1 "_law_under" ["_law_book_here","_law_number","_law_goal"] jX):
  ∃t,PS (DX P w K mg base f cdv A outer s H0 E) (elS 3) t∧∀(D:Ends)(H:Hp)(a c d:Addr)(dd:TW.Deed Str)(n p:Int)(nm:Str)(as:List (Addr×(Addr×Nd)))(zs:ZN),LD H0 H a c d dd as zs→jK (nds zs) dd n p nm→TW.ic (nds zs) p→1≤n →
   (dd=.move n p nm→p≠0→TW.Und (nds zs) n p→D.rt (.str "inside") H)→(NotIn (nds zs) dd n p→D.nx [some (.ref a),some (.ref c),some (.ref d),some (.int n),some (.int p)] H) →
   t D [some (.ref a),some (.ref c),some (.ref d),some (.int n),some (.int p)] H:=by
 obtain⟨fU,fdU,GU,mU,kU,bU⟩:=CU;refine⟨_,aX (PW.pt (pw_and (au cD (aB aA (pv 1) ak (λ_ _=>rfl)) aC (aD _)) (pw_and (au dH (pv 4) ak (aD _)) (pw_and1 (gB (ar GU hr rfl mU kU bU .nil aK (aa (pv 2) (aa (pv 4) (aa (pv 3) af)))) (λ_=>rfl)))))) (ao (ax aC)) aE,?_⟩;intro D H a c d dd n p nm as zs L mm hF hn1 q1 q2;have sd:SqT K H c (aS dd):=SqT.of L.deed;rcases mm with⟨st,rfl,hno⟩|⟨rfl,hh⟩
 ·exact⟨_,rfl,c,_,_,_,rfl,rfl,sd,rfl,rfl,_,rfl,aM (aM (q2 λ⟨_,e⟩=>by cases e))⟩
 ·refine⟨_,rfl,c,_,_,_,rfl,rfl,sd,rfl,rfl,_,rfl,be ⟨_,rfl,rfl,_,rfl,?_⟩⟩
  by_cases hp0:p=0
  ·have e1:(!decide (V.int p=V.int 0))=false:=by simp[hp0]
   rw[e1];exact aM (aM (q2 λ_ h=>absurd hp0 h))
  ·have e1:(!decide (V.int p=V.int 0))=true:=by simp[hp0]
   rw[e1];rcases hF with e|⟨m,hm,_,em⟩
   ·exact absurd e hp0
   ·obtain⟨pa,hpa⟩:=TW.PathTo.ex L.tre.tr hm;rw[em]at hpa;refine be ⟨_,rfl,_,rfl,_,rfl,d,p,n,as,zs,pa,rfl,L.book,L.tre.tr,hpa,hn1,λb hb=>⟨b,rfl,?_⟩⟩;cases b with
    |true=>exact be (q1 rfl hp0 (hb.mp rfl))
    |false=>exact aM (q2 λ_ _ hu=>by have:=hb.mpr hu;cases this)
theorem vL(hr:Room 1 (A.deeper (PyProof.Rows.envOfC "_law_done" (am cp) s.heap.objs.size f cdv)))(CU:Has P w K mg base 1 "_law_under" ["_law_book_here","_law_number","_law_goal"] jX):
  ∃t,PSs (DX P w K mg base f cdv A outer s H0 E) wp t∧∀(D:Ends)(H:Hp)(a c d:Addr)(dd:TW.Deed Str)(n p:Int)(nm:Str)(as:List (Addr×(Addr×Nd)))(zs:ZN),LD H0 H a c d dd as zs→H d=some (.dK (bj as))→jK (nds zs) dd n p nm→1≤n →
   (∀wd H',Same H0 H'→TW.Told (nds zs) dd (.inl wd)→D.rt (.str (iO wd)) H') →
   (∀x4 bs H',Same H0 H'→H' d=some (.dK (bQ bs))→(∀b∈bs,H' b.1=some (.tup (bX b.2)))→(bs.map (·.2.num)).Nodup→bs.length≤zs.length+1→(∀us,us.Perm (bs.map (·.2))→TW.cX us→TW.Told (nds zs) dd (.inr us))→D.nx [some (.ref a),some (.ref c),some (.ref d),some (.int n),x4] H') →
   t D [some (.ref a),some (.ref c),some (.ref d),some (.int n),none] H:=by
 obtain⟨t3,p3,h3⟩:=rK (f:=f) (cdv:=cdv) (outer:=outer) (H0:=H0) (E:=E) hr CU;obtain⟨t4,p4,h4⟩:=ua (P:=P) (w:=w) (mg:=mg) (base:=base) (K:=K) (f:=f) (cdv:=cdv) (outer:=outer) (H0:=H0) (E:=E) hr;obtain⟨t5,p5,h5⟩:=xY (P:=P) (w:=w) (mg:=mg) (base:=base) (K:=K) (f:=f) (cdv:=cdv) (outer:=outer) (H0:=H0) (E:=E) hr;refine⟨_,ai (aJ (i:=4) jf.nd rfl (Or.inl rfl) (aB aA (pv 1) ak (λ_ _=>rfl)))
  (ai (aX (PW.pt (pw_and (au dH (pv 4) ak (aD _)) (pw_and1 (gy (eB (cj hr) (pv 4) (pv 2)))))) (ao (ax aC)) aE)
  (ai (aX (PW.pt (pw_and (au dH (pv 4) ak (aD _)) (pw_and1 (au pL (aB aA (dk (cj hr) (pv 2) (pv 4) (λ_ _=>rfl)) ak (λ_ _=>rfl)) dz (aD _))))) (ao (ax aC)) aE)
  (ai p3 (ai p4 (ao p5))))),?_⟩
 intro D H a c d dd n p nm as zs L hd mm hn1 qw qn;have hT:=L.tre.tr;have hnd:=cu hT;have a2:atI (aS dd) 2=some (.int p):=by rcases mm with⟨st,rfl,_⟩|⟨rfl,_⟩<;>rfl
 have rest:TW.ic (nds zs) p→lZ t3 (lZ t4 t5) D [some (.ref a),some (.ref c),some (.ref d),some (.int n),some (.int p)] H:=λhF=>by
  refine h3 _ H a c d dd n p nm as zs L mm hF hn1 (λe h0 hu=>?_) λhi=>?_
  ·subst e;rcases mm with⟨st,e,_⟩|⟨_,hh⟩
   ·cases e
   ·exact qw .inside H L.s0 (.vIn hh hF h0 hu)
  ·refine h4 _ H a c d dd n p nm as zs _ L hd mm (λH' s' ⟨m,hm,h1,h2,h3⟩=>qw .taken H' s' (mm.taken hF hi hm h1 h2 h3)) λo H' L' hd' hfree=>?_;exact h5 _ H' a c d dd n p nm as zs _ o L' hd' mm hF hi hfree λbs H2 e1 e2 e3 e4 e5 e6=>qn _ bs H2 e1 e2 e3 e4 e5 e6
 refine⟨_,rfl,c,_,_,_,rfl,rfl,SqT.of L.deed,a2,?_⟩;refine⟨_,rfl,rfl,_,rfl,?_⟩
 by_cases hp0:p=0
 ·have e1:(!decide (V.int p=V.int 0))=false:=by simp[hp0]
  rw[e1];refine aM (aM ⟨_,rfl,rfl,_,rfl,?_⟩);rw[e1];exact aM (aM (rest (.inl hp0)))
 ·have e1:(!decide (V.int p=V.int 0))=true:=by simp[hp0]
  rw[e1]
  by_cases hh:∃z∈zs,z.2.num=p
  ·obtain⟨z,hz,ez⟩:=hh;obtain⟨b,hb1,hb2⟩:=L.book.get hnd hz;rw[ez]at hb1;refine be ⟨_,rfl,_,rfl,d,_,rfl,hb1,_,rfl,aM ⟨_,rfl,rfl,_,rfl,?_⟩⟩;rw[e1];refine be ⟨_,rfl,_,rfl,d,_,rfl,hb1,b,_,_,_,rfl,rfl,SqT.of hb2,xi z.2,rfl,_,rfl,?_⟩;rw[qi];cases hs:z.2.st with
   |none=>exact aM (rest (.inr ⟨z.2,ck hz,hs,ez⟩))
   |some i=>exact be (qw .notFolder H L.s0 (mm.file hp0 (ck hz) ez (by rw[hs];simp)))
  ·exact be ⟨_,rfl,_,rfl,d,_,rfl,L.book.not (λz hz e=>hh ⟨z,hz,e⟩),_,rfl,be (qw .noNode H L.s0 (mm.no hp0 (cM hh)))⟩
theorem uc(hr:Room 1 (A.deeper (PyProof.Rows.envOfC "_law_done" (am cp) s.heap.objs.size f cdv)))(CU:Has P w K mg base 1 "_law_under" ["_law_book_here","_law_number","_law_goal"] jX):
  ∃t,PS (DX P w K mg base f cdv A outer s H0 E) (ldS 5) t∧∀(D:Ends)(H:Hp)(a c d:Addr)(dd:TW.Deed Str)(n:Int)(as:List (Addr×(Addr×Nd)))(zs:ZN),LD H0 H a c d dd as zs→H d=some (.dK (bj as))→((∃st,dd=.write n st∧TW.cK (nds zs) n)∨∃p nm,jK (nds zs) dd n p nm)→1≤n →
   (∀wd H',Same H0 H'→TW.Told (nds zs) dd (.inl wd)→D.rt (.str (iO wd)) H') →
   (∀x4 bs H',Same H0 H'→H' d=some (.dK (bQ bs))→(∀b∈bs,H' b.1=some (.tup (bX b.2)))→(bs.map (·.2.num)).Nodup→bs.length≤zs.length+1→(∀us,us.Perm (bs.map (·.2))→TW.cX us→TW.Told (nds zs) dd (.inr us))→D.nx [some (.ref a),some (.ref c),some (.ref d),some (.int n),x4] H') →
   t D [some (.ref a),some (.ref c),some (.ref d),some (.int n),none] H:=by
 obtain⟨te,pe,he⟩:=vL (f:=f) (cdv:=cdv) (outer:=outer) (H0:=H0) (E:=E) hr CU;refine⟨_,aX (au cD (aB aA (pv 1) ak (λ_ _=>rfl)) aC (aD _))
  (ai (aX (au jk (aB aA (dk (cj hr) (pv 2) (pv 3) (λ_ _=>rfl)) ak (λ_ _=>rfl)) dz (aD _)) (ao (ax aC)) aE)
  (ao (iZ (cj hr) (pv 2) (pv 3) (aI iY (eA iz (dk (cj hr) (pv 2) (pv 3) (λ_ _=>rfl)) lz (dj ak)) (aP (aa (aB aA (pv 1) ak (λ_ _=>rfl)) af))) rfl))) pe,?_⟩
 intro D H a c d dd n as zs L hd hdd hn1 qw qn;have hT:=L.tre.tr;have hnd:=cu hT;have hlen:=L.tre.len;have sd:SqT K H c (aS dd):=SqT.of L.deed;rcases hdd with⟨st,rfl,m,hm,em⟩|⟨p,nm,mm⟩
 ·obtain⟨z,hz,rfl⟩:=gJ hm;obtain⟨b,hb1,hb2⟩:=L.book.get hnd hz;rw[em]at hb1;refine⟨_,rfl,c,_,_,_,rfl,rfl,sd,rfl,rfl,_,rfl,be ⟨_,rfl,_,rfl,d,_,rfl,hb1,b,_,_,_,rfl,rfl,SqT.of hb2,xi z.2,rfl,_,rfl,?_⟩⟩;cases hs:z.2.st with
  |none=>exact be (qw .notFile H L.s0 (.wFold hm em hs))
  |some i =>
   refine aM ⟨_,rfl,_,rfl,d,_,rfl,hb1,_,rfl,b,_,rfl,SqT.of hb2,(λh=>absurd h.2 (show ¬HT.sIx 3 3 (some 2)=3 by decide)),λt1 ht1=>?_⟩;have s2:=ae (o:=.tup (gT (bX z.2) none (some 2))) ht1;refine⟨_,rfl,c,_,_,_,rfl,rfl,SqT.of (s2 _ _ L.deed),rfl,(show 1≤sizeLine from aq (by decide)),λt2 ht2=>?_⟩;have s3:=s2.trans (ae (o:=.tup [.int st]) ht2);refine⟨t1,t2,[.int z.2.par,.str z.2.nm],[.int st],rfl,rfl,SqT.of (bf ht2 ac),SqT.of ac,by simp,(show 3≤sizeLine from aq (by decide)),λh=>absurd h (cons_ne_nil _ _),λ_ q hq=>?_⟩;have s4:=s3.trans (ae (o:=.tup ([.int z.2.par,.str z.2.nm]++[.int st])) hq);have hq4:upd (upd (upd H t1 (.tup (gT (bX z.2) none (some 2)))) t2 (.tup [.int st])) q (.tup ([.int z.2.par,.str z.2.nm]++[.int st])) q=some (.tup (bX ⟨n,z.2.par,z.2.nm,some st⟩)):=ac;have hbl:(bj as).length≤1000:=by
    have:=congrArg length L.book.of;unfold bj;rw[length_map]at this⊢;omega
   refine⟨_,rfl,_,rfl,d,_,rfl,lE.k (k:=Sum.inl n) (s4 _ _ hd) (ay hbl),?_⟩;have L4:=L.same s4;obtain⟨bs,e1,e2,e3,e4,e5⟩:=nD (new:=⟨n,z.2.par,z.2.nm,some st⟩) (s4 _ _ hd) L4.book.of L4.book.at' hq4 hnd;refine qn _ bs _ (aL L.d0 L4.s0) e1 e2 e3 e4 λus hp hrise=>?_;rcases e5 with⟨h1,h2⟩|⟨h1,h2⟩
   ·rw[h2]at hp;rw[TW.jD hrise (TW.ie hT.rise) hp];exact .wrote hm em (by rw[hs];simp)
   ·exact absurd ⟨z.2,hm,em⟩ h1
 ·rcases id mm with⟨st,rfl,_⟩|⟨rfl,_⟩
  ·exact⟨_,rfl,c,_,_,_,rfl,rfl,sd,rfl,rfl,_,rfl,aM (he D H a c d _ n p nm as zs L hd mm hn1 qw qn)⟩
  ·exact⟨_,rfl,c,_,_,_,rfl,rfl,sd,rfl,rfl,_,rfl,aM (he D H a c d _ n p nm as zs L hd mm hn1 qw qn)⟩
def lU:Sp:=λvs H Q _=>∃a c dd zs,vs=[.ref a,.ref c]∧Tre H a zs∧zs.length≤29∧H c=some (.tup (aS dd))∧dC dd∧(∀us t' H',Same H H'→H' t'=some (.tup (bu us))→At H' us→TW.Told (nds zs) dd (.inr (nds us))→Q (.ref t') H')∧∀wd H',Same H H'→TW.Told (nds zs) dd (.inl wd)→Q (.str (iO wd)) H'
theorem ud{f:Addr}{fd:FuncData}(F:Fun K "_law_done" "_law_done" cp f fd)(T:Txt mg)(CK:Has P w K mg base 1 "_law_book" ["_law_tree_here"] pi)(CU:Has P w K mg base 1 "_law_under" ["_law_book_here","_law_number","_law_goal"] jX):
  FnOk P w K mg base CX0 2 f fd ["_law_tree_here","_law_deed_here"] lU:=by
 obtain⟨fK,fdK,GK,mK,kK,bK⟩:=CK;refine F.ok jf (λvs H Q E h=>?_) (λcdv A outer s H vs Q E hr h=>?_)
 ·obtain⟨a,c,dd,zs,rfl,_⟩:=h;rfl
 ·obtain⟨a,c,dd,zs,rfl,tr,hl,hc,hok,qo,qw⟩:=h;obtain⟨t4,p4,h4⟩:=vK (f:=f) (cdv:=cdv) (outer:=outer) (H0:=H) (E:=E) T hr CU;obtain⟨t5,p5,h5⟩:=uc (f:=f) (cdv:=cdv) (outer:=outer) (H0:=H) (E:=E) hr CU;obtain⟨t6,p6,h6⟩:=xX (P:=P) (w:=w) (K:=K) (mg:=mg) (base:=base) (f:=f) (cdv:=cdv) (outer:=outer) (H0:=H) (E:=E) T hr;refine⟨_,ai (aJ (i:=2) jf.nd rfl (Or.inr rfl) (ar GK hr rfl mK kK bK .nil aK (aa (pv 0) af)))
   (ai (aJ (i:=3) jf.nd rfl (Or.inr rfl) (aB aA (pv 1) ak (λ_ _=>rfl)))
   (ai (aX (PW.pt (pw_and (au cD (aB aA (pv 1) ak (λ_ _=>rfl)) aC (aD _)) (pw_and1 (gy (lF (cj hr) (pv 3) (pv 2)))))) (ao (ax aC)) aE)
   (ai (aX (PW.pt (pw_and (au dH (aB aA (pv 1) ak (λ_ _=>rfl)) aC (aD _)) (pw_and1 (gy (eB (cj hr) (pv 3) (pv 2)))))) (ao (ax aC)) aE)
   (ai p4 (ai p5 (ao p6)))))),?_⟩
  refine⟨_,rfl,a,zs,rfl,tr,λd as H1 s1 d0 bk hd=>?_⟩;have L:LD H H1 a c d dd as zs:=⟨s1,d0,tr.same s1,s1 _ _ hc,bk⟩;have hnd:=cu tr.tr;have sd:SqT K H1 c (aS dd):=SqT.of L.deed;have last:∀x4 n bs H',Same H H'→H' d=some (.dK (bQ bs))→(∀b∈bs,H' b.1=some (.tup (bX b.2)))→(bs.map (·.2.num)).Nodup→bs.length≤zs.length+1→(∀us,us.Perm (bs.map (·.2))→TW.cX us→TW.Told (nds zs) dd (.inr us)) →
    t6 {nx:=λ_ H'=>Q .non H',rt:=Q} [some (.ref a),some (.ref c),some (.ref d),some (.int n),x4] H':=λx4 n bs H' s' e1 e2 e3 e4 e5 =>
   h6 _ H' _ _ _ _ _ d bs rfl e1 e2 e3 (by omega) λo us t' H2 s2 ht' hA' hp hrise=>qo us t' H2 ((aL d0 s').trans s2) ht' hA' (e5 _ hp hrise)
  cases dd with
  |make n p nm st =>
   refine⟨_,rfl,c,_,_,_,rfl,rfl,sd,rfl,_,rfl,c,_,_,_,rfl,rfl,sd,rfl,rfl,_,rfl,be ?_⟩
   by_cases hh:∃z∈zs,z.2.num=n
   ·obtain⟨z,hz,ez⟩:=hh;obtain⟨b,hb1,_⟩:=L.book.get hnd hz;rw[ez]at hb1;exact⟨_,rfl,_,rfl,d,_,rfl,hb1,_,rfl,be (qw .known H1 s1 (.mKnown (eK hz ez)))⟩
   ·refine⟨_,rfl,_,rfl,d,_,rfl,L.book.not (λz hz e=>hh ⟨z,hz,e⟩),_,rfl,aM ?_⟩;refine⟨_,rfl,c,_,_,_,rfl,rfl,sd,rfl,rfl,_,rfl,aM (aM ?_)⟩;refine h4 _ H1 _ a c d _ n as zs rfl L.tre L.deed bk hok.1 (λ⟨k,e⟩=>by cases e) λ_=>?_;exact h5 _ H1 a c d _ n as zs L hd (.inr ⟨p,nm,.inl ⟨st,rfl,cM hh⟩⟩) hok.1 qw λx4 bs H'=>last x4 n bs H'
  |write n st =>
   refine⟨_,rfl,c,_,_,_,rfl,rfl,sd,rfl,_,rfl,c,_,_,_,rfl,rfl,sd,rfl,rfl,_,rfl,aM (aM ?_)⟩;refine⟨_,rfl,c,_,_,_,rfl,rfl,sd,rfl,rfl,_,rfl,be ?_⟩
   by_cases hh:∃z∈zs,z.2.num=n
   ·obtain⟨z,hz,ez⟩:=hh;obtain⟨b,hb1,_⟩:=L.book.get hnd hz;rw[ez]at hb1;refine⟨_,rfl,_,rfl,d,_,rfl,hb1,_,rfl,aM ?_⟩;refine h4 _ H1 _ a c d _ n as zs rfl L.tre L.deed bk hok.1 (λ⟨k,e⟩=>by cases e) λ_=>?_;exact h5 _ H1 a c d _ n as zs L hd (.inl ⟨st,rfl,eK hz ez⟩) hok.1 qw λx4 bs H'=>last x4 n bs H'
   ·exact⟨_,rfl,_,rfl,d,_,rfl,L.book.not (λz hz e=>hh ⟨z,hz,e⟩),_,rfl,be (qw .noNode H1 s1 (.wNo (cM hh)))⟩
  |move n p nm =>
   refine⟨_,rfl,c,_,_,_,rfl,rfl,sd,rfl,_,rfl,c,_,_,_,rfl,rfl,sd,rfl,rfl,_,rfl,aM (aM ?_)⟩;refine⟨_,rfl,c,_,_,_,rfl,rfl,sd,rfl,rfl,_,rfl,be ?_⟩
   by_cases hh:∃z∈zs,z.2.num=n
   ·obtain⟨z,hz,ez⟩:=hh;obtain⟨b,hb1,_⟩:=L.book.get hnd hz;rw[ez]at hb1;refine⟨_,rfl,_,rfl,d,_,rfl,hb1,_,rfl,aM ?_⟩;refine h4 _ H1 _ a c d _ n as zs rfl L.tre L.deed bk hok.1 (λ⟨k,e⟩=>by cases e) λ_=>?_;exact h5 _ H1 a c d _ n as zs L hd (.inr ⟨p,nm,.inr ⟨rfl,eK hz ez⟩⟩) hok.1 qw λx4 bs H'=>last x4 n bs H'
   ·exact⟨_,rfl,_,rfl,d,_,rfl,L.book.not (λz hz e=>hh ⟨z,hz,e⟩),_,rfl,be (qw .noNode H1 s1 (.vNo (cM hh)))⟩
  |drop n =>
   refine⟨_,rfl,c,_,_,_,rfl,rfl,sd,rfl,_,rfl,c,_,_,_,rfl,rfl,sd,rfl,rfl,_,rfl,aM (aM ?_)⟩;refine⟨_,rfl,c,_,_,_,rfl,rfl,sd,rfl,rfl,_,rfl,be ?_⟩
   by_cases hh:∃z∈zs,z.2.num=n
   ·obtain⟨z,hz,ez⟩:=hh;obtain⟨b,hb1,_⟩:=L.book.get hnd hz;rw[ez]at hb1;refine⟨_,rfl,_,rfl,d,_,rfl,hb1,_,rfl,aM ?_⟩;refine h4 _ H1 _ a c d _ n as zs rfl L.tre L.deed bk hok.1 (λ_ us t' H' g s2 ht' hA' e hg=>qo us t' H' (s1.trans s2) ht' hA' ?_) λh=>absurd ⟨n,rfl⟩ h;rw[e];exact .dropped (eK hz ez) hg
   ·exact⟨_,rfl,_,rfl,d,_,rfl,L.book.not (λz hz e=>hh ⟨z,hz,e⟩),_,rfl,be (qw .noNode H1 s1 (.dNo (cM hh)))⟩
end
theorem jY:∀(zs:List (Addr×Key×V))(m:List (Key×V)),(m.map (·.1)++zs.map (·.2.1)).Nodup→zs.foldl (λm z=>cg m z.2.1 z.2.2) m=m++zs.map (·.2)
 |[],m,_=>by rw[map_nil,append_nil];rfl
 |z::zs,m,h=>by
  have hn:z.2.1∉m.map (·.1):=λhm=>by
   rw[nodup_append]at h;exact h.2.2 _ hm z.2.1 (by rw[map_cons];exact mem_cons_self) rfl
  have e:cg m z.2.1 z.2.2=m++[z.2]:=by
   unfold cg;rw[if_neg];intro ha;obtain⟨p,hp,e⟩:=any_eq_true.mp ha;exact hn (mem_map.mpr ⟨p,hp,of_decide_eq_true e⟩)
  rw[foldl_cons,e,jY zs (m++[z.2]),map_cons,append_assoc]
  ·rfl
  ·rw[map_append,append_assoc];exact h
theorem nQ{zs:List (Addr×Key×V)}{e:Addr}{k:Key}{v:V}(h:(zs.map (·.2.1)).Nodup):gr (zs++[(e,k,v)])=cg (zs.map (·.2)) k v:=by
 unfold gr;rw[List.foldl_append,jY zs [] (by simpa using h)];rfl
def fX(H:Hp)(sa:Addr)(x:Str):Prop:=H sa=some (.tup [.str "tag",.str x])
section
variable{P:Program}{w:World}{K:PySem.W.Frag}{mg:Str→Option Value}{base:Heap}
def gw:Sp:=λvs H Q _=>∃n sa t d z gs,vs=[.ref n,.ref sa]∧H n=some (.tup [.ref t,.ref d])∧Tre H t z∧Tags H d gs∧gs.length<50 ∧
 ((∃x,fX H sa x∧(x="Bad"→∀r H',Same H H'→H' r=some (.tup [.ref n,.str "no tag"])→Q (.ref r) H') ∧
   (x≠"Bad"→∀r n' d' H',Same H H'→H' r=some (.tup [.ref n',.bl (decide (x∈gs.map (·.1)))])→H' n'=some (.tup [.ref t,.ref d'])→Tags H' d' (cP gs x (t,z))→Q (.ref r) H')) ∨
   (∃dd,H sa=some (.tup (aS dd))∧dC dd∧z.length≤29∧(∀r n' us t' H',Same H H'→TW.Told (nds z) dd (.inr (nds us))→Tre H' t' us→H' r=some (.tup [.ref n',.non])→H' n'=some (.tup [.ref t',.ref d])→Q (.ref r) H') ∧
   ∀wd r H',Same H H'→TW.Told (nds z) dd (.inl wd)→H' r=some (.tup [.ref n,.str (iO wd)])→Q (.ref r) H'))
theorem qA:FnScope ["_law_now","_law_step_here","_law_tree_here","_law_known","_law_made"] ["_law_now","_law_step_here"] (am eY):=fsc
theorem wq(dd:TW.Deed Str):∃x,atI (aS dd) 0=some (.str x)∧x≠"tag":=by
 cases dd<;>exact⟨_,rfl,by decide +kernel⟩
theorem xZ{f:Addr}{fd:FuncData}(F:Fun K "_law_behind" "_law_behind" eY f fd)(T:Txt mg)(CL:Has P w K mg base 2 "_law_done" ["_law_tree_here","_law_deed_here"] lU):FnOk P w K mg base CX0 3 f fd ["_law_now","_law_step_here"] gw:=by
 obtain⟨fL,fdL,GL,mL,kL,bL⟩:=CL;refine F.ok qA (λvs H Q E h=>?_) (λcdv A outer s H vs Q E hr h=>?_)
 ·obtain⟨n,sa,t,d,z,gs,rfl,_⟩:=h;rfl
 ·obtain⟨n,sa,t,d,z,gs,rfl,hn,tr,tg,hgl,h⟩:=h;refine⟨_,ai (nW (pv 0) (lv (n:=2) rfl (cU (aQ (i:=2) qA.nd rfl (Or.inl rfl)) (cU (aQ (i:=3) qA.nd rfl (Or.inl rfl)) iW))))
   (ai (aX (au cD (aB aA (pv 1) ak (λ_ _=>rfl)) aC (aD _))
    (ai (aX (au cD (aB aA (pv 1) ak (λ_ _=>rfl)) aC (aD _)) (ao (ax (aP (aa (pv 0) (aa aC af))))) aE)
    (ao (ax (aP (aa (aP (aa (pv 2) (aa (aW (ph rfl) rfl T.dict rfl (aa (aI cZ (lT rfl rfl T.list (pv 3)) (ba (aa (aP (aa (aB aA (pv 1) ak (λ_ _=>rfl)) (aa (pv 2) af))) af))) af)) af)))
     (aa (rX (lF (cj hr) (aB aA (pv 1) ak (λ_ _=>rfl)) (pv 3))) af)))))) aE)
   (ai (aJ (i:=4) qA.nd rfl (Or.inl rfl) (ar GL hr rfl mL kL bL .nil aK (aa (pv 2) (aa (pv 1) af))))
   (ao (ax (fj (gB (aF dL rfl T.isin boot_isinstance (aa (pv 4) (aa (gP (v:=.ty "str") rfl T.str boot_str rfl) af))) (λ_=>rfl))
    (aP (aa (pv 0) (aa (pv 4) af))) (aP (aa (aP (aa (pv 4) (aa (pv 3) af))) (aa dz af)))))))),?_⟩
  refine⟨_,rfl,n,_,rfl,SqT.of hn,rfl,_,_,rfl,_,_,rfl,rfl,?_⟩;rcases h with⟨x,hx,qb,qo⟩|⟨dd,hdd,hok,hz,qo,qw⟩
  ·have hx':H sa=some (.tup [.str "tag",.str x]):=hx;refine⟨_,rfl,sa,_,_,_,rfl,rfl,SqT.of hx',rfl,rfl,_,rfl,?_⟩;rw[decide_eq_true rfl];refine be ⟨_,rfl,sa,_,_,_,rfl,rfl,SqT.of hx',rfl,rfl,_,rfl,?_⟩
   by_cases hb:x="Bad"
   ·rw[decide_eq_true (by rw[hb])];refine be ⟨_,rfl,le2,λr hr0=>?_⟩;exact qb hb r _ (ae hr0) ac
   ·rw[decide_eq_false (by intro h;exact hb (by injection h))];refine aM ⟨_,rfl,_,rfl,d,_,rfl,tg.dct,λl as H1 s1 hl hal hat=>?_⟩;have hx1:=s1 _ _ hx';refine⟨_,rfl,sa,_,_,_,rfl,rfl,SqT.of hx1,rfl,_,rfl,le2,λe he=>?_⟩;have s2:=ae (o:=.tup [.str x,.ref t]) he;have g2:upd H1 e (.tup [.str x,.ref t]) e=some (.tup [.str x,.ref t]):=ac;generalize upd H1 e (.tup [.str x,.ref t])=H2 at s2 g2⊢;refine⟨aq (show 1≤1000 by decide),λl2 hl2=>?_⟩;have s3:=ae (o:=.lst [.ref e]) hl2;have g3:upd H2 l2 (.lst [.ref e]) l2=some (.lst [.ref e]):=ac;generalize upd H2 l2 (.lst [.ref e])=H3 at s3 g3⊢;have htl:(bv gs).length=gs.length:=by unfold bv;rw[length_map]
    refine⟨l,l2,_,_,rfl,rfl,s3 _ _ (s2 _ _ hl),g3,aq (by rw[length_map,hal,htl];show _+1≤1000;omega),λl3 hl3=>?_⟩;have s4:=ae (o:=.lst (as.map V.ref++[.ref e])) hl3;have g4:upd H3 l3 (.lst (as.map V.ref++[.ref e])) l3=some (.lst (as.map V.ref++[.ref e])):=ac;generalize upd H3 l3 (.lst (as.map V.ref++[.ref e]))=H4 at s4 g4⊢;have s14:=s2.trans (s3.trans s4);have ef:((as.zip (bv gs)).map λq=>((q.1,q.2.1,q.2.2):Addr×Key×V)).map (·.1)=as:=by
     rw[map_map];exact List.map_fst_zip (by omega)
    have es:((as.zip (bv gs)).map λq=>((q.1,q.2.1,q.2.2):Addr×Key×V)).map (·.2)=bv gs:=by
     rw[map_map];exact List.map_snd_zip (by omega)
    have hnd:(((as.zip (bv gs)).map λq=>((q.1,q.2.1,q.2.2):Addr×Key×V)).map (·.2.1)).Nodup:=by
     have e1:((as.zip (bv gs)).map λq=>((q.1,q.2.1,q.2.2):Addr×Key×V)).map (·.2.1)=(bv gs).map (·.1):=by have:=congrArg (List.map (λp:Key×V=>p.1)) es;rw[map_map,map_map]at this;rw[map_map];exact this
     have e2:(bv gs).map (·.1)=(gs.map (·.1)).map (Sum.inr:Str→Key):=by unfold bv;rw[map_map,map_map];rfl
     rw[e1,e2];unfold Nodup;rw[pairwise_map];exact tg.nd.imp λh e=>h (by injection e)
    refine⟨l3,((as.zip (bv gs)).map λq=>((q.1,q.2.1,q.2.2):Addr×Key×V))++[(e,(Sum.inr x:Key),V.ref t)],rfl,?_,λy hy=>?_,?_,λd' hd'=>?_⟩
    ·rw[g4,map_append,ef,map_append];rfl
    ·rcases mem_append.mp hy with h|h
     ·obtain⟨q0,hq,rfl⟩:=mem_map.mp h;obtain⟨j,hj,ej⟩:=mem_iff_getElem.mp hq;have hj':j<as.length∧j<(bv gs).length:=by
       have:j<min as.length (bv gs).length:=by simpa using hj
       exact⟨by omega,by omega⟩
      have e0:q0=(as[j]'hj'.1,(bv gs)[j]'hj'.2):=by rw[←ej];simp
      rw[e0];exact s14 _ _ (hat j _ _ (getElem?_eq_getElem hj'.1) (getElem?_eq_getElem hj'.2))
     ·have ey:y=(e,(Sum.inr x:Key),V.ref t):=by simpa using h
      rw[ey];exact s4 _ _ (s3 _ _ g2)
    ·rw[length_append,length_map,List.length_zip,hal,htl];show min _ _+1≤900;omega
    ·rw[nQ hnd,es,nO gs x (t,z)];have s5:=ae (o:=.dK (bv (cP gs x (t,z)))) hd';have g5:upd H4 d' (.dK (bv (cP gs x (t,z)))) d'=some (.dK (bv (cP gs x (t,z)))):=ac;generalize upd H4 d' (.dK (bv (cP gs x (t,z))))=H5 at s5 g5⊢;refine⟨le2,λn' hn'=>?_⟩;have s6:=ae (o:=.tup [.ref t,.ref d']) hn';have g6:upd H5 n' (.tup [.ref t,.ref d']) n'=some (.tup [.ref t,.ref d']):=ac;generalize upd H5 n' (.tup [.ref t,.ref d'])=H6 at s6 g6⊢;have s16:=s14.trans (s5.trans s6);have sA:Same H H6:=λb o h=>s16 _ _ (s1 _ _ h);have tg6:=tg.same sA;have dg:fo H6 d (kV (Sum.inr x)) (bq (bv gs) (Sum.inr x:Key)):=.inl ⟨_,_,tg6.dct,rfl,rfl⟩;refine⟨_,rfl,sa,_,_,_,rfl,rfl,SqT.of (sA _ _ hx'),rfl,_,rfl,d,_,rfl,dg,?_⟩;rw[tg.val x];refine⟨le2,λr hr0=>?_⟩;have s7:=ae (o:=.tup [.ref n',.bl (decide (x∈gs.map (·.1)))]) hr0;refine qo hb r n' d' _ (sA.trans s7) ac (s7 _ _ g6) ⟨.inl (s7 _ _ (s6 _ _ g5)),λg hg=>?_,qx tg.nd,by have:=nP (gs:=gs) (x:=x) (v:=(t,z));omega⟩;rcases jV hg with e1|h
     ·rw[e1];exact(tr.same sA).same s7
     ·exact(tg6.at' g h).same s7
  ·obtain⟨y,hy,ny⟩:=wq dd;refine⟨_,rfl,sa,_,_,_,rfl,rfl,SqT.of hdd,hy,rfl,_,rfl,?_⟩;rw[decide_eq_false (by intro h;exact ny (by injection h))];refine aM ⟨_,rfl,_,rfl,t,sa,dd,z,rfl,tr,hz,hdd,hok,λus t' H1 s1 ht' hA told=>?_,λwd H1 s1 told=>?_⟩
   ·have Tb:Tre H1 t' us:=⟨ht',hA,told.tree tr.tr hok.pos,by have:=told.len;rw[aZ,aZ]at this;omega⟩;refine⟨_,rfl,_,_,_,_,rfl,.tup ht',(by kernel_rfl:_=some false),_,rfl,aM ?_⟩;refine⟨_,rfl,_,rfl,le2,λn' hn'=>?_⟩;have s2:=ae (o:=.tup [.ref t',.ref d]) hn';have g2:upd H1 n' (.tup [.ref t',.ref d]) n'=some (.tup [.ref t',.ref d]):=ac;generalize upd H1 n' (.tup [.ref t',.ref d])=H2 at s2 g2⊢;refine⟨le2,λr hr0=>?_⟩;have s3:=ae (o:=.tup [.ref n',.non]) hr0;exact qo r n' us t' _ (s1.trans (s2.trans s3)) told ((Tb.same s2).same s3) ac (s3 _ _ g2)
   ·refine⟨_,rfl,_,_,_,_,rfl,.str _,(by kernel_rfl:_=some true),_,rfl,be ?_⟩;refine⟨_,rfl,_,rfl,le2,λr hr0=>?_⟩;exact qw wd r _ (s1.trans (ae hr0)) told ac
def pj(K:PySem.W.Frag):Sp:=λvs H Q _=>∃a k,vs=[.ref a,.int k]∧0≤k∧di K H a∧∀r H',Same H H'→Q (.int r) H'
theorem yb:FnScope ["_law_script","_law_k"] ["_law_script","_law_k"] (am tI):=fsc
theorem vM{f:Addr}{fd:FuncData}(F:Fun K "_law_cell" "_law_cell" tI f fd)(T:Txt mg):FnOk P w K mg base CX0 1 f fd ["_law_script","_law_k"] (pj K):=by
 refine F.ok yb (λvs H Q E h=>?_) (λcdv A outer s H vs Q E hr h=>?_)
 ·obtain⟨a,k,rfl,_⟩:=h;rfl
 ·obtain⟨a,k,rfl,hk,⟨ns,ea⟩,q⟩:=h;refine⟨_,ai (aX (au sj (pv 1) (aF bo rfl T.len boot_len (aa (pv 0) af)) (aD _)) (ao (ax (aB bx (pv 0) (pv 1) (λ_ _=>rfl)))) aE)
   (ai (aX (au (jw hr.units0) (pv 0) (ba af) (aD _)) (ao (ax ak)) aE)
   (ao (ax (aI bb (aI cY (aB bx (pv 0) (aI lx (pv 1) (aF bo rfl T.len boot_len (aa (pv 0) af))) (λ_ _=>rfl)) ak) (pv 1))))),?_⟩
  refine⟨_,rfl,_,rfl,a,_,rfl,.inl (ea),_,_,rfl,rfl,_,rfl,?_⟩;rw[length_map]
  by_cases h:k<(ns.length:Int)
  ·rw[decide_eq_true h];obtain⟨j,ej⟩:=nB hk h;exact be ⟨_,rfl,_,rfl,a,_,_,_,rfl,rfl,ea,ej,q _ _ (Same.refl _)⟩
  ·rw[decide_eq_false h];refine aM ⟨_,rfl,zero_le _,λp hp=>⟨a,p,_,rfl,rfl,((ae hp).seq ea),SqL.of ac,_,rfl,?_⟩⟩
   by_cases h0:ns=[]
   ·subst h0;exact be (q _ _ (ae hp))
   ·have hne:¬ns.map V.int=[]:=by simpa using h0
    rw[decide_eq_false hne];have hpos:0<ns.length:=List.length_pos_iff.mpr h0;have hm1:0≤k % (ns.length:Int):=Int.emod_nonneg _ (by omega);have hm2:k % (ns.length:Int)<ns.length:=Int.emod_lt_of_pos _ (by omega);obtain⟨j,ej⟩:=nB hm1 hm2;have ej':atI (ns.map V.int) (k % ((ns.map V.int).length:Int))=some (.int j):=by rw[length_map];exact ej
    exact aM ⟨_,rfl,_,rfl,_,rfl,a,_,rfl,.inl (((ae hp).seq ea)),_,_,rfl,rfl,by rw[length_map];omega,a,_,_,_,rfl,rfl,((ae hp).seq ea),ej',_,_,rfl,rfl,.inr ⟨by decide,by decide⟩,_,rfl,_,_,rfl,rfl,q _ _ (ae hp)⟩
def dW(K:PySem.W.Frag):Sp:=λvs H Q _=>∃a k m,vs=[.ref a,.int k,.int m]∧0≤k∧0<m∧di K H a∧∀r H',0≤r→r<m→Same H H'→Q (.int r) H'
theorem ue:FnScope ["_law_script","_law_k","_law_many","_law_drawn"] ["_law_script","_law_k","_law_many"] (am tJ):=fsc
theorem vN{f:Addr}{fd:FuncData}(F:Fun K "_law_pick" "_law_pick" tJ f fd)(T:Txt mg)(C:Has P w K mg base 1 "_law_cell" ["_law_script","_law_k"] (pj K)):FnOk P w K mg base CX0 2 f fd ["_law_script","_law_k","_law_many"] (dW K):=by
 obtain⟨fC,fdC,GC,mC,kC,bC⟩:=C;refine F.ok ue (λvs H Q E h=>?_) (λcdv A outer s H vs Q E hr h=>?_)
 ·obtain⟨a,k,m,rfl,_⟩:=h;rfl
 ·obtain⟨a,k,m,rfl,hk,hm,hS,q⟩:=h;refine⟨_,(ai (aJ (i:=3) ue.nd rfl (Or.inl rfl) (aI lx (aI cY (aI bb (ar GC hr rfl mC kC bC .nil aK (aa (pv 0) (aa (pv 1) af))) (aI cY ak (aI bb (pv 1) ak))) ak) ak))
   (ao (ax (aI lx (aI lx (aI bb (aI cY (pv 3) (pv 3)) (aI pH (pv 3) ak)) ak) (pv 2))))),?_⟩
  refine⟨_,rfl,_,rfl,a,k,rfl,hk,hS,λr H1 s1=>?_⟩;refine⟨_,rfl,_,_,rfl,rfl,_,_,rfl,rfl,.inl ⟨by decide,by decide⟩,_,_,rfl,rfl,_,_,rfl,rfl,.inr ⟨by decide,by decide⟩,_,_,rfl,rfl,(by decide:(0:Int)<2147483399),?_⟩;generalize hd:(r+6151*(k+1))*40692 % 2147483399=dr;have d0:0≤dr:=by rw[←hd];exact Int.emod_nonneg _ (by decide)
  have d1:dr<2147483399:=by rw[←hd];exact Int.emod_lt_of_pos _ (by decide)
  refine⟨_,rfl,_,rfl,_,_,rfl,rfl,.inl ⟨by omega,by omega⟩,_,rfl,_,_,rfl,rfl,⟨by decide,by decide⟩,_,_,rfl,rfl,_,_,rfl,rfl,(by decide:(0:Int)<2147483629),_,rfl,_,_,rfl,rfl,hm,?_⟩;exact q _ _ (Int.emod_nonneg _ (by omega)) (Int.emod_lt_of_pos _ hm) s1
def io(K:PySem.W.Frag):Sp:=λvs H Q _=>∃a at' m,vs=[.ref a,.int at',.int m]∧0≤at'∧0≤m∧m≤9∧di K H a∧∀t zs H',H' t=some (.tup (bu zs))→At H' zs→(zs.length:Int)≤m→TW.Tree (nds zs)→(∀z∈zs,vh z.2)→Same H H'→Q (.ref t) H'
theorem scB:FnScope ["_law_script","_law_at","_law_most","_law_left","_law_folders","_law_nodes","_law_k","_law_number","_law_parent","_law_name","_law_stamp"] ["_law_script","_law_at","_law_most"] (am iE):=fsc
def buS(i:Nat):Stmt:=match (bz iE).getD 3 (.Pass ⟨0,0,0,0⟩)with
 |.For _ _ b _ _=>b.getD i (.Pass ⟨0,0,0,0⟩)
 |x=>x
abbrev BX(P:Program)(w:World)(K:PySem.W.Frag)(mg:Str→Option Value)(base:Heap)(f:Addr)(cdv:Value)(A:Around)(outer:List Env)(s:Shared)(H:Hp)(E:XK):Cx:=(gQ CX0 P w K mg base ["_law_script","_law_at","_law_most","_law_left","_law_folders","_law_nodes","_law_k","_law_number","_law_parent","_law_name","_law_stamp"] "_law_tree" (am iE) f cdv A outer s H E).nox
theorem yY{f:Addr}{cdv:Value}{A:Around}{outer:List Env}{s:Shared}{H0:Hp}{E:XK}(hr:Room 2 (A.deeper (PyProof.Rows.envOfC "_law_tree" (am iE) s.heap.objs.size f cdv))):
  ∃t,PS (BX P w K mg base f cdv A outer s H0 E) (buS 5) t∧∀(D:Ends)(H H6:Hp)(pl pf pn:Addr)(x0 x1 x2 x6:Option V)(lf:List Int)(zs:ZN)(num par:Int)(nm:Str)(st:Option Int),Sta H pl pf pn H6 lf (0::TW.aT (nds zs)) zs→zs.length≤20 →
   (∀H',Sta H pl pf pn H' lf (0::TW.aT (nds zs)) zs→D.nx [x0,x1,x2,some (.ref pl),some (.ref pf),some (.ref pn),x6,some (.int num),some (.int par),some (.str nm),some (stV st)] H') →
   (∀q H',(∀z∈zs,¬(z.2.par=par∧z.2.nm=nm))→Sta H pl pf pn H' lf (0::TW.aT (nds (zs++[(q,⟨num,par,nm,st⟩)]))) (zs++[(q,⟨num,par,nm,st⟩)])→D.nx [x0,x1,x2,some (.ref pl),some (.ref pf),some (.ref pn),x6,some (.int num),some (.int par),some (.str nm),some (stV st)] H') →
   t D [x0,x1,x2,some (.ref pl),some (.ref pf),some (.ref pn),x6,some (.int num),some (.int par),some (.str nm),some (stV st)] H6:=by
 refine⟨_,aX (au (ki (cj hr)) (aP (aa (pv 8) (aa (pv 9) af))) (hJ (N:=["_law_node"]) (k:=1) (js:=[]) (g:=cw 0) rfl (fq rfl (by decide +kernel) (by decide +kernel) (by decide +kernel)) rfl (λi j x h=>by simp at h)
     (gk (pv 5)) (λs H fp=>aQ (i:=0) (show(["_law_node"]:List Str).Nodup by decide +kernel) rfl (Or.inl rfl) (Or.inr rfl))
     (λs H fp=>eA (r:=uI K) iz (pv 0) (dj ak) (dj ak))) rfl) (ai (bn (fk plainAttrs_list PySem.F.slot_list_append PySem.F.type_list_append ce (pv 5) (aa (aP (aa (pv 7) (aa (pv 8) (aa (pv 9) (aa (pv 10) af))))) af))) (ao (aX (au jk (pv 10) dz (aD _)) (ao (bn (fk plainAttrs_list PySem.F.slot_list_append PySem.F.type_list_append ce (pv 4) (aa (pv 7) af)))) aE))) aE,?_⟩
 intro D H H6 pl pf pn x0 x1 x2 x6 lf zs num par nm st A6 hzl qs qa;refine⟨_,rfl,_,rfl,le2,λq0 hq0=>?_⟩;have A7:=A6.grow (ae (o:=.tup [.int par,.str nm]) hq0);have eq0:(upd H6 q0 (.tup [.int par,.str nm])) q0=some (.tup ([Sum.inl par,Sum.inr nm].map kV)):=ac;refine⟨_,rfl,pn,rfl,⟨_,SqL.of A7.n⟩,λp hp=>?_⟩;generalize upd H6 q0 (.tup [.int par,.str nm])=H7 at A7 eq0 hp⊢;refine sO (k:=1) (js:=[]) (J:=Itl K pn) (p:=p) zs.length (by omega) (λi ys σ' H'=>∃kss:List (Addr×List Key),ys=(kss.map (·.1)).map V.ref∧kss.map (·.2)=((nds zs).take i).map plK∧kss.length=i∧(∀z∈kss,H' z.1=some (.tup (z.2.map kV)))∧σ'.length=1∧Same H7 H'∧H' p=some (.lst ys))
  ⟨[],rfl,rfl,rfl,by simp,rfl,ae hp,ac⟩ (λi ys σ' H' h=>?_) (λi ys σ' H' hi h=>?_) (λys σ' H' h=>?_) (λi ys σ' H' hi h v H2 hy=>?_) ?_ ?_
 ·obtain⟨kss,rfl,_,e,_⟩:=h;rw[length_map,length_map];omega
 ·obtain⟨_,_,_,_,_,_,s2,_⟩:=h;exact⟨_,_,SqL.of (s2 _ _ A7.n),jE (getElem?_eq_getElem hi)⟩
 ·obtain⟨kss,e1,e2,e3,e4,_,s2,e5⟩:=h;refine⟨⟨_,SqL.of (s2 _ _ A7.n),by rw[cn];exact le_refl _⟩,?_⟩;subst e1;refine⟨q0,p,_,kss,rfl,s2 _ _ eq0,rfl,SqL.of e5,e4,_,rfl,?_⟩;rw[List.take_of_length_le (by rw[aZ];exact le_refl _)]at e2;have A8:=A7.grow s2;cases ea:(kss.any λz=>decide (z.2=[Sum.inl par,Sum.inr nm]))with
  |true=>exact aM (qs _ A8)
  |false =>
   have ho:∀z∈zs,¬(z.2.par=par∧z.2.nm=nm):=λz hz ⟨h1,h2⟩=>by
    have m1:plK z.2∈kss.map (·.2):=by rw[e2];exact mem_map.mpr ⟨z.2,mem_map.mpr ⟨z,hz,rfl⟩,rfl⟩
    obtain⟨y,hy,ey⟩:=mem_map.mp m1;have:(kss.any λz=>decide (z.2=[Sum.inl par,Sum.inr nm]))=true:=any_eq_true.mpr ⟨y,hy,by rw[decide_eq_true_eq,ey];unfold plK;rw[h1,h2]⟩;rw[ea]at this;cases this
   refine be ⟨_,rfl,.inl ⟨rfl,_,SqL.of A8.n⟩,_,rfl,_,rfl,_,rfl,_,rfl,(show 4≤sizeLine from aq (by decide)),λq hq=>⟨pn,_,_,rfl,rfl,bf hq A8.n,ay (by rw[cn];omega),?_⟩⟩;have A9:=(A8.grow (ae (o:=.tup (vals ⟨num,par,nm,st⟩)) hq)).node (n:=⟨num,par,nm,st⟩) ac;refine⟨_,rfl,rfl,_,rfl,?_⟩;cases st with
   |some i5 =>
    have ef:(0::TW.aT (nds zs))=(0:Int)::TW.aT (nds (zs++[(q,⟨num,par,nm,some i5⟩)])):=by simp[TW.aT,nds]
    rw[ef]at A9;exact aM (qa q _ ho A9)
   |none =>
    refine be ⟨_,rfl,.inl ⟨rfl,_,SqL.of A9.f⟩,_,rfl,pf,_,_,rfl,rfl,A9.f,ay ?_,?_⟩
    ·have:=TW.dM (nds zs);rw[aZ]at this;rw[length_map,length_cons];omega
    ·have A10:=A9.fold num;have ef:(0::TW.aT (nds zs))++[num]=(0:Int)::TW.aT (nds (zs++[(q,⟨num,par,nm,none⟩)])):=by simp[TW.aT,nds]
     rw[ef]at A10;exact qa q _ ho A10
 ·obtain⟨kss,e1,e2,e3,e4,e0,s2,e5⟩:=h;obtain⟨o1,rfl⟩:=xb e0;obtain⟨rfl,hx⟩:=hy;have gx:=hx _ (SqL.of (s2 _ _ A7.n));obtain⟨z1,g1,rfl⟩:=eI gx;have m1:=mem_of_getElem? g1;have ecut:gT (vals z1.2) (some 1) (some 3)=[.int z1.2.par,.str z1.2.nm]:=rfl;refine⟨_,rfl,_,rfl,_,rfl,z1.1,_,rfl,SqT.of (s2 _ _ (A7.nd z1 m1)),(λh=>by have h1:(1:Nat)=0:=h.1;cases h1),λq hq=>?_⟩;rw[ecut];refine⟨bf hq e5,kss++[(q,plK z1.2)],by rw[e1];simp,?_,by simp[e3],?_,rfl,aL hp (s2.trans (ae hq)),ac⟩
  ·rw[map_append,e2,take_succ,show(nds zs)[i]?=some z1.2 by unfold nds;rw[getElem?_map,g1];rfl,map_append];rfl
  ·intro z hz;have hqp:q≠p:=λz=>by rw[z,e5]at hq;cases hq
   rcases mem_append.mp hz with hz|hz
   ·have:=bf (o:=.tup [.int z1.2.par,.str z1.2.nm]) hq (e4 z hz);rw[aj]
    ·exact this
    ·intro e;rw[e,aj (symm hqp),e5]at this;cases this
   ·have e:z=(q,plK z1.2):=by simpa using hz
    subst e;rw[aj hqp];exact ac
 ·rintro _ _ _ _ _ m h;exact m _ _ h
 ·rintro _ _ _ _ m ⟨v1,b0,i1,b1,i2,b2,a2,x2,c1,c2,c3,q⟩;exact⟨v1,b0,i1,b1,i2,b2,a2,x2,c1,c2,c3,λp hp=>m _ _ (q p hp)⟩
theorem uf{f:Addr}{fd:FuncData}(F:Fun K "_law_tree" "_law_tree" iE f fd)(T:Txt mg)(C:Has P w K mg base 2 "_law_pick" ["_law_script","_law_k","_law_many"] (dW K)):FnOk P w K mg base CX0 3 f fd ["_law_script","_law_at","_law_most"] (io K):=by
 obtain⟨fP,fdP,GP,mP,kP,bP⟩:=C;refine F.ok scB (λvs H Q E h=>?_) (λcdv A outer s H vs Q E hr h=>?_)
 ·obtain⟨a,at',m,rfl,_⟩:=h;rfl
 ·obtain⟨a,at',m,rfl,ha0,hm0,hm9,hS,k⟩:=h;obtain⟨t5,p5,h5⟩:=yY (P:=P) (w:=w) (mg:=mg) (base:=base) (f:=f) (cdv:=cdv) (A:=A) (outer:=outer) (s:=s) (H0:=H) (E:=E) hr;refine⟨_,(ai (aJ (i:=3) scB.nd rfl (Or.inl rfl) (aW (kl rfl) rfl T.list rfl (aa (aW rf rfl T.range rfl (aa ak (aa (aI bb (pv 2) ak) af))) af)))
    (ai (aJ (i:=4) scB.nd rfl (Or.inl rfl) (ba (aa ak af)))
    (ai (aJ (i:=5) scB.nd rfl (Or.inl rfl) (ba af))
    (ai (eP PassesOwn.never rfl (ee rfl T.range (aa (ar GP hr rfl mP kP bP .nil aK (aa (pv 0) (aa (pv 1) (aa (aI bb (pv 2) ak) af)))) af)) (aQ (i:=6) scB.nd rfl (Or.inl rfl))
    (ai (aJ (i:=7) scB.nd rfl (Or.inl rfl) (fk plainAttrs_list slot_list_pop type_list_pop sF (pv 3) (aa (ar GP hr rfl mP kP bP .nil aK (aa (pv 0) (aa (aI bb (aI bb (pv 1) ak) (aI cY ak (pv 6))) (aa (aF bo rfl T.len boot_len (aa (pv 3) af)) af)))) af)))
    (ai (aJ (i:=8) scB.nd rfl (Or.inl rfl) (aB bx (pv 4) (ar GP hr rfl mP kP bP .nil aK (aa (pv 0) (aa (aI bb (aI bb (pv 1) ak) (aI cY ak (pv 6))) (aa (aF bo rfl T.len boot_len (aa (pv 4) af)) af)))) (λ_ _=>rfl)))
    (ai (aJ (i:=9) scB.nd rfl (Or.inl rfl) (aB bx (ba (aa aC (aa aC (aa aC (aa aC af))))) (ar GP hr rfl mP kP bP .nil aK (aa (pv 0) (aa (aI bb (aI bb (pv 1) ak) (aI cY ak (pv 6))) (aa ak af)))) (λ_ _=>rfl)))
    (ai (aJ (i:=10) scB.nd rfl (Or.inl rfl) dz)
    (ai (aX (au yv (ar GP hr rfl mP kP bP .nil aK (aa (pv 0) (aa (aI bb (aI bb (pv 1) ak) (aI cY ak (pv 6))) (aa ak af)))) ak (aD _)) (ao (aJ (i:=10) scB.nd rfl (Or.inl rfl) (aB bx (ba (aa ak (aa ak (aa ak (aa ak af))))) (ar GP hr rfl mP kP bP .nil aK (aa (pv 0) (aa (aI bb (aI bb (pv 1) ak) (aI cY ak (pv 6))) (aa ak af)))) (λ_ _=>rfl)))) aE)
    (ao p5)))))))
    (ao (ax (aW cb rfl T.tuple rfl (aa (aF iB rfl T.sorted boot_sorted (aa (pv 5) af)) af)))))))),?_⟩
  refine⟨_,rfl,_,_,rfl,rfl,_,_,rfl,λp1 hp1=>⟨p1,_,_,rfl,ac,⟨by decide,by decide,by omega,by omega⟩,by omega,λpl hpl=>?_⟩⟩;refine⟨aq (by decide),λpf hpf=>⟨zero_le _,λpn hpn=>?_⟩⟩;have s0:Same H (upd (upd (upd (upd H p1 (.rng 1 (m+4))) pl (.lst ((List.range (m+4-1:Int).toNat).map λk=>V.int (1+(k:Nat))))) pf (.lst [.int 0])) pn (.lst [])):=(((ae hp1).trans (ae hpl)).trans (ae hpf)).trans (ae hpn);have hfl:pl≠pf:=λe=>by rw[←e,ac]at hpf;cases hpf
  have hln:pl≠pn:=λe=>by rw[←e,aj hfl,ac]at hpn;cases hpn
  have hfn:pf≠pn:=λe=>by rw[←e,ac]at hpn;cases hpn
  have A0:Sta H pl pf pn (upd (upd (upd (upd H p1 (.rng 1 (m+4))) pl (.lst ((List.range (m+4-1:Int).toNat).map λk=>V.int (1+(k:Nat))))) pf (.lst [.int 0])) pn (.lst [])) (lf0 m) [0] [] :=
   ⟨s0,by rw[aj hln,aj hfl,ac,lf0,map_map];rfl,by rw[aj hfn,ac];rfl,ac,λz hz=>by simp at hz,(ae hp1).free hpl,((ae hp1).trans (ae hpl)).free hpf,(((ae hp1).trans (ae hpl)).trans (ae hpf)).free hpn,hfl,hln,hfn⟩
  have B0:Bd [] (lf0 m):=Bd.zero hm9;refine⟨_,rfl,_,rfl,_,rfl,_,_,rfl,rfl,a,_,_,rfl,ha0,by omega,hS.same s0,λr H1 r0 r1 s1=>⟨r,rfl,by omega,by omega,?_⟩⟩;refine eu (n:=r.toNat) (λi σ H'=>∃lf zs o6 o7 o8 o9 o10,σ=[some (.ref a),some (.int at'),some (.int m),some (.ref pl),some (.ref pf),some (.ref pn),o6,o7,o8,o9,o10]∧Sta H pl pf pn H' lf (0::TW.aT (nds zs)) zs∧Bd zs lf∧(lf.length:Int)+i=m+3∧zs.length≤i)
   ⟨_,[],_,_,_,_,_,rfl,A0.grow s1,B0,by rw[vj hm0];omega,le_refl _⟩ (λi σ H' hi h=>?_) (λσ H' h=>?_)
  ·obtain⟨lf,zs,o6,o7,o8,o9,o10,rfl,A1,B,hlf,hzl⟩:=h;have hi8:i<10:=by omega
   have z0:(0:Int)≤at'+1+6*(0+(i:Int)):=by omega
   refine⟨_,rfl,.inl ⟨rfl,_,SqL.of A1.l⟩,_,rfl,_,rfl,_,_,rfl,rfl,_,rfl,_,_,rfl,rfl,.inl ⟨by decide,by decide⟩,_,_,rfl,rfl,_,rfl,pl,_,rfl,.inl (SqL.of A1.l),a,_,_,rfl,by omega,by rw[length_map];omega,hS.same A1.same,λj H2 j0 j1 s2=>?_⟩;rw[length_map]at j1;have A2:=A1.grow s2;obtain⟨num,gnum⟩:∃num,lf[j.toNat]?=some num:=⟨_,getElem?_eq_getElem (by omega)⟩;refine⟨pl,_,j,j.toNat,.int num,rfl,rfl,A2.l,by omega,by omega,by rw[length_map];exact xf j0 j1,by rw[getElem?_map,gnum];rfl,?_⟩;rw[lg];have A3:=A2.pop (lf.eraseIdx j.toNat);have elen:(lf.eraseIdx j.toNat).length=lf.length-1:=List.length_eraseIdx_of_lt (by omega);generalize upd H2 pl (.lst ((lf.eraseIdx j.toNat).map V.int))=H3 at A3⊢;refine⟨_,rfl,_,rfl,_,rfl,_,_,rfl,rfl,_,rfl,_,_,rfl,rfl,.inl ⟨by decide,by decide⟩,_,_,rfl,rfl,_,rfl,pf,_,rfl,.inl (SqL.of A3.f),a,_,_,rfl,by omega,by rw[length_map,length_cons];omega,hS.same A3.same,λj2 H4 j20 j21 s4=>?_⟩;rw[length_map]at j21;obtain⟨par,mpar,gpar⟩:=qe j20 j21;have A4:=A3.grow s4;refine⟨pf,_,_,_,rfl,rfl,SqL.of A4.f,gpar,?_⟩;refine⟨aq (by decide),λp3 hp3=>?_⟩;have A5:=A4.grow (ae (o:=.lst [.str "a",.str "b",.str "c",.str "abcde"]) hp3);refine⟨_,rfl,_,rfl,_,_,rfl,rfl,_,rfl,_,_,rfl,rfl,.inl ⟨by decide,by decide⟩,_,_,rfl,rfl,a,_,_,rfl,by omega,by decide,hS.same A5.same,λj3 H5 j30 j31 s5=>?_⟩;obtain⟨nm,hnm,gnm⟩:=qf j30 j31;refine⟨p3,_,_,_,rfl,rfl,SqL.of (s5 _ _ ac),gnm,?_⟩;have A6:=A5.grow s5;refine⟨_,rfl,_,rfl,_,_,rfl,rfl,_,rfl,_,_,rfl,rfl,.inl ⟨by decide,by decide⟩,_,_,rfl,rfl,a,_,_,rfl,by omega,by decide,hS.same A6.same,λj4 H6 j40 j41 s6=>⟨_,_,rfl,rfl,_,rfl,?_⟩⟩;have A6':=A6.grow s6;refine sH (λhgt=>?_) (λhgt=>?_)
   ·refine⟨aq (by decide),λp5 hp5=>?_⟩;have A65:=A6'.grow (ae (o:=.lst [.int 0,.int 1,.int 2,.int 999]) hp5);refine⟨_,rfl,_,rfl,_,_,rfl,rfl,_,rfl,_,_,rfl,rfl,.inl ⟨by decide,by decide⟩,_,_,rfl,rfl,a,_,_,rfl,by omega,by decide,hS.same A65.same,λj5 H65 j50 j51 s65=>?_⟩;obtain⟨i5,hst5,gst⟩:=vi j50 j51;refine⟨p5,_,_,_,rfl,rfl,SqL.of (s65 _ _ ac),gst,?_⟩;have A66:=A65.grow s65;exact h5 _ H H65 pl pf pn _ _ _ _ (lf.eraseIdx j.toNat) zs num par nm (some i5) A66 (by omega) (λH' A8=>⟨_,zs,_,_,_,_,_,rfl,A8,B.skip _,by rw[elen];omega,by omega⟩)
     (λq H' ho A9=>⟨_,_,_,_,_,_,_,rfl,A9,B.add (q:=q) (n:=⟨num,par,nm,(some i5)⟩) gnum mpar ho hnm hst5,by rw[elen];omega,by rw[length_append,length_singleton];omega⟩)
   ·exact h5 _ H H6 pl pf pn _ _ _ _ (lf.eraseIdx j.toNat) zs num par nm none A6' (by omega) (λH' A8=>⟨_,zs,_,_,_,_,_,rfl,A8,B.skip _,by rw[elen];omega,by omega⟩)
     (λq H' ho A9=>⟨_,_,_,_,_,_,_,rfl,A9,B.add (q:=q) (n:=⟨num,par,nm,none⟩) gnum mpar ho hnm (.inl rfl),by rw[elen];omega,by rw[length_append,length_singleton];omega⟩)
  ·obtain⟨lf,zs,o6,o7,o8,o9,o10,rfl,A1,B,hlf,hzl⟩:=h;have hzl8:(zs.length:Int)≤m:=by omega
   have hnum:(zs.map tp).map (·.2.1)=(nds zs).map (·.num):=by
    unfold nds;simp only[map_map];rfl
   have hnd:((nds zs).map (·.num)).Nodup:=(nodup_append.mp B.nd).1;refine⟨_,rfl,pn,zs.map tp,rfl,SqL.of (by rw[A1.n,jc]),λz hz=>?_,by rw[hnum];exact hnd,by rw[length_map];omega,λts pm up p hp=>?_⟩
   ·obtain⟨y,hy,rfl⟩:=mem_map.mp hz;exact A1.nd y hy
   ·obtain⟨pm2,eb⟩:=back pm;have er:(ts.map (·.1)).map V.ref=bu (ts.map un):=by rw[←jc,eb]
    rw[er];refine⟨p,_,rfl,.inl ⟨SqL.of ac,λl hl=>?_⟩⟩;have mem:∀z,z∈ts.map un→z∈zs:=λz hz=>pm2.mem_iff.mp hz;refine k l (ts.map un) _ ac ?_ (by rw[pm2.length_eq];exact hzl8) ?_ (λz hz=>B.ok z (mem z hz)) ((A1.same.trans (ae hp)).trans (ae hl))
    ·intro z hz;exact((ae hp).trans (ae hl)) _ _ (A1.nd z (mem z hz))
    ·refine TW.vf B.built (pm2.map _) ?_ hnd B.own;unfold nds;rw[pairwise_map];have up2:((ts.map un).map tp).Pairwise (λa b=>a.2.1<b.2.1):=by rw[eb];exact up
     rw[pairwise_map]at up2;exact up2.imp λh=>Int.le_of_lt h
end
def edS(i:Nat):Stmt:=(bz iP).getD i (.Pass ⟨0,0,0,0⟩)
def EN:List Str:=["_law_script","_law_at","_law_tree_here","_law_numbers","_law_some","_law_number","_law_folders","_law_parent","_law_name","_law_way","_law_stamp","_law_new"]
theorem dX:FnScope EN ["_law_script","_law_at","_law_tree_here"] (am iP):=fsc
abbrev EX(P:Program)(w:World)(K:PySem.W.Frag)(mg:Str→Option Value)(base:Heap)(f:Addr)(cdv:Value)(A:Around)(outer:List Env)(s:Shared)(H:Hp)(E:XK):Cx:=(gQ CX0 P w K mg base EN "_law_deed" (am iP) f cdv A outer s H E).nox
def edσ(a t:Addr)(at':Int)(x3 x4 x5 x6 x7 x8 x9 x10 x11:Option V):St:=[some (.ref a),some (.int at'),some (.ref t),x3,x4,x5,x6,x7,x8,x9,x10,x11]
section
variable{P:Program}{w:World}{K:PySem.W.Frag}{mg:Str→Option Value}{base:Heap}{f:Addr}{cdv:Value}{A:Around}{outer:List Env}{s:Shared}{H0:Hp}{E:XK}
theorem ed0:∃t,PS (EX P w K mg base f cdv A outer s H0 E) (edS 0) t∧∀(D:Ends)(H:Hp)(a t':Addr)(at':Int)(zs:ZN),Tre H t' zs →
   (∀p H',Same H H'→H' p=some (.lst (((nds zs).map (·.num)).map V.int))→D.nx (edσ a t' at' (some (.ref p)) none none none none none none none none) H')→t D (edσ a t' at' none none none none none none none none none) H:=by
 refine⟨_,sX (ii:=3) (N:=["_law_node"]) (cl:=[]) (k:=1) (js:=[]) (g:=cw 0) dX.nd rfl (Or.inl rfl) rfl (fq rfl (by decide +kernel) (by decide +kernel) (by decide +kernel)) rfl (λi j x h=>by simp at h)
  (eO (pv 2)) (λs H fp=>aQ (i:=0) (show(["_law_node"]:List Str).Nodup by decide +kernel) rfl (Or.inl rfl) (Or.inr rfl)) (λs H fp=>aB (r:=iT K) aA (pv 0) ak (λ_ _=>rfl)),?_⟩
 intro D H a t' at' zs tr q;have hl:=tr.len;refine⟨_,rfl,t',rfl,⟨_,SqT.of tr.tup⟩,λp hp=>?_⟩;refine gl (fr:=[]) zs (λz=>V.ref z.1) (by omega) hp (ib (by rw[cz];exact SqT.of tr.tup)) rfl (λz y _=>y=.int z.2.num) (λz y H H' h _=>h) (λz H' k mz s1 _ hk=>⟨_,rfl,z.1,_,_,_,rfl,rfl,SqT.of (s1 _ _ (tr.nod z mz)),at0 z.2,hk _ H' (Same.refl _) rfl⟩) (λys H' s1 hp' hys=>?_);have ey:=cS (f:=λz:Addr×Nd=>V.int z.2.num) hys (λz y _ h=>h);refine q p H' s1 ?_;rw[hp',ey];unfold nds;rw[map_map,map_map];rfl
theorem ed1:∃t,PS (EX P w K mg base f cdv A outer s H0 E) (edS 1) t∧∀(D:Ends)(H:Hp)(a t' p:Addr)(at':Int)(ns:List Int),H p=some (.lst (ns.map V.int))→ns.length≤60 →
   (∀q H',Same H H'→H' q=some (.lst ((ns++ns++ns++[55]).map V.int))→D.nx (edσ a t' at' (some (.ref p)) (some (.ref q)) none none none none none none none) H')→t D (edσ a t' at' (some (.ref p)) none none none none none none none none) H:=by
 refine⟨_,aJ (i:=4) dX.nd rfl (Or.inl rfl) (aI cZ (aI cZ (aI cZ (pv 3) (pv 3)) (pv 3)) (ba (aa ak af))),?_⟩;intro D H a t' p at' ns hp hl q;refine⟨_,rfl,_,rfl,p,p,_,_,rfl,rfl,hp,hp,aq (by rw[length_map];omega),λp1 h1=>?_⟩;have s1:=ae (o:=.lst (ns.map V.int++ns.map V.int)) h1;refine⟨_,rfl,p1,p,_,_,rfl,rfl,ac,s1 _ _ hp,aq (by rw[length_append,length_map];omega),λp2 h2=>?_⟩;have s2:=s1.trans (ae (o:=.lst (ns.map V.int++ns.map V.int++ns.map V.int)) h2);refine⟨aq (show 1≤1000 by decide),λp3 h3=>?_⟩;have s3:=s2.trans (ae (o:=.lst [.int 55]) h3);refine⟨p2,p3,_,_,rfl,rfl,bf h3 ac,ac,aq (by rw[length_append,length_append,length_map];show _+1≤1000;omega),λp4 h4=>?_⟩;refine q p4 _ (s3.trans (ae h4)) ?_;rw[ac];simp only[map_append,map_cons,map_nil]
theorem ed3:∃t,PS (EX P w K mg base f cdv A outer s H0 E) (edS 3) t∧∀(D:Ends)(H:Hp)(a t':Addr)(at':Int)(zs:ZN)(x3 x4 x5:Option V),Tre H t' zs →
   (∀p H' (fs:List Int),Same H H'→H' p=some (.lst (fs.map V.int))→(∀x∈fs,x=0∨∃m∈nds zs,m.num=x)→1≤fs.length→fs.length≤31→D.nx (edσ a t' at' x3 x4 x5 (some (.ref p)) none none none none none) H')→t D (edσ a t' at' x3 x4 x5 none none none none none none) H:=by
 refine⟨_,aJ (i:=6) dX.nd rfl (Or.inl rfl) (aI cZ (lG (N:=["_law_node"]) (cl:=[]) (k:=1) (js:=[]) (g:=cw 0) rfl (fq rfl (by decide +kernel) (by decide +kernel) (by decide +kernel)) rfl (λi j x h=>by simp at h)
  (eO (pv 2)) (λs H fp=>aQ (i:=0) (show(["_law_node"]:List Str).Nodup by decide +kernel) rfl (Or.inl rfl) (Or.inr rfl)) (λs H fp=>au jk (aB (r:=iT K) aA (pv 0) ak (λ_ _=>rfl)) dz (aD _)) (λs H fp=>aB (r:=iT K) aA (pv 0) ak (λ_ _=>rfl))) (ba (aa ak af))),?_⟩
 intro D H a t' at' zs x3 x4 x5 tr q;have hl:=tr.len;refine⟨_,rfl,t',rfl,⟨_,SqT.of tr.tup⟩,λp hp=>?_⟩;refine lM (fr:=[]) zs (λz=>V.ref z.1) (by omega) hp (ib (by rw[cz];exact SqT.of tr.tup)) rfl (λz=>decide (stV z.2.st=V.non)) (λz y _=>y=.int z.2.num) (λz y H H' h _=>h) (λz H' k mz s1 _ hk=>⟨_,rfl,z.1,_,_,_,rfl,rfl,SqT.of (s1 _ _ (tr.nod z mz)),at3 z.2,rfl,_,rfl,hk H' (Same.refl _)⟩)
  (λz H' k mz _ s1 _ hk=>⟨_,rfl,z.1,_,_,_,rfl,rfl,SqT.of (s1 _ _ (tr.nod z mz)),at0 z.2,hk _ H' (Same.refl _) rfl⟩) (λys H' s1 hp' hys=>?_)
 have ey:=cS (f:=λz:Addr×Nd=>V.int z.2.num) hys (λz y _ h=>h);have hfl:=length_filter_le (λz:Addr×Nd=>decide (stV z.2.st=V.non)) zs;have ey2:ys=((zs.filter λz:Addr×Nd=>decide (stV z.2.st=V.non)).map λz=>z.2.num).map V.int:=by rw[ey,map_map];rfl
 refine⟨aq (show 1≤1000 by decide),λp2 h2=>?_⟩;refine⟨p,p2,_,_,rfl,rfl,bf h2 hp',ac,aq (by rw[ey,length_map];show _+1≤1000;omega),λp3 h3=>?_⟩;refine q p3 _ (((zs.filter λz:Addr×Nd=>decide (stV z.2.st=V.non)).map λz=>z.2.num)++[0]) ((s1.trans (ae h2)).trans (ae h3)) ?_ (λx hx=>?_) (by simp) (by rw[length_append,length_map];simp;omega)
 ·rw[ac,ey2,map_append];rfl
 ·rcases mem_append.mp hx with h|h
  ·obtain⟨z,hz,rfl⟩:=mem_map.mp h;exact .inr ⟨z.2,ck (mem_filter.mp hz).1,rfl⟩
  ·exact .inl (by simpa using h)
end
def yc:List Stmt:=match edS 7 with
 |.If _ a _ _=>a
 |_=>[]
theorem ug{j:Int}(h0:0≤j)(h1:j<6):∃st,atI [V.non,.non,.int 0,.int 1,.int 2,.int 3] j=some (stV st)∧xj st:=by
 have hj:j=0∨j=1∨j=2∨j=3∨j=4∨j=5:=by omega
 rcases hj with rfl|rfl|rfl|rfl|rfl|rfl
 ·exact⟨none,rfl,λi e=>by cases e⟩
 ·exact⟨none,rfl,λi e=>by cases e⟩
 ·exact⟨some 0,rfl,λi e=>by cases e;decide⟩
 ·exact⟨some 1,rfl,λi e=>by cases e;decide⟩
 ·exact⟨some 2,rfl,λi e=>by cases e;decide⟩
 ·exact⟨some 3,rfl,λi e=>by cases e;decide⟩
theorem uh{j:Int}(h0:0≤j)(h1:j<4):∃i,atI [V.int 0,.int 1,.int 2,.int 998] j=some (.int i)∧0≤i∧i≤999:=by
 have hj:j=0∨j=1∨j=2∨j=3:=by omega
 rcases hj with rfl|rfl|rfl|rfl
 ·exact⟨0,rfl,by decide,by decide⟩
 ·exact⟨1,rfl,by decide,by decide⟩
 ·exact⟨2,rfl,by decide,by decide⟩
 ·exact⟨998,rfl,by decide,by decide⟩
theorem ui{j x y:Int}(h0:0≤j)(h1:j<5):∃z,atI [V.int x,.int y] (j / 4)=some (.int z)∧(z=x∨z=y):=by
 have hj:j / 4=0∨j / 4=1:=by omega
 rcases hj with e|e
 ·rw[e];exact⟨x,rfl,.inl rfl⟩
 ·rw[e];exact⟨y,rfl,.inr rfl⟩
section
variable{P:Program}{w:World}{K:PySem.W.Frag}{mg:Str→Option Value}{base:Heap}{f:Addr}{cdv:Value}{A:Around}{outer:List Env}{s:Shared}{H0:Hp}{E:XK}
theorem edM(hr:Room 2 (A.deeper (PyProof.Rows.envOfC "_law_deed" (am iP) s.heap.objs.size f cdv)))(CP:Has P w K mg base 2 "_law_pick" ["_law_script","_law_k","_law_many"] (dW K)):
  ∃t,PSs (EX P w K mg base f cdv A outer s H0 E) yc t∧∀(D:Ends)(H:Hp)(a t':Addr)(at' n p:Int)(nm:Str)(x3 x4 x6 x9:Option V),di K H a→0≤at'→1≤n→n≤60→0≤p→p≤60→nE nm →
   (∀c dd H',Same H H'→H' c=some (.tup (aS dd))→bR dd→D.rt (.ref c) H')→t D (edσ a t' at' x3 x4 (some (.int n)) x6 (some (.int p)) (some (.str nm)) x9 none none) H:=by
 obtain⟨fP,fdP,GP,mP,kP,bP⟩:=CP;refine⟨_,ai (aJ (i:=10) dX.nd rfl (Or.inl rfl) (aB bx (ba (aa dz (aa dz (aa ak (aa ak (aa ak (aa ak af))))))) (ar GP hr rfl mP kP bP .nil aK (aa (pv 0) (aa (aI bb (pv 1) ak) (aa ak af)))) (λ_ _=>rfl)))
  (ai (aJ (i:=11) dX.nd rfl (Or.inl rfl) (aB bx (ba (aa (aI bb ak (ar GP hr rfl mP kP bP .nil aK (aa (pv 0) (aa (aI bb (pv 1) ak) (aa ak af))))) (aa (pv 5) af))) (aI pH (ar GP hr rfl mP kP bP .nil aK (aa (pv 0) (aa (aI bb (pv 1) ak) (aa ak af)))) ak) (λ_ _=>rfl)))
  (ao (ax (aP (aa aC (aa (pv 11) (aa (pv 7) (aa (pv 8) (aa (pv 10) af))))))))),?_⟩
 intro D H a t' at' n p nm x3 x4 x6 x9 hS hat hn1 hn2 hp1 hp2 hnm q;refine⟨aq (show 6≤1000 by decide),λl1 hl1=>?_⟩;have s1:=ae (o:=.lst [.non,.non,.int 0,.int 1,.int 2,.int 3]) hl1;refine⟨_,rfl,_,rfl,_,_,rfl,rfl,a,_,_,rfl,by omega,by decide,hS.same s1,λj1 H1 j10 j11 s2=>?_⟩;obtain⟨st,est,hst⟩:=ug j10 j11;refine⟨l1,_,_,_,rfl,rfl,SqL.of (s2 _ _ ac),est,?_⟩;have s12:=s1.trans s2;refine⟨_,rfl,_,rfl,_,_,rfl,rfl,a,_,_,rfl,by omega,by decide,hS.same s12,λj2 H2 j20 j21 s3=>?_⟩;refine⟨_,_,rfl,rfl,_,rfl,le2,λl2 hl2=>?_⟩;have s13:=s12.trans s3;have s4:=s13.trans (ae (o:=.lst [.int (1+j2),.int n]) hl2);refine⟨_,rfl,_,rfl,_,_,rfl,rfl,a,_,_,rfl,by omega,by decide,hS.same s4,λj3 H3 j30 j31 s5=>?_⟩;obtain⟨nw,enw,hnw⟩:=ui (x:=1+j2) (y:=n) j30 j31;refine⟨_,_,rfl,rfl,⟨by decide,by decide⟩,l2,_,_,_,rfl,rfl,SqL.of (s5 _ _ ac),enw,?_⟩;refine⟨_,rfl,_,rfl,_,rfl,_,rfl,(show 5≤sizeLine from aq (by decide)),λc hc=>?_⟩;refine q c (.make nw p nm st) _ ((s4.trans s5).trans (ae hc)) ac ⟨?_,?_,hp1,hp2,hnm,hst⟩
 ·rcases hnw with e|e<;>omega
 ·rcases hnw with e|e<;>omega
theorem ed7(hr:Room 2 (A.deeper (PyProof.Rows.envOfC "_law_deed" (am iP) s.heap.objs.size f cdv)))(CP:Has P w K mg base 2 "_law_pick" ["_law_script","_law_k","_law_many"] (dW K)):
  ∃t,PS (EX P w K mg base f cdv A outer s H0 E) (edS 7) t∧∀(D:Ends)(H:Hp)(a t' pn:Addr)(at' n p wy:Int)(nm:Str)(ns:List Int)(x4 x6:Option V),di K H a→0≤at'→1≤n→n≤60→0≤p→p≤60→nE nm→H pn=some (.lst (ns.map V.int)) →
   (∀c dd H',Same H H'→H' c=some (.tup (aS dd))→bR dd→D.rt (.ref c) H')→(∀H',Same H H'→D.nx (edσ a t' at' (some (.ref pn)) x4 (some (.int n)) x6 (some (.int p)) (some (.str nm)) (some (.int wy)) none none) H') →
   t D (edσ a t' at' (some (.ref pn)) x4 (some (.int n)) x6 (some (.int p)) (some (.str nm)) (some (.int wy)) none none) H:=by
 obtain⟨tM,pM,hM⟩:=edM (f:=f) (cdv:=cdv) (outer:=outer) (H0:=H0) (E:=E) hr CP;refine⟨_,aX (PW.pt (pw_or (au sj (pv 9) ak (aD _)) (pw_or1 (au (jw hr.units0) (pv 3) (ba af) (aD _))))) pM aE,?_⟩;intro D H a t' pn at' n p wy nm ns x4 x6 hS hat hn1 hn2 hp1 hp2 hnm hpn q qn;refine⟨_,rfl,_,_,rfl,rfl,_,rfl,?_⟩;refine sH (λhlt=>?_) (λhlt=>?_)
 ·exact be (hM D H a t' at' n p nm _ _ _ _ hS hat hn1 hn2 hp1 hp2 hnm q)
 ·refine⟨_,rfl,zero_le _,λl hl=>?_⟩;have s1:=ae (o:=.lst []) hl;refine⟨pn,l,_,rfl,rfl,SqL.of (s1 _ _ hpn),SqL.of ac,_,rfl,?_⟩;refine sH (λ_=>?_) (λ_=>?_)
  ·exact hM D _ a t' at' n p nm _ _ _ _ (hS.same s1) hat hn1 hn2 hp1 hp2 hnm λc dd H' s'=>q c dd H' (s1.trans s')
  ·exact qn _ s1
theorem ed8(hr:Room 2 (A.deeper (PyProof.Rows.envOfC "_law_deed" (am iP) s.heap.objs.size f cdv)))(CP:Has P w K mg base 2 "_law_pick" ["_law_script","_law_k","_law_many"] (dW K)):
  ∃t,PSs (EX P w K mg base f cdv A outer s H0 E) [edS 8,edS 9,edS 10] t∧∀(D:Ends)(H:Hp)(a t':Addr)(at' n p wy:Int)(nm:Str)(x3 x4 x6:Option V),di K H a→0≤at'→1≤n→n≤60→0≤p→p≤60→nE nm →
   (∀c dd H',Same H H'→H' c=some (.tup (aS dd))→bR dd→D.rt (.ref c) H') →
   t D (edσ a t' at' x3 x4 (some (.int n)) x6 (some (.int p)) (some (.str nm)) (some (.int wy)) none none) H:=by
 obtain⟨fP,fdP,GP,mP,kP,bP⟩:=CP;refine⟨_,ai (aX (au cD (pv 9) ak (aD _)) (ao (ax (aP (aa aC (aa (pv 5) (aa (aB bx (ba (aa ak (aa ak (aa ak (aa ak af))))) (ar GP hr rfl mP kP bP .nil aK (aa (pv 0) (aa (aI bb (pv 1) ak) (aa ak af)))) (λ_ _=>rfl)) af)))))) aE)
  (ai (aX (au sj (pv 9) ak (aD _)) (ao (ax (aP (aa aC (aa (pv 5) (aa (pv 7) (aa (pv 8) af))))))) aE)
  (ao (ax (aP (aa aC (aa (pv 5) af)))))),?_⟩
 intro D H a t' at' n p wy nm x3 x4 x6 hS hat hn1 hn2 hp1 hp2 hnm q;refine⟨_,rfl,rfl,_,rfl,?_⟩;refine sH (λ_=>?_) (λ_=>?_)
 ·refine⟨_,rfl,aq (show 4≤1000 by decide),λl1 hl1=>?_⟩;have s1:=ae (o:=.lst [.int 0,.int 1,.int 2,.int 998]) hl1;refine⟨_,rfl,_,rfl,_,_,rfl,rfl,a,_,_,rfl,by omega,by decide,hS.same s1,λj1 H1 j10 j11 s2=>?_⟩;obtain⟨i,ei,hi1,hi2⟩:=uh j10 j11;refine⟨l1,_,_,_,rfl,rfl,SqL.of (s2 _ _ ac),ei,(show 3≤sizeLine from aq (by decide)),λc hc=>?_⟩;exact q c (.write n i) _ ((s1.trans s2).trans (ae hc)) ac ⟨hn1,hn2,hi1,hi2⟩
 ·refine⟨_,rfl,_,_,rfl,rfl,_,rfl,?_⟩;refine sH (λ_=>?_) (λ_=>?_)
  ·exact⟨_,rfl,_,rfl,_,rfl,(show 4≤sizeLine from aq (by decide)),λc hc=>q c (.move n p nm) _ (ae hc) ac ⟨hn1,hn2,hp1,hp2,hnm⟩⟩
  ·exact⟨_,rfl,(show 2≤sizeLine from le2),λc hc=>q c (.drop n) _ (ae hc) ac ⟨hn1,hn2⟩⟩
def pk(K:PySem.W.Frag):Sp:=λvs H Q _=>∃a at' t zs,vs=[.ref a,.int at',.ref t]∧0≤at'∧di K H a∧Tre H t zs∧(∀n∈nds zs,ik n)∧∀c dd H',Same H H'→H' c=some (.tup (aS dd))→bR dd→Q (.ref c) H'
theorem vO{f:Addr}{fd:FuncData}(F:Fun K "_law_deed" "_law_deed" iP f fd)(T:Txt mg)(CP:Has P w K mg base 2 "_law_pick" ["_law_script","_law_k","_law_many"] (dW K)):FnOk P w K mg base CX0 3 f fd ["_law_script","_law_at","_law_tree_here"] (pk K):=by
 obtain⟨fP,fdP,GP,mP,kP,bP⟩:=id CP;refine F.ok dX (λvs H Q E h=>?_) (λcdv A outer s H vs Q E hr h=>?_)
 ·obtain⟨a,at',t,zs,rfl,_⟩:=h;rfl
 ·obtain⟨a,at',t,zs,rfl,hat,hS,tr,hok,q⟩:=h;obtain⟨t0,p0,h0⟩:=ed0 (P:=P) (w:=w) (K:=K) (mg:=mg) (base:=base) (f:=f) (cdv:=cdv) (A:=A) (outer:=outer) (s:=s) (H0:=H) (E:=E);obtain⟨t1,p1,h1⟩:=ed1 (P:=P) (w:=w) (K:=K) (mg:=mg) (base:=base) (f:=f) (cdv:=cdv) (A:=A) (outer:=outer) (s:=s) (H0:=H) (E:=E);obtain⟨t3,p3,h3⟩:=ed3 (P:=P) (w:=w) (K:=K) (mg:=mg) (base:=base) (f:=f) (cdv:=cdv) (A:=A) (outer:=outer) (s:=s) (H0:=H) (E:=E);obtain⟨t7,p7,h7⟩:=ed7 (f:=f) (cdv:=cdv) (outer:=outer) (H0:=H) (E:=E) hr CP;obtain⟨t8,p8,h8⟩:=ed8 (f:=f) (cdv:=cdv) (outer:=outer) (H0:=H) (E:=E) hr CP;refine⟨_,ai p0 (ai p1
   (ai (aJ (i:=5) dX.nd rfl (Or.inl rfl) (aB bx (pv 4) (ar GP hr rfl mP kP bP .nil aK (aa (pv 0) (aa (pv 1) (aa (aF bo rfl T.len boot_len (aa (pv 4) af)) af)))) (λ_ _=>rfl)))
   (ai p3
   (ai (aJ (i:=7) dX.nd rfl (Or.inl rfl) (aB bx (aI cZ (aI cZ (pv 6) (pv 6)) (pv 4)) (ar GP hr rfl mP kP bP .nil aK (aa (pv 0) (aa (aI bb (pv 1) ak) (aa (aI bb (aI cY ak (aF bo rfl T.len boot_len (aa (pv 6) af))) (aF bo rfl T.len boot_len (aa (pv 4) af))) af)))) (λ_ _=>rfl)))
   (ai (aJ (i:=8) dX.nd rfl (Or.inl rfl) (aB bx (ba (aa aC (aa aC (aa aC (aa aC af))))) (ar GP hr rfl mP kP bP .nil aK (aa (pv 0) (aa (aI bb (pv 1) ak) (aa ak af)))) (λ_ _=>rfl)))
   (ai (aJ (i:=9) dX.nd rfl (Or.inl rfl) (ar GP hr rfl mP kP bP .nil aK (aa (pv 0) (aa (aI bb (pv 1) ak) (aa ak af)))))
   (ai p7 p8))))))),?_⟩
  have hl:=tr.len;have hnr:∀x∈(nds zs).map (·.num),1≤x∧x≤60:=λx hx=>by
   obtain⟨n,hn,rfl⟩:=mem_map.mp hx;exact⟨(hok n hn).1,(hok n hn).2.1⟩
  refine h0 _ H a t at' zs tr λpn H1 s1 hpn=>?_;generalize hns:(nds zs).map (·.num)=ns at hpn hnr;have hnl:ns.length=zs.length:=by rw[←hns,length_map,aZ]
  refine h1 _ H1 a t pn at' ns hpn (by omega) λps H2 s2 hps=>?_;have hsr:∀x∈ns++ns++ns++[55],1≤x∧x≤60:=λx hx=>by
   rcases mem_append.mp hx with h|h
   ·rcases mem_append.mp h with h|h
    ·rcases mem_append.mp h with h|h<;>exact hnr x h
    ·exact hnr x h
   ·have:x=55:=by simpa using h
    omega
  have hsl:(ns++ns++ns++[55]).length≤100∧1≤(ns++ns++ns++[55]).length:=by simp;omega
  generalize ns++ns++ns++[55]=ss at hps hsr hsl⊢;have s12:=s1.trans s2;refine⟨_,rfl,_,rfl,_,rfl,_,rfl,ps,_,rfl,.inl (SqL.of hps),a,at',_,rfl,hat,by rw[length_map];omega,hS.same s12,λj H3 j0 j1 s3=>?_⟩;rw[length_map]at j1;obtain⟨n,en,hn1,hn2⟩:=qj j0 j1 hsr;refine⟨ps,_,_,_,rfl,rfl,SqL.of (s3 _ _ hps),en,?_⟩;have s13:=s12.trans s3;refine h3 _ H3 a t at' zs _ _ _ (tr.same s13) λpf H4 fs s4 hpf hfs hf1 hf2=>?_;have s14:=s13.trans s4;have hps4:=s4 _ _ (s3 _ _ hps);refine⟨_,rfl,_,rfl,pf,pf,_,_,rfl,rfl,hpf,hpf,aq (by rw[length_map];omega),λl1 hl1=>?_⟩;have u1:=ae (o:=.lst (fs.map V.int++fs.map V.int)) hl1;refine⟨_,rfl,l1,ps,_,_,rfl,rfl,ac,u1 _ _ hps4,aq (by rw[length_append,length_map,length_map];omega),λl2 hl2=>?_⟩;have u2:=u1.trans (ae (o:=.lst (fs.map V.int++fs.map V.int++ss.map V.int)) hl2);have hl2':upd (upd H4 l1 (.lst (fs.map V.int++fs.map V.int))) l2 (.lst (fs.map V.int++fs.map V.int++ss.map V.int)) l2=some (.lst ((fs++fs++ss).map V.int)):=by rw[ac];simp only[map_append]
  generalize upd (upd H4 l1 (.lst (fs.map V.int++fs.map V.int))) l2 (.lst (fs.map V.int++fs.map V.int++ss.map V.int))=H5 at u2 hl2'⊢;have s15:=s14.trans u2;refine⟨_,rfl,_,rfl,_,_,rfl,rfl,_,rfl,pf,_,rfl,.inl (SqL.of (u2 _ _ hpf)),_,_,rfl,rfl,.inl ⟨by decide,by decide⟩,_,rfl,ps,_,rfl,.inl (SqL.of (u2 _ _ hps4)),_,_,rfl,rfl,a,_,_,rfl,by omega,by rw[length_map,length_map];omega,hS.same s15,λj2 H6 j20 j21 s6=>?_⟩;rw[length_map,length_map]at j21;obtain⟨p,ep,hp1,hp2⟩:=qj (ns:=fs++fs++ss) (P:=λx=>0≤x∧x≤60) j20 (by rw[length_append,length_append];omega) (λx hx=>by
   have hf:∀x∈fs,0≤x∧x≤60:=λx hx=>by
    rcases hfs x hx with e|⟨m,hm,e⟩
    ·omega
    ·have:=hok m hm;have h1:=this.1;have h2:=this.2.1;omega
   rcases mem_append.mp hx with h|h
   ·rcases mem_append.mp h with h|h<;>exact hf x h
   ·have:=hsr x h;omega)
  refine⟨l2,_,_,_,rfl,rfl,SqL.of (s6 _ _ hl2'),ep,?_⟩;have s16:=s15.trans s6;refine⟨aq (show 4≤1000 by decide),λl3 hl3=>?_⟩;have s17:=s16.trans (ae (o:=.lst [.str "a",.str "b",.str "c",.str "abcde"]) hl3);refine⟨_,rfl,_,rfl,_,_,rfl,rfl,a,_,_,rfl,by omega,by decide,hS.same s17,λj3 H7 j30 j31 s7=>?_⟩;obtain⟨nm,hnm,gnm⟩:=qf j30 j31;refine⟨l3,_,_,_,rfl,rfl,SqL.of (s7 _ _ ac),gnm,?_⟩;have s18:=s17.trans s7;refine⟨_,rfl,_,rfl,_,_,rfl,rfl,a,_,_,rfl,by omega,by decide,hS.same s18,λwy H8 _ _ s8=>?_⟩;have s19:=s18.trans s8;have s29:Same H1 H8:=((((s2.trans s3).trans s4).trans u2).trans s6).trans ((ae hl3).trans (s7.trans s8));refine h7 _ H8 a t pn at' n p wy nm ns _ _ (hS.same s19) hat hn1 hn2 hp1 hp2 hnm (s29 _ _ hpn) (λc dd H' s'=>q c dd H' (s19.trans s')) λH9 s9=>?_;exact h8 _ H9 a t at' n p wy nm _ _ _ (hS.same (s19.trans s9)) hat hn1 hn2 hp1 hp2 hnm λc dd H' s'=>q c dd H' ((s19.trans s9).trans s')
end
def cO:List Str:=["a","one","two","Bad"]
section
variable{P:Program}{w:World}{K:PySem.W.Frag}{mg:Str→Option Value}{base:Heap}
def dY(K:PySem.W.Frag):Sp:=λvs H Q _=>∃a at' t zs,vs=[.ref a,.int at',.ref t]∧0≤at'∧di K H a∧Tre H t zs∧(∀n∈nds zs,ik n) ∧
 (∀x sa H',x∈cO→Same H H'→fX H' sa x→Q (.ref sa) H')∧∀sa dd H',Same H H'→H' sa=some (.tup (aS dd))→bR dd→Q (.ref sa) H'
theorem yd:FnScope ["_law_script","_law_at","_law_tree_here"] ["_law_script","_law_at","_law_tree_here"] (am gL):=fsc
theorem vP{f:Addr}{fd:FuncData}(F:Fun K "_law_step" "_law_step" gL f fd)(CP:Has P w K mg base 2 "_law_pick" ["_law_script","_law_k","_law_many"] (dW K))(CD:Has P w K mg base 3 "_law_deed" ["_law_script","_law_at","_law_tree_here"] (pk K)):FnOk P w K mg base CX0 4 f fd ["_law_script","_law_at","_law_tree_here"] (dY K):=by
 obtain⟨fP,fdP,GP,mP,kP,bP⟩:=CP;obtain⟨fD,fdD,GD,mD,kD,bD⟩:=CD;refine F.ok yd (λvs H Q E h=>?_) (λcdv A outer s H vs Q E hr h=>?_)
 ·obtain⟨a,at',t,zs,rfl,_⟩:=h;rfl
 ·obtain⟨a,at',t,zs,rfl,h0,hS,tr,ok,qt,qd⟩:=h;have hr2:Room 2 _:=hr.mono (by decide);refine⟨_,ai (aX (au cD (ar GP hr2 rfl mP kP bP .nil aK (aa (pv 0) (aa (aI bb (pv 1) ak) (aa ak af)))) ak (aD _))
    (ao (ax (aP (aa aC (aa (aB bx (ba (aa aC (aa aC (aa aC (aa aC af))))) (ar GP hr2 rfl mP kP bP .nil aK (aa (pv 0) (aa (pv 1) (aa ak af)))) (λ_ _=>rfl)) af))))) aE)
   (ao (ax (ar GD hr rfl mD kD bD .nil aK (aa (pv 0) (aa (pv 1) (aa (pv 2) af)))))),?_⟩
  refine⟨_,rfl,_,rfl,_,_,rfl,rfl,a,_,_,rfl,by omega,by decide,hS,λr H1 r0 r1 s1=>⟨rfl,_,rfl,?_⟩⟩
  by_cases e:r=0
  ·rw[decide_eq_true (by rw[e])];refine be ⟨aq (show 4≤1000 by decide),λl hl=>?_⟩;have s2:=ae (o:=.lst [.str "a",.str "one",.str "two",.str "Bad"]) hl;have g2:upd H1 l (.lst [.str "a",.str "one",.str "two",.str "Bad"]) l=some (.lst (cO.map V.str)):=ac;generalize upd H1 l (.lst [.str "a",.str "one",.str "two",.str "Bad"])=H2 at s2 g2⊢;refine⟨_,rfl,_,rfl,a,_,_,rfl,h0,by decide,(hS.same s1).same s2,λi H3 i0 i1 s3=>?_⟩;obtain⟨j,rfl⟩:∃j:Nat,i=j:=⟨i.toNat,by omega⟩;have hj:j<cO.length:=by show j<4;omega
   refine⟨l,_,_,_,rfl,rfl,SqL.of (s3 _ _ g2),gU (v:=.str (cO[j])) (by rw[getElem?_map,getElem?_eq_getElem hj];rfl),le2,λsa hsa=>?_⟩;exact qt _ sa _ (getElem_mem hj) (s1.trans (s2.trans (s3.trans (ae hsa)))) ac
  ·rw[decide_eq_false (by intro h;exact e (by injection h))];refine aM ⟨_,rfl,_,rfl,_,rfl,a,at',t,zs,rfl,h0,hS.same s1,tr.same s1,ok,λc dd H2 s2 hc hd=>?_⟩;exact qd c dd H2 (s1.trans s2) hc hd
end
end TK
namespace L2
open PySem PySem.Spec PyProof.Rows
structure RoomM(k:Nat)(A:Around):Prop where
 dp:A.depth+3*k+5<recursionLimit
 un:A.units+16*k+200<cLine
theorem RoomM.mono{j k:Nat}{A:Around}(r:RoomM k A)(h:j≤k):RoomM j A:=⟨by have:=r.dp;omega,by have:=r.un;omega⟩
theorem RoomM.deeper{k:Nat}{A:Around}(r:RoomM (k+1) A)(env:Env):RoomM k (A.deeper env) :=
 ⟨by have:=r.dp;show A.depth+1+3*k+5<_;omega,by have:=r.un;show A.units+3+16*k+200<_;omega⟩
theorem RoomM.depth{k:Nat}{A:Around}(r:RoomM k A):A.depth<recursionLimit:=by have:=r.dp;omega
structure FnOkM(P:Program)(w:World)(K:PySem.W.Frag)(mg:Str→Option Value)(base:Heap)(CX:CXT)(k:Nat)(f:Addr)(fd:FuncData)(ps:List Str)(sp:Sp):Prop where
 len:∀vs H Q E,sp vs H Q E→vs.length=ps.length
 run:∀(A:Around)(outer:List Env)(s:Shared)(H:Hp)(args:Args)(us:List Value)(vs:List V)(Q:VK)(E:XK),RoomM k A→Env0 P w K mg base A outer s H→BindsTo s fd args (ps.zip us)→aH vs us→sp vs H Q E →
  codeAny (model P w) A (.call (.ref f) args) (CR CX outer P w H s Q E) s
abbrev lp(CX:CXT)(P:Program)(w:World)(K:PySem.W.Frag)(mg:Str→Option Value)(base:Heap)(N:List Str)(qual:Str)(scope:Scope)(f:Addr)(cd:Value)(A:Around)(outer:List Env)(s:Shared)(H:Hp)(E:XK):Cx:={gQ CX P w K mg base N qual scope f cd A outer s H E with calm:=false}
theorem pq{CX:CXT}{P:Program}{w:World}{K:PySem.W.Frag}{mg:Str→Option Value}{base:Heap}{N ps:List Str}{qual:Str}{scope:Scope}{f:Addr}{cd:Value}{A:Around}{outer:List Env}{s s1:Shared}{H:Hp}{E:XK}{us:List Value}{vs:List V}(S:FnScope N ps scope)(e0:Env0 P w K mg base A outer s H)(hl:vs.length=ps.length)(r:aH vs us)(x:InCallC s s.heap.objs.size (bindL (envOfC qual scope s.heap.objs.size f cd).kindOf (ps.zip us) λ_=>none) (cellsFrom (s.heap.objs.size+1) scope.names []) (bindC (envOfC qual scope s.heap.objs.size f cd).kindOf (ps.zip us) λ_=>none) s1):
  Inv (lp CX P w K mg base N qual scope f cd A outer s H E) [] (start N vs) H s1:=by
 have hpl:ps.length≤N.length:=by have:=congrArg length S.pre;rw[length_take]at this;omega
 obtain⟨h1,tk,rfl,hk⟩:=x.done;have noA:∀b:Addr,b∉(lp CX P w K mg base N qual scope f cd A outer s H E).ex:=λb z=>absurd (show b∈([]:List Addr)from z) (by simp);refine⟨⟨e0.mod,S.kind,rfl,rfl,le_refl _,λy z c h1 h2=>?_,λy hy=>?_,λy c _ h=>?_,λh=>absurd (show false=true from h) (by decide),Around.frames_deeper e0.frames,.inr ⟨rfl,rfl⟩,λb z=>absurd z (noA b),e0.bs,e0.bsz,λb _ _=>noA b,λb z=>absurd z (noA b),e0.funs,e0.frf⟩,
  rfl,e0.bare,Un.kept hk,⟨_,x.toInCall.ns,λi y v h1 h2 h3=>?_⟩,λy c h=>⟨_,x.cell y c h⟩,e0.hok.fresh (le_refl _),λy c h=>?_,λp hp=>absurd (show p∈([]:List (Addr×Obj))from hp) (by simp),e0.hok.kept hk,?_⟩
 ·exact name_of_addr x.apart (PySem.mem_of_lookup h1) (PySem.mem_of_lookup h2)
 ·have hy:scope.names.lookup y=some .cell∨scope.names.lookup y=some .free:=hy;rcases hy with hy|hy
  ·exact gR hy
  ·exact absurd rfl (S.nofree _ (PySem.mem_of_lookup hy))
 ·exact le_of_lt (x.above y c (PySem.mem_of_lookup h))
 ·have hi:i<vs.length:=by
   unfold start at h2
   by_cases hi:i<vs.length
   ·exact hi
   ·rw[getElem?_append_right (by simpa using hi)]at h2;rw[List.getElem?_replicate]at h2
    split at h2<;>cases h2
  have ha:vs[i]?=some v:=by
   unfold start at h2;rw[getElem?_append_left (by simpa using hi),getElem?_map]at h2;cases e:vs[i]? with
   |none=>rw[e]at h2;cases h2
   |some a=>rw[e]at h2;cases h2;rfl
  obtain⟨u,hu,rv⟩:=r.get ha;have hp:ps[i]?=some y:=by
   rw[←S.pre,List.getElem?_take_of_lt (by omega)];exact h1
  have ndP:ps.Nodup:=by rw[←S.pre];exact S.nd.sublist (take_sublist _ _)
  refine⟨u,rv,?_⟩;rcases S.par y (mem_of_getElem? hp)with k|k
  ·exact .inl ⟨k,iw ndP hp hu k⟩
  ·obtain⟨c,e⟩:=gR (n:=s.heap.objs.size+1) k;refine .inr ⟨.inl k,c,e,?_⟩;have q:=x.cell y c e;rw[ix ndP hp hu (by show scope.names.lookup y≠_;rw[k];decide)]at q;exact q
 ·exact e0.hok.fresh (le_of_lt (x.above y c (PySem.mem_of_lookup h)))
 ·unfold start;show _=N.length;rw[length_append,length_map,length_replicate];omega
theorem ye{CX:CXT}{P:Program}{w:World}{K:PySem.W.Frag}{mg:Str→Option Value}{base:Heap}{k:Nat}{f:Addr}{name qual:Str}{params:Arguments}{body:List Stmt}{scope:Scope}{dV kV doc pm cdv ct oc:Value}{an od:Option Addr}{osl:Array (Option Value)}{N ps:List Str}{sp:Sp}(lk:K.lookup f=some ⟨oc,od,.func (fnOf name qual params body scope dV kV doc pm an cdv ct),osl⟩)(hcd:codeIn K cdv qual=true)(S:FnScope N ps scope)(len:∀vs H Q E,sp vs H Q E→vs.length=ps.length)(hbody:∀(A:Around) (outer:List Env) (s:Shared) (H:Hp) (vs:List V) (Q:VK) (E:XK),RoomM k (A.deeper (envOfC qual scope s.heap.objs.size f cdv))→sp vs H Q E →
   ∃t,PSs (lp CX P w K mg base N qual scope f cdv A outer s H E) body t∧t {nx:=λ_ H'=>Q .non H',rt:=Q} (start N vs) H):
  FnOkM P w K mg base CX (k+1) f (fnOf name qual params body scope dV kV doc pm an cdv ct) ps sp:=by
 refine⟨len,λA outer s H args us vs Q E hr e0 hb r hsp=>?_⟩;have hl:=len _ _ _ _ hsp;have KX:K.In s.heap:=e0.mod.kin.keeps λb o e=>(e0.bs b o e).1;have lim:s.heap.NoLimit:=e0.mod.nolimit.keeps λb o e=>(e0.bs b o e).1;have hkind:∀y∈ps.zip us,scope.names.lookup y.1=some .local∨(scope.names.lookup y.1=some .cell∧((cellsFrom (s.heap.objs.size+1) scope.names []).lookup y.1).isSome=true):=λ⟨n,v⟩ hy=>by
  rcases S.par n (of_mem_zip hy).1 with q|q
  ·exact .inl q
  ·exact .inr ⟨q,cellsFrom_some _ _ _ (.inl q)⟩
 refine codeAny_call_function hr.depth (KX _ _ lk) rfl S.co S.gen rfl (codeRec_of KX hcd) (hb _ _ _ _ ?_);refine wpAny_newFunctionEnv_cells S.kind hkind λenv he s1 x=>?_;subst he;refine⟨lim.keeps x.toInCall.keep,codeAny_func ?_⟩;obtain⟨t,ht,hq⟩:=hbody A outer s H vs Q E (hr.deeper _) hsp;have I:Inv (lp CX P w K mg base N qual scope f cdv A outer s H E) [] (start N vs) H s1:=pq S e0 hl r x;refine wpAny_mono (ht [] s1 (start N vs) H _ I hq) (λfl s' hs=>?_) λe s' hs=>hs;have fin:∀{σ':St}{H':Hp}{v:V}{u:Value},Inv (lp CX P w K mg base N qual scope f cdv A outer s H E) [] σ' H' s'→aO v u→Q v H'→CE outer P w H s Q u s' :=
  λ{σ' H' v u} J rv q=>⟨v,H',J.os,J.bare,J.base,J.hok,rv,q⟩
 cases fl with
 |ret u =>
  obtain⟨v,σ',H',J,rv,q⟩:=hs;exact fin J rv q
 |next =>
  obtain⟨σ',H',J,q⟩:=hs;exact fin (v:=V.non) (u:=Value.none) J rfl q
 |brk =>
  obtain⟨_,_,_,q⟩:=hs;exact False.elim q
 |cont =>
  obtain⟨_,_,_,q⟩:=hs;exact False.elim q
section
variable{X:Cx}{CX:CXT}{k:Nat}{f C:Addr}{fd:FuncData}{ps:List Str}{sp:Sp}{dvs:List V}{ds:List Value}{E:XK}{x m:Str}{p pos apos:Pos}{e o:Expr}{es:List Expr}{ta:TE}{t:TA}
theorem vQ{pins:List (Addr×Obj)}{σ:St}{H:Hp}{s:Shared}{Q:VK}{us:List Value}{vs:List V}(F:FnOkM X.prog X.w X.K X.mg X.base CX k f fd ps sp)(hr:RoomM k X.A)(hb:aG X.K fd ps ds)(hd:aH dvs ds)(hx:cG CX X E)(I:Inv X pins σ H s)(r:aH vs us)(h:sp (vs++dvs) H Q E):wpAny (model X.prog X.w) X.A (call (.ref f) us) (EP X pins σ Q) X.xe s:=by
 have r2:aH (vs++dvs) (us++ds):=r.append hd;have hl:(us++ds).length=ps.length:=by rw[←r2.length];exact F.len _ _ _ _ h
 refine wpAny_call (codeAny_mono (F.run X.A X.stack s H ⟨us,[]⟩ (us++ds) (vs++dvs) Q E hr I.env0 (hb s us I.kIn hl) r2 h) λr s' hq=>?_);cases r with
 |error e=>exact hx pins σ H s e s' I hq
 |ok fl =>
  cases fl with
  |ret u=>exact I.after hq
  |next=>exact False.elim hq
  |brk=>exact False.elim hq
  |cont=>exact False.elim hq
theorem uk(F:FnOkM X.prog X.w X.K X.mg X.base CX k f fd ps sp)(hr:RoomM k X.A)(hg:Gl X x)(hm:X.mg x=some (.ref f))(hk:keepIn X.K (.ref f)=true)(hb:aG X.K fd ps ds)(hd:aH dvs ds)(hx:cG CX X E)(ha:PA X (e::es) t)(hdb:(x==("__debug__":Str))=false:=by decide)(he:starEach (e::es) X.env=(false,eval e X.env)::starEach es X.env:=by rfl)(hpl:(backTo pos (starEach es X.env)).any (·.1)=false:=by rfl):
  PE X (.Call (.Name x p) (e::es) [] pos) (mn sp dvs E t):=by
 intro pins s σ H Q I h;refine wpAny_Call_Name_kw (gh I hg hm ?_ hdb);refine callWith_K (h₀:=X.base) I.ok.mod.kin hk (thn (ha pos pins s σ H _ I h) λus s1 ⟨vs,H1,I1,r,q⟩=>⟨I1.kIn,?_⟩) he hpl;exact vQ F hr hb hd hx I1 r q
abbrev Cx.hnd(X:Cx)(pl:List (Addr×Obj))(v:Option Value):Cx:={X with pn:=pl,xe:=λ_ _=>False,A:=X.A.mark v,calm:=false}
theorem Inv.hnd{pins:List (Addr×Obj)}{σ:St}{H:Hp}{s:Shared}{v:Option Value}(I:Inv X pins σ H s):Inv (X.hnd (X.pn++pins) v) [] σ H s :=
 ⟨⟨I.ok.mod,I.ok.kind,I.ok.glob,I.ok.blt,I.ok.above,I.ok.inj,I.ok.has,I.ok.cab,λh=>absurd (show false=true from h) (by decide),I.ok.frames,I.ok.stk,I.ok.exf,I.ok.bs,I.ok.bsz,I.ok.noex,I.ok.exfs,I.ok.funs,I.ok.frf⟩,I.os,I.bare,I.base,I.loc,I.cell,I.free,I.freeC,λp hp=>I.pin p (by simpa using hp),I.hok,I.len⟩
theorem Inv.unhnd{pins pins':List (Addr×Obj)}{σ σ0:St}{H H0:Hp}{s s0:Shared}{v:Option Value}(I:Inv (X.hnd (X.pn++pins) v) pins' σ H s)(I0:Inv X pins σ0 H0 s0):Inv X pins σ H s :=
 ⟨I0.ok,I.os,I.bare,I.base,I.loc,I.cell,I.free,I.freeC,λp hp=>I.pin p (mem_append_left _ hp),I.hok,I.len⟩
def wt(D:Ends)(n l:Nat)(T:Addr)(K:PySem.W.Frag)(th:TS):XK:=λcl _ H'=>∃C,cl=.ref C∧subIn K (.ref C) (.ref T)=some true∧∀ea (σ':St),σ'.length=n→H' ea=none →
 th {nx:=λσ2 H2=>D.nx (σ2.set l none) H2,bk:=λσ2 H2=>D.bk (σ2.set l none) H2,ct:=λσ2 H2=>D.ct (σ2.set l none) H2,rt:=D.rt} (σ'.set l (some (.ref ea))) (upd H' ea (.ext (XI.ng ea C)))
def yZ(n l:Nat)(T:Addr)(K:PySem.W.Frag)(tb:XK→TS)(th:TS):TS:=λD σ H=>tb (wt D n l T K th) D σ H
theorem vR(Y:TryOk X){l:Nat}{n x:Str}{T:Addr}{body:List Stmt}{b0:Stmt}{body2:List Stmt}{tb:XK→TS}{th:TS}{px p3 p4:Pos}(hN:X.N.Nodup)(hl:X.N[l]?=some n)(ln:X.env.scope.names.lookup n=some .local)(he:∀pl xe E,cG (CX1 X.prog X.w) (X.within pl xe) E→PassesOwn (model X.prog X.w) X.A X.env xe→PSs (X.within pl xe) body (tb E))(hb:∀pl v,PSs (X.hnd pl v) (b0::body2) th)(hg:Gl X x)(hm:X.mg x=some (.ref T))(hT:PySem.W.ktsIn X.K T "BaseException"=true)(hdx:(x==("__debug__":Str))=false:=by decide):
  PS X (.Try body [.ExceptHandler (some (.Name x px)) (some n) (b0::body2) p3] [] [] p4) (yZ X.N.length l T X.K tb th):=by
 intro pins s σ H D I h;refine wpAny_Try_except ?_;refine wpAny_mono (he (X.pn++pins) _ (wt D X.N.length l T X.K th) ?hp PassesOwn.looking [] s σ H D (I.within _) h) (λf s1 q=>?_) (λev s1 hx=>hx)
 ·intro pins' σ H1 s0 ev s1 I0 hx;obtain⟨ea,C,H',rfl,F,⟨C',eC,hsub,hk⟩⟩:=hx;cases eC;have I1:Inv X pins σ H1 s0:=I0.without;have hk:=hk ea σ I1.len F.new;obtain⟨B,a0,fl,hB,kp,th⟩:=id F.fly;have frm:X.A.frames=some (X.env::X.outer):=by rw[I1.ok.frames,Y.stk]
  have fl':=fl;rw[show(X.within _ _).stack=X.stack from rfl,Y.stk]at fl';refine wpAny_looks_onW frm Y.fr fl' λh4 held4 hs4=>?_;refine wpAny_landsW held4 λh5 fl5 hs5=>?_;have sm5:s1.heap.UpToSlots h5:=hs4.trans hs5;have fl5':FlyingW B X.stack ea (.ref C) a0 h5:=by rw[Y.stk];exact fl5
  have J5:=I1.caught F fl hB kp th fl5' sm5;obtain⟨ob,hob,hobc⟩:=fl5.there;obtain⟨nm,q',N,bs,bm,hdct,sn,sub,ab,col,dd,k0,k1,k2,k3,k5,newId,hTo,hbase,_⟩:=PySem.W.kts_cls J5.kIn hT;obtain⟨hp1,g1,d1,t1,os1⟩:=s1;refine wpAny_handleBy_cons (codeAny_handlers_test ?_) (by intro q;cases q);refine Calls.Name_function_global J5.ok.kind hg (Calls.loadGlobal_global (by rw[J5.ok.glob];exact J5.mod.glob.keeps J5.bk) hm ?_) hdx;refine uV hTo hbase (PySem.W.looks_subIn J5.kIn hsub) hob hobc ?_;refine codeAny_handlers_suite_as ?_;refine lands_againW (s:=⟨h5,g1,d1,t1,os1⟩) fl5 λh6 fl6 hs6=>?_;have fl6':FlyingW B X.stack ea (.ref C) a0 h6:=by rw[Y.stk];exact fl6
  have J6:=I1.caught F fl hB kp th fl6' (sm5.trans hs6);refine fg J6 hN hl (.inl ln) (v:=.ref ea) rfl (λs2 J7=>?_) (.inr ln);have hcls:(X.env.scope.kind==.class||(X.env.scope.kind==.module&&X.env.locals != X.env.globals))=false:=by rw[J7.ok.kind];rfl
  have hkn:X.env.kindOf n=some .local:=ln;refine wpAny_mono (hb (X.pn++pins) _ [] s2 _ _ _ J7.hnd hk) (λf s3 q=>?_) (λ_ _ z=>z.elim);cases f with
  |next =>
   obtain⟨σ',H8,I8,q'⟩:=q;have J8:Inv X pins σ' H8 s3:=I8.unhnd J7;obtain⟨m8,hn8,_⟩:=id J8.loc;exact wpAny_nameGoes_keeps hkn hn8 hcls λh9 v9 hn9 hs9=>⟨_,_,J8.forget hN hl hn8 hn9 hs9,q'⟩
  |brk =>
   obtain⟨σ',H8,I8,q'⟩:=q;have J8:Inv X pins σ' H8 s3:=I8.unhnd J7;obtain⟨m8,hn8,_⟩:=id J8.loc;exact wpAny_nameGoes_keeps hkn hn8 hcls λh9 v9 hn9 hs9=>⟨_,_,J8.forget hN hl hn8 hn9 hs9,q'⟩
  |cont =>
   obtain⟨σ',H8,I8,q'⟩:=q;have J8:Inv X pins σ' H8 s3:=I8.unhnd J7;obtain⟨m8,hn8,_⟩:=id J8.loc;exact wpAny_nameGoes_keeps hkn hn8 hcls λh9 v9 hn9 hs9=>⟨_,_,J8.forget hN hl hn8 hn9 hs9,q'⟩
  |ret v =>
   obtain⟨x',σ',H8,I8,r',q'⟩:=q;have J8:Inv X pins σ' H8 s3:=I8.unhnd J7;obtain⟨m8,hn8,_⟩:=id J8.loc;exact wpAny_nameGoes_keeps hkn hn8 hcls λh9 v9 hn9 hs9=>⟨x',_,_,J8.forget hN hl hn8 hn9 hs9,r',q'⟩
 ·cases f with
  |next=>obtain⟨σ',H',I',q'⟩:=q;exact wpAny_execs_nil ⟨σ',H',I'.without,q'⟩
  |brk=>obtain⟨σ',H',I',q'⟩:=q;exact⟨σ',H',I'.without,q'⟩
  |cont=>obtain⟨σ',H',I',q'⟩:=q;exact⟨σ',H',I'.without,q'⟩
  |ret v=>obtain⟨x',σ',H',I',r',q'⟩:=q;exact⟨x',σ',H',I'.without,r',q'⟩
end
def ul(CX:CXT)(P:Program)(w:World)(K:PySem.W.Frag)(mg:Str→Option Value)(base:Heap)(N:List Str)(qual:Str)(scope:Scope)(f:Addr)(cd:Value)(cl:List (Str×Addr))(A:Around)(outer:List Env)(s:Shared)(H:Hp)(E:XK):Cx where
 prog:=P
 w:=w
 K:=K
 mg:=mg
 base:=base
 A:=A.deeper (envX qual scope s.heap.objs.size f cd cl)
 N:=N
 s₀:=s
 H₀:=H
 env:=envX qual scope s.heap.objs.size f cd cl
 outer:=outer
 stack:=envX qual scope s.heap.objs.size f cd cl::outer
 ex:=[]
 calm:=true
 fn:=λ_=>false
 pn:=[]
 xe:=λe s'=>wpAny (model P w) (A.deeper (envX qual scope s.heap.objs.size f cd cl)) (leaving (envX qual scope s.heap.objs.size f cd cl) e) (λ_ s''=>CX outer H s E e s'') (λe' s''=>CX outer H s E e' s'') s'
structure LaScope(ps:List Str)(scope:Scope)(cl:List (Str×Addr)):Prop where
 kind:scope.kind=.function
 co:scope.isCoroutine=false
 gen:scope.isGenerator=false
 nocell:∀x∈scope.names,x.2≠.cell
 par:∀x∈ps,scope.names.lookup x=some .local
 nd:ps.Nodup
 has:∀x,scope.names.lookup x=some .free→∃c,cl.lookup x=some c
 inj:∀x y c,cl.lookup x=some c→cl.lookup y=some c→x=y
structure Capt(base:Heap)(scope:Scope)(cl:List (Str×Addr))(fs:List Str)(fv:List V):Prop where
 cell:∀x c,cl.lookup x=some c→∃v,base.IsCell c v
 len:fs.length=fv.length
 val:∀(i:Nat) x v,fs[i]?=some x→fv[i]?=some v→scope.names.lookup x=some .free∧∃c u,cl.lookup x=some c∧base.IsCell c (some u)∧aO v u
theorem qB:∀(ps:List Str)(us:List Value),((ps.zip us).map (·.1)).Sublist ps
 |[],_=>by simp
 |_::_,[]=>by simp
 |p::ps,u::us=>by rw[zip_cons_cons,map_cons];exact(qB ps us).cons₂ _
theorem nR{ps:List Str}{us:List Value}{i:Nat}{x:Str}{u:Value}(nd:ps.Nodup)(h1:ps[i]?=some x)(h2:us[i]?=some u):(ps.zip us).reverse.lookup x=some u:=by
 have mem:(x,u)∈(ps.zip us).reverse:=by
  rw[List.mem_reverse];exact mem_of_getElem? (i:=i) (by rw[List.getElem?_zip_eq_some];exact⟨h1,h2⟩)
 have nd2:((ps.zip us).reverse.map (·.1)).Nodup:=by
  rw[List.map_reverse];unfold Nodup;rw[List.pairwise_reverse];exact(nd.sublist (qB ps us)).imp λh=>symm h
 generalize (ps.zip us).reverse=l at mem nd2
 induction l with
 |nil=>cases mem
 |cons a r ih =>
  obtain⟨y,w⟩:=a;rw[map_cons,nodup_cons]at nd2;rcases mem_cons.mp mem with e|e
  ·cases e;rw[lookup_cons,beq_self_eq_true]
  ·have ne:x≠y:=λz=>nd2.1 (by rw[←z];exact mem_map.mpr ⟨(x,u),e,rfl⟩);rw[lookup_cons,show(x==y)=false by simpa using ne]
   exact ih e nd2.2
section
variable{CX:CXT}{P:Program}{w:World}{K:PySem.W.Frag}{mg:Str→Option Value}{base:Heap}{k:Nat}{f c:Addr}{name qual:Str}{params:Arguments}{body:Expr}{scope:Scope}{cl:List (Str×Addr)}{pm ctv:Value}{ps fs:List Str}{fv:List V}{sp:Sp}
theorem um{A:Around}{outer:List Env}{s:Shared}{H:Hp}{E:XK}{us:List Value}{vs:List V}{h₁:Heap}{tk:Nat}(S:LaScope ps scope cl)(C:Capt base scope cl fs fv)(hd:A.handled=none)(e0:Env0 P w K mg base A outer s H)(hl:vs.length=ps.length)(r:aH vs us)(hns:h₁.Ns s.heap.objs.size (λx=>(ps.zip us).reverse.lookup x))(hk:∀b o,s.heap.get? b=some o→h₁.get? b=some o):
  Inv (ul CX P w K mg base (ps++fs) qual scope f (.ref c) cl A outer s H E) [] (vs.map some++fv.map some) H {s with heap:=h₁,toks:=tk}:=by
 have noA:∀b:Addr,b∉(ul CX P w K mg base (ps++fs) qual scope f (.ref c) cl A outer s H E).ex:=λb z=>absurd (show b∈([]:List Addr)from z) (by simp);have cellB:∀c v,base.IsCell c v→h₁.IsCell c v∧H c=none∧c≠s.heap.objs.size:=λc v ⟨o,e,d⟩=>⟨⟨o,hk c o (e0.bs _ _ e).1,d⟩,(e0.bs _ _ e).2,ne_of_lt (lt_size (e0.bs _ _ e).1)⟩;refine⟨⟨e0.mod,S.kind,rfl,rfl,le_refl _,S.inj,λy hy=>?_,λy c h _=>absurd h (by simp[ul]),λ_=>hd,Around.frames_deeper e0.frames,.inr ⟨rfl,rfl⟩,λb z=>absurd z (noA b),e0.bs,e0.bsz,λb _ _=>noA b,λb z=>absurd z (noA b),e0.funs,e0.frf⟩,
  rfl,e0.bare,Un.kept hk,⟨_,hns,λi y v h1 h2 h3=>?_⟩,λy c h=>?_,e0.hok.fresh (le_refl _),λy c h=>?_,λp hp=>absurd (show p∈([]:List (Addr×Obj))from hp) (by simp),e0.hok.kept hk,?_⟩
 ·have hy:scope.names.lookup y=some .cell∨scope.names.lookup y=some .free:=hy;rcases hy with hy|hy
  ·exact absurd rfl (S.nocell _ (PySem.mem_of_lookup hy))
  ·exact S.has y hy
 ·have h1:(ps++fs)[i]?=some y:=h1
  by_cases hi:i<ps.length
  ·rw[getElem?_append_left hi]at h1;rw[getElem?_append_left (by rw[length_map];omega),getElem?_map]at h2;cases e:vs[i]? with
   |none=>rw[e]at h2;cases h2
   |some a =>
    rw[e]at h2;cases h2;obtain⟨u,hu,rv⟩:=r.get e;exact⟨u,rv,.inl ⟨S.par y (mem_of_getElem? h1),nR S.nd h1 hu⟩⟩
  ·rw[getElem?_append_right (by omega)]at h1;rw[getElem?_append_right (by rw[length_map];omega),length_map,hl,getElem?_map]at h2;cases e:fv[i-ps.length]? with
   |none=>rw[e]at h2;cases h2
   |some a =>
    rw[e]at h2;cases h2;obtain⟨g1,cc,u,g2,g3,rv⟩:=C.val _ _ _ h1 e;exact⟨u,rv,.inr ⟨.inr g1,cc,g2,(cellB _ _ g3).1⟩⟩
 ·obtain⟨v,hv⟩:=C.cell y c h;exact⟨v,(cellB _ _ hv).1⟩
 ·obtain⟨v,hv⟩:=C.cell y c h;exact(cellB _ _ hv).2.1
 ·show _=(ps++fs).length;rw[length_append,length_append,length_map,length_map,hl,C.len]
end
def cdφ(c:Addr)(qual:Str)(h:Heap):Prop:=h.CodeRec (.ref c) qual
theorem nS{c:Addr}{qual:Str}:∀h1 h2:Heap,cdφ c qual h1→(∀o,h1.get? c=some o→h2.get? c=some o)→cdφ c qual h2:=λh1 h2 h k=>by
 obtain⟨c',oc,vs,tq,e1,e2,e3⟩:=h;cases e1;exact⟨c,oc,vs,tq,rfl,k _ e2,e3⟩
theorem uo{c:Addr}{qual:Str}{h:Heap}(x:cdφ c qual h):∃o,h.get? c=some o:=by
 obtain⟨c',oc,vs,tq,e1,e2,e3⟩:=x;cases e1;exact⟨oc,e2⟩
def aN(H:Hp)(P:Addr)(qual:Str):Prop:=∃ps:Array Value,H P=some (.tbl ps)∧TriplesOk ps.toList∧∀pos cv,codeAmong pos ps.toList=some cv→∃c,cv=.ref c∧H c=some (.ext (cdφ c qual))
theorem aN.start{H:Hp}{P:Addr}{qual:Str}(h:H P=some (.tbl #[])):aN H P qual:=⟨#[],h,trivial,λpos cv e=>by cases e⟩
theorem lr{pos:Pos}{a b:Int}{t u:Tok}{v cv:Value}:∀{l:List Value},TriplesOk l→codeAmong pos (l++[.int a t,.int b u,v])=some cv→codeAmong pos l=some cv∨cv=v
 |[],_,h=>by
  have h:(if a==pos.line&&b==pos.col then some v else codeAmong pos [])=some cv:=h
  split at h
  ·exact .inr (Option.some.inj h).symm
  ·cases h
 |.int x t1::.int y t2::c::rest,ht,h=>by
  have h:(if x==pos.line&&y==pos.col then some c else codeAmong pos (rest++[.int a t,.int b u,v]))=some cv:=h
  show(if x==pos.line&&y==pos.col then some c else codeAmong pos rest)=some cv∨cv=v
  split at h
  ·rename_i e;rw[if_pos e];exact .inl h
  ·rename_i e;rw[if_neg e];exact lr (show TriplesOk rest from ht) h
theorem iR{a b:Int}{t u:Tok}{v:Value}:∀{l:List Value},TriplesOk l→TriplesOk (l++[.int a t,.int b u,v])
 |[],_=>trivial
 |.int x t1::.int y t2::c::rest,ht=>iR (l:=rest) ht
def aV(P:Addr)(H H':Hp):Prop:=∀b o,b≠P→H b=some o→H' b=some o
theorem aV.refl(P:Addr)(H:Hp):aV P H H:=λ_ _ _ h=>h
def BmB(base:Heap)(mg:Str→Option Value):Prop:=∃bm o,mg "__builtins__"=some (.ref bm)∧bm≠builtinsNs∧base.get? bm=some o∧o.cls=.type "module"∧o.dict=some builtinsNs∧o.data=.plain
section
variable{X:Cx}{pins:List (Addr×Obj)}{σ:St}{H:Hp}{s:Shared}
theorem Inv.tab{P:Addr}{ps more:Array Value}{h':Heap}{t':Nat}(I:Inv X pins σ H s)(hP:H P=some (.tbl ps))(k:∀b o,b≠P→s.heap.get? b=some o→h'.get? b=some o)(hP':h'.get? P=some {cls:=.none,data:=.fields (ps++more)}):Inv X pins σ (upd H P (.tbl (ps++more))) {s with heap:=h',toks:=t'}:=by
 have ne:∀b,H b=none→b≠P:=λb n z=>by rw[z,hP]at n;cases n
 refine I.un (t':=t') ⟨λb o e n _ _=>k b o (ne b n) e,λb o e n _ _=>⟨o.slots,k b o (ne b n) e⟩,λb o e n _=>by rw[aj (ne b n)];exact n,λb o e _=>?_,λb xs e=>?_,λb o u e=>?_,λb qs e=>?_⟩ λb u e=>?_
 ·by_cases hb:b=P
  ·rw[hb];exact⟨_,hP'⟩
  ·exact⟨o,k b o hb e⟩
 ·rw[aj (λz=>by rw[z,hP]at e;cases e)];exact e
 ·rw[aj (λz=>by rw[z,hP]at e;cases e)];exact e
 ·by_cases hb:b=P
  ·subst hb;rw[hP]at e;cases e;exact⟨more,ac⟩
  ·exact⟨#[],by rw[aj hb,e];simp⟩
 ·by_cases hb:b=P
  ·subst hb;rw[ac]at e;cases e;exact hP'
  ·rw[aj hb]at e;refine(I.hok b u e).stay (λc v hc q=>k c v (λz=>?_) q) (λc q=>?_) λc xs q=>?_
   ·rcases hc with hc|hc
    ·exact hb (hc.symm.trans z)
    ·rw[z,hP]at hc;cases hc
   ·rw[aj (λz=>by rw[z,hP]at q;cases q)];exact q
   ·rw[aj (λz=>by rw[z,hP]at q;cases q)];exact q
theorem vS{c0 P:Addr}{params:Arguments}{body:Expr}{scope:Scope}{pos:Pos}{cl:List (Str×Addr)}{Q:Value→Shared→Prop}{E:Value→Shared→Prop}(I:Inv X pins σ H s)(C0:CodeHd X.base c0 P)(hc:X.env.code=.ref c0)(Bm:BmB X.base X.mg)(T:aN H P (X.env.qual++"<lambda>"))(hdef:defaultsOf params X.env=([],[]))(hcl:closureFor scope X.env=pure cl)(h:∀f c pm ctv H' s',aV P H H'→aN H' P (X.env.qual++"<lambda>")→H' c=some (.ext (cdφ c (X.env.qual++"<lambda>")))→Inv X pins σ H' s'→s'.heap.get? f=some (kla_obj "<lambda>" (X.env.qual++"<lambda>") params body scope cl pm c ctv)→s.heap.objs.size≤f→H' f=none→(∀b v,s.heap.IsCell b v→H b=none→s'.heap.IsCell b v)→Q (.ref f) s'):
  wpAny (model X.prog X.w) X.A (eval (.Lambda params body scope pos) X.env) Q E s:=by
 obtain⟨ps,hP,ht,hq⟩:=T;have hPs:s.heap.get? P=some (tabObj ps):=I.hok P _ hP;have hg:s.heap.Ns mainGlobals X.mg:=I.ok.mod.glob.keeps I.bk;have hgP:mainGlobals≠P:=λq=>by
  obtain⟨o,es,ep,e,hd,_⟩:=I.ok.mod.glob;have:=(I.bs _ _ e).2;rw[q,hP]at this;cases this
 have hb:s.heap.BuiltinsAt X.mg P:=by
  obtain⟨bm,ob,b1,b2,b3,b4,b5,b6⟩:=Bm;refine⟨bm,ob,b1,b2,λq=>?_,λq=>?_,I.bk _ _ b3,b4,b5,b6⟩
  ·obtain⟨o,es,ep,e,hd,_⟩:=I.ok.mod.glob;rw[q,e]at b3;cases b3;rw[hd]at b6;cases b6
  ·have:=(I.bs _ _ b3).2;rw[q,hP]at this;cases this
 have C:=C0.keeps I.bk;have cellP:∀b v,s.heap.IsCell b v→H b=none→b≠P:=λb v _ n z=>by rw[z,hP]at n;cases n
 refine PySem.W.kla_eval hdef ?_;cases ha:codeAmong pos ps.toList with
 |none =>
  refine PySem.W.kla_makeFunction (mg:=X.mg) hcl I.ok.glob hg hc C hPs ht ha hgP hb λc' ctv h' tk hx hge hlt hrec htb=>?_;have J:=I.tab (t':=tk) (more:=#[rawInt pos.line,rawInt pos.col,.ref c']) (h':=h'.push (kla_obj "<lambda>" (X.env.qual++"<lambda>") params body scope cl ((X.mg "__name__").getD .none) c' ctv)) hP (λb o n e=>get?_push_of_some _ (hx b o n e)) (get?_push_of_some _ htb);have fr:H c'=none:=I.hok.fresh hge;have ncP:c'≠P:=λz=>by rw[z,hP]at fr;cases fr
  have fr':upd H P (.tbl (ps ++ #[rawInt pos.line,rawInt pos.col,.ref c'])) c'=none:=by rw[aj ncP];exact fr
  have hrec':cdφ c' (X.env.qual++"<lambda>") (h'.push (kla_obj "<lambda>" (X.env.qual++"<lambda>") params body scope cl ((X.mg "__name__").getD .none) c' ctv)):=nS _ _ hrec λo e=>get?_push_of_some _ e;have Hq:aV P H (upd (upd H P (.tbl (ps ++ #[rawInt pos.line,rawInt pos.col,.ref c']))) c' (.ext (cdφ c' (X.env.qual++"<lambda>")))):=λb o n e=>by
   rw[aj (aw e fr),aj n];exact e
  have sz:s.heap.objs.size≤h'.objs.size:=le_trans hge (le_of_lt hlt);have nfc:h'.objs.size≠c':=ne_of_gt hlt;have frf:H h'.objs.size=none:=I.hok.fresh sz;have nfP:h'.objs.size≠P:=λz=>by rw[z,hP]at frf;cases frf
  have J2:Inv X pins σ (upd (upd H P (.tbl (ps ++ #[rawInt pos.line,rawInt pos.col,.ref c']))) c' (.ext (cdφ c' (X.env.qual++"<lambda>")))) {s with heap:=h'.push (kla_obj "<lambda>" (X.env.qual++"<lambda>") params body scope cl ((X.mg "__name__").getD .none) c' ctv),toks:=tk}:=by
   refine⟨J.ok,J.os,J.bare,⟨λb o e n hb hx=>J.base.keep b o e n hb hx,λb o e n hb hx=>J.base.slot b o e n hb hx,λb o e n hx=>?_,J.base.there,λb xs e=>?_,λb o u e=>?_,λb qs e=>?_⟩,J.loc,J.cell,?_,λx c e=>?_,λp hp=>?_,λb u e=>?_,J.len⟩
   ·have h1:=J.base.free b o e n hx;have:b≠c':=ne_of_lt (lt_of_lt_of_le (lt_of_lt_of_le (lt_size e) I.sz) hge);rw[aj this];exact h1
   ·have h1:=J.base.tups b xs e;rw[aj (aw h1 fr')];exact h1
   ·have h1:=J.base.frzs b o u e;rw[aj (aw h1 fr')];exact h1
   ·obtain⟨m,h1⟩:=J.base.tbls b qs e;exact⟨m,by rw[aj (aw h1 fr')];exact h1⟩
   ·rw[aj (ne_of_lt (lt_of_lt_of_le I.lt hge))];exact J.free
   ·have h1:=J.freeC x c e;obtain⟨v,o,ho,_⟩:=I.cell x c e;rw[aj (ne_of_lt (lt_of_lt_of_le (lt_size ho) hge))];exact h1
   ·obtain⟨g1,g2,g3,g4,g5⟩:=J.pin p hp;obtain⟨i1,_⟩:=I.pin p hp;exact⟨g1,by rw[aj (ne_of_lt (lt_of_lt_of_le (lt_size i1) hge))];exact g2,g3,g4,g5⟩
   ·by_cases hb:b=c'
    ·subst hb;rw[ac]at e;cases e;exact⟨hrec',uo hrec',nS⟩
    ·rw[aj hb]at e;exact(J.hok b u e).stay (λ_ _ _ q=>q) (λc q=>by rw[aj (aw q fr')];exact q) λc xs q=>by rw[aj (aw q fr')];exact q
  refine h h'.objs.size c' _ ctv _ _ Hq ⟨_,by rw[aj (symm ncP)];exact ac,?_,λpos' cv e=>?_⟩ ac J2 (get?_push_size _ rfl) sz ?_ λb v ⟨o,ho,hd⟩ n=>⟨o,get?_push_of_some _ (hx b o (cellP b v ⟨o,ho,hd⟩ n) ho),hd⟩
  ·rw[Array.toList_append];exact iR ht
  ·rw[Array.toList_append]at e;rcases lr ht e with e|e
   ·obtain⟨c,e1,e2⟩:=hq pos' cv e;refine⟨c,e1,Hq c _ (λz=>?_) e2⟩;rw[z,hP]at e2;cases e2
   ·exact⟨c',e,ac⟩
  ·rw[aj nfc,aj nfP];exact frf
 |some cv =>
  obtain⟨c,rfl,hcx⟩:=hq pos cv ha;refine PySem.W.kla_makeFunctionHit (mg:=X.mg) hcl I.ok.glob hg hc C hPs ht ha hb λctv h' tk hk hsz=>?_;have J:=I.kept (t':=tk) (h':=h'.push (kla_obj "<lambda>" (X.env.qual++"<lambda>") params body scope cl ((X.mg "__name__").getD .none) c ctv)) λb o e=>get?_push_of_some _ (hk b o e);exact h h'.objs.size c _ ctv H _ (aV.refl _ _) ⟨ps,hP,ht,hq⟩ hcx J (get?_push_size _ rfl) hsz (I.hok.fresh hsz) λb v ⟨o,ho,hd⟩ _=>⟨o,get?_push_of_some _ (hk b o ho),hd⟩
end
def bB(X:Cx)(H:Hp)(s:Shared):Heap:=hideAll s.heap (trk s.heap H++frs X.stack)
section
variable{X:Cx}{pins:List (Addr×Obj)}{σ:St}{H:Hp}{s:Shared}
theorem pw{b:Addr}{o:Obj}(e:s.heap.get? b=some o)(n:H b=none)(nf:b∉frs X.stack):(bB X H s).get? b=some o :=
 hideAll_get _ e λhm=>by
  rcases mem_append.mp hm with hm|hm
  ·have q:(H b).isSome=true:=(mem_filter.mp hm).2;rw[n]at q;simp at q
  ·exact nf hm
theorem uq{b:Addr}{o:Obj}(e:(bB X H s).get? b=some o):s.heap.get? b=some o∧H b=none∧b∉frs X.stack:=by
 have e':s.heap.get? b=some o:=of_hideAll (trk s.heap H++frs X.stack) e;have hid:b∉trk s.heap H++frs X.stack:=λhm=>by
  have z:(bB X H s).get? b=none:=hideAll_none _ hm;rw[z]at e;cases e
 refine⟨e',?_,λhm=>hid (mem_append_right _ hm)⟩;cases q:H b with
 |none=>rfl
 |some x=>exact absurd (mem_append_left _ (mem_filter.mpr ⟨mem_range.mpr (lt_size e'),by simp[q]⟩)) hid
theorem eM{h base base':Heap}:∀{l:List Env},h.FunFrames base l→(∀b∈frs l,base'.get? b=none)→h.FunFrames base' l
 |[],_,_=>trivial
 |env::rest,⟨k,⟨L,o,hf,hb,ho,hd⟩,r⟩,hn=>by
  have e:frs (env::rest)=L::frs rest:=by unfold frs;rw[filterMap_cons,hf]
  rw[e]at hn;exact⟨k,⟨L,o,hf,hn L mem_cons_self,ho,hd⟩,eM r λb hb=>hn b (mem_cons_of_mem _ hb)⟩
theorem Inv.bsub(I:Inv X pins σ H s):∀b o,X.base.get? b=some o→(bB X H s).get? b=some o:=λb o e=>by
 obtain⟨h1,h2⟩:=I.bs b o e;refine pw h1 h2 λhm=>?_;have:=(I.stack.mem hm).1;rw[e]at this;cases this
theorem Inv.env0B(I:Inv X pins σ H s):Env0 X.prog X.w X.K X.mg (bB X H s) X.A X.stack s H:=by
 have kp:=I.bsub;obtain⟨mb,hb,hbb⟩:=I.ok.mod.blt;refine⟨I.ok.frames,⟨I.ok.mod.kin.keeps kp,I.ok.mod.glob.keeps kp,⟨mb,hb.keeps kp,hbb⟩,I.ok.mod.nolimit.keeps kp⟩,λb o e=>⟨(uq e).1,(uq e).2.1⟩,le_of_eq (hideAll_size _ _),eM I.stack λb hb=>?_,I.stkFree,I.hok,I.bare⟩;cases q:(bB X H s).get? b with
 |none=>rfl
 |some o=>exact absurd hb (uq q).2.2
theorem vT{CX:CXT}{k:Nat}{f:Addr}{fd:FuncData}{ps:List Str}{sp:Sp}{E:XK}{Q:VK}{us:List Value}{vs:List V}(F:FnOk X.prog X.w X.K X.mg (bB X H s) CX k f fd ps sp)(hr:Room k X.A)(hb:aG X.K fd ps [])(hx:cG CX X E)(I:Inv X pins σ H s)(r:aH vs us)(h:sp vs H Q E):wpAny (model X.prog X.w) X.A (call (.ref f) us) (EP X pins σ Q) X.xe s:=by
 have hl:(us++([]:List Value)).length=ps.length:=by rw[append_nil,←r.length];exact F.len _ _ _ _ h
 have hb':=hb s us I.kIn hl;rw[append_nil]at hb';refine wpAny_call (codeAny_mono (F.run X.A X.stack s H ⟨us,[]⟩ us vs Q E hr I.env0B hb' r h) λr s' hq=>?_);cases r with
 |error e=>exact hx pins σ H s e s' I hq
 |ok fl =>
  cases fl with
  |ret u=>exact I.after hq
  |next=>exact False.elim hq
  |brk=>exact False.elim hq
  |cont=>exact False.elim hq
def yf(js:List Nat)(σ:St)(fv:List V):Prop:=js.map (λj=>(σ[j]?).getD none)=fv.map some
def pB(P:Addr)(qual:Str)(js:List Nat)(spG:Addr→Addr→List V→Sp):TE:=λσ H Q=>aN H P qual∧∃fv,yf js σ fv∧∀f c H',aV P H H'→aN H' P qual→H' c=some (.ext (cdφ c qual))→H' f=none→spG f c fv [.ref f] H' Q E0
structure CapOk(X:Cx)(scope:Scope)(cl:List (Str×Addr))(fs:List Str)(js:List Nat):Prop where
 len:fs.length=js.length
 cells:∀x c,cl.lookup x=some c→X.env.cells.lookup x=some c
 at':∀(i j:Nat) x,js[i]?=some j→fs[i]?=some x→X.N[j]?=some x∧X.env.scope.names.lookup x=some .cell∧scope.names.lookup x=some .free∧∃c,cl.lookup x=some c
 fn:∀x,X.fn x=true
theorem Inv.cellF(I:Inv X pins σ H s)(hfn:∀x,X.fn x=true){x:Str}{c:Addr}(h:X.env.cells.lookup x=some c):c∉frs X.stack:=λhm=>by
 rcases mem_cons.mp (I.stkSub c hm)with z|z
 ·exact I.cne x c h z
 ·obtain⟨_,o,ho,_⟩:=I.ok.funs.mem z;have:=lt_of_lt_of_le (lt_size ho) (I.ok.cab x c (hfn x) h);exact absurd this (lt_irrefl _)
theorem Inv.capt{scope:Scope}{cl:List (Str×Addr)}{fs:List Str}{js:List Nat}{fv:List V}(I:Inv X pins σ H s)(O:CapOk X scope cl fs js)(hv:yf js σ fv):Capt (bB X H s) scope cl fs fv:=by
 have cellB:∀x c v,X.env.cells.lookup x=some c→s.heap.IsCell c v→(bB X H s).IsCell c v:=λx c v e ⟨o,ho,hd⟩=>⟨o,pw ho (I.freeC x c e) (I.cellF O.fn e),hd⟩;refine⟨λx c e=>?_,?_,λi x v h1 h2=>?_⟩
 ·obtain⟨v,hv⟩:=I.cell x c (O.cells x c e);exact⟨v,cellB x c v (O.cells x c e) hv⟩
 ·rw[O.len];have:=congrArg length hv;rw[length_map,length_map]at this;exact this
 ·have hi:i<js.length:=by rw[←O.len];exact(List.getElem?_eq_some_iff.mp h1).1
  obtain⟨a1,a2,a3,c,a4⟩:=O.at' i js[i] x (getElem?_eq_getElem hi) h1;have e:(js.map (λj=>(σ[j]?).getD none))[i]?=some (some v):=by
   rw[show js.map (λj=>(σ[j]?).getD none)=fv.map some from hv,getElem?_map,h2];rfl
  rw[getElem?_map,getElem?_eq_getElem hi]at e;have e':(σ[js[i]]?).getD none=some v:=Option.some.inj e;have e4:σ[js[i]]?=some (some v):=by
   cases q:σ[js[i]]? with
   |none=>rw[q]at e';cases e'
   |some y=>rw[q]at e';exact congrArg some e'
  obtain⟨m,_,hl⟩:=I.loc;obtain⟨u,r,lk⟩:=hl js[i] x v a1 e4 (.inr (.inl a2));rcases lk with⟨q,_⟩|⟨_,c',e5,e6⟩
  ·rw[show X.env.kindOf x=X.env.scope.names.lookup x from rfl,a2]at q;cases q
  ·have:c=c':=Option.some.inj ((O.cells x c a4).symm.trans e5);subst this;exact⟨a3,c,u,a4,cellB x c _ e5 e6,r⟩
theorem jZ{g P c0:Addr}{fdg:FuncData}{xg x:Str}{k:Nat}{p lpos pos:Pos}{params:Arguments}{body:Expr}{scope:Scope}{cl:List (Str×Addr)}{fs:List Str}{js:List Nat}{qual:Str}{spG:Addr→Addr→List V→Sp}(C0:CodeHd X.base c0 P)(hc:X.env.code=.ref c0)(Bm:BmB X.base X.mg)(hq:X.env.qual++"<lambda>"=qual)(hdef:defaultsOf params X.env=([],[]))(hcl:closureFor scope X.env=pure cl)(O:CapOk X scope cl fs js)(hG:∀(base':Heap) (f c:Addr) (pm ctv:Value) (fv:List V),(∀b o,X.base.get? b=some o→base'.get? b=some o)→base'.get? f=some (kla_obj "<lambda>" qual params body scope cl pm c ctv)→Capt base' scope cl fs fv→FnOk X.prog X.w X.K X.mg base' CX0 k g fdg [xg] (spG f c fv))(hr:Room k X.A)(hg:Gl X x)(hm:X.mg x=some (.ref g))(hk:keepIn X.K (.ref g)=true)(hb:aG X.K fdg [xg] [])(hdb:(x==("__debug__":Str))=false:=by decide)(he:starEach [.Lambda params body scope lpos] X.env=(false,eval (.Lambda params body scope lpos) X.env)::starEach [] X.env:=by rfl):
  PE X (.Call (.Name x p) [.Lambda params body scope lpos] [] pos) (pB P qual js spG):=by
 intro pins s σ H Q I h;obtain⟨T,fv,hv,q⟩:=h;subst hq;refine wpAny_Call_Name_kw (gh I hg hm ?_ hdb);refine callWith_K (h₀:=X.base) I.ok.mod.kin hk ?_ he rfl;rw[he];show wpAny _ _ (spliced ((false,eval (.Lambda params body scope lpos) X.env)::backTo pos (starEach [] X.env))) _ _ s;refine spliced_cons (vS I C0 hc Bm T hdef hcl λf c pm ctv H' s' off tq hc' J ho hsz hf hcell=>?_);refine spliced_nil ⟨J.kIn,?_⟩;have nf:f∉frs X.stack:=λhm=>by
  rcases mem_cons.mp (I.stkSub f hm)with z|z
  ·have:=I.lt;rw[←z]at this;exact absurd this (not_lt.mpr hsz)
  ·exact I.nofs hsz z
 have C:=J.capt O hv;exact vT (hG _ f c pm ctv fv J.bsub (pw ho hf nf) C) hr hb aK J (vs:=[.ref f]) (.cons (show aO (.ref f) (.ref f)from rfl) .nil) (q f c H' off tq hc' hf)
def yg(te:TE)(f:Addr)(sp:Sp)(E:XK):TE:=λσ H Q=>te σ H λv H1=>v=.ref f∧sp [] H1 Q E
theorem rL{f:Addr}{fd:FuncData}{oc:Value}{od:Option Addr}{osl:Array (Option Value)}{k:Nat}{sp:Sp}{CX:CXT}{E:XK}{x:Str}{p pos:Pos}{te:TE}(hv:PE X (.Name x p) te)(ho:X.base.get? f=some ⟨oc,od,.func fd,osl⟩)(F:FnOk X.prog X.w X.K X.mg X.base CX k f fd [] sp)(hr:Room k X.A)(hb:aG X.K fd [] [])(hx:cG CX X E):
  PE X (.Call (.Name x p) [] [] pos) (yg te f sp E):=by
 intro pins s σ H Q I h;refine wpAny_Call_Name_kw (thn (hv pins s σ H _ I h) λu s1 hpt=>?_);obtain⟨v,H1,I1,r,e,q⟩:=hpt;subst e;obtain rfl:u=Value.ref f:=r;refine PySem.W.callWith_of (P:=λh=>h.get? f=some ⟨oc,od,.func fd,osl⟩) rfl (λh e=>⟨.frame,.inl rfl,(PySem.W.Looks.ld (part:=none) e).andThen .now⟩) (evalArgs_nil3 ⟨I1.bk _ _ ho,?_⟩);exact ly (us:=[]) (dvs:=[]) F hr hb .nil hx I1 .nil q
end
section
variable{CX:CXT}{P:Program}{w:World}{K:PySem.W.Frag}{mg:Str→Option Value}{base:Heap}{k:Nat}{f c:Addr}{name qual:Str}{params:Arguments}{body:Expr}{scope:Scope}{cl:List (Str×Addr)}{pm ctv:Value}{ps fs:List Str}{fv:List V}{sp:Sp}
theorem qC(ho:base.get? f=some (kla_obj name qual params body scope cl pm c ctv))(hcd:∀vs H Q E,sp vs H Q E→H c=some (.ext (cdφ c qual)))(S:LaScope ps scope cl)(C:Capt base scope cl fs fv)(len:∀vs H Q E,sp vs H Q E→vs.length=ps.length)(hbody:∀(A:Around) (outer:List Env) (s:Shared) (H:Hp) (vs:List V) (Q:VK) (E:XK),Room k (A.deeper (envX qual scope s.heap.objs.size f (.ref c) cl))→sp vs H Q E →
   ∃t,PE (ul CX P w K mg base (ps++fs) qual scope f (.ref c) cl A outer s H E) body t∧t (vs.map some++fv.map some) H Q):
  FnOk P w K mg base CX (k+1) f (PySem.W.kla_fn name qual params body scope cl pm (.ref c) ctv) ps sp:=by
 refine⟨len,λA outer s H args us vs Q E hr e0 hb r hsp=>?_⟩;have hl:=len _ _ _ _ hsp;have kp:∀b o,base.get? b=some o→s.heap.get? b=some o:=λb o e=>(e0.bs b o e).1;have lim:s.heap.NoLimit:=e0.mod.nolimit.keeps kp;have hcd':s.heap.CodeRec (.ref c) qual:=(e0.hok c _ (hcd _ _ _ _ hsp)).1;refine PySem.W.kla_callFunE hr.depth (kp _ _ ho) rfl S.co S.gen rfl hcd' (hb _ _ _ _ ?_);refine wpAny_newFunctionEnv S.nocell (λx hx=>S.par _ (of_mem_zip hx).1) (λh₁ hns hsb=>?_) S.kind;have hk₁:∀b o,s.heap.get? b=some o→h₁.get? b=some o:=λb o e=>hsb.extBut b o (ne_of_lt (lt_size e)) (get?_push_of_some _ e);refine⟨lim.keeps hk₁,PySem.W.kla_codeExpr ?_⟩;obtain⟨t,ht,hq⟩:=hbody A outer s H vs Q E (hr.deeper _) hsp;have I:=um (CX:=CX) (P:=P) (w:=w) (K:=K) (mg:=mg) (qual:=qual) (f:=f) (c:=c) (E:=E) (tk:=s.toks+(ps.zip us).length) S C hr.hd e0 hl r hns hk₁;exact wpAny_mono (ht [] _ _ H _ I hq) (λu s' ⟨v,H',J,rv,q⟩=>⟨v,H',J.os,J.bare,J.base,J.hok,rv,q⟩) λe s' h=>h
end
section
variable{P:Program}{w:World}{H:Hp}{fs:List Addr}{s s1:Shared}
variable{K:PySem.W.Frag}{mg:Str→Option Value}{base:Heap}{A:Around}{outer:List Env}{k:Nat}{f:Addr}{fd:FuncData}{y:Str}{spK:Sp}{key:V→Str}
end
section
variable{X:Cx}
end
theorem rM{P:Program}{w:World}{K:PySem.W.Frag}{mg mb:Str→Option Value}{k:Nat}{fa a:Addr}{fd:FuncData}{x:Str}{sp:Sp}{s₁:Shared}{vs:List Value}{ns:List Int}{tabs:List Addr}(KX:K.In s₁.heap)(hns:s₁.heap.Ns mainGlobals mg)(hb:s₁.heap.Ns builtinsNs mb)(hbb:∀x:Str,x≠"__name__"→mb x=bootBuiltins x)(hlim:s₁.heap.NoLimit)(hg:s₁.gens=#[])(hT:∀t∈tabs,(∃c,CodeHd s₁.heap c t)∧s₁.heap.get? t=some (tabObj #[]))(hKT:∀t∈tabs,K.lookup t=none)(hbm:BmB s₁.heap mg)(ha:s₁.heap.get? a=some {cls:=.type "list",data:=.seq vs.toArray})(hi:IntsAre vs ns)(hl:ns.length≤sizeLine)(hr:Room k callerA)(F:∀base:Heap,K.In base→base.Ns mainGlobals mg→BmB base mg→FnOk P w K mg base CX0 k fa fd [x] sp)(hbind:∀(s:Shared) (u:Value),BindsTo s fd ⟨[u],[]⟩ [(x,u)])(hsp:∀H:Hp,SqL K H a (ns.map V.int)→(∀t∈tabs,H t=some (.tbl #[]))→sp [.ref a] H (λv _=>v=.bl true) λ_ _ _=>False):
  codeAny (model P w) callerA (.call (.ref fa) ⟨[.ref a],[]⟩) (λr s'=>r=.ok (.ret (.bool true))∧OldK s₁.heap s'.heap∧s'.os=s₁.os∧AllBare s'.gens) s₁:=by
 have rv:=kO hi;have lenV:=hi.length;have naT:a∉tabs:=λh=>by
  have:=(hT a h).2;rw[ha]at this;cases this
 have core:∀(H:Hp),SqL K H a (ns.map V.int)→HOk P w H s₁.heap→(∀t∈tabs,H t=some (.tbl #[]))→(∀b o,H b=some o→(b=a∧K.lookup a=none∧∃ob xs,o=.frz ob (.lst xs))∨b∈tabs) →
   codeAny (model P w) callerA (.call (.ref fa) ⟨[.ref a],[]⟩) (λr s'=>r=.ok (.ret (.bool true))∧OldK s₁.heap s'.heap∧s'.os=s₁.os∧AllBare s'.gens) s₁:=by
  intro H hS hok hTt hA;have base_of:∀{b:Addr}{o:Obj},s₁.heap.get? b=some o→H b=none→(kg s₁.heap H).get? b=some o:=λe n=>rW e n;have noA:∀{b:Addr}{o:Obj}{es:Array DictEntry}{ep:Nat},s₁.heap.get? b=some o→o.data=.dict es ep→H b=none:=λ{b o es ep} e d=>by
   cases q:H b with
   |none=>rfl
   |some u =>
    rcases hA b u q with⟨e',_⟩|hm
    ·subst e';rw[ha]at e;cases e;cases d
    ·rw[(hT b hm).2]at e;cases e;cases d
  have nsK:∀{b:Addr}{m:Str→Option Value},s₁.heap.Ns b m→(kg s₁.heap H).Ns b m:=λ{b m} ⟨o,es,ep,e,d,r⟩=>⟨o,es,ep,base_of e (noA e d),d,r⟩;have hKb:K.In (kg s₁.heap H):=λb o e=>base_of (KX b o e) (by
   cases q:H b with
   |none=>rfl
   |some u =>
    rcases hA b u q with⟨e',hk,_⟩|hm
    ·subst e';rw[hk]at e;cases e
    ·rw[hKT b hm]at e;cases e)
  have hM:Mod K mg (kg s₁.heap H):=⟨hKb,nsK hns,⟨mb,nsK hb,hbb⟩,let⟨mc,h1,h2⟩:=hlim;⟨mc,nsK h1,h2⟩⟩;have e0:Env0 P w K mg (kg s₁.heap H) callerA [] s₁ H:=⟨rfl,hM,λb o e=>uC e,le_of_eq (qK _ _),trivial,λb hb=>absurd (show b∈([]:List Addr)from hb) (by simp),hok,.of_eq hg⟩;have hBm:BmB (kg s₁.heap H) mg:=by
   obtain⟨bm,o,b1,b2,b3,b4,b5,b6⟩:=hbm;refine⟨bm,o,b1,b2,base_of b3 ?_,b4,b5,b6⟩;cases q:H bm with
   |none=>rfl
   |some u =>
    rcases hA bm u q with⟨e',_⟩|hm
    ·subst e';rw[ha]at b3;cases b3;cases b6
    ·rw[(hT bm hm).2]at b3;cases b3;cases b6
  refine codeAny_mono ((F _ hKb (nsK hns) hBm).run callerA [] s₁ H ⟨[.ref a],[]⟩ [.ref a] [.ref a] _ _ hr e0 (hbind s₁ (.ref a)) (.cons rfl .nil) (hsp H hS hTt)) λr s' h=>?_;cases r with
  |error e=>exact False.elim h
  |ok fl =>
   cases fl with
   |next=>exact False.elim h
   |brk=>exact False.elim h
   |cont=>exact False.elim h
   |ret u =>
    obtain⟨v,H',os,bare,un,hok',r',q⟩:=h;have q':v=.bl true:=q;subst q';obtain rfl:u=Value.bool true:=r';refine⟨rfl,⟨λb o e=>?_,λb o e=>?_⟩,os,bare⟩
    ·cases q:H b with
     |none=>exact .inl (un.keep b o e q (by intro z;exact absurd (show b∈([]:List Addr)from z) (by simp)) (by simp))
     |some u =>
      rcases hA b u q with⟨e',_,ob,xs,z⟩|hm
      ·subst z;have z2:=un.frzs b ob _ q;obtain⟨e1,_⟩:=hok b _ q;obtain⟨e2,_⟩:=hok' b _ z2;rw[e]at e1;cases e1;exact .inl e2
      ·obtain⟨⟨c,C⟩,e1⟩:=hT b hm;obtain⟨more,e2⟩:=un.tbls b _ (hTt b hm);have e3:s'.heap.get? b=some (tabObj (#[]++more)):=hok' b _ e2;rw[e]at e1;cases e1;exact .inr (.inl ⟨(C.tab e).isCodeTable,rfl,#[],more,rfl,e3⟩)
    ·exact un.there b o e (by simp)
 cases hk:K.lookup a with
 |some o =>
  have e:=KX a o hk;rw[ha]at e;cases e;refine core (λb=>if b∈tabs then some (.tbl #[])else none) (.inr ⟨_,vs.toArray,_,hk,rfl,rfl,rfl,by rw[size_toArray,lenV];exact hl,by simpa using rv⟩) (λb u z=>?_) (λt h=>if_pos h) λb o z=>?_
  ·by_cases hb:b∈tabs
   ·have z':=(if_pos hb).symm.trans z;cases z';exact(hT b hb).2
   ·have z':=(if_neg hb).symm.trans z;cases z'
  ·by_cases hb:b∈tabs
   ·exact .inr hb
   ·have z':=(if_neg hb).symm.trans z;cases z'
 |none =>
  refine core (λb=>if b=a then some (.frz {cls:=.type "list",data:=.seq vs.toArray} (.lst (ns.map V.int)))else if b∈tabs then some (.tbl #[])else none) (.inl (.inr ⟨{cls:=.type "list",data:=.seq vs.toArray},if_pos rfl⟩)) (λb u z=>?_) (λt h=>?_) λb o z=>?_
  ·by_cases hb:b=a
   ·have z':=(if_pos hb).symm.trans z;cases z';subst hb;exact⟨ha,by rw[length_map];exact hl,vs,_,rv,ha⟩
   ·have z1:=(if_neg hb).symm.trans z
    by_cases hm:b∈tabs
    ·have z':=(if_pos hm).symm.trans z1;cases z';exact(hT b hm).2
    ·have z':=(if_neg hm).symm.trans z1;cases z'
  ·have:t≠a:=λz=>naT (by rw[←z];exact h);rw[if_neg this,if_pos h]
  ·by_cases hb:b=a
   ·have z':=(if_pos hb).symm.trans z;exact .inl ⟨hb,hk,_,_,(Option.some.inj z').symm⟩
   ·have z1:=(if_neg hb).symm.trans z
    by_cases hm:b∈tabs
    ·exact .inr hm
    ·have z':=(if_neg hm).symm.trans z1;cases z'
theorem ut{l:PySem.W.OpenLaw}{n k:Nat}{q:Program}{loose:List Str}{XP:(Str→Option Value)→Heap→Prop}{YP:World→Heap→Prop}{d:DefRec}{K:Params→PySem.W.Frag}{sp:World→Sp}{x:Str}{tabs:List Addr}(hn:l.most=some n)(hn2:n≤sizeLine)(hdf:d.params.defaults=[])(hr:Room k callerA)(hY:∀(w:World) (h:Heap),YP w h→(K w.params).In h)(hT:∀(w:World) (h:Heap),YP w h→∀t∈tabs,h.get? t=some (tabObj #[]))(hC:∀w:World,∀t∈tabs,(∃c,codeHdIn (K w.params) c t=true)∧(K w.params).lookup t=none)(F:∀(w:World) (mg:Str→Option Value) (fa:Addr) (h:Heap),(K w.params).In h→h.Ns mainGlobals mg→mg d.name=some (.ref fa) →
   ∃fd:FuncData,(∀(s:Shared) (u:Value),BindsTo s fd ⟨[u],[]⟩ [(x,u)]) ∧
    ∀base:Heap,(K w.params).In base→base.Ns mainGlobals mg→BmB base mg→FnOk l.prog w (K w.params) mg base CX0 k fa fd [x] (sp w))(hsp:∀(w:World) (H:Hp) (a:Addr) (ns:List Int),ns.length≤n→SqL (K w.params) H a (ns.map V.int)→(∀t∈tabs,H t=some (.tbl #[]))→sp w [.ref a] H (λv _=>v=.bl true) λ_ _ _=>False):
  PySem.W.WalkO q loose XP YP l.row.toRowW d [] (λf vs=>PySem.call f vs):=by
 refine Att.mJ hn hdf λw s₀ s₁ mg mb fa o pm cd doc a vs ns G Y ho hd hcd hmg hobj hints hlen hg=>?_;have KX:=hY w _ Y;obtain⟨fd,hb,hF⟩:=F w mg fa _ KX G.T.g hmg;exact rM KX G.T.g G.T.b G.T.builtins G.T.nolimit hg (λt h=>⟨let⟨c,e⟩:=(hC w t h).1;⟨c,codeHd_of_K KX e⟩,hT w _ Y t h⟩) (λt h=>(hC w t h).2) G.T.bmain hobj hints (le_trans hlen hn2) hr hF hb λH hS hTt=>hsp w H a ns hlen hS hTt
theorem Fun.okT{P:Program}{w:World}{K:PySem.W.Frag}{mg:Str→Option Value}{base:Heap}{x qual:Str}{st:Stmt}{f c0:Addr}{fd:FuncData}{N ps:List Str}{k:Nat}{sp:Sp}(F:Fun K x qual st f fd)(hc:fd.code=.ref c0)(S:FnScope N ps (am st))(len:∀vs H Q E,sp vs H Q E→vs.length=ps.length)(hbody:∀(A:Around) (outer:List Env) (s:Shared) (H:Hp) (vs:List V) (Q:VK) (E:XK),Room k (A.deeper (envOfC qual (am st) s.heap.objs.size f (.ref c0)))→sp vs H Q E →
   ∃t,PSs (gQ CX0 P w K mg base N qual (am st) f (.ref c0) A outer s H E).nox (bz st) t∧t {nx:=λ_ H'=>Q .non H',rt:=Q} (start N vs) H):FnOk P w K mg base CX0 (k+1) f fd ps sp:=by
 obtain⟨oc,od,kV,doc,pm,an,cdv,ct,osl,rfl,lk,hcd⟩:=F.ex;obtain rfl:cdv=.ref c0:=hc;refine sv lk hcd S len λA outer s H vs Q E hr hsp=>?_;obtain⟨t,h,q⟩:=hbody A outer s H vs Q E hr hsp;exact⟨t,h.nox,q⟩
theorem BmB.sub{base base':Heap}{mg:Str→Option Value}(h:BmB base mg)(s:∀b o,base.get? b=some o→base'.get? b=some o):BmB base' mg:=let⟨bm,o,b1,b2,b3,r⟩:=h;⟨bm,o,b1,b2,s _ _ b3,r⟩
end L2
namespace TK
open PySem L2
def N12(i:Nat):Str:=(["Inside","Known","NoBack","NoMark","NoMatch","NoNode","NoReader","NotFile","NotFolder","NoTag","NoText","Taken"]:List Str).getD i ""
def W12:List Str:=["inside","known","no back","no mark","no match","no node","no reader","not file","not folder","no tag","no text","taken"]
structure Clss12(mg:Str→Option Value)(K:PySem.W.Frag)(B:Nat→Addr)(D:Addr):Prop where
 m:∀i,i<12→mg (N12 i)=some (.ref (B i))
 tre:mg "TreeError"=some (.ref D)
 base:PySem.W.ktsIn K D "BaseException"=true
structure One12(K:PySem.W.Frag)(B:Nat→Addr)(D:Addr)(i:Nat):Prop where
 lt:i<12
 xc:XI.eE K (B i)=true
 is:∀j,j<12→kitOne K (.ref (B i)) (.ref (B j))=some (decide (i=j))
 val:kitOne K (.ref (B i)) (.type "ValueError")=some true
 sub:subIn K (.ref (B i)) (.ref D)=some true
def rN(i:Nat):List Bool:=[decide (i=0),decide (i=1),decide (i=2),decide (i=3),decide (i=4),decide (i=5),decide (i=6),decide (i=7),decide (i=8),decide (i=9),decide (i=10),decide (i=11)]
theorem uu{i:Nat}(h:i<12):(rN i).count true=1∧(rN i)[i]?=some true∧∀m,m<i→(rN i)[m]?=some false:=by
 have:i=0∨i=1∨i=2∨i=3∨i=4∨i=5∨i=6∨i=7∨i=8∨i=9∨i=10∨i=11:=by omega
 rcases this with rfl|rfl|rfl|rfl|rfl|rfl|rfl|rfl|rfl|rfl|rfl|rfl<;>refine⟨by decide,by decide,?_⟩<;>decide
abbrev Z40(i:Nat):List V:=[.bl (decide (i=0)),.bl (decide (i=1)),.bl (decide (i=2)),.bl (decide (i=3))]
abbrev Z34(i:Nat):List V:=[.bl (decide (i=4)),.bl (decide (i=5)),.bl (decide (i=6))]
abbrev Z37(i:Nat):List V:=[.bl (decide (i=7)),.bl (decide (i=8)),.bl (decide (i=9))]
abbrev pC(i:Nat):List V:=[.bl (decide (i=10)),.bl (decide (i=11))]
abbrev Z70(i:Nat):List V:=[.bl (decide (i=0)),.bl (decide (i=1)),.bl (decide (i=2)),.bl (decide (i=3)),.bl (decide (i=4)),.bl (decide (i=5)),.bl (decide (i=6))]
abbrev uv(i:Nat):List V:=[.bl (decide (i=0)),.bl (decide (i=1)),.bl (decide (i=2)),.bl (decide (i=3)),.bl (decide (i=4)),.bl (decide (i=5)),.bl (decide (i=6)),.bl (decide (i=7)),.bl (decide (i=8)),.bl (decide (i=9))]
abbrev zO(i:Nat):List V:=[.bl (decide (i=0)),.bl (decide (i=1)),.bl (decide (i=2)),.bl (decide (i=3)),.bl (decide (i=4)),.bl (decide (i=5)),.bl (decide (i=6)),.bl (decide (i=7)),.bl (decide (i=8)),.bl (decide (i=9)),.bl (decide (i=10)),.bl (decide (i=11))]
abbrev Y9:List V:=[.str "inside",.str "known",.str "no back",.str "no mark",.str "no match",.str "no node",.str "no reader",.str "not file",.str "not folder"]
abbrev Y3:List V:=[.str "no tag",.str "no text",.str "taken"]
section
variable{P:Program}{w:World}{K:PySem.W.Frag}{mg:Str→Option Value}{base:Heap}
theorem _root_.L2.Fun.okM{x qual:Str}{st:Stmt}{f:Addr}{fd:FuncData}{N ps:List Str}{k:Nat}{sp:Sp}(F:Fun K x qual st f fd)(S:FnScope N ps (am st))(len:∀vs H Q E,sp vs H Q E→vs.length=ps.length)(hbody:∀(cdv:Value) (A:Around) (outer:List Env) (s:Shared) (H:Hp) (vs:List V) (Q:VK) (E:XK),RoomM k (A.deeper (PyProof.Rows.envOfC qual (am st) s.heap.objs.size f cdv))→sp vs H Q E →
   ∃t,PSs (lp CX0 P w K mg base N qual (am st) f cdv A outer s H E) (bz st) t∧t {nx:=λ_ H'=>Q .non H',rt:=Q} (start N vs) H):FnOkM P w K mg base CX0 (k+1) f fd ps sp:=by
 obtain⟨oc,od,kV,doc,pm,an,cdv,ct,osl,rfl,lk,hcd⟩:=F.ex;exact ye lk hcd S len λA outer s H vs Q E hr hsp=>hbody cdv A outer s H vs Q E hr hsp
def wu(B:Nat→Addr)(D:Addr)(K:PySem.W.Frag):Sp:=λvs H Q _=>∃ea i x,vs=[.ref ea]∧One12 K B D i∧H ea=some (.ext (XI.ng ea (B i)))∧W12[i]?=some x∧∀H',Same H H'→Q (.str x) H'
theorem lu:FnScope ["_law_kept","_law_kinds","_law_some"] ["_law_kept"] (am dN):=fsc
theorem uw{f D:Addr}{B:Nat→Addr}{fd:FuncData}(F:Fun K "_law_class" "_law_class" dN f fd)(T:Txt mg)(L:Clss12 mg K B D):FnOkM P w K mg base CX0 1 f fd ["_law_kept"] (wu B D K):=by
 have m0:mg "Inside"=some (.ref (B 0)):=L.m 0 (by decide);have m1:mg "Known"=some (.ref (B 1)):=L.m 1 (by decide);have m2:mg "NoBack"=some (.ref (B 2)):=L.m 2 (by decide);have m3:mg "NoMark"=some (.ref (B 3)):=L.m 3 (by decide);have m4:mg "NoMatch"=some (.ref (B 4)):=L.m 4 (by decide);have m5:mg "NoNode"=some (.ref (B 5)):=L.m 5 (by decide);have m6:mg "NoReader"=some (.ref (B 6)):=L.m 6 (by decide);have m7:mg "NotFile"=some (.ref (B 7)):=L.m 7 (by decide);have m8:mg "NotFolder"=some (.ref (B 8)):=L.m 8 (by decide);have m9:mg "NoTag"=some (.ref (B 9)):=L.m 9 (by decide);have m10:mg "NoText"=some (.ref (B 10)):=L.m 10 (by decide);have m11:mg "Taken"=some (.ref (B 11)):=L.m 11 (by decide);refine F.okM lu (λvs H Q E h=>?_) (λcdv A outer s H vs Q E hr h=>?_)
 ·obtain⟨ea,i,x,rfl,_⟩:=h;rfl
 ·obtain⟨ea,i,x,rfl,O,hea,hx,q⟩:=h;refine⟨_,ai (aJ (i:=1) lu.nd rfl (Or.inl rfl) (ba (aa (aF bi rfl T.isin boot_isinstance (aa (pv 0) (aa (bJ (v:=.ref (B 0)) rfl m0 rfl) af))) (aa (aF bi rfl T.isin boot_isinstance (aa (pv 0) (aa (bJ (v:=.ref (B 1)) rfl m1 rfl) af))) (aa (aF bi rfl T.isin boot_isinstance (aa (pv 0) (aa (bJ (v:=.ref (B 2)) rfl m2 rfl) af))) (aa (aF bi rfl T.isin boot_isinstance (aa (pv 0) (aa (bJ (v:=.ref (B 3)) rfl m3 rfl) af))) af)))))) (ai (aJ (i:=1) lu.nd rfl (Or.inl rfl) (aI cZ (pv 1) (ba (aa (aF bi rfl T.isin boot_isinstance (aa (pv 0) (aa (bJ (v:=.ref (B 4)) rfl m4 rfl) af))) (aa (aF bi rfl T.isin boot_isinstance (aa (pv 0) (aa (bJ (v:=.ref (B 5)) rfl m5 rfl) af))) (aa (aF bi rfl T.isin boot_isinstance (aa (pv 0) (aa (bJ (v:=.ref (B 6)) rfl m6 rfl) af))) af)))))) (ai (aJ (i:=1) lu.nd rfl (Or.inl rfl) (aI cZ (pv 1) (ba (aa (aF bi rfl T.isin boot_isinstance (aa (pv 0) (aa (bJ (v:=.ref (B 7)) rfl m7 rfl) af))) (aa (aF bi rfl T.isin boot_isinstance (aa (pv 0) (aa (bJ (v:=.ref (B 8)) rfl m8 rfl) af))) (aa (aF bi rfl T.isin boot_isinstance (aa (pv 0) (aa (bJ (v:=.ref (B 9)) rfl m9 rfl) af))) af)))))) (ai (aJ (i:=1) lu.nd rfl (Or.inl rfl) (aI cZ (pv 1) (ba (aa (aF bi rfl T.isin boot_isinstance (aa (pv 0) (aa (bJ (v:=.ref (B 10)) rfl m10 rfl) af))) (aa (aF bi rfl T.isin boot_isinstance (aa (pv 0) (aa (bJ (v:=.ref (B 11)) rfl m11 rfl) af))) af))))) (ai (aX (PW.pt (pw_or (au dH (fk plainAttrs_list PySem.F.slot_list_count PySem.F.type_list_count sU (pv 1) (aa fi af)) ak (aD _)) (pw_or1 (gC (gB (aF bi rfl T.isin boot_isinstance (aa (pv 0) (aa (gP (v:=.ty "ValueError") rfl T.ValueError PyProof.Rows.Boot.«ValueError» rfl) af))) (λ_=>rfl)))))) (ao (ax aC)) aE) (ai (aJ (i:=2) lu.nd rfl (Or.inl rfl) (ba (aa aC (aa aC (aa aC (aa aC (aa aC (aa aC (aa aC (aa aC (aa aC af))))))))))) (ao (ax (aB bx (aI cZ (pv 2) (ba (aa aC (aa aC (aa aC af))))) (fk plainAttrs_list PySem.F.slot_list_index PySem.F.type_list_index sV (pv 1) (aa fi af)) (λ_ _=>rfl))))))))),?_⟩;have e:∀j,j<12→kitOne K (.ref (B i)) (.ref (B j))=some (decide (i=j)):=O.is;refine⟨_,rfl,ea,B i,_,_,rfl,hea,O.xc,.inr ⟨_,rfl,e 0 (by decide)⟩,_,rfl,ea,B i,_,_,rfl,hea,O.xc,.inr ⟨_,rfl,e 1 (by decide)⟩,_,rfl,ea,B i,_,_,rfl,hea,O.xc,.inr ⟨_,rfl,e 2 (by decide)⟩,_,rfl,ea,B i,_,_,rfl,hea,O.xc,.inr ⟨_,rfl,e 3 (by decide)⟩,aq (show 4≤1000 by decide),λl0 hl0=>?_⟩;have s0:=ae (o:=.lst (Z40 i)) hl0;have g0:upd H l0 (.lst (Z40 i)) l0=some (.lst (Z40 i)):=ac;generalize upd H l0 (.lst (Z40 i))=G0 at s0 g0⊢;refine⟨_,rfl,_,rfl,ea,B i,_,_,rfl,s0 _ _ hea,O.xc,.inr ⟨_,rfl,e 4 (by decide)⟩,_,rfl,ea,B i,_,_,rfl,s0 _ _ hea,O.xc,.inr ⟨_,rfl,e 5 (by decide)⟩,_,rfl,ea,B i,_,_,rfl,s0 _ _ hea,O.xc,.inr ⟨_,rfl,e 6 (by decide)⟩,aq (show 3≤1000 by decide),λk1 hk1=>?_⟩;have u1:=s0.trans (ae (o:=.lst (Z34 i)) hk1);refine⟨l0,k1,(Z40 i),(Z34 i),rfl,rfl,bf hk1 g0,ac,aq (show 7≤1000 by decide),λl1 hl1=>?_⟩;have s1:=u1.trans (ae (o:=.lst ((Z40 i)++(Z34 i))) hl1);have g1:upd (upd G0 k1 (.lst (Z34 i))) l1 (.lst ((Z40 i)++(Z34 i))) l1=some (.lst (Z70 i)):=ac;generalize upd (upd G0 k1 (.lst (Z34 i))) l1 (.lst ((Z40 i)++(Z34 i)))=G1 at s1 g1⊢;refine⟨_,rfl,_,rfl,ea,B i,_,_,rfl,s1 _ _ hea,O.xc,.inr ⟨_,rfl,e 7 (by decide)⟩,_,rfl,ea,B i,_,_,rfl,s1 _ _ hea,O.xc,.inr ⟨_,rfl,e 8 (by decide)⟩,_,rfl,ea,B i,_,_,rfl,s1 _ _ hea,O.xc,.inr ⟨_,rfl,e 9 (by decide)⟩,aq (show 3≤1000 by decide),λk2 hk2=>?_⟩;have u2:=s1.trans (ae (o:=.lst (Z37 i)) hk2);refine⟨l1,k2,(Z70 i),(Z37 i),rfl,rfl,bf hk2 g1,ac,aq (show 10≤1000 by decide),λl2 hl2=>?_⟩;have s2:=u2.trans (ae (o:=.lst ((Z70 i)++(Z37 i))) hl2);have g2:upd (upd G1 k2 (.lst (Z37 i))) l2 (.lst ((Z70 i)++(Z37 i))) l2=some (.lst (uv i)):=ac;generalize upd (upd G1 k2 (.lst (Z37 i))) l2 (.lst ((Z70 i)++(Z37 i)))=G2 at s2 g2⊢;refine⟨_,rfl,_,rfl,ea,B i,_,_,rfl,s2 _ _ hea,O.xc,.inr ⟨_,rfl,e 10 (by decide)⟩,_,rfl,ea,B i,_,_,rfl,s2 _ _ hea,O.xc,.inr ⟨_,rfl,e 11 (by decide)⟩,aq (show 2≤1000 by decide),λk3 hk3=>?_⟩;have u3:=s2.trans (ae (o:=.lst (pC i)) hk3);refine⟨l2,k3,(uv i),(pC i),rfl,rfl,bf hk3 g2,ac,aq (show 12≤1000 by decide),λl3 hl3=>?_⟩;have s3:=u3.trans (ae (o:=.lst ((uv i)++(pC i))) hl3);have g3:upd (upd G2 k3 (.lst (pC i))) l3 (.lst ((uv i)++(pC i))) l3=some (.lst (zO i)):=ac;generalize upd (upd G2 k3 (.lst (pC i))) l3 (.lst ((uv i)++(pC i)))=G3 at s3 g3⊢;obtain⟨b1,b2,b3⟩:=uu O.lt;have g6:G3 l3=some (.lst ((rN i).map V.bl)):=g3;refine⟨_,rfl,.inl ⟨rfl,_,SqL.of g6⟩,l3,rN i,rfl,rfl,g6,rfl,_,rfl,?_⟩;rw[b1];refine aM ⟨_,rfl,ea,B i,_,_,rfl,s3 _ _ hea,O.xc,.inl ⟨_,rfl,O.val⟩,_,rfl,aM ?_⟩;refine⟨aq (show 9≤1000 by decide),λk4 hk4=>?_⟩;have s4:=s3.trans (ae (o:=.lst Y9) hk4);have g7:=bf (o:=.lst Y9) hk4 g6;have g8:upd G3 k4 (.lst Y9) k4=some (.lst Y9):=ac;generalize upd G3 k4 (.lst Y9)=G4 at s4 g7 g8⊢;refine⟨_,rfl,aq (show 3≤1000 by decide),λk5 hk5=>?_⟩;have s5:=s4.trans (ae (o:=.lst Y3) hk5);refine⟨k4,k5,Y9,Y3,rfl,rfl,bf hk5 g8,ac,aq (show 12≤1000 by decide),λk6 hk6=>?_⟩;have s6:=s5.trans (ae (o:=.lst (Y9++Y3)) hk6);have g9:upd (upd G4 k5 (.lst Y3)) k6 (.lst (Y9++Y3)) k6=some (.lst (W12.map V.str)):=ac;have g10:=bf (o:=.lst (Y9++Y3)) hk6 (bf (o:=.lst Y3) hk5 g7);generalize upd (upd G4 k5 (.lst Y3)) k6 (.lst (Y9++Y3))=G5 at s6 g9 g10⊢;refine⟨_,rfl,.inl ⟨rfl,_,SqL.of g10⟩,l3,i,rN i,rfl,rfl,g10,(show 12≤1000 by decide),b2,b3,k6,_,_,_,rfl,rfl,SqL.of g9,gU (v:=.str x) ?_,q _ s6⟩;rw[getElem?_map,hx];rfl
def eZ(f:Addr)(spL:Sp)(B:Nat→Addr)(D:Addr)(K:PySem.W.Frag):Sp:=λvs H Q _=>vs=[.ref f]∧spL [] H Q (λcl _ H1=>∃i x,cl=.ref (B i)∧One12 K B D i∧W12[i]?=some x∧∀H2,Same H1 H2→Q (.str x) H2)
theorem ux:FnScope ["_law_deed_here","e"] ["_law_deed_here"] (am eX):=fsc
theorem qD{g f fC D:Addr}{B:Nat→Addr}{fdg fdL fdC:FuncData}{oc:Value}{od:Option Addr}{osl:Array (Option Value)}{spL:Sp}{k:Nat}(F:Fun K "_law_told" "_law_told" eX g fdg)(L:Clss12 mg K B D)(ho:base.get? f=some ⟨oc,od,.func fdL,osl⟩)(FL:FnOk P w K mg base (CX1 P w) (k+1) f fdL [] spL)(hb:aG K fdL [] [])(GC:FnOkM P w K mg base CX0 1 fC fdC ["_law_kept"] (wu B D K))(mC:mg "_law_class"=some (.ref fC))(kC:keepIn K (.ref fC)=true)(bC:aG K fdC ["_law_kept"] [])(mono:∀(H:Hp) (Q:VK) (E E':XK),(∀c v H',E c v H'→E' c v H')→spL [] H Q E→spL [] H Q E'):FnOk P w K mg base CX0 (k+2) g fdg ["_law_deed_here"] (eZ f spL B D K):=by
 refine F.ok ux (λvs H Q E h=>?_) (λcdv A outer s H vs Q E hr h=>?_)
 ·obtain⟨rfl,_⟩:=h;rfl
 ·obtain⟨rfl,h⟩:=h;refine⟨_,ao (vR ⟨λ_ _ h=>h,rfl,rfl⟩ (l:=1) (n:="e") (T:=D) ux.nd rfl rfl (λpl xe E hx _=>ao (ax (rL (pv 0) ho FL hr hb hx))) (λpl v=>ao (ax (uk GC (RoomM.mono ⟨hr.dp,hr.un⟩ (by omega)) rfl mC kC bC .nil aK (aa (pv 1) af)))) rfl L.tre L.base),?_⟩;refine⟨_,rfl,rfl,mono _ _ _ _ (λc v H1 h1=>?_) h⟩;obtain⟨i,x,rfl,O,hx,hq⟩:=h1;refine⟨B i,rfl,O.sub,λea σ' hσ hea=>?_⟩;obtain⟨y0,y1,rfl⟩:=xa hσ;exact⟨_,rfl,ea,i,x,rfl,O,ac,hx,λH2 s2=>hq H2 ((ae hea).trans s2)⟩
end
def cB:Str:=("_law_did"++".<locals>.")++"<lambda>"
theorem lk2{n m x:Str}{c d c':Addr}(h:[(n,c),(m,d)].lookup x=some c'):(x=n∧c'=c)∨(x=m∧c'=d):=by
 by_cases e:x=n
 ·subst e;rw[lookup_cons,beq_self_eq_true]at h;exact .inl ⟨rfl,(Option.some.inj h).symm⟩
 ·rw[lookup_cons,show(x==n)=false by simpa using e]at h
  by_cases e2:x=m
  ·subst e2;rw[lookup_cons,beq_self_eq_true]at h;exact .inr ⟨rfl,(Option.some.inj h).symm⟩
  ·rw[lookup_cons,show(x==m)=false by simpa using e2]at h
   cases h
theorem zP{n m x y:Str}{z i j:Nat}{c:Addr}(hij:i≠j)(h1:[(n,(z+i:Addr)),(m,(z+j:Addr))].lookup x=some c)(h2:[(n,(z+i:Addr)),(m,(z+j:Addr))].lookup y=some c):x=y:=by
 have no:∀{p q:Nat},p≠q→c=z+p→c=z+q→False:=λhn e1 e2=>hn (Nat.add_left_cancel (e1.symm.trans e2:z+_=z+_));rcases lk2 h1 with⟨a,b⟩|⟨a,b⟩<;>rcases lk2 h2 with⟨a',b'⟩|⟨a',b'⟩<;>first|exact a.trans a'.symm|exact(no hij b b').elim|exact(no hij b' b).elim
theorem uy{P:Program}{w:World}{K:PySem.W.Frag}{mg:Str→Option Value}{base:Heap}{N:List Str}{qual:Str}{scope:Scope}{f:Addr}{cd:Value}{cl:List (Str×Addr)}{A:Around}{outer:List Env}{s:Shared}{H:Hp}{E:XK} :
  Lv (ul (CX1 P w) P w K mg base N qual scope f cd cl A outer s H E) E:=⟨rfl,rfl,rfl,rfl⟩
def iS(C CT:Addr)(cls:TW.Wd→Addr)(fv:List V):Hp→VK→XK→Prop:=λH Q E=>∃p sa dx fl,fv=[.ref p,.ref sa]∧H p=some (.ins C dx fl)∧fl.lookup ("tag":Str)=none∧fl.lookup ("do":Str)=none ∧
 ((∃x,fX H sa x∧gM C CT [.ref p,.str x] H Q E)∨∃dd,H sa=some (.tup (aS dd))∧nN C cls [.ref p,.ref sa] H Q E)
def rO(c:Addr)(inner:Hp→VK→XK→Prop):Sp:=λvs H Q E=>vs=[]∧H c=some (.ext (cdφ c cB))∧inner H Q E
theorem pD{C CT:Addr}{cls:TW.Wd→Addr}{fv:List V}{H:Hp}{Q:VK}{E E':XK}(hm:∀c v H',E c v H'→E' c v H')(h:iS C CT cls fv H Q E):iS C CT cls fv H Q E':=by
 obtain⟨p,sa,dx,fl,e,h1,h2,h3,h⟩:=h;refine⟨p,sa,dx,fl,e,h1,h2,h3,?_⟩;rcases h with⟨x,hx,p,ft,t,d,pl,al,zf,z,gs,es,as,y,e,a1,a2,a3,a4,a5,a6,a7⟩|⟨dd,hd,p,ft,t,d,pl,al,zf,z,gs,es,as,sa,d2,e,a1,a2,a3,a4,a5,a6,a7⟩
 ·exact .inl ⟨x,hx,p,ft,t,d,pl,al,zf,z,gs,es,as,y,e,a1,a2,a3,a4,a5,a6,λhb H' s=>hm _ _ _ (a7 hb H' s)⟩
 ·exact .inr ⟨dd,hd,p,ft,t,d,pl,al,zf,z,gs,es,as,sa,d2,e,a1,a2,a3,a4,a5,a6,λwd H' s h=>hm _ _ _ (a7 wd H' s h)⟩
structure TolD(K:PySem.W.Frag)(mg:Str→Option Value)(base:Heap)(cL PL g fC Dd:Addr)(fdg fdC:FuncData)(B:Nat→Addr):Prop where
 KB:K.In base
 T:Txt mg
 C0:CodeHd base cL PL
 Bm:BmB base mg
 FT:Fun K "_law_told" "_law_told" eX g fdg
 mT:mg "_law_told"=some (.ref g)
 bT:aG K fdg ["_law_deed_here"] []
 FC:Fun K "_law_class" "_law_class" dN fC fdC
 mC:mg "_law_class"=some (.ref fC)
 bC:aG K fdC ["_law_kept"] []
 L:Clss12 mg K B Dd
section
variable{P:Program}{w:World}{K:PySem.W.Frag}{mg:Str→Option Value}{base:Heap}{f cL PL g fC Dd:Addr}{fdg fdC:FuncData}{B:Nat→Addr}
theorem za:FnScope ["_law_ledger","_law_step_here"] ["_law_ledger","_law_step_here"] (am iF):=fsc
def ip(PL C CT Dd:Addr)(cls:TW.Wd→Addr)(B:Nat→Addr)(K:PySem.W.Frag):Sp:=λvs H Q _=>∃p sa,vs=[.ref p,.ref sa]∧pB PL cB [0,1] (λf c fv=>eZ f (rO c (iS C CT cls fv)) B Dd K) [some (.ref p),some (.ref sa)] H Q
theorem yh{fd fdT fdD:FuncData}{C CT fT fD:Addr}{cls:TW.Wd→Addr}(F:Fun K "_law_did" "_law_did" iF f fd)(hc:fd.code=.ref cL)(O:TolD K mg base cL PL g fC Dd fdg fdC B)(T:LCls K mg C)(MT:Meth K C "tag" fT)(bT:aG K fdT ["self","name"] [])(MD:Meth K C "do" fD)(bD:aG K fdD ["self","deed"] [])(CA:∀base',K.In base'→BmB base' mg→FnOk P w K mg base' (CX1 P w) 2 fT fdT ["self","name"] (gM C CT)∧FnOk P w K mg base' (CX1 P w) 5 fD fdD ["self","deed"] (nN C cls)):FnOk P w K mg base CX0 8 f fd ["_law_ledger","_law_step_here"] (ip PL C CT Dd cls B K):=by
 refine F.okT hc za (λvs H Q E h=>?_) (λA outer s H vs Q E hr h=>?_)
 ·obtain⟨p,sa,rfl,_⟩:=h;rfl
 ·obtain⟨p,sa,rfl,h⟩:=h;have kT:=O.FT.kp;refine⟨_,ao (ax (jZ (k:=7) (cl:=[("_law_step_here",s.heap.objs.size+2),("_law_ledger",s.heap.objs.size+1)]) (fs:=["_law_ledger","_law_step_here"]) (js:=[0,1]) (qual:=cB) (spG:=λf c fv=>eZ f (rO c (iS C CT cls fv)) B Dd K) O.C0 rfl O.Bm rfl rfl rfl ?O ?hG hr rfl O.mT kT O.bT)),h⟩
  case O=>exact⟨rfl,λx c h=>by rcases lk2 h with⟨rfl,rfl⟩|⟨rfl,rfl⟩<;>rfl,λi j x h1 h2=>by
   match i,h1,h2 with
   |0,h1,h2=>cases h1;cases h2;exact⟨rfl,rfl,rfl,_,rfl⟩
   |1,h1,h2=>cases h1;cases h2;exact⟨rfl,rfl,rfl,_,rfl⟩
   | i+2,h1,h2=>simp at h1,λ_=>rfl⟩
  case hG =>
   intro base' f' c pm ctv fv sub ho C';obtain⟨v0,v1,rfl⟩:∃v u,fv=[v,u]:=by
    have:=C'.len
    match fv,this with
    |[v,u],_=>exact⟨v,u,rfl⟩
   obtain⟨GT,GD⟩:=CA base' (O.KB.keeps sub) (O.Bm.sub sub);refine qD O.FT O.L ho (qC (k:=5) (ps:=[]) (fs:=["_law_ledger","_law_step_here"]) (fv:=[v0,v1]) ho (λvs H Q E h=>h.2.1) ⟨rfl,rfl,rfl,by decide +kernel,(λx hx=>by cases hx),nodup_nil,λx h=>?_,λx y c h1 h2=>zP (by decide) h1 h2⟩ C' (λvs H Q E h=>by obtain⟨rfl,_⟩:=h;rfl) (λA outer s H vs Q E hr h=>?_)) (.all λus hl=>match us,hl with | [],_=>rfl) (uw O.FC O.T O.L) O.mC O.FC.kp O.bC (λH Q E E' hm h=>?_)
   ·have:=(by decide +kernel:∀y∈_,y.2=NameKind.free→y.1=("_law_ledger":Str)∨y.1=("_law_step_here":Str)) _ (PySem.mem_of_lookup h) rfl;have e:x=("_law_ledger":Str)∨x=("_law_step_here":Str):=this;rcases e with rfl|rfl
    ·exact⟨_,rfl⟩
    ·exact⟨_,rfl⟩
   ·obtain⟨rfl,hc,p,sa,dx,fl,efv,hp,n1,n2,h⟩:=h;have e0:v0=.ref p:=by injection efv
    have e1:v1=.ref sa:=by injection efv with _ h;injection h
    subst e0 e1;have hr2:Room 2 _:=hr.mono (by decide);refine⟨_,fj (au cD (aB aA (pv 1) ak (λ_ _=>rfl)) aC (aD _)) (dI (E:=E) (pv 0) T.cl MT GT hr2 bT .nil (cy uy) (aa (aB aA (pv 1) ak (λ_ _=>rfl)) af)) (dI (E:=E) (pv 0) T.cl MD GD hr bD .nil (cy uy) (aa (pv 1) af)),?_⟩;rcases h with⟨x,hx,h⟩|⟨dd,hd,h⟩
    ·have hx':H sa=some (.tup [.str "tag",.str x]):=hx;refine⟨_,rfl,sa,_,_,_,rfl,rfl,SqT.of hx',rfl,rfl,_,rfl,?_⟩;rw[decide_eq_true rfl];exact be ⟨_,rfl,p,dx,fl,rfl,hp,n1,_,rfl,sa,_,_,_,rfl,rfl,SqT.of hx',rfl,h⟩
    ·obtain⟨y,hy,ny⟩:=wq dd;refine⟨_,rfl,sa,_,_,_,rfl,rfl,SqT.of hd,hy,rfl,_,rfl,?_⟩;rw[decide_eq_false (by intro h;exact ny (by injection h))];exact aM ⟨_,rfl,p,dx,fl,rfl,hp,n2,_,rfl,h⟩
   ·exact⟨h.1,h.2.1,pD hm h.2.2⟩
def ka(C CB:Addr):Sp:=λvs H Q E=>∃p ft t d pl al zf z gs es as,vs=[.ref p]∧LAt C H p ft t d pl al zf z gs es as∧(∀e∈as,∃y,e.xs[0]?=some y)∧es.length≤200 ∧
 (∀es' e y q H',as=es'++[e]→e.xs[0]?=some y→LAt C H' p ft e.ta e.da pl al zf e.z e.gs (es++[⟨q,e.sa,t,d,e.xs,z,gs⟩]) es'→cA H H'→Off [p,pl,al] H H'→Q y H')∧(as=[]→∀H',Same H H'→E (.ref CB) none H')
theorem zc:FnScope ["self"] ["self"] (am dR):=fsc
theorem rP{f C CB fP:Addr}{fd fdP:FuncData}(F:Fun K "forth" "Ledger.forth" dR f fd)(T:LCls K mg C)(MP:Meth K C "pass_over" fP)(GP:FnOk P w K mg base (CX1 P w) 1 fP fdP ["self","source","target"] (qy C CB))(bP:aG K fdP ["self","source","target"] []):FnOk P w K mg base (CX1 P w) 2 f fd ["self"] (ka C CB):=by
 refine F.okX zc (λvs H Q E h=>?_) (λcdv A outer s H vs Q E hr h=>?_)
 ·obtain⟨p,ft,t,d,pl,al,zf,z,gs,es,as,rfl,_⟩:=h;rfl
 ·refine⟨_,ao (ax (dI (E:=E) (pv 0) T.cl MP GP hr bP .nil (cy bO) (aa (bh (pv 0) rfl) (aa (bh (pv 0) rfl) af)))),?_⟩;obtain⟨p,ft,t,d,pl,al,zf,z,gs,es,as,rfl,L,hx,hl,qo,qE⟩:=h;obtain⟨dx,hp⟩:=L.ob;refine⟨_,rfl,p,dx,_,rfl,hp,ci (by decide +kernel) (by decide +kernel) (by decide +kernel) (by decide +kernel) (by decide +kernel),_,rfl,p,C,dx,_,_,rfl,hp,T.cl,T.n4,qu,_,rfl,p,C,dx,_,_,rfl,hp,T.cl,T.n3,li,?_⟩;refine⟨p,dx,ft,t,d,pl,al,al,pl,z,gs,as,es,rfl,hp,L.tr,L.tg,L.ah,L.ps,symm L.ne,λe he=>⟨L.ea e he,hx e he⟩,hl,λss' e y q H' e0 hy p' l' t' E' k o=>?_,qE⟩;have Ee:=(L.ea e (by rw[e0];simp)).stay k;have old:∀x∈ss',EntAt H' x:=λx hx=>(L.ea x (by rw[e0];exact mem_append_left _ hx)).stay k;have new:∀x∈es++[⟨q,e.sa,t,d,e.xs,z,gs⟩],EntAt H' x:=λx hx=>by
   rcases mem_append.mp hx with h|h
   ·exact(L.ep x h).stay k
   ·have ex:x=_:=mem_singleton.mp h;rw[ex];exact E'
  exact qo ss' e y q H' e0 hy ⟨⟨dx,p'⟩,L.tf.stay k,Ee.tr,Ee.tg,t',l',L.ne,new,old⟩ k λb o' h hb=>o b o' h (λz=>hb (by simp only[mem_cons,not_mem_nil,or_false]at z⊢;exact z.imp id Or.symm))
end
def lV(g:Str×(Addr×ZN)):Str×List Nd:=(g.1,nds g.2.2)
def fY(gs hs:TG):Prop:=gs.map lV=hs.map lV
theorem fY.names{gs hs:TG}(h:fY gs hs):gs.map (·.1)=hs.map (·.1):=by
 have:=congrArg (List.map Prod.fst) h;rw[map_map,map_map]at this;exact this
theorem fY.put{gs hs:TG}(h:fY gs hs){x:Str}{v u:Addr×ZN}(e:nds v.2=nds u.2):fY (cP gs x v) (cP hs x u):=by
 have en:=h.names;have hn:((gs.any λg=>decide (g.1=x))=true)↔((hs.any λg=>decide (g.1=x))=true):=by rw[je,je,en]
 unfold fY cP
 by_cases hx:(gs.any λg=>decide (g.1=x))=true
 ·rw[if_pos hx,if_pos (hn.mp hx),map_map,map_map];have f:∀(w:Addr×ZN),(lV∘λg:Str×(Addr×ZN)=>if g.1=x then (g.1,w)else g)=(λk:Str×List Nd=>if k.1=x then (k.1,nds w.2)else k)∘lV:=λw=>by
   funext g
   show lV (if g.1=x then (g.1,w)else g)=if g.1=x then (g.1,nds w.2)else lV g
   by_cases hg:g.1=x
   ·rw[if_pos hg,if_pos hg];rfl
   ·rw[if_neg hg,if_neg hg]
  rw[f v,f u,←map_map,←map_map,h,e]
 ·rw[if_neg hx,if_neg (λz=>hx (hn.mpr z)),map_append,map_append,h];show _++[(x,nds v.2)]=_++[(x,nds u.2)];rw[e]
theorem fY.get{gs hs:TG}(h:fY gs hs){g:Str×(Addr×ZN)}(hg:g∈gs):∃k∈hs,k.1=g.1∧nds k.2.2=nds g.2.2:=by
 have:lV g∈hs.map lV:=by rw[←h];exact mem_map.mpr ⟨g,hg,rfl⟩
 obtain⟨k,hk,e⟩:=mem_map.mp this;have e1:(k.1,nds k.2.2)=(g.1,nds g.2.2):=e;injection e1 with e1 e2
 exact⟨k,hk,e1,e2⟩
theorem fY.symm{gs hs:TG}(h:fY gs hs):fY hs gs:=Eq.symm h
def gb(H:Hp)(sa:Addr):Prop:=(∃x,x∈cO∧fX H sa x)∨∃dd,H sa=some (.tup (aS dd))∧bR dd
inductive Beh(H:Hp)(sa n n1 t' d':Addr)(z':ZN)(gs':TG):V→Prop where
 |bad:fX H sa "Bad"→n1=n→Beh H sa n n1 t' d' z' gs' (.str "no tag")
 |tag (x:Str) (d1:Addr):x∈cO→x≠"Bad"→fX H sa x→H n1=some (.tup [.ref t',.ref d1])→Tags H d1 (cP gs' x (t',z'))→Beh H sa n n1 t' d' z' gs' (.bl (decide (x∈gs'.map (·.1))))
 |told (dd:TW.Deed Str) (t1:Addr) (us:ZN):H sa=some (.tup (aS dd))→bR dd→TW.Told (nds z') dd (.inr (nds us))→Tre H t1 us→H n1=some (.tup [.ref t1,.ref d'])→Beh H sa n n1 t' d' z' gs' .non
 |refused (dd:TW.Deed Str) (wd:TW.Wd):H sa=some (.tup (aS dd))→bR dd→TW.Told (nds z') dd (.inl wd)→n1=n→Beh H sa n n1 t' d' z' gs' (.str (iO wd))
def bw:TW.Wd→Nat
 |.inside=>0
 |.known=>1
 |.noNode=>5
 |.notFile=>7
 |.notFolder=>8
 |.taken=>11
theorem pE(wd:TW.Wd):W12[bw wd]?=some (iO wd):=by cases wd<;>rfl
theorem aV.ne{Pt:Addr}{q:Str}{H H':Hp}(T:aN H Pt q)(o:aV Pt H H'){b:Addr}{u:HO}(e:H b=some u)(n:∀ps,u≠.tbl ps):H' b=some u:=o b u (λz=>by
 obtain⟨ps,h1,_⟩:=T;rw[z,h1]at e;exact n ps (Option.some.inj e).symm) e
section
variable{Pt:Addr}{q:Str}{H H':Hp}
theorem aV.tup(T:aN H Pt q)(o:aV Pt H H'){b:Addr}{xs:List V}(h:H b=some (.tup xs)):H' b=some (.tup xs):=aV.ne T o h λps h=>(by cases h)
theorem aV.tre(T:aN H Pt q)(o:aV Pt H H'){t:Addr}{z:ZN}(h:Tre H t z):Tre H' t z:=⟨aV.tup T o h.tup,λy hy=>aV.tup T o (h.nod y hy),h.tr,h.len⟩
theorem aV.tags(T:aN H Pt q)(o:aV Pt H H'){d:Addr}{gs:TG}(h:Tags H d gs):Tags H' d gs:=by
 refine⟨?_,λg hg=>aV.tre T o (h.at' g hg),h.nd,h.len⟩;rcases h.dct with e|⟨u,e⟩
 ·exact .inl (aV.ne T o e λps h=>(by cases h))
 ·exact .inr ⟨u,aV.ne T o e λps h=>(by cases h)⟩
theorem aV.ent(T:aN H Pt q)(o:aV Pt H H'){e:Ent}(h:EntAt H e):EntAt H' e:=⟨aV.tup T o h.ob,aV.tup T o h.st,aV.tre T o h.tr,aV.tags T o h.tg⟩
theorem aV.lat(T:aN H Pt q)(o:aV Pt H H'){C p ft t d pl al:Addr}{zf z:ZN}{gs:TG}{es as:List Ent}(h:LAt C H p ft t d pl al zf z gs es as):LAt C H' p ft t d pl al zf z gs es as :=
 ⟨let⟨dx,e⟩:=h.ob;⟨dx,aV.ne T o e λps h=>(by cases h)⟩,aV.tre T o h.tf,aV.tre T o h.tr,aV.tags T o h.tg,aV.ne T o h.ps λps h=>(by cases h),aV.ne T o h.ah λps h=>(by cases h),h.ne,λe he=>aV.ent T o (h.ep e he),λe he=>aV.ent T o (h.ea e he)⟩
theorem ap(T:aN H Pt q)(s:cA H H'):aN H' Pt q:=by
 obtain⟨ps,h1,h2,h3⟩:=T;refine⟨ps,s _ _ h1 (λ_ h=>by cases h) (λ_ _ _ h=>by cases h),h2,λpos cv e=>?_⟩;obtain⟨c,e1,e2⟩:=h3 pos cv e;exact⟨c,e1,s _ _ e2 (λ_ h=>by cases h) (λ_ _ _ h=>by cases h)⟩
end
theorem pF{x:Str}(h:x∈cO):x.length≤100∧(reprText x).length≤300∧(dE x=true↔x≠"Bad"):=by
 have e:x="a"∨x="one"∨x="two"∨x="Bad":=by simpa [cO]using h
 rcases e with rfl|rfl|rfl|rfl<;>refine⟨by decide +kernel,by decide +kernel,?_⟩<;>decide +kernel
def Kp(PL p pl:Addr)(H H':Hp):Prop:=∀b u,H b=some u→b≠PL→b≠p→b≠pl→H' b=some u
section
variable{PL C Dd p sa tb t d pl al:Addr}{B:Nat→Addr}{K:PySem.W.Frag}{H:Hp}{Q:VK}{zb z:ZN}{gs:TG}{es as:List Ent}
theorem uz(T:aN H PL cB)(O9:One12 K B Dd 9)(O:∀wd,One12 K B Dd (bw wd))(L:LAt C H p tb t d pl al zb z gs es as)(hz:z.length≤29)(hel:es.length≤200)(hgl:gs.length<50)(hs:gb H sa)(q1:∀x,x∈cO→fX H sa x→x≠"Bad"→∀e sa' d1 al' H',H al'=none→LAt C H' p tb t d1 pl al' zb z (cP gs x (t,z)) (es++[⟨e,sa',t,d,[.str "tag",.str x],z,gs⟩]) []→Kp PL p pl H H'→aN H' PL cB→Q (.bl (decide (x∈gs.map (·.1)))) H')(q2:fX H sa "Bad"→∀H',aV PL H H'→aN H' PL cB→Q (.str "no tag") H')(q3:∀dd,H sa=some (.tup (aS dd))→bR dd→∀t1 us e al' H',H al'=none→TW.Told (nds z) dd (.inr (nds us))→LAt C H' p tb t1 d pl al' zb us gs (es++[⟨e,sa,t,d,aS dd,z,gs⟩]) []→Kp PL p pl H H'→aN H' PL cB→Q .non H')(q4:∀dd,H sa=some (.tup (aS dd))→bR dd→∀wd H',TW.Told (nds z) dd (.inl wd)→aV PL H H'→aN H' PL cB→Q (.str (iO wd)) H'):
  pB PL cB [0,1] (λf c fv=>eZ f (rO c (iS C (B 9) (λwd=>B (bw wd)) fv)) B Dd K) [some (.ref p),some (.ref sa)] H Q:=by
 refine⟨T,[.ref p,.ref sa],rfl,λf c H1 off tq hc _=>⟨rfl,rfl,hc,?_⟩⟩;have L1:=aV.lat T off L;obtain⟨dx,hp⟩:=L1.ob;have fr:∀{b:Addr},H1 b=none→H b=none:=λ{b} h=>by
  obtain⟨ps,h1,_⟩:=tq;cases hh:H b with
  |none=>rfl
  |some o=>rw[off b o (λz=>by rw[z,h1]at h;cases h) hh]at h;cases h
 have kp:∀{H':Hp},Off [p,pl] H1 H'→Kp PL p pl H H':=λo b u e n0 n1 n2=>o b u (off b u n0 e) (by simp[n1,n2]);refine⟨p,sa,dx,_,rfl,hp,ci (by decide +kernel) (by decide +kernel) (by decide +kernel) (by decide +kernel) (by decide +kernel),ci (by decide +kernel) (by decide +kernel) (by decide +kernel) (by decide +kernel) (by decide +kernel),?_⟩;rcases hs with⟨x,hx,hv⟩|⟨dd,hd,hf⟩
 ·have hv':H sa=some (.tup [.str "tag",.str x]):=hv;obtain⟨a1,a2,a3⟩:=pF hx;refine .inl ⟨x,aV.tup T off hv',p,tb,t,d,pl,al,zb,z,gs,es,as,x,rfl,L1,a1,a2,hel,hgl,λhb e sa' d1 al' H' fa L' k o=>?_,λhb H' s'=>⟨9,"no tag",rfl,O9,rfl,λH2 s2=>?_⟩⟩
  ·exact q1 x hx hv (a3.mp hb) e sa' d1 al' H' (fr fa) L' (kp o) (ap tq k)
  ·have ex:x="Bad":=Classical.byContradiction λh=>by rw[a3.mpr h]at hb;cases hb
   subst ex;exact q2 hv H2 (λb u n e=>s2 _ _ (s' _ _ (off b u n e))) (ap (ap tq (av s')) (av s2))
 ·refine .inr ⟨dd,aV.tup T off hd,p,tb,t,d,pl,al,zb,z,gs,es,as,sa,dd,rfl,L1,hz,aV.tup T off hd,hf.ok,hel,λt1 us e al' H' fa told L' k o=>?_,λwd H' s' told=>⟨bw wd,iO wd,rfl,O wd,pE wd,λH2 s2=>?_⟩⟩
  ·exact q3 dd hd hf t1 us e al' H' (fr fa) told L' (kp o) (ap tq k)
  ·exact q4 dd hd hf wd H2 told (λb u n e=>s2 _ _ (s' _ _ (off b u n e))) (ap (ap tq (av s')) (av s2))
end
theorem kb{H:Hp}{t u:Addr}{zs us:ZN}(ht:Tre H t zs)(hu:Tre H u us)(e:nds zs=nds us):hZ H 3 (.ref t) (.ref u):=by
 have hl:zs.length=us.length:=by have:=congrArg length e;rwa [aZ,aZ]at this
 refine .inr ⟨t,u,_,_,rfl,rfl,ht.tup,hu.tup,by rw[cn,cn,hl],λi x y hx hy=>?_⟩;rw[←cz,getElem?_map]at hx hy;cases h1:zs[i]? with
 |none=>rw[h1]at hx;cases hx
 |some a =>
  cases h2:us[i]? with
  |none=>rw[h2]at hy;cases hy
  |some b =>
   rw[h1]at hx;rw[h2]at hy;cases hx;cases hy;have en:a.2=b.2:=by
    have:=congrArg (λl=>l[i]?) e;unfold nds at this;rw[getElem?_map,getElem?_map,h1,h2]at this;exact Option.some.inj this
   refine .inr ⟨a.1,b.1,_,_,rfl,rfl,ht.nod a (mem_of_getElem? h1),hu.nod b (mem_of_getElem? h2),rfl,?_⟩;rw[en];exact oT H b.2 1
theorem fb{H:Hp}{t u d e:Addr}{z z':ZN}{gs hs ks:TG}(ht:Tre H t z)(hu:Tre H u z')(en:nds z'=nds z)(hg:∀g∈gs,Tre H g.2.1 g.2.2)(hd:H d=some (.dK (bv ks)))(hk:∀g,g∈ks↔g∈gs)(hl:ks.length=gs.length)(te:Tags H e hs)(al:fY gs hs):lj H [.ref t,.ref d] [.ref u,.ref e]:=by
 refine⟨rfl,λi x y hx hy=>?_⟩
 match i,hx,hy with
 |0,hx,hy =>
  cases hx;cases hy;exact .inl (kb ht hu en.symm)
 |1,hx,hy =>
  cases hx;cases hy;have hlen:gs.length=hs.length:=by have:=congrArg length al;rwa [length_map,length_map]at this
  refine .inr ⟨d,e,_,_,rfl,rfl,.inl hd,te.dct,by unfold bv;rw[length_map,length_map];omega,λk v hkv=>?_⟩;unfold bv at hkv;obtain⟨g,hgk,eg⟩:=mem_map.mp hkv;injection eg with e1 e2
  have hg':=(hk g).mp hgk;obtain⟨h,hh,n1,n2⟩:=al.get hg';refine⟨.ref h.2.1,?_,?_⟩
  ·rw[←e1,←n1];exact te.get hh
  ·rw[←e2];exact kb (hg g hg') (te.at' h hh) n2.symm
 |i+2,hx,hy=>simp at hx
theorem kc{H:Hp}{sa:Addr}{x y:Str}(h1:fX H sa x)(h2:fX H sa y):x=y:=by
 have h1':H sa=some (.tup [.str "tag",.str x]):=h1;have h2':H sa=some (.tup [.str "tag",.str y]):=h2;rw[h1']at h2';cases h2';rfl
theorem cE{H:Hp}{sa:Addr}{x:Str}{dd:TW.Deed Str}(h1:fX H sa x)(h2:H sa=some (.tup (aS dd))):False:=by
 have h1':H sa=some (.tup [.str "tag",.str x]):=h1;rw[h1']at h2;cases dd<;>cases h2
theorem iq{H:Hp}{sa:Addr}{d1 d2:TW.Deed Str}(h1:H sa=some (.tup (aS d1)))(h2:H sa=some (.tup (aS d2))):d1=d2:=by
 rw[h1]at h2;have e:aS d1=aS d2:=by injection h2 with h2;injection h2
 have st:∀{a b:Option Int},stV a=stV b→a=b:=λ{a b} h=>by
  cases a<;>cases b<;>first|rfl|cases h
  rfl
 cases d1<;>cases d2<;>simp only[aS,List.cons.injEq,V.int.injEq,V.str.injEq,and_true]at e<;>first|(obtain⟨_,rfl,rfl,rfl,h⟩:=e;rw[st h]) | (obtain⟨_,rfl,rfl,rfl⟩:=e;rfl) | (obtain⟨_,rfl,rfl⟩:=e;rfl) | (obtain⟨_,rfl⟩:=e;rfl)|exact absurd e.1 (by decide +kernel)
theorem Kp.tup{PL p pl:Addr}{H H':Hp}{q:Str}{C dx:Addr}{fl:List (Str×V)}{xs:List V}(k:Kp PL p pl H H')(T:aN H PL q)(hp:H p=some (.ins C dx fl))(hl:H pl=some (.lst xs)){b:Addr}{ys:List V}(h:H b=some (.tup ys)):H' b=some (.tup ys):=by
 obtain⟨ps,h1,_⟩:=T;refine k b _ h (λe=>?_) (λe=>?_) (λe=>?_)
 ·rw[e,h1]at h;cases h
 ·rw[e,hp]at h;cases h
 ·rw[e,hl]at h;cases h
theorem Kp.tre{PL p pl:Addr}{H H':Hp}{q:Str}{C dx:Addr}{fl:List (Str×V)}{xs:List V}(k:Kp PL p pl H H')(T:aN H PL q)(hp:H p=some (.ins C dx fl))(hl:H pl=some (.lst xs)){t:Addr}{z:ZN}(h:Tre H t z):Tre H' t z:=⟨k.tup T hp hl h.tup,λy hy=>k.tup T hp hl (h.nod y hy),h.tr,h.len⟩
theorem Kp.tags{PL p pl:Addr}{H H':Hp}{q:Str}{C dx:Addr}{fl:List (Str×V)}{xs:List V}(k:Kp PL p pl H H')(T:aN H PL q)(hp:H p=some (.ins C dx fl))(hl:H pl=some (.lst xs)){d:Addr}{gs:TG}(h:Tags H d gs):Tags H' d gs:=by
 refine⟨?_,λg hg=>k.tre T hp hl (h.at' g hg),h.nd,h.len⟩;obtain⟨ps,h1,_⟩:=T;rcases h.dct with e|⟨u,e⟩
 ·exact .inl (k d _ e (λz=>by rw[z,h1]at e;cases e) (λz=>by rw[z,hp]at e;cases e) (λz=>by rw[z,hl]at e;cases e))
 ·exact .inr ⟨u,k d _ e (λz=>by rw[z,h1]at e;cases e) (λz=>by rw[z,hp]at e;cases e) (λz=>by rw[z,hl]at e;cases e)⟩
theorem uA{gs:TG}(h:∀g∈gs,g.1∈cO∧g.1≠"Bad"):∀g∈gs,g.1.length≤100∧dE g.1=true:=λg hg=>⟨(pF (h g hg).1).1,(pF (h g hg).1).2.2.mpr (h g hg).2⟩
theorem kd{gs:TG}(hn:(gs.map (·.1)).Nodup)(h:∀g∈gs,g.1∈cO∧g.1≠"Bad"):gs.length<50:=by
 have:(gs.map (·.1)).length≤cO.length:=nJ hn λx hx=>by
  obtain⟨g,hg,rfl⟩:=mem_map.mp hx;exact(h g hg).1
 rw[length_map]at this;have e:cO.length=4:=rfl;omega
end TK
namespace L2
open PySem PySem.Spec PyProof.Rows
theorem Inv.freezeL{X:Cx}{pins:List (Addr×Obj)}{σ:St}{H:Hp}{s:Shared}{d:Addr}{xs:List V}(I:Inv X pins σ H s)(hH:H d=some (.lst xs)):∃o,Inv X pins σ (upd H d (.frz o (.lst xs))) s:=by
 obtain⟨hz,its,n,rel,ho⟩:=I.hok d _ hH;exact⟨_,I.write (t':=s.toks) (x:=d) (e:=d) (by rw[hH];trivial) (.inl rfl) (λ_ _ _ q=>q) ⟨_,ho⟩ ⟨ho,hz,its,n,rel,ho⟩⟩
def zQ(t:TS):TS:=λD σ H=>t D σ H∨∃d xs,Rd H d (.lst xs)∧∀H1 o,(∀b u,H b=some u→b≠d→H1 b=some u)→H1 d=some (.frz o (.lst xs))→t D σ H1
theorem yi{X:Cx}{st:Stmt}{t:TS}(hs:PS X st t):PS X st (zQ t):=λpins s σ H D I h=>by
 rcases h with h|⟨d,xs,h|⟨o,h⟩,ht⟩
 ·exact hs pins s σ H D I h
 ·obtain⟨o,I2⟩:=I.freezeL h;exact hs pins s σ _ D I2 (ht _ o (λb u e n=>by rw[aj n];exact e) ac)
 ·exact hs pins s σ H D I (ht H o (λb u e _=>e) h)
section
variable{X:Cx}
def yj(x:Str)(tv:TE):TE:=λσ H Q=>∀p,H p=none→tv σ (upd H p (.dK [])) λv H1=>H1 p=some (.dK [])∧Q (.ref p) (upd H1 p (.dK [(Sum.inr x,v)]))
theorem uB{x:Str}{ke ve:Expr}{tv:TE}{pos:Pos}(hk:PE X ke (tC (.str x)))(hv:PE X ve tv):PE X (.Dict [some ke] [ve] pos) (yj x tv):=by
 intro pins s σ H Q I h;refine wpAny_Dict_pairs (knd:=aR X.prog X.w) (pairs:=[(eval ke X.env,do let x ← eval ve X.env;standAt pos;pure x)]) rfl (by simp) (by show 1≤15;decide) ?_;have I0:Inv X pins σ (upd H s.heap.objs.size (.dK [])) {s with heap:=s.heap.push {cls:=.type "dict",data:=.dict #[]}}:=I.laid (a:=s.heap.objs.size) (o:=.dK []) (t':=s.toks) (λ_ _ q=>get?_push_of_some _ q) (le_refl _) (mH s.heap I.big)
 have h0:=h _ (I.hok.fresh (le_refl _));refine evalPairs_cons (thn (hk pins _ σ _ (λy H1=>y=.str x∧H1=upd H s.heap.objs.size (.dK [])) I0 ⟨rfl,rfl⟩) λkv s1 hpt=>?_);obtain⟨y,H1,I1,ry,q1⟩:=hpt;obtain⟨rfl,rfl⟩:=q1;refine wpAny_bind (thn (hv pins s1 σ _ _ I1 h0) λvv s2 ⟨v,H2,I2,rv,e2,q⟩=>wpAny_bind (wpAny_standAt (wpAny_pure (evalPairs_nil ?_))));obtain⟨z,hd,vs,rel,dd⟩:=my I2.hok e2;cases rel;refine⟨[(Sum.inr x,vv)],⟨fm (k:=Sum.inr x) ry,rfl,trivial⟩,dd,λh' dd' hs=>⟨.ref s.heap.objs.size,_,?_,rfl,q⟩⟩;have he:∃q,h'.get? s.heap.objs.size=some q:=let⟨q,_,_,hq,_⟩:=dd';⟨q,hq⟩;have hl:(cg ([]:List (Key×V)) (Sum.inr x) v).length≤sizeLine:=le_of_lt (ay (show 1≤1000 by decide));exact gY I2 (by rw[e2];exact True.intro) hs he (gF hl hd (KV.put (kvs:=[]) (vs:=[]) .nil (Sum.inr x) rv) dd')
def zd(K:PySem.W.Frag)(te ts:TE):TE:=λσ H Q=>te σ H λx H1=>ts σ H1 λy H2=>∃a x1 x2,x=.ref a∧y=.int (-1)∧SqL K H2 a [x1,x2]∧∀p,H2 p=none→Q (.ref p) (upd H2 p (.lst [x2,x1]))
theorem vU{e st:Expr}{te ts:TE}{pos p2:Pos}(he:PE X e te)(hst:PE X st ts):PE X (.Subscript e (.Slice none none (some st) p2) pos) (zd X.K te ts):=by
 intro pins s σ H Q I h;refine Subscript_ (thn (he pins s σ H _ I h) λv s1 hpt=>?_);obtain⟨x,H1,I1,r1,q1⟩:=hpt;refine wpAny_Slice ?_;rw[evalPart_none];refine wpAny_pure (wpAny_pure ?_);rw[evalPart_some];refine thn (hst pins s1 σ H1 _ I1 q1) λu s3 hpt=>?_;obtain⟨y,H3,I3,r3,q3⟩:=hpt;obtain⟨a,x1,x2,rfl,rfl,hx,q⟩:=q3;cases r1;obtain⟨tk,rfl⟩:=r3;have I4:Inv X pins σ H3 {s3 with heap:=s3.heap.push {cls:=.type "slice",data:=.fields #[.none,.none,.int (-1) tk]}}:=I3.kept (t':=s3.toks) λb ob q=>get?_push_of_some _ q
 obtain⟨its,r,ht,hz⟩:=I4.list hx;cases r with
 |@cons _ u1 _ _ r1 r=>cases r with
  |@cons _ u2 _ _ r2 r=>cases r with
   |nil =>
    show wpAny (model X.prog X.w) X.A (subscriptTail e (.Slice none none (some st) p2) (.ref a) (.ref s3.heap.objs.size)) (EP X pins σ Q) X.xe {s3 with heap:=s3.heap.push {cls:=.type "slice",data:=.fields #[.none,.none,.int (-1) tk]}}
    refine tail_any (ops:=[.ref a,.ref s3.heap.objs.size]) ht.isList.typeIs slot_list_getitem.lookup ?_ (by with_unfolding_all rfl);refine wpAny_getItem_list_slice ht.isList (Heap.IsSliceOf.new ..) .none .none (.int (-1) tk) (by simp) ?_ (le_of_lt (ay (show 2≤1000 by decide)));have ep:slicePick #[u1,u2] none none (some (-1))=#[u2,u1]:=by simp[slicePick,sliceBounds,sliceRange];rfl
    rw[show([u1,u2]:List Value).toArray=#[u1,u2]from rfl,ep];refine⟨.ref _,_,I4.laid (t':=s3.toks) (o:=.lst [x2,x1]) (λb ob q=>get?_push_of_some _ q) (le_refl _) ?_,rfl,q _ (I4.hok.fresh (le_refl _))⟩;exact⟨le_of_lt (ay (show 2≤1000 by decide)),[u2,u1],0,.cons r2 (.cons r1 .nil),get?_push_size _ rfl⟩
end
end L2
namespace TK
open PySem L2
section
variable{P:Program}{w:World}{K:PySem.W.Frag}{mg:Str→Option Value}{base:Heap}
def nT(C:Addr):Sp:=λvs H Q _=>∃p ft t d pl al zf z gs es as,vs=[.ref p]∧LAt C H p ft t d pl al zf z gs es as ∧
 ∀p2 pl2 al2 H',Same H H'→H p2=none→H pl2=none→H al2=none→LAt C H' p2 ft t d pl2 al2 zf z gs es as→Q (.ref p2) H'
theorem wv:FnScope ["self","other"] ["self"] (am eW):=fsc
theorem yk{f C fI:Addr}{fd fdI:FuncData}(F:Fun K "twin" "Ledger.twin" eW f fd)(Tx:Txt mg)(T:LCls K mg C)(M:Mk K C fI)(GI:FnOk P w K mg base CX0 1 fI fdI ["self","tree"] (iG C))(bI:aG K fdI ["self","tree"] []):FnOk P w K mg base CX0 3 f fd ["self"] (nT C):=by
 refine F.ok wv (λvs H Q E h=>?_) (λcdv A outer s H vs Q E hr h=>?_)
 ·obtain⟨p,ft,t,d,pl,al,zf,z,gs,es,as,rfl,_⟩:=h;rfl
 ·obtain⟨p,ft,t,d,pl,al,zf,z,gs,es,as,rfl,L,q⟩:=h;obtain⟨dx,hp⟩:=L.ob;refine⟨_,ai (aJ (i:=1) wv.nd rfl (Or.inl rfl) (pO M GI hr rfl T.mgC bI .nil aK (aa (bh (pv 0) rfl) af)))
   (ai (cF (pv 1) (bh (pv 0) rfl) rfl) (ai (cF (pv 1) (bh (pv 0) rfl) rfl)
   (ai (cF (pv 1) (aW gW rfl Tx.list rfl (aa (bh (pv 0) rfl) af)) rfl)
   (ai (cF (pv 1) (aW gW rfl Tx.list rfl (aa (bh (pv 0) rfl) af)) rfl) (ao (ax (pv 1))))))),?_⟩
  refine⟨_,rfl,p,C,dx,_,_,rfl,hp,T.cl,T.n0,yR,λp2 dx2 hp2 hdx2 ne=>?_⟩;have sA:Same H (upd (upd H dx2 (.own p2)) p2 (.ins C dx2 [])):=λb o e=>by rw[aj (aw e hp2),aj (aw e hdx2)];exact e
  have gp:upd (upd H dx2 (.own p2)) p2 (.ins C dx2 []) p2=some (.ins C dx2 []):=ac;generalize upd (upd H dx2 (.own p2)) p2 (.ins C dx2 [])=H1 at sA gp⊢;refine⟨p2,dx2,ft,zf,rfl,gp,L.tf.same sA,λd0 pl0 al0 H2 _ _ _ L2 o=>⟨rfl,?_⟩⟩;have s2:Same H H2:=λb u e=>o b u (sA _ _ e) λz=>by
   have e':b=p2:=by simpa using z
   rw[e',hp2]at e;cases e
  obtain⟨dy,g2⟩:=L2.ob;have npp:p≠p2:=aw hp hp2;have L':=L.same s2;refine⟨_,rfl,p,C,dx,_,_,rfl,s2 _ _ hp,T.cl,T.n1,jT,_,rfl,p2,C,dy,_,rfl,g2,T.cl,T.n1,dt,?_⟩;rw[oU];have s3:Same H (upd H2 p2 (.ins C dy (flL ft t d0 pl0 al0))):=aL hp2 s2;have g3:upd H2 p2 (.ins C dy (flL ft t d0 pl0 al0)) p2=some (.ins C dy (flL ft t d0 pl0 al0)):=ac;generalize upd H2 p2 (.ins C dy (flL ft t d0 pl0 al0))=H3 at s3 g3⊢;refine⟨_,rfl,p,C,dx,_,_,rfl,s3 _ _ hp,T.cl,T.n2,il,_,rfl,p2,C,dy,_,rfl,g3,T.cl,T.n2,dt,?_⟩;rw[oV];have s4:Same H (upd H3 p2 (.ins C dy (flL ft t d pl0 al0))):=aL hp2 s3;have g4:upd H3 p2 (.ins C dy (flL ft t d pl0 al0)) p2=some (.ins C dy (flL ft t d pl0 al0)):=ac;generalize upd H3 p2 (.ins C dy (flL ft t d pl0 al0))=H4 at s4 g4⊢;refine⟨_,rfl,p,C,dx,_,_,rfl,s4 _ _ hp,T.cl,T.n3,li,pl,_,rfl,.inl (SqL.of (s4 _ _ L.ps)),λpl2 hpl2=>?_⟩;have fpl:H pl2=none:=gn s4 hpl2;have n1:p2≠pl2:=aw g4 hpl2;have s5:Same H (upd H4 pl2 (.lst (bc es))):=s4.trans (ae hpl2);have g5:upd H4 pl2 (.lst (bc es)) p2=some (.ins C dy (flL ft t d pl0 al0)):=by rw[aj n1];exact g4
  have l5:upd H4 pl2 (.lst (bc es)) pl2=some (.lst (bc es)):=ac;generalize upd H4 pl2 (.lst (bc es))=H5 at s5 g5 l5⊢;refine⟨_,rfl,p2,C,dy,_,rfl,g5,T.cl,T.n3,dt,?_⟩;rw[xK];have s6:Same H (upd H5 p2 (.ins C dy (flL ft t d pl2 al0))):=aL hp2 s5;have g6:upd H5 p2 (.ins C dy (flL ft t d pl2 al0)) p2=some (.ins C dy (flL ft t d pl2 al0)):=ac;have l6:upd H5 p2 (.ins C dy (flL ft t d pl2 al0)) pl2=some (.lst (bc es)):=by rw[aj (symm n1)];exact l5
  generalize upd H5 p2 (.ins C dy (flL ft t d pl2 al0))=H6 at s6 g6 l6⊢;refine⟨_,rfl,p,C,dx,_,_,rfl,s6 _ _ hp,T.cl,T.n4,qu,al,_,rfl,.inl (SqL.of (s6 _ _ L.ah)),λal2 hal2=>?_⟩;have fal:H al2=none:=gn s6 hal2;have n2:p2≠al2:=aw g6 hal2;have n3:pl2≠al2:=aw l6 hal2;have s7:Same H (upd H6 al2 (.lst (bc as))):=s6.trans (ae hal2);have g7:upd H6 al2 (.lst (bc as)) p2=some (.ins C dy (flL ft t d pl2 al0)):=by rw[aj n2];exact g6
  have l7:upd H6 al2 (.lst (bc as)) pl2=some (.lst (bc es)):=by rw[aj n3];exact l6
  have a7:upd H6 al2 (.lst (bc as)) al2=some (.lst (bc as)):=ac;generalize upd H6 al2 (.lst (bc as))=H7 at s7 g7 l7 a7⊢;refine⟨_,rfl,p2,C,dy,_,rfl,g7,T.cl,T.n4,dt,?_⟩;rw[tT];have s8:Same H (upd H7 p2 (.ins C dy (flL ft t d pl2 al2))):=aL hp2 s7;have g8:upd H7 p2 (.ins C dy (flL ft t d pl2 al2)) p2=some (.ins C dy (flL ft t d pl2 al2)):=ac;have l8:upd H7 p2 (.ins C dy (flL ft t d pl2 al2)) pl2=some (.lst (bc es)):=by rw[aj (symm n1)];exact l7
  have a8:upd H7 p2 (.ins C dy (flL ft t d pl2 al2)) al2=some (.lst (bc as)):=by rw[aj (symm n2)];exact a7
  have L8:=L.same s8;exact⟨_,rfl,q p2 pl2 al2 _ s8 hp2 fpl fal ⟨⟨dy,g8⟩,L8.tf,L8.tr,L8.tg,l8,a8,n3,L8.ep,L8.ea⟩⟩
end
structure Rw where
 a:Addr
 t:Addr
 d:Addr
 z:ZN
 gs:TG
structure RwAt(H:Hp)(x:Rw):Prop where
 ob:H x.a=some (.tup [.ref x.t,.ref x.d])
 tr:Tre H x.t x.z
 tg:Tags H x.d x.gs
theorem RwAt.stay{H H':Hp}{x:Rw}(h:RwAt H x)(s:cA H H'):RwAt H' x:=⟨s.tup h.ob,h.tr.stay s,h.tg.stay s⟩
theorem RwAt.same{H H':Hp}{x:Rw}(h:RwAt H x)(s:Same H H'):RwAt H' x:=h.stay (av s)
abbrev SK:=List Nd×List (Str×List Nd)
def cm(z:ZN)(gs:TG):SK:=(nds z,gs.map lV)
def dF(x:Rw):SK:=cm x.z x.gs
def iV(e:Ent):SK:=cm e.z e.gs
theorem gu{z u:ZN}{gs hs:TG}(h:cm z gs=cm u hs):nds z=nds u∧fY gs hs:=by injection h with a b;exact⟨a,b⟩
theorem qF{z u:ZN}{gs hs:TG}(h:nds z=nds u)(a:fY gs hs):cm z gs=cm u hs:=by unfold cm;rw[h];exact congrArg _ a
def KS(es:List Ent)(z:ZN)(gs:TG)(as:List Ent):List SK:=es.map iV++cm z gs::as.reverse.map iV
structure ROk(x:Rw)(i:Nat):Prop where
 nd:∀m∈nds x.z,ik m
 len:x.z.length≤6+i
 nm:∀g∈x.gs,g.1∈cO∧g.1≠"Bad"
theorem ROk.up{x:Rw}{i:Nat}(h:ROk x i):ROk x (i+1):=⟨h.nd,le_succ_of_le h.len,h.nm⟩
def EOk(e:Ent):Prop:=e.xs.all cQ=true∧∃y:Str,e.xs[0]?=some (.str y)
structure Iw(C:Addr)(H:Hp)(p tb t d pl al r:Addr)(zb z:ZN)(gs:TG)(es:List Ent)(rs:List Rw)(i:Nat):Prop where
 L:LAt C H p tb t d pl al zb z gs es []
 rl:H r=some (.lst (rs.map λx=>V.ref x.a))
 rat:∀x∈rs,RwAt H x
 key:rs.map dF=KS es z gs []
 ok:∀x∈rs,ROk x i
 fx:∀e∈es,EOk e
 few:es.length≤i+1
 one:1≤es.length
 hd:(KS es z gs [])[0]?=some (cm zb [])
 n1:r≠pl
 n2:r≠al
section
variable{C:Addr}{H H':Hp}{p tb t d pl al r:Addr}{zb z:ZN}{gs:TG}{es:List Ent}{rs:List Rw}{i:Nat}
theorem Iw.same(h:Iw C H p tb t d pl al r zb z gs es rs i)(s:Same H H'):Iw C H' p tb t d pl al r zb z gs es rs i :=
 ⟨h.L.same s,s _ _ h.rl,λx hx=>(h.rat x hx).same s,h.key,h.ok,h.fx,h.few,h.one,h.hd,h.n1,h.n2⟩
theorem Iw.up(h:Iw C H p tb t d pl al r zb z gs es rs i):Iw C H p tb t d pl al r zb z gs es rs (i+1) :=
 ⟨h.L,h.rl,h.rat,h.key,λx hx=>(h.ok x hx).up,h.fx,le_succ_of_le h.few,h.one,h.hd,h.n1,h.n2⟩
theorem Iw.rlen(h:Iw C H p tb t d pl al r zb z gs es rs i):rs.length=es.length+1:=by
 have:=congrArg length h.key;unfold KS at this;simpa using this
theorem Iw.off{Pt:Addr}{q:Str}(T:aN H Pt q)(o:aV Pt H H')(h:Iw C H p tb t d pl al r zb z gs es rs i):Iw C H' p tb t d pl al r zb z gs es rs i :=
 ⟨aV.lat T o h.L,aV.ne T o h.rl λps h=>(by cases h),λx hx=>⟨aV.tup T o (h.rat x hx).ob,aV.tre T o (h.rat x hx).tr,aV.tags T o (h.rat x hx).tg⟩,h.key,h.ok,h.fx,h.few,h.one,h.hd,h.n1,h.n2⟩
theorem Iw.cur(h:Iw C H p tb t d pl al r zb z gs es rs i):∃x,rs[es.length]?=some x∧x∈rs∧nds x.z=nds z∧fY gs x.gs:=by
 have hl:=h.rlen;have gx:rs[es.length]?=some rs[es.length]:=getElem?_eq_getElem (by omega);have:=congrArg (λl=>l[es.length]?) h.key;unfold KS at this;rw[getElem?_map,gx,getElem?_append_right (by simp)]at this;simp at this;obtain⟨e1,e2⟩:=gu this;exact⟨_,gx,mem_of_getElem? gx,e1,e2.symm⟩
end
def Scr(K:PySem.W.Frag)(H:Hp)(a:Addr):Prop:=(∀H',di K H' a)∨∃o,∃ns:List Int,H a=some (.frz o (.lst (ns.map V.int)))
theorem Scr.at{K:PySem.W.Frag}{H:Hp}{a:Addr}(h:Scr K H a):di K H a:=by
 rcases h with h|⟨o,ns,h⟩
 ·exact h H
 ·exact⟨ns,.inl (.inr ⟨o,h⟩)⟩
theorem Scr.by{K:PySem.W.Frag}{H H':Hp}{a:Addr}(h:Scr K H a)(k:∀o u,H a=some (.frz o u)→H' a=some (.frz o u)):Scr K H' a:=by
 rcases h with h|⟨o,ns,h⟩
 ·exact .inl h
 ·exact .inr ⟨o,ns,k o _ h⟩
theorem Scr.same{K:PySem.W.Frag}{H H':Hp}{a:Addr}(h:Scr K H a)(s:Same H H'):Scr K H' a:=h.by λ_ _ e=>s _ _ e
theorem Scr.stay{K:PySem.W.Frag}{H H':Hp}{a:Addr}(h:Scr K H a)(s:cA H H'):Scr K H' a:=h.by λ_ _ e=>s _ _ e (λ_ h=>by cases h) (λ_ _ _ h=>by cases h)
theorem Scr.off{K:PySem.W.Frag}{H H':Hp}{a Pt:Addr}{q:Str}(h:Scr K H a)(T:aN H Pt q)(o:aV Pt H H'):Scr K H' a:=h.by λ_ _ e=>aV.ne T o e λps h=>by cases h
theorem Scr.kp{K:PySem.W.Frag}{H H':Hp}{a Pt p pl C dx:Addr}{q:Str}{fl:List (Str×V)}{xs:List V}(h:Scr K H a)(T:aN H Pt q)(hp:H p=some (.ins C dx fl))(hl:H pl=some (.lst xs))(k:Kp Pt p pl H H'):Scr K H' a:=h.by λo u e=>by
 obtain⟨ps,h1,_⟩:=T;exact k a _ e (λz=>by rw[z,h1]at e;cases e) (λz=>by rw[z,hp]at e;cases e) (λz=>by rw[z,hl]at e;cases e)
theorem aN.off{H H':Hp}{Pt Pu:Addr}{q r:Str}(n:Pu≠Pt)(T:aN H Pt q)(o:aV Pt H H')(h:aN H Pu r):aN H' Pu r:=by
 obtain⟨ps,h1,h2,h3⟩:=h;exact⟨ps,o _ _ n h1,h2,λpos cv e=>let⟨c,e1,e2⟩:=h3 pos cv e;⟨c,e1,aV.ne T o e2 λps h=>by cases h⟩⟩
theorem aN.kp{H H':Hp}{Pt Pu p pl C dx:Addr}{q r:Str}{fl:List (Str×V)}{xs:List V}(n:Pu≠Pt)(T:aN H Pt q)(hp:H p=some (.ins C dx fl))(hl:H pl=some (.lst xs))(k:Kp Pt p pl H H')(h:aN H Pu r):aN H' Pu r:=by
 obtain⟨ps,h1,h2,h3⟩:=h;obtain⟨ps',t1,_⟩:=T;refine⟨ps,k _ _ h1 n (λz=>by rw[z,hp]at h1;cases h1) (λz=>by rw[z,hl]at h1;cases h1),h2,λpos cv e=>?_⟩;obtain⟨c,e1,e2⟩:=h3 pos cv e;exact⟨c,e1,k _ _ e2 (λz=>by rw[z,t1]at e2;cases e2) (λz=>by rw[z,hp]at e2;cases e2) (λz=>by rw[z,hl]at e2;cases e2)⟩
def dG:Str:=("law"++".<locals>.")++"<lambda>"
def N86:List Str:=["_law_script","_law_begin","_law_ledger","_law_rows","_law_k","_law_step_here","_law_now","_law_due","_law_many","_law_other","_law_pairs","_law_at","_law_here","_law_count","_law_one"]
theorem dZ:FnScope N86 ["_law_script"] (am rE):=fsc
abbrev EU(P:Program)(w:World)(K:PySem.W.Frag)(mg:Str→Option Value)(base:Heap)(f cL:Addr)(A:Around)(outer:List Env)(s:Shared)(H:Hp)(E:XK):Cx:=(gQ CX0 P w K mg base N86 "law" (am rE) f (.ref cL) A outer s H E).nox
def tS(i:Nat):Stmt:=(bz rE).getD i (.Pass ⟨0,0,0,0⟩)
def tB(i:Nat):Stmt:=match tS 3 with
 |.For _ _ b _ _=>b.getD i (.Pass ⟨0,0,0,0⟩)
 |_=>.Pass ⟨0,0,0,0⟩
def tC'(i:Nat):Stmt:=match tS 9 with
 |.For _ _ b _ _=>b.getD i (.Pass ⟨0,0,0,0⟩)
 |_=>.Pass ⟨0,0,0,0⟩
abbrev R10(A:Around)(s:Shared)(f cL:Addr):=Room 9 (A.deeper (PyProof.Rows.envOfC "law" (am rE) s.heap.objs.size f (.ref cL)))
abbrev uσ(a tb:Addr)(x2 x3 x4 x5 x6 x7 x8 x9 x10 x11 x12 x13 x14:Option V):St:=[some (.ref a),some (.ref tb),x2,x3,x4,x5,x6,x7,x8,x9,x10,x11,x12,x13,x14]
section
variable{P:Program}{w:World}{K:PySem.W.Frag}{mg:Str→Option Value}{base:Heap}{f cL:Addr}{A:Around}{outer:List Env}{s:Shared}{H0:Hp}{E:XK}{C Dd PL PD:Addr}{B:Nat→Addr}
theorem t0(hr:R10 A s f cL)(CT:Has P w K mg base 3 "_law_tree" ["_law_script","_law_at","_law_most"] (io K)):
  ∃rd,PS (EU P w K mg base f cL A outer s H0 E) (tS 0) rd∧∀(D:Ends)(H:Hp)(a:Addr)(x1 x2 x3 x4 x5 x6 x7 x8 x9 x10 x11 x12 x13 x14:Option V),di K H a →
   (∀tb zb H',Same H H'→Tre H' tb zb→(∀n∈nds zb,ik n)→zb.length≤6→D.nx (uσ a tb x2 x3 x4 x5 x6 x7 x8 x9 x10 x11 x12 x13 x14) H')→rd D [some (.ref a),x1,x2,x3,x4,x5,x6,x7,x8,x9,x10,x11,x12,x13,x14] H:=by
 obtain⟨fT,fdT,GT,mT,kT,bT⟩:=CT;have hr3:Room 3 _:=hr.mono (by decide);refine⟨_,aJ (i:=1) dZ.nd rfl (Or.inl rfl) (ar GT hr3 rfl mT kT bT .nil aK (aa (pv 0) (aa ak (aa ak af)))),?_⟩;intro D H a x1 x2 x3 x4 x5 x6 x7 x8 x9 x10 x11 x12 x13 x14 hS q;refine⟨_,rfl,a,0,6,rfl,by decide,by decide,by decide,hS,λt1 z1 H1 ht1 hA1 hl1 hT1 hG1 s1=>?_⟩;exact q t1 z1 H1 s1 ⟨ht1,hA1,⟨hT1,λn hn=>by obtain⟨z,hz,rfl⟩:=gJ hn;exact(hG1 z hz).1⟩,by omega⟩ (λn hn=>by obtain⟨z,hz,rfl⟩:=gJ hn;exact(hG1 z hz).ok) (by omega)
structure Beg(C:Addr)(H:Hp)(p tb d pl al r:Addr)(zb:ZN)(x y:Rw):Prop where
 L:LAt C H p tb tb d pl al zb zb [] [] []
 rl:H r=some (.lst [.ref x.a,.ref y.a])
 rx:RwAt H x
 ry:RwAt H y
 xz:x.z=zb∧x.gs=[]
 yz:y.z=zb∧y.gs=[(("a":Str),(tb,zb))]
 n1:r≠pl
 n2:r≠al
theorem t1{C fI:Addr}{fdI:FuncData}(hr:R10 A s f cL)(T:LCls K mg C)(M:Mk K C fI)(GI:FnOk P w K mg base CX0 1 fI fdI ["self","tree"] (iG C))(bI:aG K fdI ["self","tree"] []):
  ∃rd,PS (EU P w K mg base f cL A outer s H0 E) (tS 1) rd∧∀(D:Ends)(H:Hp)(a tb:Addr)(zb:ZN)(x2 x3 x4 x5 x6 x7 x8 x9 x10 x11 x12 x13 x14:Option V),Tre H tb zb →
   (∀p d pl al r x y H',Same H H'→Beg C H' p tb d pl al r zb x y→D.nx (uσ a tb (some (.ref p)) (some (.ref r)) x4 x5 x6 x7 x8 x9 x10 x11 x12 x13 x14) H')→rd D (uσ a tb x2 x3 x4 x5 x6 x7 x8 x9 x10 x11 x12 x13 x14) H:=by
 have hr2:Room 2 _:=hr.mono (by decide);refine⟨_,nK (i:=2) (j:=3) rfl dZ.nd rfl rfl (Or.inl rfl) (Or.inl rfl) rfl rfl (aP (aa (pO M GI hr2 rfl T.mgC bI .nil aK (aa (pv 1) af)) (aa (ba (aa (aP (aa (pv 1) (aa gZ af))) (aa (aP (aa (pv 1) (aa (uB aC (pv 1)) af))) af))) af))),?_⟩;intro D H a tb zb x2 x3 x4 x5 x6 x7 x8 x9 x10 x11 x12 x13 x14 tr q;refine⟨_,rfl,λp dx hp hdx ne=>?_⟩;have sA:Same H (upd (upd H dx (.own p)) p (.ins C dx [])):=λb o e=>by rw[aj (aw e hp),aj (aw e hdx)];exact e
 have gp:upd (upd H dx (.own p)) p (.ins C dx []) p=some (.ins C dx []):=ac;generalize upd (upd H dx (.own p)) p (.ins C dx [])=H1 at sA gp⊢;refine⟨p,dx,tb,zb,rfl,gp,tr.same sA,λd pl al H2 _ _ _ L o=>⟨rfl,?_⟩⟩;have s2:Same H H2:=λb u e=>o b u (sA _ _ e) λz=>by
  have e':b=p:=by simpa using z
  rw[e',hp]at e;cases e
 refine⟨_,rfl,λd1 hd1=>?_⟩;have s3:=ae (o:=.dK []) hd1;have g3:upd H2 d1 (.dK []) d1=some (.dK []):=ac;show _;generalize upd H2 d1 (.dK [])=H3 at s3 g3⊢;refine⟨le2,λn1 hn1=>?_⟩;have s4:=ae (o:=.tup [.ref tb,.ref d1]) hn1;have g4:upd H3 n1 (.tup [.ref tb,.ref d1]) n1=some (.tup [.ref tb,.ref d1]):=ac;generalize upd H3 n1 (.tup [.ref tb,.ref d1])=H4 at s4 g4⊢;refine⟨_,rfl,λd2 hd2=>⟨_,rfl,ac,?_⟩⟩;have s5:Same H4 (upd (upd H4 d2 (.dK [])) d2 (.dK [(Sum.inr "a",.ref tb)])):=aL hd2 (ae hd2);have g5:upd (upd H4 d2 (.dK [])) d2 (.dK [(Sum.inr "a",.ref tb)]) d2=some (.dK [(Sum.inr "a",.ref tb)]):=ac;show _;generalize upd (upd H4 d2 (.dK [])) d2 (.dK [(Sum.inr "a",.ref tb)])=H5 at s5 g5⊢;refine⟨le2,λn2 hn2=>?_⟩;have s6:=ae (o:=.tup [.ref tb,.ref d2]) hn2;have g6:upd H5 n2 (.tup [.ref tb,.ref d2]) n2=some (.tup [.ref tb,.ref d2]):=ac;generalize upd H5 n2 (.tup [.ref tb,.ref d2])=H6 at s6 g6⊢;refine⟨aq (show 2≤1000 by decide),λr hrr=>?_⟩;have s7:=ae (o:=.lst [.ref n1,.ref n2]) hrr;have g7:upd H6 r (.lst [.ref n1,.ref n2]) r=some (.lst [.ref n1,.ref n2]):=ac;have L6:=L.same (s3.trans (s4.trans (s5.trans s6)));have ne1:∀{b:Addr}{o:HO},H6 b=some o→r≠b:=λh e=>by rw[←e,hrr]at h;cases h
 generalize upd H6 r (.lst [.ref n1,.ref n2])=H7 at s7 g7⊢;refine⟨le2,λtt htt=>?_⟩;have s8:=ae (o:=.tup [.ref p,.ref r]) htt;refine⟨tt,_,_,rfl,SqT.of ac,?_⟩;have s48:=s5.trans (s6.trans (s7.trans s8));have s38:=s3.trans (s4.trans s48);have tr8:=tr.same (s2.trans s38);refine q p d pl al r ⟨n1,tb,d1,zb,[]⟩ ⟨n2,tb,d2,zb,[(("a":Str),(tb,zb))]⟩ _ (s2.trans s38) ⟨L.same s38,s8 _ _ g7,⟨s48 _ _ g4,tr8,.inl (s48 _ _ (s4 _ _ g3)),(λg hg=>nomatch hg),nodup_nil,zero_le _⟩,⟨s8 _ _ (s7 _ _ g6),tr8,.inl (s8 _ _ (s7 _ _ (s6 _ _ g5))),λg hg=>?_,by simp,by simp⟩,⟨rfl,rfl⟩,⟨rfl,rfl⟩,ne1 L6.ps,ne1 L6.ah⟩;rw[mem_singleton.mp hg];exact tr8
theorem t2{fT:Addr}{fdT:FuncData}(hr:R10 A s f cL)(T:LCls K mg C)(MT:Meth K C "tag" fT)(GT:FnOk P w K mg base (CX1 P w) 2 fT fdT ["self","name"] (gM C (B 9)))(bT:aG K fdT ["self","name"] []):
  ∃rd,PS (EU P w K mg base f cL A outer s H0 E) (tS 2) rd∧∀(D:Ends)(H:Hp)(a tb p d pl al r:Addr)(zb:ZN)(x y:Rw)(x4 x5 x6 x7 x8 x9 x10 x11 x12 x13 x14:Option V),Beg C H p tb d pl al r zb x y→(∀n∈nds zb,ik n)→zb.length≤6 →
   (∀d2 al2 gs es rs H',cA H H'→Iw C H' p tb tb d2 pl al2 r zb zb gs es rs 0→D.nx (uσ a tb (some (.ref p)) (some (.ref r)) x4 x5 x6 x7 x8 x9 x10 x11 x12 x13 x14) H')→rd D (uσ a tb (some (.ref p)) (some (.ref r)) x4 x5 x6 x7 x8 x9 x10 x11 x12 x13 x14) H:=by
 have hr2:Room 2 _:=hr.mono (by decide);refine⟨_,bn (dI (pv 2) T.cl MT GT hr2 bT .nil nA (aa aC af)),?_⟩;intro D H a tb p d pl al r zb x y x4 x5 x6 x7 x8 x9 x10 x11 x12 x13 x14 b ok hz q;obtain⟨dx,hp⟩:=b.L.ob;refine⟨_,rfl,p,dx,_,rfl,hp,ci (by decide +kernel) (by decide +kernel) (by decide +kernel) (by decide +kernel) (by decide +kernel),p,tb,tb,d,pl,al,zb,zb,[],[],[],("a":Str),rfl,b.L,by decide +kernel,by decide +kernel,zero_le _,(by decide:0<50),λ_ e sa d' al' H' fa L' k o=>?_,λh=>absurd h (by decide +kernel)⟩;have nrp:r≠p:=λz=>by have:=b.rl;rw[z,hp]at this;cases this
 have hr':H' r=some (.lst [.ref x.a,.ref y.a]):=o _ _ b.rl (by simp[nrp,b.n1]);have nra:r≠al':=λz=>by have:=b.rl;rw[z,fa]at this;cases this
 refine q d' al' _ _ [x,y] H' k ⟨L',hr',λu hu=>?_,?_,λu hu=>?_,λe' he'=>?_,by simp,by simp,?_,b.n1,nra⟩
 ·rcases mem_cons.mp hu with h|h
  ·rw[h];exact b.rx.stay k
  ·rw[mem_singleton.mp h];exact b.ry.stay k
 ·have ex:dF x=cm zb []:=by unfold dF;rw[b.xz.1,b.xz.2]
  have ey:dF y=cm zb [(("a":Str),(tb,zb))]:=by unfold dF;rw[b.yz.1,b.yz.2]
  show[dF x,dF y]=_;rw[ex,ey];rfl
 ·have hnm:∀g∈([(("a":Str),(tb,zb))]:TG),g.1∈cO∧g.1≠"Bad":=λg hg=>by
   rw[mem_singleton.mp hg];exact⟨(by decide +kernel:("a":Str)∈cO),(by decide +kernel:("a":Str)≠"Bad")⟩
  rcases mem_cons.mp hu with h|h
  ·rw[h];exact⟨by rw[b.xz.1];exact ok,by rw[b.xz.1];omega,by rw[b.xz.2];exact λg hg=>nomatch hg⟩
  ·rw[mem_singleton.mp h];exact⟨by rw[b.yz.1];exact ok,by rw[b.yz.1];omega,by rw[b.yz.2];exact hnm⟩
 ·have:e'=_:=mem_singleton.mp he';rw[this];exact⟨rfl,_,rfl⟩
 ·rfl
theorem iI{rs:List Rw}{x:Rw}{n:Nat}(h:rs[n]?=some x)(hl:rs.length=n+1):atI (rs.map λx=>V.ref x.a) (-1)=some (.ref x.a):=by
 have e:rs=rs.take n++[x]:=by
  have h1:=dw h;rw[←hl,take_length]at h1;exact h1
 rw[e,map_append];exact sx _ _
end
theorem vV(dd:TW.Deed Str):∃y:Str,(aS dd)[0]?=some (.str y):=by cases dd<;>exact⟨_,rfl⟩
theorem rQ(dd:TW.Deed Str):(aS dd).all cQ=true:=by
 cases dd with
 |make n p nm st=>cases st<;>rfl
 |write=>rfl
 |move=>rfl
 |drop=>rfl
section
variable{PD C Dd p sa tb t d pl al n1:Addr}{B:Nat→Addr}{K:PySem.W.Frag}{H:Hp}{Q:VK}{zb z:ZN}{gs:TG}{es as:List Ent}{i:Nat}{x:Rw}{v:V}
theorem nU(O9:One12 K B Dd 9)(O:∀wd,One12 K B Dd (bw wd))(hi:i≤17)(L:LAt C H p tb t d pl al zb z gs es as)(hel:es.length≤18)(R:RwAt H x)(en:nds x.z=nds z)(ag:fY gs x.gs)(ok:ROk x i)(T:aN H PD cB)(hs:gb H sa)(hB:Beh H sa x.a n1 x.t x.d x.z x.gs v)(qs:∀y H',aV PD H H'→aN H' PD cB→v=.str y→n1=x.a→Q v H')(qn:∀t2 d2 al2 z2 gs2 e y H',H al2=none→Kp PD p pl H H'→aN H' PD cB→LAt C H' p tb t2 d2 pl al2 zb z2 gs2 (es++[e]) []→RwAt H' y→y.a=n1→dF y=cm z2 gs2→ROk y (i+1)→iV e=cm z gs→EOk e→(v=.non∨∃b,v=.bl b)→Q v H'):
  pB PD cB [0,1] (λf c fv=>eZ f (rO c (iS C (B 9) (λwd=>B (bw wd)) fv)) B Dd K) [some (.ref p),some (.ref sa)] H Q:=by
 obtain⟨dx,hp⟩:=L.ob;have hpl:=L.ps;have hzl:z.length≤6+i:=by have:=congrArg length en;rw[aZ,aZ]at this;have:=ok.len;omega
 have hgx:=kd R.tg.nd ok.nm;have hgl:gs.length<50:=by have:=congrArg length ag;rw[length_map,length_map]at this;omega
 have T1:=L.tr.tr;refine uz T O9 O L (by omega) (by omega) hgl hs (λy hy hv hb e sa' d1 al' H1 fa L1 kp T'=>?_) (λhv H1 off T'=>?_) (λdd hd hf t1 us e al' H1 fa told L1 kp T'=>?_) (λdd hd hf wd H1 told off T'=>?_)
 ·cases hB with
  |bad h _=>exact absurd (kc hv h) hb
  |told dd _ _ h _ _ _ _=>exact(cE hv h).elim
  |refused dd _ h _ _ _=>exact(cE hv h).elim
  |tag y2 d2' hy2 nb hv2 hn1 tg1 =>
   have ey:=kc hv hv2;subst ey;have ed:(decide (y∈x.gs.map (·.1)))=decide (y∈gs.map (·.1)):=by rw[ag.names]
   rw[←ed];have hv':H sa=some (.tup [.str "tag",.str y]):=hv;refine qn t d1 al' z (cP gs y (t,z)) _ ⟨n1,x.t,d2',x.z,cP x.gs y (x.t,x.z)⟩ H1 fa kp T' L1 ⟨kp.tup T hp hpl hn1,kp.tre T hp hpl R.tr,kp.tags T hp hpl tg1⟩ rfl (qF en (ag.put en.symm).symm) ⟨ok.nd,le_succ_of_le ok.len,λg hg=>?_⟩ rfl ⟨rfl,_,rfl⟩ (.inr ⟨_,rfl⟩);rcases jV hg with e|h
   ·rw[e];exact⟨hy,hb⟩
   ·exact ok.nm g h
 ·cases hB with
  |tag y _ _ nb hv2 _ _=>exact absurd (kc hv2 hv) nb
  |told dd _ _ h _ _ _ _=>exact(cE hv h).elim
  |refused dd _ h _ _ _=>exact(cE hv h).elim
  |bad _ en1 =>
   exact qs _ H1 off T' rfl en1
 ·cases hB with
  |tag y _ _ _ hv2 _ _=>exact(cE hv2 hd).elim
  |bad hv2 _=>exact(cE hv2 hd).elim
  |refused d2 _ h _ told2 _ =>
   rw[iq h hd,en]at told2;have:=TW.Told.one T1 told told2;cases this
  |told d2 t2' us' h _ told2 tr2 hn1 =>
   rw[iq h hd,en]at told2;have ens:nds us=nds us':=by have:=TW.Told.one T1 told told2;injection this
   have hul:us.length≤z.length+1:=by have:=told.len;rwa [aZ,aZ]at this
   have hul':us'.length=us.length:=by have:=congrArg length ens;rw[aZ,aZ]at this;omega
   have okz:∀m∈nds z,ik m:=by rw[←en];exact ok.nd
   refine qn t1 d al' us gs _ ⟨n1,t2',x.d,us',x.gs⟩ H1 fa kp T' L1 ⟨kp.tup T hp hpl hn1,kp.tre T hp hpl tr2,kp.tags T hp hpl R.tg⟩ rfl (qF ens.symm ag.symm) ⟨?_,?_,ok.nm⟩ rfl ⟨rQ dd,vV dd⟩ (.inl rfl)
   ·show ∀m∈nds us',ik m;rw[←ens];exact ik.told okz hf told
   ·show us'.length≤_;omega
 ·cases hB with
  |tag y _ _ _ hv2 _ _=>exact(cE hv2 hd).elim
  |bad hv2 _=>exact(cE hv2 hd).elim
  |told d2 _ us' h _ told2 _ _ =>
   rw[iq h hd,en]at told2;have:=TW.Told.one T1 told told2;cases this
  |refused d2 wd2 h _ told2 en1 =>
   rw[iq h hd,en]at told2;have ew:wd=wd2:=by have:=TW.Told.one T1 told told2;injection this
   subst ew;exact qs _ H1 off T' rfl en1
end
abbrev vσ(a tb p r:Addr)(k:Int)(x5 x6 x7 x8 x9 x10 x11 x12 x13 x14:Option V):St:=[some (.ref a),some (.ref tb),some (.ref p),some (.ref r),some (.int k),x5,x6,x7,x8,x9,x10,x11,x12,x13,x14]
theorem rR{rs:List Rw}{es:List Ent}{z z2:ZN}{gs gs2:TG}{e:Ent}{y:Rw}(h:rs.map dF=KS es z gs [])(he:iV e=cm z gs)(hy:dF y=cm z2 gs2):(rs++[y]).map dF=KS (es++[e]) z2 gs2 []:=by
 rw[map_append,h];unfold KS;simp[he,hy]
theorem qG{es:List Ent}{z z2:ZN}{gs gs2:TG}{e:Ent}(he:iV e=cm z gs):KS (es++[e]) z2 gs2 []=KS es z gs []++[cm z2 gs2]:=by
 unfold KS;simp[he]
theorem ze{es:List Ent}{z z2:ZN}{gs gs2:TG}{e:Ent}{k:SK}(he:iV e=cm z gs)(h:(KS es z gs [])[0]?=some k):(KS (es++[e]) z2 gs2 [])[0]?=some k:=by
 rw[qG he,getElem?_append_left (by unfold KS;simp)];exact h
section
variable{P:Program}{w:World}{K:PySem.W.Frag}{mg:Str→Option Value}{base:Heap}{f cL:Addr}{A:Around}{outer:List Env}{s:Shared}{H0:Hp}{E:XK}{C Dd PL PD:Addr}{B:Nat→Addr}
theorem l0(hr:R10 A s f cL)(CS:Has P w K mg base 4 "_law_step" ["_law_script","_law_at","_law_tree_here"] (dY K)):
  ∃rd,PS (EU P w K mg base f cL A outer s H0 E) (tB 0) rd∧∀(D:Ends)(H:Hp)(a tb p r:Addr)(n k:Nat)(rs:List Rw)(x:Rw)(x5 x6 x7 x8 x9 x10 x11 x12 x13 x14:Option V),di K H a→H r=some (.lst (rs.map λx=>V.ref x.a))→rs[n]?=some x→rs.length=n+1→RwAt H x→(∀m∈nds x.z,ik m) →
   (∀sa H',Same H H'→gb H' sa→D.nx (vσ a tb p r k (some (.ref sa)) x6 x7 x8 x9 x10 x11 x12 x13 x14) H')→rd D (vσ a tb p r k x5 x6 x7 x8 x9 x10 x11 x12 x13 x14) H:=by
 obtain⟨fS,fdS,GS,mS,kS,bS⟩:=CS;have hr4:Room 4 _:=hr.mono (by decide);refine⟨_,aJ (i:=5) dZ.nd rfl (Or.inl rfl) (ar GS hr4 rfl mS kS bS .nil aK (aa (pv 0) (aa (aI bb ak (aI cY ak (pv 4))) (aa (aB aA (aB bx (pv 3) (mh jj ak) (λ_ _=>rfl)) ak (λ_ _=>rfl)) af)))),?_⟩;intro D H a tb p r n k rs x x5 x6 x7 x8 x9 x10 x11 x12 x13 x14 hS hl hx hn R ok q;exact⟨_,rfl,_,rfl,_,_,rfl,rfl,.inl ⟨by decide,by decide⟩,_,_,rfl,rfl,_,rfl,_,rfl,r,_,_,_,rfl,rfl,SqL.of hl,iI hx hn,x.a,_,_,_,rfl,rfl,SqT.of R.ob,rfl,a,_,x.t,x.z,rfl,by omega,hS,R.tr,ok,λy sa H' hy s' hv=>q sa H' s' (.inl ⟨y,hy,hv⟩),λsa dd H' s' hd hf=>q sa H' s' (.inr ⟨dd,hd,hf⟩)⟩
theorem l1(hr:R10 A s f cL)(CB:Has P w K mg base 3 "_law_behind" ["_law_now","_law_step_here"] gw):
  ∃rd,PS (EU P w K mg base f cL A outer s H0 E) (tB 1) rd∧∀(D:Ends)(H:Hp)(a tb p r sa:Addr)(n k:Nat)(rs:List Rw)(x:Rw)(x6 x7 x8 x9 x10 x11 x12 x13 x14:Option V),gb H sa→H r=some (.lst (rs.map λx=>V.ref x.a))→rs[n]?=some x→rs.length=n+1→RwAt H x→x.gs.length<50→x.z.length≤29 →
   (∀n1 v H',Same H H'→Beh H' sa x.a n1 x.t x.d x.z x.gs v→D.nx (vσ a tb p r k (some (.ref sa)) (some (.ref n1)) (some v) x8 x9 x10 x11 x12 x13 x14) H')→rd D (vσ a tb p r k (some (.ref sa)) x6 x7 x8 x9 x10 x11 x12 x13 x14) H:=by
 obtain⟨fB,fdB,GB,mB,kB,bB⟩:=CB;have hr3:Room 3 _:=hr.mono (by decide);refine⟨_,nW (ar GB hr3 rfl mB kB bB .nil aK (aa (aB bx (pv 3) (mh jj ak) (λ_ _=>rfl)) (aa (pv 5) af))) (lv (n:=2) rfl (cU (aQ (i:=6) dZ.nd rfl (Or.inl rfl)) (cU (aQ (i:=7) dZ.nd rfl (Or.inl rfl)) iW))),?_⟩;intro D H a tb p r sa n k rs x x6 x7 x8 x9 x10 x11 x12 x13 x14 hs hl hx hn R hgl hz q;refine⟨_,rfl,_,rfl,r,_,_,_,rfl,rfl,SqL.of hl,iI hx hn,_,rfl,x.a,sa,x.t,x.d,x.z,x.gs,rfl,R.ob,R.tr,R.tg,hgl,?_⟩;rcases hs with⟨y,hy,hv⟩|⟨dd,hd,hf⟩
 ·have hv':H sa=some (.tup [.str "tag",.str y]):=hv;refine .inl ⟨y,hv,λhb r H' s' hr'=>?_,λhb r n' d1 H' s' hr' hn' tg'=>?_⟩
  ·subst hb;exact⟨r,_,rfl,SqT.of hr',rfl,_,_,rfl,_,_,rfl,rfl,q x.a _ H' s' (.bad (s' _ _ hv') rfl)⟩
  ·exact⟨r,_,rfl,SqT.of hr',rfl,_,_,rfl,_,_,rfl,rfl,q n' _ H' s' (.tag y d1 hy hb (s' _ _ hv') hn' tg')⟩
 ·refine .inr ⟨dd,hd,hf.ok,hz,λr n' us t1 H' s' told tr' hr' hn'=>?_,λwd r H' s' told hr'=>?_⟩
  ·exact⟨r,_,rfl,SqT.of hr',rfl,_,_,rfl,_,_,rfl,rfl,q n' _ H' s' (.told dd t1 us (s' _ _ hd) hf told tr' hn')⟩
  ·exact⟨r,_,rfl,SqT.of hr',rfl,_,_,rfl,_,_,rfl,rfl,q x.a _ H' s' (.refused dd wd (s' _ _ hd) hf told rfl)⟩
theorem l2(hr:R10 A s f cL)(CD:Has P w K mg base 8 "_law_did" ["_law_ledger","_law_step_here"] (ip PD C (B 9) Dd (λwd=>B (bw wd)) B K)):
  ∃rd,PS (EU P w K mg base f cL A outer s H0 E) (tB 2) rd∧∀(D:Ends)(H:Hp)(a tb p r sa:Addr)(k:Int)(x6 x7 x8 x9 x10 x11 x12 x13 x14:Option V),
   pB PD cB [0,1] (λf c fv=>eZ f (rO c (iS C (B 9) (λwd=>B (bw wd)) fv)) B Dd K) [some (.ref p),some (.ref sa)] H (λ_ H'=>D.nx (vσ a tb p r k (some (.ref sa)) x6 x7 x8 x9 x10 x11 x12 x13 x14) H')→rd D (vσ a tb p r k (some (.ref sa)) x6 x7 x8 x9 x10 x11 x12 x13 x14) H:=by
 obtain⟨fD,fdD,GD,mD,kD,bD⟩:=CD;have hr8:Room 8 _:=hr.mono (by decide);refine⟨_,bn (ar GD hr8 rfl mD kD bD .nil aK (aa (pv 2) (aa (pv 5) af))),?_⟩;intro D H a tb p r sa k x6 x7 x8 x9 x10 x11 x12 x13 x14 h;exact⟨_,rfl,_,rfl,p,sa,rfl,h⟩
theorem l3(T:Txt mg)(hr:R10 A s f cL):
  ∃rd,PS (EU P w K mg base f cL A outer s H0 E) (tB 3) rd∧∀(D:Ends)(H:Hp)(a tb p r sa n1:Addr)(k:Int)(rs:List Rw)(v:V)(x8 x9 x10 x11 x12 x13 x14:Option V),H r=some (.lst (rs.map λx=>V.ref x.a))→rs.length≤100 →
   ((∃x,v=.str x)∨v=.non∨∃b,v=.bl b) →
   (∀l2 H',Same H H'→(∀b o,H b=some o→l2≠b)→((∃x,v=.str x)→H' l2=some (.lst (rs.map λx=>V.ref x.a)))→((v=.non∨∃b,v=.bl b)→H' l2=some (.lst ((rs.map λx=>V.ref x.a)++[.ref n1])))→D.nx (vσ a tb p l2 k (some (.ref sa)) (some (.ref n1)) (some v) x8 x9 x10 x11 x12 x13 x14) H')→rd D (vσ a tb p r k (some (.ref sa)) (some (.ref n1)) (some v) x8 x9 x10 x11 x12 x13 x14) H:=by
 refine⟨_,aJ (i:=3) dZ.nd rfl (Or.inl rfl) (aI cZ (pv 3) (aI wN (ba (aa (pv 6) af)) (aW ko rfl T.int rfl (aa (rY (aF dL rfl T.isin boot_isinstance (aa (pv 7) (aa (gP (v:=.ty "str") rfl T.str boot_str rfl) af)))) af)))),?_⟩;intro D H a tb p r sa n1 k rs v x8 x9 x10 x11 x12 x13 x14 hl hln hv q;refine⟨_,rfl,_,rfl,aq (show 1≤1000 by decide),λl1 hl1=>?_⟩;have s1:=ae (o:=.lst [.ref n1]) hl1;have g1:upd H l1 (.lst [.ref n1]) l1=some (.lst [.ref n1]):=ac;generalize upd H l1 (.lst [.ref n1])=H1 at s1 g1⊢;rcases hv with⟨x,rfl⟩|rfl|⟨b,rfl⟩
 ·refine⟨_,rfl,_,_,_,_,rfl,.str x,(by kernel_rfl:_=some true),_,rfl,.inr ⟨_,rfl,?_⟩⟩;refine⟨l1,_,[.ref n1],rfl,rfl,g1,by decide,by decide,aq (show 0≤1000 by decide),λl3 hl3=>?_⟩;have s3:=ae (o:=.lst []) hl3;have g3:upd H1 l3 (.lst []) l3=some (.lst []):=ac;show uL _ _ (upd H1 l3 (.lst [])) _;generalize upd H1 l3 (.lst [])=H3 at s3 g3⊢;refine⟨r,l3,_,_,rfl,rfl,s3 _ _ (s1 _ _ hl),g3,aq (by rw[length_map];show _+0≤1000;omega),λl4 hl4=>?_⟩;have s4:=ae (o:=.lst ((rs.map λx=>V.ref x.a)++[])) hl4;refine q l4 _ (s1.trans (s3.trans s4)) (λb o h e=>by have:=s3 _ _ (s1 _ _ h);rw[←e,hl4]at this;cases this) (λh=>?_) (λh=>?_)
  ·rw[ac,append_nil]
  ·rcases h with h|⟨b,h⟩<;>cases h
 ·refine⟨_,rfl,_,_,_,_,rfl,.non,(by kernel_rfl:_=some false),_,rfl,.inr ⟨_,rfl,?_⟩⟩;refine⟨l1,_,[.ref n1],rfl,rfl,g1,by decide,by decide,aq (show 1≤1000 by decide),λl3 hl3=>?_⟩;have s3:=ae (o:=.lst [.ref n1]) hl3;have g3:upd H1 l3 (.lst [.ref n1]) l3=some (.lst [.ref n1]):=ac;show uL _ _ (upd H1 l3 (.lst [.ref n1])) _;generalize upd H1 l3 (.lst [.ref n1])=H3 at s3 g3⊢;refine⟨r,l3,_,_,rfl,rfl,s3 _ _ (s1 _ _ hl),g3,aq (by rw[length_map];show _+1≤1000;omega),λl4 hl4=>?_⟩;have s4:=ae (o:=.lst ((rs.map λx=>V.ref x.a)++[.ref n1])) hl4;refine q l4 _ (s1.trans (s3.trans s4)) (λb o h e=>by have:=s3 _ _ (s1 _ _ h);rw[←e,hl4]at this;cases this) (λh=>?_) (λh=>?_)
  ·obtain⟨x,h⟩:=h;cases h
  ·rw[ac]
 ·refine⟨_,rfl,_,_,_,_,rfl,.bl b,(by kernel_rfl:_=some false),_,rfl,.inr ⟨_,rfl,?_⟩⟩;refine⟨l1,_,[.ref n1],rfl,rfl,g1,by decide,by decide,aq (show 1≤1000 by decide),λl3 hl3=>?_⟩;have s3:=ae (o:=.lst [.ref n1]) hl3;have g3:upd H1 l3 (.lst [.ref n1]) l3=some (.lst [.ref n1]):=ac;show uL _ _ (upd H1 l3 (.lst [.ref n1])) _;generalize upd H1 l3 (.lst [.ref n1])=H3 at s3 g3⊢;refine⟨r,l3,_,_,rfl,rfl,s3 _ _ (s1 _ _ hl),g3,aq (by rw[length_map];show _+1≤1000;omega),λl4 hl4=>?_⟩;have s4:=ae (o:=.lst ((rs.map λx=>V.ref x.a)++[.ref n1])) hl4;refine q l4 _ (s1.trans (s3.trans s4)) (λb o h e=>by have:=s3 _ _ (s1 _ _ h);rw[←e,hl4]at this;cases this) (λh=>?_) (λh=>?_)
  ·obtain⟨x,h⟩:=h;cases h
  ·rw[ac]
theorem lA(Tx:Txt mg)(hr:R10 A s f cL)(nPD:PL≠PD)(O9:One12 K B Dd 9)(O:∀wd,One12 K B Dd (bw wd))(CS:Has P w K mg base 4 "_law_step" ["_law_script","_law_at","_law_tree_here"] (dY K))(CB:Has P w K mg base 3 "_law_behind" ["_law_now","_law_step_here"] gw)(CD:Has P w K mg base 8 "_law_did" ["_law_ledger","_law_step_here"] (ip PD C (B 9) Dd (λwd=>B (bw wd)) B K)):
  ∃rd,PSs (EU P w K mg base f cL A outer s H0 E) [tB 0,tB 1,tB 2,tB 3] rd∧∀(D:Ends)(H:Hp)(a tb p t d pl al r:Addr)(k i:Nat)(zb z:ZN)(gs:TG)(es:List Ent)(rs:List Rw)(x5 x6 x7 x8 x9 x10 x11 x12 x13 x14:Option V),i≤7→Scr K H a→aN H PL dG→aN H PD cB→Iw C H p tb t d pl al r zb z gs es rs i →
   (∀t2 d2 al2 r2 z2 gs2 es2 rs2 x5 x6 x7 H',Scr K H' a→aN H' PL dG→aN H' PD cB→Iw C H' p tb t2 d2 pl al2 r2 zb z2 gs2 es2 rs2 (i+1)→D.nx (vσ a tb p r2 k x5 x6 x7 x8 x9 x10 x11 x12 x13 x14) H')→rd D (vσ a tb p r k x5 x6 x7 x8 x9 x10 x11 x12 x13 x14) H:=by
 obtain⟨r0,p0,h0⟩:=l0 (outer:=outer) (H0:=H0) (E:=E) hr CS;obtain⟨r1,p1,h1⟩:=l1 (outer:=outer) (H0:=H0) (E:=E) hr CB;obtain⟨r2,p2,h2⟩:=l2 (outer:=outer) (H0:=H0) (E:=E) hr CD;obtain⟨r3,p3,h3⟩:=l3 (P:=P) (w:=w) (K:=K) (base:=base) (outer:=outer) (H0:=H0) (E:=E) Tx hr;refine⟨_,ai p0 (ai p1 (ai p2 (ao p3))),?_⟩;intro D H a tb p t d pl al r k i zb z gs es rs x5 x6 x7 x8 x9 x10 x11 x12 x13 x14 hi hS TL TD J q;obtain⟨x,gx,mx,en,ag⟩:=J.cur;have okx:=J.ok x mx;have hrl:=J.rlen;have hfew:=J.few;refine h0 _ H a tb p r es.length k rs x _ _ _ _ _ _ _ _ _ _ hS.at J.rl gx hrl (J.rat x mx) okx.nd λsa H1 s1 hst=>?_;have J1:=J.same s1;refine h1 _ H1 a tb p r sa es.length k rs x _ _ _ _ _ _ _ _ _ hst J1.rl gx hrl (J1.rat x mx) (kd (J1.rat x mx).tg.nd okx.nm) (by have:=okx.len;omega) λn1 v H2 s2 hB=>?_;have s12:=s1.trans s2;have J2:=J1.same s2;have TD2:=ap TD (av s12);have TL2:=ap TL (av s12);have hS2:=hS.same s12;have hst2:gb H2 sa:=by
  rcases hst with⟨y,hy,hv⟩|⟨dd,hd,hf⟩
  ·exact .inl ⟨y,hy,s2 _ _ hv⟩
  ·exact .inr ⟨dd,s2 _ _ hd,hf⟩
 obtain⟨dx,hp2⟩:=J2.L.ob;have hpl2:=J2.L.ps;refine h2 _ H2 a tb p r sa k _ _ _ _ _ _ _ _ _ (nU O9 O (by omega) J2.L (by omega) (J2.rat x mx) en ag okx TD2 hst2 hB (λy H3 off T3 ev e1=>?_) (λt2 d2 al2 z2 gs2 e y H3 fa kp T3 L3 R3 ya ky oky ke eok hv=>?_))
 ·have J3:=J2.off TD2 off;refine h3 _ H3 a tb p r sa n1 k rs v _ _ _ _ _ _ _ J3.rl (by omega) (.inl ⟨y,ev⟩) λl2 H4 s4 fr c1 _=>?_;have J4:=J3.same s4;exact q t d al l2 z gs es rs _ _ _ H4 ((hS2.off TD2 off).same s4) (ap (aN.off nPD TD2 off TL2) (av s4)) (ap T3 (av s4)) (Iw.up ⟨J4.L,c1 ⟨y,ev⟩,J4.rat,J4.key,J4.ok,J4.fx,J4.few,J4.one,J4.hd,fr _ _ J3.L.ps,fr _ _ J3.L.ah⟩)
 ·obtain⟨ps,tp,_⟩:=id TD2;have keepT:∀b xs,H2 b=some (.tup xs)→H3 b=some (.tup xs):=λb xs h=>kp.tup TD2 hp2 hpl2 h;have hr3:H3 r=some (.lst (rs.map λx=>V.ref x.a)):=kp r _ J2.rl (λz=>by have:=J2.rl;rw[z,tp]at this;cases this) (λz=>by have:=J2.rl;rw[z,hp2]at this;cases this) J2.n1;refine h3 _ H3 a tb p r sa n1 k rs v _ _ _ _ _ _ _ hr3 (by omega) (.inr hv) λl2 H4 s4 fr _ c2=>?_;have J4:Iw C H4 p tb t2 d2 pl al2 l2 zb z2 gs2 (es++[e]) (rs++[y]) (i+1):=by
   refine⟨L3.same s4,?_,λx' hx'=>?_,rR J.key ke ky,λx' hx'=>?_,λe' he'=>?_,?_,?_,ze ke J.hd,fr _ _ L3.ps,fr _ _ L3.ah⟩
   ·rw[c2 hv,map_append,←ya];rfl
   ·rcases mem_append.mp hx' with h|h
    ·have R:=J2.rat x' h;exact RwAt.same ⟨keepT _ _ R.ob,kp.tre TD2 hp2 hpl2 R.tr,kp.tags TD2 hp2 hpl2 R.tg⟩ s4
    ·rw[mem_singleton.mp h];exact R3.same s4
   ·rcases mem_append.mp hx' with h|h
    ·exact(J.ok x' h).up
    ·rw[mem_singleton.mp h];exact oky
   ·rcases mem_append.mp he' with h|h
    ·exact J.fx e' h
    ·rw[mem_singleton.mp h];exact eok
   ·rw[length_append];simp;omega
   ·rw[length_append];simp
  exact q t2 d2 al2 l2 z2 gs2 _ _ _ _ _ H4 ((hS2.kp TD2 hp2 hpl2 kp).same s4) (ap (aN.kp nPD TD2 hp2 hpl2 kp TL2) (av s4)) (ap T3 (av s4)) J4
theorem t3(Tx:Txt mg)(hr:R10 A s f cL)(nPD:PL≠PD)(O9:One12 K B Dd 9)(O:∀wd,One12 K B Dd (bw wd))(CS:Has P w K mg base 4 "_law_step" ["_law_script","_law_at","_law_tree_here"] (dY K))(CB:Has P w K mg base 3 "_law_behind" ["_law_now","_law_step_here"] gw)(CD:Has P w K mg base 8 "_law_did" ["_law_ledger","_law_step_here"] (ip PD C (B 9) Dd (λwd=>B (bw wd)) B K)):
  ∃rd,PS (EU P w K mg base f cL A outer s H0 E) (tS 3) rd∧∀(D:Ends)(H:Hp)(a tb p t d pl al r:Addr)(zb z:ZN)(gs:TG)(es:List Ent)(rs:List Rw)(x4 x5 x6 x7 x8 x9 x10 x11 x12 x13 x14:Option V),Scr K H a→aN H PL dG→aN H PD cB→Iw C H p tb t d pl al r zb z gs es rs 0 →
   (∀t2 d2 al2 r2 z2 gs2 es2 rs2 x4 x5 x6 x7 H',Scr K H' a→aN H' PL dG→aN H' PD cB→Iw C H' p tb t2 d2 pl al2 r2 zb z2 gs2 es2 rs2 8→D.nx (uσ a tb (some (.ref p)) (some (.ref r2)) x4 x5 x6 x7 x8 x9 x10 x11 x12 x13 x14) H')→rd D (uσ a tb (some (.ref p)) (some (.ref r)) x4 x5 x6 x7 x8 x9 x10 x11 x12 x13 x14) H:=by
 obtain⟨rb,pb,hb⟩:=lA (outer:=outer) (H0:=H0) (E:=E) Tx hr nPD O9 O CS CB CD;refine⟨_,eP PassesOwn.never rfl (ee rfl Tx.range (aa ak af)) (aQ (i:=4) dZ.nd rfl (Or.inl rfl)) pb,?_⟩;intro D H a tb p t d pl al r zb z gs es rs x4 x5 x6 x7 x8 x9 x10 x11 x12 x13 x14 hS TL TD J q;refine⟨8,rfl,by decide,by decide,eu (n:=8) (λi σ H'=>∃t2 d2 al2 r2 z2 gs2 es2 rs2 x4 x5 x6 x7,σ=uσ a tb (some (.ref p)) (some (.ref r2)) x4 x5 x6 x7 x8 x9 x10 x11 x12 x13 x14∧Scr K H' a∧aN H' PL dG∧aN H' PD cB∧Iw C H' p tb t2 d2 pl al2 r2 zb z2 gs2 es2 rs2 i) ⟨t,d,al,r,z,gs,es,rs,_,_,_,_,rfl,hS,TL,TD,J⟩ (λi σ H2 hi h=>?_) (λσ H2 h=>?_)⟩
 ·obtain⟨t2,d2,al2,r2,z2,gs2,es2,rs2,y4,y5,y6,y7,rfl,hS2,TL2,TD2,J2⟩:=h;rw[show(0:Int)+(i:Int)=i by omega];exact hb _ H2 a tb p t2 d2 pl al2 r2 i i zb z2 gs2 es2 rs2 _ _ _ _ _ _ _ _ _ _ (by omega) hS2 TL2 TD2 J2 λt3 d3 al3 r3 z3 gs3 es3 rs3 x5 x6 x7 H3 hS3 TL3 TD3 J3=>⟨t3,d3,al3,r3,z3,gs3,es3,rs3,_,_,_,_,rfl,hS3,TL3,TD3,J3⟩
 ·obtain⟨t2,d2,al2,r2,z2,gs2,es2,rs2,y4,y5,y6,y7,rfl,hS2,TL2,TD2,J2⟩:=h;exact q t2 d2 al2 r2 z2 gs2 es2 rs2 _ _ _ _ H2 hS2 TL2 TD2 J2
end
theorem nV{H:Hp}{ls:List Addr}{es:List Ent}(hl:ls.length=es.length)(h:∀(j:Nat) a e,ls[j]?=some a→es[j]?=some e→H a=some (.tup e.xs))(he:∀e∈es,EntAt H e)(fx:∀e∈es,e.xs.all cQ=true):fz H (es.map λe=>V.ref e.sa) (ls.map V.ref):=by
 refine⟨by rw[length_map,length_map,hl],λi x y hx hy=>?_⟩;rw[getElem?_map]at hx hy;cases h1:es[i]? with
 |none=>rw[h1]at hx;cases hx
 |some e =>
  cases h2:ls[i]? with
  |none=>rw[h2]at hy;cases hy
  |some a =>
   rw[h1]at hx;rw[h2]at hy;cases hx;cases hy;have me:=mem_of_getElem? h1;refine .inr ⟨e.sa,a,_,_,rfl,rfl,(he e me).st,h i a e h2 h1,rfl,λj x y hx hy=>?_⟩;rw[hx]at hy;cases hy;exact gH ⟨rfl,all_eq_true.mp (fx e me) _ (mem_of_getElem? hx)⟩
theorem rS{α:Type}(xs:List α)(u v:α):atI (xs++[u,v]) (-2)=some u:=by
 have hl:(xs++[u,v]).length=xs.length+2:=by simp
 have e:ixN (xs++[u,v]).length (-2)=some xs.length:=by
  unfold ixN;rw[hl,if_neg (by decide),if_pos (by omega)]
  congr 1
  omega
 unfold atI;rw[e];show(xs++[u,v])[xs.length]?=some u;simp
structure Two(C:Addr)(H:Hp)(p tb t d pl al p2 pl2 al2 r:Addr)(zb z:ZN)(gs:TG)(es as:List Ent)(rs:List Rw):Prop where
 L1:LAt C H p tb t d pl al zb z gs es as
 L2:LAt C H p2 tb t d pl2 al2 zb z gs es as
 rl:H r=some (.lst (rs.map λx=>V.ref x.a))
 rat:∀x∈rs,RwAt H x
 key:rs.map dF=KS es z gs as
 ok:∀x∈rs,ROk x 8
 fx:∀e∈es++as,EOk e
 one:as.length=1
 few:es.length≤8
 hd:(KS es z gs as)[0]?=some (cm zb [])
 np:p≠p2
 n11:pl≠pl2
 n12:pl≠al2
 n21:al≠pl2
 n22:al≠al2
 r1:r≠pl
 r2:r≠al
 r3:r≠pl2
 r4:r≠al2
section
variable{C:Addr}{H H':Hp}{p tb t d pl al p2 pl2 al2 r:Addr}{zb z:ZN}{gs:TG}{es as:List Ent}{rs:List Rw}
theorem Two.same(h:Two C H p tb t d pl al p2 pl2 al2 r zb z gs es as rs)(s:Same H H'):Two C H' p tb t d pl al p2 pl2 al2 r zb z gs es as rs :=
 ⟨h.L1.same s,h.L2.same s,s _ _ h.rl,λx hx=>(h.rat x hx).same s,h.key,h.ok,h.fx,h.one,h.few,h.hd,h.np,h.n11,h.n12,h.n21,h.n22,h.r1,h.r2,h.r3,h.r4⟩
end
abbrev wσ(a tb p r:Addr)(x4 x5 x6 x7:Option V)(m:Int)(x9 x10 x11 x12 x13 x14:Option V):St:=uσ a tb (some (.ref p)) (some (.ref r)) x4 x5 x6 x7 (some (.int m)) x9 x10 x11 x12 x13 x14
section
variable{P:Program}{w:World}{K:PySem.W.Frag}{mg:Str→Option Value}{base:Heap}{f cL:Addr}{A:Around}{outer:List Env}{s:Shared}{H0:Hp}{E:XK}{C Dd PL PD:Addr}{B:Nat→Addr}
theorem zR{fB fW:Addr}{fdB fdW:FuncData}(Tx:Txt mg)(hr:R10 A s f cL)(T:LCls K mg C)(MB:Meth K C "back" fB)(GB:FnOk P w K mg base (CX1 P w) 2 fB fdB ["self"] (im C (B 2)))(bB:aG K fdB ["self"] [])(MW:Meth K C "twin" fW)(GW:FnOk P w K mg base CX0 3 fW fdW ["self"] (nT C))(bW:aG K fdW ["self"] [])(rest:List Stmt)(u:TS)(hu:PSs (EU P w K mg base f cL A outer s H0 E) rest u):
  ∃rd,PSs (EU P w K mg base f cL A outer s H0 E) (tS 4::tS 5::tS 6::rest) rd∧∀(D:Ends)(H:Hp)(a tb p t d pl al r:Addr)(zb z:ZN)(gs:TG)(es:List Ent)(rs:List Rw)(x4 x5 x6 x7 x8 x9 x10 x11 x12 x13 x14:Option V),Scr K H a→aN H PL dG→aN H PD cB→Iw C H p tb t d pl al r zb z gs es rs 8 →
   (∀t2 d2 al2 p2 pl2 al3 z2 gs2 es2 as2 H',Scr K H' a→aN H' PL dG→aN H' PD cB→es2.length+1=es.length→Two C H' p tb t2 d2 pl al2 p2 pl2 al3 r zb z2 gs2 es2 as2 rs→u D (wσ a tb p r x4 x5 x6 x7 es.length (some (.ref p2)) x10 x11 x12 x13 x14) H')→rd D (uσ a tb (some (.ref p)) (some (.ref r)) x4 x5 x6 x7 x8 x9 x10 x11 x12 x13 x14) H:=by
 have hr2:Room 2 _:=hr.mono (by decide);have hr3:Room 3 _:=hr.mono (by decide);refine⟨_,ai (aJ (i:=8) dZ.nd rfl (Or.inl rfl) (aI sh (aF bo rfl Tx.len boot_len (aa (pv 3) af)) ak)) (ai (bn (ca (pv 2) T.cl MB GB hr2 bB .nil nA)) (ai (aJ (i:=9) dZ.nd rfl (Or.inl rfl) (ca (pv 2) T.cl MW GW hr3 bW .nil aK)) hu)),?_⟩;intro D H a tb p t d pl al r zb z gs es rs x4 x5 x6 x7 x8 x9 x10 x11 x12 x13 x14 hS TL TD J q;obtain⟨dx,hp⟩:=J.L.ob;have hrl:=J.rlen;have hone:=J.one;have hfew:=J.few;refine⟨_,rfl,r,_,rfl,.inl (SqL.of J.rl),_,_,rfl,rfl,?_⟩;have en:(((rs.map λx=>V.ref x.a).length:Int)-1)=(es.length:Int):=by rw[length_map,hrl];omega
 show lZ _ _ _ (wσ a tb p r x4 x5 x6 x7 (((rs.map λx=>V.ref x.a).length:Int)-1) x9 x10 x11 x12 x13 x14) H;rw[en];refine⟨_,rfl,p,dx,_,rfl,hp,ci (by decide +kernel) (by decide +kernel) (by decide +kernel) (by decide +kernel) (by decide +kernel),p,tb,t,d,pl,al,zb,z,gs,es,[],rfl,J.L,λe he=>let⟨y,hy⟩:=(J.fx e he).2;⟨_,hy⟩,zero_le _,λes' e y q' H1 e0 hy L1 k o=>?_,λe0=>absurd e0 (λh=>by rw[h]at hone;simp at hone)⟩;subst e0;obtain⟨dx1,hp1⟩:=L1.ob;have nr:∀{b:Addr}{xs:List V},H b=some (.lst xs)→b≠pl→b≠al→H1 b=some (.lst xs):=λ{b xs} hb n1 n2=>o _ _ hb (by
  have n0:b≠p:=λz=>by rw[z,hp]at hb;cases hb
  simp[n0,n1,n2])
 refine⟨_,rfl,p,dx1,_,rfl,hp1,ci (by decide +kernel) (by decide +kernel) (by decide +kernel) (by decide +kernel) (by decide +kernel),p,tb,e.ta,e.da,pl,al,zb,e.z,e.gs,es',_,rfl,L1,λp2 pl2 al2 H2 s2 f1 f2 f3 L2=>?_⟩;have ks:KS (es'++[e]) z gs []=KS es' e.z e.gs [⟨q',e.sa,t,d,e.xs,z,gs⟩]:=by unfold KS;simp[iV]
 have rl1:=nr J.rl J.n1 J.n2;have nof:∀{b c:Addr}{o:HO},H1 b=some o→H1 c=none→b≠c:=λh1 h2 e=>by rw[e,h2]at h1;cases h1
 exact q _ _ al p2 pl2 al2 _ _ es' _ H2 ((hS.stay k).same s2) (ap (ap TL k) (av s2)) (ap (ap TD k) (av s2)) (by simp)
  ⟨L1.same s2,L2,s2 _ _ rl1,λx hx=>((J.rat x hx).stay k).same s2,J.key.trans ks,J.ok,λx hx=>by
   simp only[nil_append,mem_append,mem_singleton]at hx;rcases hx with h|h
   ·exact J.fx x (by simp[h])
   ·rw[h];exact J.fx e (by simp),by simp,by simp at hfew;omega,(by have:=J.hd;rw[ks]at this;exact this),nof hp1 f1,nof L1.ps f2,nof L1.ps f3,nof L1.ah f2,nof L1.ah f3,J.n1,J.n2,nof rl1 f2,nof rl1 f3⟩
theorem Two.cur{C:Addr}{H:Hp}{p tb t d pl al p2 pl2 al2 r:Addr}{zb z:ZN}{gs:TG}{es as:List Ent}{rs:List Rw}(h:Two C H p tb t d pl al p2 pl2 al2 r zb z gs es as rs):∃us x y e,rs=us++[x,y]∧as=[e]∧us.length=es.length∧nds x.z=nds z∧fY gs x.gs∧dF y=iV e:=by
 obtain⟨e,ea⟩:∃e,as=[e]:=by
  have:=h.one
  match as,this with
  |[e],_=>exact⟨e,rfl⟩
 have hk:=h.key;rw[ea]at hk;have hl:rs.length=es.length+2:=by have:=congrArg length hk;unfold KS at this;simpa using this
 have e0:rs=rs.take es.length++rs.drop es.length:=(List.take_append_drop _ _).symm;obtain⟨x,y,exy⟩:∃x y,rs.drop es.length=[x,y]:=by
  have:(rs.drop es.length).length=2:=by rw[length_drop];omega
  match rs.drop es.length,this with
  |[x,y],_=>exact⟨x,y,rfl⟩
 have hd:(rs.map dF).drop es.length=[cm z gs,iV e]:=by
  rw[hk];unfold KS;rw[List.drop_append];simp
 rw[←List.map_drop,exy]at hd;simp at hd;obtain⟨h1,h2⟩:=gu hd.1;exact⟨_,x,y,e,by rw[←exy];exact e0,ea,by rw[length_take];omega,h1,h2.symm,hd.2⟩
theorem t7{fZ fS:Addr}{fdZ fdS:FuncData}(hr:R10 A s f cL)(T:LCls K mg C)(CA:Has P w K mg base 3 "_law_all_of" ["_law_ledger"] (iQ C))(MZ:Meth K C "sizes" fZ)(GZ:FnOk P w K mg base CX0 1 fZ fdZ ["self"] (iH C))(bZ:aG K fdZ ["self"] [])(MS:Meth K C "steps" fS)(GS:FnOk P w K mg base CX0 1 fS fdS ["self"] (jU C))(bS:aG K fdS ["self"] []):
  ∃rd,PS (EU P w K mg base f cL A outer s H0 E) (tS 7) rd∧∀(D:Ends)(H:Hp)(a tb p t d pl al p2 pl2 al2 r:Addr)(m:Nat)(zb z:ZN)(gs:TG)(es as:List Ent)(rs:List Rw)(x4 x5 x6 x7 x10 x11 x12 x13 x14:Option V),Two C H p tb t d pl al p2 pl2 al2 r zb z gs es as rs→es.length+1=m →
   (∀H',Same H H'→D.nx (wσ a tb p r x4 x5 x6 x7 m (some (.ref p2)) x10 x11 x12 x13 x14) H')→rd D (wσ a tb p r x4 x5 x6 x7 m (some (.ref p2)) x10 x11 x12 x13 x14) H:=by
 obtain⟨fA,fdA,GA,mA,kA,bA⟩:=CA;have hr3:Room 3 _:=hr.mono (by decide);have hr1:Room 1 _:=hr.mono (by decide);have hu6:(EU P w K mg base f cL A outer s H0 E).A.units+6<cLine:=lt_of_le_of_lt (add_le_add_left (show 6≤64 by decide) _) hr.units;refine⟨_,aX (PW.pt (pw_or (au (oF (oH hr)) (ca (pv 9) T.cl MZ GZ hr1 bZ .nil aK) (aP (aa (aI sh (pv 8) ak) (aa ak af))) (aD _)) (pw_or (au (lS hu6) (ar GA hr3 rfl mA kA bA .nil aK (aa (pv 9) af)) (aB bx (pv 3) (mh jj ak) (λ_ _=>rfl)) (aD _)) (pw_or1 (au (oF (oH hr)) (ca (pv 9) T.cl MS GS hr1 bS .nil aK) (ca (pv 2) T.cl MS GS hr1 bS .nil aK) (aD _)))))) (ao (ax fi)) aE,?_⟩;intro D H a tb p t d pl al p2 pl2 al2 r m zb z gs es as rs x4 x5 x6 x7 x10 x11 x12 x13 x14 W hm q;obtain⟨us,x,y,e,ers,eas,hus,en,ag,_⟩:=W.cur;have mx:x∈rs:=by rw[ers];simp
 have okx:=W.ok x mx;have hfew:=W.few;have hnm:∀g∈gs,g.1∈cO∧g.1≠"Bad":=λg hg=>by
  obtain⟨k,hk,e1,_⟩:=ag.get hg;rw[←e1];exact okx.nm k hk
 obtain⟨dx,hp⟩:=W.L2.ob;refine⟨_,rfl,p2,dx,_,rfl,hp,ci (by decide +kernel) (by decide +kernel) (by decide +kernel) (by decide +kernel) (by decide +kernel),p2,tb,t,d,pl2,al2,zb,z,gs,es,as,rfl,W.L2,λu2 hu2=>?_⟩;rw[show(as.length:Int)=1 by rw[W.one];rfl];have s2:=ae (o:=.tup [.int es.length,.int 1]) hu2;have g2:upd H u2 (.tup [.int es.length,.int 1]) u2=some (.tup [.int es.length,.int 1]):=ac;generalize upd H u2 (.tup [.int es.length,.int 1])=H2 at s2 g2⊢;refine⟨_,rfl,_,_,rfl,rfl,le2,λu3 hu3=>?_⟩;have hh:(HO.tup [V.int ((m:Int)-1),V.int 1])=HO.tup [.int es.length,.int 1]:=by rw[show((m:Int)-1)=(es.length:Int)by omega]
 rw[hh];have s3:=ae (o:=.tup [.int es.length,.int 1]) hu3;have g3:upd H2 u3 (.tup [.int es.length,.int 1]) u3=some (.tup [.int es.length,.int 1]):=ac;generalize upd H2 u3 (.tup [.int es.length,.int 1])=H3 at s3 g3⊢;have W3:=(W.same s2).same s3;refine .inr ⟨u2,u3,_,_,rfl,rfl,jP rfl,.inr ⟨s3 _ _ g2,g3⟩,_,rfl,aM ?_⟩;refine⟨_,rfl,p2,tb,t,d,pl2,al2,zb,z,gs,es,as,rfl,W3.L2,uA hnm,λu d3 ks H4 s4 hu hd3 hmem hlen _=>?_⟩;have W4:=W3.same s4;have R4:=W4.rat x mx;have eix:atI (rs.map λx=>V.ref x.a) (-2)=some (.ref x.a):=by rw[ers,map_append];exact rS _ _ _
 refine⟨_,rfl,_,rfl,r,_,_,_,rfl,rfl,SqL.of W4.rl,eix,u,x.a,_,_,rfl,rfl,fb W4.L2.tr R4.tr en W4.L2.tg.at' hd3 hmem hlen R4.tg ag,hu,R4.ob,_,rfl,aM ?_⟩;obtain⟨dx4,hp4⟩:=W4.L2.ob;refine⟨_,rfl,p2,dx4,_,rfl,hp4,ci (by decide +kernel) (by decide +kernel) (by decide +kernel) (by decide +kernel) (by decide +kernel),p2,tb,t,d,pl2,al2,zb,z,gs,es,as,rfl,W4.L2,by omega,λl5 H5 s5 hl5=>?_⟩;have W5:=W4.same s5;obtain⟨dx5,hp5⟩:=W5.L1.ob;refine⟨_,rfl,p,dx5,_,rfl,hp5,ci (by decide +kernel) (by decide +kernel) (by decide +kernel) (by decide +kernel) (by decide +kernel),p,tb,t,d,pl,al,zb,z,gs,es,as,rfl,W5.L1,by omega,λl6 H6 s6 hl6=>?_⟩;have W6:=W5.same s6;have e6:(es.map λe=>V.ref e.sa)=(es.map (·.sa)).map V.ref:=by rw[map_map];rfl
 refine .inr ⟨l5,l6,_,_,rfl,rfl,(?_:fz H6 (es.map λe=>V.ref e.sa) (es.map λe=>V.ref e.sa)),.inl ⟨s6 _ _ hl5,hl6⟩,_,rfl,aM (q H6 (s2.trans (s3.trans (s4.trans (s5.trans s6)))))⟩;have:=nV (ls:=es.map (·.sa)) (H:=H6) (by simp) (λj b e' h1 h2=>by
  rw[getElem?_map,h2]at h1;cases h1;exact(W6.L1.ep e' (mem_of_getElem? h2)).st) W6.L1.ep (λe' he'=>(W.fx e' (mem_append_left _ he')).1)
 rw[←e6]at this;exact this
theorem t8 :
  ∃rd,PS (EU P w K mg base f cL A outer s H0 E) (tS 8) rd∧∀(D:Ends)(H:Hp)(a tb p p2 r:Addr)(m:Int)(x4 x5 x6 x7 x10 x11 x12 x13 x14:Option V),
   (∀pr c1 c2 H',Same H H'→H' pr=some (.lst [.ref c1,.ref c2])→H' c1=some (.tup [.ref p,.int 2000])→H' c2=some (.tup [.ref p2,.int 3000])→(∀b o,H b=some o→pr≠b)→D.nx (wσ a tb p r x4 x5 x6 x7 m (some (.ref p2)) (some (.ref pr)) x11 x12 x13 x14) H')→rd D (wσ a tb p r x4 x5 x6 x7 m (some (.ref p2)) x10 x11 x12 x13 x14) H:=by
 refine⟨_,aJ (i:=10) dZ.nd rfl (Or.inl rfl) (ba (aa (aP (aa (pv 2) (aa ak af))) (aa (aP (aa (pv 9) (aa ak af))) af))),?_⟩;intro D H a tb p p2 r m x4 x5 x6 x7 x10 x11 x12 x13 x14 q;refine⟨_,rfl,le2,λc1 h1=>?_⟩;have s1:=ae (o:=.tup [.ref p,.int 2000]) h1;have g1:upd H c1 (.tup [.ref p,.int 2000]) c1=some (.tup [.ref p,.int 2000]):=ac;generalize upd H c1 (.tup [.ref p,.int 2000])=H1 at s1 g1⊢;refine⟨_,rfl,le2,λc2 h2=>?_⟩;have s2:=ae (o:=.tup [.ref p2,.int 3000]) h2;have g2:upd H1 c2 (.tup [.ref p2,.int 3000]) c2=some (.tup [.ref p2,.int 3000]):=ac;generalize upd H1 c2 (.tup [.ref p2,.int 3000])=H2 at s2 g2⊢;refine⟨aq (show 2≤1000 by decide),λpr h3=>?_⟩;have s3:=ae (o:=.lst [.ref c1,.ref c2]) h3;exact q pr c1 c2 _ (s1.trans (s2.trans s3)) ac (s3 _ _ (s2 _ _ g1)) (s3 _ _ g2) λb o h e=>by
  have:=s2 _ _ (s1 _ _ h);rw[←e,h3]at this;cases this
end
def Fr(PL PD q pl al:Addr)(H H':Hp):Prop:=∀b u,H b=some u→b≠PL→b≠PD→b≠q→b≠pl→b≠al→H' b=some u
structure Bv(K:PySem.W.Frag)(C PL PD a q tb pl al0:Addr)(Hs H:Hp)(t d al:Addr)(zb z:ZN)(gs:TG)(es as:List Ent)(KK:List SK):Prop where
 L:LAt C H q tb t d pl al zb z gs es as
 key:KS es z gs as=KK
 fx:∀e∈es++as,EOk e
 fr:Fr PL PD q pl al0 Hs H
 fa:al=al0∨Hs al=none
 sa:∃o,H al0=some o
 TL:aN H PL dG
 TD:aN H PD cB
 hS:Scr K H a
section
variable{K:PySem.W.Frag}{C PL PD a q tb pl al0 t d al t2 d2 al2:Addr}{Hs H H':Hp}{zb z z2:ZN}{gs gs2:TG}{es as es2 as2:List Ent}{KK:List SK}
theorem Bv.same(h:Bv K C PL PD a q tb pl al0 Hs H t d al zb z gs es as KK)(s:Same H H'):Bv K C PL PD a q tb pl al0 Hs H' t d al zb z gs es as KK :=
 ⟨h.L.same s,h.key,h.fx,λb u h0 n1 n2 n3 n4 n5=>s _ _ (h.fr b u h0 n1 n2 n3 n4 n5),h.fa,let⟨o,e⟩:=h.sa;⟨o,s _ _ e⟩,ap h.TL (av s),ap h.TD (av s),h.hS.same s⟩
theorem Bv.mv(h:Bv K C PL PD a q tb pl al0 Hs H t d al zb z gs es as KK)(L':LAt C H' q tb t2 d2 pl al zb z2 gs2 es2 as2)(k:cA H H')(o:Off [q,pl,al] H H')(e:KS es z gs as=KS es2 z2 gs2 as2)(hx:∀e∈es2++as2,EOk e):Bv K C PL PD a q tb pl al0 Hs H' t2 d2 al zb z2 gs2 es2 as2 KK:=by
 refine⟨L',e.symm.trans h.key,hx,λb u h0 n1 n2 n3 n4 n5=>?_,h.fa,?_,ap h.TL k,ap h.TD k,h.hS.stay k⟩
 ·refine o _ _ (h.fr b u h0 n1 n2 n3 n4 n5) ?_;have n6:b≠al:=by
   rcases h.fa with e|e
   ·rw[e];exact n5
   ·exact λz=>by rw[z,e]at h0;cases h0
  simp[n3,n4,n6]
 ·obtain⟨dx,hq⟩:=L'.ob
  by_cases c1:al0=q
  ·rw[c1];exact⟨_,hq⟩
  ·by_cases c2:al0=pl
   ·rw[c2];exact⟨_,L'.ps⟩
   ·by_cases c3:al0=al
    ·rw[c3];exact⟨_,L'.ah⟩
    ·obtain⟨u,hu⟩:=h.sa;exact⟨u,o _ _ hu (by simp[c1,c2,c3])⟩
theorem gf{Pt:Addr}{r:Str}(T:aN H Pt r):∃o,H Pt=some o:=let⟨ps,e,_⟩:=T;⟨_,e⟩
theorem Bv.offD(nPD:PL≠PD)(h:Bv K C PL PD a q tb pl al0 Hs H t d al zb z gs es as KK)(o:aV PD H H')(T':aN H' PD cB):Bv K C PL PD a q tb pl al0 Hs H' t d al zb z gs es as KK:=by
 refine⟨aV.lat h.TD o h.L,h.key,h.fx,λb u h0 n1 n2 n3 n4 n5=>o _ _ n2 (h.fr b u h0 n1 n2 n3 n4 n5),h.fa,?_,aN.off nPD h.TD o h.TL,T',h.hS.off h.TD o⟩
 by_cases c:al0=PD
 ·rw[c];exact gf T'
 ·obtain⟨u,hu⟩:=h.sa;exact⟨u,o _ _ c hu⟩
theorem Bv.offL(nPD:PL≠PD)(h:Bv K C PL PD a q tb pl al0 Hs H t d al zb z gs es as KK)(o:aV PL H H')(T':aN H' PL dG):Bv K C PL PD a q tb pl al0 Hs H' t d al zb z gs es as KK:=by
 refine⟨aV.lat h.TL o h.L,h.key,h.fx,λb u h0 n1 n2 n3 n4 n5=>o _ _ n1 (h.fr b u h0 n1 n2 n3 n4 n5),h.fa,?_,T',aN.off (symm nPD) h.TL o h.TD,h.hS.off h.TL o⟩
 by_cases c:al0=PL
 ·rw[c];exact gf T'
 ·obtain⟨u,hu⟩:=h.sa;exact⟨u,o _ _ c hu⟩
theorem Bv.fresh(h:Bv K C PL PD a q tb pl al0 Hs H t d al zb z gs es as KK){b:Addr}(hb:H b=none):Hs b=none:=by
 cases hh:Hs b with
 |none=>rfl
 |some u =>
  exfalso
  have no:∀{c:Addr},(∃o,H c=some o)→b≠c:=λ⟨o,e⟩ z=>by rw[←z,hb]at e;cases e
  have:=h.fr b u hh (no (gf h.TL)) (no (gf h.TD)) (no (let⟨dx,e⟩:=h.L.ob;⟨_,e⟩)) (no ⟨_,h.L.ps⟩) (no h.sa);rw[hb]at this;cases this
theorem Bv.did(nPD:PL≠PD)(h:Bv K C PL PD a q tb pl al0 Hs H t d al zb z gs es [] KK){e:Ent}(fa:H al2=none)(k:Kp PD q pl H H')(T':aN H' PD cB)(L':LAt C H' q tb t2 d2 pl al2 zb z2 gs2 (es++[e]) [])(ke:iV e=cm z gs)(eok:EOk e):Bv K C PL PD a q tb pl al0 Hs H' t2 d2 al2 zb z2 gs2 (es++[e]) [] (KK++[cm z2 gs2]):=by
 obtain⟨dx,hq⟩:=h.L.ob;have hpl:=h.L.ps;refine⟨L',by rw[←h.key];exact qG ke,λx hx=>?_,λb u h0 n1 n2 n3 n4 n5=>k _ _ (h.fr b u h0 n1 n2 n3 n4 n5) n2 n3 n4,.inr (h.fresh fa),?_,aN.kp nPD h.TD hq hpl k h.TL,T',h.hS.kp h.TD hq hpl k⟩
 ·rw[append_nil]at hx;rcases mem_append.mp hx with h1|h1
  ·exact h.fx x (by simp[h1])
  ·rw[mem_singleton.mp h1];exact eok
 ·by_cases c0:al0=PD
  ·rw[c0];exact gf T'
  ·by_cases c1:al0=q
   ·obtain⟨dx',e'⟩:=L'.ob;rw[c1];exact⟨_,e'⟩
   ·by_cases c2:al0=pl
    ·rw[c2];exact⟨_,L'.ps⟩
    ·obtain⟨u,hu⟩:=h.sa;exact⟨u,k _ _ hu c0 c1 c2⟩
end
abbrev yσ(a tb p r:Addr)(x4 x5 x6 x7:Option V)(m:Int)(p2 pr:Addr)(at':Int)(x12 x13:Option V)(q:Addr):St:=uσ a tb (some (.ref p)) (some (.ref r)) x4 x5 x6 x7 (some (.int m)) (some (.ref p2)) (some (.ref pr)) (some (.int at')) x12 x13 (some (.ref q))
section
variable{P:Program}{w:World}{K:PySem.W.Frag}{mg:Str→Option Value}{base:Heap}{f cL:Addr}{A:Around}{outer:List Env}{s:Shared}{H0:Hp}{E:XK}{C Dd PL PD:Addr}{B:Nat→Addr}
theorem ww{H:Hp}{a q tb pl al0 t d al:Addr}{Hs:Hp}{zb z:ZN}{gs:TG}{es as:List Ent}{KK:List SK}{Q:VK}{CB:Addr}{E:XK}(h:Bv K C PL PD a q tb pl al0 Hs H t d al zb z gs es as KK)(hn:as≠[])(hl:es.length≤100)(qo:∀v t2 d2 z2 gs2 es2 as2 H',cA H H'→es2.length=es.length+1→as2.length+1=as.length→Bv K C PL PD a q tb pl al0 Hs H' t2 d2 al zb z2 gs2 es2 as2 KK→Q v H'):ka C CB [.ref q] H Q E:=by
 refine⟨q,tb,t,d,pl,al,zb,z,gs,es,as,rfl,h.L,λe he=>let⟨y,hy⟩:=(h.fx e (mem_append_right _ he)).2;⟨_,hy⟩,by omega,λes' e y q' H' e0 hy L' k o=>?_,λe0=>absurd e0 hn⟩;subst e0;refine qo y _ _ _ _ _ es' H' k (by simp) (by simp) (h.mv L' k o (by unfold KS;simp[iV]) λx hx=>?_);simp only[mem_append,mem_singleton]at hx;rcases hx with (h1|h1)|h1
 ·exact h.fx x (by simp[h1])
 ·rw[h1];exact h.fx e (by simp)
 ·exact h.fx x (by simp[h1])
theorem zg{H:Hp}{a q tb pl al0 t d al:Addr}{Hs:Hp}{zb z:ZN}{gs:TG}{es as:List Ent}{KK:List SK}{Q:VK}{CB:Addr}{E:XK}(h:Bv K C PL PD a q tb pl al0 Hs H t d al zb z gs es as KK)(hn:es≠[])(hl:as.length≤100)(qo:∀v t2 d2 z2 gs2 es2 as2 H',cA H H'→es2.length+1=es.length→as2.length=as.length+1→Bv K C PL PD a q tb pl al0 Hs H' t2 d2 al zb z2 gs2 es2 as2 KK→Q v H'):im C CB [.ref q] H Q E:=by
 refine⟨q,tb,t,d,pl,al,zb,z,gs,es,as,rfl,h.L,λe he=>let⟨y,hy⟩:=(h.fx e (mem_append_left _ he)).2;⟨_,hy⟩,by omega,λes' e y q' H' e0 hy L' k o=>?_,λe0=>absurd e0 hn⟩;subst e0;refine qo y _ _ _ _ es' _ H' k (by simp) (by simp) (h.mv L' k o (by unfold KS;simp[iV]) λx hx=>?_);simp only[mem_append,mem_singleton]at hx;rcases hx with h1|h1|h1
 ·exact h.fx x (by simp[h1])
 ·exact h.fx x (by simp[h1])
 ·rw[h1];exact h.fx e (by simp)
theorem m0{fF:Addr}{fdF:FuncData}(hr:R10 A s f cL)(T:LCls K mg C)(MF:Meth K C "forth" fF)(GF:FnOk P w K mg base (CX1 P w) 2 fF fdF ["self"] (ka C (B 2)))(bF:aG K fdF ["self"] []):
  ∃rd,PS (EU P w K mg base f cL A outer s H0 E) (tC' 0) rd∧∀(D:Ends)(H:Hp)(a tb p r p2 pr q pl al0 t d al:Addr)(m at':Int)(x4 x5 x6 x7 x12 x13:Option V)(Hs:Hp)(zb z:ZN)(gs:TG)(es as:List Ent)(KK:List SK),Bv K C PL PD a q tb pl al0 Hs H t d al zb z gs es as KK→as≠[]→es.length≤100 →
   (∀t2 d2 z2 gs2 es2 as2 H',cA H H'→es2.length=es.length+1→as2.length+1=as.length→Bv K C PL PD a q tb pl al0 Hs H' t2 d2 al zb z2 gs2 es2 as2 KK→D.nx (yσ a tb p r x4 x5 x6 x7 m p2 pr at' x12 x13 q) H')→rd D (yσ a tb p r x4 x5 x6 x7 m p2 pr at' x12 x13 q) H:=by
 have hr2:Room 2 _:=hr.mono (by decide);refine⟨_,bn (ca (pv 14) T.cl MF GF hr2 bF .nil nA),?_⟩;intro D H a tb p r p2 pr q pl al0 t d al m at' x4 x5 x6 x7 x12 x13 Hs zb z gs es as KK b hn hl qo;obtain⟨dx,hq⟩:=b.L.ob;exact⟨_,rfl,q,dx,_,rfl,hq,ci (by decide +kernel) (by decide +kernel) (by decide +kernel) (by decide +kernel) (by decide +kernel),ww b hn hl λv t2 d2 z2 gs2 es2 as2 H' k h1 h2 b'=>qo t2 d2 z2 gs2 es2 as2 H' k h1 h2 b'⟩
theorem m1 :
  ∃rd,PS (EU P w K mg base f cL A outer s H0 E) (tC' 1) rd∧∀(D:Ends)(H:Hp)(a tb p r p2 pr q:Addr)(m at':Int)(n:Nat)(x4 x5 x6 x7 x12 x13:Option V)(rs:List Rw)(x:Rw),H r=some (.lst (rs.map λx=>V.ref x.a))→rs[n]?=some x→rs.length=n+1 →
   (∀H',Same H H'→D.nx (yσ a tb p r x4 x5 x6 x7 m p2 pr at' (some (.ref x.a)) (some (.int m)) q) H')→rd D (yσ a tb p r x4 x5 x6 x7 m p2 pr at' x12 x13 q) H:=by
 refine⟨_,nK (i:=12) (j:=13) rfl dZ.nd rfl rfl (Or.inl rfl) (Or.inl rfl) rfl rfl (aP (aa (aB bx (pv 3) (mh jj ak) (λ_ _=>rfl)) (aa (pv 8) af))),?_⟩;intro D H a tb p r p2 pr q m at' n x4 x5 x6 x7 x12 x13 rs x hl hx hn qo;refine⟨_,rfl,_,rfl,r,_,_,_,rfl,rfl,SqL.of hl,iI hx hn,_,rfl,le2,λtt htt=>?_⟩;exact⟨tt,_,_,rfl,SqT.of ac,qo _ (ae htt)⟩
theorem m2(hr:R10 A s f cL)(CA:Has P w K mg base 3 "_law_all_of" ["_law_ledger"] (iQ C)):
  ∃rd,PS (EU P w K mg base f cL A outer s H0 E) (tC' 2) rd∧∀(D:Ends)(H:Hp)(a tb p r p2 pr q pl t d al:Addr)(m at':Int)(x4 x5 x6 x7 x13:Option V)(zb z:ZN)(gs:TG)(es as:List Ent)(x:Rw)(i:Nat),LAt C H q tb t d pl al zb z gs es as→RwAt H x→cm z gs=dF x→ROk x i →
   (∀H',Same H H'→D.nx (yσ a tb p r x4 x5 x6 x7 m p2 pr at' (some (.ref x.a)) x13 q) H')→rd D (yσ a tb p r x4 x5 x6 x7 m p2 pr at' (some (.ref x.a)) x13 q) H:=by
 obtain⟨fA,fdA,GA,mA,kA,bA⟩:=CA;have hr3:Room 3 _:=hr.mono (by decide);have hu6:(EU P w K mg base f cL A outer s H0 E).A.units+6<cLine:=lt_of_le_of_lt (add_le_add_left (show 6≤64 by decide) _) hr.units;refine⟨_,aX (au (lS hu6) (ar GA hr3 rfl mA kA bA .nil aK (aa (pv 14) af)) (pv 12) (aD _)) (ao (ax fi)) aE,?_⟩;intro D H a tb p r p2 pr q pl t d al m at' x4 x5 x6 x7 x13 zb z gs es as x i L R e ok qo;obtain⟨en,ag⟩:=gu e;have hnm:∀g∈gs,g.1∈cO∧g.1≠"Bad":=λg hg=>by
  obtain⟨k,hk,e1,_⟩:=ag.get hg;rw[←e1];exact ok.nm k hk
 refine⟨_,rfl,q,tb,t,d,pl,al,zb,z,gs,es,as,rfl,L,uA hnm,λu d3 ks H4 s4 hu hd3 hmem hlen _=>?_⟩;have L4:=L.same s4;have R4:=R.same s4;exact⟨_,rfl,u,x.a,_,_,rfl,rfl,fb L4.tr R4.tr en.symm L4.tg.at' hd3 hmem hlen R4.tg ag,hu,R4.ob,_,rfl,aM (qo H4 s4)⟩
end
def tD(i:Nat):Stmt:=match tC' 3 with
 |.For _ _ b _ _=>b.getD i (.Pass ⟨0,0,0,0⟩)
 |_=>.Pass ⟨0,0,0,0⟩
section
variable{P:Program}{w:World}{K:PySem.W.Frag}{mg:Str→Option Value}{base:Heap}{f cL:Addr}{A:Around}{outer:List Env}{s:Shared}{H0:Hp}{E:XK}{C Dd PL PD:Addr}{B:Nat→Addr}
theorem d0(hr:R10 A s f cL)(CS:Has P w K mg base 4 "_law_step" ["_law_script","_law_at","_law_tree_here"] (dY K)):
  ∃rd,PS (EU P w K mg base f cL A outer s H0 E) (tD 0) rd∧∀(D:Ends)(H:Hp)(a tb p r p2 pr q:Addr)(m at':Int)(k:Nat)(x5 x6 x7 x13:Option V)(x:Rw),di K H a→0≤at'→RwAt H x→(∀m∈nds x.z,ik m) →
   (∀sa H',Same H H'→gb H' sa→D.nx (yσ a tb p r (some (.int k)) (some (.ref sa)) x6 x7 m p2 pr at' (some (.ref x.a)) x13 q) H')→rd D (yσ a tb p r (some (.int k)) x5 x6 x7 m p2 pr at' (some (.ref x.a)) x13 q) H:=by
 obtain⟨fS,fdS,GS,mS,kS,bS⟩:=CS;have hr4:Room 4 _:=hr.mono (by decide);refine⟨_,aJ (i:=5) dZ.nd rfl (Or.inl rfl) (ar GS hr4 rfl mS kS bS .nil aK (aa (pv 0) (aa (aI bb (pv 11) (aI cY ak (pv 4))) (aa (aB aA (pv 12) ak (λ_ _=>rfl)) af)))),?_⟩;intro D H a tb p r p2 pr q m at' k x5 x6 x7 x13 x hS h0 R ok qo;exact⟨_,rfl,_,rfl,_,rfl,_,_,rfl,rfl,.inl ⟨by decide,by decide⟩,_,_,rfl,rfl,_,rfl,x.a,_,_,_,rfl,rfl,SqT.of R.ob,rfl,a,_,x.t,x.z,rfl,by omega,hS,R.tr,ok,λy sa H' hy s' hv=>qo sa H' s' (.inl ⟨y,hy,hv⟩),λsa dd H' s' hd hf=>qo sa H' s' (.inr ⟨dd,hd,hf⟩)⟩
theorem d1(hr:R10 A s f cL)(CB:Has P w K mg base 3 "_law_behind" ["_law_now","_law_step_here"] gw):
  ∃rd,PS (EU P w K mg base f cL A outer s H0 E) (tD 1) rd∧∀(D:Ends)(H:Hp)(a tb p r p2 pr q sa:Addr)(m at':Int)(x4 x6 x7 x13:Option V)(x:Rw),gb H sa→RwAt H x→x.gs.length<50→x.z.length≤29 →
   (∀n1 v H',Same H H'→Beh H' sa x.a n1 x.t x.d x.z x.gs v→D.nx (yσ a tb p r x4 (some (.ref sa)) x6 (some v) m p2 pr at' (some (.ref n1)) x13 q) H')→rd D (yσ a tb p r x4 (some (.ref sa)) x6 x7 m p2 pr at' (some (.ref x.a)) x13 q) H:=by
 obtain⟨fB,fdB,GB,mB,kB,bB⟩:=CB;have hr3:Room 3 _:=hr.mono (by decide);refine⟨_,nW (ar GB hr3 rfl mB kB bB .nil aK (aa (pv 12) (aa (pv 5) af))) (lv (n:=2) rfl (cU (aQ (i:=12) dZ.nd rfl (Or.inl rfl)) (cU (aQ (i:=7) dZ.nd rfl (Or.inl rfl)) iW))),?_⟩;intro D H a tb p r p2 pr q sa m at' x4 x6 x7 x13 x hs R hgl hz qo;refine⟨_,rfl,_,rfl,x.a,sa,x.t,x.d,x.z,x.gs,rfl,R.ob,R.tr,R.tg,hgl,?_⟩;rcases hs with⟨y,hy,hv⟩|⟨dd,hd,hf⟩
 ·have hv':H sa=some (.tup [.str "tag",.str y]):=hv;refine .inl ⟨y,hv,λhb r H' s' hr'=>?_,λhb r n' d1 H' s' hr' hn' tg'=>?_⟩
  ·subst hb;exact⟨r,_,rfl,SqT.of hr',rfl,_,_,rfl,_,_,rfl,rfl,qo x.a _ H' s' (.bad (s' _ _ hv') rfl)⟩
  ·exact⟨r,_,rfl,SqT.of hr',rfl,_,_,rfl,_,_,rfl,rfl,qo n' _ H' s' (.tag y d1 hy hb (s' _ _ hv') hn' tg')⟩
 ·refine .inr ⟨dd,hd,hf.ok,hz,λr n' us t1 H' s' told tr' hr' hn'=>?_,λwd r H' s' told hr'=>?_⟩
  ·exact⟨r,_,rfl,SqT.of hr',rfl,_,_,rfl,_,_,rfl,rfl,qo n' _ H' s' (.told dd t1 us (s' _ _ hd) hf told tr' hn')⟩
  ·exact⟨r,_,rfl,SqT.of hr',rfl,_,_,rfl,_,_,rfl,rfl,qo x.a _ H' s' (.refused dd wd (s' _ _ hd) hf told rfl)⟩
theorem d2(hr:R10 A s f cL)(CD:Has P w K mg base 8 "_law_did" ["_law_ledger","_law_step_here"] (ip PD C (B 9) Dd (λwd=>B (bw wd)) B K)):
  ∃rd,PS (EU P w K mg base f cL A outer s H0 E) (tD 2) rd∧∀(D:Ends)(H:Hp)(a tb p r p2 pr q sa:Addr)(m at':Int)(x4 x6 x12 x13:Option V)(v:V),((∃y,v=.str y)∨v=.non∨∃b,v=.bl b) →
   (∀Q:VK,(∀H',D.nx (yσ a tb p r x4 (some (.ref sa)) x6 (some v) m p2 pr at' x12 x13 q) H'→Q v H')→pB PD cB [0,1] (λf c fv=>eZ f (rO c (iS C (B 9) (λwd=>B (bw wd)) fv)) B Dd K) [some (.ref q),some (.ref sa)] H Q)→rd D (yσ a tb p r x4 (some (.ref sa)) x6 (some v) m p2 pr at' x12 x13 q) H:=by
 obtain⟨fD,fdD,GD,mD,kD,bD⟩:=CD;have hr8:Room 8 _:=hr.mono (by decide);refine⟨_,aX (au dH (ar GD hr8 rfl mD kD bD .nil aK (aa (pv 14) (aa (pv 5) af))) (pv 7) (aD _)) (ao (ax fi)) aE,?_⟩;intro D H a tb p r p2 pr q sa m at' x4 x6 x12 x13 v hv h;refine⟨_,rfl,_,rfl,q,sa,rfl,h _ λH' hn=>?_⟩;have sc:wI v v=true:=by rcases hv with⟨y,rfl⟩|rfl|⟨b,rfl⟩<;>rfl
 refine⟨_,rfl,sc,_,rfl,?_⟩;rw[show(!decide (v=v))=false by simp];exact aM hn
theorem d3(T:Txt mg)(hr:R10 A s f cL):
  ∃rd,PS (EU P w K mg base f cL A outer s H0 E) (tD 3) rd∧∀(D:Ends)(H:Hp)(a tb p r p2 pr q sa:Addr)(m at' n:Int)(x4 x6 x12:Option V)(v:V),
   ((∃x,v=.str x)→D.nx (yσ a tb p r x4 (some (.ref sa)) x6 (some v) m p2 pr at' x12 (some (.int n)) q) H)→((v=.non∨∃b,v=.bl b)→D.nx (yσ a tb p r x4 (some (.ref sa)) x6 (some v) m p2 pr at' x12 (some (.int (n+1))) q) H)→((∃x,v=.str x)∨v=.non∨∃b,v=.bl b) →
   rd D (yσ a tb p r x4 (some (.ref sa)) x6 (some v) m p2 pr at' x12 (some (.int n)) q) H:=by
 refine⟨_,aJ (i:=13) dZ.nd rfl (Or.inl rfl) (aI bb (pv 13) (aW ko rfl T.int rfl (aa (rY (aF dL rfl T.isin boot_isinstance (aa (pv 7) (aa (gP (v:=.ty "str") rfl T.str boot_str rfl) af)))) af))),?_⟩;intro D H a tb p r p2 pr q sa m at' n x4 x6 x12 v qs qn hv;rcases hv with⟨x,rfl⟩|rfl|⟨b,rfl⟩
 ·refine⟨_,rfl,_,rfl,_,_,_,_,rfl,.str x,(by kernel_rfl:_=some true),_,rfl,.inr ⟨_,rfl,_,_,rfl,rfl,?_⟩⟩;have:=qs ⟨x,rfl⟩;rw[show n=n+0 by omega]at this;exact this
 ·exact⟨_,rfl,_,rfl,_,_,_,_,rfl,.non,(by kernel_rfl:_=some false),_,rfl,.inr ⟨_,rfl,_,_,rfl,rfl,qn (.inl rfl)⟩⟩
 ·exact⟨_,rfl,_,rfl,_,_,_,_,rfl,.bl b,(by kernel_rfl:_=some false),_,rfl,.inr ⟨_,rfl,_,_,rfl,rfl,qn (.inr ⟨b,rfl⟩)⟩⟩
structure Cv(K:PySem.W.Frag)(C PL PD a q tb pl al0:Addr)(Hs H:Hp)(t d al:Addr)(zb z:ZN)(gs:TG)(es:List Ent)(KK:List SK)(x:Rw)(i:Nat):Prop where
 b:Bv K C PL PD a q tb pl al0 Hs H t d al zb z gs es [] KK
 R:RwAt H x
 e:cm z gs=dF x
 ok:ROk x (8+i)
 few:es.length≤9+i
 hd:KK[0]?=some (cm zb [])
theorem dA(Tx:Txt mg)(hr:R10 A s f cL)(nPD:PL≠PD)(O9:One12 K B Dd 9)(O:∀wd,One12 K B Dd (bw wd))(CS:Has P w K mg base 4 "_law_step" ["_law_script","_law_at","_law_tree_here"] (dY K))(CB:Has P w K mg base 3 "_law_behind" ["_law_now","_law_step_here"] gw)(CD:Has P w K mg base 8 "_law_did" ["_law_ledger","_law_step_here"] (ip PD C (B 9) Dd (λwd=>B (bw wd)) B K)):
  ∃rd,PSs (EU P w K mg base f cL A outer s H0 E) [tD 0,tD 1,tD 2,tD 3] rd∧∀(D:Ends)(H:Hp)(a tb p r p2 pr q pl al0 t d al:Addr)(m at':Int)(k i:Nat)(x5 x6 x7:Option V)(Hs:Hp)(zb z:ZN)(gs:TG)(es:List Ent)(KK:List SK)(x:Rw),i≤2→0≤at'→Cv K C PL PD a q tb pl al0 Hs H t d al zb z gs es KK x i →
   (∀t2 d2 al2 z2 gs2 es2 KK2 y x5 x7 H',Cv K C PL PD a q tb pl al0 Hs H' t2 d2 al2 zb z2 gs2 es2 KK2 y (i+1)→D.nx (yσ a tb p r (some (.int k)) x5 x6 x7 m p2 pr at' (some (.ref y.a)) (some (.int es2.length)) q) H')→rd D (yσ a tb p r (some (.int k)) x5 x6 x7 m p2 pr at' (some (.ref x.a)) (some (.int es.length)) q) H:=by
 obtain⟨r0,p0,h0⟩:=d0 (outer:=outer) (H0:=H0) (E:=E) hr CS;obtain⟨r1,p1,h1⟩:=d1 (outer:=outer) (H0:=H0) (E:=E) hr CB;obtain⟨r2,p2',h2⟩:=d2 (outer:=outer) (H0:=H0) (E:=E) hr CD;obtain⟨r3,p3,h3⟩:=d3 (P:=P) (w:=w) (K:=K) (base:=base) (outer:=outer) (H0:=H0) (E:=E) Tx hr;refine⟨_,ai p0 (ai p1 (ai p2' (ao p3))),?_⟩;intro D H a tb p r p2 pr q pl al0 t d al m at' k i x5 x6 x7 Hs zb z gs es KK x hi hat c qo;have ok:=c.ok;have few:=c.few;obtain⟨en,ag⟩:=gu c.e;refine h0 _ H a tb p r p2 pr q m at' k _ _ _ _ x c.b.hS.at hat c.R ok.nd λsa H1 s1 hst=>?_;have R1:=c.R.same s1;refine h1 _ H1 a tb p r p2 pr q sa m at' _ _ _ _ x hst R1 (kd R1.tg.nd ok.nm) (by have:=ok.len;omega) λn1 v H2 s2 hB=>?_;have s12:=s1.trans s2;have b2:=c.b.same s12;have R2:=R1.same s2;have hst2:gb H2 sa:=by
  rcases hst with⟨y,hy,hv⟩|⟨dd,hd,hf⟩
  ·exact .inl ⟨y,hy,s2 _ _ hv⟩
  ·exact .inr ⟨dd,s2 _ _ hd,hf⟩
 have hv:(∃y,v=.str y)∨v=.non∨∃b,v=.bl b:=by
  cases hB with
  |bad=>exact .inl ⟨_,rfl⟩
  |tag=>exact .inr (.inr ⟨_,rfl⟩)
  |told=>exact .inr (.inl rfl)
  |refused=>exact .inl ⟨_,rfl⟩
 refine h2 _ H2 a tb p r p2 pr q sa m at' _ _ _ _ v hv λQ hQ=>?_;refine nU O9 O (by omega) b2.L (by omega) R2 en.symm ag ok b2.TD hst2 hB (λy H3 off T3 ev e1=>hQ H3 ?_) (λt2 d2 al2 z2 gs2 e y H3 fa kp T3 L3 R3 ya ky oky ke eok hv'=>hQ H3 ?_)
 ·have b3:=b2.offD nPD off T3;have R3:RwAt H3 x:=⟨aV.tup b2.TD off R2.ob,aV.tre b2.TD off R2.tr,aV.tags b2.TD off R2.tg⟩;rw[e1];refine h3 _ H3 a tb p r p2 pr q sa m at' _ _ _ _ v (λ_=>?_) (λh=>?_) hv
  ·exact qo t d al z gs es KK x _ _ H3 ⟨b3,R3,c.e,ok.up,by omega,c.hd⟩
  ·rw[ev]at h;rcases h with h|⟨b,h⟩<;>cases h
 ·refine h3 _ H3 a tb p r p2 pr q sa m at' _ _ _ _ v (λh=>?_) (λ_=>?_) hv
  ·obtain⟨y',h⟩:=h;rw[h]at hv';rcases hv' with h|⟨b,h⟩<;>cases h
  ·have b3:=b2.did nPD fa kp T3 L3 ke eok;have hl:((es++[e]).length:Int)=(es.length:Int)+1:=by rw[length_append];simp
   have hne:KK≠[]:=λh=>by have:=c.hd;rw[h]at this;cases this
   have:=qo t2 d2 al2 z2 gs2 (es++[e]) _ y (some (.ref sa)) (some v) H3 ⟨b3,R3,ky.symm,oky,by rw[length_append];simp;omega,by rw[getElem?_append_left (List.length_pos_iff.mpr hne)];exact c.hd⟩;rw[hl,ya]at this;exact this
theorem m3(Tx:Txt mg)(hr:R10 A s f cL)(nPD:PL≠PD)(O9:One12 K B Dd 9)(O:∀wd,One12 K B Dd (bw wd))(CS:Has P w K mg base 4 "_law_step" ["_law_script","_law_at","_law_tree_here"] (dY K))(CB:Has P w K mg base 3 "_law_behind" ["_law_now","_law_step_here"] gw)(CD:Has P w K mg base 8 "_law_did" ["_law_ledger","_law_step_here"] (ip PD C (B 9) Dd (λwd=>B (bw wd)) B K)):
  ∃rd,PS (EU P w K mg base f cL A outer s H0 E) (tC' 3) rd∧∀(D:Ends)(H:Hp)(a tb p r p2 pr q pl al0 t d al:Addr)(m at':Int)(x4 x5 x6 x7:Option V)(Hs:Hp)(zb z:ZN)(gs:TG)(es:List Ent)(KK:List SK)(x:Rw),0≤at'→Cv K C PL PD a q tb pl al0 Hs H t d al zb z gs es KK x 0 →
   (∀t2 d2 al2 z2 gs2 es2 KK2 y x4 x5 x7 H',Cv K C PL PD a q tb pl al0 Hs H' t2 d2 al2 zb z2 gs2 es2 KK2 y 3→D.nx (yσ a tb p r x4 x5 x6 x7 m p2 pr at' (some (.ref y.a)) (some (.int es2.length)) q) H')→rd D (yσ a tb p r x4 x5 x6 x7 m p2 pr at' (some (.ref x.a)) (some (.int es.length)) q) H:=by
 obtain⟨rb,pb,hb⟩:=dA (outer:=outer) (H0:=H0) (E:=E) Tx hr nPD O9 O CS CB CD;refine⟨_,eP PassesOwn.never rfl (ee rfl Tx.range (aa ak af)) (aQ (i:=4) dZ.nd rfl (Or.inl rfl)) pb,?_⟩;intro D H a tb p r p2 pr q pl al0 t d al m at' x4 x5 x6 x7 Hs zb z gs es KK x hat c qo;refine⟨3,rfl,by decide,by decide,eu (n:=3) (λi σ H'=>∃t2 d2 al2 z2 gs2 es2 KK2 y x4 x5 x7,σ=yσ a tb p r x4 x5 x6 x7 m p2 pr at' (some (.ref (y:Rw).a)) (some (.int (es2:List Ent).length)) q∧Cv K C PL PD a q tb pl al0 Hs H' t2 d2 al2 zb z2 gs2 es2 KK2 y i) ⟨t,d,al,z,gs,es,KK,x,_,_,_,rfl,c⟩ (λi σ H2 hi h=>?_) (λσ H2 h=>?_)⟩
 ·obtain⟨t2,d2,al2,z2,gs2,es2,KK2,y,y4,y5,y7,rfl,c2⟩:=h;rw[show(0:Int)+(i:Int)=i by omega];exact hb _ H2 a tb p r p2 pr q pl al0 t2 d2 al2 m at' i i _ _ _ Hs zb z2 gs2 es2 KK2 y (by omega) hat c2 λt3 d3 al3 z3 gs3 es3 KK3 y3 x5 x7 H3 c3=>⟨t3,d3,al3,z3,gs3,es3,KK3,y3,_,_,_,rfl,c3⟩
 ·obtain⟨t2,d2,al2,z2,gs2,es2,KK2,y,y4,y5,y7,rfl,c2⟩:=h;exact qo t2 d2 al2 z2 gs2 es2 KK2 y _ _ _ H2 c2
end
theorem lk1{n x:Str}{c c':Addr}(h:[(n,c)].lookup x=some c'):x=n∧c'=c:=by
 by_cases e:x=n
 ·subst e;rw[lookup_cons,beq_self_eq_true]at h;exact⟨rfl,(Option.some.inj h).symm⟩
 ·rw[lookup_cons,show(x==n)=false by simpa using e]at h
  cases h
def zh(c:Addr)(inner:Hp→VK→XK→Prop):Sp:=λvs H Q E=>vs=[]∧H c=some (.ext (cdφ c dG))∧inner H Q E
def vW(C CB:Addr)(fv:List V):Hp→VK→XK→Prop:=λH Q E=>∃p dx fl,fv=[.ref p]∧H p=some (.ins C dx fl)∧fl.lookup ("back":Str)=none∧im C CB [.ref p] H Q E
theorem rT{C CB:Addr}{fv:List V}{H:Hp}{Q:VK}{E E':XK}(hm:∀c v H',E c v H'→E' c v H')(h:vW C CB fv H Q E):vW C CB fv H Q E':=by
 obtain⟨p,dx,fl,e,h1,h2,p',ft,t,d,pl,al,zf,z,gs,es,as,a0,a1,a2,a3,a4,a5⟩:=h;exact⟨p,dx,fl,e,h1,h2,p',ft,t,d,pl,al,zf,z,gs,es,as,a0,a1,a2,a3,a4,λh H' s=>hm _ _ _ (a5 h H' s)⟩
theorem rV{PL C Dd p tb t d pl al:Addr}{B:Nat→Addr}{K:PySem.W.Frag}{H:Hp}{Q:VK}{zb z:ZN}{gs:TG}{as:List Ent}{σ:St}{js:List Nat}(T:aN H PL dG)(hv:yf js σ [.ref p])(O2:One12 K B Dd 2)(L:LAt C H p tb t d pl al zb z gs [] as)(hl:as.length≤200)(q2:∀H',aV PL H H'→aN H' PL dG→Q (.str "no back") H'):
  pB PL dG js (λf c fv=>eZ f (zh c (vW C (B 2) fv)) B Dd K) σ H Q:=by
 refine⟨T,[.ref p],hv,λf c H1 off tq hc _=>⟨rfl,rfl,hc,?_⟩⟩;have L1:=aV.lat T off L;obtain⟨dx,hp⟩:=L1.ob;exact⟨p,dx,_,rfl,hp,ci (by decide +kernel) (by decide +kernel) (by decide +kernel) (by decide +kernel) (by decide +kernel),p,tb,t,d,pl,al,zb,z,gs,[],as,rfl,L1,(λe he=>nomatch he),hl,(λes' e y q H' e0=>absurd e0 (by simp)),λe0 H' s'=>⟨2,"no back",rfl,O2,rfl,λH2 s2=>q2 H2 (λb u n e=>s2 _ _ (s' _ _ (off b u n e))) (ap (ap tq (av s')) (av s2))⟩⟩
section
variable{P:Program}{w:World}{K:PySem.W.Frag}{mg:Str→Option Value}{base:Heap}{f cL:Addr}{A:Around}{outer:List Env}{s:Shared}{H0:Hp}{E:XK}{C Dd PL PD g fC fB:Addr}{B:Nat→Addr}{fdg fdC fdB:FuncData}
theorem m4(Tx:Txt mg)(hr:R10 A s f cL)(T:LCls K mg C)(MB:Meth K C "back" fB)(GB:FnOk P w K mg base (CX1 P w) 2 fB fdB ["self"] (im C (B 2)))(bB:aG K fdB ["self"] []):
  ∃rd,PS (EU P w K mg base f cL A outer s H0 E) (tC' 4) rd∧∀(D:Ends)(H:Hp)(a tb p r p2 pr q pl al0 t d al:Addr)(m at':Int)(x4 x5 x6 x7 x12:Option V)(Hs:Hp)(zb z:ZN)(gs:TG)(es:List Ent)(KK:List SK)(x:Rw),Bv K C PL PD a q tb pl al0 Hs H t d al zb z gs es [] KK→es.length≤12→RwAt H x →
   (∀t2 d2 z2 gs2 as2 x4 H',as2.length=es.length→Bv K C PL PD a q tb pl al0 Hs H' t2 d2 al zb z2 gs2 [] as2 KK→RwAt H' x→D.nx (yσ a tb p r x4 x5 x6 x7 m p2 pr at' x12 (some (.int es.length)) q) H')→rd D (yσ a tb p r x4 x5 x6 x7 m p2 pr at' x12 (some (.int es.length)) q) H:=by
 have hr2:Room 2 _:=hr.mono (by decide);refine⟨_,eP PassesOwn.never rfl (ee rfl Tx.range (aa (pv 13) af)) (aQ (i:=4) dZ.nd rfl (Or.inl rfl)) (ao (bn (ca (pv 14) T.cl MB GB hr2 bB .nil nA))),?_⟩;intro D H a tb p r p2 pr q pl al0 t d al m at' x4 x5 x6 x7 x12 Hs zb z gs es KK x b hl R qo;refine⟨_,rfl,_,rfl,by omega,by omega,eu (n:=(es.length:Int).toNat) (λi σ H'=>∃t2 d2 z2 gs2 es2 as2 x4,σ=yσ a tb p r x4 x5 x6 x7 m p2 pr at' x12 (some (.int es.length)) q∧(es2:List Ent).length+i=es.length∧(as2:List Ent).length=i∧Bv K C PL PD a q tb pl al0 Hs H' t2 d2 al zb z2 gs2 es2 as2 KK∧RwAt H' x) ⟨t,d,z,gs,es,[],_,rfl,rfl,rfl,b,R⟩ (λi σ H2 hi h=>?_) (λσ H2 h=>?_)⟩
 ·obtain⟨t2,d2,z2,gs2,es2,as2,y4,rfl,e1,e2,b2,R2⟩:=h;obtain⟨dx,hq⟩:=b2.L.ob;have hi':i<es.length:=by omega
  refine⟨_,rfl,q,dx,_,rfl,hq,ci (by decide +kernel) (by decide +kernel) (by decide +kernel) (by decide +kernel) (by decide +kernel),zg b2 (λh=>by rw[h]at e1;simp at e1;omega) (by omega) λv t3 d3 z3 gs3 es3 as3 H' k h1 h2 b'=>?_⟩;exact⟨t3,d3,z3,gs3,es3,as3,_,rfl,by omega,by omega,b',R2.stay k⟩
 ·obtain⟨t2,d2,z2,gs2,es2,as2,y4,rfl,e1,e2,b2,R2⟩:=h;have e0:es2=[]:=length_eq_zero_iff.mp (by omega);subst e0;exact qo t2 d2 z2 gs2 as2 _ H2 (by omega) b2 R2
theorem m6(Tx:Txt mg)(hr:R10 A s f cL)(T:LCls K mg C)(MF:Meth K C "forth" fB)(GF:FnOk P w K mg base (CX1 P w) 2 fB fdB ["self"] (ka C (B 2)))(bF:aG K fdB ["self"] []):
  ∃rd,PS (EU P w K mg base f cL A outer s H0 E) (tC' 6) rd∧∀(D:Ends)(H:Hp)(a tb p r p2 pr q pl al0 t d al:Addr)(m at':Int)(x4 x5 x6 x7 x12:Option V)(Hs:Hp)(zb z:ZN)(gs:TG)(as:List Ent)(KK:List SK)(x:Rw),Bv K C PL PD a q tb pl al0 Hs H t d al zb z gs [] as KK→as.length≤12→RwAt H x →
   (∀t2 d2 z2 gs2 es2 x4 H',es2.length=as.length→Bv K C PL PD a q tb pl al0 Hs H' t2 d2 al zb z2 gs2 es2 [] KK→RwAt H' x→D.nx (yσ a tb p r x4 x5 x6 x7 m p2 pr at' x12 (some (.int as.length)) q) H')→rd D (yσ a tb p r x4 x5 x6 x7 m p2 pr at' x12 (some (.int as.length)) q) H:=by
 have hr2:Room 2 _:=hr.mono (by decide);refine⟨_,eP PassesOwn.never rfl (ee rfl Tx.range (aa (pv 13) af)) (aQ (i:=4) dZ.nd rfl (Or.inl rfl)) (ao (bn (ca (pv 14) T.cl MF GF hr2 bF .nil nA))),?_⟩;intro D H a tb p r p2 pr q pl al0 t d al m at' x4 x5 x6 x7 x12 Hs zb z gs as KK x b hl R qo;refine⟨_,rfl,_,rfl,by omega,by omega,eu (n:=(as.length:Int).toNat) (λi σ H'=>∃t2 d2 z2 gs2 es2 as2 x4,σ=yσ a tb p r x4 x5 x6 x7 m p2 pr at' x12 (some (.int as.length)) q∧(as2:List Ent).length+i=as.length∧(es2:List Ent).length=i∧Bv K C PL PD a q tb pl al0 Hs H' t2 d2 al zb z2 gs2 es2 as2 KK∧RwAt H' x) ⟨t,d,z,gs,[],as,_,rfl,rfl,rfl,b,R⟩ (λi σ H2 hi h=>?_) (λσ H2 h=>?_)⟩
 ·obtain⟨t2,d2,z2,gs2,es2,as2,y4,rfl,e1,e2,b2,R2⟩:=h;obtain⟨dx,hq⟩:=b2.L.ob;have hi':i<as.length:=by omega
  refine⟨_,rfl,q,dx,_,rfl,hq,ci (by decide +kernel) (by decide +kernel) (by decide +kernel) (by decide +kernel) (by decide +kernel),ww b2 (λh=>by rw[h]at e1;simp at e1;omega) (by omega) λv t3 d3 z3 gs3 es3 as3 H' k h1 h2 b'=>?_⟩;exact⟨t3,d3,z3,gs3,es3,as3,_,rfl,by omega,by omega,b',R2.stay k⟩
 ·obtain⟨t2,d2,z2,gs2,es2,as2,y4,rfl,e1,e2,b2,R2⟩:=h;have e0:as2=[]:=length_eq_zero_iff.mp (by omega);subst e0;exact qo t2 d2 z2 gs2 es2 _ H2 (by omega) b2 R2
theorem m7{fZ:Addr}{fdZ:FuncData}(hr:R10 A s f cL)(T:LCls K mg C)(CA:Has P w K mg base 3 "_law_all_of" ["_law_ledger"] (iQ C))(MZ:Meth K C "sizes" fZ)(GZ:FnOk P w K mg base CX0 1 fZ fdZ ["self"] (iH C))(bZ:aG K fdZ ["self"] []):
  ∃rd,PS (EU P w K mg base f cL A outer s H0 E) (tC' 7) rd∧∀(D:Ends)(H:Hp)(a tb p r p2 pr q pl t d al:Addr)(m at':Int)(x4 x5 x6 x7:Option V)(zb z:ZN)(gs:TG)(es:List Ent)(x:Rw)(i:Nat),LAt C H q tb t d pl al zb z gs es []→RwAt H x→cm z gs=dF x→ROk x i →
   (∀H',Same H H'→D.nx (yσ a tb p r x4 x5 x6 x7 m p2 pr at' (some (.ref x.a)) (some (.int es.length)) q) H')→rd D (yσ a tb p r x4 x5 x6 x7 m p2 pr at' (some (.ref x.a)) (some (.int es.length)) q) H:=by
 obtain⟨fA,fdA,GA,mA,kA,bA⟩:=CA;have hr3:Room 3 _:=hr.mono (by decide);have hr1:Room 1 _:=hr.mono (by decide);have hu6:(EU P w K mg base f cL A outer s H0 E).A.units+6<cLine:=lt_of_le_of_lt (add_le_add_left (show 6≤64 by decide) _) hr.units;refine⟨_,aX (PW.pt (pw_or (au (lS hu6) (ar GA hr3 rfl mA kA bA .nil aK (aa (pv 14) af)) (pv 12) (aD _)) (pw_or1 (au (oF (oH hr)) (ca (pv 14) T.cl MZ GZ hr1 bZ .nil aK) (aP (aa (pv 13) (aa ak af))) (aD _))))) (ao (ax fi)) aE,?_⟩;intro D H a tb p r p2 pr q pl t d al m at' x4 x5 x6 x7 zb z gs es x i L R e ok qo;obtain⟨en,ag⟩:=gu e;have hnm:∀g∈gs,g.1∈cO∧g.1≠"Bad":=λg hg=>by
  obtain⟨k,hk,e1,_⟩:=ag.get hg;rw[←e1];exact ok.nm k hk
 refine⟨_,rfl,q,tb,t,d,pl,al,zb,z,gs,es,[],rfl,L,uA hnm,λu d3 ks H4 s4 hu hd3 hmem hlen _=>?_⟩;have L4:=L.same s4;have R4:=R.same s4;refine⟨_,rfl,u,x.a,_,_,rfl,rfl,fb L4.tr R4.tr en.symm L4.tg.at' hd3 hmem hlen R4.tg ag,hu,R4.ob,_,rfl,aM ?_⟩;obtain⟨dx,hq⟩:=L4.ob;refine⟨_,rfl,q,dx,_,rfl,hq,ci (by decide +kernel) (by decide +kernel) (by decide +kernel) (by decide +kernel) (by decide +kernel),q,tb,t,d,pl,al,zb,z,gs,es,[],rfl,L4,λu2 hu2=>?_⟩;have s2:=ae (o:=.tup [.int es.length,.int ([]:List Ent).length]) hu2;have g2:upd H4 u2 (.tup [.int es.length,.int ([]:List Ent).length]) u2=some (.tup [.int es.length,.int 0]):=ac;generalize upd H4 u2 (.tup [.int es.length,.int ([]:List Ent).length])=H5 at s2 g2⊢;refine⟨_,rfl,le2,λu3 hu3=>?_⟩;have s3:=ae (o:=.tup [.int es.length,.int 0]) hu3;exact .inr ⟨u2,u3,_,_,rfl,rfl,jP rfl,.inr ⟨s3 _ _ g2,ac⟩,_,rfl,aM (qo _ (s4.trans (s2.trans s3)))⟩
theorem m5(hr:R10 A s f cL)(O:TolD K mg base cL PL g fC Dd fdg fdC B)(T:LCls K mg C)(MB:Meth K C "back" fB)(bB:aG K fdB ["self"] [])(CB:∀base',K.In base'→BmB base' mg→FnOk P w K mg base' (CX1 P w) 2 fB fdB ["self"] (im C (B 2)))(O2:One12 K B Dd 2)(CA:Has P w K mg base 3 "_law_all_of" ["_law_ledger"] (iQ C)):
  ∃rd,PS (EU P w K mg base f cL A outer s H0 E) (tC' 5) rd∧∀(D:Ends)(H:Hp)(a tb p r p2 pr q pl al0 t d al:Addr)(m at':Int)(x4 x5 x6 x7 x12 x13:Option V)(Hs:Hp)(zb z:ZN)(gs:TG)(as:List Ent)(KK:List SK),Bv K C PL PD a q tb pl al0 Hs H t d al zb z gs [] as KK→as.length≤12→KK[0]?=some (cm zb []) →
   (∀H1 H',Same H H1→aV PL H1 H'→aN H' PL dG→D.nx (yσ a tb p r x4 x5 x6 x7 m p2 pr at' x12 x13 q) H')→rd D (yσ a tb p r x4 x5 x6 x7 m p2 pr at' x12 x13 q) H:=by
 obtain⟨fA,fdA,GA,mA,kA,bA⟩:=CA;have hr3:Room 3 _:=hr.mono (by decide);have hr7:Room 7 _:=hr.mono (by decide);have kT:=O.FT.kp;have hu6:(EU P w K mg base f cL A outer s H0 E).A.units+6<cLine:=lt_of_le_of_lt (add_le_add_left (show 6≤64 by decide) _) hr.units;refine⟨_,aX (PW.pt (pw_or (au (lS hu6) (ar GA hr3 rfl mA kA bA .nil aK (aa (pv 14) af)) (aP (aa (pv 1) (aa gZ af))) (aD _)) (pw_or1 (au dH (jZ (k:=7) (cl:=[("_law_one",s.heap.objs.size+1)]) (fs:=["_law_one"]) (js:=[14]) (qual:=dG) (spG:=λf c fv=>eZ f (zh c (vW C (B 2) fv)) B Dd K) O.C0 rfl O.Bm rfl rfl rfl ?O ?hG hr7 rfl O.mT kT O.bT) aC (aD _))))) (ao (ax fi)) aE,?_⟩
 case O=>exact⟨rfl,λx c h=>by obtain⟨rfl,rfl⟩:=lk1 h;rfl,λi j x h1 h2=>by
  match i,h1,h2 with
  |0,h1,h2=>cases h1;cases h2;exact⟨rfl,rfl,rfl,_,rfl⟩
  | i+1,h1,h2=>simp at h1,λ_=>rfl⟩
 case hG =>
  intro base' f' c pm ctv fv sub ho C';obtain⟨v0,rfl⟩:∃v,fv=[v]:=by
   have:=C'.len
   match fv,this with
   |[v],_=>exact⟨v,rfl⟩
  have GB:=CB base' (O.KB.keeps sub) (O.Bm.sub sub);refine qD O.FT O.L ho (qC (k:=5) (ps:=[]) (fs:=["_law_one"]) (fv:=[v0]) ho (λvs H Q E h=>h.2.1) ⟨rfl,rfl,rfl,by decide +kernel,(λx hx=>by cases hx),nodup_nil,λx h=>?_,λx y c h1 h2=>(lk1 h1).1.trans (lk1 h2).1.symm⟩ C' (λvs H Q E h=>by obtain⟨rfl,_⟩:=h;rfl) (λA outer s H vs Q E hr h=>?_)) (.all λus hl=>match us,hl with | [],_=>rfl) (uw O.FC O.T O.L) O.mC O.FC.kp O.bC (λH Q E E' hm h=>?_)
  ·have:=(by decide +kernel:∀y∈_,y.2=NameKind.free→y.1=("_law_one":Str)) _ (PySem.mem_of_lookup h) rfl;have e:x=("_law_one":Str):=this;subst e;exact⟨_,rfl⟩
  ·obtain⟨rfl,hc,p,dx,fl,efv,hp,n1,h⟩:=h;have e0:v0=.ref p:=by injection efv
   subst e0;have hr2:Room 2 _:=hr.mono (by decide);exact⟨_,ca (E:=E) (pv 0) T.cl MB GB hr2 bB .nil (cy uy),_,rfl,p,dx,fl,rfl,hp,n1,h⟩
  ·exact⟨h.1,h.2.1,rT hm h.2.2⟩
 intro D H a tb p r p2 pr q pl al0 t d al m at' x4 x5 x6 x7 x12 x13 Hs zb z gs as KK b hl hd qo;have ek:cm z gs=cm zb []:=by
  have:=hd;rw[←b.key]at this;unfold KS at this;simpa using this
 obtain⟨en,ag⟩:=gu ek;have hg0:gs=[]:=by
  have:=congrArg length ag;rw[length_map,length_map]at this;exact length_eq_zero_iff.mp this
 subst hg0;refine⟨_,rfl,q,tb,t,d,pl,al,zb,z,[],[],as,rfl,b.L,(λg hg=>nomatch hg),λu d3 ks H4 s4 hu hd3 hmem hlen _=>?_⟩;have b4:=b.same s4;refine⟨_,rfl,λd9 hd9=>?_⟩;have s5:=ae (o:=.dK []) hd9;have g5:upd H4 d9 (.dK []) d9=some (.dK []):=ac;show _;generalize upd H4 d9 (.dK [])=H5 at s5 g5⊢;refine⟨le2,λn9 hn9=>?_⟩;have s6:=ae (o:=.tup [.ref tb,.ref d9]) hn9;have g6:upd H5 n9 (.tup [.ref tb,.ref d9]) n9=some (.tup [.ref tb,.ref d9]):=ac;generalize upd H5 n9 (.tup [.ref tb,.ref d9])=H6 at s6 g6⊢;have s46:=s5.trans s6;have b6:=b4.same s46;have Tg:Tags H6 d9 ([]:TG):=⟨.inl (s6 _ _ g5),(λg hg=>nomatch hg),nodup_nil,zero_le _⟩;refine⟨u,n9,_,_,rfl,rfl,fb b6.L.tr b6.L.tf en.symm b6.L.tg.at' (s46 _ _ hd3) hmem hlen Tg ag,s46 _ _ hu,g6,_,rfl,aM ?_⟩;refine rV b6.TL rfl O2 b6.L (by omega) λH' off tq=>?_;refine⟨rfl,_,rfl,?_⟩;rw[show(!decide (V.str "no back"=V.str "no back"))=false by simp];exact aM (qo H6 H' (s4.trans s46) off tq)
end
def St3(H H':Hp):Prop:=∀b u,H b=some u→(∀ps,u≠.tbl ps)→(∀xs,u≠.lst xs)→(∀C dx fs,u≠.ins C dx fs)→H' b=some u
theorem St3.tup{H H':Hp}(s:St3 H H'){b:Addr}{xs:List V}(h:H b=some (.tup xs)):H' b=some (.tup xs):=s b _ h (λ_ h=>by cases h) (λ_ h=>by cases h) (λ_ _ _ h=>by cases h)
theorem St3.rd{H H':Hp}(s:St3 H H'){b:Addr}{kvs:List (Key×V)}(h:Rd H b (.dK kvs)):Rd H' b (.dK kvs):=by
 rcases h with h|⟨o,h⟩
 ·exact .inl (s b _ h (λ_ h=>by cases h) (λ_ h=>by cases h) (λ_ _ _ h=>by cases h))
 ·exact .inr ⟨o,s b _ h (λ_ h=>by cases h) (λ_ h=>by cases h) (λ_ _ _ h=>by cases h)⟩
theorem Tre.st3{H H':Hp}{t:Addr}{z:ZN}(h:Tre H t z)(s:St3 H H'):Tre H' t z:=⟨s.tup h.tup,λz hz=>s.tup (h.nod z hz),h.tr,h.len⟩
theorem Tags.st3{H H':Hp}{d:Addr}{gs:TG}(h:Tags H d gs)(s:St3 H H'):Tags H' d gs:=⟨s.rd h.dct,λg hg=>(h.at' g hg).st3 s,h.nd,h.len⟩
theorem EntAt.st3{H H':Hp}{e:Ent}(h:EntAt H e)(s:St3 H H'):EntAt H' e:=⟨s.tup h.ob,s.tup h.st,h.tr.st3 s,h.tg.st3 s⟩
theorem RwAt.st3{H H':Hp}{x:Rw}(h:RwAt H x)(s:St3 H H'):RwAt H' x:=⟨s.tup h.ob,h.tr.st3 s,h.tg.st3 s⟩
section
variable{C PL PD q tb t d pl al:Addr}{H H':Hp}{zb z:ZN}{gs:TG}{es as:List Ent}{q1 q2:Str}
theorem Fr.st3(F:Fr PL PD q pl al H H')(TL:aN H PL q1)(TD:aN H PD q2)(L:LAt C H q tb t d pl al zb z gs es as):St3 H H':=λb u h n1 n2 n3=>by
 obtain⟨ps,e1,_⟩:=TL;obtain⟨ps',e2,_⟩:=TD;obtain⟨dx,e3⟩:=L.ob;have e4:=L.ps;have e5:=L.ah;exact F b u h (λz=>by rw[z,e1]at h;exact n1 _ (Option.some.inj h).symm) (λz=>by rw[z,e2]at h;exact n1 _ (Option.some.inj h).symm) (λz=>by rw[z,e3]at h;exact n3 _ _ _ (Option.some.inj h).symm) (λz=>by rw[z,e4]at h;exact n2 _ (Option.some.inj h).symm) (λz=>by rw[z,e5]at h;exact n2 _ (Option.some.inj h).symm)
theorem Fr.lst(F:Fr PL PD q pl al H H')(TL:aN H PL q1)(TD:aN H PD q2)(L:LAt C H q tb t d pl al zb z gs es as){b:Addr}{xs:List V}(h:H b=some (.lst xs))(n1:b≠pl)(n2:b≠al):H' b=some (.lst xs):=by
 obtain⟨ps,e1,_⟩:=TL;obtain⟨ps',e2,_⟩:=TD;obtain⟨dx,e3⟩:=L.ob;exact F b _ h (λz=>by rw[z,e1]at h;cases h) (λz=>by rw[z,e2]at h;cases h) (λz=>by rw[z,e3]at h;cases h) n1 n2
theorem Fr.lat{p' pl' al' t' d':Addr}{z':ZN}{gs':TG}{es' as':List Ent}(F:Fr PL PD q pl al H H')(TL:aN H PL q1)(TD:aN H PD q2)(L:LAt C H q tb t d pl al zb z gs es as)(L':LAt C H p' tb t' d' pl' al' zb z' gs' es' as')(np:p'≠q)(n1:pl'≠pl)(n2:pl'≠al)(n3:al'≠pl)(n4:al'≠al):LAt C H' p' tb t' d' pl' al' zb z' gs' es' as':=by
 have s:=F.st3 TL TD L;refine⟨?_,L'.tf.st3 s,L'.tr.st3 s,L'.tg.st3 s,F.lst TL TD L L'.ps n1 n2,F.lst TL TD L L'.ah n3 n4,L'.ne,λe he=>(L'.ep e he).st3 s,λe he=>(L'.ea e he).st3 s⟩;obtain⟨dx',h⟩:=L'.ob;obtain⟨ps,e1,_⟩:=TL;obtain⟨ps',e2,_⟩:=TD;have e4:=L.ps;have e5:=L.ah;exact⟨dx',F _ _ h (λz=>by rw[z,e1]at h;cases h) (λz=>by rw[z,e2]at h;cases h) np (λz=>by rw[z,e4]at h;cases h) (λz=>by rw[z,e5]at h;cases h)⟩
end
theorem vX{es es':List Ent}{z z':ZN}{gs gs':TG}(h:KS es z gs []=KS es' z' gs' []):cm z gs=cm z' gs':=by
 unfold KS at h;have:=congrArg List.getLast? h;simpa using this
theorem zi{es:List Ent}{z:ZN}{gs:TG}:(KS es z gs [])[es.length]?=some (cm z gs):=by
 unfold KS;rw[getElem?_append_right (by simp)];simp
section
variable{P:Program}{w:World}{K:PySem.W.Frag}{mg:Str→Option Value}{base:Heap}{f cL:Addr}{A:Around}{outer:List Env}{s:Shared}{H0:Hp}{E:XK}{C Dd PL PD g fC fB fF fS fZ fI fT fW:Addr}{B:Nat→Addr}{fd fdg fdC fdB fdF fdS fdZ fdI fdT fdW:FuncData}
structure Cals(P:Program)(w:World)(K:PySem.W.Frag)(mg:Str→Option Value)(base:Heap)(C Dd PL PD cL g fC fB fF fS fZ fT fW:Addr)(B:Nat→Addr)(fdg fdC fdB fdF fdS fdZ fdT fdW:FuncData):Prop where
 O:TolD K mg base cL PL g fC Dd fdg fdC B
 n:PL≠PD
 T:LCls K mg C
 O9:One12 K B Dd 9
 O2:One12 K B Dd 2
 OW:∀wd,One12 K B Dd (bw wd)
 CP:Has P w K mg base 2 "_law_pick" ["_law_script","_law_k","_law_many"] (dW K)
 CS:Has P w K mg base 4 "_law_step" ["_law_script","_law_at","_law_tree_here"] (dY K)
 CB:Has P w K mg base 3 "_law_behind" ["_law_now","_law_step_here"] gw
 CD:Has P w K mg base 8 "_law_did" ["_law_ledger","_law_step_here"] (ip PD C (B 9) Dd (λwd=>B (bw wd)) B K)
 CA:Has P w K mg base 3 "_law_all_of" ["_law_ledger"] (iQ C)
 MB:Meth K C "back" fB
 bB:aG K fdB ["self"] []
 GB:∀base',K.In base'→BmB base' mg→FnOk P w K mg base' (CX1 P w) 2 fB fdB ["self"] (im C (B 2))
 MF:Meth K C "forth" fF
 bF:aG K fdF ["self"] []
 GF:FnOk P w K mg base (CX1 P w) 2 fF fdF ["self"] (ka C (B 2))
 MZ:Meth K C "sizes" fZ
 GZ:FnOk P w K mg base CX0 1 fZ fdZ ["self"] (iH C)
 bZ:aG K fdZ ["self"] []
 MS:Meth K C "steps" fS
 GS:FnOk P w K mg base CX0 1 fS fdS ["self"] (jU C)
 bS:aG K fdS ["self"] []
 MT:Meth K C "tag" fT
 GT:FnOk P w K mg base (CX1 P w) 2 fT fdT ["self","name"] (gM C (B 9))
 bT:aG K fdT ["self","name"] []
 MW:Meth K C "twin" fW
 GW:FnOk P w K mg base CX0 3 fW fdW ["self"] (nT C)
 bW:aG K fdW ["self"] []
theorem mA(hr:R10 A s f cL)(Y:Cals P w K mg base C Dd PL PD cL g fC fB fF fS fZ fT fW B fdg fdC fdB fdF fdS fdZ fdT fdW):
  ∃rd,PSs (EU P w K mg base f cL A outer s H0 E) [tC' 0,tC' 1,tC' 2,tC' 3,tC' 4,tC' 5,tC' 6,tC' 7] rd∧∀(D:Ends)(H:Hp)(a tb p r p2 pr q pl al t d:Addr)(at':Int)(x4 x5 x6 x7 x12 x13:Option V)(zb z:ZN)(gs:TG)(es as:List Ent)(rs:List Rw),0≤at'→Scr K H a→aN H PL dG→aN H PD cB→LAt C H q tb t d pl al zb z gs es as→(∀e∈es++as,EOk e)→as.length=1→es.length≤8→rs.map dF=KS es z gs as→(KS es z gs as)[0]?=some (cm zb [])→H r=some (.lst (rs.map λx=>V.ref x.a))→(∀x∈rs,RwAt H x)→(∀x∈rs,ROk x 8)→r≠pl→r≠al →
   (∀x4 x5 x7 x12 x13 H',Fr PL PD q pl al H H'→Scr K H' a→aN H' PL dG→aN H' PD cB→D.nx (yσ a tb p r x4 x5 x6 x7 ((es.length+1:Nat):Int) p2 pr at' x12 x13 q) H')→rd D (yσ a tb p r x4 x5 x6 x7 ((es.length+1:Nat):Int) p2 pr at' x12 x13 q) H:=by
 have Tx:=Y.O.T;obtain⟨r0,p0,h0⟩:=m0 (outer:=outer) (H0:=H0) (E:=E) (PL:=PL) (PD:=PD) hr Y.T Y.MF Y.GF Y.bF;obtain⟨r1,p1,h1⟩:=m1 (P:=P) (w:=w) (K:=K) (mg:=mg) (base:=base) (f:=f) (cL:=cL) (A:=A) (outer:=outer) (s:=s) (H0:=H0) (E:=E);obtain⟨r2,p2',h2⟩:=m2 (outer:=outer) (H0:=H0) (E:=E) hr Y.CA;obtain⟨r3,p3,h3⟩:=m3 (outer:=outer) (H0:=H0) (E:=E) (PL:=PL) Tx hr Y.n Y.O9 Y.OW Y.CS Y.CB Y.CD;obtain⟨r4,p4,h4⟩:=m4 (outer:=outer) (H0:=H0) (E:=E) (PL:=PL) (PD:=PD) Tx hr Y.T Y.MB (Y.GB base Y.O.KB Y.O.Bm) Y.bB;obtain⟨r5,p5,h5⟩:=m5 (outer:=outer) (H0:=H0) (E:=E) (PD:=PD) hr Y.O Y.T Y.MB Y.bB Y.GB Y.O2 Y.CA;obtain⟨r6,p6,h6⟩:=m6 (outer:=outer) (H0:=H0) (E:=E) (PL:=PL) (PD:=PD) Tx hr Y.T Y.MF Y.GF Y.bF;obtain⟨r7,p7,h7⟩:=m7 (outer:=outer) (H0:=H0) (E:=E) hr Y.T Y.CA Y.MZ Y.GZ Y.bZ;refine⟨_,ai p0 (ai p1 (ai p2' (ai p3 (ai p4 (ai p5 (ai p6 (ao p7))))))),?_⟩;intro D H a tb p r p2 pr q pl al t d at' x4 x5 x6 x7 x12 x13 zb z gs es as rs hat hS TL TD L fx one few key hd rl rat ok n1 n2 qo;obtain⟨M,hM⟩:∃M:Int,M=((es.length+1:Nat):Int):=⟨_,rfl⟩;rw[←hM]at qo⊢;have b0:Bv K C PL PD a q tb pl al H H t d al zb z gs es as (rs.map dF):=⟨L,key.symm,fx,λb u h _ _ _ _ _=>h,.inl rfl,⟨_,L.ah⟩,TL,TD,hS⟩;have hrl:rs.length=es.length+2:=by have:=congrArg length key;unfold KS at this;simp at this;omega
 refine h0 _ H a tb p r p2 pr q pl al t d al _ at' _ _ _ _ _ _ H zb z gs es as _ b0 (λh=>by rw[h]at one;simp at one) (by omega) λt2 d2 z2 gs2 es2 as2 H1 k1 e1 e2 b1=>?_;have ea:as2=[]:=length_eq_zero_iff.mp (by omega);subst ea;have rl1:H1 r=some (.lst (rs.map λx=>V.ref x.a)):=Fr.lst b1.fr TL TD L rl n1 n2;have gx:rs[es2.length]?=some rs[es2.length]:=getElem?_eq_getElem (by omega);have mx:=mem_of_getElem? gx;have R1:=(rat _ mx).stay k1;have okx:=ok _ mx;have kx:cm z2 gs2=dF rs[es2.length]:=by
  have:=zi (es:=es2) (z:=z2) (gs:=gs2);rw[b1.key,getElem?_map,gx]at this;exact(Option.some.inj this).symm
 generalize rs[es2.length]=x at gx mx R1 okx kx;refine h1 _ H1 a tb p r p2 pr q _ at' es2.length _ _ _ _ _ _ rs x rl1 gx (by omega) λH2 s2=>?_;have b2:=b1.same s2;have R2:=R1.same s2;refine h2 _ H2 a tb p r p2 pr q pl t2 d2 al _ at' _ _ _ _ _ zb z2 gs2 es2 [] x 8 b2.L R2 kx okx λH3 s3=>?_;have b3:=b2.same s3;have hm:M=(es2.length:Int):=by omega
 subst hm;have hd3:(rs.map dF)[0]?=some (cm zb []):=by rw[key];exact hd
 refine h3 _ H3 a tb p r p2 pr q pl al t2 d2 al _ at' _ _ _ _ H zb z2 gs2 es2 (rs.map dF) x hat ⟨b3,R2.same s3,kx,okx,by omega,hd3⟩ λt3 d3 al3 z3 gs3 es3 KK3 y y4 y5 y7 H4 c=>?_;have few3:=c.few;refine h4 _ H4 a tb p r p2 pr q pl al t3 d3 al3 _ at' _ _ _ _ _ H zb z3 gs3 es3 KK3 y c.b (by omega) c.R λt4 d4 z4 gs4 as4 x4' H5 e5 b5 R5=>?_;refine h5 _ H5 a tb p r p2 pr q pl al t4 d4 al3 _ at' _ _ _ _ _ _ H zb z4 gs4 as4 KK3 b5 (by omega) c.hd λH6 H7 s6 off tq=>?_;have b6:=b5.same s6;have b7:=b6.offL Y.n off tq;have R6:=R5.same s6;have R7:RwAt H7 y:=⟨aV.tup b6.TL off R6.ob,aV.tre b6.TL off R6.tr,aV.tags b6.TL off R6.tg⟩;rw[show((es3.length:Nat):Int)=((as4.length:Nat):Int)by rw[e5]];refine h6 _ H7 a tb p r p2 pr q pl al t4 d4 al3 _ at' _ _ _ _ _ H zb z4 gs4 as4 KK3 y b7 (by omega) R7 λt8 d8 z8 gs8 es8 x4'' H8 e8 b8 R8=>?_;rw[show((as4.length:Nat):Int)=((es8.length:Nat):Int)by rw[e8]];have ky:cm z8 gs8=dF y:=(vX (b8.key.trans c.b.key.symm)).trans c.e;refine h7 _ H8 a tb p r p2 pr q pl t8 d8 al3 _ at' _ _ _ _ zb z8 gs8 es8 y _ b8.L R8 ky c.ok λH9 s9=>?_;have b9:=b8.same s9;exact qo _ _ _ _ _ H9 b9.fr b9.hS b9.TL b9.TD
end
theorem Two.swap{C:Addr}{H:Hp}{p tb t d pl al p2 pl2 al2 r:Addr}{zb z:ZN}{gs:TG}{es as:List Ent}{rs:List Rw}(h:Two C H p tb t d pl al p2 pl2 al2 r zb z gs es as rs):Two C H p2 tb t d pl2 al2 p pl al r zb z gs es as rs :=
 ⟨h.L2,h.L1,h.rl,h.rat,h.key,h.ok,h.fx,h.one,h.few,h.hd,symm h.np,symm h.n11,symm h.n21,symm h.n12,symm h.n22,h.r3,h.r4,h.r1,h.r2⟩
section
variable{P:Program}{w:World}{K:PySem.W.Frag}{mg:Str→Option Value}{base:Heap}{f cL:Addr}{A:Around}{outer:List Env}{s:Shared}{H0:Hp}{E:XK}{C Dd PL PD g fC fB fF fS fZ fI fT fW:Addr}{B:Nat→Addr}{fd fdg fdC fdB fdF fdS fdZ fdI fdT fdW:FuncData}
structure Pw(K:PySem.W.Frag)(C PL PD a tb r l c1 c2 q1 pl1 al1 q2 pl2 al2 t d:Addr)(n1 n2:Int)(zb z:ZN)(gs:TG)(es as:List Ent)(rs:List Rw)(i:Nat)(H:Hp):Prop where
 hS:Scr K H a
 TL:aN H PL dG
 TD:aN H PD cB
 l0:H l=some (.lst [.ref c1,.ref c2])
 e1:H c1=some (.tup [.ref q1,.int n1])
 e2:H c2=some (.tup [.ref q2,.int n2])
 rl:H r=some (.lst (rs.map λx=>V.ref x.a))
 rat:∀x∈rs,RwAt H x
 L1:i=0→LAt C H q1 tb t d pl1 al1 zb z gs es as
 L2:i≤1→LAt C H q2 tb t d pl2 al2 zb z gs es as
theorem t9(hr:R10 A s f cL)(Y:Cals P w K mg base C Dd PL PD cL g fC fB fF fS fZ fT fW B fdg fdC fdB fdF fdS fdZ fdT fdW):
  ∃rd,PS (EU P w K mg base f cL A outer s H0 E) (tS 9) rd∧∀(D:Ends)(H:Hp)(a tb p r p2 pr c1 c2 pl al pl2 al2 t d:Addr)(x4 x5 x6 x7 x11 x12 x13 x14:Option V)(zb z:ZN)(gs:TG)(es as:List Ent)(rs:List Rw),Scr K H a→aN H PL dG→aN H PD cB→Two C H p tb t d pl al p2 pl2 al2 r zb z gs es as rs→H pr=some (.lst [.ref c1,.ref c2])→H c1=some (.tup [.ref p,.int 2000])→H c2=some (.tup [.ref p2,.int 3000])→pr≠pl→pr≠al→pr≠pl2→pr≠al2 →
   (∀σ H',D.nx σ H')→rd D (uσ a tb (some (.ref p)) (some (.ref r)) x4 x5 x6 x7 (some (.int ((es.length+1:Nat):Int))) (some (.ref p2)) (some (.ref pr)) x11 x12 x13 x14) H:=by
 have Tx:=Y.O.T;obtain⟨rA,pA,hA⟩:=mA (outer:=outer) (H0:=H0) (E:=E) hr Y;obtain⟨fP,fdP,GP,mP,kP,bP⟩:=Y.CP;have hr2:Room 2 _:=hr.mono (by decide);refine⟨_,eP PassesOwn.never rfl (gk (fj (au cD (ar GP hr2 rfl mP kP bP .nil aK (aa (pv 0) (aa ak (aa ak af)))) ak (aD _)) (pv 10) (vU (pv 10) (mh jj ak)))) (lv (n:=2) rfl (cU (aQ (i:=14) dZ.nd rfl (Or.inr rfl)) (cU (aQ (i:=11) dZ.nd rfl (Or.inl rfl)) iW))) pA,?_⟩;intro D H a tb p r p2 pr c1 c2 pl al pl2 al2 t d x4 x5 x6 x7 x11 x12 x13 x14 zb z gs es as rs hS TL TD W hpr hc1 hc2 n1 n2 n3 n4 qo;have few:=W.few;have one:=W.one;refine⟨_,rfl,a,_,_,rfl,by decide,by decide,hS.at,λv H1 v0 v1 s1=>⟨rfl,_,rfl,?_⟩⟩;have W1:=W.same s1;have hS1:=hS.same s1;have TL1:=ap TL (av s1);have TD1:=ap TD (av s1)
 by_cases c:v=0
 ·rw[decide_eq_true (by rw[c])];refine be ⟨_,rfl,pr,rfl,⟨_,SqL.of (s1 _ _ hpr)⟩,?_⟩;refine ji (xs:=[.ref c1,.ref c2]) (λi σ H'=>∃x4 x5 x7 x11 x12 x13 x14,σ=uσ a tb (some (.ref p)) (some (.ref r)) x4 x5 x6 x7 (some (.int ((es.length+1:Nat):Int))) (some (.ref p2)) (some (.ref pr)) x11 x12 x13 x14∧Pw K C PL PD a tb r pr c1 c2 p pl al p2 pl2 al2 t d 2000 3000 zb z gs es as rs i H') ⟨_,_,_,_,_,_,_,rfl,⟨hS1,TL1,TD1,s1 _ _ hpr,s1 _ _ hc1,s1 _ _ hc2,W1.rl,W1.rat,λ_=>W1.L1,λ_=>W1.L2⟩⟩ (λi σ H' _ ⟨_,_,_,_,_,_,_,_,w⟩=>SqL.of w.l0) (λi x σ H' hx h=>?_) (λσ H' h=>qo _ _);obtain⟨y4,y5,y7,y11,y12,y13,y14,rfl,w⟩:=h
  match i,hx with
  |0,hx =>
   cases hx;have L1:=w.L1 rfl;have L2:=w.L2 (by decide);refine⟨c1,_,rfl,SqT.of w.e1,rfl,_,_,rfl,_,_,rfl,rfl,?_⟩;refine hA _ H' a tb p r p2 pr p pl al t d 2000 _ _ _ _ _ _ zb z gs es as rs (by decide) w.hS w.TL w.TD L1 W.fx one few W.key W.hd w.rl w.rat W.ok W1.r1 W1.r2 λy4 y5 y7 y12 y13 H2 F hS2 TL2 TD2=>?_;have st:=F.st3 w.TL w.TD L1;exact⟨_,_,_,_,_,_,_,rfl,⟨hS2,TL2,TD2,F.lst w.TL w.TD L1 w.l0 n1 n2,st.tup w.e1,st.tup w.e2,F.lst w.TL w.TD L1 w.rl W1.r1 W1.r2,λx hx=>(w.rat x hx).st3 st,(λh=>absurd h (by decide)),λ_=>F.lat w.TL w.TD L1 L2 (symm W1.np) (symm W1.n11) (symm W1.n21) (symm W1.n12) (symm W1.n22)⟩⟩
  |1,hx =>
   cases hx;have L2:=w.L2 (by decide);refine⟨c2,_,rfl,SqT.of w.e2,rfl,_,_,rfl,_,_,rfl,rfl,?_⟩;refine hA _ H' a tb p r p2 pr p2 pl2 al2 t d 3000 _ _ _ _ _ _ zb z gs es as rs (by decide) w.hS w.TL w.TD L2 W.fx one few W.key W.hd w.rl w.rat W.ok W1.r3 W1.r4 λy4 y5 y7 y12 y13 H2 F hS2 TL2 TD2=>?_;have st:=F.st3 w.TL w.TD L2;exact⟨_,_,_,_,_,_,_,rfl,⟨hS2,TL2,TD2,F.lst w.TL w.TD L2 w.l0 n3 n4,st.tup w.e1,st.tup w.e2,F.lst w.TL w.TD L2 w.rl W1.r3 W1.r4,λx hx=>(w.rat x hx).st3 st,(λh=>absurd h (by decide)),(λh=>absurd h (by decide))⟩⟩
  |i+2,hx=>simp at hx
 ·rw[decide_eq_false (by intro h;exact c (by injection h))];refine aM ⟨_,rfl,_,rfl,pr,_,_,rfl,rfl,SqL.of (s1 _ _ hpr),λl2 hl2=>?_⟩;have s2:=ae (o:=.lst [.ref c2,.ref c1]) hl2;have g2:upd H1 l2 (.lst [.ref c2,.ref c1]) l2=some (.lst [.ref c2,.ref c1]):=ac;have nl:∀{b:Addr}{o:HO},H1 b=some o→l2≠b:=λh e=>by rw[←e,hl2]at h;cases h
  generalize upd H1 l2 (.lst [.ref c2,.ref c1])=H2 at s2 g2⊢;have W2:=(W1.same s2).swap;have hS2:=hS1.same s2;have TL2:=ap TL1 (av s2);have TD2:=ap TD1 (av s2);refine⟨l2,rfl,⟨_,SqL.of g2⟩,?_⟩;refine ji (xs:=[.ref c2,.ref c1]) (λi σ H'=>∃x4 x5 x7 x11 x12 x13 x14,σ=uσ a tb (some (.ref p)) (some (.ref r)) x4 x5 x6 x7 (some (.int ((es.length+1:Nat):Int))) (some (.ref p2)) (some (.ref pr)) x11 x12 x13 x14∧Pw K C PL PD a tb r l2 c2 c1 p2 pl2 al2 p pl al t d 3000 2000 zb z gs es as rs i H') ⟨_,_,_,_,_,_,_,rfl,⟨hS2,TL2,TD2,g2,s2 _ _ (s1 _ _ hc2),s2 _ _ (s1 _ _ hc1),W2.rl,W2.rat,λ_=>W2.L1,λ_=>W2.L2⟩⟩ (λi σ H' _ ⟨_,_,_,_,_,_,_,_,w⟩=>SqL.of w.l0) (λi x σ H' hx h=>?_) (λσ H' h=>qo _ _);obtain⟨y4,y5,y7,y11,y12,y13,y14,rfl,w⟩:=h
  match i,hx with
  |0,hx =>
   cases hx;have L1:=w.L1 rfl;have L2:=w.L2 (by decide);refine⟨c2,_,rfl,SqT.of w.e1,rfl,_,_,rfl,_,_,rfl,rfl,?_⟩;refine hA _ H' a tb p r p2 pr p2 pl2 al2 t d 3000 _ _ _ _ _ _ zb z gs es as rs (by decide) w.hS w.TL w.TD L1 W.fx one few W.key W.hd w.rl w.rat W.ok W2.r1 W2.r2 λy4 y5 y7 y12 y13 H5 F hS5 TL5 TD5=>?_;have st:=F.st3 w.TL w.TD L1;exact⟨_,_,_,_,_,_,_,rfl,⟨hS5,TL5,TD5,F.lst w.TL w.TD L1 w.l0 (nl W1.L2.ps) (nl W1.L2.ah),st.tup w.e1,st.tup w.e2,F.lst w.TL w.TD L1 w.rl W2.r1 W2.r2,λx hx=>(w.rat x hx).st3 st,(λh=>absurd h (by decide)),λ_=>F.lat w.TL w.TD L1 L2 (symm W2.np) (symm W2.n11) (symm W2.n21) (symm W2.n12) (symm W2.n22)⟩⟩
  |1,hx =>
   cases hx;have L2:=w.L2 (by decide);refine⟨c1,_,rfl,SqT.of w.e2,rfl,_,_,rfl,_,_,rfl,rfl,?_⟩;refine hA _ H' a tb p r p2 pr p pl al t d 2000 _ _ _ _ _ _ zb z gs es as rs (by decide) w.hS w.TL w.TD L2 W.fx one few W.key W.hd w.rl w.rat W.ok W2.r3 W2.r4 λy4 y5 y7 y12 y13 H5 F hS5 TL5 TD5=>?_;have st:=F.st3 w.TL w.TD L2;exact⟨_,_,_,_,_,_,_,rfl,⟨hS5,TL5,TD5,F.lst w.TL w.TD L2 w.l0 (nl W1.L1.ps) (nl W1.L1.ah),st.tup w.e1,st.tup w.e2,F.lst w.TL w.TD L2 w.rl W2.r3 W2.r4,λx hx=>(w.rat x hx).st3 st,(λh=>absurd h (by decide)),(λh=>absurd h (by decide))⟩⟩
  |i+2,hx=>simp at hx
def qH(PL PD:Addr)(K:PySem.W.Frag):Sp:=λvs H Q _=>∃(a:Addr) (ns:List Int),vs=[.ref a]∧SqL K H a (ns.map V.int)∧ns.length≤63∧H PL=some (.tbl #[])∧H PD=some (.tbl #[])∧∀H',Q (.bl true) H'
theorem ym(F:Fun K "law" "law" rE f fd)(hc:fd.code=.ref cL)(Y:Cals P w K mg base C Dd PL PD cL g fC fB fF fS fZ fT fW B fdg fdC fdB fdF fdS fdZ fdT fdW)(M:Mk K C fI)(GI:FnOk P w K mg base CX0 1 fI fdI ["self","tree"] (iG C))(bI:aG K fdI ["self","tree"] [])(CT:Has P w K mg base 3 "_law_tree" ["_law_script","_law_at","_law_most"] (io K)):
  FnOk P w K mg base CX0 10 f fd ["_law_script"] (qH PL PD K):=by
 have Tx:=Y.O.T;refine F.okT hc dZ (λvs H Q E h=>?_) (λA outer s H vs Q E hr h=>?_)
 ·obtain⟨a,ns,rfl,_⟩:=h;rfl
 ·obtain⟨a,ns,rfl,hS,hn,hPL,hPD,q⟩:=h;obtain⟨r0,p0,h0⟩:=t0 (outer:=outer) (H0:=H) (E:=E) (cL:=cL) hr CT;obtain⟨r1,p1,h1⟩:=t1 (outer:=outer) (H0:=H) (E:=E) (cL:=cL) hr Y.T M GI bI;obtain⟨r2,p2,h2⟩:=t2 (outer:=outer) (H0:=H) (E:=E) (cL:=cL) hr Y.T Y.MT Y.GT Y.bT;obtain⟨r3,p3,h3⟩:=t3 (outer:=outer) (H0:=H) (E:=E) (PL:=PL) (cL:=cL) Tx hr Y.n Y.O9 Y.OW Y.CS Y.CB Y.CD;obtain⟨r7,p7,h7⟩:=t7 (outer:=outer) (H0:=H) (E:=E) (cL:=cL) hr Y.T Y.CA Y.MZ Y.GZ Y.bZ Y.MS Y.GS Y.bS;obtain⟨r8,p8,h8⟩:=t8 (P:=P) (w:=w) (K:=K) (mg:=mg) (base:=base) (f:=f) (cL:=cL) (A:=A) (outer:=outer) (s:=s) (H0:=H) (E:=E);obtain⟨r9,p9,h9⟩:=t9 (outer:=outer) (H0:=H) (E:=E) hr Y;obtain⟨tR,pR,hR⟩:∃tR,PS (EU P w K mg base f cL A outer s H E) (tS 10) tR∧∀D σ H',D.rt (.bl true) H'→tR D σ H':=⟨_,ax fi,λD σ H' h=>h⟩;have pz:=ai p7 (ai p8 (ai p9 (ao pR)));obtain⟨r4,p4,h4⟩:=zR (outer:=outer) (H0:=H) (E:=E) (PL:=PL) (PD:=PD) (cL:=cL) Tx hr Y.T Y.MB (Y.GB base Y.O.KB Y.O.Bm) Y.bB Y.MW Y.GW Y.bW _ _ pz;refine⟨_,ai (yi p0) (ai p1 (ai p2 (ai p3 p4))),?_⟩;have ne:∀{b:Addr}{u:HO},H b=some (.tbl #[])→H a=some u→(∀ps,u≠.tbl ps)→b≠a:=λh1 h2 n z=>by rw[z,h2]at h1;cases h1;exact n _ rfl
  rcases hS with (h|⟨o,h⟩)|h
  ·refine .inr ⟨a,_,.inl h,λH1 o keep hf=>?_⟩;have hS1:Scr K H1 a:=.inr ⟨o,ns,hf⟩;have u1:=keep _ _ hPL (ne hPL h λ_ h=>by cases h);have u2:=keep _ _ hPD (ne hPD h λ_ h=>by cases h);refine h0 _ _ a _ _ _ _ _ _ _ _ _ _ _ _ _ _ hS1.at λtb zb H2 s1 tr ok hz=>?_;have hS2:=hS1.same s1;have a2:aN H2 PL dG:=ap (.start u1) (av s1);have b2:aN H2 PD cB:=ap (.start u2) (av s1);refine h1 _ H2 a tb zb _ _ _ _ _ _ _ _ _ _ _ _ _ tr λp d pl al r x y H3 s2 bg=>?_;have hS3:=hS2.same s2;have a3:=ap a2 (av s2);have b3:=ap b2 (av s2);refine h2 _ H3 a tb p d pl al r zb x y _ _ _ _ _ _ _ _ _ _ _ bg ok hz λd2 al2 gs es rs H4 k4 J=>?_;refine h3 _ H4 a tb p tb d2 pl al2 r zb zb gs es rs _ _ _ _ _ _ _ _ _ _ _ (hS3.stay k4) (ap a3 k4) (ap b3 k4) J λt5 d5 al5 r5 z5 gs5 es5 rs5 y4 y5 y6 y7 H5 hS5 a5 b5 J5=>?_;refine h4 _ H5 a tb p t5 d5 pl al5 r5 zb z5 gs5 es5 rs5 _ _ _ _ _ _ _ _ _ _ _ hS5 a5 b5 J5 λt6 d6 al6 p6 pl6 al7 z6 gs6 es6 as6 H6 hS6 a6 b6 he W=>?_;refine h7 _ H6 a tb p t6 d6 pl al6 p6 pl6 al7 r5 es5.length zb z6 gs6 es6 as6 rs5 _ _ _ _ _ _ _ _ _ W he λH7 s7=>?_;have W7:=W.same s7;refine h8 _ H7 a tb p p6 r5 _ _ _ _ _ _ _ _ _ _ λpr c1 c2 H8 s8 g1 g2 g3 fr=>?_;have W8:=W7.same s8;rw[←he];exact h9 _ H8 a tb p r5 p6 pr c1 c2 pl al6 pl6 al7 t6 d6 _ _ _ _ _ _ _ _ zb z6 gs6 es6 as6 rs5 ((hS6.same s7).same s8) (ap (ap a6 (av s7)) (av s8)) (ap (ap b6 (av s7)) (av s8)) W8 g1 g2 g3 (fr _ _ W7.L1.ps) (fr _ _ W7.L1.ah) (fr _ _ W7.L2.ps) (fr _ _ W7.L2.ah) λσ H'=>hR _ σ H' (q H')
  ·refine .inl ?_;have hS1:Scr K H a:=.inr ⟨o,ns,h⟩;have u1:=hPL;have u2:=hPD;refine h0 _ _ a _ _ _ _ _ _ _ _ _ _ _ _ _ _ hS1.at λtb zb H2 s1 tr ok hz=>?_;have hS2:=hS1.same s1;have a2:aN H2 PL dG:=ap (.start u1) (av s1);have b2:aN H2 PD cB:=ap (.start u2) (av s1);refine h1 _ H2 a tb zb _ _ _ _ _ _ _ _ _ _ _ _ _ tr λp d pl al r x y H3 s2 bg=>?_;have hS3:=hS2.same s2;have a3:=ap a2 (av s2);have b3:=ap b2 (av s2);refine h2 _ H3 a tb p d pl al r zb x y _ _ _ _ _ _ _ _ _ _ _ bg ok hz λd2 al2 gs es rs H4 k4 J=>?_;refine h3 _ H4 a tb p tb d2 pl al2 r zb zb gs es rs _ _ _ _ _ _ _ _ _ _ _ (hS3.stay k4) (ap a3 k4) (ap b3 k4) J λt5 d5 al5 r5 z5 gs5 es5 rs5 y4 y5 y6 y7 H5 hS5 a5 b5 J5=>?_;refine h4 _ H5 a tb p t5 d5 pl al5 r5 zb z5 gs5 es5 rs5 _ _ _ _ _ _ _ _ _ _ _ hS5 a5 b5 J5 λt6 d6 al6 p6 pl6 al7 z6 gs6 es6 as6 H6 hS6 a6 b6 he W=>?_;refine h7 _ H6 a tb p t6 d6 pl al6 p6 pl6 al7 r5 es5.length zb z6 gs6 es6 as6 rs5 _ _ _ _ _ _ _ _ _ W he λH7 s7=>?_;have W7:=W.same s7;refine h8 _ H7 a tb p p6 r5 _ _ _ _ _ _ _ _ _ _ λpr c1 c2 H8 s8 g1 g2 g3 fr=>?_;have W8:=W7.same s8;rw[←he];exact h9 _ H8 a tb p r5 p6 pr c1 c2 pl al6 pl6 al7 t6 d6 _ _ _ _ _ _ _ _ zb z6 gs6 es6 as6 rs5 ((hS6.same s7).same s8) (ap (ap a6 (av s7)) (av s8)) (ap (ap b6 (av s7)) (av s8)) W8 g1 g2 g3 (fr _ _ W7.L1.ps) (fr _ _ W7.L1.ah) (fr _ _ W7.L2.ps) (fr _ _ W7.L2.ah) λσ H'=>hR _ σ H' (q H')
  ·refine .inl ?_;have hS1:Scr K H a:=.inl λH'=>⟨ns,.inr h⟩;have u1:=hPL;have u2:=hPD;refine h0 _ _ a _ _ _ _ _ _ _ _ _ _ _ _ _ _ hS1.at λtb zb H2 s1 tr ok hz=>?_;have hS2:=hS1.same s1;have a2:aN H2 PL dG:=ap (.start u1) (av s1);have b2:aN H2 PD cB:=ap (.start u2) (av s1);refine h1 _ H2 a tb zb _ _ _ _ _ _ _ _ _ _ _ _ _ tr λp d pl al r x y H3 s2 bg=>?_;have hS3:=hS2.same s2;have a3:=ap a2 (av s2);have b3:=ap b2 (av s2);refine h2 _ H3 a tb p d pl al r zb x y _ _ _ _ _ _ _ _ _ _ _ bg ok hz λd2 al2 gs es rs H4 k4 J=>?_;refine h3 _ H4 a tb p tb d2 pl al2 r zb zb gs es rs _ _ _ _ _ _ _ _ _ _ _ (hS3.stay k4) (ap a3 k4) (ap b3 k4) J λt5 d5 al5 r5 z5 gs5 es5 rs5 y4 y5 y6 y7 H5 hS5 a5 b5 J5=>?_;refine h4 _ H5 a tb p t5 d5 pl al5 r5 zb z5 gs5 es5 rs5 _ _ _ _ _ _ _ _ _ _ _ hS5 a5 b5 J5 λt6 d6 al6 p6 pl6 al7 z6 gs6 es6 as6 H6 hS6 a6 b6 he W=>?_;refine h7 _ H6 a tb p t6 d6 pl al6 p6 pl6 al7 r5 es5.length zb z6 gs6 es6 as6 rs5 _ _ _ _ _ _ _ _ _ W he λH7 s7=>?_;have W7:=W.same s7;refine h8 _ H7 a tb p p6 r5 _ _ _ _ _ _ _ _ _ _ λpr c1 c2 H8 s8 g1 g2 g3 fr=>?_;have W8:=W7.same s8;rw[←he];exact h9 _ H8 a tb p r5 p6 pr c1 c2 pl al6 pl6 al7 t6 d6 _ _ _ _ _ _ _ _ zb z6 gs6 es6 as6 rs5 ((hS6.same s7).same s8) (ap (ap a6 (av s7)) (av s8)) (ap (ap b6 (av s7)) (av s8)) W8 g1 g2 g3 (fr _ _ W7.L1.ps) (fr _ _ W7.L1.ah) (fr _ _ W7.L2.ps) (fr _ _ W7.L2.ah) λσ H'=>hR _ σ H' (q H')
end
end TK
namespace TK
open PySem PySem.W PyProof.Rows L2
theorem gg{K:PySem.W.Frag}{h:Heap}{mg:Str→Option Value}{x:Str}{C:Addr}{bB:List Value}{nid:String}(X:K.In h)(hb:mg x=some (.ref C))(q:excIn K C bB nid=true):OwnCls x C bB nid mg h:=by
 have hobj:∃bm N nm q' bs hdct sn sub ab col dd k0 k1 k2 k3 k5 mN,h.get? C=some (excClassObj nm q' C N bs bm hdct sn sub ab col dd k0 k1 k2 k3 k5 nid)∧h.Ns N mN∧mN "__init__"=none∧OwnTail h bB bm:=by
  unfold excIn at q
  split at q
  case h_2=>exact absurd q (by simp)
  case h_1 d0 c0 s0 hK =>
   split at q
   case h_2=>exact absurd q (by simp)
   case h_1 C1 b1 u0 u1 u2 u3 u4 u5 e1 e2 =>
    rw[and_eq_true,and_eq_true,and_eq_true,and_eq_true,and_eq_true]at q;obtain⟨⟨⟨⟨⟨y1,y2⟩,y3⟩,g4⟩,g5⟩,y6⟩:=q;have g1:C1=C:=beq_iff_eq.mp y1;have g2:u4=nid:=beq_iff_eq.mp y2;have g3:c0.hasDel=false:=by simpa using y3
    have g6:nsIn K c0.ns "__init__"=some none:=beq_iff_eq.mp y6;clear y1 y2 y3 y6;cases c0;cases s0;dsimp only at e1 e2 g3 g5 g6;subst g1 g2 g3 e1 e2;exact⟨_,_,_,_,_,_,_,_,_,_,_,_,_,_,_,_,_,X _ _ hK,Heap.Ns.of_isNs (PySem.W.isNs_of_in X g5),PySem.W.nsMap_none_of_in X g5 g6,PySem.W.tail_of_in X g4⟩
 exact⟨hb,hobj⟩
theorem zS{α:Type}{P:List α→Prop}{us:List α}(hl:us.length=0)(h:P []):P us:=by cases us with|nil=>exact h|cons a r=>cases hl
theorem zj{α:Type}{P:List α→Prop}{us:List α}(hl:us.length=1)(h:∀a0,P [a0]):P us:=by cases us with|nil=>cases hl|cons a r=>exact zS (P:=λr=>P (a::r)) (Nat.succ.inj hl) (h a)
theorem zk{α:Type}{P:List α→Prop}{us:List α}(hl:us.length=2)(h:∀a0 a1,P [a0,a1]):P us:=by cases us with|nil=>cases hl|cons a r=>exact zj (P:=λr=>P (a::r)) (Nat.succ.inj hl) (h a)
theorem zl{α:Type}{P:List α→Prop}{us:List α}(hl:us.length=3)(h:∀a0 a1 a2,P [a0,a1,a2]):P us:=by cases us with|nil=>cases hl|cons a r=>exact zk (P:=λr=>P (a::r)) (Nat.succ.inj hl) (h a)
theorem zm{α:Type}{P:List α→Prop}{us:List α}(hl:us.length=4)(h:∀a0 a1 a2 a3,P [a0,a1,a2,a3]):P us:=by cases us with|nil=>cases hl|cons a r=>exact zl (P:=λr=>P (a::r)) (Nat.succ.inj hl) (h a)
theorem zT{α:Type}{P:List α→Prop}{us:List α}(hl:us.length=5)(h:∀a0 a1 a2 a3 a4,P [a0,a1,a2,a3,a4]):P us:=by cases us with|nil=>cases hl|cons a r=>exact zm (P:=λr=>P (a::r)) (Nat.succ.inj hl) (h a)
abbrev gA(K:PySem.W.Frag)(x:Str)(f:Addr):Prop:=nsIn K mainGlobals x=some (some (.ref f))
abbrev gN(K:PySem.W.Frag)(x:Str):Prop:=nsIn K mainGlobals x=some none
theorem fh{P:Program}{w:World}{K:PySem.W.Frag}{mg:Str→Option Value}{base h:Heap}{k:Nat}{x q:Str}{st:Stmt}{f:Addr}{fd:FuncData}{ps:List Str}{sp:Sp}(X:K.In h)(G:h.Ns mainGlobals mg)(F:Fun K x q st f fd)(a:gA K x f)(b:aG K fd ps [])(O:FnOk P w K mg base CX0 k f fd ps sp):Has P w K mg base k x ps sp:=⟨f,fd,O,mg_of X G a,F.kp,b⟩
theorem fhX{P:Program}{w:World}{K:PySem.W.Frag}{mg:Str→Option Value}{base h:Heap}{k:Nat}{x q:Str}{st:Stmt}{f:Addr}{fd:FuncData}{ps:List Str}{sp:Sp}(X:K.In h)(G:h.Ns mainGlobals mg)(F:Fun K x q st f fd)(a:gA K x f)(b:aG K fd ps [])(O:FnOk P w K mg base (CX1 P w) k f fd ps sp):ff P w K mg base k x ps sp:=⟨f,fd,O,mg_of X G a,F.kp,b⟩
theorem fb1{K:PySem.W.Frag}{x q a0:Str}{st:Stmt}{f:Addr}{fd:FuncData}(F:Fun K x q st f fd)(h:∀(kV doc pm:Value) (an:Option Addr) (cdv ct v0:Value),bindArgs (fnOf x q (dl st) (bz st) (am st) .none kV doc pm an cdv ct) ⟨[v0],[]⟩=pure (List.zip [a0] [v0]):=by intros;rfl):aG K fd [a0] []:=F.binds λkV doc pm an cdv ct us hl=>zj (P:=λus=>bindArgs _ ⟨us,[]⟩=pure (List.zip _ us)) hl (h kV doc pm an cdv ct)
theorem fb2{K:PySem.W.Frag}{x q a0 a1:Str}{st:Stmt}{f:Addr}{fd:FuncData}(F:Fun K x q st f fd)(h:∀(kV doc pm:Value) (an:Option Addr) (cdv ct v0 v1:Value),bindArgs (fnOf x q (dl st) (bz st) (am st) .none kV doc pm an cdv ct) ⟨[v0,v1],[]⟩=pure (List.zip [a0,a1] [v0,v1]):=by intros;rfl):aG K fd [a0,a1] []:=F.binds λkV doc pm an cdv ct us hl=>zk (P:=λus=>bindArgs _ ⟨us,[]⟩=pure (List.zip _ us)) hl (h kV doc pm an cdv ct)
theorem fb3{K:PySem.W.Frag}{x q a0 a1 a2:Str}{st:Stmt}{f:Addr}{fd:FuncData}(F:Fun K x q st f fd)(h:∀(kV doc pm:Value) (an:Option Addr) (cdv ct v0 v1 v2:Value),bindArgs (fnOf x q (dl st) (bz st) (am st) .none kV doc pm an cdv ct) ⟨[v0,v1,v2],[]⟩=pure (List.zip [a0,a1,a2] [v0,v1,v2]):=by intros;rfl):aG K fd [a0,a1,a2] []:=F.binds λkV doc pm an cdv ct us hl=>zl (P:=λus=>bindArgs _ ⟨us,[]⟩=pure (List.zip _ us)) hl (h kV doc pm an cdv ct)
theorem fb4{K:PySem.W.Frag}{x q a0 a1 a2 a3:Str}{st:Stmt}{f:Addr}{fd:FuncData}(F:Fun K x q st f fd)(h:∀(kV doc pm:Value) (an:Option Addr) (cdv ct v0 v1 v2 v3:Value),bindArgs (fnOf x q (dl st) (bz st) (am st) .none kV doc pm an cdv ct) ⟨[v0,v1,v2,v3],[]⟩=pure (List.zip [a0,a1,a2,a3] [v0,v1,v2,v3]):=by intros;rfl):aG K fd [a0,a1,a2,a3] []:=F.binds λkV doc pm an cdv ct us hl=>zm (P:=λus=>bindArgs _ ⟨us,[]⟩=pure (List.zip _ us)) hl (h kV doc pm an cdv ct)
theorem fb5{K:PySem.W.Frag}{x q a0 a1 a2 a3 a4:Str}{st:Stmt}{f:Addr}{fd:FuncData}(F:Fun K x q st f fd)(h:∀(kV doc pm:Value) (an:Option Addr) (cdv ct v0 v1 v2 v3 v4:Value),bindArgs (fnOf x q (dl st) (bz st) (am st) .none kV doc pm an cdv ct) ⟨[v0,v1,v2,v3,v4],[]⟩=pure (List.zip [a0,a1,a2,a3,a4] [v0,v1,v2,v3,v4]):=by intros;rfl):aG K fd [a0,a1,a2,a3,a4] []:=F.binds λkV doc pm an cdv ct us hl=>zT (P:=λus=>bindArgs _ ⟨us,[]⟩=pure (List.zip _ us)) hl (h kV doc pm an cdv ct)
theorem yn{l:PySem.W.OpenLaw}{w:World}{K:PySem.W.Frag}{h:Heap}{mg:Str→Option Value}{fa f1 f2 f3 f4 f5 f6 f7 f8 f9 f10 f11 f12 f13 f14 f15 f16 f17 f18 f19 f20 f21 f22 f23 f24 f25 f26 f27 f28 f29 f30 f31 f32 f33 f34 f35 f36 f37 f38 f39 f40 OLedger:Addr}(X:K.In h)(G:h.Ns mainGlobals mg)(hfa:mg "law"=some (.ref fa)){d1 d2 d3 d4 d5 d6 d7 d8 d9 d10 d11 d12 d13 d14 d15 d16 d17 d18 d19 d20 d21 d22 d23 d24 d25 d26 d27 d28 d29 d30 d31 d32 d33 d34 d35 d36 d37 d38 d39 d40:FuncData}{t1:Tok}(a1:gA K "is_name" f1)(F1:Fun K "is_name" "is_name" tE f1 d1)(a2:gA K "numbers_inside" f2)(F2:Fun K "numbers_inside" "numbers_inside" xk f2 d2)(a3:gA K "by_number" f3)(F3:Fun K "by_number" "by_number" xl f3 d3)(a4:gA K "node_of" f4)(F4:Fun K "node_of" "node_of" xm f4 d4)(a5:gA K "check_folder" f5)(F5:Fun K "check_folder" "check_folder" xn f5 d5)(a6:gA K "below" f6)(F6:Fun K "below" "below" xo f6 d6)(a7:gA K "check_place" f7)(F7:Fun K "check_place" "check_place" xp f7 d7)(a8:gA K "with_node" f8)(F8:Fun K "with_node" "with_node" qk f8 d8)(a9:gA K "make" f9)(F9:Fun K "make" "make" tF f9 d9)(a10:gA K "write" f10)(F10:Fun K "write" "write" oK f10 d10)(a11:gA K "move" f11)(F11:Fun K "move" "move" tG f11 d11)(a12:gA K "drop" f12)(F12:Fun K "drop" "drop" ql f12 d12)(a13:gA K "done" f13)(F13:Fun K "done" "done" tH f13 d13)(a14:PySem.W.findIn K (.ref OLedger) "__init__"=some (some (.ref f14)))(i14:isFn K (.ref f14)=true)(F14:Fun K "__init__" "Ledger.__init__" eT f14 d14)(a15:PySem.W.findIn K (.ref OLedger) "now"=some (some (.ref f15)))(i15:isFn K (.ref f15)=true)(F15:Fun K "now" "Ledger.now" fQ f15 d15)(a16:PySem.W.findIn K (.ref OLedger) "sizes"=some (some (.ref f16)))(i16:isFn K (.ref f16)=true)(F16:Fun K "sizes" "Ledger.sizes" dS f16 d16)(a17:PySem.W.findIn K (.ref OLedger) "steps"=some (some (.ref f17)))(i17:isFn K (.ref f17)=true)(F17:Fun K "steps" "Ledger.steps" dQ f17 d17)(a18:PySem.W.findIn K (.ref OLedger) "tags"=some (some (.ref f18)))(i18:isFn K (.ref f18)=true)(F18:Fun K "tags" "Ledger.tags" eU f18 d18)(a19:PySem.W.findIn K (.ref OLedger) "go_on"=some (some (.ref f19)))(i19:isFn K (.ref f19)=true)(F19:Fun K "go_on" "Ledger.go_on" dP f19 d19)(a20:PySem.W.findIn K (.ref OLedger) "do"=some (some (.ref f20)))(i20:isFn K (.ref f20)=true)(F20:Fun K "do" "Ledger.do" gK f20 d20)(a21:PySem.W.findIn K (.ref OLedger) "tagged"=some (some (.ref f21)))(i21:isFn K (.ref f21)=true)(F21:Fun K "tagged" "Ledger.tagged" dD f21 d21)(a22:PySem.W.findIn K (.ref OLedger) "tag"=some (some (.ref f22)))(i22:isFn K (.ref f22)=true)(F22:Fun K "tag" "Ledger.tag" fO f22 d22)(a23:PySem.W.findIn K (.ref OLedger) "pass_over"=some (some (.ref f23)))(i23:isFn K (.ref f23)=true)(F23:Fun K "pass_over" "Ledger.pass_over" cN f23 d23)(a24:PySem.W.findIn K (.ref OLedger) "back"=some (some (.ref f24)))(i24:isFn K (.ref f24)=true)(F24:Fun K "back" "Ledger.back" eV f24 d24)(a25:PySem.W.findIn K (.ref OLedger) "forth"=some (some (.ref f25)))(i25:isFn K (.ref f25)=true)(F25:Fun K "forth" "Ledger.forth" dR f25 d25)(a26:PySem.W.findIn K (.ref OLedger) "twin"=some (some (.ref f26)))(i26:isFn K (.ref f26)=true)(F26:Fun K "twin" "Ledger.twin" eW f26 d26)(a27:gA K "_law_cell" f27)(F27:Fun K "_law_cell" "_law_cell" tI f27 d27)(a28:gA K "_law_pick" f28)(F28:Fun K "_law_pick" "_law_pick" tJ f28 d28)(a29:gA K "_law_tree" f29)(F29:Fun K "_law_tree" "_law_tree" iE f29 d29)(a30:gA K "_law_book" f30)(F30:Fun K "_law_book" "_law_book" tK f30 d30)(a31:gA K "_law_under" f31)(F31:Fun K "_law_under" "_law_under" oM f31 d31)(a32:gA K "_law_done" f32)(F32:Fun K "_law_done" "_law_done" cp f32 d32)(a33:gA K "_law_deed" f33)(F33:Fun K "_law_deed" "_law_deed" iP f33 d33)(a34:gA K "_law_step" f34)(F34:Fun K "_law_step" "_law_step" gL f34 d34)(a35:gA K "_law_behind" f35)(F35:Fun K "_law_behind" "_law_behind" eY f35 d35)(a36:gA K "_law_all_of" f36)(F36:Fun K "_law_all_of" "_law_all_of" dq f36 d36)(a37:gA K "_law_class" f37)(F37:Fun K "_law_class" "_law_class" dN f37 d37)(a38:gA K "_law_told" f38)(F38:Fun K "_law_told" "_law_told" eX f38 d38)(a39:gA K "_law_did" f39)(F39:Fun K "_law_did" "_law_did" iF f39 d39)(a40:gA K "law" f40)(F40:Fun K "law" "law" rE f40 d40)(z1:gN K "isinstance")(z2:gN K "dict")(z3:gN K "len")(z4:gN K "tuple")(z5:gN K "list")(z6:gN K "range")(z7:gN K "sorted")(z8:gN K "reversed")(z9:gN K "ValueError")(z10:gN K "str")(z11:gN K "set")(z12:gN K "max")(z13:gN K "min")(z14:gN K "sum")(z15:gN K "zip")(z16:gN K "enumerate")(z17:gN K "all")(z18:gN K "int")(z19:gN K "bool")(v1t:nsIn K mainGlobals "TOP"=some (some (.int 0 t1))){t2:Tok}(v2t:nsIn K mainGlobals "LETTERS"=some (some (.str "abcdefghijklmnopqrstuvwxyz" t2))){t3:Tok}(v3t:nsIn K mainGlobals "LONGEST_NAME"=some (some (.int 5 t3))){cL PL:Addr}(kL:d40.code=.ref cL)(eL:codeHdIn K cL PL=true){cC PC:Addr}(kC:d39.code=.ref cC)(eC:codeHdIn K cC PC=true)(nPC:PC≠PL){DT B0 B1 B2 B3 B4 B5 B6 B7 B8 B9 B10 B11:Addr}(xD:nsIn K mainGlobals "TreeError"=some (some (.ref DT)))(gD:PySem.W.ktsIn K DT "BaseException"=true)(x0:nsIn K mainGlobals "Inside"=some (some (.ref B0)))(x1:nsIn K mainGlobals "Known"=some (some (.ref B1)))(x2:nsIn K mainGlobals "NoBack"=some (some (.ref B2)))(x3:nsIn K mainGlobals "NoMark"=some (some (.ref B3)))(x4:nsIn K mainGlobals "NoMatch"=some (some (.ref B4)))(x5:nsIn K mainGlobals "NoNode"=some (some (.ref B5)))(x6:nsIn K mainGlobals "NoReader"=some (some (.ref B6)))(x7:nsIn K mainGlobals "NotFile"=some (some (.ref B7)))(x8:nsIn K mainGlobals "NotFolder"=some (some (.ref B8)))(x9:nsIn K mainGlobals "NoTag"=some (some (.ref B9)))(x10:nsIn K mainGlobals "NoText"=some (some (.ref B10)))(x11:nsIn K mainGlobals "Taken"=some (some (.ref B11)))(q0:excIn K B0 bmV "ValueError.__new__"=true)(e0_0:kitOne K (.ref B0) (.ref B0)=some true)(e0_1:kitOne K (.ref B0) (.ref B1)=some false)(e0_2:kitOne K (.ref B0) (.ref B2)=some false)(e0_3:kitOne K (.ref B0) (.ref B3)=some false)(e0_4:kitOne K (.ref B0) (.ref B4)=some false)(e0_5:kitOne K (.ref B0) (.ref B5)=some false)(e0_6:kitOne K (.ref B0) (.ref B6)=some false)(e0_7:kitOne K (.ref B0) (.ref B7)=some false)(e0_8:kitOne K (.ref B0) (.ref B8)=some false)(e0_9:kitOne K (.ref B0) (.ref B9)=some false)(e0_10:kitOne K (.ref B0) (.ref B10)=some false)(e0_11:kitOne K (.ref B0) (.ref B11)=some false)(v0:kitOne K (.ref B0) (.type "ValueError")=some true)(s0:subIn K (.ref B0) (.ref DT)=some true)(g01:PySem.W.ktsIn K B0 "object"=true)(g02:PySem.W.findIn K (.ref B0) "__getattribute__"=some (some (.builtin "BaseException.__getattribute__")))(g03:PySem.W.findIn K (.ref B0) "__getattr__"=some none)(g04:PySem.W.findIn K (.ref B0) "__class__"=some (some (.builtin "object.__class__")))(q1:excIn K B1 bmV "ValueError.__new__"=true)(e1_0:kitOne K (.ref B1) (.ref B0)=some false)(e1_1:kitOne K (.ref B1) (.ref B1)=some true)(e1_2:kitOne K (.ref B1) (.ref B2)=some false)(e1_3:kitOne K (.ref B1) (.ref B3)=some false)(e1_4:kitOne K (.ref B1) (.ref B4)=some false)(e1_5:kitOne K (.ref B1) (.ref B5)=some false)(e1_6:kitOne K (.ref B1) (.ref B6)=some false)(e1_7:kitOne K (.ref B1) (.ref B7)=some false)(e1_8:kitOne K (.ref B1) (.ref B8)=some false)(e1_9:kitOne K (.ref B1) (.ref B9)=some false)(e1_10:kitOne K (.ref B1) (.ref B10)=some false)(e1_11:kitOne K (.ref B1) (.ref B11)=some false)(v1:kitOne K (.ref B1) (.type "ValueError")=some true)(s1:subIn K (.ref B1) (.ref DT)=some true)(g11:PySem.W.ktsIn K B1 "object"=true)(g12:PySem.W.findIn K (.ref B1) "__getattribute__"=some (some (.builtin "BaseException.__getattribute__")))(g13:PySem.W.findIn K (.ref B1) "__getattr__"=some none)(g14:PySem.W.findIn K (.ref B1) "__class__"=some (some (.builtin "object.__class__")))(q2:excIn K B2 bmV "ValueError.__new__"=true)(e2_0:kitOne K (.ref B2) (.ref B0)=some false)(e2_1:kitOne K (.ref B2) (.ref B1)=some false)(e2_2:kitOne K (.ref B2) (.ref B2)=some true)(e2_3:kitOne K (.ref B2) (.ref B3)=some false)(e2_4:kitOne K (.ref B2) (.ref B4)=some false)(e2_5:kitOne K (.ref B2) (.ref B5)=some false)(e2_6:kitOne K (.ref B2) (.ref B6)=some false)(e2_7:kitOne K (.ref B2) (.ref B7)=some false)(e2_8:kitOne K (.ref B2) (.ref B8)=some false)(e2_9:kitOne K (.ref B2) (.ref B9)=some false)(e2_10:kitOne K (.ref B2) (.ref B10)=some false)(e2_11:kitOne K (.ref B2) (.ref B11)=some false)(v2:kitOne K (.ref B2) (.type "ValueError")=some true)(s2:subIn K (.ref B2) (.ref DT)=some true)(g21:PySem.W.ktsIn K B2 "object"=true)(g22:PySem.W.findIn K (.ref B2) "__getattribute__"=some (some (.builtin "BaseException.__getattribute__")))(g23:PySem.W.findIn K (.ref B2) "__getattr__"=some none)(g24:PySem.W.findIn K (.ref B2) "__class__"=some (some (.builtin "object.__class__")))(q5:excIn K B5 bmV "ValueError.__new__"=true)(e5_0:kitOne K (.ref B5) (.ref B0)=some false)(e5_1:kitOne K (.ref B5) (.ref B1)=some false)(e5_2:kitOne K (.ref B5) (.ref B2)=some false)(e5_3:kitOne K (.ref B5) (.ref B3)=some false)(e5_4:kitOne K (.ref B5) (.ref B4)=some false)(e5_5:kitOne K (.ref B5) (.ref B5)=some true)(e5_6:kitOne K (.ref B5) (.ref B6)=some false)(e5_7:kitOne K (.ref B5) (.ref B7)=some false)(e5_8:kitOne K (.ref B5) (.ref B8)=some false)(e5_9:kitOne K (.ref B5) (.ref B9)=some false)(e5_10:kitOne K (.ref B5) (.ref B10)=some false)(e5_11:kitOne K (.ref B5) (.ref B11)=some false)(v5:kitOne K (.ref B5) (.type "ValueError")=some true)(s5:subIn K (.ref B5) (.ref DT)=some true)(g51:PySem.W.ktsIn K B5 "object"=true)(g52:PySem.W.findIn K (.ref B5) "__getattribute__"=some (some (.builtin "BaseException.__getattribute__")))(g53:PySem.W.findIn K (.ref B5) "__getattr__"=some none)(g54:PySem.W.findIn K (.ref B5) "__class__"=some (some (.builtin "object.__class__")))(q7:excIn K B7 bmV "ValueError.__new__"=true)(e7_0:kitOne K (.ref B7) (.ref B0)=some false)(e7_1:kitOne K (.ref B7) (.ref B1)=some false)(e7_2:kitOne K (.ref B7) (.ref B2)=some false)(e7_3:kitOne K (.ref B7) (.ref B3)=some false)(e7_4:kitOne K (.ref B7) (.ref B4)=some false)(e7_5:kitOne K (.ref B7) (.ref B5)=some false)(e7_6:kitOne K (.ref B7) (.ref B6)=some false)(e7_7:kitOne K (.ref B7) (.ref B7)=some true)(e7_8:kitOne K (.ref B7) (.ref B8)=some false)(e7_9:kitOne K (.ref B7) (.ref B9)=some false)(e7_10:kitOne K (.ref B7) (.ref B10)=some false)(e7_11:kitOne K (.ref B7) (.ref B11)=some false)(v7:kitOne K (.ref B7) (.type "ValueError")=some true)(s7:subIn K (.ref B7) (.ref DT)=some true)(g71:PySem.W.ktsIn K B7 "object"=true)(g72:PySem.W.findIn K (.ref B7) "__getattribute__"=some (some (.builtin "BaseException.__getattribute__")))(g73:PySem.W.findIn K (.ref B7) "__getattr__"=some none)(g74:PySem.W.findIn K (.ref B7) "__class__"=some (some (.builtin "object.__class__")))(q8:excIn K B8 bmV "ValueError.__new__"=true)(e8_0:kitOne K (.ref B8) (.ref B0)=some false)(e8_1:kitOne K (.ref B8) (.ref B1)=some false)(e8_2:kitOne K (.ref B8) (.ref B2)=some false)(e8_3:kitOne K (.ref B8) (.ref B3)=some false)(e8_4:kitOne K (.ref B8) (.ref B4)=some false)(e8_5:kitOne K (.ref B8) (.ref B5)=some false)(e8_6:kitOne K (.ref B8) (.ref B6)=some false)(e8_7:kitOne K (.ref B8) (.ref B7)=some false)(e8_8:kitOne K (.ref B8) (.ref B8)=some true)(e8_9:kitOne K (.ref B8) (.ref B9)=some false)(e8_10:kitOne K (.ref B8) (.ref B10)=some false)(e8_11:kitOne K (.ref B8) (.ref B11)=some false)(v8:kitOne K (.ref B8) (.type "ValueError")=some true)(s8:subIn K (.ref B8) (.ref DT)=some true)(g81:PySem.W.ktsIn K B8 "object"=true)(g82:PySem.W.findIn K (.ref B8) "__getattribute__"=some (some (.builtin "BaseException.__getattribute__")))(g83:PySem.W.findIn K (.ref B8) "__getattr__"=some none)(g84:PySem.W.findIn K (.ref B8) "__class__"=some (some (.builtin "object.__class__")))(q9:excIn K B9 bmV "ValueError.__new__"=true)(e9_0:kitOne K (.ref B9) (.ref B0)=some false)(e9_1:kitOne K (.ref B9) (.ref B1)=some false)(e9_2:kitOne K (.ref B9) (.ref B2)=some false)(e9_3:kitOne K (.ref B9) (.ref B3)=some false)(e9_4:kitOne K (.ref B9) (.ref B4)=some false)(e9_5:kitOne K (.ref B9) (.ref B5)=some false)(e9_6:kitOne K (.ref B9) (.ref B6)=some false)(e9_7:kitOne K (.ref B9) (.ref B7)=some false)(e9_8:kitOne K (.ref B9) (.ref B8)=some false)(e9_9:kitOne K (.ref B9) (.ref B9)=some true)(e9_10:kitOne K (.ref B9) (.ref B10)=some false)(e9_11:kitOne K (.ref B9) (.ref B11)=some false)(v9:kitOne K (.ref B9) (.type "ValueError")=some true)(s9:subIn K (.ref B9) (.ref DT)=some true)(g91:PySem.W.ktsIn K B9 "object"=true)(g92:PySem.W.findIn K (.ref B9) "__getattribute__"=some (some (.builtin "BaseException.__getattribute__")))(g93:PySem.W.findIn K (.ref B9) "__getattr__"=some none)(g94:PySem.W.findIn K (.ref B9) "__class__"=some (some (.builtin "object.__class__")))(q11:excIn K B11 bmV "ValueError.__new__"=true)(e11_0:kitOne K (.ref B11) (.ref B0)=some false)(e11_1:kitOne K (.ref B11) (.ref B1)=some false)(e11_2:kitOne K (.ref B11) (.ref B2)=some false)(e11_3:kitOne K (.ref B11) (.ref B3)=some false)(e11_4:kitOne K (.ref B11) (.ref B4)=some false)(e11_5:kitOne K (.ref B11) (.ref B5)=some false)(e11_6:kitOne K (.ref B11) (.ref B6)=some false)(e11_7:kitOne K (.ref B11) (.ref B7)=some false)(e11_8:kitOne K (.ref B11) (.ref B8)=some false)(e11_9:kitOne K (.ref B11) (.ref B9)=some false)(e11_10:kitOne K (.ref B11) (.ref B10)=some false)(e11_11:kitOne K (.ref B11) (.ref B11)=some true)(v11:kitOne K (.ref B11) (.type "ValueError")=some true)(s11:subIn K (.ref B11) (.ref DT)=some true)(g111:PySem.W.ktsIn K B11 "object"=true)(g112:PySem.W.findIn K (.ref B11) "__getattribute__"=some (some (.builtin "BaseException.__getattribute__")))(g113:PySem.W.findIn K (.ref B11) "__getattr__"=some none)(g114:PySem.W.findIn K (.ref B11) "__class__"=some (some (.builtin "object.__class__")))(aLedger:nsIn K mainGlobals "Ledger"=some (some (.ref OLedger)))(pgLedger:plainGet K OLedger empty=true)(hdLedger:hasDictIn K OLedger=true)(poLedger:plainOver K OLedger=true)(saLedger:PySem.W.findIn K (.ref OLedger) "__setattr__"=some (some (.builtin "object.__setattr__")))(mkLedger:makesIn K OLedger=true)(kcLedger:keepIn K (.ref OLedger)=true)(naLedger0:PySem.W.findIn K (.ref OLedger) "first_tree"=some none)(naLedger1:PySem.W.findIn K (.ref OLedger) "tree"=some none)(naLedger2:PySem.W.findIn K (.ref OLedger) "tag_trees"=some none)(naLedger3:PySem.W.findIn K (.ref OLedger) "past"=some none)(naLedger4:PySem.W.findIn K (.ref OLedger) "ahead"=some none):
  ∃fd:FuncData,(∀(s:Shared)(v:Value),BindsTo s fd ⟨[v],[]⟩ [("_law_script",v)])∧∀base:Heap,K.In base→base.Ns mainGlobals mg→BmB base mg→FnOk l.prog w K mg base CX0 10 fa fd ["_law_script"] (qH PL PC K):=by
 have e:=hfa.symm.trans (mg_of X G a40);cases e;have T:Txt mg:=⟨mg_none_of X G z1,mg_none_of X G z2,mg_none_of X G z3,mg_none_of X G z4,mg_none_of X G z5,mg_none_of X G z6,mg_none_of X G z7,mg_none_of X G z8,mg_none_of X G z9,mg_none_of X G z10,mg_none_of X G z11,mg_none_of X G z12,mg_none_of X G z13,mg_none_of X G z14,mg_none_of X G z15,mg_none_of X G z16,mg_none_of X G z17,mg_none_of X G z18,mg_none_of X G z19,⟨_,mg_of X G v1t⟩,⟨_,mg_of X G v2t⟩,⟨_,mg_of X G v3t⟩⟩
 let B:Nat→Addr:=λi=>match i with | 0=>B0 | 1=>B1 | 2=>B2 | 3=>B3 | 4=>B4 | 5=>B5 | 6=>B6 | 7=>B7 | 8=>B8 | 9=>B9 | 10=>B10 | _=>B11
 have L:Clss12 mg K B DT:=⟨λi hi=>match i,hi with | 0,_=>mg_of X G x0 | 1,_=>mg_of X G x1 | 2,_=>mg_of X G x2 | 3,_=>mg_of X G x3 | 4,_=>mg_of X G x4 | 5,_=>mg_of X G x5 | 6,_=>mg_of X G x6 | 7,_=>mg_of X G x7 | 8,_=>mg_of X G x8 | 9,_=>mg_of X G x9 | 10,_=>mg_of X G x10 | 11,_=>mg_of X G x11,mg_of X G xD,gD⟩
 have O0:One12 K B DT 0:=⟨by decide,(by show XI.eE K B0=true;unfold XI.eE;rw[g01,g02,g03,g04];rfl),λj hj=>match j,hj with | 0,_=>e0_0 | 1,_=>e0_1 | 2,_=>e0_2 | 3,_=>e0_3 | 4,_=>e0_4 | 5,_=>e0_5 | 6,_=>e0_6 | 7,_=>e0_7 | 8,_=>e0_8 | 9,_=>e0_9 | 10,_=>e0_10 | 11,_=>e0_11,v0,s0⟩
 have O1:One12 K B DT 1:=⟨by decide,(by show XI.eE K B1=true;unfold XI.eE;rw[g11,g12,g13,g14];rfl),λj hj=>match j,hj with | 0,_=>e1_0 | 1,_=>e1_1 | 2,_=>e1_2 | 3,_=>e1_3 | 4,_=>e1_4 | 5,_=>e1_5 | 6,_=>e1_6 | 7,_=>e1_7 | 8,_=>e1_8 | 9,_=>e1_9 | 10,_=>e1_10 | 11,_=>e1_11,v1,s1⟩
 have O2:One12 K B DT 2:=⟨by decide,(by show XI.eE K B2=true;unfold XI.eE;rw[g21,g22,g23,g24];rfl),λj hj=>match j,hj with | 0,_=>e2_0 | 1,_=>e2_1 | 2,_=>e2_2 | 3,_=>e2_3 | 4,_=>e2_4 | 5,_=>e2_5 | 6,_=>e2_6 | 7,_=>e2_7 | 8,_=>e2_8 | 9,_=>e2_9 | 10,_=>e2_10 | 11,_=>e2_11,v2,s2⟩
 have O5:One12 K B DT 5:=⟨by decide,(by show XI.eE K B5=true;unfold XI.eE;rw[g51,g52,g53,g54];rfl),λj hj=>match j,hj with | 0,_=>e5_0 | 1,_=>e5_1 | 2,_=>e5_2 | 3,_=>e5_3 | 4,_=>e5_4 | 5,_=>e5_5 | 6,_=>e5_6 | 7,_=>e5_7 | 8,_=>e5_8 | 9,_=>e5_9 | 10,_=>e5_10 | 11,_=>e5_11,v5,s5⟩
 have O7:One12 K B DT 7:=⟨by decide,(by show XI.eE K B7=true;unfold XI.eE;rw[g71,g72,g73,g74];rfl),λj hj=>match j,hj with | 0,_=>e7_0 | 1,_=>e7_1 | 2,_=>e7_2 | 3,_=>e7_3 | 4,_=>e7_4 | 5,_=>e7_5 | 6,_=>e7_6 | 7,_=>e7_7 | 8,_=>e7_8 | 9,_=>e7_9 | 10,_=>e7_10 | 11,_=>e7_11,v7,s7⟩
 have O8:One12 K B DT 8:=⟨by decide,(by show XI.eE K B8=true;unfold XI.eE;rw[g81,g82,g83,g84];rfl),λj hj=>match j,hj with | 0,_=>e8_0 | 1,_=>e8_1 | 2,_=>e8_2 | 3,_=>e8_3 | 4,_=>e8_4 | 5,_=>e8_5 | 6,_=>e8_6 | 7,_=>e8_7 | 8,_=>e8_8 | 9,_=>e8_9 | 10,_=>e8_10 | 11,_=>e8_11,v8,s8⟩
 have O9:One12 K B DT 9:=⟨by decide,(by show XI.eE K B9=true;unfold XI.eE;rw[g91,g92,g93,g94];rfl),λj hj=>match j,hj with | 0,_=>e9_0 | 1,_=>e9_1 | 2,_=>e9_2 | 3,_=>e9_3 | 4,_=>e9_4 | 5,_=>e9_5 | 6,_=>e9_6 | 7,_=>e9_7 | 8,_=>e9_8 | 9,_=>e9_9 | 10,_=>e9_10 | 11,_=>e9_11,v9,s9⟩
 have O11:One12 K B DT 11:=⟨by decide,(by show XI.eE K B11=true;unfold XI.eE;rw[g111,g112,g113,g114];rfl),λj hj=>match j,hj with | 0,_=>e11_0 | 1,_=>e11_1 | 2,_=>e11_2 | 3,_=>e11_3 | 4,_=>e11_4 | 5,_=>e11_5 | 6,_=>e11_6 | 7,_=>e11_7 | 8,_=>e11_8 | 9,_=>e11_9 | 10,_=>e11_10 | 11,_=>e11_11,v11,s11⟩
 have O:∀wd,One12 K B DT (bw wd):=λwd=>match wd with | .inside=>O0 | .known=>O1 | .noNode=>O5 | .notFile=>O7 | .notFolder=>O8 | .taken=>O11
 have TLedger:LCls K mg OLedger:=⟨⟨pgLedger,hdLedger,poLedger,saLedger⟩,naLedger0,naLedger1,naLedger2,naLedger3,naLedger4,mg_of X G aLedger⟩;have MkLedger:Mk K OLedger f14:=⟨mkLedger,a14,i14,kcLedger⟩;have M_Ledger___init__:Meth K OLedger "__init__" f14:=⟨a14,i14,F14.kp⟩;have b_Ledger___init__:aG K d14 ["self","tree"] []:=fb2 F14;have M_Ledger_now:Meth K OLedger "now" f15:=⟨a15,i15,F15.kp⟩;have b_Ledger_now:aG K d15 ["self"] []:=fb1 F15;have M_Ledger_sizes:Meth K OLedger "sizes" f16:=⟨a16,i16,F16.kp⟩;have b_Ledger_sizes:aG K d16 ["self"] []:=fb1 F16;have M_Ledger_steps:Meth K OLedger "steps" f17:=⟨a17,i17,F17.kp⟩;have b_Ledger_steps:aG K d17 ["self"] []:=fb1 F17;have M_Ledger_tags:Meth K OLedger "tags" f18:=⟨a18,i18,F18.kp⟩;have b_Ledger_tags:aG K d18 ["self"] []:=fb1 F18;have M_Ledger_go_on:Meth K OLedger "go_on" f19:=⟨a19,i19,F19.kp⟩;have b_Ledger_go_on:aG K d19 ["self","step","tree","tag_trees"] []:=fb4 F19;have M_Ledger_do:Meth K OLedger "do" f20:=⟨a20,i20,F20.kp⟩;have b_Ledger_do:aG K d20 ["self","deed"] []:=fb2 F20;have M_Ledger_tagged:Meth K OLedger "tagged" f21:=⟨a21,i21,F21.kp⟩;have b_Ledger_tagged:aG K d21 ["self","name"] []:=fb2 F21;have M_Ledger_tag:Meth K OLedger "tag" f22:=⟨a22,i22,F22.kp⟩;have b_Ledger_tag:aG K d22 ["self","name"] []:=fb2 F22;have M_Ledger_pass_over:Meth K OLedger "pass_over" f23:=⟨a23,i23,F23.kp⟩;have b_Ledger_pass_over:aG K d23 ["self","source","target"] []:=fb3 F23;have M_Ledger_back:Meth K OLedger "back" f24:=⟨a24,i24,F24.kp⟩;have b_Ledger_back:aG K d24 ["self"] []:=fb1 F24;have M_Ledger_forth:Meth K OLedger "forth" f25:=⟨a25,i25,F25.kp⟩;have b_Ledger_forth:aG K d25 ["self"] []:=fb1 F25;have M_Ledger_twin:Meth K OLedger "twin" f26:=⟨a26,i26,F26.kp⟩;have b_Ledger_twin:aG K d26 ["self"] []:=fb1 F26;have hb:∀(s:Shared)(v:Value),BindsTo s d40 ⟨[v],[]⟩ [("_law_script",v)]:=by
  obtain⟨_,_,_,_,_,_,_,_,_,e,_,_⟩:=F40.ex;subst e;exact λs v=>.of_eq rfl
 have all:∀base:Heap,K.In base→BmB base mg→(Has l.prog w K mg base 3 "_law_tree" ["_law_script","_law_at","_law_most"] (io K))∧(Has l.prog w K mg base 2 "_law_pick" ["_law_script","_law_k","_law_many"] (dW K))∧(Has l.prog w K mg base 4 "_law_step" ["_law_script","_law_at","_law_tree_here"] (dY K))∧(Has l.prog w K mg base 3 "_law_behind" ["_law_now","_law_step_here"] gw)∧(Has l.prog w K mg base 3 "_law_all_of" ["_law_ledger"] (iQ OLedger))∧(FnOk l.prog w K mg base CX0 1 f14 d14 ["self","tree"] (iG OLedger))∧(FnOk l.prog w K mg base CX0 1 f17 d17 ["self"] (jU OLedger))∧(FnOk l.prog w K mg base CX0 1 f16 d16 ["self"] (iH OLedger))∧(FnOk l.prog w K mg base (CX1 l.prog w) 2 f22 d22 ["self","name"] (gM OLedger (B 9)))∧(FnOk l.prog w K mg base (CX1 l.prog w) 5 f20 d20 ["self","deed"] (nN OLedger λwd=>B (bw wd)))∧(FnOk l.prog w K mg base (CX1 l.prog w) 2 f24 d24 ["self"] (im OLedger (B 2)))∧(FnOk l.prog w K mg base (CX1 l.prog w) 2 f25 d25 ["self"] (ka OLedger (B 2)))∧(FnOk l.prog w K mg base CX0 3 f26 d26 ["self"] (nT OLedger)):=λbase KB Bm=>by
  let H:=Has l.prog w K mg base
  let HX:=ff l.prog w K mg base
  have OB:jI "NoBack" mg base (B 2):=gg KB (mg_of X G x2) q2;have OG:jI "NoTag" mg base (B 9):=gg KB (mg_of X G x9) q9;have W6:vo mg base (λwd=>B (bw wd)):=λwd=>match wd with | .inside=>gg KB (mg_of X G x0) q0 | .known=>gg KB (mg_of X G x1) q1 | .noNode=>gg KB (mg_of X G x5) q5 | .notFile=>gg KB (mg_of X G x7) q7 | .notFolder=>gg KB (mg_of X G x8) q8 | .taken=>gg KB (mg_of X G x11) q11
  have C_is_name:H 1 "is_name" ["thing"] jd:=fh X G F1 a1 (fb1 F1) (tV F1 T);have C_numbers_inside:H 1 "numbers_inside" ["nodes","folder"] qm:=fh X G F2 a2 (fb2 F2) (xq F2 T);have C_by_number:H 1 "by_number" ["tree"] jM:=fh X G F3 a3 (fb1 F3) (xr F3 T);have C_node_of:HX 1 "node_of" ["nodes","number"] (jN (B 5)):=fhX X G F4 a4 (fb2 F4) (xt F4 (W6 .noNode));have C_check_folder:HX 2 "check_folder" ["nodes","number"] (qq (B 5) (B 8)):=fhX X G F5 a5 (fb2 F5) (xv F5 T (W6 .notFolder) C_node_of);have C_below:HX 2 "below" ["tree","number"] (qp (B 5)):=fhX X G F6 a6 (fb2 F6) (xu F6 T C_by_number C_node_of C_numbers_inside);have C_check_place:HX 1 "check_place" ["tree","number","parent","name"] (nF (B 11)):=fhX X G F7 a7 (fb4 F7) (xw F7 (W6 .taken));have C_with_node:H 1 "with_node" ["tree","changed"] jO:=fh X G F8 a8 (fb2 F8) (vp F8 T);have C_make:HX 3 "make" ["tree","number","parent","name","stamp"] (oN λwd=>B (bw wd)):=fhX X G F9 a9 (fb5 F9) (vq F9 T W6 C_by_number C_check_folder C_check_place);have C_write:HX 2 "write" ["tree","number","stamp"] (lP λwd=>B (bw wd)):=fhX X G F10 a10 (fb3 F10) (tO F10 W6 C_by_number C_node_of C_with_node);have C_move:HX 3 "move" ["tree","number","parent","name"] (oO λwd=>B (bw wd)):=fhX X G F11 a11 (fb4 F11) (vt F11 W6 C_by_number C_node_of C_check_folder C_below C_check_place C_with_node);have C_drop:HX 3 "drop" ["tree","number"] (oQ λwd=>B (bw wd)):=fhX X G F12 a12 (fb2 F12) (vw F12 T C_by_number C_node_of C_below);have C_done:HX 4 "done" ["tree","deed"] (oR λwd=>B (bw wd)):=fhX X G F13 a13 (fb2 F13) (vx F13 C_make C_write C_move C_drop);have G_Ledger___init__:FnOk l.prog w K mg base CX0 1 f14 d14 ["self","tree"] (iG OLedger):=vA F14 TLedger;have G_Ledger_now:FnOk l.prog w K mg base CX0 1 f15 d15 ["self"] (oW OLedger):=vB F15 TLedger;have G_Ledger_sizes:FnOk l.prog w K mg base CX0 1 f16 d16 ["self"] (iH OLedger):=vC F16 T TLedger;have G_Ledger_steps:FnOk l.prog w K mg base CX0 1 f17 d17 ["self"] (jU OLedger):=vE F17 TLedger;have G_Ledger_tags:FnOk l.prog w K mg base CX0 1 f18 d18 ["self"] (lR OLedger):=tU F18 T TLedger;have G_Ledger_go_on:FnOk l.prog w K mg base CX0 1 f19 d19 ["self","step","tree","tag_trees"] (qv OLedger):=xO F19 TLedger;have G_Ledger_do:FnOk l.prog w K mg base (CX1 l.prog w) 5 f20 d20 ["self","deed"] (nN OLedger λwd=>B (bw wd)):=xP F20 TLedger C_done M_Ledger_go_on G_Ledger_go_on b_Ledger_go_on;have G_Ledger_tagged:FnOk l.prog w K mg base CX0 2 f21 d21 ["self","name"] (oY OLedger):=vG F21 TLedger C_is_name;have G_Ledger_tag:FnOk l.prog w K mg base (CX1 l.prog w) 2 f22 d22 ["self","name"] (gM OLedger (B 9)):=vH F22 T TLedger OG C_is_name M_Ledger_go_on G_Ledger_go_on b_Ledger_go_on;have G_Ledger_pass_over:FnOk l.prog w K mg base (CX1 l.prog w) 1 f23 d23 ["self","source","target"] (qy OLedger (B 2)):=xT F23 TLedger OB;have G_Ledger_back:FnOk l.prog w K mg base (CX1 l.prog w) 2 f24 d24 ["self"] (im OLedger (B 2)):=tW F24 TLedger M_Ledger_pass_over G_Ledger_pass_over b_Ledger_pass_over;have G_Ledger_forth:FnOk l.prog w K mg base (CX1 l.prog w) 2 f25 d25 ["self"] (ka OLedger (B 2)):=rP F25 TLedger M_Ledger_pass_over G_Ledger_pass_over b_Ledger_pass_over;have G_Ledger_twin:FnOk l.prog w K mg base CX0 3 f26 d26 ["self"] (nT OLedger):=yk F26 T TLedger MkLedger G_Ledger___init__ b_Ledger___init__;have C__law_cell:H 1 "_law_cell" ["_law_script","_law_k"] (pj K):=fh X G F27 a27 (fb2 F27) (vM F27 T);have C__law_pick:H 2 "_law_pick" ["_law_script","_law_k","_law_many"] (dW K):=fh X G F28 a28 (fb3 F28) (vN F28 T C__law_cell);have C__law_tree:H 3 "_law_tree" ["_law_script","_law_at","_law_most"] (io K):=fh X G F29 a29 (fb3 F29) (uf F29 T C__law_pick);have C__law_book:H 1 "_law_book" ["_law_tree_here"] pi:=fh X G F30 a30 (fb1 F30) (vJ F30 T);have C__law_under:H 1 "_law_under" ["_law_book_here","_law_number","_law_goal"] jX:=fh X G F31 a31 (fb3 F31) (xW F31);have C__law_done:H 2 "_law_done" ["_law_tree_here","_law_deed_here"] lU:=fh X G F32 a32 (fb2 F32) (ud F32 T C__law_book C__law_under);have C__law_deed:H 3 "_law_deed" ["_law_script","_law_at","_law_tree_here"] (pk K):=fh X G F33 a33 (fb3 F33) (vO F33 T C__law_pick);have C__law_step:H 4 "_law_step" ["_law_script","_law_at","_law_tree_here"] (dY K):=fh X G F34 a34 (fb3 F34) (vP F34 C__law_pick C__law_deed);have C__law_behind:H 3 "_law_behind" ["_law_now","_law_step_here"] gw:=fh X G F35 a35 (fb2 F35) (xZ F35 T C__law_done);have C__law_all_of:H 3 "_law_all_of" ["_law_ledger"] (iQ OLedger):=fh X G F36 a36 (fb1 F36) (xU F36 T TLedger M_Ledger_now G_Ledger_now b_Ledger_now M_Ledger_tags G_Ledger_tags b_Ledger_tags M_Ledger_tagged G_Ledger_tagged b_Ledger_tagged);exact⟨C__law_tree,C__law_pick,C__law_step,C__law_behind,C__law_all_of,G_Ledger___init__,G_Ledger_steps,G_Ledger_sizes,G_Ledger_tag,G_Ledger_do,G_Ledger_back,G_Ledger_forth,G_Ledger_twin⟩
 refine⟨d40,hb,λbase KB _ Bm=>?_⟩;obtain⟨C__law_tree,C__law_pick,C__law_step,C__law_behind,C__law_all_of,G_Ledger___init__,G_Ledger_steps,G_Ledger_sizes,G_Ledger_tag,G_Ledger_do,G_Ledger_back,G_Ledger_forth,G_Ledger_twin⟩:=all base KB Bm;have C__law_did:Has l.prog w K mg base 8 "_law_did" ["_law_ledger","_law_step_here"] (ip PC OLedger (B 9) DT (λwd=>B (bw wd)) B K):=fh X G F39 a39 (fb2 F39) (yh F39 kC ⟨KB,T,codeHd_of_K KB eC,Bm,F38,mg_of X G a38,fb1 F38,F37,mg_of X G a37,fb1 F37,L⟩ TLedger M_Ledger_tag b_Ledger_tag M_Ledger_do b_Ledger_do (λb k m=>⟨(all b k m).2.2.2.2.2.2.2.2.1,(all b k m).2.2.2.2.2.2.2.2.2.1⟩));exact ym F40 kL ⟨⟨KB,T,codeHd_of_K KB eL,Bm,F38,mg_of X G a38,fb1 F38,F37,mg_of X G a37,fb1 F37,L⟩,symm nPC,TLedger,O9,O2,O,C__law_pick,C__law_step,C__law_behind,C__law_did,C__law_all_of,M_Ledger_back,b_Ledger_back,(λb k m=>(all b k m).2.2.2.2.2.2.2.2.2.2.1),M_Ledger_forth,b_Ledger_forth,G_Ledger_forth,M_Ledger_sizes,G_Ledger_sizes,b_Ledger_sizes,M_Ledger_steps,G_Ledger_steps,b_Ledger_steps,M_Ledger_tag,G_Ledger_tag,b_Ledger_tag,M_Ledger_twin,G_Ledger_twin,b_Ledger_twin⟩ MkLedger G_Ledger___init__ b_Ledger___init__ C__law_tree
theorem walk{l:PySem.W.OpenLaw}{q:Program}{loose:List Str}{XP:(Str→Option Value)→Heap→Prop}{YP:World→Heap→Prop}{d:DefRec}{K:Params→PySem.W.Frag}(PL PC:Addr)(hn:l.most=some 63)(hdf:d.params.defaults=[])(hY:∀(w:World) (h:Heap),YP w h→(K w.params).In h){ts:List Addr}(hT:∀(w:World) (h:Heap),YP w h→∀t∈ts,h.get? t=some (tabObj #[]))(mL:PL∈ts)(cL:Addr)(eL:∀w:World,codeHdIn (K w.params) cL PL=true)(nL:∀w:World,(K w.params).lookup PL=none)(mC:PC∈ts)(cC:Addr)(eC:∀w:World,codeHdIn (K w.params) cC PC=true)(nC:∀w:World,(K w.params).lookup PC=none)(F:∀(w:World) (mg:Str→Option Value) (fa:Addr) (h:Heap),(K w.params).In h→h.Ns mainGlobals mg→mg d.name=some (.ref fa) →
   ∃fd:FuncData,(∀(s:Shared) (u:Value),BindsTo s fd ⟨[u],[]⟩ [("_law_script",u)])∧∀base:Heap,(K w.params).In base→base.Ns mainGlobals mg→BmB base mg→FnOk l.prog w (K w.params) mg base CX0 10 fa fd ["_law_script"] (qH PL PC (K w.params))):
  PySem.W.WalkO q loose XP YP l.row.toRowW d [] (λf vs=>PySem.call f vs) :=
 L2.ut (tabs:=[PL,PC]) (n:=63) (k:=10) (x:="_law_script") (sp:=λw=>qH PL PC (K w.params)) hn (by decide) hdf ⟨rfl,by decide,by decide⟩ hY
  (λw h Y=>forall_mem_cons.mpr ⟨hT w h Y _ mL,forall_mem_cons.mpr ⟨hT w h Y _ mC,λ_ h=>nomatch h⟩⟩)
  (λw=>forall_mem_cons.mpr ⟨⟨⟨cL,eL w⟩,nL w⟩,forall_mem_cons.mpr ⟨⟨⟨cC,eC w⟩,nC w⟩,λ_ h=>nomatch h⟩⟩)
  F (λw H a ns hl hS hT=>⟨a,ns,rfl,hS,hl,hT PL (by simp),hT PC (by simp),λ_=>rfl⟩)
end TK
end
open PySem PySem.W PyProof.Rows
def PySem.W.Fast.tw13991371199784876587:Unit:=()
def PySem.W.Fast.tw3636258365237235910:Unit:=()
def PySem.W.Fast.tw4164311769324133719:Unit:=()
def PySem.W.Fast.tw1973668345837517254:Unit:=()
def PySem.W.Fast.tw11888530620594244245:Unit:=()
def PySem.W.Fast.tw3558882468464227671:Unit:=()
def PySem.W.Fast.tw8634550320822617044:Unit:=()
def PySem.W.Fast.tw6044114749905329818:Unit:=()
def PySem.W.Fast.tw12144723651743437100:Unit:=()
def PySem.W.Fast.tw3238652743246431570:Unit:=()
def PySem.W.Fast.tw14551318910250812519:Unit:=()
def PySem.W.Fast.tw10902663929808183146:Unit:=()
def PySem.W.Fast.tw17204590365729146791:Unit:=()
def PySem.W.Fast.tw13250046475120943324:Unit:=()
def PySem.W.Fast.tw11113264794051011547:Unit:=()
def PySem.W.Fast.tw1641382224282454753:Unit:=()
def PySem.W.Fast.tw9034315660263807487:Unit:=()
def PySem.W.Fast.tw2367822941732071447:Unit:=()
def PySem.W.Fast.tw3192349654040734769:Unit:=()
def PySem.W.Fast.tw4941968101004822054:Unit:=()
def PySem.W.Fast.tw17006122640060463048:Unit:=()
def PySem.W.Fast.tw1322193235223204023:Unit:=()
def PySem.W.Fast.tw623125389259558969:Unit:=()
def PySem.W.Fast.tw4733936551035603187:Unit:=()
def PySem.W.Fast.tw15864672916274206044:Unit:=()
def PySem.W.Fast.tw294021352440633040:Unit:=()
def PySem.W.Fast.tw2892888276011486747:Unit:=()
def PySem.W.Fast.tw760334945902916131:Unit:=()
def PySem.W.Fast.tw11811977376332617990:Unit:=()
def PySem.W.Fast.tw15019646242889396177:Unit:=()
def PySem.W.Fast.tw7683559144907926433:Unit:=()
def PySem.W.Fast.tw1541070222434275500:Unit:=()
def PySem.W.Fast.tw10424774727266496313:Unit:=()
def PySem.W.Fast.tw9382710950542790601:Unit:=()
def PySem.W.Fast.tw9207381234698348974:Unit:=()
def PySem.W.Fast.tw11723869008120012189:Unit:=()
def PySem.W.Fast.tw13297601865243131780:Unit:=()
def PySem.W.Fast.tw5682548000053751910:Unit:=()
def PySem.W.Fast.tw1170498590748644003:Unit:=()
def PySem.W.Fast.tw18354502798734561086:Unit:=()
def PySem.W.Fast.tw5255400327802122191:Unit:=()
def PySem.W.Fast.tw17013685377898757516:Unit:=()
def PySem.W.Fast.tw8463351979128194333:Unit:=()
def PySem.W.Fast.tw12346393315955976001:Unit:=()
def PySem.W.Fast.tw1538109175544624217:Unit:=()
def PySem.W.Fast.tw14872286643824723490:Unit:=()
def PySem.W.Fast.tw427229852530626854:Unit:=()
def PySem.W.Fast.tw7676173576057926483:Unit:=()
def PySem.W.Fast.tw6034727920949861623:Unit:=()
def PySem.W.Fast.tw2963616835242350188:Unit:=()
def PySem.W.Fast.tw13458826071652144648:Unit:=()
def PySem.W.Fast.tw16614731113389245255:Unit:=()
def PySem.W.Fast.tw16422538100085058541:Unit:=()
def PySem.W.Fast.tw17164130004743468676:Unit:=()
def PySem.W.Fast.tw508983316437989469:Unit:=()
def PySem.W.Fast.tw5232695690262494840:Unit:=()
def PySem.W.Fast.tw2663434652692952121:Unit:=()
set_option maxRecDepth 100000 in
set_option maxHeartbeats 0 in
theorem PySem.Challenge.cw_treewatch_k86_whole_ledger_twins_holds : PySem.Challenge.rw_treewatch_k86_whole_ledger_twins.Holds := by
 w_on; o_law; k_head; (case hw=>w_witness2)
 k_fill
 refine TK.walk (l:=PySem.Challenge.rw_treewatch_k86_whole_ledger_twins) 468 456 rfl rfl (λw h Y=>PySem.W.km_in_of Y) (λw h Y=>PySem.W.km_tabs_of Y) (by decide) 472 (λw=>by kernel_rfl) (λw=>by kernel_rfl) (by decide) 460 (λw=>by kernel_rfl) (λw=>by kernel_rfl) ?F
 case F =>
  intro w mg fa h KX G hmg
  refine' TK.yn KX G hmg ?a1 ?F1 ?a2 ?F2 ?a3 ?F3 ?a4 ?F4 ?a5 ?F5 ?a6 ?F6 ?a7 ?F7 ?a8 ?F8 ?a9 ?F9 ?a10 ?F10 ?a11 ?F11 ?a12 ?F12 ?a13 ?F13 ?a14 ?i14 ?F14 ?a15 ?i15 ?F15 ?a16 ?i16 ?F16 ?a17 ?i17 ?F17 ?a18 ?i18 ?F18 ?a19 ?i19 ?F19 ?a20 ?i20 ?F20 ?a21 ?i21 ?F21 ?a22 ?i22 ?F22 ?a23 ?i23 ?F23 ?a24 ?i24 ?F24 ?a25 ?i25 ?F25 ?a26 ?i26 ?F26 ?a27 ?F27 ?a28 ?F28 ?a29 ?F29 ?a30 ?F30 ?a31 ?F31 ?a32 ?F32 ?a33 ?F33 ?a34 ?F34 ?a35 ?F35 ?a36 ?F36 ?a37 ?F37 ?a38 ?F38 ?a39 ?F39 ?a40 ?F40 ?z1 ?z2 ?z3 ?z4 ?z5 ?z6 ?z7 ?z8 ?z9 ?z10 ?z11 ?z12 ?z13 ?z14 ?z15 ?z16 ?z17 ?z18 ?z19 ?v1t ?v2t ?v3t ?kL ?eL ?kC ?eC ?nPC ?xD ?gD ?x0 ?x1 ?x2 ?x3 ?x4 ?x5 ?x6 ?x7 ?x8 ?x9 ?x10 ?x11 ?q0 ?e0_0 ?e0_1 ?e0_2 ?e0_3 ?e0_4 ?e0_5 ?e0_6 ?e0_7 ?e0_8 ?e0_9 ?e0_10 ?e0_11 ?v0 ?s0 ?g01 ?g02 ?g03 ?g04 ?q1 ?e1_0 ?e1_1 ?e1_2 ?e1_3 ?e1_4 ?e1_5 ?e1_6 ?e1_7 ?e1_8 ?e1_9 ?e1_10 ?e1_11 ?v1 ?s1 ?g11 ?g12 ?g13 ?g14 ?q2 ?e2_0 ?e2_1 ?e2_2 ?e2_3 ?e2_4 ?e2_5 ?e2_6 ?e2_7 ?e2_8 ?e2_9 ?e2_10 ?e2_11 ?v2 ?s2 ?g21 ?g22 ?g23 ?g24 ?q5 ?e5_0 ?e5_1 ?e5_2 ?e5_3 ?e5_4 ?e5_5 ?e5_6 ?e5_7 ?e5_8 ?e5_9 ?e5_10 ?e5_11 ?v5 ?s5 ?g51 ?g52 ?g53 ?g54 ?q7 ?e7_0 ?e7_1 ?e7_2 ?e7_3 ?e7_4 ?e7_5 ?e7_6 ?e7_7 ?e7_8 ?e7_9 ?e7_10 ?e7_11 ?v7 ?s7 ?g71 ?g72 ?g73 ?g74 ?q8 ?e8_0 ?e8_1 ?e8_2 ?e8_3 ?e8_4 ?e8_5 ?e8_6 ?e8_7 ?e8_8 ?e8_9 ?e8_10 ?e8_11 ?v8 ?s8 ?g81 ?g82 ?g83 ?g84 ?q9 ?e9_0 ?e9_1 ?e9_2 ?e9_3 ?e9_4 ?e9_5 ?e9_6 ?e9_7 ?e9_8 ?e9_9 ?e9_10 ?e9_11 ?v9 ?s9 ?g91 ?g92 ?g93 ?g94 ?q11 ?e11_0 ?e11_1 ?e11_2 ?e11_3 ?e11_4 ?e11_5 ?e11_6 ?e11_7 ?e11_8 ?e11_9 ?e11_10 ?e11_11 ?v11 ?s11 ?g111 ?g112 ?g113 ?g114 ?aLedger ?pgLedger ?hdLedger ?poLedger ?saLedger ?mkLedger ?kcLedger ?naLedger0 ?naLedger1 ?naLedger2 ?naLedger3 ?naLedger4
  (case aLedger=>k_is)
  (case a1|a2|a3|a4|a5|a6|a7|a8|a9|a10|a11|a12|a13=>unfold TK.gA; k_is)
  (case F1|F2|F3|F4|F5|F6|F7|F8|F9|F10|F11|F12|F13=>apply L2.cH <;> k_is)
  (case a14|i14=>k_is)
  (case F14=>apply L2.cH <;> k_is)
  (case a15|i15=>k_is)
  (case F15=>apply L2.cH <;> k_is)
  (case a16|i16=>k_is)
  (case F16=>apply L2.cH <;> k_is)
  (case a17|i17=>k_is)
  (case F17=>apply L2.cH <;> k_is)
  (case a18|i18=>k_is)
  (case F18=>apply L2.cH <;> k_is)
  (case a19|i19=>k_is)
  (case F19=>apply L2.cH <;> k_is)
  (case a20|i20=>k_is)
  (case F20=>apply L2.cH <;> k_is)
  (case a21|i21=>k_is)
  (case F21=>apply L2.cH <;> k_is)
  (case a22|i22=>k_is)
  (case F22=>apply L2.cH <;> k_is)
  (case a23|i23=>k_is)
  (case F23=>apply L2.cH <;> k_is)
  (case a24|i24=>k_is)
  (case F24=>apply L2.cH <;> k_is)
  (case a25|i25=>k_is)
  (case F25=>apply L2.cH <;> k_is)
  (case a26|i26=>k_is)
  (case a27|a28|a29|a30|a31|a32|a33|a34|a35|a36|a37|a38|a39|a40=>unfold TK.gA; k_is)
  (case F26|F27|F28|F29|F30|F31|F32|F33|F34|F35|F36|F37|F38|F39|F40=>apply L2.cH <;> k_is)
  (case z1|z2|z3|z4|z5|z6|z7|z8|z9|z10|z11|z12|z13|z14|z15|z16|z17|z18|z19=>unfold TK.gN; k_is)
  (case v1t|v2t|v3t=>k_is)
  (case kL=>exact rfl)
  (case eL=>kernel_rfl)
  (case kC=>exact rfl)
  (case eC=>kernel_rfl)
  (case nPC=>decide)
  (case xD=>k_is)
  (case gD=>kts_isx)
  (case x0|x1|x2|x3|x4|x5|x6|x7|x8|x9|x10|x11=>k_is)
  (case q0=>k_exc)
  (case e0_0|e0_1|e0_2|e0_3|e0_4|e0_5|e0_6|e0_7|e0_8|e0_9|e0_10|e0_11|v0=>kit_is)
  (case s0=>k_is)
  (case g01=>kts_isx)
  (case g02|g03|g04=>k_is)
  (case q1=>k_exc)
  (case e1_0|e1_1|e1_2|e1_3|e1_4|e1_5|e1_6|e1_7|e1_8|e1_9|e1_10|e1_11|v1=>kit_is)
  (case s1=>k_is)
  (case g11=>kts_isx)
  (case g12|g13|g14=>k_is)
  (case q2=>k_exc)
  (case e2_0|e2_1|e2_2|e2_3|e2_4|e2_5|e2_6|e2_7|e2_8|e2_9|e2_10|e2_11|v2=>kit_is)
  (case s2=>k_is)
  (case g21=>kts_isx)
  (case g22|g23|g24=>k_is)
  (case q5=>k_exc)
  (case e5_0|e5_1|e5_2|e5_3|e5_4|e5_5|e5_6|e5_7|e5_8|e5_9|e5_10|e5_11|v5=>kit_is)
  (case s5=>k_is)
  (case g51=>kts_isx)
  (case g52|g53|g54=>k_is)
  (case q7=>k_exc)
  (case e7_0|e7_1|e7_2|e7_3|e7_4|e7_5|e7_6|e7_7|e7_8|e7_9|e7_10|e7_11|v7=>kit_is)
  (case s7=>k_is)
  (case g71=>kts_isx)
  (case g72|g73|g74=>k_is)
  (case q8=>k_exc)
  (case e8_0|e8_1|e8_2|e8_3|e8_4|e8_5|e8_6|e8_7|e8_8|e8_9|e8_10|e8_11|v8=>kit_is)
  (case s8=>k_is)
  (case g81=>kts_isx)
  (case g82|g83|g84=>k_is)
  (case q9=>k_exc)
  (case e9_0|e9_1|e9_2|e9_3|e9_4|e9_5|e9_6|e9_7|e9_8|e9_9|e9_10|e9_11|v9=>kit_is)
  (case s9=>k_is)
  (case g91=>kts_isx)
  (case g92|g93|g94=>k_is)
  (case q11=>k_exc)
  (case e11_0|e11_1|e11_2|e11_3|e11_4|e11_5|e11_6|e11_7|e11_8|e11_9|e11_10|e11_11|v11=>kit_is)
  (case s11=>k_is)
  (case g111=>kts_isx)
  (case g112|g113|g114|pgLedger|hdLedger|poLedger|saLedger|mkLedger|kcLedger|naLedger0|naLedger1|naLedger2|naLedger3|naLedger4=>k_is)
