import PyProof.Rows.All
import Wide.All
import OpenK.AllK
import Wide.FinOn
import Lean
import PyProof.EqAt
import PyProof.EqKinds
import PyProof.TupleCall
import PyProof.CompFree
import PyProof.AttrMissHeap
import PySem.SetTable
import PyProof.SetScanFacts
import PyProof.TupleKey
import PyProof.SetKind
import PyProof.IsRules
import PyProof.SetRoads
import PyProof.InstSpecial
import PyProof.Rows.SetFrom
import KE.KSortTup
import PyProof.StrWalks
import PyProof.EnumMake
import PyProof.ConsumeWalk
import PyProof.ListRange
import PyProof.NeKinds
import PyProof.ZipIter
import PyProof.StationsW
import PyProof.Rows.Catch
import KE.KTryDeep
import OpenK.KOwn
import PyProof.RulesAs
import PyProof.NsDelKeeps
import PyProof.ExcArgsOwn
import PyProof.ExcAttrAll.ValueError
import KE.KIsAll
import OpenK.KNot
import PyProof.IsiH_list
import PyProof.Rows.FStr
import KE.KDictOf
import PyProof.DictIter
import PyProof.DictWalks
import PyProof.Rows.DictUnroll
import KE.KRevIter
import KE.KDictList
import PyProof.CollectIter
import PyProof.TupleOfGen
import KE.KSortKey
import PyProof.FactsAll.NoneType_1
import PyProof.CompUse
import PyProof.Rows.FStrParts
import KE.KLam
import KE.KMinKey
import PySem.Challenge.RW_treewatch_k14_whole_seen_and_cut
set_option Elab.async false
set_option linter.all false
set_option maxRecDepth 100000
set_option maxHeartbeats 8000000
open PySem.W (methodObj hideAll hideAll_get of_hideAll keepIn callWith_K cellsFrom_some fnOf codeIn codeRec_of KatLex kat_cons kat_yes KatTups kat_kind kat_lt kat_no kat_lt_int Looks kat_nil kat_one KdlSrc subIn ktsIn excIn nsIn mg_of mg_none_of)
open PyProof.Rows (boot_tuple boot_dict boot_sorted boot_sum boot_max boot_int)
open PySem.F (slot_tuple_add entry_tuple_add args_tuple_add_2 slot_dict_pop slot_dict_get plainAttrs_dict slot_dict_keyiterator_next plain_list_iadd called_tuple plainAttrs_list slot_list_pop type_list_pop entry_max_loop plain_max_loop kind_max plain_max entry_max)
open List (mem_filter mem_range filterMap_cons mem_cons_self mem_cons_of_mem mem_cons mem_append mem_append_left getElem_inj mem_filterMap mem_append_right size_toArray append_nil nodup_cons of_mem_zip length length_take getElem?_append_left getElem?_map take_sublist mem_of_getElem? length_append length_map length_replicate length_drop map_nil map_cons any_cons length_singleton find?_cons length_cons length_nil filter_cons length_filter_le Pairwise forIn_cons forIn_nil not_mem_nil all_eq_true pairwise_iff_getElem pairwise_cons mem_iff_getElem mem_map filterMap_cons_none filterMap_cons_some length_range nodup_range append_assoc filter_cons_of_neg filter_cons_of_pos filter_sublist map_map getElem?_eq_getElem getElem_map map_take map_drop perm_middle getD_eq_getElem?_getD ext_getElem? getElem?_range getElem?_eq_none getElem_mem map_congr_left nodup_nil Nodup toArray find?_eq_none find?_some any_map any_eq_true range' length_eq_zero_iff take_succ map_append take_length not_lt filter_congr pairwise_map filter_map Sublist map_id nil_append take_of_length_le map_eq_nil_iff sum_cons)
open Array (replicate length_toList toList getElem?_toList getD_eq_getD_getElem? toList_inj forIn_toList size_map isEmpty)
open Nat (lt_of_lt_of_le lt_irrefl ne_of_lt le_trans le_of_lt ne_of_gt le_refl zero_le le_succ lt_trans le_of_eq lt_of_le_of_lt lt_succ_of_lt zero_add mod_lt lt_or_ge le_add_right min_self)
open Option (getD_none map_some isSome_map)
open Bool (and_eq_true false_eq_true or_eq_true)
open Int (mul_one toNat_natCast emod_nonneg toNat)
open PySem.Heap (lt_size SameBut get?_push_of_some get?_push_size get?_update_other size_push get?_push_ne get?_update_ne get?_update_self NewExcOf ExtBut IsTuple HeldW FlyingW)
open PySem.Calls (Constant_str spliced_nil spliced_cons callWith_builtin evalArgs_plain)
open PySem.SeqAt (EqAt eq_tupleAt eq_listAt RcAt RcNeAt)
open PySem (boot_len)
open PySem.Str (ofString empty)
open Ne (symm)
noncomputable section
namespace L2
open PySem PySem.Spec PyProof.Rows
abbrev Key:=Sum Int Str
def iX:Key→Value→Bool
 |.inl k,v=>Value.isInt k v
 |.inr x,v=>Value.isStrOf x v
def Ay(w:World):Key→Int
 |.inl k=>hashInt k
 |.inr x=>hashStr w x
theorem aN:∀{k:Key}{v:Value},iX k v=true→(∃i t,k=Sum.inl i∧v=Value.int i t)∨(∃x t,k=Sum.inr x∧v=Value.str x t)
 |.inl i,v,h=>by
  obtain⟨t,e⟩:=Value.isInt_shape (k:=i) (v:=v) h;exact .inl ⟨i,t,rfl,e⟩
 |.inr x,v,h=>by
  obtain⟨t,e⟩:=Value.isStrOf_shape (x:=x) (v:=v) h;exact .inr ⟨x,t,rfl,e⟩
theorem rh(i:Int)(t:Tok):iX (.inl i) (.int i t)=true:=by simp[iX,Value.isInt]
theorem ri(x:Str)(t:Tok):iX (.inr x) (.str x t)=true:=by simp[iX,Value.isStrOf]
theorem xy(a b:Int):decide ((Sum.inl a:Key)=Sum.inl b)=(a==b):=by
 by_cases e:a=b
 ·subst e;simp
 ·have h:¬(Sum.inl a:Key)=Sum.inl b:=λq=>e (Sum.inl.inj q);rw[decide_eq_false h];exact(beq_eq_false_iff_ne.mpr e).symm
theorem xz(a b:Str):decide ((Sum.inr a:Key)=Sum.inr b)=decide (a=b):=by
 by_cases e:a=b
 ·subst e;simp
 ·have h:¬(Sum.inr a:Key)=Sum.inr b:=λq=>e (Sum.inr.inj q);rw[decide_eq_false h,decide_eq_false e]
theorem xA(a:Int)(b:Str):decide ((Sum.inl a:Key)=Sum.inr b)=false:=decide_eq_false (λq=>nomatch q)
theorem xB(a:Str)(b:Int):decide ((Sum.inr a:Key)=Sum.inl b)=false:=decide_eq_false (λq=>nomatch q)
def aw(prog:Program)(w:World):PySem.KeyKind prog w Key where
 is:=iX
 hash:=Ay w
 inj:=λv a b ha hb=>by
  rcases aN ha with⟨i,t,rfl,rfl⟩|⟨x,t,rfl,rfl⟩
  ·rcases aN hb with⟨j,u,rfl,e⟩|⟨y,u,rfl,e⟩
   ·injection e with e1 _;rw[e1]
   ·exact nomatch e
  ·rcases aN hb with⟨j,u,rfl,e⟩|⟨y,u,rfl,e⟩
   ·exact nomatch e
   ·injection e with e1 _;rw[e1]
 byValue:=λk v h=>by
  rcases aN h with⟨i,t,rfl,rfl⟩|⟨x,t,rfl,rfl⟩<;>rfl
 pyHash:=λhv h=>by
  rcases aN hv with⟨i,t,rfl,rfl⟩|⟨x,t,rfl,rfl⟩
  ·exact wpAny_pyHash_int h
  ·exact wpAny_pyHash_str h
 eqBool:=λhu hv h=>by
  rcases aN hu with⟨i,t,rfl,rfl⟩|⟨x,t,rfl,rfl⟩
  ·rcases aN hv with⟨j,u,rfl,rfl⟩|⟨y,u,rfl,rfl⟩
   ·rw[xy]at h;exact wpAny_eqBool_int h
   ·rw[xA]at h;exact EqAt.int_str i t y u _ _ _ _ h
  ·rcases aN hv with⟨j,u,rfl,rfl⟩|⟨y,u,rfl,rfl⟩
   ·rw[xB]at h;exact EqAt.str_int x t j u _ _ _ _ h
   ·rw[xz]at h;exact wpAny_eqBool_str h
 «strs»:=λk x t v h=>by
  rcases aN h with⟨i,u,rfl,e⟩|⟨y,u,rfl,e⟩
  ·exact nomatch e
  ·injection e with e1 _
   subst e1;cases v<;>rfl
theorem ng(prog:Program)(w:World)(i:Int)(t:Tok):(aw prog w).is (.inl i) (.int i t)=true:=rh i t
theorem nh(prog:Program)(w:World)(x:Str)(t:Tok):(aw prog w).is (.inr x) (.str x t)=true:=ri x t
inductive V where
 |non|bl (b:Bool)|int (i:Int)|str (x:Str)|byt (b:Array UInt8)|flt (b:UInt64)|ref (a:Addr)|ty (n:String)
 deriving DecidableEq
def aH:V→Value→Prop
 |.non,u=>u=Value.none
 |.bl b,u=>u=Value.bool b
 |.int i,u=>∃t,u=Value.int i t
 |.str x,u=>∃t,u=Value.str x t
 |.byt b,u=>∃t,u=Value.bytes b t
 |.flt b,u=>∃t,u=Value.float b t
 |.ref a,u=>u=Value.ref a
 |.ty n,u=>u=Value.type n
abbrev ar:List V→List Value→Prop:=Paired aH
theorem ar.length{xs:List V}{us:List Value}(r:ar xs us):xs.length=us.length:=Paired.length r
theorem ar.get:∀{xs:List V}{us:List Value}{i:Nat}{x:V},ar xs us→xs[i]?=some x→∃u,us[i]?=some u∧aH x u
 |_,_,_,_,.nil,e=>by simp at e
 |_,_,0,_,.cons r _,e=>by simp at e;subst e;exact⟨_,rfl,r⟩
 |_,_,i+1,x,.cons _ t,e=>by
  obtain⟨u,h1,h2⟩:=ar.get (i:=i) (x:=x) t (by simpa using e);exact⟨u,by simpa using h1,h2⟩
theorem ar.append:∀{xs ys:List V}{us ws:List Value},ar xs us→ar ys ws→ar (xs++ys) (us++ws)
 |_,_,_,_,.nil,s=>s
 |_,_,_,_,.cons r t,s=>.cons r (ar.append t s)
theorem ar.take:∀{xs:List V}{us:List Value}(n:Nat),ar xs us→ar (xs.take n) (us.take n)
 |_,_,0,_=>.nil
 |_,_,_+1,.nil=>.nil
 |_,_,n+1,.cons r t=>.cons r (ar.take n t)
theorem ar.drop:∀{xs:List V}{us:List Value}(n:Nat),ar xs us→ar (xs.drop n) (us.drop n)
 |_,_,0,r=>r
 |_,_,_+1,.nil=>.nil
 |_,_,n+1,.cons _ t=>ar.drop n t
def eY:Option V→Option Value→Prop
 |some v,some u=>aH v u
 |none,none=>True
 |_,_=>False
def KV{κ:Type}:List (κ×V)→List (κ×Value)→Prop:=Paired λ(p:κ×V) (q:κ×Value)=>p.1=q.1∧aH p.2 q.2
def kV:Key→V
 |.inl i=>.int i
 |.inr x=>.str x
inductive HO where
 |lst (xs:List V)
 |tup (xs:List V)
 |dK (kvs:List (Key×V))|dT (kvs:List (List Key×V))
 |set (S:Int→Bool) (n:Nat)
 |ins (C dx:Addr) (fs:List (Str×V))
 |own (x:Addr)
 |xd (fs:List (Str×V))
 |met (f x:Addr)
 |rng (lo hi:Int)
 |frz (o:Obj) (u:HO)
 |tbl (ps:Array Value)
 |ext (φ:Heap→Prop)
abbrev Hp:=Addr→Option HO
def upd(H:Hp)(a:Addr)(o:HO):Hp:=λb=>if b=a then some o else H b
theorem ac{H:Hp}{a:Addr}{o:HO}:upd H a o a=some o:=by unfold upd;rw[if_pos rfl]
theorem al{H:Hp}{a b:Addr}{o:HO}(h:b≠a):upd H a o b=H b:=by unfold upd;rw[if_neg h]
theorem zt{H:Hp}{a b:Addr}{o u:HO}(h:H a=some o)(h':H b=some u)(d:o≠u):a≠b:=by
 intro e;subst e;rw[h]at h';exact d (Option.some.inj h')
theorem bV{H:Hp}{a b:Addr}{o:HO}(h:H a=some o)(h':H b=none):a≠b:=by
 intro e;subst e;rw[h]at h';cases h'
section
variable(P:Program)(w:World)
def bA(H:Hp)(h:Heap)(a:Addr):HO→Prop
 |.lst xs=>xs.length≤sizeLine∧∃(its:List Value) (n:Nat),ar xs its∧h.get? a=some {cls:=.type "list",data:=.seq its.toArray n}
 |.tup xs=>xs.length≤sizeLine∧∃its:List Value,ar xs its∧IsTup h a its.toArray
 |.dK kvs=>kvs.length≤sizeLine∧(a==sysModules)=false∧∃vs,KV kvs vs∧h.DictOf (aw P w) a vs
 |.dT kvs=>kvs.length≤sizeLine∧(a==sysModules)=false∧∃xs:List (List Key×Addr×Value),
   Paired (λ(p:List Key×V) (q:List Key×Addr×Value)=>p.1=q.1∧H q.2.1=some (.tup (p.1.map kV))∧aH p.2 q.2.2) kvs xs ∧
   ∃o es ep,h.get? a=some o∧o.ExactDict∧o.data=.dict es ep∧es.toList=xs.map (entryOfKey (tupleKind (aw P w)))∧(xs.map (·.1)).Nodup
 |.set S n=>h.SetOf (intKind P w) a S n
 |.ins C dx fs=>H dx=some (.own a)∧fs.length≤1000∧dx≠a∧h.get? a=some (PySem.W.instObj C dx) ∧
   ∃mA,h.Ns1 dx mA∧(∀f,eY (fs.lookup f) (mA f))∧PySem.Within mA (fs.map (·.1))
 |.own _=>∃o,h.get? a=some o
 |.xd fs=>∃mA,h.Ns1 a mA∧∀f,eY (fs.lookup f) (mA f)
 |.rng lo hi=>∃t u v,h.get? a=some {cls:=.type "range",data:=.fields #[.int lo t,.int hi u,.int 1 v]}
 |.frz o u=>h.get? a=some o∧bA H h a u
 |.tbl ps=>h.get? a=some {cls:=.none,data:=.fields ps}
 |.met f x=>h.get? a=some (methodObj (.ref f) (.ref x))
 |.ext φ=>φ h∧(∃o,h.get? a=some o)∧∀h1 h2:Heap,φ h1→(∀o,h1.get? a=some o→h2.get? a=some o)→φ h2
def HOk(H:Hp)(h:Heap):Prop:=∀a o,H a=some o→bA P w H h a o
end
section
variable{P:Program}{w:World}{H H':Hp}{h h':Heap}{a:Addr}{o:HO}
theorem bA.lt(x:bA P w H h a o):a<h.objs.size:=by
 cases o with
 |lst xs=>obtain⟨_,_,_,_,e⟩:=x;exact lt_size e
 |tup xs=>obtain⟨_,_,_,p⟩:=x;exact p.lt
 |dK kvs=>obtain⟨_,_,_,_,o,_,_,e,_⟩:=x;exact lt_size e
 |dT kvs=>obtain⟨_,_,_,_,o,_,_,e,_⟩:=x;exact lt_size e
 |set S n=>obtain⟨o,_,_,_,e,_⟩:=x;exact lt_size e
 |ins C dx fs=>obtain⟨_,_,_,e,_⟩:=x;exact lt_size e
 |own y=>obtain⟨_,e⟩:=x;exact lt_size e
 |xd fs=>obtain⟨_,⟨_,_,_,e,_⟩,_⟩:=x;exact lt_size e
 |rng lo hi=>obtain⟨_,_,_,e⟩:=x;exact lt_size e
 |frz ob u=>obtain⟨e,_⟩:=x;exact lt_size e
 |tbl ps=>exact lt_size (show h.get? a=some _ from x)
 |met f y=>exact lt_size (show h.get? a=some _ from x)
 |ext φ=>obtain⟨_,⟨_,e⟩,_⟩:=x;exact lt_size e
theorem Paired.mapP{α β:Type}{F G:α→β→Prop}:∀{l₁:List α}{l₂:List β},Paired F l₁ l₂→(∀a b,F a b→G a b)→Paired G l₁ l₂
 |_,_,.nil,_=>.nil
 |_,_,.cons r t,f=>.cons (f _ _ r) (Paired.mapP t f)
theorem bA.stay(x:bA P w H h a o)(k:∀b u,(b=a∨H b=some (.own a))→h.get? b=some u→h'.get? b=some u)(ho:∀b,H b=some (.own a)→H' b=some (.own a))(ht:∀b xs,H b=some (.tup xs)→H' b=some (.tup xs)):bA P w H' h' a o:=by
 induction o with
 |lst xs=>obtain⟨z,its,n,r,e⟩:=x;exact⟨z,its,n,r,k _ _ (.inl rfl) e⟩
 |tup xs=>obtain⟨z,its,r,ob,e,c⟩:=x;exact⟨z,its,r,ob,k _ _ (.inl rfl) e,c⟩
 |dK kvs=>obtain⟨z,y,vs,r,ob,es,ep,e,c⟩:=x;exact⟨z,y,vs,r,ob,es,ep,k _ _ (.inl rfl) e,c⟩
 |dT kvs =>
  obtain⟨z,y,xs,r,ob,es,ep,e,c⟩:=x;exact⟨z,y,xs,Paired.mapP r λp q z=>⟨z.1,ht _ _ z.2.1,z.2.2⟩,ob,es,ep,k _ _ (.inl rfl) e,c⟩
 |set S n=>obtain⟨ob,es,ep,t,e,c⟩:=x;exact⟨ob,es,ep,t,k _ _ (.inl rfl) e,c⟩
 |ins C dx fs =>
  obtain⟨d,z,ne,e,mA,⟨od,es,ep,e2,c⟩,r⟩:=x;exact⟨ho _ d,z,ne,k _ _ (.inl rfl) e,mA,⟨od,es,ep,k _ _ (.inr d) e2,c⟩,r⟩
 |own y=>obtain⟨ob,e⟩:=x;exact⟨ob,k _ _ (.inl rfl) e⟩
 |xd fs=>obtain⟨mA,⟨od,es,ep,e,c⟩,r⟩:=x;exact⟨mA,⟨od,es,ep,k _ _ (.inl rfl) e,c⟩,r⟩
 |rng lo hi=>obtain⟨t,u,v,e⟩:=x;exact⟨t,u,v,k _ _ (.inl rfl) e⟩
 |frz ob u ih=>obtain⟨e,q⟩:=x;exact⟨k _ _ (.inl rfl) e,ih q⟩
 |tbl ps =>
  have e:h.get? a=some {cls:=.none,data:=.fields ps}:=x;show h'.get? a=some {cls:=.none,data:=.fields ps};exact k a _ (.inl rfl) e
 |met f y =>
  have e:h.get? a=some (methodObj (.ref f) (.ref y)):=x;show h'.get? a=some (methodObj (.ref f) (.ref y));exact k a _ (.inl rfl) e
 |ext φ=>obtain⟨p,⟨o,e⟩,st⟩:=x;exact⟨st _ _ p λo q=>k _ _ (.inl rfl) q,⟨o,k _ _ (.inl rfl) e⟩,st⟩
theorem HOk.lt(x:HOk P w H h)(e:H a=some o):a<h.objs.size:=(x a o e).lt
theorem HOk.fresh(x:HOk P w H h)(e:h.objs.size≤a):H a=none:=by
 cases q:H a with
 |none=>rfl
 |some u=>exact absurd (lt_of_lt_of_le (x.lt q) e) (lt_irrefl _)
theorem HOk.kept(x:HOk P w H h)(k:∀b u,h.get? b=some u→h'.get? b=some u):HOk P w H h':=λa o e =>
 (x a o e).stay (λb u _ q=>k b u q) (λ_ q=>q) λ_ _ q=>q
theorem HOk.laid(x:HOk P w H h)(k:∀b u,h.get? b=some u→h'.get? b=some u)(hp:h.objs.size≤a)(new:bA P w (upd H a o) h' a o):HOk P w (upd H a o) h':=λb u e=>by
 have hn:=x.fresh hp
 by_cases hb:b=a
 ·subst hb;rw[ac]at e;cases e;exact new
 ·rw[al hb]at e;exact(x b u e).stay (λc v _ q=>k c v q) (λc q=>by rw[al (bV q hn)];exact q) λc xs q=>by rw[al (bV q hn)];exact q
end
def Rd(H:Hp)(a:Addr)(u:HO):Prop:=H a=some u∨∃o,H a=some (.frz o u)
theorem Rd.of{H:Hp}{a:Addr}{u:HO}(h:H a=some u):Rd H a u:=.inl h
theorem Rd.ok{P:Program}{w:World}{H:Hp}{h:Heap}{a:Addr}{u:HO}(r:Rd H a u)(x:HOk P w H h):bA P w H h a u:=by
 rcases r with r|⟨o,r⟩
 ·exact x a u r
 ·obtain⟨_,q⟩:=x a _ r;exact q
def Mut:Option HO→Prop
 |some (.lst _)=>True
 |some (.dK _)=>True
 |some (.dT _)=>True
 |some (.set _ _)=>True
 |some (.ins _ _ _)=>True
 |some (.ext _)=>True
 |_=>False
section
variable{P:Program}{w:World}{H:Hp}{h h':Heap}{x e:Addr}{o':HO}
theorem HOk.write(ok:HOk P w H h)(mu:Mut (H x))(he:e=x∨H e=some (.own x))(k:∀b u,b≠e→h.get? b=some u→h'.get? b=some u)(heo:∃u,h'.get? e=some u)(new:bA P w (upd H x o') h' x o'):HOk P w (upd H x o') h':=λb u q=>by
 have nown:∀c y,H c=some (.own y)→c≠x:=λc y r z=>by subst z;rw[r]at mu;exact mu
 have ntup:∀c xs,H c=some (.tup xs)→c≠x:=λc xs r z=>by subst z;rw[r]at mu;exact mu
 by_cases hb:b=x
 ·subst hb;rw[ac]at q;cases q;exact new
 ·rw[al hb]at q
  by_cases hbe:b=e
  ·have q':H b=some (.own x):=by
    rcases he with z|z
    ·exact absurd (hbe.trans z) hb
    ·rw[hbe];exact z
   rw[q]at q';cases q';obtain⟨v,hv⟩:=heo;exact⟨v,by rw[hbe];exact hv⟩
  ·refine(ok b u q).stay (λc v hc r=>k c v ?_ r) (λc r=>by rw[al (nown c b r)];exact r) λc xs r=>by rw[al (ntup c xs r)];exact r
   rcases hc with rfl|hc
   ·exact hbe
   ·rintro rfl;rcases he with z|z
    ·exact nown c b hc z
    ·rw[hc]at z;cases z;exact hb rfl
end
structure Un(fs ex:List Addr)(H H':Hp)(h h':Heap):Prop where
 keep:∀b o,h.get? b=some o→H b=none→b∉fs→b∉ex→h'.get? b=some o
 slot:∀b o,h.get? b=some o→H b=none→b∈fs→b∉ex→∃sl,h'.get? b=some {o with slots:=sl}
 free:∀b o,h.get? b=some o→H b=none→b∉ex→H' b=none
 there:∀b o,h.get? b=some o→b∉ex→∃o',h'.get? b=some o'
 tups:∀b xs,H b=some (.tup xs)→H' b=some (.tup xs)
 frzs:∀b o u,H b=some (.frz o u)→H' b=some (.frz o u)
 tbls:∀b ps,H b=some (.tbl ps)→∃more,H' b=some (.tbl (ps++more))
section
variable{fs fs' ex ex':List Addr}{H H1 H2:Hp}{h h1 h2 h':Heap}{a x e:Addr}{o:HO}
theorem Un.any(u:Un fs ex H H1 h h1){b:Addr}{ob:Obj}(q:h.get? b=some ob)(n:H b=none)(hx:b∉ex):∃sl,h1.get? b=some {ob with slots:=sl}:=by
 by_cases hb:b∈fs
 ·exact u.slot b ob q n hb hx
 ·exact⟨ob.slots,u.keep b ob q n hb hx⟩
theorem Un.kept(k:∀b u,h.get? b=some u→h'.get? b=some u):Un fs ex H H h h' :=
 ⟨λb ob q _ _ _=>k b ob q,λb ob q _ _ _=>⟨ob.slots,k b ob q⟩,λ_ _ _ n _=>n,λb ob q _=>⟨ob,k b ob q⟩,λ_ _ q=>q,λ_ _ _ q=>q,λ_ ps q=>⟨#[],by rw[q];simp⟩⟩
theorem Un.refl:Un fs ex H H h h:=Un.kept λ_ _ q=>q
theorem Un.laid(k:∀b u,h.get? b=some u→h'.get? b=some u)(hp:h.objs.size≤a)(hn:H a=none):Un fs ex H (upd H a o) h h' where
 keep:=λb u q _ _ _=>k b u q
 slot:=λb u q _ _ _=>⟨u.slots,k b u q⟩
 free:=λb u q n _=>by rw[al (ne_of_lt (lt_of_lt_of_le (lt_size q) hp))];exact n
 there:=λb u q _=>⟨u,k b u q⟩
 tups:=λb xs q=>by rw[al (bV q hn)];exact q
 frzs:=λb u xs q=>by rw[al (bV q hn)];exact q
 tbls:=λb ps q=>⟨#[],by rw[al (bV q hn),q];simp⟩
theorem Un.write(mu:Mut (H x))(he:e=x∨H e=some (.own x))(k:∀b u,b≠e→h.get? b=some u→h'.get? b=some u)(heo:∃u,h'.get? e=some u):Un fs ex H (upd H x o) h h':=by
 have hx:∀b,H b=none→b≠x:=λb n z=>by subst z;rw[n]at mu;exact mu
 have hb:∀b,H b=none→b≠e:=λb n z=>by
  subst z;rcases he with r|r
  ·exact hx b n r
  ·rw[n]at r;cases r
 have hm:∀b u,H b=some u→¬Mut (some u)→b≠x:=λb u q nm z=>by subst z;rw[q]at mu;exact nm mu
 refine⟨λb u q n _ _=>k b u (hb b n) q,λb u q n _ _=>⟨u.slots,k b u (hb b n) q⟩,λb u q n _=>by rw[al (hx b n)];exact n,λb u q _=>?_,
  λb xs q=>by rw[al (hm b _ q λz=>z)];exact q,λb u xs q=>by rw[al (hm b _ q λz=>z)];exact q,λb ps q=>⟨#[],by rw[al (hm b _ q λz=>z),q];simp⟩⟩
 by_cases hbe:b=e
 ·subst hbe;exact heo
 ·exact⟨u,k b u hbe q⟩
end
def trk(h:Heap)(H:Hp):List Addr:=(List.range h.objs.size).filter λa=>(H a).isSome
def lG(h:Heap)(H:Hp):Heap:=hideAll h (trk h H)
theorem rj(h:Heap)(H:Hp):(lG h H).objs.size=h.objs.size:=PySem.W.hideAll_size _ _
theorem sE{h:Heap}{H:Hp}{b:Addr}{o:Obj}(e:h.get? b=some o)(n:H b=none):(lG h H).get? b=some o :=
 hideAll_get _ e λhm=>by
  have q:(H b).isSome=true:=(mem_filter.mp hm).2;rw[n]at q;simp at q
theorem vp{h:Heap}{H:Hp}{b:Addr}{o:Obj}(e:(lG h H).get? b=some o):h.get? b=some o∧H b=none:=by
 have e':h.get? b=some o:=of_hideAll (trk h H) e;refine⟨e',?_⟩;cases q:H b with
 |none=>rfl
 |some x =>
  have hm:b∈trk h H:=mem_filter.mpr ⟨mem_range.mpr (lt_size e'),by simp[q]⟩;have z:(lG h H).get? b=none:=PySem.W.hideAll_none (trk h H) hm;rw[z]at e;cases e
structure Mod(K:PySem.W.Frag)(mg:Str→Option Value)(base:Heap):Prop where
 kin:K.In base
 glob:base.Ns mainGlobals mg
 blt:∃mb,base.Ns builtinsNs mb∧∀x:Str,x≠"__name__"→mb x=bootBuiltins x
 nolimit:base.NoLimit
structure Cx where
 prog:Program
 w:World
 K:PySem.W.Frag
 mg:Str→Option Value
 base:Heap
 A:Around
 N:List Str
 s₀:Shared
 H₀:Hp
 env:Env
 outer:List Env
 stack:List Env
 ex:List Addr
 fn:Str→Bool
 calm:Bool
 pn:List (Addr×Obj)
 xe:Value→Shared→Prop
def frs(l:List Env):List Addr:=l.filterMap (·.frame)
abbrev Cx.fs(X:Cx):List Addr:=frs X.outer
def Vis(sc:Scope)(x:Str):Prop:=sc.names.lookup x=some .local∨sc.names.lookup x=some .cell∨sc.names.lookup x=some .free
def Loc(sc:Scope)(x:Str):Prop:=sc.names.lookup x=some .local∨sc.names.lookup x=some .cell
def Az(env:Env)(h:Heap)(m:Str→Option Value)(x:Str)(u:Value):Prop :=
 (env.kindOf x=some .local∧m x=some u)∨((env.kindOf x=some .cell∨env.kindOf x=some .free)∧∃c,env.cells.lookup x=some c∧h.IsCell c (some u))
structure Cx.Ok(X:Cx):Prop where
 mod:Mod X.K X.mg X.base
 kind:X.env.scope.kind=.function
 glob:X.env.globals=mainGlobals
 blt:X.env.builtins=builtinsNs
 above:X.s₀.heap.objs.size≤X.env.locals
 inj:∀x y c,X.env.cells.lookup x=some c→X.env.cells.lookup y=some c→x=y
 has:∀x,(X.env.kindOf x=some .cell∨X.env.kindOf x=some .free)→∃c,X.env.cells.lookup x=some c
 cab:∀x c,X.fn x=true→X.env.cells.lookup x=some c→X.s₀.heap.objs.size≤c
 hd:X.calm=true→X.A.handled=none
 frames:X.A.frames=some X.stack
 stk:X.stack=X.outer∨(X.stack=X.env::X.outer∧X.env.frame=some X.env.locals)
 exf:∀b∈X.ex,b≠X.env.locals∧∀x c,X.env.cells.lookup x=some c→c≠b
 bs:∀b o,X.base.get? b=some o→X.s₀.heap.get? b=some o∧X.H₀ b=none
 bsz:X.base.objs.size≤X.s₀.heap.objs.size
 noex:∀b o,X.base.get? b=some o→b∉X.ex
 exfs:∀b∈X.ex,b∉X.fs
 funs:X.s₀.heap.FunFrames X.base X.outer
 frf:∀b∈X.fs,X.H₀ b=none
structure Inv(X:Cx)(pins:List (Addr×Obj))(σ:List (Option V))(H:Hp)(s:Shared):Prop where
 ok:X.Ok
 os:s.os=X.s₀.os
 bare:AllBare s.gens
 base:Un X.fs X.ex X.H₀ H X.s₀.heap s.heap
 loc:∃m,s.heap.Ns X.env.locals m∧∀(i:Nat)(x:Str)(v:V),X.N[i]?=some x→σ[i]?=some (some v)→Vis X.env.scope x→∃u,aH v u∧Az X.env s.heap m x u
 cell:∀x c,X.env.cells.lookup x=some c→∃v,s.heap.IsCell c v
 free:H X.env.locals=none
 freeC:∀x c,X.env.cells.lookup x=some c→H c=none
 pin:∀p∈X.pn++pins,s.heap.get? p.1=some p.2∧H p.1=none∧p.1≠X.env.locals∧p.1∉X.fs∧∀v,p.2.data≠.cell v
 hok:HOk X.prog X.w H s.heap
 len:σ.length=X.N.length
section
variable{X:Cx}{pins:List (Addr×Obj)}{σ:List (Option V)}{H H':Hp}{s:Shared}{h':Heap}
theorem Cx.Ok.nofr(ok:X.Ok){b:Addr}{o:Obj}(e:X.base.get? b=some o):b∉X.fs:=λhb=>by
 have:=(ok.funs.mem hb).1;rw[e]at this;cases this
theorem Inv.bs(I:Inv X pins σ H s):∀b o,X.base.get? b=some o→s.heap.get? b=some o∧H b=none:=λb o e =>
 ⟨I.base.keep b o (I.ok.bs b o e).1 (I.ok.bs b o e).2 (I.ok.nofr e) (I.ok.noex b o e),I.base.free b o (I.ok.bs b o e).1 (I.ok.bs b o e).2 (I.ok.noex b o e)⟩
theorem Inv.bk(I:Inv X pins σ H s):∀b o,X.base.get? b=some o→s.heap.get? b=some o:=λb o e=>(I.bs b o e).1
theorem Inv.mod(I:Inv X pins σ H s):Mod X.K X.mg X.base:=I.ok.mod
theorem Inv.kIn(I:Inv X pins σ H s):X.K.In s.heap:=I.ok.mod.kin.keeps I.bk
theorem Inv.lt(I:Inv X pins σ H s):X.env.locals<s.heap.objs.size:=let⟨_,hn,_⟩:=I.loc;hn.lt
theorem Inv.sz(I:Inv X pins σ H s):X.s₀.heap.objs.size≤s.heap.objs.size:=le_trans I.ok.above (le_of_lt I.lt)
theorem Inv.nofs(I:Inv X pins σ H s){a:Addr}(h:s.heap.objs.size≤a):a∉X.fs:=λhb=>by
 obtain⟨_,o,ho,_⟩:=I.ok.funs.mem hb;exact absurd (lt_of_lt_of_le (lt_size ho) (le_trans I.sz h)) (lt_irrefl _)
theorem Inv.cne(I:Inv X pins σ H s):∀x c,X.env.cells.lookup x=some c→c≠X.env.locals:=λx c e z=>by
 obtain⟨v,o,ho,hd⟩:=I.cell x c e;obtain⟨m,⟨o',es,ep,ho',hd',_⟩,_⟩:=I.loc;rw[z,ho']at ho;cases ho;rw[hd']at hd;cases hd
theorem Inv.funs(I:Inv X pins σ H s):s.heap.FunFrames X.base X.outer:=by
 have all:∀(l:List Env),(∀b∈frs l,b∈X.fs)→X.s₀.heap.FunFrames X.base l→s.heap.FunFrames X.base l:=by
  intro l
  induction l with
  |nil=>intro _ _;trivial
  |cons env r ih =>
   intro hs hl;obtain⟨hk,⟨L,o,hf,hn,ho,hd⟩,hr⟩:=hl;have hL:L∈X.fs:=hs L (by unfold frs;rw[filterMap_cons,hf];exact mem_cons_self);obtain⟨sl,e⟩:=I.base.slot L o ho (I.ok.frf L hL) hL λz=>I.ok.exfs L z hL;exact⟨hk,⟨L,_,hf,hn,e,hd⟩,ih (λb hb=>hs b (by unfold frs;rw[filterMap_cons,hf];exact mem_cons_of_mem _ hb)) hr⟩
 exact all X.outer (λ_ hb=>hb) I.ok.funs
theorem Inv.stack(I:Inv X pins σ H s):s.heap.FunFrames X.base X.stack:=by
 rcases I.ok.stk with e|⟨e,hf⟩
 ·rw[e];exact I.funs
 ·rw[e];obtain⟨m,hn,_⟩:=I.loc;refine .cons (by rw[I.ok.kind];decide) hf hn ?_ I.funs;exact Heap.get?_none_of_le (le_trans I.ok.bsz I.ok.above)
theorem Inv.stkSub(I:Inv X pins σ H s):∀b∈frs X.stack,b∈X.env.locals::X.fs:=λb hb=>by
 rcases I.ok.stk with e|⟨e,hf⟩
 ·rw[e]at hb;exact mem_cons_of_mem _ hb
 ·rw[e]at hb;unfold frs at hb;rw[filterMap_cons,hf]at hb;exact hb
theorem Inv.stkFree(I:Inv X pins σ H s):∀b∈frs X.stack,H b=none:=λb hb=>by
 rcases mem_cons.mp (I.stkSub b hb)with e|hb
 ·rw[e];exact I.free
 ·obtain⟨_,o,ho,_⟩:=I.ok.funs.mem hb;exact I.base.free b o ho (I.ok.frf b hb) λz=>I.ok.exfs b z hb
theorem Inv.step{g':Array GenState}{t':Nat}{d':Drawn}{ch:List Addr}(I:Inv X pins σ H s)(hch:∀b∈ch,(b∈X.ex∨X.s₀.heap.objs.size≤b)∧b≠X.env.locals∧(∀x c,X.env.cells.lookup x=some c→c≠b)∧∀p∈X.pn++pins,p.1≠b)(keep:∀b o,b≠X.env.locals→b∉X.fs→b∉ch→s.heap.get? b=some o→H b=none→h'.get? b=some o)(slot:∀b o,b≠X.env.locals→b∈X.fs→b∉ch→s.heap.get? b=some o→H b=none→∃sl,h'.get? b=some {o with slots:=sl})(free:∀b o,b∉ch→s.heap.get? b=some o→H b=none→H' b=none)(there:∀b o,b∉ch→s.heap.get? b=some o→∃o',h'.get? b=some o')(tups:∀b xs,H b=some (.tup xs)→H' b=some (.tup xs))(frzs:∀b o u,H b=some (.frz o u)→H' b=some (.frz o u))(tbls:∀b ps,H b=some (.tbl ps)→∃more,H' b=some (.tbl (ps++more)))(ns:∀m,s.heap.Ns X.env.locals m→h'.Ns X.env.locals m)(hok:HOk X.prog X.w H' h')(hg:AllBare g'):
  Inv X pins σ H' {s with heap:=h',gens:=g',drawn:=d',toks:=t'}:=by
 have neL:∀b o,X.s₀.heap.get? b=some o→b≠X.env.locals:=λb o e=>ne_of_lt (lt_of_lt_of_le (lt_size e) I.ok.above);have neC:∀b o,X.s₀.heap.get? b=some o→b∉X.ex→b∉ch:=λb o e hx hb=>by
  rcases (hch b hb).1 with z|z
  ·exact hx z
  ·exact absurd (lt_of_lt_of_le (lt_size e) z) (lt_irrefl _)
 have cellK:∀x c,X.env.cells.lookup x=some c→∀v,s.heap.IsCell c v→h'.IsCell c v:=λx c e v ⟨o,ho,hd⟩=>by
  have nch:c∉ch:=λz=>(hch c z).2.2.1 x c e rfl
  by_cases hc:c∈X.fs
  ·obtain⟨sl,q⟩:=slot c o (I.cne x c e) hc nch ho (I.freeC x c e);exact⟨_,q,hd⟩
  ·exact⟨o,keep c o (I.cne x c e) hc nch ho (I.freeC x c e),hd⟩
 refine⟨I.ok,I.os,hg,⟨λb o e n hb hx=>?_,λb o e n hb hx=>?_,λb o e n hx=>?_,λb o e hx=>?_,λb xs e=>tups b xs (I.base.tups b xs e),λb o xs e=>frzs b o xs (I.base.frzs b o xs e),λb ps e=>?_⟩,?_,λx c e=>?_,?_,λx c e=>?_,λp hp=>?_,hok,I.len⟩
 ·exact keep b o (neL b o e) hb (neC b o e hx) (I.base.keep b o e n hb hx) (I.base.free b o e n hx)
 ·obtain⟨sl,e1⟩:=I.base.slot b o e n hb hx;obtain⟨sl',e2⟩:=slot b _ (neL b o e) hb (neC b o e hx) e1 (I.base.free b o e n hx);exact⟨sl',e2⟩
 ·obtain⟨o',e1⟩:=I.base.there b o e hx;exact free b o' (neC b o e hx) e1 (I.base.free b o e n hx)
 ·obtain⟨o',e1⟩:=I.base.there b o e hx;exact there b o' (neC b o e hx) e1
 ·obtain⟨m1,e1⟩:=I.base.tbls b ps e;obtain⟨m2,e2⟩:=tbls b _ e1;exact⟨m1++m2,by rw[e2,Array.append_assoc]⟩
 ·obtain⟨m,hn,hl⟩:=I.loc;refine⟨m,ns m hn,λi x v e1 e2 e3=>?_⟩;obtain⟨u,r,l⟩:=hl i x v e1 e2 e3;refine⟨u,r,?_⟩;rcases l with l|⟨k,c,e,z⟩
  ·exact .inl l
  ·exact .inr ⟨k,c,e,cellK x c e _ z⟩
 ·obtain⟨v,z⟩:=I.cell x c e;exact⟨v,cellK x c e v z⟩
 ·obtain⟨m,⟨o,_,_,ho,_⟩,_⟩:=I.loc;exact free _ o (λz=>(hch _ z).2.1 rfl) ho I.free
 ·obtain⟨v,o,ho,hd⟩:=I.cell x c e;exact free c o (λz=>(hch c z).2.2.1 x c e rfl) ho (I.freeC x c e)
 ·obtain⟨e,n,ne,nf,d⟩:=I.pin p hp;have nch:p.1∉ch:=λz=>(hch p.1 z).2.2.2 p hp rfl;exact⟨keep p.1 p.2 ne nf nch e n,free p.1 p.2 nch e n,ne,nf,d⟩
theorem Inv.un{t':Nat}(I:Inv X pins σ H s)(u:Un X.fs [] H H' s.heap h')(hok:HOk X.prog X.w H' h'):Inv X pins σ H' {s with heap:=h',toks:=t'}:=by
 obtain⟨m,⟨o,es,ep,ho,r⟩,_⟩:=id I.loc;obtain⟨sl,hL⟩:=u.any ho I.free (by simp);exact I.step (g':=s.gens) (d':=s.drawn) (ch:=[]) (λ_ z=>nomatch z) (λb o _ hb _ e n=>u.keep b o e n hb (by simp)) (λb o _ hb _ e n=>u.slot b o e n hb (by simp)) (λb o _ e n=>u.free b o e n (by simp)) (λb o _ e=>u.there b o e (by simp)) u.tups u.frzs u.tbls (λm' hm=>by
  obtain⟨o',es',ep',ho',r'⟩:=hm;rw[ho]at ho';cases ho';exact⟨_,es',ep',hL,r'⟩) hok I.bare
theorem Inv.call{g':Array GenState}{t':Nat}{d':Drawn}{ch:List Addr}(I:Inv X pins σ H s)(u:Un (frs X.stack) ch H H' s.heap h')(hok:HOk X.prog X.w H' h')(hg:AllBare g')(hch:∀b∈ch,(b∈X.ex∨X.s₀.heap.objs.size≤b)∧b≠X.env.locals∧(∀x c,X.env.cells.lookup x=some c→c≠b)∧∀p∈X.pn++pins,p.1≠b):
  Inv X pins σ H' {s with heap:=h',gens:=g',drawn:=d',toks:=t'}:=by
 obtain⟨m,⟨o,es,ep,ho,r⟩,_⟩:=id I.loc;obtain⟨sl,hL⟩:=u.any ho I.free λz=>(hch _ z).2.1 rfl;exact I.step (ch:=ch) hch (λb o hL hb hc e n=>u.keep b o e n (λz=>(mem_cons.mp (I.stkSub b z)).elim hL hb) hc) (λb o _ _ hc e n=>u.any e n hc) (λb o hc e n=>u.free b o e n hc) (λb o hc e=>u.there b o e hc) u.tups u.frzs u.tbls (λm' hm=>by
  obtain⟨o',es',ep',ho',r'⟩:=hm;rw[ho]at ho';cases ho';exact⟨_,es',ep',hL,r'⟩) hok hg
theorem Inv.turned{t':Nat}{it:Addr}(I:Inv X pins σ H s)(k:∀b o,b≠it→s.heap.get? b=some o→h'.get? b=some o)(hn:H it=none)(hL:it≠X.env.locals)(h1:it∈X.ex∨X.s₀.heap.objs.size≤it)(h2:∀x c,X.env.cells.lookup x=some c→c≠it)(h3:∀p∈X.pn++pins,p.1≠it):Inv X pins σ H {s with heap:=h',toks:=t'}:=by
 have nit:∀b u,H b=some u→b≠it:=λb u e z=>by rw[z,hn]at e;cases e
 refine I.step (g':=s.gens) (d':=s.drawn) (ch:=[it]) (λb hb=>?_) (λb o _ _ hc e _=>k b o (λz=>hc (by simp[z])) e) (λb o _ _ hc e _=>⟨o.slots,k b o (λz=>hc (by simp[z])) e⟩) (λ_ _ _ _ n=>n)
  (λb o hc e=>⟨o,k b o (λz=>hc (by simp[z])) e⟩) (λ_ _ e=>e) (λ_ _ _ e=>e) (λb ps e=>⟨#[],by rw[e];simp⟩) (λm hm=>?_) (λb u e=>?_) I.bare
 ·have e:b=it:=by simpa using hb
  subst e;exact⟨h1,hL,h2,h3⟩
 ·obtain⟨o,es,ep,ho,r⟩:=hm;exact⟨o,es,ep,k _ o (symm hL) ho,r⟩
 ·refine(I.hok b u e).stay (λc v hc q=>k c v ?_ q) (λ_ q=>q) λ_ _ q=>q;rcases hc with z|z
  ·rw[z];exact nit b u e
  ·exact nit c _ z
theorem Inv.tok(I:Inv X pins σ H s)(t:Nat):Inv X pins σ H {s with toks:=t}:=I.un (h':=s.heap) (t':=t) Un.refl I.hok
theorem Inv.kept{t':Nat}(I:Inv X pins σ H s)(k:∀b u,s.heap.get? b=some u→h'.get? b=some u):Inv X pins σ H {s with heap:=h',toks:=t'}:=I.un (Un.kept k) (I.hok.kept k)
theorem Inv.laid{a:Addr}{o:HO}{t':Nat}(I:Inv X pins σ H s)(k:∀b u,s.heap.get? b=some u→h'.get? b=some u)(hp:s.heap.objs.size≤a)(new:bA X.prog X.w (upd H a o) h' a o):
  Inv X pins σ (upd H a o) {s with heap:=h',toks:=t'}:=I.un (Un.laid k hp (I.hok.fresh hp)) (I.hok.laid k hp new)
theorem Inv.write{x e:Addr}{o:HO}{t':Nat}(I:Inv X pins σ H s)(mu:Mut (H x))(he:e=x∨H e=some (.own x))(k:∀b u,b≠e→s.heap.get? b=some u→h'.get? b=some u)(heo:∃u,h'.get? e=some u)(new:bA X.prog X.w (upd H x o) h' x o):Inv X pins σ (upd H x o) {s with heap:=h',toks:=t'}:=I.un (Un.write mu he k heo) (I.hok.write mu he k heo new)
theorem Inv.pins_of{pins':List (Addr×Obj)}(I:Inv X pins σ H s)(h:∀p∈pins',s.heap.get? p.1=some p.2∧H p.1=none∧p.1≠X.env.locals∧p.1∉X.fs∧∀v,p.2.data≠.cell v):Inv X pins' σ H s :=
 ⟨I.ok,I.os,I.bare,I.base,I.loc,I.cell,I.free,I.freeC,λp hp=>(mem_append.mp hp).elim (λz=>I.pin p (mem_append_left _ z)) (h p),I.hok,I.len⟩
theorem nk{N:List Str}(hN:N.Nodup){i j:Nat}{x:Str}(a:N[i]?=some x)(b:N[j]?=some x):i=j:=by
 obtain⟨h1,e1⟩:=List.getElem?_eq_some_iff.mp a;obtain⟨h2,e2⟩:=List.getElem?_eq_some_iff.mp b;exact(getElem_inj hN).mp (e1.trans e2.symm)
theorem kA{M:Model}{A:Around}{E:Value→Shared→Prop}{i:Nat}{x:Str}{v:V}{u:Value}{Q:Unit→Shared→Prop}(I:Inv X pins σ H s)(hN:X.N.Nodup)(hi:X.N[i]?=some x)(hx:Loc X.env.scope x)(r:aH v u)(h:∀s',Inv X pins (σ.set i (some v)) H s'→(∃a,SameBut a s.heap s'.heap∧(a=X.env.locals∨X.env.cells.lookup x=some a))→Q () s')(hf:X.fn x=true∨X.env.scope.names.lookup x=some .local:=by first|exact .inl rfl|exact .inr rfl|assumption):wpAny M A (storeName X.env x u) Q E s:=by
 obtain⟨m,hn,hl⟩:=id I.loc;have hcls:(X.env.scope.kind==.class||(X.env.scope.kind==.module&&X.env.locals != X.env.globals))=false:=by rw[I.ok.kind];rfl
 have hiσ:i<σ.length:=by rw[I.len];exact(List.getElem?_eq_some_iff.mp hi).1
 have cne:=I.cne;have tracked:∀{a:Addr}{h':Heap},(∃o,s.heap.get? a=some o∧H a=none)→SameBut a s.heap h'→HOk X.prog X.w H h':=λ{a h'} ha hs b ob e=>by
  obtain⟨_,_,hfree⟩:=ha;refine(I.hok b ob e).stay (λc w' hc q=>(hs.2 c ?_).trans q) (λ_ q=>q) λ_ _ q=>q;rintro rfl;rcases hc with rfl|hc
  ·rw[hfree]at e;cases e
  ·rw[hfree]at hc;cases hc
 rcases hx with hk|hk
 ·refine wpAny_storeName_local hk hn (λh' hn' hs=>?_) hcls;obtain⟨oL,_,_,hoL,_⟩:=id hn;refine h _ ⟨I.ok,I.os,I.bare,⟨λb o e n hb hx=>?_,λb o e n hb hx=>?_,I.base.free,λb o e hx=>?_,I.base.tups,I.base.frzs,I.base.tbls⟩,⟨_,hn',λj y v' e1 e2 e3=>?_⟩,λy c e=>?_,I.free,I.freeC,λp hp=>?_,tracked ⟨oL,hoL,I.free⟩ hs,by simpa using I.len⟩ ⟨_,hs,.inl rfl⟩
  ·exact(hs.2 b (ne_of_lt (lt_of_lt_of_le (lt_size e) I.ok.above))).trans (I.base.keep b o e n hb hx)
  ·obtain⟨sl,e1⟩:=I.base.slot b o e n hb hx;exact⟨sl,(hs.2 b (ne_of_lt (lt_of_lt_of_le (lt_size e) I.ok.above))).trans e1⟩
  ·obtain⟨o',e1⟩:=I.base.there b o e hx;exact⟨o',(hs.2 b (ne_of_lt (lt_of_lt_of_le (lt_size e) I.ok.above))).trans e1⟩
  ·by_cases hj:j=i
   ·subst hj;rw[hi]at e1;cases e1;rw[List.getElem?_set_self hiσ]at e2;cases e2;exact⟨u,r,.inl ⟨hk,by simp⟩⟩
   ·rw[List.getElem?_set_ne (symm hj)]at e2;obtain⟨u',r',q⟩:=hl j y v' e1 e2 e3;refine⟨u',r',?_⟩;rcases q with⟨k,e⟩|⟨k,c,e,z⟩
    ·refine .inl ⟨k,?_⟩;have:y≠x:=λe=>hj (nk hN e1 (e ▸ hi));simp[this,e]
    ·exact .inr ⟨k,c,e,z.sameBut hs (cne y c e)⟩
  ·obtain⟨w',z⟩:=I.cell y c e;exact⟨w',z.sameBut hs (cne y c e)⟩
  ·obtain⟨e,n,ne,nf,d⟩:=I.pin p hp;exact⟨(hs.2 p.1 ne).trans e,n,ne,nf,d⟩
 ·have hfn:X.fn x=true:=by
   rcases hf with z|z
   ·exact z
   ·rw[z]at hk;cases hk
  obtain⟨c,hc⟩:=I.ok.has x (.inl hk);obtain⟨w',z⟩:=I.cell x c hc;refine wpAny_storeName_cell I.ok.kind hk hc z (λh' hc' hs=>?_);obtain⟨oc,hoc,hocd⟩:=id z;refine h {s with heap:=h'} ⟨I.ok,I.os,I.bare,⟨λb o e n hb hx=>?_,λb o e n hb hx=>?_,I.base.free,λb o e hx=>?_,I.base.tups,I.base.frzs,I.base.tbls⟩,⟨m,hn.sameBut hs (symm (cne x c hc)),λj y v' e1 e2 e3=>?_⟩,λy c' e=>?_,I.free,I.freeC,λp hp=>?_,tracked ⟨oc,hoc,I.freeC x c hc⟩ hs,by simpa using I.len⟩ ⟨c,hs,.inr hc⟩
  ·exact(hs.2 b (ne_of_lt (lt_of_lt_of_le (lt_size e) (I.ok.cab x c hfn hc)))).trans (I.base.keep b o e n hb hx)
  ·obtain⟨sl,e1⟩:=I.base.slot b o e n hb hx;exact⟨sl,(hs.2 b (ne_of_lt (lt_of_lt_of_le (lt_size e) (I.ok.cab x c hfn hc)))).trans e1⟩
  ·obtain⟨o',e1⟩:=I.base.there b o e hx;exact⟨o',(hs.2 b (ne_of_lt (lt_of_lt_of_le (lt_size e) (I.ok.cab x c hfn hc)))).trans e1⟩
  ·by_cases hj:j=i
   ·subst hj;rw[hi]at e1;cases e1;rw[List.getElem?_set_self hiσ]at e2;cases e2;exact⟨u,r,.inr ⟨.inl hk,c,hc,hc'⟩⟩
   ·rw[List.getElem?_set_ne (symm hj)]at e2;obtain⟨u',r',q⟩:=hl j y v' e1 e2 e3;refine⟨u',r',?_⟩;rcases q with q|⟨k,c',e,z'⟩
    ·exact .inl q
    ·refine .inr ⟨k,c',e,z'.sameBut hs ?_⟩;rintro rfl;exact hj (nk hN e1 (I.ok.inj _ _ _ e hc ▸ hi))
  ·by_cases hcc:c'=c
   ·subst hcc;exact⟨_,hc'⟩
   ·obtain⟨w2,z2⟩:=I.cell y c' e;exact⟨w2,z2.sameBut hs hcc⟩
  ·obtain⟨e,n,ne,nf,d⟩:=I.pin p hp;refine⟨(hs.2 p.1 ?_).trans e,n,ne,nf,d⟩;intro q;rw[q,hoc]at e;have q':oc=p.2:=Option.some.inj e;exact d w' (by rw[←q'];exact hocd)
theorem dU{M:Model}{A:Around}{E:Value→Shared→Prop}{i:Nat}{x:Str}{v:V}{u:Value}{Q:Unit→Shared→Prop}(I:Inv X pins σ H s)(hN:X.N.Nodup)(hi:X.N[i]?=some x)(hx:Loc X.env.scope x)(r:aH v u)(h:∀s',Inv X pins (σ.set i (some v)) H s'→Q () s')(hf:X.fn x=true∨X.env.scope.names.lookup x=some .local:=by first|exact .inl rfl|exact .inr rfl|assumption):wpAny M A (storeName X.env x u) Q E s :=
 kA I hN hi hx r (λs' I' _=>h s' I') hf
theorem Inv.call'{s':Shared}{ch:List Addr}(I:Inv X pins σ H s)(ho:s'.os=s.os)(u:Un (frs X.stack) ch H H' s.heap s'.heap)(hok:HOk X.prog X.w H' s'.heap)(hg:AllBare s'.gens)(hch:∀b∈ch,(b∈X.ex∨X.s₀.heap.objs.size≤b)∧b≠X.env.locals∧(∀x c,X.env.cells.lookup x=some c→c≠b)∧∀p∈X.pn++pins,p.1≠b):Inv X pins σ H' s':=by
 obtain⟨h',g',d',t',o'⟩:=s';have e:o'=s.os:=ho;subst e;exact I.call (g':=g') (t':=t') (d':=d') u hok hg hch
end
abbrev XK:=Value→Option Addr→Hp→Prop
abbrev St:=List (Option V)
abbrev VK:=V→Hp→Prop
abbrev TE:=St→Hp→VK→Prop
abbrev TT:=St→Hp→(Bool→Hp→Prop)→Prop
abbrev TA:=St→Hp→(List V→Hp→Prop)→Prop
structure Ends where
 nx:St→Hp→Prop
 rt:VK
 bk:St→Hp→Prop:=λ_ _=>False
 ct:St→Hp→Prop:=λ_ _=>False
abbrev TS:=Ends→St→Hp→Prop
def EP(X:Cx)(pins:List (Addr×Obj))(σ:St)(Q:VK)(u:Value)(s':Shared):Prop:=∃v H',Inv X pins σ H' s'∧aH v u∧Q v H'
def TP(X:Cx)(pins:List (Addr×Obj))(σ:St)(Q:Bool→Hp→Prop)(b:Bool)(s':Shared):Prop:=∃H',Inv X pins σ H' s'∧Q b H'
def AP(X:Cx)(pins:List (Addr×Obj))(σ:St)(Q:List V→Hp→Prop)(us:List Value)(s':Shared):Prop:=∃vs H',Inv X pins σ H' s'∧ar vs us∧Q vs H'
def SP(X:Cx)(pins:List (Addr×Obj))(D:Ends)(f:Flow)(s':Shared):Prop :=
 match f with
 |.next=>∃σ' H',Inv X pins σ' H' s'∧D.nx σ' H'
 |.brk=>∃σ' H',Inv X pins σ' H' s'∧D.bk σ' H'
 |.cont=>∃σ' H',Inv X pins σ' H' s'∧D.ct σ' H'
 |.ret u=>∃v σ' H',Inv X pins σ' H' s'∧aH v u∧D.rt v H'
def PE(X:Cx)(e:Expr)(t:TE):Prop :=
 ∀(pins:List (Addr×Obj))(s:Shared)(σ:St)(H:Hp)(Q:VK),Inv X pins σ H s→t σ H Q→wpAny (model X.prog X.w) X.A (eval e X.env) (EP X pins σ Q) X.xe s
def PT(X:Cx)(e:Expr)(t:TT):Prop :=
 ∀(pins:List (Addr×Obj))(s:Shared)(σ:St)(H:Hp)(Q:Bool→Hp→Prop),Inv X pins σ H s→t σ H Q→wpAny (model X.prog X.w) X.A (isTrue e X.env (eval e X.env)) (TP X pins σ Q) X.xe s
def PW(X:Cx)(e:Expr)(t:TT):Prop :=
 ∀(whole:Sem Value)(pins:List (Addr×Obj))(s:Shared)(σ:St)(H:Hp)(Q:Bool→Hp→Prop),Inv X pins σ H s→t σ H Q→wpAny (model X.prog X.w) X.A (isTrue e X.env whole) (TP X pins σ Q) X.xe s
theorem PW.pt{X:Cx}{e:Expr}{t:TT}(h:PW X e t):PT X e t:=h _
def PA(X:Cx)(es:List Expr)(t:TA):Prop :=
 ∀(pos:Pos)(pins:List (Addr×Obj))(s:Shared)(σ:St)(H:Hp)(Q:List V→Hp→Prop),Inv X pins σ H s→t σ H Q→wpAny (model X.prog X.w) X.A (spliced (backTo pos (starEach es X.env))) (AP X pins σ Q) X.xe s
def PS(X:Cx)(st:Stmt)(t:TS):Prop :=
 ∀(pins:List (Addr×Obj))(s:Shared)(σ:St)(H:Hp)(D:Ends),Inv X pins σ H s→t D σ H→wpAny (model X.prog X.w) X.A (exec st X.env) (SP X pins D) X.xe s
def PSs(X:Cx)(st:List Stmt)(t:TS):Prop :=
 ∀(pins:List (Addr×Obj))(s:Shared)(σ:St)(H:Hp)(D:Ends),Inv X pins σ H s→t D σ H→wpAny (model X.prog X.w) X.A (execs st X.env) (SP X pins D) X.xe s
theorem thn{α:Type}{t:Sem α}{Q Q':α→Shared→Prop}{M:Model}{A:Around}{E:Value→Shared→Prop}{s:Shared}(h:wpAny M A t Q E s)(hQ:∀a s,Q a s→Q' a s):wpAny M A t Q' E s:=wpAny_mono h hQ λ_ _ x=>x
section
variable{X:Cx}
def vq(i:Nat):TE:=λσ H Q=>∃v,σ[i]?=some (some v)∧Q v H
def tC(v:V):TE:=λ_ H Q=>Q v H
theorem xC{i:Nat}{x:Str}{pos:Pos}(hN:X.N[i]?=some x)(hv:Vis X.env.scope x)(hd:(x==("__debug__":Str))=false:=by decide)(hcd:(x==("__classdict__":Str))=false:=by decide):PE X (.Name x pos) (vq i):=by
 intro pins s σ H Q I h;obtain⟨v,e,h⟩:=h;obtain⟨m,hn,hl⟩:=I.loc;obtain⟨u,r,l⟩:=hl i x v hN e hv;have fin:EP X pins σ Q u s:=⟨v,H,I,r,h⟩;rcases l with⟨hk,hm⟩|⟨hk,c,hc,hcell⟩
 ·exact wpAny_Name (wpAny_loadName_local I.ok.kind hk hn hm fin) hd
 ·rcases hk with hk|hk
  ·exact wpAny_Name (wpAny_loadName_cell I.ok.kind hk hc hcell fin) hd
  ·exact wpAny_Name (wpAny_loadName_free I.ok.kind hk hc hcell fin hcd) hd
theorem aj{i j pos}:PE X (.Constant (.int i) j pos) (tC (.int i)):=λ_ _ _ H _ I h=>wpAny_Constant_int ⟨.int i,H,I.tok _,⟨_,rfl⟩,h⟩
theorem fD{b j pos}:PE X (.Constant (.bool b) j pos) (tC (.bl b)):=λ_ _ _ H _ I h=>Constant_bool ⟨.bl b,H,I,rfl,h⟩
theorem gK{j pos}:PE X (.Constant .none j pos) (tC .non):=λ_ _ _ H _ I h=>Constant_none ⟨.non,H,I,rfl,h⟩
theorem dW{x j pos}:PE X (.Constant (.str x) j pos) (tC (.str x)):=λ_ _ _ H _ I h=>Constant_str ⟨.str x,H,I.tok _,⟨_,rfl⟩,h⟩
def Gl(X:Cx)(x:Str):Prop:=X.env.kindOf x=some .globalImplicit
theorem fE{E:Value→Shared→Prop}{pins:List (Addr×Obj)}{s:Shared}{σ:St}{H:Hp}{x:Str}{u:Value}{pos:Pos}{Q:Value→Shared→Prop}(I:Inv X pins σ H s)(hg:Gl X x)(hm:X.mg x=some u)(h:Q u s)(hd:(x==("__debug__":Str))=false:=by decide):wpAny (model X.prog X.w) X.A (eval (.Name x pos) X.env) Q E s :=
 Calls.Name_function_global I.ok.kind hg (Calls.loadGlobal_global (by rw[I.ok.glob];exact I.mod.glob.keeps I.bk) hm h) hd
theorem fg{E:Value→Shared→Prop}{pins:List (Addr×Obj)}{s:Shared}{σ:St}{H:Hp}{x:Str}{u:Value}{pos:Pos}{Q:Value→Shared→Prop}(I:Inv X pins σ H s)(hg:Gl X x)(hm:X.mg x=none)(hv:bootBuiltins x=some u)(h:Q u s)(hn:x≠"__name__":=by decide)(hd:(x==("__debug__":Str))=false:=by decide):wpAny (model X.prog X.w) X.A (eval (.Name x pos) X.env) Q E s:=by
 obtain⟨mb,h1,h2⟩:=I.mod.blt;exact Calls.Name_function_global I.ok.kind hg (Calls.loadGlobal_builtin (by rw[I.ok.glob];exact I.mod.glob.keeps I.bk) hm (by rw[I.ok.blt];exact h1.keeps I.bk) ((h2 x hn).trans hv) h) hd
theorem de{x:Str}{v:V}{u:Value}{pos:Pos}(hg:Gl X x)(hm:X.mg x=some u)(r:aH v u)(hd:(x==("__debug__":Str))=false:=by decide):PE X (.Name x pos) (tC v) :=
 λ_ _ _ H _ I h=>fE I hg hm ⟨v,H,I,r,h⟩ hd
variable{a b:Expr}{ta tb:TE}{pos:Pos}
def PC(X:Cx)(op:CmpOp)(a b:Expr)(t:TE):Prop :=
 ∀(pins:List (Addr×Obj))(s:Shared)(σ:St)(H:Hp)(Q:VK),Inv X pins σ H s→t σ H Q →
  wpAny (model X.prog X.w) X.A (eval a X.env) (λv s₁=>wpAny (model X.prog X.w) X.A (eval b X.env) (λu s₂=>wpAny (model X.prog X.w) X.A (compareOp op v u) (EP X pins σ Q) X.xe s₂) X.xe s₁) X.xe s
def tB(t:TE):TT:=λσ H Q=>t σ H λx H1=>∃c,x=.bl c∧Q c H1
theorem lH{op:CmpOp}{t:TE}(h:PC X op a b t)(h1:behindInMarks op b=false:=by first|exact nobehind _ (by decide) (by decide)|rfl):PT X (.Compare a [op] [b] pos) (tB t):=by
 intro pins s σ H Q I hw;refine wpAny_isTrue_Compare1 (thn (h pins s σ H _ I hw) λv s1 h1=>thn h1 λu s2 h2=>thn h2 λc s3 ⟨x,H1,I1,r1,q1⟩=>?_) h1;obtain⟨d,rfl,q⟩:=q1;cases r1;exact wpAny_truthy_bool ⟨H1,I1,q⟩
theorem sF{e:Expr}{t:TE}(h:PE X e t)(he:∀whole,isTrue e X.env whole=(do let v ← whole;standAt e.pos;holding [v] (truthy v)):=by intro _;rfl):PT X e (tB t):=by
 intro pins s σ H Q I hw;refine isTrue_plain (thn (h pins s σ H _ I hw) λv s1 ⟨x,H1,I1,r1,q1⟩=>?_) (he _);obtain⟨d,rfl,q⟩:=q1;cases r1;exact wpAny_truthy_bool ⟨H1,I1,q⟩
variable{tA tB':TT}{rest:List Expr}
def AA(t u:TT):TT:=λσ H Q=>t σ H λc H1=>if c=true then u σ H1 Q else Q false H1
def tOr(t u:TT):TT:=λσ H Q=>t σ H λc H1=>if c=true then Q true H1 else u σ H1 Q
def AB(t:TT):TT:=λσ H Q=>t σ H λc H1=>Q (!c) H1
theorem pw_and1(ha:PT X a tA):PW X (.BoolOp .And [a] pos) tA:=by
 intro wh pins s σ H Q I h;refine isTrue_and (thn (ha pins s σ H Q I h) λc s1 e=>?_);cases c with
 |true=>exact isTrue_and_nil e
 |false=>exact e
theorem pw_or1(ha:PT X a tA):PW X (.BoolOp .Or [a] pos) tA:=by
 intro wh pins s σ H Q I h;refine isTrue_or (thn (ha pins s σ H Q I h) λc s1 e=>?_);cases c with
 |false=>exact isTrue_or_nil e
 |true=>exact e
theorem pw_and(ha:PT X a tA)(hb:PW X (.BoolOp .And (b::rest) pos) tB'):PW X (.BoolOp .And (a::b::rest) pos) (AA tA tB'):=by
 intro wh pins s σ H Q I h;refine isTrue_and (thn (ha pins s σ H _ I h) λc s1 hpt=>?_);obtain⟨H1,I1,q1⟩:=hpt;cases c with
 |true=>exact hb wh pins s1 σ H1 Q I1 q1
 |false=>exact⟨H1,I1,q1⟩
theorem pw_or(ha:PT X a tA)(hb:PW X (.BoolOp .Or (b::rest) pos) tB'):PW X (.BoolOp .Or (a::b::rest) pos) (tOr tA tB'):=by
 intro wh pins s σ H Q I h;refine isTrue_or (thn (ha pins s σ H _ I h) λc s1 hpt=>?_);obtain⟨H1,I1,q1⟩:=hpt;cases c with
 |true=>exact⟨H1,I1,q1⟩
 |false=>exact hb wh pins s1 σ H1 Q I1 q1
theorem sG(ha:PT X a tA):PT X (.UnaryOp .Not a pos) (AB tA):=by
 intro pins s σ H Q I h;exact isTrue_not (ha pins s σ H (λc H1=>Q (!c) H1) I h)
end
def SqL(K:PySem.W.Frag)(H:Hp)(a:Addr)(xs:List V):Prop :=
 Rd H a (.lst xs) ∨
  ∃(o:Obj) (its:Array Value) (n:Nat),K.lookup a=some o∧o.cls=.type "list"∧o.dict=none∧o.data=.seq its n∧its.size≤sizeLine∧ar xs its.toList
def SqT(K:PySem.W.Frag)(H:Hp)(a:Addr)(xs:List V):Prop :=
 Rd H a (.tup xs) ∨
  ∃(o:Obj) (its:Array Value) (n:Nat),K.lookup a=some o∧o.cls=.type "tuple"∧o.data=.seq its n∧its.size≤sizeLine∧ar xs its.toList
def AC:Value→Option V
 |.none=>some .non
 |.bool b=>some (.bl b)
 |.int i _=>some (.int i)
 |.str x _=>some (.str x)
 |.bytes b _=>some (.byt b)
 |.float b _=>some (.flt b)
 |.ref a=>some (.ref a)
 |.type n=>some (.ty n)
 |_=>none
theorem aH.abs{x:V}{u:Value}(r:aH x u):AC u=some x:=by
 cases x with
 |non=>cases r;rfl
 |bl _=>cases r;rfl
 |int _=>obtain⟨t,rfl⟩:=r;rfl
 |str _=>obtain⟨t,rfl⟩:=r;rfl
 |byt _=>obtain⟨t,rfl⟩:=r;rfl
 |flt _=>obtain⟨t,rfl⟩:=r;rfl
 |ref _=>cases r;rfl
 |ty _=>cases r;rfl
theorem aH.inj{x y:V}{u:Value}(r:aH x u)(q:aH y u):x=y:=Option.some.inj (r.abs.symm.trans q.abs)
theorem ar.inj:∀{xs ys:List V}{us:List Value},ar xs us→ar ys us→xs=ys
 |_,_,_,.nil,.nil=>rfl
 |_,_,_,.cons r t,.cons r' t'=>by rw[r.inj r',ar.inj t t']
section
variable{X:Cx}{pins:List (Addr×Obj)}{σ:St}{H:Hp}{s:Shared}{a:Addr}{xs ys:List V}
theorem SqL.of{K:PySem.W.Frag}(h:H a=some (.lst xs)):SqL K H a xs:=.inl (.inl h)
theorem SqT.of{K:PySem.W.Frag}(h:H a=some (.tup xs)):SqT K H a xs:=.inl (.inl h)
theorem Inv.list(I:Inv X pins σ H s)(h:SqL X.K H a xs):∃its:List Value,ar xs its∧PlainL s.heap a its.toArray∧xs.length≤sizeLine:=by
 rcases h with h|⟨o,its,n,hk,hc,hd,hs,hz,r⟩
 ·obtain⟨z,its,n,r,e⟩:=h.ok I.hok;exact⟨its,r,⟨_,n,e,rfl,rfl,rfl⟩,z⟩
 ·refine⟨its.toList,r,⟨o,n,I.kIn a o hk,hc,hd,by simpa using hs⟩,?_⟩
  have e:=r.length;simp only[length_toList]at e;omega
theorem Inv.tuple(I:Inv X pins σ H s)(h:SqT X.K H a xs):∃its:List Value,ar xs its∧IsTup s.heap a its.toArray∧xs.length≤sizeLine:=by
 rcases h with h|⟨o,its,n,hk,hc,hs,hz,r⟩
 ·obtain⟨z,its,r,p⟩:=h.ok I.hok;exact⟨its,r,p,z⟩
 ·refine⟨its.toList,r,⟨o,I.kIn a o hk,hc,n,by simpa using hs⟩,?_⟩
  have e:=r.length;simp only[length_toList]at e;omega
theorem Inv.list_inj(I:Inv X pins σ H s)(h:SqL X.K H a xs)(h':SqL X.K H a ys):xs=ys:=by
 obtain⟨its,r,⟨o,n,e,_,_,d⟩,_⟩:=I.list h;obtain⟨its',r',⟨o',n',e',_,_,d'⟩,_⟩:=I.list h';rw[e]at e';cases e';rw[d]at d';injection d' with d1 _
 have:its=its':=by simpa using congrArg toList d1
 subst this;exact r.inj r'
theorem Inv.tuple_inj(I:Inv X pins σ H s)(h:SqT X.K H a xs)(h':SqT X.K H a ys):xs=ys:=by
 obtain⟨its,r,⟨o,e,_,n,d⟩,_⟩:=I.tuple h;obtain⟨its',r',⟨o',e',_,n',d'⟩,_⟩:=I.tuple h';rw[e]at e';cases e';rw[d]at d';injection d' with d1 _
 have:its=its':=by simpa using congrArg toList d1
 subst this;exact r.inj r'
end
abbrev Cx.wish(X:Cx)(E:Value→Shared→Prop):Cx:={X with xe:=E}
abbrev Cx.nox(X:Cx):Cx:=X.wish λ_ _=>False
theorem Cx.Ok.wish{X:Cx}(ok:X.Ok)(E:Value→Shared→Prop):(X.wish E).Ok :=
 ⟨ok.mod,ok.kind,ok.glob,ok.blt,ok.above,ok.inj,ok.has,ok.cab,ok.hd,ok.frames,ok.stk,ok.exf,ok.bs,ok.bsz,ok.noex,ok.exfs,ok.funs,ok.frf⟩
theorem Cx.Ok.unwish{X:Cx}{E:Value→Shared→Prop}(ok:(X.wish E).Ok):X.Ok :=
 ⟨ok.mod,ok.kind,ok.glob,ok.blt,ok.above,ok.inj,ok.has,ok.cab,ok.hd,ok.frames,ok.stk,ok.exf,ok.bs,ok.bsz,ok.noex,ok.exfs,ok.funs,ok.frf⟩
section
variable{X:Cx}{pins:List (Addr×Obj)}{σ:St}{H:Hp}{s:Shared}{E:Value→Shared→Prop}
theorem Inv.wish(I:Inv X pins σ H s)(E:Value→Shared→Prop):Inv (X.wish E) pins σ H s:=⟨I.ok.wish E,I.os,I.bare,I.base,I.loc,I.cell,I.free,I.freeC,I.pin,I.hok,I.len⟩
theorem Inv.unwish(I:Inv (X.wish E) pins σ H s):Inv X pins σ H s:=⟨I.ok.unwish,I.os,I.bare,I.base,I.loc,I.cell,I.free,I.freeC,I.pin,I.hok,I.len⟩
theorem SP.unwish{D:Ends}{f:Flow}{s':Shared}(h:SP (X.wish E) pins D f s'):SP X pins D f s':=by
 cases f with
 |next=>obtain⟨σ',H',I,q⟩:=h;exact⟨σ',H',I.unwish,q⟩
 |brk=>obtain⟨σ',H',I,q⟩:=h;exact⟨σ',H',I.unwish,q⟩
 |cont=>obtain⟨σ',H',I,q⟩:=h;exact⟨σ',H',I.unwish,q⟩
 |ret u=>obtain⟨v,σ',H',I,r,q⟩:=h;exact⟨v,σ',H',I.unwish,r,q⟩
theorem PSs.nox{st:List Stmt}{t:TS}(h:PSs X.nox st t):PSs X st t:=λpins s σ H D I hw =>
 wpAny_mono (h pins s σ H D (I.wish _) hw) (λ_ _ q=>q.unwish) λ_ _ z=>False.elim z
end
section
variable{X:Cx}{st:Stmt}{rest:List Stmt}{t u:TS}{e:Expr}{te:TE}{pos:Pos}
def zu:TS:=λD σ H=>D.nx σ H
def vt(t u:TS):TS:=λD σ H=>t {D with nx:=u D} σ H
theorem bf:PSs X [] zu:=λ_ _ σ H _ I h=>wpAny_execs_nil ⟨σ,H,I,h⟩
theorem ag(h1:PS X st t)(h2:PSs X rest u):PSs X (st::rest) (vt t u):=by
 intro pins s σ H D I h;refine wpAny_execs_cons (thn (h1 pins s σ H {D with nx:=u D} I h) λf s1 q=>?_);cases f with
 |next =>
  obtain⟨σ',H',I',q⟩:=q;exact h2 pins s1 σ' H' D I' q
 |ret v=>exact q
 |brk=>exact q
 |cont=>exact q
theorem am(h1:PS X st t):PSs X [st] t:=by
 intro pins s σ H D I h;refine wpAny_execs_cons (thn (h1 pins s σ H D I h) λf s1 q=>?_);cases f with
 |next=>exact wpAny_execs_nil q
 |ret v=>exact q
 |brk=>exact q
 |cont=>exact q
def zv:TS:=λD σ H=>D.ct σ H
theorem nq:PS X (.Continue pos) zv:=λ_ _ σ H _ I h=>wpAny_Continue ⟨σ,H,I,h⟩
theorem Inv.quiet{pins:List (Addr×Obj)}{σ:St}{H:Hp}{s:Shared}(I:Inv X pins σ H s):interactive X.env=false:=by simp[interactive,I.ok.kind]
def zw(te:TE):TS:=λD σ H=>te σ H λ_ H1=>D.nx σ H1
theorem ci(he:PE X e te)(hs:swapsWith e none pos.line X.env=pure false:=by rfl):PS X (.Expr e pos) (zw te):=by
 intro pins s σ H D I h;exact wpAny_Expr_any (thn (he pins s σ H _ I h) λv s1 ⟨x,H1,I1,r1,q1⟩=>⟨σ,H1,I1,q1⟩) I.quiet hs
def zx(te:TE):TS:=λD σ H=>te σ H D.rt
theorem aF(he:PE X e te):PS X (.Return (some e) pos) (zx te):=by
 intro pins s σ H D I h;exact wpAny_Return_some (thn (he pins s σ H _ I h) λv s1 ⟨x,H1,I1,r1,q1⟩=>⟨x,σ,H1,I1,r1,q1⟩)
def AD(c:TT)(t u:TS):TS:=λD σ H=>c σ H λb H1=>if b=true then t D σ H1 else u D σ H1
theorem cp{c:Expr}{a b:List Stmt}{tc:TT}(hc:PT X c tc)(ha:PSs X a t)(hb:PSs X b u):PS X (.If c a b pos) (AD tc t u):=by
 intro pins s σ H D I h;refine wpAny_If (thn (hc pins s σ H _ I h) λd s1 hpt=>?_);obtain⟨H1,I1,q1⟩:=hpt;cases d with
 |true=>exact ha pins s1 σ H1 D I1 q1
 |false=>exact hb pins s1 σ H1 D I1 q1
def xD:TS:=λ_ _ _=>False
theorem gL{sts:List Stmt}:PSs X sts xD:=λ_ _ _ _ _ _ h=>h.elim
end
abbrev TG:=V→St→Hp→(St→Hp→Prop)→Prop
abbrev TGs:=List V→St→Hp→(St→Hp→Prop)→Prop
def PG(X:Cx)(target:Expr)(t:TG):Prop :=
 ∀(pins:List (Addr×Obj))(s:Shared)(σ:St)(H:Hp)(v:V)(u:Value)(Q:St→Hp→Prop),Inv X pins σ H s→aH v u→t v σ H Q →
  wpAny (model X.prog X.w) X.A (assign target X.env u) (λ_ s'=>∃σ' H',Inv X pins σ' H' s'∧Q σ' H') X.xe s
def PGs(X:Cx)(ts:List Expr)(t:TGs):Prop :=
 ∀(pins:List (Addr×Obj))(s:Shared)(σ:St)(H:Hp)(vs:List V)(us:List Value)(Q:St→Hp→Prop),Inv X pins σ H s→ar vs us→t vs σ H Q →
  wpAny (model X.prog X.w) X.A (assignInOrder ((assignEach ts X.env).map (·.2)) us) (λ_ s'=>∃σ' H',Inv X pins σ' H' s'∧Q σ' H') X.xe s
section
variable{X:Cx}{pos:Pos}
def aJ(i:Nat):TG:=λv σ H Q=>Q (σ.set i (some v)) H
theorem ap{i:Nat}{x:Str}(hN:X.N.Nodup)(hi:X.N[i]?=some x)(hx:Loc X.env.scope x)(hf:X.fn x=true∨X.env.scope.names.lookup x=some .local:=by first|exact .inl rfl|exact .inr rfl|assumption):PG X (.Name x pos) (aJ i):=by
 intro pins s σ H v u Q I r h;exact wpAny_assign_Name (dU I hN hi hx r (λs' I'=>⟨_,H,I',h⟩) hf)
def xE:TGs:=λvs σ H Q=>vs=[]∧Q σ H
def iY(t:TG)(u:TGs):TGs:=λvs σ H Q=>∃v r,vs=v::r∧t v σ H λσ' H'=>u r σ' H' Q
theorem lI:PGs X [] xE:=by
 intro pins s σ H vs us Q I r h;obtain⟨e,h⟩:=h;subst e;cases r;exact assignInOrder_nil ⟨σ,H,I,h⟩
theorem cJ{e:Expr}{es:List Expr}{t:TG}{u:TGs}(h1:PG X e t)(h2:PGs X es u)(hs:(assignEach (e::es) X.env).map (·.2)=assign e X.env::(assignEach es X.env).map (·.2):=by rfl):PGs X (e::es) (iY t u):=by
 intro pins s σ H vs us Q I r h;obtain⟨v,vr,e1,h⟩:=h;subst e1;cases r with
 |cons r rr =>
  rw[hs];refine assignInOrder_cons (thn (h1 pins s σ H _ _ _ I r h) λ_ s1 hpt=>?_);obtain⟨σ1,H1,I1,q1⟩:=hpt;exact h2 pins s1 σ1 H1 _ _ Q I1 rr q1
def sH(K:PySem.W.Frag)(n:Nat)(t:TGs):TG:=λv σ H Q=>∃a xs,v=.ref a∧SqT K H a xs∧xs.length=n∧t xs σ H Q
theorem sI{es:List Expr}{k:Nat}{t:TGs}{n:Nat}(hc:X.calm=true)(h:PGs X es t)(hn:(assignEach es X.env).length=n:=by rfl)(hst:(assignEach es X.env).findIdx? (·.1)=none:=by rfl):PG X (.Tuple es k pos) (sH X.K n t):=by
 intro pins s σ H v u Q I r hw;obtain⟨a,xs,e1,hq,hl,hw⟩:=hw;subst e1;cases r;obtain⟨its,rv,ht,hz⟩:=I.tuple hq;refine assign_Tuple_tuple (I.ok.hd hc) ht (by simp[hn,←hl,rv.length]) hst λh' hx=>?_;have I1:Inv X pins σ H {s with heap:=h'}:=I.kept (t':=s.toks) λb o e=>hx b o (ne_of_lt (lt_size e)) e
 exact h pins _ σ H xs _ Q I1 (by simpa using rv) hw
def sJ(te:TE)(g:TG):TS:=λD σ H=>te σ H λx H1=>g x σ H1 D.nx
theorem xF{tg e:Expr}{te:TE}{g:TG}(he:PE X e te)(hg:PG X tg g)(hs:swapsWithSole [tg] e pos.line X.env=pure false:=by rfl)(hw:swappedStores [tg] e X.env=pure none:=by rfl)(h1:(assignEach [tg] X.env).map (·.2)=[assign tg X.env]:=by rfl):PS X (.Assign [tg] e pos) (sJ te g):=by
 intro pins s σ H D I h;refine wpAny_Assign_stores (thn (he pins s σ H _ I h) λv s1 ⟨x,H1,I1,r1,q1⟩=>?_) hs hw;rw[h1];exact thn (hg pins s1 σ H1 x v _ I1 r1 q1) λ_ s2 q=>q
theorem aA{i:Nat}{x:Str}{e:Expr}{te:TE}{pos':Pos}(hN:X.N.Nodup)(hi:X.N[i]?=some x)(hx:Loc X.env.scope x)(he:PE X e te)(hs:swapsWith e (some (.Name x pos')) pos.line X.env=pure false:=by rfl)(hf:X.fn x=true∨X.env.scope.names.lookup x=some .local:=by first|exact .inl rfl|exact .inr rfl|assumption):
  PS X (.Assign [.Name x pos'] e pos) (sJ te (aJ i)):=by
 intro pins s σ H D I h;refine wpAny_Assign_Name (thn (he pins s σ H _ I h) λv s1 ⟨y,H1,I1,r1,q1⟩=>?_) hs;exact dU I1 hN hi hx r1 (λs2 I2=>⟨_,H1,I2,q1⟩) hf
def sK(c:TT)(tb:TS):TS:=λD σ H=>∃W:Nat→St→Hp→Prop,(∃m,W m σ H)∧∀m σ H,W m σ H →
 c σ H λb H1=>if b=true then ∃N:St→Hp→Prop,(∀σ' H',N σ' H'→∃m',m'<m∧W m' σ' H')∧tb {D with nx:=N,ct:=N,bk:=D.nx} σ H1 else D.nx σ H1
theorem iZ{c:Expr}{body:List Stmt}{tc:TT}{tb:TS}(hp:PassesOwn (model X.prog X.w) X.A X.env X.xe)(hc:PT X c tc)(hb:PSs X body tb):PS X (.While c body [] pos) (sK tc tb):=by
 intro pins s σ H D I h;obtain⟨W,⟨m0,w0⟩,turn⟩:=h;refine wpAny_While (codeAny_whileLoop (λn s'=>∃σ' H',Inv X pins σ' H' s'∧W n σ' H') ?_ m0 ⟨σ,H,I,w0⟩);rintro n s1 ⟨σ1,H1,I1,w1⟩;refine wpAny_passesOwn hp (thn (hc pins s1 σ1 H1 _ I1 (turn n σ1 H1 w1)) λb s2 hpt=>?_);obtain⟨H2,I2,q2⟩:=hpt;cases b with
 |true =>
  obtain⟨N,hN,q2⟩:=q2;rw[if_pos rfl];refine wpAny_passesOwn hp (thn (hb pins s2 σ1 H2 _ I2 q2) λf s3 q3=>?_);cases f with
  |next =>
   obtain⟨σ3,H3,I3,n3⟩:=q3;obtain⟨m',hm,w3⟩:=hN σ3 H3 n3;exact⟨m',hm,σ3,H3,I3,w3⟩
  |cont =>
   obtain⟨σ3,H3,I3,n3⟩:=q3;obtain⟨m',hm,w3⟩:=hN σ3 H3 n3;exact⟨m',hm,σ3,H3,I3,w3⟩
  |brk=>exact q3
  |ret v=>exact q3
 |false =>
  rw[if_neg Bool.false_ne_true];exact wpAny_execs_nil ⟨σ1,H2,I2,q2⟩
end
structure It where
 go:Nat→Hp→Prop
 yld:Nat→Hp→V→Hp→Prop
 stop:Nat→Hp→Prop
def dc(X:Cx)(pins:List (Addr×Obj))(H:Hp)(b:Addr):Prop :=
 H b=none∧b≠X.env.locals∧b∉X.fs∧(b∈X.ex∨X.s₀.heap.objs.size≤b)∧(∀x c,X.env.cells.lookup x=some c→c≠b)∧∀p∈X.pn++pins,p.1≠b
theorem Inv.fpOk{X:Cx}{pins:List (Addr×Obj)}{σ:St}{H H':Hp}{s:Shared}{b:Addr}(I:Inv X pins σ H s)(hb:s.heap.objs.size≤b)(hn:H' b=none):dc X pins H' b:=by
 refine⟨hn,ne_of_gt (lt_of_lt_of_le I.lt hb),I.nofs hb,.inr (le_trans I.sz hb),λx c e z=>?_,λp hp z=>?_⟩
 ·obtain⟨v,q⟩:=I.cell x c e;exact absurd (lt_of_lt_of_le q.lt (by rw[z];exact hb)) (lt_irrefl _)
 ·exact absurd (lt_of_lt_of_le (lt_size (I.pin p hp).1) (by rw[z];exact hb)) (lt_irrefl _)
structure Turn(P:Program)(w:World)(K:PySem.W.Frag)(tg:Expr)(J:It)(fp:List Addr)(it:Addr)(tn:Nat→Heap→Prop):Prop where
 mem:it∈fp
 obj:∀i h,tn i h→∀b∈fp,∃o,h.get? b=some o∧∀v,o.data≠.cell v
 keep:∀i h h',tn i h→(∀b∈fp,∀o,h.get? b=some o→h'.get? b=some o)→tn i h'
 item:∀(X:Cx),X.prog=P→X.w=w→X.K=K→X.calm=true→∀(i:Nat)(pins:List (Addr×Obj))(s:Shared)(σ:St)(H:Hp)(E:Value→Shared→Prop),Inv X pins σ H s→(∀b∈fp,dc X pins H b)→tn i s.heap→J.go i H →
  wpAny (model P w) X.A (pyNext (.ref it)) (λr s1=>∃u,r=some u ∧
   wpAny (model P w) X.A (letOwnedTupleGo tg (.ref it) u) (λ_ s2=>∃x H',Inv X pins σ H' s2∧aH x u∧J.yld i H x H'∧tn (i+1) s2.heap∧∀b∈fp,H' b=none) E s1) E s
 done:∀(X:Cx),X.prog=P→X.w=w→X.K=K→X.calm=true→∀(i:Nat)(pins:List (Addr×Obj))(s:Shared)(σ:St)(H:Hp)(E:Value→Shared→Prop),Inv X pins σ H s→(∀b∈fp,dc X pins H b)→tn i s.heap→J.stop i H →
  wpAny (model P w) X.A (pyNext (.ref it)) (λr s1=>r=none∧Inv X pins σ H s1) E s
 self:∀(A:Around)(i:Nat)(s:Shared)(Q:Value→Shared→Prop)(E:Value→Shared→Prop),tn i s.heap→Q (.ref it) s→wpAny (model P w) A (pyIter (.ref it)) Q E s
abbrev TI:=St→Hp→(It→Hp→Prop)→Prop
def PIE(X:Cx)(pins:List (Addr×Obj))(σ:St)(tg:Expr)(R:It→Hp→Prop)(itv:Value)(s2:Shared):Prop :=
 ∃(it:Addr) (fp:List Addr) (tn:Nat→Heap→Prop) (J:It) (H':Hp),itv=.ref it∧Inv X pins σ H' s2∧Turn X.prog X.w X.K tg J fp it tn∧tn 0 s2.heap∧(∀b∈fp,dc X pins H' b)∧R J H'
def PI(X:Cx)(tg iter:Expr)(wi:TI):Prop :=
 ∀(pins:List (Addr×Obj))(s:Shared)(σ:St)(H:Hp)(R:It→Hp→Prop),Inv X pins σ H s→wi σ H R →
  wpAny (model X.prog X.w) X.A (eval iter X.env) (λv s1=>wpAny (model X.prog X.w) X.A (pyIter v) (PIE X pins σ tg R) X.xe s1) X.xe s
theorem nr{M:Model}{A:Around}{E:Value→Shared→Prop}{s:Shared}{tg:Expr}{it:Addr}{u:Value}{o:Obj}{n:String}{vs:Array Value}{Q:Unit→Shared→Prop}(ho:s.heap.get? it=some o)(hc:o.cls=.type n)(hd:o.data=.fields vs)(hn:["enumerate","zip","dict_itemiterator","dict_reverseitemiterator","odict_iterator","itertools.zip_longest","itertools.pairwise"].contains n=false)(hQ:Q () s):wpAny M A (letOwnedTupleGo tg (.ref it) u) Q E s:=by
 unfold letOwnedTupleGo;cases tg<;>first
  |exact wpAny_pure hQ
  | (cases u<;>first
    |exact wpAny_pure hQ
    | (refine wpAny_bind (wpAny_load ho ?_)
       rw[hc,hd];show wpAny M A (if (["enumerate","zip","dict_itemiterator","dict_reverseitemiterator","odict_iterator","itertools.zip_longest","itertools.pairwise"].contains n&&vs[0]?==some (rawInt _))=true then _ else _) Q E s
       rw[if_neg (by intro h;rw[hn,Bool.false_and]at h;cases h)];exact wpAny_pure hQ))
def Itl(K:PySem.W.Frag)(a:Addr):It :=
 ⟨λi H=>∃xs x,SqL K H a xs∧xs[i]?=some x,λi H x H'=>H'=H∧∀xs,SqL K H a xs→xs[i]?=some x,λi H=>∃xs,SqL K H a xs∧xs.length≤i⟩
def Itt(K:PySem.W.Frag)(a:Addr):It :=
 ⟨λi H=>∃xs x,SqT K H a xs∧xs[i]?=some x,λi H x H'=>H'=H∧∀xs,SqT K H a xs→xs[i]?=some x,λi H=>∃xs,SqT K H a xs∧xs.length≤i⟩
def Itr(lo:Int)(n:Nat):It:=⟨λi _=>i<n,λi H x H'=>H'=H∧x=.int (lo+i),λi _=>n≤i⟩
theorem kD{P:Program}{w:World}{K:PySem.W.Frag}{tg:Expr}(a it:Addr):Turn P w K tg (Itl K a) [it] it (λi h=>h.IsListIter it a i) where
 mem:=by simp
 obj:=λi h st b hb=>by
  have e:b=it:=by simpa using hb
  subst e;obtain⟨o,e,c,d⟩:=st;exact⟨o,e,λv z=>by rw[d]at z;cases z⟩
 keep:=λi h h' st k=>st.at λo e=>k it (by simp) o e
 item:=by
  intro X hP hw hK hc i pins s σ H E I hf st hg;subst hP hw hK;obtain⟨xs,x,hq,hx⟩:=hg;obtain⟨its,rv,p,hz⟩:=I.list hq;obtain⟨u,hu,ru⟩:=rv.get hx;obtain⟨f0,f1,f2,f3,f4,f5⟩:=hf it (by simp);refine wpAny_pyNext_list_item st p.isList (x:=u) (by simpa using hu) λh' st' sb=>?_;have I1:Inv X pins σ H {s with heap:=h'}:=I.turned (t':=s.toks) (λb o hb e=>(sb.2 b hb).trans e) f0 f1 f3 f4 f5
  obtain⟨o,e,c,d⟩:=id st';exact⟨u,rfl,nr (s:={s with heap:=h'}) e c d (by decide) ⟨x,H,I1,ru,⟨rfl,λys hy=>by rw[I.list_inj hy hq];exact hx⟩,st',λb hb=>(hf b hb).1⟩⟩
 done:=by
  intro X hP hw hK hc i pins s σ H E I hf st hg;subst hP hw hK;obtain⟨xs,hq,hx⟩:=hg;obtain⟨its,rv,p,hz⟩:=I.list hq;obtain⟨f0,f1,f2,f3,f4,f5⟩:=hf it (by simp);have hl:=rv.length;exact wpAny_pyNext_list_end (I.ok.hd hc) st p.isList (by simp;omega) λh' eb=>⟨rfl,I.turned (t':=s.toks) (λb o hb e=>eb b o hb e) f0 f1 f3 f4 f5⟩
 self:=λ_ _ _ _ _ st h=>wpAny_pyIter_listiter st h
theorem ja{P:Program}{w:World}{K:PySem.W.Frag}{tg:Expr}(a it:Addr):Turn P w K tg (Itt K a) [it] it (λi h=>h.IsTupleIter it a i) where
 mem:=by simp
 obj:=λi h st b hb=>by
  have e:b=it:=by simpa using hb
  subst e;obtain⟨o,e,c,d⟩:=st;exact⟨o,e,λv z=>by rw[d]at z;cases z⟩
 keep:=λi h h' st k=>st.at λo e=>k it (by simp) o e
 item:=by
  intro X hP hw hK hc i pins s σ H E I hf st hg;subst hP hw hK;obtain⟨xs,x,hq,hx⟩:=hg;obtain⟨its,rv,p,hz⟩:=I.tuple hq;obtain⟨u,hu,ru⟩:=rv.get hx;obtain⟨f0,f1,f2,f3,f4,f5⟩:=hf it (by simp);refine wpAny_pyNext_tuple_item st (show s.heap.IsTuple a its.toArray from p) (x:=u) (by simpa using hu) λh' st' sb=>?_;have I1:Inv X pins σ H {s with heap:=h'}:=I.turned (t':=s.toks) (λb o hb e=>(sb.2 b hb).trans e) f0 f1 f3 f4 f5
  obtain⟨o,e,c,d⟩:=id st';exact⟨u,rfl,nr (s:={s with heap:=h'}) e c d (by decide) ⟨x,H,I1,ru,⟨rfl,λys hy=>by rw[I.tuple_inj hy hq];exact hx⟩,st',λb hb=>(hf b hb).1⟩⟩
 done:=by
  intro X hP hw hK hc i pins s σ H E I hf st hg;subst hP hw hK;obtain⟨xs,hq,hx⟩:=hg;obtain⟨its,rv,p,hz⟩:=I.tuple hq;obtain⟨f0,f1,f2,f3,f4,f5⟩:=hf it (by simp);have hl:=rv.length;exact wpAny_pyNext_tuple_end (I.ok.hd hc) st (show s.heap.IsTuple a its.toArray from p) (by simp;omega) λh' eb=>⟨rfl,I.turned (t':=s.toks) (λb o hb e=>eb b o hb e) f0 f1 f3 f4 f5⟩
 self:=λ_ _ _ _ _ st h=>wpAny_pyIter_tupleiter st h
theorem oX{P:Program}{w:World}{K:PySem.W.Frag}{tg:Expr}(it:Addr)(lo:Int)(n:Nat):Turn P w K tg (Itr lo n) [it] it (λi h=>IsRangeIter h it (lo+(i:Nat)*1) ((n:Int)-(i:Nat)) 1) where
 mem:=by simp
 obj:=λi h st b hb=>by
  have e:b=it:=by simpa using hb
  subst e;exact⟨_,st,λv z=>by
   have z':Data.fields _=Data.cell v:=z;cases z'⟩
 keep:=λi h h' st k=>k it (by simp) _ st
 item:=by
  intro X hP hw hK hc i pins s σ H E I hf st hg;subst hP hw hK;obtain⟨f0,f1,f2,f3,f4,f5⟩:=hf it (by simp);have W:=Walks.range (prog:=X.prog) (w:=X.w) (I.ok.hd hc) it lo 1 n;refine W.item i s _ _ hg st λv h' tk hv st' kk=>?_;obtain⟨t,rfl⟩:=hv;have I1:Inv X pins σ H {s with heap:=h',toks:=tk}:=I.turned (λb o hb e=>kk b o (by simpa using hb) e) f0 f1 f3 f4 f5
  refine⟨_,rfl,nr (s:={s with heap:=h',toks:=tk}) (n:="range_iterator") st' rfl rfl (by decide) ⟨.int (lo+i),H,I1,⟨t,?_⟩,⟨rfl,rfl⟩,st',λb hb=>(hf b hb).1⟩⟩;rw[mul_one]
 done:=by
  intro X hP hw hK hc i pins s σ H E I hf st hg;subst hP hw hK;obtain⟨f0,f1,f2,f3,f4,f5⟩:=hf it (by simp);exact wpAny_pyNext_range_end (I.ok.hd hc) st (by have:n≤i:=hg;omega) λh' eb=>⟨rfl,I.turned (t':=s.toks) (λb o hb e=>eb b o hb e) f0 f1 f3 f4 f5⟩
 self:=λ_ _ _ _ _ st h=>wpAny_pyIter_rangeiter st h
section
variable{X:Cx}{tg:Expr}
def zy(K:PySem.W.Frag)(tl:TE):TI:=λσ H R=>tl σ H λx H1=>∃a,x=.ref a∧(∃xs,SqL K H1 a xs)∧R (Itl K a) H1
def zA(K:PySem.W.Frag)(tl:TE):TI:=λσ H R=>tl σ H λx H1=>∃a,x=.ref a∧(∃xs,SqT K H1 a xs)∧R (Itt K a) H1
theorem bJ{l:Expr}{tl:TE}(hl:PE X l tl):PI X tg l (zy X.K tl):=by
 intro pins s σ H R I h;refine thn (hl pins s σ H _ I h) λv s1 hpt=>?_;obtain⟨x,H1,I1,r1,q1⟩:=hpt;obtain⟨a,e,⟨xs,hq⟩,q⟩:=q1;subst e;cases r1;obtain⟨its,rv,p,hz⟩:=I1.list hq;refine wpAny_pyIter_list p.isList ?_;refine⟨s1.heap.objs.size,[s1.heap.objs.size],_,_,H1,rfl,I1.kept (t':=s1.toks) λb o e=>get?_push_of_some _ e,kD a _,⟨_,get?_push_size _ rfl,rfl,rfl⟩,λb hb=>?_,q⟩;have e:b=s1.heap.objs.size:=by simpa using hb
 subst e;exact I1.fpOk (le_refl _) (I1.hok.fresh (le_refl _))
theorem cM{l:Expr}{tl:TE}(hl:PE X l tl):PI X tg l (zA X.K tl):=by
 intro pins s σ H R I h;refine thn (hl pins s σ H _ I h) λv s1 hpt=>?_;obtain⟨x,H1,I1,r1,q1⟩:=hpt;obtain⟨a,e,⟨xs,hq⟩,q⟩:=q1;subst e;cases r1;obtain⟨its,rv,p,hz⟩:=I1.tuple hq;refine wpAny_pyIter_tuple (show s1.heap.IsTuple a its.toArray from p) ?_;refine⟨s1.heap.objs.size,[s1.heap.objs.size],_,_,H1,rfl,I1.kept (t':=s1.toks) λb o e=>get?_push_of_some _ e,ja a _,⟨_,get?_push_size _ rfl,rfl,rfl⟩,λb hb=>?_,q⟩;have e:b=s1.heap.objs.size:=by simpa using hb
 subst e;exact I1.fpOk (le_refl _) (I1.hok.fresh (le_refl _))
theorem sL{pins:List (Addr×Obj)}{σ:St}{H:Hp}{s:Shared}{R:It→Hp→Prop}{E:Value→Shared→Prop}{lo hi:Int}{t u v:Tok}{tk:Nat}(I:Inv X pins σ H s)(h1:-(2 ^ 62)≤lo)(h2:lo<2 ^ 62)(h3:-(2 ^ 62)≤hi)(h4:hi<2 ^ 62)(q:R (Itr lo (hi-lo).toNat) H):wpAny (model X.prog X.w) X.A (pyIter (.ref s.heap.objs.size)) (PIE X pins σ tg R) E {s with heap:=s.heap.push {cls:=.type "range",data:=.fields #[.int lo t,.int hi u,.int 1 v]},toks:=tk}:=by
 refine wpAny_pyIter_range (IsRange.new ..) (small_one h1 h2 h3 h4) ?_;have I1:Inv X pins σ H {s with heap:=s.heap.push {cls:=.type "range",data:=.fields #[.int lo t,.int hi u,.int 1 v]},toks:=tk}:=I.kept λb o e=>get?_push_of_some _ e
 refine⟨(s.heap.push {cls:=.type "range",data:=.fields #[.int lo t,.int hi u,.int 1 v]}).objs.size,[(s.heap.push {cls:=.type "range",data:=.fields #[.int lo t,.int hi u,.int 1 v]}).objs.size],_,_,H,rfl,
  I1.kept (t':=tk) λb o e=>get?_push_of_some _ e,oX _ lo (hi-lo).toNat,?_,λb hb=>?_,q⟩
 ·have e1:lo+((0:Nat):Int)*1=lo:=by simp
  have e2:(((hi-lo).toNat:Nat):Int)-((0:Nat):Int)=Builtin.Range.rangeSize lo hi 1:=by rw[rangeSize_one];split<;>omega
  show IsRangeIter _ _ (lo+((0:Nat):Int)*1) ((((hi-lo).toNat:Nat):Int)-((0:Nat):Int)) 1;rw[e1,e2];exact get?_push_size _ rfl
 ·have e:b=(s.heap.push {cls:=.type "range",data:=.fields #[.int lo t,.int hi u,.int 1 v]}).objs.size:=by simpa using hb
  subst e;exact I1.fpOk (le_refl _) (I1.hok.fresh (le_refl _))
def zB(ta:TA):TI:=λσ H R=>ta σ H λvs H1=>∃j:Int,vs=[.int j]∧-(2 ^ 62)≤j∧j<2 ^ 62∧R (Itr 0 j.toNat) H1
theorem rk{a:Expr}{ta:TA}{p pos:Pos}(hg:Gl X "range")(hm:X.mg "range"=none)(ha:PA X [a] ta)(hs:starEach [a] X.env=[(false,eval a X.env)]:=by rfl):PI X tg (.Call (.Name "range" p) [a] [] pos) (zB ta):=by
 intro pins s σ H R I h;refine Call_ (fg I hg hm boot_range (PyProof.Rows.callWith_type1 (thn (ha pos pins s σ H _ I h) λus s1 ⟨vs,H1,I1,r1,q1⟩=>?_) hs rfl));obtain⟨j,e,q1,q2,q⟩:=q1;subst e;cases r1 with
 |cons r rr =>
  cases rr;obtain⟨t,rfl⟩:=r;exact call_range_1 (sL I1 (by omega) (by omega) q1 q2 (by simpa using q))
def AE(wi:TI)(g:TG)(tb:TS):TS:=λD σ H=>wi σ H λJ H1=>∃W:Nat→Nat→St→Hp→Prop,(∃m,W 0 m σ H1)∧∀i m σ H,W i m σ H →
 (J.stop i H∧D.nx σ H)∨(J.go i H∧∃N:St→Hp→Prop,(∀σ' H',N σ' H'→∃m',m'<m∧W (i+1) m' σ' H')∧∀x H',J.yld i H x H'→g x σ H' λσ2 H2=>tb {D with nx:=N,ct:=N,bk:=D.nx} σ2 H2)
def lJ(fp:List Addr)(h:Heap):List (Addr×Obj):=fp.filterMap λb=>(h.get? b).map λo=>(b,o)
theorem bp{fp:List Addr}{h:Heap}{b:Addr}{o:Obj}(hb:b∈fp)(e:h.get? b=some o):(b,o)∈lJ fp h:=mem_filterMap.mpr ⟨b,hb,by rw[e];rfl⟩
theorem rl{fp:List Addr}{h:Heap}{p:Addr×Obj}(hp:p∈lJ fp h):p.1∈fp∧h.get? p.1=some p.2:=by
 obtain⟨b,hb,e⟩:=mem_filterMap.mp hp;cases q:h.get? b with
 |none=>rw[q]at e;cases e
 |some o =>
  rw[q]at e;have e':(b,o)=p:=Option.some.inj e;subst e';exact⟨hb,q⟩
theorem Inv.pinned{pins:List (Addr×Obj)}{σ:St}{H:Hp}{s:Shared}{fp:List Addr}(I:Inv X pins σ H s)(hf:∀b∈fp,dc X pins H b)(ho:∀b∈fp,∃o,s.heap.get? b=some o∧∀v,o.data≠.cell v):Inv X (pins++lJ fp s.heap) σ H s :=
 I.pins_of λp hp=>(mem_append.mp hp).elim (λz=>I.pin p (mem_append_right _ z)) λz=>by
  obtain⟨hb,e⟩:=rl z;obtain⟨f0,f1,f2,_⟩:=hf p.1 hb;obtain⟨o,e',d⟩:=ho p.1 hb;rw[e]at e';cases e';exact⟨e,f0,f1,f2,d⟩
theorem Inv.unpinned{pins pl:List (Addr×Obj)}{σ:St}{H:Hp}{s:Shared}(I:Inv X (pins++pl) σ H s):Inv X pins σ H s:=I.pins_of λp hp=>I.pin p (mem_append_right _ (mem_append_left _ hp))
theorem jb{iter:Expr}{body:List Stmt}{wi:TI}{g:TG}{tb:TS}{pos:Pos}(hp:PassesOwn (model X.prog X.w) X.A X.env X.xe)(hc:X.calm=true)(hi:PI X tg iter wi)(hg:PG X tg g)(hb:PSs X body tb)(hs:∀x,foldedSetIterable iter X.env x=pure x:=by intro _;rfl):PS X (.For tg iter body [] pos) (AE wi g tb):=by
 intro pins s σ H D I h;refine wpAny_For (thn (hi pins s σ H _ I h) λv s1 h1=>thn h1 λitv s2 h2=>?_) hs;obtain⟨it,fp,tn,J,H2,e,I2,T,st2,f2,W,⟨m0,w0⟩,turn⟩:=h2;subst e;have stat:∀{H':Hp},(∀b∈fp,H' b=none)→∀b∈fp,dc X pins H' b:=λhn b hb=>⟨hn b hb,(f2 b hb).2⟩;refine codeAny_forLoop_any (λn s'=>∃i σ' H',Inv X pins σ' H' s'∧tn i s'.heap∧(∀b∈fp,H' b=none)∧W i n σ' H') ?_ m0 ⟨0,σ,H2,I2,st2,λb hb=>(f2 b hb).1,w0⟩;rintro n s3 ⟨i,σ3,H3,I3,st3,fr3,w3⟩;rcases turn i n σ3 H3 w3 with⟨stop,qn⟩|⟨go,N,hN,step⟩
 ·refine wpAny_passesOwn hp (thn (T.done X rfl rfl rfl hc i pins s3 σ3 H3 X.xe I3 (stat fr3) st3 stop) λr s4 hpt=>?_);obtain⟨hr,I4⟩:=hpt;subst hr;exact wpAny_execs_nil ⟨σ3,H3,I4,qn⟩
 ·refine wpAny_passesOwn hp (thn (T.item X rfl rfl rfl hc i pins s3 σ3 H3 X.xe I3 (stat fr3) st3 go) λr s4 hpt=>?_);obtain⟨u,hr,h4⟩:=hpt;subst hr;refine wpAny_passesOwn hp (thn h4 λ_ s5 hpt=>?_);obtain⟨x,H5,I5,r5,y5,st5,fr5⟩:=hpt;have I5':=I5.pinned (stat fr5) (T.obj _ _ st5);refine wpAny_passesOwn hp (thn (hg _ s5 σ3 H5 x u _ I5' r5 (step x H5 y5)) λ_ s6 hpt=>?_);obtain⟨σ6,H6,I6,q6⟩:=hpt;refine wpAny_passesOwn hp (thn (hb _ s6 σ6 H6 _ I6 q6) λf s7 q7=>?_);have again:∀{σ7:St}{H7:Hp},Inv X (pins++lJ fp s5.heap) σ7 H7 s7→N σ7 H7→∃m,m<n∧∃i σ' H',Inv X pins σ' H' s7∧tn i s7.heap∧(∀b∈fp,H' b=none)∧W i m σ' H':=λ{σ7 H7} I7 n7=>by
   obtain⟨m',hm,w7⟩:=hN σ7 H7 n7;refine⟨m',hm,i+1,σ7,H7,I7.unpinned,T.keep _ _ _ st5 λb hb o e=>(I7.pin (b,o) (mem_append_right _ (mem_append_right _ (bp hb e)))).1,λb hb=>?_,w7⟩;obtain⟨o,e,d⟩:=T.obj _ _ st5 b hb;exact(I7.pin (b,o) (mem_append_right _ (mem_append_right _ (bp hb e)))).2.1
  cases f with
  |next=>obtain⟨σ7,H7,I7,n7⟩:=q7;exact again I7 n7
  |cont=>obtain⟨σ7,H7,I7,n7⟩:=q7;exact again I7 n7
  |brk=>obtain⟨σ7,H7,I7,q7⟩:=q7;exact⟨σ7,H7,I7.unpinned,q7⟩
  |ret v=>obtain⟨x7,σ7,H7,I7,r7,q7⟩:=q7;exact⟨x7,σ7,H7,I7.unpinned,r7,q7⟩
end
theorem fJ{K:PySem.W.Frag}{a:Addr}{xs:List V}{g:TG}{tb:TS}{D:Ends}{σ:St}{H:Hp}(Pv:Nat→St→Hp→Prop)(h0:Pv 0 σ H)(hl:∀i σ H,i≤xs.length→Pv i σ H→SqL K H a xs)(hs:∀i x σ H,xs[i]?=some x→Pv i σ H→g x σ H λσ2 H2=>tb {D with nx:=Pv (i+1),ct:=Pv (i+1),bk:=D.nx} σ2 H2)(hd:∀σ H,Pv xs.length σ H→D.nx σ H):
  ∃W:Nat→Nat→St→Hp→Prop,(∃m,W 0 m σ H)∧∀i m σ H,W i m σ H →
   ((Itl K a).stop i H∧D.nx σ H)∨((Itl K a).go i H∧∃N:St→Hp→Prop,(∀σ' H',N σ' H'→∃m',m'<m∧W (i+1) m' σ' H')∧∀x H',(Itl K a).yld i H x H'→g x σ H' λσ2 H2=>tb {D with nx:=N,ct:=N,bk:=D.nx} σ2 H2):=by
 refine⟨λi m σ H=>m=xs.length-i∧i≤xs.length∧Pv i σ H,⟨xs.length,by simp,zero_le _,h0⟩,?_⟩;rintro i m σ H ⟨rfl,hi,p⟩;have q:=hl i σ H hi p
 by_cases hlt:i<xs.length
 ·refine .inr ⟨⟨xs,xs[i],q,by simp[hlt]⟩,Pv (i+1),λσ' H' p'=>⟨xs.length-(i+1),by omega,rfl,hlt,p'⟩,λx H' y=>?_⟩;obtain⟨e,y⟩:=y;subst e;exact hs i x σ _ (y xs q) p
 ·have e:i=xs.length:=by omega
  subst e;exact .inl ⟨⟨xs,q,le_refl _⟩,hd σ H p⟩
theorem vw{K:PySem.W.Frag}{a:Addr}{xs:List V}{g:TG}{tb:TS}{D:Ends}{σ:St}{H:Hp}(Pv:Nat→St→Hp→Prop)(h0:Pv 0 σ H)(hl:∀i σ H,i≤xs.length→Pv i σ H→SqT K H a xs)(hs:∀i x σ H,xs[i]?=some x→Pv i σ H→g x σ H λσ2 H2=>tb {D with nx:=Pv (i+1),ct:=Pv (i+1),bk:=D.nx} σ2 H2)(hd:∀σ H,Pv xs.length σ H→D.nx σ H):
  ∃W:Nat→Nat→St→Hp→Prop,(∃m,W 0 m σ H)∧∀i m σ H,W i m σ H →
   ((Itt K a).stop i H∧D.nx σ H)∨((Itt K a).go i H∧∃N:St→Hp→Prop,(∀σ' H',N σ' H'→∃m',m'<m∧W (i+1) m' σ' H')∧∀x H',(Itt K a).yld i H x H'→g x σ H' λσ2 H2=>tb {D with nx:=N,ct:=N,bk:=D.nx} σ2 H2):=by
 refine⟨λi m σ H=>m=xs.length-i∧i≤xs.length∧Pv i σ H,⟨xs.length,by simp,zero_le _,h0⟩,?_⟩;rintro i m σ H ⟨rfl,hi,p⟩;have q:=hl i σ H hi p
 by_cases hlt:i<xs.length
 ·refine .inr ⟨⟨xs,xs[i],q,by simp[hlt]⟩,Pv (i+1),λσ' H' p'=>⟨xs.length-(i+1),by omega,rfl,hlt,p'⟩,λx H' y=>?_⟩;obtain⟨e,y⟩:=y;subst e;exact hs i x σ _ (y xs q) p
 ·have e:i=xs.length:=by omega
  subst e;exact .inl ⟨⟨xs,q,le_refl _⟩,hd σ H p⟩
theorem rm{lo:Int}{n:Nat}{g:TG}{tb:TS}{D:Ends}{σ:St}{H:Hp}(Pv:Nat→St→Hp→Prop)(h0:Pv 0 σ H)(hs:∀i σ H,i<n→Pv i σ H→g (.int (lo+i)) σ H λσ2 H2=>tb {D with nx:=Pv (i+1),ct:=Pv (i+1),bk:=D.nx} σ2 H2)(hd:∀σ H,Pv n σ H→D.nx σ H):
  ∃W:Nat→Nat→St→Hp→Prop,(∃m,W 0 m σ H)∧∀i m σ H,W i m σ H →
   ((Itr lo n).stop i H∧D.nx σ H)∨((Itr lo n).go i H∧∃N:St→Hp→Prop,(∀σ' H',N σ' H'→∃m',m'<m∧W (i+1) m' σ' H')∧∀x H',(Itr lo n).yld i H x H'→g x σ H' λσ2 H2=>tb {D with nx:=N,ct:=N,bk:=D.nx} σ2 H2):=by
 refine⟨λi m σ H=>m=n-i∧i≤n∧Pv i σ H,⟨n,by simp,zero_le _,h0⟩,?_⟩;rintro i m σ H ⟨rfl,hi,p⟩
 by_cases hlt:i<n
 ·refine .inr ⟨hlt,Pv (i+1),λσ' H' p'=>⟨n-(i+1),by omega,rfl,hlt,p'⟩,λx H' y=>?_⟩;obtain⟨e,y⟩:=y;subst e y;exact hs i σ _ hlt p
 ·have e:i=n:=by omega
  subst e;exact .inl ⟨le_refl _,hd σ H p⟩
theorem jc{c:TT}{tb:TS}{D:Ends}{σ:St}{H:Hp}(Pv:St→Hp→Prop)(μ:St→Hp→Nat)(h0:Pv σ H)(hs:∀σ H,Pv σ H→c σ H λb H1=>if b=true then tb {D with nx:=λσ' H'=>Pv σ' H'∧μ σ' H'<μ σ H,ct:=λσ' H'=>Pv σ' H'∧μ σ' H'<μ σ H,bk:=D.nx} σ H1 else D.nx σ H1)(mono:∀σ H Q Q',(∀b H1,Q b H1→Q' b H1)→c σ H Q→c σ H Q'):sK c tb D σ H:=by
 refine⟨λm σ H=>m=μ σ H∧Pv σ H,⟨_,rfl,h0⟩,?_⟩;rintro m σ H ⟨rfl,p⟩;refine mono σ H _ _ (λb H1 q=>?_) (hs σ H p);cases b with
 |true=>exact⟨_,λσ' H' ⟨p',l⟩=>⟨_,l,rfl,p'⟩,q⟩
 |false=>exact q
abbrev R2:=V→V→Hp→VK→Prop
def OpR(X:Cx)(f:Value→Value→Sem Value)(r:R2):Prop :=
 ∀(pins:List (Addr×Obj))(s:Shared)(σ:St)(H:Hp)(x y:V)(v u:Value)(Q:VK),Inv X pins σ H s→aH x v→aH y u→r x y H Q →
  wpAny (model X.prog X.w) X.A (f v u) (EP X pins σ Q) X.xe s
def bX(X:Cx)(f:Value)(r:List V→Hp→VK→Prop):Prop :=
 ∀(pins:List (Addr×Obj))(s:Shared)(σ:St)(H:Hp)(xs:List V)(us:List Value)(Q:VK),Inv X pins σ H s→ar xs us→r xs H Q →
  wpAny (model X.prog X.w) X.A (call f us) (EP X pins σ Q) X.xe s
def AF(X:Cx)(r:V→Hp→(Bool→Hp→Prop)→Prop):Prop :=
 ∀(pins:List (Addr×Obj))(s:Shared)(σ:St)(H:Hp)(x:V)(v:Value)(Q:Bool→Hp→Prop),Inv X pins σ H s→aH x v→r x H Q →
  wpAny (model X.prog X.w) X.A (truthy v) (TP X pins σ Q) X.xe s
def tOp(r:R2)(ta tb:TE):TE:=λσ H Q=>ta σ H λx H1=>tb σ H1 λy H2=>r x y H2 Q
def rI(C:Int→Int→Prop)(g:Int→Int→V):R2:=λx y H Q=>∃i j,x=.int i∧y=.int j∧C i j∧Q (g i j) H
def rI0(g:Int→Int→V):R2:=λx y H Q=>∃i j,x=.int i∧y=.int j∧Q (g i j) H
section
variable{X:Cx}{a b c:Expr}{ta tb tc:TE}{pos:Pos}
theorem xG(ha:PE X a ta)(hb:PE X b tb){pins:List (Addr×Obj)}{s:Shared}{σ:St}{H:Hp}{R:V→V→Hp→Prop}(I:Inv X pins σ H s)(h:ta σ H λx H1=>tb σ H1 λy H2=>R x y H2){Q:Value→Shared→Prop}{f:Value→Value→Sem Value}(hf:∀v u s2 x y H2,Inv X pins σ H2 s2→aH x v→aH y u→R x y H2→wpAny (model X.prog X.w) X.A (f v u) Q X.xe s2):
  wpAny (model X.prog X.w) X.A (eval a X.env) (λv s₁=>wpAny (model X.prog X.w) X.A (eval b X.env) (λu s₂=>wpAny (model X.prog X.w) X.A (f v u) Q X.xe s₂) X.xe s₁) X.xe s:=by
 refine thn (ha pins s σ H _ I h) λv s1 hpt=>?_;obtain⟨x,H1,I1,r1,q1⟩:=hpt;refine thn (hb pins s1 σ H1 _ I1 q1) λu s2 hpt=>?_;obtain⟨y,H2,I2,r2,q2⟩:=hpt;exact hf v u s2 x y H2 I2 r1 r2 q2
theorem aK{op:Operator}{r:R2}(ho:OpR X (binaryOp op) r)(ha:PE X a ta)(hb:PE X b tb):PE X (.BinOp a op b pos) (tOp r ta tb):=by
 intro pins s σ H Q I h;exact wpAny_BinOp (xG ha hb I h λv u s2 x y H2 I2 rx ry q=>ho pins s2 σ H2 x y v u Q I2 rx ry q)
theorem opI{f:Value→Value→Sem Value}{C:Int→Int→Prop}{g:Int→Int→Int}(rule:∀(i j:Int) (t u:Tok) (s:Shared) (Q:Value→Shared→Prop) (E:Value→Shared→Prop),C i j→Q (.int (g i j) s.toks) {s with toks:=s.toks+1}→wpAny (model X.prog X.w) X.A (f (.int i t) (.int j u)) Q E s):
  OpR X f (rI C λi j=>.int (g i j)):=by
 intro pins s σ H x y v u Q I rx ry h;obtain⟨i,j,rfl,rfl,hc,q⟩:=h;obtain⟨t,rfl⟩:=rx;obtain⟨t',rfl⟩:=ry;exact rule i j t t' s _ _ hc ⟨.int (g i j),H,I.tok _,⟨_,rfl⟩,q⟩
theorem zC{f:Value→Value→Sem Value}{g:Int→Int→Int}(rule:∀(i j:Int) (t u:Tok) (s:Shared) (Q:Value→Shared→Prop) (E:Value→Shared→Prop),Q (.int (g i j) s.toks) {s with toks:=s.toks+1}→wpAny (model X.prog X.w) X.A (f (.int i t) (.int j u)) Q E s):
  OpR X f (rI0 λi j=>.int (g i j)):=by
 intro pins s σ H x y v u Q I rx ry h;obtain⟨i,j,rfl,rfl,q⟩:=h;obtain⟨t,rfl⟩:=rx;obtain⟨t',rfl⟩:=ry;exact rule i j t t' s _ _ ⟨.int (g i j),H,I.tok _,⟨_,rfl⟩,q⟩
theorem zD{f:Value→Value→Sem Value}{g:Int→Int→Bool}(rule:∀(i j:Int) (t u:Tok) (s:Shared) (Q:Value→Shared→Prop) (E:Value→Shared→Prop),Q (.bool (g i j)) s→wpAny (model X.prog X.w) X.A (f (.int i t) (.int j u)) Q E s):
  OpR X f (rI0 λi j=>.bl (g i j)):=by
 intro pins s σ H x y v u Q I rx ry h;obtain⟨i,j,rfl,rfl,q⟩:=h;obtain⟨t,rfl⟩:=rx;obtain⟨t',rfl⟩:=ry;exact rule i j t t' s _ _ ⟨.bl (g i j),H,I,rfl,q⟩
def AG(i j:Int):Prop:=0<j∧j<1073741824
def vx(i j:Int):Prop:=(-(2 ^ 64)<i∧i<2 ^ 64)∨(-(2 ^ 64)<j∧j<2 ^ 64)
theorem vx.ok{i j:Int}(h:vx i j):IntMulOk i j:=by
 rcases h with⟨h1,h2⟩|⟨h1,h2⟩
 ·exact .of_left (intBits_le_64 h1 h2)
 ·exact .of_right (intBits_le_64 h1 h2)
theorem bq:OpR X (binaryOp .Add) (rI0 λi j=>.int (i+j)):=zC λ_ _ _ _ _ _ _ q=>add_int q
theorem xH:OpR X (binaryOp .Sub) (rI0 λi j=>.int (i-j)):=zC λ_ _ _ _ _ _ _ q=>sub_int q
theorem dm:OpR X (binaryOp .Mult) (rI vx λi j=>.int (i*j)):=opI λ_ _ _ _ _ _ _ hc q=>mul_int q hc.ok
theorem vz:OpR X (binaryOp .FloorDiv) (rI AG λi j=>.int (i / j)):=opI λi j _ _ _ _ _ hc q=>by
 have h1:(0:Int)<j:=hc.1;have h2:j<1073741824:=hc.2;exact floordiv_int (by omega) (by rw[Int.fdiv_eq_ediv_of_nonneg i (by omega)];exact q) (.inl (PyProof.noPylong_small (by omega)))
theorem lK:OpR X (binaryOp .Mod) (rI (λ_ j=>0<j) λi j=>.int (i % j)):=opI λi j _ _ _ _ _ hc q=>by
 have h1:(0:Int)<j:=hc;exact mod_int' (by omega) (by rw[Int.fmod_eq_emod_of_nonneg i (by omega)];exact q)
end
def zE:V→V→Bool
 |.non,.non=>true | .non,.int _=>true | .int _,.non=>true | .non,.bl _=>true | .bl _,.non=>true | .non,.str _=>true | .str _,.non=>true
 |.int _,.int _=>true | .bl _,.bl _=>true | .str _,.str _=>true | .byt _,.byt _=>true
 |.int _,.str _=>true | .str _,.int _=>true | .bl _,.str _=>true | .str _,.bl _=>true
 |_,_=>false
def rEq:R2:=λx y H Q=>zE x y=true∧Q (.bl (decide (x=y))) H
def rNe:R2:=λx y H Q=>zE x y=true∧Q (.bl (!decide (x=y))) H
theorem qb{i j:Int}:decide (V.int i=V.int j)=(i==j):=by
 rw[Bool.eq_iff_iff];simp
theorem sM{i j:Bool}:decide (V.bl i=V.bl j)=(i==j):=by
 rw[Bool.eq_iff_iff];simp
theorem qd{i j:Str}:decide (V.str i=V.str j)=(i==j):=by
 rw[Bool.eq_iff_iff];simp
theorem qe{i j:Array UInt8}:decide (V.byt i=V.byt j)=(i.toList==j.toList):=by
 rw[Bool.eq_iff_iff];cases i;cases j;simp
section
variable{X:Cx}{a b c:Expr}{ta tb tc:TE}{pos:Pos}
theorem aO{pins:List (Addr×Obj)}{σ:St}{H:Hp}{s:Shared}{Q:VK}{k k':Bool}(I:Inv X pins σ H s)(q:Q (.bl k) H)(e:k=k'):EP X pins σ Q (.bool k') s:=by
 subst e;exact⟨.bl k,H,I,rfl,q⟩
theorem sN:OpR X (compareOp .Eq) rEq:=by
 intro pins s σ H x y v u Q I rx ry h;obtain⟨hs,q⟩:=h;cases x with
 |non =>
  cases rx;cases y with
  |non=>cases ry;exact PySem.EqNone.eq_none_none (aO I q (by simp))
  |bl j=>cases ry;exact PySem.EqNone.eq_none_bool (aO I q (by simp))
  |int j=>obtain⟨t',rfl⟩:=ry;exact PySem.EqNone.eq_none_int (aO I q (by simp))
  |str j=>obtain⟨t',rfl⟩:=ry;exact PySem.EqNone.eq_none_str (aO I q (by simp))
  |_=>exact absurd (show false=true from hs) Bool.false_ne_true
 |bl i =>
  cases rx;cases y with
  |non=>cases ry;exact PySem.EqNone.eq_bool_none (aO I q (by simp))
  |bl j=>cases ry;exact eq_bool (aO I q sM)
  |str j=>obtain⟨t',rfl⟩:=ry;exact PySem.EqMixed.eq_bool_str (aO I q (by simp))
  |_=>exact absurd (show false=true from hs) Bool.false_ne_true
 |int i =>
  obtain⟨t,rfl⟩:=rx;cases y with
  |non=>cases ry;exact PySem.EqNone.eq_int_none (aO I q (by simp))
  |int j=>obtain⟨t',rfl⟩:=ry;exact eq_int (aO I q qb)
  |str j=>obtain⟨t',rfl⟩:=ry;exact PySem.EqMixed.eq_int_str (aO I q (by simp))
  |_=>exact absurd (show false=true from hs) Bool.false_ne_true
 |str i =>
  obtain⟨t,rfl⟩:=rx;cases y with
  |non=>cases ry;exact PySem.EqNone.eq_str_none (aO I q (by simp))
  |bl j=>cases ry;exact PySem.EqMixed.eq_str_bool (aO I q (by simp))
  |int j=>obtain⟨t',rfl⟩:=ry;exact PySem.EqMixed.eq_str_int (aO I q (by simp))
  |str j=>obtain⟨t',rfl⟩:=ry;exact eq_str (aO I q qd)
  |_=>exact absurd (show false=true from hs) Bool.false_ne_true
 |byt i =>
  obtain⟨t,rfl⟩:=rx;cases y with
  |byt j=>obtain⟨t',rfl⟩:=ry;exact PySem.W.eq_bytes (aO I q qe)
  |_=>exact absurd (show false=true from hs) Bool.false_ne_true
 |_=>cases y<;>exact absurd (show false=true from hs) Bool.false_ne_true
theorem iq:OpR X (compareOp .NotEq) rNe:=by
 intro pins s σ H x y v u Q I rx ry h;obtain⟨hs,q⟩:=h;cases x with
 |non =>
  cases rx;cases y with
  |non=>cases ry;exact PySem.EqNone.ne_none_none (aO I q (by simp))
  |bl j=>cases ry;exact PySem.EqNone.ne_none_bool (aO I q (by simp))
  |int j=>obtain⟨t',rfl⟩:=ry;exact PySem.EqNone.ne_none_int (aO I q (by simp))
  |str j=>obtain⟨t',rfl⟩:=ry;exact PySem.EqNone.ne_none_str (aO I q (by simp))
  |_=>exact absurd (show false=true from hs) Bool.false_ne_true
 |bl i =>
  cases rx;cases y with
  |non=>cases ry;exact PySem.EqNone.ne_bool_none (aO I q (by simp))
  |bl j=>cases ry;exact ne_bool (aO I q (congrArg not sM))
  |str j=>obtain⟨t',rfl⟩:=ry;exact PySem.EqMixed.ne_bool_str (aO I q (by simp))
  |_=>exact absurd (show false=true from hs) Bool.false_ne_true
 |int i =>
  obtain⟨t,rfl⟩:=rx;cases y with
  |non=>cases ry;exact PySem.EqNone.ne_int_none (aO I q (by simp))
  |int j=>obtain⟨t',rfl⟩:=ry;exact ne_int (aO I q (congrArg not qb))
  |str j=>obtain⟨t',rfl⟩:=ry;exact PySem.EqMixed.ne_int_str (aO I q (by simp))
  |_=>exact absurd (show false=true from hs) Bool.false_ne_true
 |str i =>
  obtain⟨t,rfl⟩:=rx;cases y with
  |non=>cases ry;exact PySem.EqNone.ne_str_none (aO I q (by simp))
  |bl j=>cases ry;exact PySem.EqMixed.ne_str_bool (aO I q (by simp))
  |int j=>obtain⟨t',rfl⟩:=ry;exact PySem.EqMixed.ne_str_int (aO I q (by simp))
  |str j=>obtain⟨t',rfl⟩:=ry;exact ne_str (aO I q (congrArg not qd))
  |_=>exact absurd (show false=true from hs) Bool.false_ne_true
 |byt i =>
  obtain⟨t,rfl⟩:=rx;cases y with
  |byt j=>obtain⟨t',rfl⟩:=ry;exact PySem.W.ne_bytes (aO I q (congrArg not qe))
  |_=>exact absurd (show false=true from hs) Bool.false_ne_true
 |_=>cases y<;>exact absurd (show false=true from hs) Bool.false_ne_true
theorem zF:OpR X (compareOp .Lt) (rI0 λi j=>.bl (decide (i<j))):=zD λ_ _ _ _ _ _ _ q=>lt_int q
theorem sO:OpR X (compareOp .Gt) (rI0 λi j=>.bl (decide (j<i))):=zD λ_ _ _ _ _ _ _ q=>gt_int q
theorem oY:OpR X (compareOp .Is) (λx y H Q=>y=.non∧Q (.bl (decide (x=.non))) H):=by
 intro pins s σ H x y v u Q I rx ry h;obtain⟨rfl,q⟩:=h;cases ry;refine is_none_gen (aO I q ?_);cases x<;>first
  |(cases rx;rfl)
  |(obtain⟨t,rfl⟩:=rx;rfl)
theorem qf:OpR X (compareOp .IsNot) (λx y H Q=>y=.non∧Q (.bl (!decide (x=.non))) H):=by
 intro pins s σ H x y v u Q I rx ry h;obtain⟨rfl,q⟩:=h;cases ry;refine isnot_none_gen (aO I q ?_);cases x<;>first
  |(cases rx;rfl)
  |(obtain⟨t,rfl⟩:=rx;rfl)
theorem OpR.or{f:Value→Value→Sem Value}{r r':R2}(h:OpR X f r)(h':OpR X f r'):OpR X f (λx y H Q=>r x y H Q∨r' x y H Q):=by
 intro pins s σ H x y v u Q I rx ry q;rcases q with q|q
 ·exact h pins s σ H x y v u Q I rx ry q
 ·exact h' pins s σ H x y v u Q I rx ry q
theorem aR(b:Expr){op:CmpOp}(h:op≠.In:=by decide)(h2:op≠.NotIn:=by decide):behindInMarks op b=false:=by
 have e1:(op==CmpOp.In)=false:=by cases op<;>first|rfl|exact absurd rfl h
 have e2:(op==CmpOp.NotIn)=false:=by cases op<;>first|rfl|exact absurd rfl h2
 cases b<;>simp[behindInMarks,e1,e2]
theorem dF{op:CmpOp}{r:R2}(ho:OpR X (compareOp op) r)(ha:PE X a ta)(hb:PE X b tb)(hm:behindInMarks op b=false):PE X (.Compare a [op] [b] pos) (tOp r ta tb):=by
 intro pins s σ H Q I h;exact wpAny_Compare1 (xG ha hb I h λv u s2 x y H2 I2 rx ry q=>ho pins s2 σ H2 x y v u Q I2 rx ry q) hm
def zG(t:TE):TT:=λσ H Q=>t σ H λx H'=>∃k,x=.bl k∧Q k H'
theorem aI{op:CmpOp}{r:R2}(ho:OpR X (compareOp op) r)(ha:PE X a ta)(hb:PE X b tb)(hm:behindInMarks op b=false):PT X (.Compare a [op] [b] pos) (zG (tOp r ta tb)):=by
 intro pins s σ H Q I h;refine wpAny_isTrue_Compare1 (thn (ha pins s σ H _ I h) λv s1 ⟨x,H1,I1,r1,q1⟩=>thn (hb pins s1 σ H1 _ I1 q1) λu s2 ⟨y,H2,I2,r2,q2⟩ =>
  thn (ho pins s2 σ H2 x y v u _ I2 r1 r2 q2) λc s3 ⟨z,H3,I3,r3,k,e,q3⟩=>?_) hm
 subst e;cases r3;exact wpAny_truthy_bool ⟨H3,I3,q3⟩
def zH(K:PySem.W.Frag)(x:V)(H:Hp)(k:Bool):Prop :=
 match x with
 |.non=>k=false
 |.bl b=>k=b
 |.int i=>k=(i != 0)
 |.str y=>y.length≤sizeLine∧k=((y.length:Int) != 0)
 |.byt y=>y.size≤sizeLine∧k=((y.size:Int) != 0)
 |.ref p=>(∃xs,SqL K H p xs∧k = !xs.isEmpty)∨(∃xs,SqT K H p xs∧k = !xs.isEmpty)∨∃kvs,H p=some (.dK kvs)∧k = !kvs.isEmpty
 |_=>False
theorem oZ{κ:Type}{kvs:List (κ×V)}{vs:List (κ×Value)}(r:KV kvs vs):(!vs.isEmpty) = !kvs.isEmpty:=by
 cases r<;>rfl
theorem jd{xs:List V}{its:List Value}(r:ar xs its):(!its.toArray.isEmpty) = !xs.isEmpty:=by
 cases r<;>simp
theorem lL:(sizeLine:Nat)<2 ^ 63:=by rw[sizeLine_eq];decide
theorem xI:AF X (λx H Q=>∃k,zH X.K x H k∧Q k H):=by
 intro pins s σ H x v Q I rx h;obtain⟨k,e,q⟩:=h;have hl:=lL;have hs:sizeLine=16777216:=sizeLine_eq;cases x with
 |non =>
  cases rx;have e':k=false:=e;subst e';exact truthy_none ⟨H,I,q⟩
 |bl b =>
  cases rx;have e':k=b:=e;subst e';exact wpAny_truthy_bool ⟨H,I,q⟩
 |int i =>
  obtain⟨t,rfl⟩:=rx;have e':k=(i != 0):=e;subst e';exact PySem.P.truthy_int ⟨H,I,q⟩
 |str y =>
  obtain⟨t,rfl⟩:=rx;obtain⟨hy,e'⟩:y.length≤sizeLine∧k=((y.length:Int) != 0):=e;subst e';exact PySem.P.truthy_str (by omega) ⟨H,I.tok _,q⟩
 |byt y =>
  obtain⟨t,rfl⟩:=rx;obtain⟨hy,e'⟩:y.size≤sizeLine∧k=((y.size:Int) != 0):=e;subst e';exact PySem.W.truthy_bytes (by omega) ⟨H,I.tok _,q⟩
 |ref p =>
  cases rx;have e':(∃xs,SqL X.K H p xs∧k = !xs.isEmpty)∨(∃xs,SqT X.K H p xs∧k = !xs.isEmpty)∨∃kvs,H p=some (.dK kvs)∧k = !kvs.isEmpty:=e;rcases e' with⟨xs,hx,e'⟩|⟨xs,hx,e'⟩|⟨kvs,hx,e'⟩
  ·subst e';obtain⟨its,r,pl,hz⟩:=I.list hx;have hlen:=r.length;exact wpAny_truthy_list pl.isList (by simp only[size_toArray];omega) ⟨H,I.tok _,by rw[jd r];exact q⟩
  ·subst e';obtain⟨its,r,pl,hz⟩:=I.tuple hx;have hlen:=r.length;exact truthy_tuple pl (by simp only[size_toArray];omega) ⟨H,I.tok _,by rw[jd r];exact q⟩
  ·subst e';obtain⟨hz,hS,vs,r,m⟩:kvs.length≤sizeLine∧(p==sysModules)=false∧∃vs,KV kvs vs∧s.heap.DictOf (aw X.prog X.w) p vs:=I.hok p _ hx;have hlen:kvs.length=vs.length:=Paired.length r;exact wpAny_truthy_dict hS m (by omega) ⟨H,I.tok _,by rw[oZ r];exact q⟩
 |_=>exact(show False from e).elim
theorem sP(ha:PE X a ta)(he:∀whole,isTrue a X.env whole=(do let v ← whole;standAt a.pos;holding [v] (truthy v))):
  PT X a (λσ H Q=>ta σ H λx H'=>∃k,zH X.K x H' k∧Q k H'):=by
 intro pins s σ H Q I h;exact isTrue_plain (thn (ha pins s σ H _ I h) λv s1 ⟨x,H1,I1,r1,q1⟩=>xI pins s1 σ H1 x v Q I1 r1 q1) (he _)
theorem cv{x:V}{us:List Value}(r:ar [x] us):∃u,us=[u]∧aH x u:=by
 cases r with
 |cons r1 r2=>cases r2;exact⟨_,rfl,r1⟩
theorem xn{x y:V}{us:List Value}(r:ar [x,y] us):∃u w',us=[u,w']∧aH x u∧aH y w':=by
 cases r with
 |cons r1 r2 =>
  cases r2 with
  |cons r3 r4=>cases r4;exact⟨_,_,rfl,r1,r3⟩
theorem rn:bX X (.type "int") (λxs H Q=>(∃i,xs=[.int i]∧Q (.int i) H)∨∃k,xs=[.bl k]∧Q (.int (if k then 1 else 0)) H):=by
 intro pins s σ H xs us Q I r h;rcases h with⟨i,rfl,q⟩|⟨k,rfl,q⟩
 ·obtain⟨u,rfl,t,rfl⟩:=cv r;exact call_int_int ⟨.int i,H,I,⟨_,rfl⟩,q⟩
 ·obtain⟨u,rfl,r1⟩:=cv r;cases r1;exact call_int_bool ⟨.int (if k then 1 else 0),H,I.tok _,⟨_,rfl⟩,q⟩
end
section
variable{prog:Program}{w:World}{A:Around}{E:Value→Shared→Prop}{s:Shared}{K:PySem.W.Frag}{x dx C f:Addr}{mA:Str→Option Value}{name:Str}{v:Value}
end
theorem eY.some_of{v:V}{o:Option Value}(r:eY (some v) o):∃u,o=some u∧aH v u:=by
 cases o with
 |none=>exact(show False from r).elim
 |some u=>exact⟨u,rfl,r⟩
theorem eY.none_of{o:Option Value}(r:eY none o):o=none:=by
 cases o with
 |none=>rfl
 |some u=>exact(show False from r).elim
section
variable{P:Program}{w:World}{H H':Hp}{h h':Heap}{a C dx:Addr}{fs fs':List (Str×V)}
end
section
variable{X:Cx}{pins:List (Addr×Obj)}{σ:St}{H:Hp}{s:Shared}{a C dx:Addr}{fs:List (Str×V)}{f:Str}{v:V}{A:Around}{E:Value→Shared→Prop}
end
section
variable{X:Cx}{o e value:Expr}{f:Str}{pos pos' tpos:Pos}{ta tv:TE}
end
section
variable{X:Cx}{pins:List (Addr×Obj)}{σ:St}{H:Hp}{s:Shared}{A:Around}{E:Value→Shared→Prop}{Q:Value→Shared→Prop}{c:Value}{b:Bool}
end
structure Room(k:Nat)(A:Around):Prop where
 hd:A.handled=none
 dp:A.depth+3*k+5<recursionLimit
 un:A.units+16*k+200<cLine
 gd:A.guards=some []
theorem Room.mono{j k:Nat}{A:Around}(r:Room k A)(h:j≤k):Room j A:=⟨r.hd,by have:=r.dp;omega,by have:=r.un;omega,r.gd⟩
theorem Room.deeper{k:Nat}{A:Around}(r:Room (k+1) A)(env:Env):Room k (A.deeper env) :=
 ⟨r.hd,by have:=r.dp;show A.depth+1+3*k+5<_;omega,by have:=r.un;show A.units+3+16*k+200<_;omega,r.gd⟩
theorem Room.depth{k:Nat}{A:Around}(r:Room k A):A.depth<recursionLimit:=by have:=r.dp;omega
theorem Room.units{k:Nat}{A:Around}(r:Room k A):A.units+64<cLine:=by have:=r.un;omega
theorem Room.units0{k:Nat}{A:Around}(r:Room k A):A.units<cLine:=by have:=r.un;omega
def pb:TA:=λ_ H Q=>Q [] H
def ir(ta:TE)(tr:TA):TA:=λσ H Q=>ta σ H λx H1=>tr σ H1 λxs H2=>Q (x::xs) H2
section
variable{X:Cx}{e:Expr}{es:List Expr}{te:TE}{t:TA}{pos:Pos}
theorem af:PA X [] pb:=λ_ _ _ _ H Q I h=>spliced_nil ⟨[],H,I,.nil,h⟩
theorem aa(ha:PE X e te)(hr:PA X es t)(hs:starEach (e::es) X.env=(false,eval e X.env)::starEach es X.env:=by rfl):PA X (e::es) (ir te t):=by
 intro pos pins s σ H Q I h;rw[hs];show wpAny _ _ (spliced ((false,eval e X.env)::backTo pos (starEach es X.env))) _ _ s;refine spliced_cons (thn (ha pins s σ H _ I h) λu s1 hpt=>?_);obtain⟨x,H1,I1,r1,q1⟩:=hpt;exact thn (hr pos pins s1 σ H1 _ I1 q1) λus s2 ⟨xs,H2,I2,r2,q2⟩=>⟨x::xs,H2,I2,.cons r1 r2,q2⟩
def AH(t:TA):TE:=λσ H Q=>t σ H λxs H1=>xs.length≤sizeLine∧∀p,H1 p=none→Q (.ref p) (upd H1 p (.tup xs))
def AI(t:TA):TE:=λσ H Q=>t σ H λxs H1=>xs.length≤sizeLine∧∀p,H1 p=none→Q (.ref p) (upd H1 p (.lst xs))
theorem bh{x1}(h:PA X es t):PE X (.Tuple es x1 pos) (AH t):=by
 intro pins s σ H Q I hq;refine wpAny_Tuple_spliced (thn (h pos pins s σ H _ I hq) λus s1 ⟨xs,H1,I1,r,z,q⟩=>⟨by rw[←r.length];exact z,?_⟩);have hf:H1 s1.heap.objs.size=none:=I1.hok.fresh (le_refl _);refine⟨.ref s1.heap.objs.size,upd H1 s1.heap.objs.size (.tup xs),I1.laid (t':=s1.toks) (λb u e=>get?_push_of_some _ e) (le_refl _) ?_,rfl,q _ hf⟩;exact⟨z,us,r,⟨_,get?_push_size _ rfl,rfl,_,rfl⟩⟩
theorem bw(h:PA X es t):PE X (.List es pos) (AI t):=by
 intro pins s σ H Q I hq;refine wpAny_List_spliced (thn (h pos pins s σ H _ I hq) λus s1 ⟨xs,H1,I1,r,z,q⟩=>⟨by rw[←r.length];exact z,?_⟩);have hf:H1 s1.heap.objs.size=none:=I1.hok.fresh (le_refl _);refine⟨.ref s1.heap.objs.size,upd H1 s1.heap.objs.size (.lst xs),I1.laid (t':=s1.toks) (λb u e=>get?_push_of_some _ e) (le_refl _) ?_,rfl,q _ hf⟩;exact⟨z,us,0,r,get?_push_size _ rfl⟩
end
abbrev Sp:=List V→Hp→VK→XK→Prop
abbrev CXT:=List Env→Hp→Shared→XK→Value→Shared→Prop
structure Env0(P:Program)(w:World)(K:PySem.W.Frag)(mg:Str→Option Value)(base:Heap)(A:Around)(outer:List Env)(s:Shared)(H:Hp):Prop where
 frames:A.frames=some outer
 mod:Mod K mg base
 bs:∀b o,base.get? b=some o→s.heap.get? b=some o∧H b=none
 bsz:base.objs.size≤s.heap.objs.size
 funs:s.heap.FunFrames base outer
 frf:∀b∈frs outer,H b=none
 hok:HOk P w H s.heap
 bare:AllBare s.gens
def CE(outer:List Env)(P:Program)(w:World)(H:Hp)(s:Shared)(Q:VK)(u:Value)(s':Shared):Prop :=
 ∃v H',s'.os=s.os∧AllBare s'.gens∧Un (frs outer) [] H H' s.heap s'.heap∧HOk P w H' s'.heap∧aH v u∧Q v H'
def CR(CX:CXT)(outer:List Env)(P:Program)(w:World)(H:Hp)(s:Shared)(Q:VK)(E:XK)(r:Result)(s':Shared):Prop :=
 match r with
 |.ok (.ret u)=>CE outer P w H s Q u s'
 |.ok _=>False
 |.error e=>CX outer H s E e s'
structure FnOk(P:Program)(w:World)(K:PySem.W.Frag)(mg:Str→Option Value)(base:Heap)(CX:CXT)(k:Nat)(f:Addr)(fd:FuncData)(ps:List Str)(sp:Sp):Prop where
 len:∀vs H Q E,sp vs H Q E→vs.length=ps.length
 run:∀(A:Around)(outer:List Env)(s:Shared)(H:Hp)(args:Args)(us:List Value)(vs:List V)(Q:VK)(E:XK),Room k A→Env0 P w K mg base A outer s H→BindsTo s fd args (ps.zip us)→ar vs us→sp vs H Q E →
  codeAny (model P w) A (.call (.ref f) args) (CR CX outer P w H s Q E) s
theorem FnOk.imp{P:Program}{w:World}{K:PySem.W.Frag}{mg:Str→Option Value}{base:Heap}{CX:CXT}{k:Nat}{f:Addr}{fd:FuncData}{ps:List Str}{sp sp':Sp}(F:FnOk P w K mg base CX k f fd ps sp)(h:∀vs H Q E,sp' vs H Q E→sp vs H Q E):FnOk P w K mg base CX k f fd ps sp' :=
 ⟨λvs H Q E q=>F.len vs H Q E (h _ _ _ _ q),λA outer s H args us vs Q E hr he hb hv hs=>F.run A outer s H args us vs Q E hr he hb hv (h _ _ _ _ hs)⟩
section
variable{X:Cx}{pins:List (Addr×Obj)}{σ:St}{H:Hp}{s s':Shared}
theorem Inv.env0(I:Inv X pins σ H s):Env0 X.prog X.w X.K X.mg X.base X.A X.stack s H :=
 ⟨I.ok.frames,I.ok.mod,I.bs,le_trans I.ok.bsz I.sz,I.stack,I.stkFree,I.hok,I.bare⟩
theorem Inv.after{Q:VK}{u:Value}(I:Inv X pins σ H s)(h:CE X.stack X.prog X.w H s Q u s'):EP X pins σ Q u s':=by
 obtain⟨v,H',os,bare,un,hok,r,q⟩:=h;obtain⟨hh,g,d,t,os'⟩:=s';obtain rfl:os'=s.os:=os;exact⟨v,H',I.call (h':=hh) (g':=g) (d':=d) (t':=t) (ch:=[]) un hok bare (λb z=>absurd z (by simp)),r,q⟩
end
def sQ(sp:Sp)(dvs:List V)(E:XK)(t:TA):TE:=λσ H Q=>t σ H λvs H1=>sp (vs++dvs) H1 Q E
def cP(K:PySem.W.Frag)(fd:FuncData)(ps:List Str)(ds:List Value):Prop :=
 ∀(s:Shared)(us:List Value),K.In s.heap→(us++ds).length=ps.length→BindsTo s fd ⟨us,[]⟩ (ps.zip (us++ds))
theorem cP.all{K:PySem.W.Frag}{fd:FuncData}{ps:List Str}(h:∀us:List Value,us.length=ps.length→bindArgs fd ⟨us,[]⟩=pure (ps.zip us)):cP K fd ps []:=λs us _ hl=>by
 rw[append_nil]at hl⊢;exact .of_eq (h us hl)
def gM(CX:CXT)(X:Cx)(E:XK):Prop:=∀(pins:List (Addr×Obj))(σ:St)(H:Hp)(s:Shared)(e:Value)(s':Shared),Inv X pins σ H s→CX X.stack H s E e s'→X.xe e s'
section
variable{X:Cx}{CX:CXT}{k:Nat}{f C:Addr}{fd:FuncData}{ps:List Str}{sp:Sp}{dvs:List V}{ds:List Value}{E:XK}{x m:Str}{p pos apos:Pos}{e o:Expr}{es:List Expr}{ta:TE}{t:TA}
theorem xJ{pins:List (Addr×Obj)}{σ:St}{H:Hp}{s:Shared}{Q:VK}{us:List Value}{vs:List V}(F:FnOk X.prog X.w X.K X.mg X.base CX k f fd ps sp)(hr:Room k X.A)(hb:cP X.K fd ps ds)(hd:ar dvs ds)(hx:gM CX X E)(I:Inv X pins σ H s)(r:ar vs us)(h:sp (vs++dvs) H Q E):wpAny (model X.prog X.w) X.A (call (.ref f) us) (EP X pins σ Q) X.xe s:=by
 have r2:ar (vs++dvs) (us++ds):=r.append hd;have hl:(us++ds).length=ps.length:=by rw[←r2.length];exact F.len _ _ _ _ h
 refine wpAny_call (codeAny_mono (F.run X.A X.stack s H ⟨us,[]⟩ (us++ds) (vs++dvs) Q E hr I.env0 (hb s us I.kIn hl) r2 h) λr s' hq=>?_);cases r with
 |error e=>exact hx pins σ H s e s' I hq
 |ok fl =>
  cases fl with
  |ret u=>exact I.after hq
  |next=>exact False.elim hq
  |brk=>exact False.elim hq
  |cont=>exact False.elim hq
theorem ak(F:FnOk X.prog X.w X.K X.mg X.base CX k f fd ps sp)(hr:Room k X.A)(hg:Gl X x)(hm:X.mg x=some (.ref f))(hk:keepIn X.K (.ref f)=true)(hb:cP X.K fd ps ds)(hd:ar dvs ds)(hx:gM CX X E)(ha:PA X (e::es) t)(hdb:(x==("__debug__":Str))=false:=by decide)(he:starEach (e::es) X.env=(false,eval e X.env)::starEach es X.env:=by rfl)(hpl:(backTo pos (starEach es X.env)).any (·.1)=false:=by rfl):
  PE X (.Call (.Name x p) (e::es) [] pos) (sQ sp dvs E t):=by
 intro pins s σ H Q I h;refine wpAny_Call_Name_kw (fE I hg hm ?_ hdb);refine callWith_K (h₀:=X.base) I.ok.mod.kin hk (thn (ha pos pins s σ H _ I h) λus s1 ⟨vs,H1,I1,r,q⟩=>⟨I1.kIn,?_⟩) he hpl;exact xJ F hr hb hd hx I1 r q
end
section
variable{X:Cx}{CX:CXT}{k:Nat}{f C:Addr}{fd:FuncData}{ps ks:List Str}{sp:Sp}{E:XK}{x m:Str}{p pos apos kpos:Pos}{e o:Expr}{es:List Expr}{kws:List Keyword}{te ta:TE}{t tk:TA}{nm:Option Str}
variable{g:List Value→List Value→List Value}{gV:List V→List V→List V}
end
structure FnScope(N P:List Str)(sc:Scope):Prop where
 kind:sc.kind=.function
 co:sc.isCoroutine=false
 gen:sc.isGenerator=false
 nd:N.Nodup
 pre:N.take P.length=P
 par:∀x∈P,sc.names.lookup x=some .local∨sc.names.lookup x=some .cell
 nofree:∀y∈sc.names,y.2≠.free
theorem fsc{N P:List Str}{c:Scope}(a:c.kind=.function:=by rfl)(b:c.isCoroutine=false:=by rfl)(d:c.isGenerator=false:=by rfl)(e:N.Nodup:=by decide +kernel)(f:N.take P.length=P:=by rfl)(g:∀x∈P,c.names.lookup x=some .local∨c.names.lookup x=some .cell:=by decide +kernel)(h:∀y∈c.names,y.2≠.free:=by decide +kernel):FnScope N P c:=⟨a,b,d,e,f,g,h⟩
theorem kE{kindOf:Str→Option NameKind}{x:Str}:∀{binds:List (Str×Value)}{m:Str→Option Value},(∀v,(x,v)∉binds)→bindL kindOf binds m x=m x
 |[],_,_=>rfl
 |(n,v)::r,m,h=>by
  unfold bindL;rw[kE λw hw=>h w (mem_cons_of_mem _ hw)]
  split
  ·have:x≠n:=by rintro rfl;exact h v mem_cons_self
   simp[this]
  ·rfl
theorem kJ{kindOf:Str→Option NameKind}{x:Str}:∀{binds:List (Str×Value)}{m:Str→Option Value},(∀v,(x,v)∉binds)→bindC kindOf binds m x=m x
 |[],_,_=>rfl
 |(n,v)::r,m,h=>by
  unfold bindC;rw[kJ λw hw=>h w (mem_cons_of_mem _ hw)]
  split
  ·rfl
  ·have:x≠n:=by rintro rfl;exact h v mem_cons_self
   simp[this]
theorem gO{kindOf:Str→Option NameKind}{x:Str}{v:Value}:∀{P:List Str}{vs:List Value}{i:Nat}{m:Str→Option Value},P.Nodup→P[i]?=some x→vs[i]?=some v→kindOf x=some .local →
  bindL kindOf (P.zip vs) m x=some v
 |[],_,_,_,_,h,_,_=>by simp at h
 |_::_,[],_,_,_,_,h,_=>by simp at h
 |p::P,w::vs,0,m,nd,h1,h2,hk=>by
  simp at h1 h2;subst h1;subst h2;show bindL kindOf ((p,w)::P.zip vs) m p=_;unfold bindL;rw[kE λv hv=>(nodup_cons.mp nd).1 (of_mem_zip hv).1,if_pos hk];simp
 |p::P,w::vs,i+1,m,nd,h1,h2,hk=>by
  show bindL kindOf ((p,w)::P.zip vs) m x=_;unfold bindL;exact gO (i:=i) (nodup_cons.mp nd).2 (by simpa using h1) (by simpa using h2) hk
theorem gP{kindOf:Str→Option NameKind}{x:Str}{v:Value}:∀{P:List Str}{vs:List Value}{i:Nat}{m:Str→Option Value},P.Nodup→P[i]?=some x→vs[i]?=some v→kindOf x≠some .local →
  bindC kindOf (P.zip vs) m x=some v
 |[],_,_,_,_,h,_,_=>by simp at h
 |_::_,[],_,_,_,_,h,_=>by simp at h
 |p::P,w::vs,0,m,nd,h1,h2,hk=>by
  simp at h1 h2;subst h1;subst h2;show bindC kindOf ((p,w)::P.zip vs) m p=_;unfold bindC;rw[kJ λv hv=>(nodup_cons.mp nd).1 (of_mem_zip hv).1,if_neg hk];simp
 |p::P,w::vs,i+1,m,nd,h1,h2,hk=>by
  show bindC kindOf ((p,w)::P.zip vs) m x=_;unfold bindC;exact gP (i:=i) (nodup_cons.mp nd).2 (by simpa using h1) (by simpa using h2) hk
def start(N:List Str)(vs:List V):St:=vs.map some++List.replicate (N.length-vs.length) none
def fM(CX:CXT)(P:Program)(w:World)(K:PySem.W.Frag)(mg:Str→Option Value)(base:Heap)(N:List Str)(qual:Str)(scope:Scope)(f:Addr)(cd:Value)(A:Around)(outer:List Env)(s:Shared)(H:Hp)(E:XK):Cx where
 prog:=P
 w:=w
 K:=K
 mg:=mg
 base:=base
 A:=A.deeper (envOfC qual scope s.heap.objs.size f cd)
 N:=N
 s₀:=s
 H₀:=H
 env:=envOfC qual scope s.heap.objs.size f cd
 outer:=outer
 stack:=envOfC qual scope s.heap.objs.size f cd::outer
 ex:=[]
 calm:=true
 fn:=λ_=>true
 pn:=[]
 xe:=λe s'=>wpAny (model P w) (A.deeper (envOfC qual scope s.heap.objs.size f cd)) (leaving (envOfC qual scope s.heap.objs.size f cd) e) (λ_ s''=>CX outer H s E e s'') (λe' s''=>CX outer H s E e' s'') s'
theorem fR{sc:Scope}{n:Nat}{x:Str}(h:sc.names.lookup x=some .cell):∃c,(cellsFrom n sc.names []).lookup x=some c:=by
 have q:=cellsFrom_some sc.names n [] (.inl h);exact Option.isSome_iff_exists.mp q
theorem ro{CX:CXT}{P:Program}{w:World}{K:PySem.W.Frag}{mg:Str→Option Value}{base:Heap}{N ps:List Str}{qual:Str}{scope:Scope}{f:Addr}{cd:Value}{A:Around}{outer:List Env}{s s1:Shared}{H:Hp}{E:XK}{us:List Value}{vs:List V}(S:FnScope N ps scope)(hd:A.handled=none)(e0:Env0 P w K mg base A outer s H)(hl:vs.length=ps.length)(r:ar vs us)(x:InCallC s s.heap.objs.size (bindL (envOfC qual scope s.heap.objs.size f cd).kindOf (ps.zip us) λ_=>none) (cellsFrom (s.heap.objs.size+1) scope.names []) (bindC (envOfC qual scope s.heap.objs.size f cd).kindOf (ps.zip us) λ_=>none) s1):
  Inv (fM CX P w K mg base N qual scope f cd A outer s H E) [] (start N vs) H s1:=by
 have hpl:ps.length≤N.length:=by have:=congrArg length S.pre;rw[length_take]at this;omega
 obtain⟨h1,tk,rfl,hk⟩:=x.done;have noA:∀b:Addr,b∉(fM CX P w K mg base N qual scope f cd A outer s H E).ex:=λb z=>absurd (show b∈([]:List Addr)from z) (by simp);refine⟨⟨e0.mod,S.kind,rfl,rfl,le_refl _,λy z c h1 h2=>?_,λy hy=>?_,λy c _ h=>?_,λ_=>hd,Around.frames_deeper e0.frames,.inr ⟨rfl,rfl⟩,λb z=>absurd z (noA b),e0.bs,e0.bsz,λb _ _=>noA b,λb z=>absurd z (noA b),e0.funs,e0.frf⟩,
  rfl,e0.bare,Un.kept hk,⟨_,x.toInCall.ns,λi y v h1 h2 h3=>?_⟩,λy c h=>⟨_,x.cell y c h⟩,e0.hok.fresh (le_refl _),λy c h=>?_,λp hp=>absurd (show p∈([]:List (Addr×Obj))from hp) (by simp),e0.hok.kept hk,?_⟩
 ·exact name_of_addr x.apart (PySem.mem_of_lookup h1) (PySem.mem_of_lookup h2)
 ·have hy:scope.names.lookup y=some .cell∨scope.names.lookup y=some .free:=hy;rcases hy with hy|hy
  ·exact fR hy
  ·exact absurd rfl (S.nofree _ (PySem.mem_of_lookup hy))
 ·exact le_of_lt (x.above y c (PySem.mem_of_lookup h))
 ·have hi:i<vs.length:=by
   unfold start at h2
   by_cases hi:i<vs.length
   ·exact hi
   ·rw[List.getElem?_append_right (by simpa using hi)]at h2;rw[List.getElem?_replicate]at h2
    split at h2<;>cases h2
  have ha:vs[i]?=some v:=by
   unfold start at h2;rw[getElem?_append_left (by simpa using hi),getElem?_map]at h2;cases e:vs[i]? with
   |none=>rw[e]at h2;cases h2
   |some a=>rw[e]at h2;cases h2;rfl
  obtain⟨u,hu,rv⟩:=r.get ha;have hp:ps[i]?=some y:=by
   rw[←S.pre,List.getElem?_take_of_lt (by omega)];exact h1
  have ndP:ps.Nodup:=by rw[←S.pre];exact S.nd.sublist (take_sublist _ _)
  refine⟨u,rv,?_⟩;rcases S.par y (mem_of_getElem? hp)with k|k
  ·exact .inl ⟨k,gO ndP hp hu k⟩
  ·obtain⟨c,e⟩:=fR (n:=s.heap.objs.size+1) k;refine .inr ⟨.inl k,c,e,?_⟩;have q:=x.cell y c e;rw[gP ndP hp hu (by show scope.names.lookup y≠_;rw[k];decide)]at q;exact q
 ·exact e0.hok.fresh (le_of_lt (x.above y c (PySem.mem_of_lookup h)))
 ·unfold start;show _=N.length;rw[length_append,length_map,length_replicate];omega
theorem xo{CX:CXT}{P:Program}{w:World}{K:PySem.W.Frag}{mg:Str→Option Value}{base:Heap}{k:Nat}{f:Addr}{name qual:Str}{params:Arguments}{body:List Stmt}{scope:Scope}{dV kV doc pm cdv ct oc:Value}{an od:Option Addr}{osl:Array (Option Value)}{N ps:List Str}{sp:Sp}(lk:K.lookup f=some ⟨oc,od,.func (fnOf name qual params body scope dV kV doc pm an cdv ct),osl⟩)(hcd:codeIn K cdv qual=true)(S:FnScope N ps scope)(len:∀vs H Q E,sp vs H Q E→vs.length=ps.length)(hbody:∀(A:Around) (outer:List Env) (s:Shared) (H:Hp) (vs:List V) (Q:VK) (E:XK),Room k (A.deeper (envOfC qual scope s.heap.objs.size f cdv))→sp vs H Q E →
   ∃t,PSs (fM CX P w K mg base N qual scope f cdv A outer s H E) body t∧t {nx:=λ_ H'=>Q .non H',rt:=Q} (start N vs) H):
  FnOk P w K mg base CX (k+1) f (fnOf name qual params body scope dV kV doc pm an cdv ct) ps sp:=by
 refine⟨len,λA outer s H args us vs Q E hr e0 hb r hsp=>?_⟩;have hl:=len _ _ _ _ hsp;have KX:K.In s.heap:=e0.mod.kin.keeps λb o e=>(e0.bs b o e).1;have lim:s.heap.NoLimit:=e0.mod.nolimit.keeps λb o e=>(e0.bs b o e).1;have hkind:∀y∈ps.zip us,scope.names.lookup y.1=some .local∨(scope.names.lookup y.1=some .cell∧((cellsFrom (s.heap.objs.size+1) scope.names []).lookup y.1).isSome=true):=λ⟨n,v⟩ hy=>by
  rcases S.par n (of_mem_zip hy).1 with q|q
  ·exact .inl q
  ·exact .inr ⟨q,cellsFrom_some _ _ _ (.inl q)⟩
 refine codeAny_call_function hr.depth (KX _ _ lk) rfl S.co S.gen rfl (codeRec_of KX hcd) (hb _ _ _ _ ?_);refine wpAny_newFunctionEnv_cells S.kind hkind λenv he s1 x=>?_;subst he;refine⟨lim.keeps x.toInCall.keep,codeAny_func ?_⟩;obtain⟨t,ht,hq⟩:=hbody A outer s H vs Q E (hr.deeper _) hsp;have I:Inv (fM CX P w K mg base N qual scope f cdv A outer s H E) [] (start N vs) H s1:=ro S hr.hd e0 hl r x;refine wpAny_mono (ht [] s1 (start N vs) H _ I hq) (λfl s' hs=>?_) λe s' hs=>hs;have fin:∀{σ':St}{H':Hp}{v:V}{u:Value},Inv (fM CX P w K mg base N qual scope f cdv A outer s H E) [] σ' H' s'→aH v u→Q v H'→CE outer P w H s Q u s' :=
  λ{σ' H' v u} J rv q=>⟨v,H',J.os,J.bare,J.base,J.hok,rv,q⟩
 cases fl with
 |ret u =>
  obtain⟨v,σ',H',J,rv,q⟩:=hs;exact fin J rv q
 |next =>
  obtain⟨σ',H',J,q⟩:=hs;exact fin (v:=V.non) (u:=Value.none) J rfl q
 |brk =>
  obtain⟨_,_,_,q⟩:=hs;exact False.elim q
 |cont =>
  obtain⟨_,_,_,q⟩:=hs;exact False.elim q
section
variable{X:Cx}{x:Str}{p pos:Pos}{e:Expr}{es:List Expr}{t:TA}{id T:String}{r:List V→Hp→VK→Prop}
def tCB(r:List V→Hp→VK→Prop)(t:TA):TE:=λσ H Q=>t σ H λvs H1=>r vs H1 Q
theorem aT(hc:bX X (.builtin id) r)(hg:Gl X x)(hm:X.mg x=none)(hv:bootBuiltins x=some (.builtin id))(ha:PA X (e::es) t)(hn:x≠"__name__":=by decide)(hdb:(x==("__debug__":Str))=false:=by decide)(he:starEach (e::es) X.env=(false,eval e X.env)::starEach es X.env:=by rfl)(hpl:(backTo pos (starEach es X.env)).any (·.1)=false:=by rfl):PE X (.Call (.Name x p) (e::es) [] pos) (tCB r t):=by
 intro pins s σ H Q I h;refine wpAny_Call_Name_kw (fg I hg hm hv ?_ hn hdb);exact PyProof.Rows.callWith_builtin1 (thn (ha pos pins s σ H _ I h) λus s1 ⟨vs,H1,I1,r1,q1⟩=>hc pins s1 σ H1 vs us Q I1 r1 q1) he hpl
theorem aD(hc:bX X (.type T) r)(hg:Gl X x)(hm:X.mg x=none)(hv:bootBuiltins x=some (.type T))(ha:PA X (e::es) t)(hn:x≠"__name__":=by decide)(hdb:(x==("__debug__":Str))=false:=by decide)(he:starEach (e::es) X.env=(false,eval e X.env)::starEach es X.env:=by rfl)(hpl:(backTo pos (starEach es X.env)).any (·.1)=false:=by rfl):PE X (.Call (.Name x p) (e::es) [] pos) (tCB r t):=by
 intro pins s σ H Q I h;refine wpAny_Call_Name_kw (fg I hg hm hv ?_ hn hdb);exact PyProof.Rows.callWith_type1 (thn (ha pos pins s σ H _ I h) λus s1 ⟨vs,H1,I1,r1,q1⟩=>hc pins s1 σ H1 vs us Q I1 r1 q1) he hpl
end
end L2
namespace HT
open PySem PyProof.Rows
section
open PySem.SeqAt
open PySem.AutoSeq1 (wpAny_loadPart')
open PySem.MeetsSeq PySem.MeetsSeq2 PySem.MeetsSeq3
end
section
variable{prog:Program}{w:World}{A:Around}{E:Value→Shared→Prop}{s:Shared}
theorem vA{t b:Addr}{vs ws:List Value}{Q:Value→Shared→Prop}(ht:IsTup s.heap t vs.toArray)(hb:IsTup s.heap b ws.toArray)(hv:vs≠[])(h1:ws=[]→Q (.ref t) s)(h2:ws≠[]→Q (.ref s.heap.objs.size) {s with heap:=s.heap.push {cls:=.type "tuple",data:=.seq (vs++ws).toArray}})(hsz:vs.length+ws.length≤sizeLine):wpAny (model prog w) A (binaryOp .Add (.ref t) (.ref b)) Q E s:=by
 obtain⟨⟨cls,dd,data,sl⟩,ho,hc,n,hd⟩:=id ht;obtain⟨⟨cls2,dd2,data2,sl2⟩,ho2,hc2,n2,hd2⟩:=id hb;simp only at hc hd hc2 hd2;subst hc hd hc2 hd2;have e:vs.toArray++ws.toArray=(vs++ws).toArray:=by simp
 by_cases hw:ws=[]
 ·exact concat_meets ⟨_,ho,rfl⟩ ⟨_,ho2,rfl⟩ noFill_tuple_add seq_tuple_add slot_tuple_add entry_tuple_add (args_tuple_add_2 _ _)
   (tuple_addW1 t b vs.toArray ws.toArray n n2 dd dd2 sl sl2 (by simpa using hv) (by simp[hw])) ⟨ho,ho2,h1 hw⟩
 ·refine concat_meets ⟨_,ho,rfl⟩ ⟨_,ho2,rfl⟩ noFill_tuple_add seq_tuple_add slot_tuple_add entry_tuple_add (args_tuple_add_2 _ _)
   (tuple_addW2 t b vs.toArray ws.toArray n n2 dd dd2 sl sl2 (by simpa using hv) (by simpa using hw) (by rw[size_toArray,size_toArray];exact hsz)) ⟨ho,ho2,?_⟩
  rw[e];exact h2 hw
def sIx(n d:Nat):Option Int→Nat
 |none=>d
 |some v=>if v<0 then (v+(n:Int)).toNat else min v.toNat n
theorem xK(n d:Nat)(hd:d≤n)(o:Option Int):sIx n d o≤n:=by
 cases o with
 |none=>exact hd
 |some v =>
  show(if v<0 then (v+(n:Int)).toNat else min v.toNat n)≤n
  by_cases hv:v<0
  ·rw[if_pos hv];omega
  ·rw[if_neg hv];exact Nat.min_le_right _ _
theorem qg(v:Int)(n d:Nat):(if v<0 then max (v+(n:Int)) 0 else min v (n:Int))=((sIx n d (some v):Nat):Int):=by
 show(if v<0 then max (v+(n:Int)) 0 else min v (n:Int))=(((if v<0 then (v+(n:Int)).toNat else min v.toNat n):Nat):Int)
 by_cases hv:v<0
 ·simp only[if_pos hv];omega
 ·simp only[if_neg hv];omega
theorem pc(lo hi:Option Int)(n:Nat):Builtin.Slice.sliceAdjust lo hi 1 (n:Int)=(((sIx n 0 lo:Nat):Int),((sIx n n hi:Nat):Int)):=by
 have h1:¬((1:Int)<0):=by omega
 unfold Builtin.Slice.sliceAdjust;simp only[h1,if_false];refine Prod.ext ?_ ?_
 ·cases lo with
  |none=>rfl
  |some v=>exact qg v n 0
 ·cases hi with
  |none=>rfl
  |some v=>exact qg v n n
theorem pg(i j:Nat):Builtin.Slice.slicePlaces (i:Int) (j:Int) 1=j-i:=by
 unfold Builtin.Slice.slicePlaces;have h1:(1:Int)>0:=by omega
 simp only[h1,if_true,Int.ediv_one]
 split<;>omega
theorem je{v:Value}{o:Option Int}{Q:Option Int→Shared→Prop}(p:IsPart v o)(h:Q o s):wpAny (model prog w) A (Builtin.Slice.slicePartIndex v) Q E s:=by
 cases p with
 |none=>exact slicePart_none h
 |int i t=>exact slicePart_int h
theorem gQ{sl:Addr}{vl vu:Value}{lo hi:Option Int}{n:Nat}{Q:Int×Int×Nat→Shared→Prop}(hs:s.heap.IsSliceOf sl vl vu .none)(pl:IsPart vl lo)(pu:IsPart vu hi)(h:Q (((sIx n 0 lo:Nat):Int),1,sIx n n hi-sIx n 0 lo) s):wpAny (model prog w) A (Builtin.Slice.sliceApplied (.ref sl) (pure (n:Int))) Q E s:=by
 obtain⟨os,hos,hcs,hds⟩:=id hs;unfold Builtin.Slice.sliceApplied Builtin.Slice.sliceFields;refine wpAny_bind (wpAny_bind (wpAny_field hos hds (x:=vl) rfl (wpAny_bind (wpAny_field hos hds (x:=vu) rfl (wpAny_bind (wpAny_field hos hds (x:=.none) rfl (wpAny_pure ?_)))))));refine wpAny_bind (slicePart_none ?_);show wpAny _ _ (if ((1:Int)==0)=true then _ else _) _ _ s
 rw[if_neg (by decide)];refine wpAny_bind (je pl (wpAny_bind (je pu (wpAny_bind (wpAny_pure ?_)))));show wpAny _ _ (match Builtin.Slice.sliceAdjust lo hi 1 (n:Int)with|(lo,hi)=>pure (lo,(1:Int),Builtin.Slice.slicePlaces lo hi 1)) _ _ s
 rw[pc lo hi n];show wpAny _ _ (pure (((sIx n 0 lo:Nat):Int),(1:Int),Builtin.Slice.slicePlaces ((sIx n 0 lo:Nat):Int) ((sIx n n hi:Nat):Int) 1)) _ _ s;rw[pg];exact wpAny_pure h
theorem sR(xs:Array Value)(i k:Nat):((List.range k).filterMap λ(m:Nat)=>xs[((i:Int)+(m:Int)*1).toNat]?).toArray=((xs.toList.drop i).take k).toArray:=by
 have e:(λ(m:Nat)=>xs[((i:Int)+(m:Int)*1).toNat]?)=λm=>xs[i+m]?:=by
  funext m
  have:((i:Int)+(m:Int)*1).toNat=i+m:=by omega
  rw[this]
 rw[e];have:=pick_run xs i k;rw[List.filterMap_map]at this;have e2:((λx=>xs[x]?)∘λx=>i+x)=λm=>xs[i+m]?:=rfl;rw[e2]at this;rw[this]
theorem fV{t sl:Addr}{items:Array Value}{vl vu:Value}{lo hi:Option Int}{Q:Value→Shared→Prop}(ht:IsTup s.heap t items)(hs:s.heap.IsSliceOf sl vl vu .none)(pl:IsPart vl lo)(pu:IsPart vu hi)(hw:¬(sIx items.size 0 lo=0∧sIx items.size items.size hi=items.size))(h:Q (.ref s.heap.objs.size) {s with heap:=s.heap.push {cls:=.type "tuple",data:=.seq ((items.toList.drop (sIx items.size 0 lo)).take (sIx items.size items.size hi-sIx items.size 0 lo)).toArray}})(hsz:items.size≤sizeLine):wpAny (model prog w) A (getItem (.ref t) (.ref sl)) Q E s:=by
 have htake:sizeOk (.seq ((items.toList.drop (sIx items.size 0 lo)).take (sIx items.size items.size hi-sIx items.size 0 lo)).toArray):=by
  show((items.toList.drop (sIx items.size 0 lo)).take (sIx items.size items.size hi-sIx items.size 0 lo)).toArray.size≤sizeLine;rw[size_toArray,length_take,length_drop,length_toList];omega
 have hj:sIx items.size items.size hi≤items.size:=xK _ _ (le_refl _) hi;obtain⟨os,hos,hcs,hds⟩:=id hs;have hTs:s.TypeIs (.ref sl) "slice":=⟨os,hos,hcs⟩;unfold getItem
 try with_reducible refine wpAny_holding ?_
 first|refine wpAny_bind (wpAny_pure ?_)|skip
 refine wpAny_bind (wpAny_sequenceKey ht.typeIs (by decide) ?_);refine wpAny_bind (wpAny_callSpecial?_slot (name:=ofString "__getitem__") ht.typeIs PyProof.Rows.slot_tuple_getitem
  (wpAny_call_entry PyProof.Rows.slot_tuple_getitem ht.typeIs entry_tuple_getitem ?_ (args_tuple_getitem _ _)))
 show wpAny _ _ (Builtin.Tuple.tupleItemsOf (.ref t) >>= _) _ _ s;refine wpAny_bind (tupleItemsOf_ ht ?_);refine wpAny_bind (wpAny_typeOf hTs ?_);rw[if_pos (by decide)];refine wpAny_bind (gQ hs pl pu ?_);have hno:¬((((sIx items.size 0 lo:Nat):Int)==0&&(1:Int)==1&&(sIx items.size items.size hi-sIx items.size 0 lo)==items.size)=true):=by
  intro q;rw[and_eq_true,and_eq_true]at q;have q1:((sIx items.size 0 lo:Nat):Int)=0:=eq_of_beq q.1.1;have q2:sIx items.size items.size hi-sIx items.size 0 lo=items.size:=eq_of_beq q.2;exact hw ⟨by omega,by omega⟩
 show wpAny _ _ (if (((sIx items.size 0 lo:Nat):Int)==0&&(1:Int)==1&&(sIx items.size items.size hi-sIx items.size 0 lo)==items.size)=true then _ else _) _ _ s
 rw[if_neg hno,sR]
 first
  |exact wpAny_bind (m:=Builtin.Tuple.tupleExact _) (wpAny_newObj_type (wpAny_pure ⟨_,rfl,wpAny_pure h⟩) htake)
  |exact wpAny_bind (m:=Builtin.Tuple.tupleExact _) (wpAny_newObj_type (wpAny_bind (wpAny_pure (wpAny_pure ⟨_,rfl,wpAny_pure h⟩))) htake)
  |exact wpAny_bind (wpAny_bind (m:=Builtin.Tuple.tupleExact _) (wpAny_newObj_type (wpAny_pure (wpAny_pure ⟨_,rfl,wpAny_pure h⟩)) htake))
  |exact wpAny_bind (wpAny_bind (m:=Builtin.Tuple.tupleExact _) (wpAny_newObj_type (wpAny_pure ⟨_,rfl,wpAny_pure h⟩) htake))
end
end HT
namespace L2
open PySem PySem.Spec PyProof.Rows
abbrev TO:=St→Hp→(Option Int→Hp→Prop)→Prop
def PO(X:Cx)(e:Option Expr)(t:TO):Prop :=
 ∀(pins:List (Addr×Obj))(s:Shared)(σ:St)(H:Hp)(Q:Option Int→Hp→Prop),Inv X pins σ H s→t σ H Q →
  wpAny (model X.prog X.w) X.A (evalPart e X.env) (λu s'=>∃o H',Inv X pins σ H' s'∧IsPart u o∧Q o H') X.xe s
def vB:TO:=λ_ H Q=>Q none H
def zI(t:TE):TO:=λσ H Q=>t σ H λx H1=>∃i,x=.int i∧Q (some i) H1
theorem po{ns:List Int}:∀{us:List Value},ar (ns.map V.int) us→IntsAre us ns:=by
 induction ns with
 |nil=>intro us r;rw[map_nil]at r;cases r;exact .nil
 |cons n ns ih =>
  intro us r;rw[map_cons]at r;cases r with
  |cons r1 r2 =>
   obtain⟨t,e⟩:=r1;subst e;exact .cons n t (ih r2)
section
variable{X:Cx}{e:Expr}{te:TE}{lo hi:Option Expr}{tl th:TO}{pos p2:Pos}
theorem eP:PO X none vB:=by
 intro pins s σ H Q I h;rw[evalPart_none];exact wpAny_pure ⟨none,H,I,.none,h⟩
theorem dh(h:PE X e te):PO X (some e) (zI te):=by
 intro pins s σ H Q I hw;rw[evalPart_some];refine thn (h pins s σ H _ I hw) λu s1 hpt=>?_;obtain⟨x,H1,I1,r1,q1⟩:=hpt;obtain⟨i,rfl,q⟩:=q1;obtain⟨t,rfl⟩:=r1;exact⟨some i,H1,I1,.int i t,q⟩
def SlR(X:Cx)(r:V→Option Int→Option Int→Hp→VK→Prop):Prop :=
 ∀(pins:List (Addr×Obj))(s:Shared)(σ:St)(H:Hp)(x:V)(v vl vu:Value)(lo hi:Option Int)(sl:Addr)(Q:VK),Inv X pins σ H s→aH x v→s.heap.IsSliceOf sl vl vu .none→IsPart vl lo→IsPart vu hi→r x lo hi H Q →
  ∃T id,typeLookup (.type T) "__getitem__"=pure (some (.builtin id))∧s.TypeIs v T∧wpAny (model X.prog X.w) X.A (getItem v (.ref sl)) (EP X pins σ Q) X.xe s
def tSl(r:V→Option Int→Option Int→Hp→VK→Prop)(te:TE)(tl th:TO):TE:=λσ H Q=>te σ H λx H1=>tl σ H1 λl H2=>th σ H2 λu H3=>r x l u H3 Q
theorem cY{r:V→Option Int→Option Int→Hp→VK→Prop}(hr:SlR X r)(he:PE X e te)(hl:PO X lo tl)(hu:PO X hi th):PE X (.Subscript e (.Slice lo hi none p2) pos) (tSl r te tl th):=by
 intro pins s σ H Q I h;refine Subscript_ (thn (he pins s σ H _ I h) λv s1 hpt=>?_);obtain⟨x,H1,I1,r1,q1⟩:=hpt;refine wpAny_Slice (thn (hl pins s1 σ H1 _ I1 q1) λvl s2 ⟨l,H2,I2,pl,q2⟩=>thn (hu pins s2 σ H2 _ I2 q2) λvu s3 hpt=>?_);obtain⟨u,H3,I3,pu,q3⟩:=hpt;rw[evalPart_none];refine wpAny_pure ?_;have I4:Inv X pins σ H3 {s3 with heap:=s3.heap.push {cls:=.type "slice",data:=.fields #[vl,vu,.none]}}:=I3.kept (t':=s3.toks) λb ob q=>get?_push_of_some _ q
 obtain⟨T,id,hT,ht,hg⟩:=hr pins {s3 with heap:=s3.heap.push {cls:=.type "slice",data:=.fields #[vl,vu,.none]}} σ H3 x v vl vu l u s3.heap.objs.size Q I4 r1 (Heap.IsSliceOf.new ..) pl pu q3
 show wpAny (model X.prog X.w) X.A (subscriptTail e (.Slice lo hi none p2) v (.ref s3.heap.objs.size)) (EP X pins σ Q) X.xe {s3 with heap:=s3.heap.push {cls:=.type "slice",data:=.fields #[vl,vu,.none]}}
 exact tail_any (ops:=[.ref s3.heap.objs.size,v]) ht hT hg (by with_unfolding_all rfl)
def gR(xs:List V)(lo hi:Option Int):List V:=(xs.drop (HT.sIx xs.length 0 lo)).take (HT.sIx xs.length xs.length hi-HT.sIx xs.length 0 lo)
theorem iu(xs:List V)(lo hi:Option Int):(gR xs lo hi).length≤xs.length:=by
 unfold gR;rw[length_take,length_drop];omega
def rp(K:PySem.W.Frag):V→Option Int→Option Int→Hp→VK→Prop:=λx lo hi H Q=>∃a xs,x=.ref a∧SqT K H a xs ∧
 ¬(HT.sIx xs.length 0 lo=0∧HT.sIx xs.length xs.length hi=xs.length)∧∀p,H p=none→Q (.ref p) (upd H p (.tup (gR xs lo hi)))
theorem jf:SlR X (rp X.K):=by
 intro pins s σ H x v vl vu lo hi sl Q I rx hs pl pu h;obtain⟨a,xs,rfl,hx,hw,q⟩:=h;cases rx;obtain⟨its,r,ht,hz⟩:=I.tuple hx;have hlen:its.toArray.size=xs.length:=by rw[size_toArray];exact r.length.symm
 refine⟨"tuple",_,PyProof.Rows.slot_tuple_getitem.lookup,ht.typeIs,?_⟩;refine HT.fV ht hs pl pu (by rw[hlen];exact hw) ?_ (by rw[hlen];exact hz);rw[hlen];refine⟨.ref s.heap.objs.size,_,I.laid (t':=s.toks) (o:=.tup (gR xs lo hi)) (λb ob q=>get?_push_of_some _ q) (le_refl _) ?_,rfl,q _ (I.hok.fresh (le_refl _))⟩;exact⟨le_trans (iu xs lo hi) hz,_,(r.drop (HT.sIx xs.length 0 lo)).take (HT.sIx xs.length xs.length hi-HT.sIx xs.length 0 lo),IsTup.new _ _⟩
def sU(K:PySem.W.Frag):R2:=λx y H Q=>∃a b xs ys,x=.ref a∧y=.ref b∧SqT K H a xs∧SqT K H b ys∧xs≠[]∧xs.length+ys.length≤sizeLine ∧
 (ys=[]→Q (.ref a) H)∧(ys≠[]→∀p,H p=none→Q (.ref p) (upd H p (.tup (xs++ys))))
theorem ar.nil_iff{xs:List V}{us:List Value}(r:ar xs us):us=[]↔xs=[]:=by
 cases r with
 |nil=>simp
 |cons _ _=>simp
theorem iL:OpR X (binaryOp .Add) (sU X.K):=by
 intro pins s σ H x y v u Q I rx ry h;obtain⟨a,b,xs,ys,rfl,rfl,ha,hb,hx,hz,q1,q2⟩:=h;cases rx;cases ry;obtain⟨its,r1,p1,_⟩:=I.tuple ha;obtain⟨its2,r2,p2,_⟩:=I.tuple hb;refine HT.vA p1 p2 (λz=>hx (r1.nil_iff.mp z)) (λz=>⟨.ref a,H,I,rfl,q1 (r2.nil_iff.mp z)⟩) (λz=>?_) (by rw[←r1.length,←r2.length];exact hz);refine⟨.ref s.heap.objs.size,_,I.laid (t':=s.toks) (o:=.tup (xs++ys)) (λb ob q=>get?_push_of_some _ q) (le_refl _) ?_,rfl,q2 (λw=>z (r2.nil_iff.mpr w)) _ (I.hok.fresh (le_refl _))⟩;exact⟨by rw[length_append];exact hz,_,r1.append r2,IsTup.new _ _⟩
end
def ixN(n:Nat)(i:Int):Option Nat:=if 0≤i then (if i<n then some i.toNat else none)else if -(n:Int)≤i then some (i+n).toNat else none
def atI{α:Type}(xs:List α)(i:Int):Option α:=(ixN xs.length i).bind λj=>xs[j]?
theorem qh{n:Nat}{i:Int}{j:Nat}(h:ixN n i=some j):seqIndex? i n=some j∧j<n∧-(n:Int)≤i∧i<n:=by
 unfold ixN at h
 by_cases h0:0≤i
 ·rw[if_pos h0]at h
  by_cases h1:i<n
  ·rw[if_pos h1]at h;have e:i.toNat=j:=Option.some.inj h;exact⟨by rw[seqIndex_of h0 h1,e],by omega,by omega,h1⟩
  ·rw[if_neg h1]at h;cases h
 ·rw[if_neg h0]at h
  by_cases h1:-(n:Int)≤i
  ·rw[if_pos h1]at h;have e:(i+n).toNat=j:=Option.some.inj h;exact⟨by rw[seqIndex_neg (by omega) h1,e],by omega,h1,by omega⟩
  ·rw[if_neg h1]at h;cases h
theorem qi{α:Type}{xs:List α}{i:Int}{v:α}(h:atI xs i=some v):∃j,seqIndex? i xs.length=some j∧xs[j]?=some v∧j<xs.length∧-(xs.length:Int)≤i∧i<xs.length:=by
 unfold atI at h;cases e:ixN xs.length i with
 |none=>rw[e]at h;cases h
 |some j =>
  rw[e]at h;obtain⟨h1,h2,h3,h4⟩:=qh e;exact⟨j,h1,h,h2,h3,h4⟩
theorem lM{α:Type}{xs:List α}{j:Nat}{v:α}(h:xs[j]?=some v):atI xs (j:Int)=some v:=by
 have hj:j<xs.length:=(List.getElem?_eq_some_iff.mp h).1;have e:ixN xs.length (j:Int)=some j:=by
  unfold ixN;rw[if_pos (by omega),if_pos (by omega)];simp
 unfold atI;rw[e];exact h
def vC(b:Expr):Prop:=∀o i,subscripted b false o i=operate [o,i] (getItem o i)
def IxR(X:Cx)(r:R2):Prop :=
 ∀(value slice:Expr)(pins:List (Addr×Obj))(s:Shared)(σ:St)(H:Hp)(x y:V)(v u:Value)(Q:VK),Inv X pins σ H s→aH x v→aH y u→r x y H Q →
  subscripted slice false v u=operate [v,u] (getItem v u)→wpAny (model X.prog X.w) X.A (subscriptTail value slice v u) (EP X pins σ Q) X.xe s
def MtR(X:Cx)(id:String)(r:V→List V→Hp→VK→Prop):Prop :=
 ∀(pins:List (Addr×Obj))(s:Shared)(σ:St)(H:Hp)(x:V)(xs:List V)(v:Value)(us:List Value)(Q:VK),Inv X pins σ H s→aH x v→ar xs us→r x xs H Q →
  wpAny (model X.prog X.w) X.A (call (.builtin id) (v::us)) (EP X pins σ Q) X.xe s
section
variable{X:Cx}{a b:Expr}{ta tb:TE}{pos:Pos}
theorem aQ{r:R2}(hr:IxR X r)(ha:PE X a ta)(hb:PE X b tb)(hs:vC b):PE X (.Subscript a b pos) (tOp r ta tb):=by
 intro pins s σ H Q I h;exact Subscript_ (xG ha hb I h λv u s2 x y H2 I2 rx ry q=>hr a b pins s2 σ H2 x y v u Q I2 rx ry q (hs _ _))
def AJ(K:PySem.W.Frag):R2:=λx y H Q=>∃p xs i v,x=.ref p∧y=.int i∧SqL K H p xs∧atI xs i=some v∧Q v H
def cw(K:PySem.W.Frag):R2:=λx y H Q=>∃p xs i v,x=.ref p∧y=.int i∧SqT K H p xs∧atI xs i=some v∧Q v H
theorem fX:IxR X (AJ X.K):=by
 intro value slice pins s σ H x y v u Q I rx ry h hs;obtain⟨p,xs,i,z,rfl,rfl,hq,he,q⟩:=h;cases rx;obtain⟨t,rfl⟩:=ry;obtain⟨its,r,pl,hz⟩:=I.list hq;obtain⟨j,h1,h2,h3,h4,h5⟩:=qi he;obtain⟨w,ew,rw'⟩:=r.get h2;have hl:=r.length;have hn:=lL;have fin:EP X pins σ Q w s:=⟨z,H,I,rw',q⟩
 by_cases h0:0≤i
 ·have hj:i.toNat=j:=by
   rw[seqIndex_of h0 h5]at h1;exact Option.some.inj h1
  exact item_listR pl.isList h0 (by omega) (by rw[hj];simpa using ew) fin hs
 ·have hj:(i+(its.toArray.size:Int)).toNat=j:=by
   rw[seqIndex_neg (by omega) h4]at h1;rw[size_toArray,←hl];exact Option.some.inj h1
  exact subscriptTail_builtinR (x:=w) pl.isList.typeIs slot_list_getitem.lookup
   (wpAny_getItem_list_neg (Q:=λr s'=>r=w∧EP X pins σ Q r s') pl.isList (by omega) (by rw[size_toArray]<;>omega) (by omega) (by rw[hj];simpa using ew) ⟨rfl,fin⟩) hs
theorem aG:IxR X (cw X.K):=by
 intro value slice pins s σ H x y v u Q I rx ry h hs;obtain⟨p,xs,i,z,rfl,rfl,hq,he,q⟩:=h;cases rx;obtain⟨t,rfl⟩:=ry;obtain⟨its,r,pl,hz⟩:=I.tuple hq;obtain⟨j,h1,h2,h3,h4,h5⟩:=qi he;obtain⟨w,ew,rw'⟩:=r.get h2;have hl:=r.length;have hn:=lL;have fin:EP X pins σ Q w s:=⟨z,H,I,rw',q⟩;exact subscriptTail_builtinR (x:=w) pl.typeIs slot_tuple_getitem.lookup
  (getItem_tuple (j:=j) (Q:=λr s'=>r=w∧EP X pins σ Q r s') pl (by omega) (by omega) (by rw[size_toArray,←hl];exact h1) (by simpa using ew) ⟨rfl,fin⟩) hs
theorem lN(lo hi:Option Int)(n:Nat):(sliceBounds lo hi none n).1=((HT.sIx n 0 lo:Nat):Int)∧(sliceBounds lo hi none n).2.1=((HT.sIx n n hi:Nat):Int)∧(sliceBounds lo hi none n).2.2=1:=by
 refine⟨?_,?_,rfl⟩
 ·cases lo with
  |none=>simp[sliceBounds,HT.sIx]
  |some i =>
   simp only[sliceBounds,HT.sIx,getD_none,show(1:Int)>0 by decide,if_true]
   by_cases h:i<0
   ·simp only[h,if_true]<;>omega
   ·simp only[h,if_false]<;>omega
 ·cases hi with
  |none=>simp[sliceBounds,HT.sIx]
  |some i =>
   simp only[sliceBounds,HT.sIx,getD_none,show(1:Int)>0 by decide,if_true]
   by_cases h:i<0
   ·simp only[h,if_true]<;>omega
   ·simp only[h,if_false]<;>omega
theorem kc(its:List Value)(lo hi:Option Int):slicePick its.toArray lo hi none=((its.drop (HT.sIx its.length 0 lo)).take (HT.sIx its.length its.length hi-HT.sIx its.length 0 lo)).toArray:=by
 obtain⟨h1,h2,h3⟩:=lN lo hi its.toArray.size;unfold slicePick;rw[h1,h2,h3];simp only[sliceRange_one,pick_run,size_toArray]<;>rfl
def AK(K:PySem.W.Frag):V→Option Int→Option Int→Hp→VK→Prop:=λx lo hi H Q=>∃a xs,x=.ref a∧SqL K H a xs∧∀p,H p=none→Q (.ref p) (upd H p (.lst (gR xs lo hi)))
theorem qj:SlR X (AK X.K):=by
 intro pins s σ H x v vl vu lo hi sl Q I rx hs pl pu h;obtain⟨a,xs,rfl,hx,q⟩:=h;cases rx;obtain⟨its,r,ht,hz⟩:=I.list hx;have hlen:=r.length;refine⟨"list",_,slot_list_getitem.lookup,ht.isList.typeIs,?_⟩;refine wpAny_getItem_list_slice ht.isList hs pl pu .none (by simp) ?_ (by rw[size_toArray]<;>omega);rw[kc,←hlen];refine⟨.ref s.heap.objs.size,_,I.laid (t':=s.toks) (o:=.lst (gR xs lo hi)) (λb ob q=>get?_push_of_some _ q) (le_refl _) ?_,rfl,q _ (I.hok.fresh (le_refl _))⟩;exact⟨le_trans (iu xs lo hi) hz,_,0,(r.drop (HT.sIx xs.length 0 lo)).take (HT.sIx xs.length xs.length hi-HT.sIx xs.length 0 lo),get?_push_size _ rfl⟩
def cQ:V→Bool
 |.non=>true
 |.bl _=>true
 |.int _=>true
 |.str _=>true
 |_=>false
def eqV:V→V→Bool
 |.non,.non=>true
 |.bl a,.bl b=>a==b
 |.bl a,.int b=>(if a then 1 else 0)==b
 |.int a,.bl b=>a==(if b then 1 else 0)
 |.int a,.int b=>a==b
 |.str a,.str b=>a==b
 |_,_=>false
theorem jg{A:Around}{s:Shared}{y x:V}{u v:Value}(ry:aH y u)(rx:aH x v)(fy:cQ y=true)(fx:cQ x=true):EqAt A s u v (eqV y x):=by
 cases y with
 |non =>
  cases ry;cases x with
  |non=>cases rx;exact EqAt.same _
  |bl b=>cases rx;exact EqAt.none_bool b
  |int b=>obtain⟨t,rfl⟩:=rx;exact EqAt.none_int b t
  |str b=>obtain⟨t,rfl⟩:=rx;exact EqAt.none_str b t
  |_=>exact absurd (show false=true from fx) Bool.false_ne_true
 |bl a =>
  cases ry;cases x with
  |non=>cases rx;exact EqAt.bool_none a
  |bl b=>cases rx;exact EqAt.bool_bool a b
  |int b=>obtain⟨t,rfl⟩:=rx;exact EqAt.bool_int a b t
  |str b=>obtain⟨t,rfl⟩:=rx;exact EqAt.bool_str a b t
  |_=>exact absurd (show false=true from fx) Bool.false_ne_true
 |int a =>
  obtain⟨t',rfl⟩:=ry;cases x with
  |non=>cases rx;exact EqAt.int_none a t'
  |bl b=>cases rx;exact EqAt.int_bool a t' b
  |int b=>obtain⟨t,rfl⟩:=rx;exact EqAt.int_int a t' b t
  |str b=>obtain⟨t,rfl⟩:=rx;exact EqAt.int_str a t' b t
  |_=>exact absurd (show false=true from fx) Bool.false_ne_true
 |str a =>
  obtain⟨t',rfl⟩:=ry;cases x with
  |non=>cases rx;exact EqAt.str_none a t'
  |bl b=>cases rx;exact EqAt.str_bool a t' b
  |int b=>obtain⟨t,rfl⟩:=rx;exact EqAt.str_int a t' b t
  |str b=>obtain⟨t,rfl⟩:=rx;exact EqAt.str_str a t' b t
  |_=>exact absurd (show false=true from fx) Bool.false_ne_true
 |_=>exact absurd (show false=true from fy) Bool.false_ne_true
def eqU(x:V)(u:Value):Bool:=match u with
 |.none=>eqV .non x
 |.bool b=>eqV (.bl b) x
 |.int i _=>eqV (.int i) x
 |.str z _=>eqV (.str z) x
 |_=>false
theorem sV{x y:V}{u:Value}(r:aH y u)(f:cQ y=true):eqU x u=eqV y x:=by
 cases y with
 |non=>cases r;rfl
 |bl b=>cases r;rfl
 |int i=>obtain⟨t,rfl⟩:=r;rfl
 |str z=>obtain⟨t,rfl⟩:=r;rfl
 |_=>exact absurd (show false=true from f) Bool.false_ne_true
theorem fY{x:V}:∀{xs:List V}{us:List Value},ar xs us→xs.all cQ=true→us.any (eqU x)=xs.any λy=>eqV y x
 |_,_,.nil,_=>rfl
 |y::xs,u::us,.cons r t,f=>by
  rw[List.all_cons,and_eq_true]at f;rw[any_cons,any_cons,sV r f.1,fY t f.2]
theorem dX{A:Around}{s:Shared}{x:V}{v:Value}(rx:aH x v)(fx:cQ x=true):∀{xs:List V}{us:List Value},ar xs us→xs.all cQ=true→∀u∈us,EqAt A s u v (eqU x u)
 |_,_,.nil,_=>λu hu=>by cases hu
 |y::xs,u::us,.cons r t,f=>λu' hu=>by
  rw[List.all_cons,and_eq_true]at f;rcases mem_cons.mp hu with rfl|hu
  ·rw[sV r f.1];exact jg r rx f.1 fx
  ·exact dX rx fx t f.2 u' hu
def inV(x:V)(xs:List V):Bool:=xs.any λy=>eqV y x
def rIn(K:PySem.W.Frag)(neg:Bool):R2:=λx y H Q=>∃p xs,y=.ref p∧(SqL K H p xs∨SqT K H p xs)∧cQ x=true∧xs.all cQ=true∧Q (.bl (if neg then !inV x xs else inV x xs)) H
theorem kM:OpR X (compareOp .In) (rIn X.K false):=by
 intro pins s σ H x y v u Q I rx ry h;obtain⟨p,xs,rfl,hq,fx,fs,q⟩:=h;cases ry;rcases hq with hq|hq
 ·obtain⟨its,r,pl,hz⟩:=I.list hq;refine SeqAt.in_listAt (eqU x) pl.isList (λw hw=>dX rx fx r fs w (by simpa using hw)) ⟨.bl _,H,I,rfl,?_⟩;rw[show its.toArray.any (eqU x)=its.any (eqU x)by simp,fY r fs];exact q
 ·obtain⟨its,r,pl,hz⟩:=I.tuple hq;refine SeqAt.in_tupleAt (eqU x) pl (λw hw=>dX rx fx r fs w (by simpa using hw)) ⟨.bl _,H,I,rfl,?_⟩;rw[show its.toArray.any (eqU x)=its.any (eqU x)by simp,fY r fs];exact q
theorem lO:OpR X (compareOp .NotIn) (rIn X.K true):=by
 intro pins s σ H x y v u Q I rx ry h;obtain⟨p,xs,rfl,hq,fx,fs,q⟩:=h;cases ry;rcases hq with hq|hq
 ·obtain⟨its,r,pl,hz⟩:=I.list hq;refine SeqAt.notIn_listAt (eqU x) pl.isList (λw hw=>dX rx fx r fs w (by simpa using hw)) ⟨.bl _,H,I,rfl,?_⟩;rw[show its.toArray.any (eqU x)=its.any (eqU x)by simp,fY r fs];exact q
 ·obtain⟨its,r,pl,hz⟩:=I.tuple hq;refine SeqAt.notIn_tupleAt (eqU x) pl (λw hw=>dX rx fx r fs w (by simpa using hw)) ⟨.bl _,H,I,rfl,?_⟩;rw[show its.toArray.any (eqU x)=its.any (eqU x)by simp,fY r fs];exact q
theorem bj:bX X (.builtin "len") (λxs H Q=>∃p ys,xs=[.ref p]∧(SqL X.K H p ys∨SqT X.K H p ys)∧Q (.int ys.length) H):=by
 intro pins s σ H xs us Q I r h;obtain⟨p,ys,rfl,hq,q⟩:=h;obtain⟨u,rfl,rx⟩:=cv r;cases rx;have hn:=lL;rcases hq with hq|hq
 ·obtain⟨its,r',pl,hz⟩:=I.list hq;have hlen:=r'.length;exact Calls.call_len_list pl.isList (by simp only[size_toArray]<;>omega) ⟨.int ys.length,H,I.tok _,⟨s.toks+1,by rw[size_toArray,hlen]⟩,q⟩
 ·obtain⟨its,r',pl,hz⟩:=I.tuple hq;have hlen:=r'.length;exact len_tuple pl (by simp only[size_toArray]<;>omega) ⟨.int ys.length,H,I.tok _,⟨s.toks+1,by rw[size_toArray,hlen]⟩,q⟩
theorem bg:bX X (.type "tuple") (λxs H Q=>∃p ys,xs=[.ref p]∧((SqL X.K H p ys∧∀l,H l=none→Q (.ref l) (upd H l (.tup ys)))∨(SqT X.K H p ys∧Q (.ref p) H))):=by
 intro pins s σ H xs us Q I r h;obtain⟨p,ys,rfl,h⟩:=h;obtain⟨u,rfl,rx⟩:=cv r;cases rx;rcases h with⟨hq,q⟩|⟨hq,q⟩
 ·obtain⟨its,r',pl,hz⟩:=I.list hq;have hlen:=r'.length;refine call_tuple_list pl.isList (λh' kp=>?_) (by simp only[size_toArray]<;>omega);have I1:Inv X pins σ H {s with heap:=h'}:=I.kept (t':=s.toks) kp
  have I2:Inv X pins σ (upd H h'.objs.size (.tup ys)) {s with heap:=h'.push {cls:=.type "tuple",data:=.seq its.toArray}} :=
   I1.laid (t':=s.toks) (λb o e=>get?_push_of_some _ e) (le_refl _) (show bA X.prog X.w _ _ _ (.tup ys)from⟨hz,its,r',IsTup.new _ _⟩)
  exact⟨.ref h'.objs.size,_,I2,rfl,q _ (I1.hok.fresh (le_refl _))⟩
 ·obtain⟨its,r',pl,hz⟩:=I.tuple hq;exact call_tuple_same pl ⟨.ref p,H,I,rfl,q⟩
def tyV(K:PySem.W.Frag)(T:String)(x:V)(H:Hp):Prop:=match x with
 |.str _=>T="str"
 |.int _=>T="int"
 |.ref p=>(T="list"∧∃xs,SqL K H p xs)∨(T="tuple"∧∃o,K.lookup p=some o∧o.cls=.type "tuple"∧o.dict=none) ∨
   (T="dict"∧((∃kvs,H p=some (.dK kvs))∨∃kvs,H p=some (.dT kvs)))∨(T="set"∧∃S n,H p=some (.set S n))
 |_=>False
theorem sW{pins:List (Addr×Obj)}{σ:St}{H:Hp}{s:Shared}{T:String}{x:V}{v:Value}(I:Inv X pins σ H s)(r:aH x v)(ty:tyV X.K T x H):
  s.TypeIs v T∧∀a,v=.ref a→∃ob,s.heap.get? a=some ob∧ob.dict=none:=by
 cases x with
 |str z =>
  obtain⟨t,rfl⟩:=r;cases (show T="str" from ty);exact⟨typeIs_str s z t,λ_ e=>nomatch e⟩
 |int i =>
  obtain⟨t,rfl⟩:=r;cases (show T="int" from ty);exact⟨typeIs_int s i t,λ_ e=>nomatch e⟩
 |ref p =>
  cases r;rcases ty with⟨rfl,xs,hq⟩|⟨rfl,o,hk,hc,hd⟩|⟨rfl,hk⟩|⟨rfl,S,n,hk⟩
  ·obtain⟨its,_,pl,_⟩:=I.list hq;refine⟨pl.isList.typeIs,λa e=>?_⟩;cases e;obtain⟨o,n,e,c,hd,_⟩:=pl;exact⟨o,e,hd⟩
  ·refine⟨⟨o,I.kIn p o hk,hc⟩,λa e=>?_⟩;cases e;exact⟨o,I.kIn _ o hk,hd⟩
  ·have z:∃o,s.heap.get? p=some o∧o.ExactDict:=by
    rcases hk with⟨kvs,hk⟩|⟨kvs,hk⟩
    ·obtain⟨_,_,_,_,o,_,_,e,ex,_⟩:=I.hok p _ hk;exact⟨o,e,ex⟩
    ·obtain⟨_,_,_,_,o,_,_,e,ex,_⟩:=I.hok p _ hk;exact⟨o,e,ex⟩
   obtain⟨o,e,ex⟩:=z;refine⟨⟨o,e,ex.1⟩,λa e2=>?_⟩;cases e2;exact⟨o,e,ex.2.1⟩
  ·obtain⟨o,_,_,_,e,ex,_⟩:=I.hok p _ hk;refine⟨⟨o,e,ex.1⟩,λa e2=>?_⟩;cases e2;exact⟨o,e,ex.2.1⟩
 |_=>exact False.elim ty
def AL(K:PySem.W.Frag)(T:String)(r:V→List V→Hp→VK→Prop)(to:TE):TE:=λσ H Q=>to σ H λx H1=>tyV K T x H1∧r x [] H1 Q
def tBM(K:PySem.W.Frag)(T:String)(r:V→List V→Hp→VK→Prop)(to:TE)(t:TA):TE:=λσ H Q=>to σ H λx H1=>tyV K T x H1∧t σ H1 λxs H2=>r x xs H2 Q
variable{o e:Expr}{es:List Expr}{to:TE}{t:TA}{name:Str}{apos cpos:Pos}{T id:String}{r:V→List V→Hp→VK→Prop}
theorem xL(pa:PlainAttrs T)(slot:Slot T name id)(hty:typeOf (.builtin id)=pure (.type "method_descriptor"))(hm:MtR X id r)(ho:PE X o to)(hbase:attributeBase o name X.env (eval o X.env)=eval o X.env:=by rfl)(hline:(apos.endLine==cpos.line)=true:=by rfl):PE X (.Call (.Attribute o name apos) [] [] cpos) (AL X.K T r to):=by
 intro pins s σ H Q I h;refine wpAny_Call_method0_late hbase hline (thn (ho pins s σ H _ I h) λv s1 hpt=>?_);obtain⟨x,H1,I1,r1,ty,q1⟩:=hpt;obtain⟨h1,h2⟩:=sW I1 r1 ty;exact⟨T,id,pa,slot,hty,h1,h2,callWith_builtin rfl (PySem.evalArgs_none (hm pins s1 σ H1 x [] v [] Q I1 r1 .nil q1))⟩
theorem iw(pa:PlainAttrs T)(slot:Slot T name id)(hty:typeOf (.builtin id)=pure (.type "method_descriptor"))(hm:MtR X id r)(ho:PE X o to)(ha:PA X (e::es) t)(hbase:attributeBase o name X.env (eval o X.env)=eval o X.env:=by rfl)(hfew:((backTo cpos (starEach (e::es) X.env)).all (λx=>!x.1)&&(backToKw cpos (keywordEach [] X.env)).all (λx=>x.1.isSome)
   && decide ((e::es).length+([]:List Keyword).length+(if ([]:List Keyword).isEmpty then 0 else 1)<30))=true:=by rfl)(hline:(apos.endLine==cpos.line)=true:=by rfl)(hs:starEach (e::es) X.env=(false,eval e X.env)::starEach es X.env:=by rfl)(hplain:(backTo cpos (starEach es X.env)).any (·.1)=false:=by rfl):
  PE X (.Call (.Attribute o name apos) (e::es) [] cpos) (tBM X.K T r to t):=by
 intro pins s σ H Q I h;refine wpAny_Call_method_late hbase hfew hline rfl (thn (ho pins s σ H _ I h) λv s1 hpt=>?_);obtain⟨x,H1,I1,r1,ty,q1⟩:=hpt;obtain⟨h1,h2⟩:=sW I1 r1 ty;refine⟨T,id,pa,slot,hty,h1,h2,?_⟩;have hA:=ha cpos pins s1 σ H1 _ I1 q1;rw[hs]at hA⊢;refine callWith_builtin (by show(false||(backTo cpos (starEach es X.env)).any (·.1))=false;rw[hplain]<;>rfl) (evalArgs_plain ?_);exact thn hA λus s2 ⟨vs,H2,I2,r2,q2⟩=>hm pins s2 σ H2 x vs v us Q I2 r1 r2 q2
end
def MtM(X:Cx)(id:String)(r:V→List V→Hp→VK→Prop):Prop :=
 ∀(pins:List (Addr×Obj))(s:Shared)(σ:St)(H:Hp)(x:V)(xs:List V)(v:Value)(us:List Value)(Q:VK),Inv X pins σ H s→aH x v→ar xs us→r x xs H Q →
  wpAny (model X.prog X.w) X.A (call (.builtin id) (v::us)) (EP X pins σ Q) X.xe s
theorem ar.one:∀{x:V}{us:List Value},ar [x] us→∃u,us=[u]∧aH x u
 |_,_,.cons r .nil=>⟨_,rfl,r⟩
theorem ar.two:∀{x y:V}{us:List Value},ar [x,y] us→∃u v,us=[u,v]∧aH x u∧aH y v
 |_,_,_,.cons r (.cons q .nil)=>⟨_,_,rfl,r,q⟩
theorem ar.zero:∀{us:List Value},ar [] us→us=[]
 |_,.nil=>rfl
theorem ar.dropLast{xs:List V}{us:List Value}(h:ar xs us):ar xs.dropLast us.dropLast:=by
 induction h with
 |nil=>exact .nil
 |cons r t ih =>
  cases t with
  |nil=>exact .nil
  |cons q t'=>exact .cons r ih
theorem ar.eraseIdx:∀{xs:List V}{us:List Value}(i:Nat),ar xs us→ar (xs.eraseIdx i) (us.eraseIdx i)
 |_,_,_,.nil=>.nil
 |_,_,0,.cons _ t=>t
 |_,_,i+1,.cons r t=>.cons r (ar.eraseIdx i t)
theorem ar.reverse{xs:List V}{us:List Value}(h:ar xs us):ar xs.reverse us.reverse:=by
 induction h with
 |nil=>exact .nil
 |cons r t ih=>rw[List.reverse_cons,List.reverse_cons];exact ar.append ih (.cons r .nil)
theorem pq{α:Type}(l:List α):l.eraseIdx (l.length-1)=l.dropLast:=by
 induction l with
 |nil=>rfl
 |cons a r ih =>
  cases r with
  |nil=>rfl
  |cons b r =>
   have e:(a::b::r).length-1=((b::r).length-1)+1:=by
    have h1:(a::b::r).length=r.length+2:=rfl;have h2:(b::r).length=r.length+1:=rfl;omega
   rw[e,List.eraseIdx_cons_succ,ih]
   all_goals rfl
theorem kR{α:Type}:∀(l:List α)(i:Nat),(l.eraseIdx i).length≤l.length
 |[],_=>le_refl _
 |_::_,0=>le_succ _
 |_::r,i+1=>Nat.succ_le_succ (kR r i)
section
variable{X:Cx}{pins:List (Addr×Obj)}{σ:St}{H:Hp}{s:Shared}{l b:Addr}{xs ys zs:List V}
theorem Inv.lset{its its':List Value}{n:Nat}{f:Array Value→Array Value}{t':Nat}(I:Inv X pins σ H s)(hH:H l=some (.lst xs))(e:s.heap.get? l=some {cls:=.type "list",data:=.seq its.toArray n})(hf:f its.toArray=its'.toArray)(hv:ar ys its')(hz:ys.length≤sizeLine):
  Inv X pins σ (upd H l (.lst ys)) {s with heap:=s.heap.update l (Obj.mapSeq f),toks:=t'}:=by
 have q:=PySem.IsL.update e f;rw[hf]at q;refine I.write (x:=l) (e:=l) (by rw[hH];exact trivial) (.inl rfl) (λb' u hb hu=>(get?_update_other s.heap (Obj.mapSeq f) (symm hb)).trans hu) ⟨_,q⟩ ?_;exact⟨hz,its',_,hv,q⟩
theorem Inv.lnew{its:List Value}{t':Nat}(I:Inv X pins σ H s)(hv:ar ys its)(hz:ys.length≤sizeLine):
  Inv X pins σ (upd H s.heap.objs.size (.lst ys)) {s with heap:=s.heap.push {cls:=.type "list",data:=.seq its.toArray},toks:=t'} :=
 I.laid (λ_ _ q=>get?_push_of_some _ q) (le_refl _) ⟨hz,its,0,hv,get?_push_size _ rfl⟩
theorem Inv.fresh(I:Inv X pins σ H s):H s.heap.objs.size=none:=I.hok.fresh (le_refl _)
theorem Inv.lstM(I:Inv X pins σ H s)(hH:H l=some (.lst xs)):xs.length≤sizeLine∧∃(its:List Value) (n:Nat),ar xs its∧xs.length=its.length∧s.heap.get? l=some {cls:=.type "list",data:=.seq its.toArray n}:=by
 obtain⟨z,its,n,r,e⟩:=I.hok l _ hH;exact⟨z,its,n,r,r.length,e⟩
def vD:V→List V→Hp→VK→Prop:=λx vs H Q=>∃l xs y,x=.ref l∧vs=[y]∧H l=some (.lst xs)∧xs.length<sizeLine∧Q .non (upd H l (.lst (xs++[y])))
theorem cq:MtM X "list.append" vD:=by
 intro pins s σ H x vs v us Q I rx rv h;obtain⟨l,xs,y,rfl,rfl,hH,hz,q⟩:=h;cases rx;obtain⟨u,rfl,ru⟩:=rv.one;obtain⟨z,its,n,r,hl,e⟩:=I.lstM hH;refine call_meets F.slot_list_append ⟨_,e,rfl⟩ F.entry_list_append (F.args_list_append_2 _ _) (PySem.list_append l its.toArray n u (by rw[size_toArray];omega)) ⟨e,?_⟩;refine⟨.non,_,I.lset (its':=its++[u]) hH e (by simp) (r.append (.cons ru .nil)) ?_,rfl,q⟩;rw[length_append,length_singleton];omega
def AM:V→List V→Hp→VK→Prop:=λx vs H Q=>∃l xs y,x=.ref l∧vs=[]∧H l=some (.lst xs)∧xs[xs.length-1]?=some y∧Q y (upd H l (.lst xs.dropLast))
theorem xM:MtM X "list.pop" AM:=by
 intro pins s σ H x vs v us Q I rx rv h;obtain⟨l,xs,y,rfl,rfl,hH,hy,q⟩:=h;cases rx;have hus:=rv.zero;subst hus;obtain⟨z,its,n,r,hl,e⟩:=I.lstM hH;obtain⟨u,hu,ru⟩:=r.get hy;have hy':its.toArray[its.toArray.size-1]?=some u:=by
  show its.toArray[its.length-1]?=some u;rw[←getElem?_toList,←hl];exact hu
 refine call_meets F.slot_list_pop ⟨_,e,rfl⟩ F.entry_list_pop (F.args_list_pop_1 _) (MeetsSeq.list_pop_last l its.toArray n u hy' (by rw[size_toArray];omega)) ⟨e,?_⟩;refine⟨y,_,I.lset (its':=its.dropLast) hH e ?_ r.dropLast ?_,ru,q⟩
 ·show its.toArray.eraseIdxIfInBounds (its.toArray.size-1)=its.dropLast.toArray;rw[size_toArray,List.eraseIdxIfInBounds_toArray,pq]
 ·rw[List.length_dropLast];omega
def xO:V→List V→Hp→VK→Prop:=λx vs H Q=>∃l xs i k y,x=.ref l∧vs=[.int i]∧H l=some (.lst xs)∧-(2 ^ 63)≤i∧i<2 ^ 63∧seqIndex? i xs.length=some k∧xs[k]?=some y∧Q y (upd H l (.lst (xs.eraseIdx k)))
theorem sX:MtM X "list.pop" xO:=by
 intro pins s σ H x vs v us Q I rx rv h;obtain⟨l,xs,i,k,y,rfl,rfl,hH,h1,h2,hk,hy,q⟩:=h;cases rx;obtain⟨u,rfl,ru⟩:=rv.one;obtain⟨t,rfl⟩:=ru;obtain⟨z,its,n,r,hl,e⟩:=I.lstM hH;obtain⟨w,hw,rw'⟩:=r.get hy;refine call_meets F.slot_list_pop ⟨_,e,rfl⟩ F.entry_list_pop (F.args_list_pop_2 _ _)
  (MeetsSeq.list_pop_at l its.toArray n i t k w (fitsIndex_both h1 h2) (by rw[size_toArray,←hl];exact hk) (by rw[←getElem?_toList];exact hw) (by rw[size_toArray];omega)) ⟨e,?_⟩
 refine⟨y,_,I.lset (its':=its.eraseIdx k) hH e ?_ (r.eraseIdx k) ?_,rw',q⟩
 ·show its.toArray.eraseIdxIfInBounds k=(its.eraseIdx k).toArray;rw[List.eraseIdxIfInBounds_toArray]
 ·have:=kR xs k;omega
def AN:R2:=λx y H Q=>∃l b xs zs,x=.ref l∧y=.ref b∧H l=some (.lst xs)∧H b=some (.lst zs)∧xs.length+zs.length≤sizeLine∧∀p,H p=none→Q (.ref p) (upd H p (.lst (xs++zs)))
theorem pr:OpR X (binaryOp .Add) AN:=by
 intro pins s σ H x y v u Q I rx ry h;obtain⟨l,b,xs,zs,rfl,rfl,hH,hB,hz,q⟩:=h;cases rx;cases ry;obtain⟨z,its,n,r,hl,e⟩:=I.lstM hH;obtain⟨z2,its2,n2,r2,hl2,e2⟩:=I.lstM hB;refine PySem.P.add_list e e2 ?_ (by rw[size_toArray,size_toArray];omega);have ea:its.toArray++its2.toArray=(its++its2).toArray:=by simp
 rw[ea];exact⟨.ref _,_,I.lnew (t':=s.toks) (r.append r2) (by rw[length_append];omega),rfl,q _ I.fresh⟩
end
section
variable{prog:Program}{w:World}{A:Around}{E:Value→Shared→Prop}{s:Shared}
end
section
variable{X:Cx}
end
section
variable{κ:Type}[DecidableEq κ]
def bc(kvs:List (κ×V))(k:κ):Option V:=(kvs.find? λkv=>decide (kv.1=k)).map (·.2)
def bY(kvs:List (κ×V))(k:κ)(v:V):List (κ×V) :=
 if (kvs.any λkv=>decide (kv.1=k))=true then kvs.map (λkv=>if kv.1=k then (kv.1,v)else kv)else kvs++[(k,v)]
def cR(kvs:List (κ×V))(k:κ):List (κ×V):=kvs.filter λkv=>decide (kv.1≠k)
theorem bi{p:κ×V}{r:List (κ×V)}{k:κ}(e:p.1=k):bc (p::r) k=some p.2:=by simp[bc,find?_cons,e]
theorem aX{p:κ×V}{r:List (κ×V)}{k:κ}(e:¬p.1=k):bc (p::r) k=bc r k:=by simp[bc,find?_cons,e]
theorem gc(k:κ):∀kvs:List (κ×V),(kvs.any λkv=>decide (kv.1=k))=(bc kvs k).isSome
 |[]=>rfl
 |p::r=>by
  rw[any_cons]
  by_cases e:p.1=k
  ·simp only[bi e,decide_eq_true e,Bool.true_or,Option.isSome_some]
  ·rw[aX e,decide_eq_false e,Bool.false_or];exact gc k r
theorem nu(k j:κ)(y:V):∀kvs:List (κ×V),bc (kvs.map λkv=>if kv.1=k then (kv.1,y)else kv) j=(bc kvs j).map λx=>if j=k then y else x
 |[]=>rfl
 |p::r=>by
  have ih:=nu k j y r;rw[map_cons]
  by_cases h:p.1=k
  ·rw[if_pos h]
   by_cases e:p.1=j
   ·rw[bi (p:=(p.1,y)) e,bi e,map_some,if_pos (e.symm.trans h)]
   ·rw[aX (p:=(p.1,y)) e,aX e,ih]
  ·rw[if_neg h]
   by_cases e:p.1=j
   ·rw[bi (p:=p) e,bi e,map_some,if_neg (λz=>h (e.trans z))]
   ·rw[aX (p:=p) e,aX e,ih]
theorem kX(k j:κ)(y:V):∀kvs:List (κ×V),bc kvs k=none→bc (kvs++[(k,y)]) j=if j=k then some y else bc kvs j
 |[],_=>by
  by_cases e:k=j
  ·rw[if_pos e.symm];exact bi (p:=(k,y)) e
  ·rw[if_neg (λz=>e z.symm)];exact aX (p:=(k,y)) e
 |p::r,hn=>by
  rw[List.cons_append];have hk:¬p.1=k:=λz=>by rw[bi z]at hn;cases hn
  rw[aX hk]at hn;have ih:=kX k j y r hn
  by_cases e:p.1=j
  ·rw[bi e,bi e,if_neg (λz=>hk (e.trans z))]
  ·rw[aX e,aX e,ih]
theorem dY(kvs:List (κ×V))(k j:κ)(y:V):bc (bY kvs k y) j=if j=k then some y else bc kvs j:=by
 unfold bY
 by_cases a:(kvs.any λkv=>decide (kv.1=k))=true
 ·rw[if_pos a,nu];rw[gc]at a
  by_cases e:j=k
  ·obtain⟨x,hx⟩:=Option.isSome_iff_exists.mp a;rw[if_pos e,e,hx,map_some,if_pos rfl]
  ·rw[if_neg e];cases bc kvs j with
   |none=>rfl
   |some x=>rw[map_some,if_neg e]
 ·rw[if_neg a];refine kX k j y kvs ?_;rw[gc]at a;cases q:bc kvs k with
  |none=>rfl
  |some x=>rw[q]at a;exact(a rfl).elim
theorem di(kvs:List (κ×V))(k:κ)(v:V):(bY kvs k v).length≤kvs.length+1:=by
 unfold bY
 split
 ·rw[length_map];omega
 ·rw[length_append,length_cons,length_nil];omega
theorem eY.isSome_eq{o:Option V}{u:Option Value}(r:eY o u):o.isSome=u.isSome:=by
 cases o with
 |none=>cases u with
  |none=>rfl
  |some _=>exact(show False from r).elim
 |some _=>cases u with
  |none=>exact(show False from r).elim
  |some _=>rfl
theorem eY.getD{o:Option V}{u:Option Value}{d:V}{d':Value}(r:eY o u)(rd:aH d d'):aH (o.getD d) (u.getD d'):=by
 cases o with
 |none=>cases u with
  |none=>exact rd
  |some _=>exact(show False from r).elim
 |some _=>cases u with
  |none=>exact(show False from r).elim
  |some _=>exact r
theorem KV.val{kvs:List (κ×V)}{vs:List (κ×Value)}(r:KV kvs vs)(k:κ):eY (bc kvs k) (valueAt vs k):=by
 unfold KV at r
 induction r with
 |nil=>exact True.intro
 |@cons p q ps qs h t ih =>
  obtain⟨h1,h2⟩:=h
  by_cases e:p.1=k
  ·have e':q.1=k:=h1.symm.trans e;have b:valueAt (q::qs) k=some q.2:=by simp[valueAt,find?_cons,e']
   rw[bi e,b];exact h2
  ·have e':¬q.1=k:=λz=>e (h1.trans z);have b:valueAt (q::qs) k=valueAt qs k:=by simp[valueAt,find?_cons,e']
   rw[aX e,b];exact ih
theorem KV.any{kvs:List (κ×V)}{vs:List (κ×Value)}(r:KV kvs vs)(k:κ):(kvs.any λkv=>decide (kv.1=k))=vs.any λkv=>decide (kv.1=k):=by
 unfold KV at r
 induction r with
 |nil=>rfl
 |cons h t ih=>rw[any_cons,any_cons,ih,h.1]
theorem KV.repl{kvs:List (κ×V)}{vs:List (κ×Value)}(r:KV kvs vs)(k:κ){y:V}{u:Value}(ry:aH y u):
  KV (kvs.map λkv=>if kv.1=k then (kv.1,y)else kv) (vs.map λkv=>if kv.1=k then (kv.1,u)else kv):=by
 unfold KV at r⊢
 induction r with
 |nil=>exact .nil
 |@cons p q ps qs h t ih =>
  rw[map_cons,map_cons];refine .cons ?_ ih;obtain⟨h1,h2⟩:=h
  by_cases e:p.1=k
  ·rw[if_pos e,if_pos (h1.symm.trans e)];exact⟨h1,ry⟩
  ·rw[if_neg e,if_neg (λz=>e (h1.trans z))];exact⟨h1,h2⟩
theorem KV.put{kvs:List (κ×V)}{vs:List (κ×Value)}(r:KV kvs vs)(k:κ){y:V}{u:Value}(ry:aH y u):KV (bY kvs k y) (stored vs k u):=by
 unfold bY stored;rw[r.any k]
 by_cases e:(vs.any λkv=>decide (kv.1=k))=true
 ·rw[if_pos e,if_pos e];exact r.repl k ry
 ·rw[if_neg e,if_neg e];exact Paired.snoc r ⟨rfl,ry⟩
theorem KV.drop{kvs:List (κ×V)}{vs:List (κ×Value)}(r:KV kvs vs)(k:κ):KV (cR kvs k) (without vs k):=by
 unfold KV at r⊢;unfold cR without
 induction r with
 |nil=>exact .nil
 |@cons p q ps qs h t ih =>
  obtain⟨h1,h2⟩:=h;rw[filter_cons,filter_cons]
  by_cases e:p.1=k
  ·have a:¬decide (p.1≠k)=true:=by simp[e]
   have b:¬decide (q.1≠k)=true:=by simp[h1.symm.trans e]
   rw[if_neg a,if_neg b];exact ih
  ·have e':¬q.1=k:=λz=>e (h1.trans z);have a:decide (p.1≠k)=true:=by simp[e]
   have b:decide (q.1≠k)=true:=by simp[e']
   rw[if_pos a,if_pos b];exact .cons ⟨h1,h2⟩ ih
theorem KV.length{kvs:List (κ×V)}{vs:List (κ×Value)}(r:KV kvs vs):kvs.length=vs.length:=Paired.length r
theorem nv(kvs:List (κ×V))(k:κ):(cR kvs k).length≤kvs.length:=length_filter_le _ _
end
theorem eZ{P:Program}{w:World}{k:Key}{u:Value}(r:aH (kV k) u):(aw P w).is k u=true:=by
 cases k with
 |inl i=>obtain⟨t,e⟩:=(show ∃t,u=Value.int i t from r);subst e;exact ng P w i t
 |inr x=>obtain⟨t,e⟩:=(show ∃t,u=Value.str x t from r);subst e;exact nh P w x t
theorem xP{a b:Key}(e:kV a=kV b):a=b:=by
 cases a with
 |inl i=>cases b with
  |inl j=>have e':V.int i=V.int j:=e;injection e' with e';rw[e']
  |inr y=>exact nomatch (show V.int i=V.str y from e)
 |inr x=>cases b with
  |inl j=>exact nomatch (show V.str x=V.int j from e)
  |inr y=>have e':V.str x=V.str y:=e;injection e' with e';rw[e']
theorem qk:∀{a b:List Key},a.map kV=b.map kV→a=b
 |[],[],_=>rfl
 |[],_::_,e=>by simp at e
 |_::_,[],e=>by simp at e
 |x::xs,y::ys,e=>by
  rw[map_cons,map_cons]at e;injection e with e1 e2
  rw[xP e1,qk e2]
theorem gU{P:Program}{w:World}:∀{ks:List Key}{us:List Value},ar (ks.map kV) us→ItemsAre (aw P w) ks us
 |[],_,r=>by rw[map_nil]at r;cases r;exact .nil
 |k::ks,_,r=>by
  rw[map_cons]at r;cases r with
  |cons h t=>exact .cons (eZ h) (gU t)
abbrev KT(H:Hp):List (List Key×V)→List (List Key×Addr×Value)→Prop:=Paired λp q=>p.1=q.1∧H q.2.1=some (.tup (p.1.map kV))∧aH p.2 q.2.2
theorem KT.val{H:Hp}{kvs:List (List Key×V)}{xs:List (List Key×Addr×Value)}(r:KT H kvs xs)(k:List Key):eY (bc kvs k) ((atKey xs k).map (·.2)):=by
 induction r with
 |nil=>exact True.intro
 |@cons p q ps qs h t ih =>
  obtain⟨h1,_,h2⟩:=h
  by_cases e:p.1=k
  ·have e':q.1=k:=h1.symm.trans e;have b:atKey (q::qs) k=some q.2:=by simp[atKey,find?_cons,e']
   rw[bi e,b];exact h2
  ·have e':¬q.1=k:=λz=>e (h1.trans z);have b:atKey (q::qs) k=atKey qs k:=by simp[atKey,find?_cons,e']
   rw[aX e,b];exact ih
theorem KT.repl{H:Hp}{kvs:List (List Key×V)}{xs:List (List Key×Addr×Value)}(r:KT H kvs xs)(k:List Key){y:V}{u:Value}(ry:aH y u):
  KT H (kvs.map λkv=>if kv.1=k then (kv.1,y)else kv) (xs.map (putAt k u)):=by
 induction r with
 |nil=>exact .nil
 |@cons p q ps qs h t ih =>
  rw[map_cons,map_cons];refine .cons ?_ ih;obtain⟨h1,h2,h3⟩:=h;unfold putAt
  by_cases e:p.1=k
  ·rw[if_pos e,if_pos (h1.symm.trans e)];exact⟨h1,h2,ry⟩
  ·rw[if_neg e,if_neg (λz=>e (h1.trans z))];exact⟨h1,h2,h3⟩
theorem KT.put{H:Hp}{kvs:List (List Key×V)}{xs:List (List Key×Addr×Value)}(r:KT H kvs xs)(k:List Key){b:Addr}{y:V}{u:Value}(hb:H b=some (.tup (k.map kV)))(ry:aH y u):
  KT H (bY kvs k y) (storedH xs k b u):=by
 have e:(kvs.any λkv=>decide (kv.1=k))=(atKey xs k).isSome:=by
  rw[gc,(r.val k).isSome_eq,isSome_map]
 unfold bY storedH;rw[e]
 by_cases q:(atKey xs k).isSome=true
 ·rw[if_pos q,if_pos q];exact r.repl k ry
 ·rw[if_neg q,if_neg q];exact Paired.snoc r ⟨rfl,hb,ry⟩
theorem KT.keeps{H H':Hp}{kvs:List (List Key×V)}{xs:List (List Key×Addr×Value)}(r:KT H kvs xs)(ht:∀b ys,H b=some (.tup ys)→H' b=some (.tup ys)):KT H' kvs xs :=
 Paired.mapP r λ_ _ z=>⟨z.1,ht _ _ z.2.1,z.2.2⟩
section
variable{P:Program}{w:World}{H:Hp}{h:Heap}{a:Addr}
theorem xp{u:HO}(ok:HOk P w H h)(e:Rd H a u):bA P w H h a u:=e.ok ok
theorem jh{kvs:List (Key×V)}(ok:HOk P w H h)(e:Rd H a (.dK kvs)):kvs.length≤sizeLine∧(a==sysModules)=false∧∃vs,KV kvs vs∧h.DictOf (aw P w) a vs :=
 show bA P w H h a (.dK kvs)from xp ok e
theorem ql{kvs:List (Key×V)}(ok:HOk P w H h)(e:H a=some (.dK kvs)):kvs.length≤sizeLine∧(a==sysModules)=false∧∃vs,KV kvs vs∧h.DictOf (aw P w) a vs:=jh ok (.inl e)
theorem gW{ks:List Key}(ok:HOk P w H h)(e:H a=some (.tup (ks.map kV))):(tupleKind (aw P w)).is h ks a:=by
 obtain⟨_,its,r,o,h1,h2,n,h3⟩:=(show bA P w H h a (.tup (ks.map kV))from ok a _ e);exact⟨o,its.toArray,n,h1,h2,h3,by simpa using gU r⟩
theorem ji{kvs:List (List Key×V)}(ok:HOk P w H h)(e:Rd H a (.dT kvs)):kvs.length≤sizeLine∧(a==sysModules)=false ∧
  ∃xs,KT H kvs xs∧h.DictOfH (tupleKind (aw P w)) a xs:=by
 obtain⟨z,y,xs,r,o,es,ep,h1,h2,h3,h4,h5⟩:=(show bA P w H h a (.dT kvs)from xp ok e);refine⟨z,y,xs,r,o,es,ep,h1,h2,h3,h4,λx hx=>?_,h5⟩;have all:∀{l:List (List Key×V)}{m:List (List Key×Addr×Value)},KT H l m→∀x∈m,(tupleKind (aw P w)).is h x.1 x.2.1:=by
  intro l m q
  induction q with
  |nil=>intro x hx;exact nomatch hx
  |@cons p q ps qs hq t ih =>
   intro x hx;rcases mem_cons.mp hx with e|hx
   ·subst e;exact gW ok (by rw[←hq.1];exact hq.2.1)
   ·exact ih x hx
 exact all r x hx
theorem zJ{kvs:List (List Key×V)}(ok:HOk P w H h)(e:H a=some (.dT kvs)):kvs.length≤sizeLine∧(a==sysModules)=false ∧
  ∃xs,KT H kvs xs∧h.DictOfH (tupleKind (aw P w)) a xs:=ji ok (.inl e)
end
def cK(H:Hp)(a:Addr)(y:V)(r:Option V):Prop :=
 (∃kvs k,Rd H a (.dK kvs)∧y=kV k∧r=bc kvs k)∨∃kvs k b,Rd H a (.dT kvs)∧y=.ref b∧H b=some (.tup (k.map kV))∧r=bc kvs k
def pw(H:Hp)(a:Addr)(y v:V)(H':Hp):Prop :=
 (∃kvs k,H a=some (.dK kvs)∧y=kV k∧kvs.length<sizeLine∧H'=upd H a (.dK (bY kvs k v))) ∨
 ∃kvs k b,H a=some (.dT kvs)∧y=.ref b∧H b=some (.tup (k.map kV))∧kvs.length<sizeLine∧H'=upd H a (.dT (bY kvs k v))
theorem cK.k{H:Hp}{a:Addr}{kvs:List (Key×V)}{k:Key}(e:H a=some (.dK kvs)):cK H a (kV k) (bc kvs k):=.inl ⟨kvs,k,.inl e,rfl,rfl⟩
theorem pw.k{H:Hp}{a:Addr}{kvs:List (Key×V)}{k:Key}{v:V}(e:H a=some (.dK kvs))(hl:kvs.length<sizeLine):pw H a (kV k) v (upd H a (.dK (bY kvs k v))):=.inl ⟨kvs,k,e,rfl,hl,rfl⟩
section
variable{X:Cx}{pins:List (Addr×Obj)}{σ:St}{H:Hp}{s:Shared}{a:Addr}{y v:V}{u r:Value}{o:Option V}{A:Around}{E:Value→Shared→Prop}
theorem Inv.big(I:Inv X pins σ H s):sysModules<s.heap.objs.size:=by
 have h:mainGlobals<s.heap.objs.size:=(I.mod.glob.keeps I.bk).lt;exact lt_trans (by decide) h
theorem rq{Q:Value→Shared→Prop}(hu:A.units+1<cLine)(I:Inv X pins σ H s)(g:cK H a y (some v))(ry:aH y u)(h:∀w' s',Inv X pins σ H s'→aH v w'→Q w' s'):
  wpAny (model X.prog X.w) A (getItem (.ref a) u) Q E s:=by
 rcases g with⟨kvs,k,e,ey,l⟩|⟨kvs,k,b,e,ey,eb,l⟩
 ·subst ey;obtain⟨z,hd,vs,rel,dd⟩:=jh I.hok e;obtain⟨w',hw,rw'⟩:=eY.some_of (v:=v) (o:=valueAt vs k) (by rw[l];exact rel.val k);exact wpAny_getItem_of (eZ ry) dd.mapOf hw (h w' _ (I.tok _) rw')
 ·subst ey;cases (show u=Value.ref b from ry);obtain⟨z,hd,xs,rel,dd⟩:=ji I.hok e;obtain⟨w',hw,rw'⟩:=eY.some_of (v:=v) (o:=(atKey xs k).map (·.2)) (by rw[l];exact rel.val k);obtain⟨p,hp,hp2⟩:=Option.map_eq_some_iff.mp hw;refine wpAny_getItem_heap (tupleKind_room_in1 hu) (gW I.hok eb) dd hp ?_;rw[hp2];exact h w' _ (I.tok _) rw'
theorem AO{Q:Value→Shared→Prop}(hu:A.units+1<cLine)(I:Inv X pins σ H s)(g:cK H a y o)(ry:aH y u)(h:∀s',Inv X pins σ H s'→Q (.bool o.isSome) s'):
  wpAny (model X.prog X.w) A (compareOp .In u (.ref a)) Q E s:=by
 rcases g with⟨kvs,k,e,ey,l⟩|⟨kvs,k,b,e,ey,eb,l⟩
 ·subst ey;obtain⟨z,hd,vs,rel,dd⟩:=jh I.hok e;refine wpAny_in_of (eZ ry) hd dd.mapOf ?_;rw[←(rel.val k).isSome_eq,←l];exact h _ (I.tok _)
 ·subst ey;cases (show u=Value.ref b from ry);obtain⟨z,hd,xs,rel,dd⟩:=ji I.hok e;refine wpAny_in_heap (tupleKind_room_in1 hu) (gW I.hok eb) hd dd ?_;have q:=(rel.val k).isSome_eq;rw[isSome_map]at q;rw[←q,←l];exact h _ (I.tok _)
theorem vE{Q:Value→Shared→Prop}(hu:A.units+1<cLine)(I:Inv X pins σ H s)(g:cK H a y o)(ry:aH y u)(h:∀s',Inv X pins σ H s'→Q (.bool (!o.isSome)) s'):
  wpAny (model X.prog X.w) A (compareOp .NotIn u (.ref a)) Q E s:=by
 rcases g with⟨kvs,k,e,ey,l⟩|⟨kvs,k,b,e,ey,eb,l⟩
 ·subst ey;obtain⟨z,hd,vs,rel,dd⟩:=jh I.hok e;refine wpAny_notIn_of (eZ ry) hd dd.mapOf ?_;rw[←(rel.val k).isSome_eq,←l];exact h _ (I.tok _)
 ·subst ey;cases (show u=Value.ref b from ry);obtain⟨z,hd,xs,rel,dd⟩:=ji I.hok e;refine wpAny_notIn_heap (tupleKind_room_in1 hu) (gW I.hok eb) hd dd ?_;have q:=(rel.val k).isSome_eq;rw[isSome_map]at q;rw[←q,←l];exact h _ (I.tok _)
theorem iM{h':Heap}{t':Nat}{ob:HO}(I:Inv X pins σ H s)(mu:Mut (H a))(hs:SameBut a s.heap h')(he:∃q,h'.get? a=some q)(new:bA X.prog X.w (upd H a ob) h' a ob):
  Inv X pins σ (upd H a ob) {s with heap:=h',toks:=t'} :=
 I.write (x:=a) (e:=a) mu (.inl rfl) (λb q hb z=>(hs.2 b hb).trans z) he new
theorem lP{P:Program}{w:World}{H':Hp}{h':Heap}{kvs:List (Key×V)}{vs:List (Key×Value)}(z:kvs.length≤sizeLine)(hd:(a==sysModules)=false)(rel:KV kvs vs)(dd:h'.DictOf (aw P w) a vs):
  bA P w H' h' a (.dK kvs):=⟨z,hd,vs,rel,dd⟩
theorem rA{H':Hp}{Q:Unit→Shared→Prop}(hu:A.units+1<cLine)(I:Inv X pins σ H s)(g:pw H a y v H')(ry:aH y u)(rv:aH v r)(h:∀s',Inv X pins σ H' s'→Q () s'):
  wpAny (model X.prog X.w) A (setItem (.ref a) u r) Q E s:=by
 rcases g with⟨kvs,k,e,ey,l,eH⟩|⟨kvs,k,b,e,ey,eb,l,eH⟩
 ·subst ey eH;obtain⟨z,hd,vs,rel,dd⟩:=ql I.hok e;have hz:vs.length≤sizeLine:=by rw[←rel.length];exact z
  have hl:(bY kvs k v).length≤sizeLine:=by have:=di kvs k v;omega
  refine wpAny_setItem_pairs (hsz:=hz) (eZ ry) dd λh' dd' hs=>h _ ?_;have he:∃q,h'.get? a=some q:=let⟨q,_,_,hq,_⟩:=dd';⟨q,hq⟩;exact iM I (by rw[e];exact True.intro) hs he (lP hl hd (rel.put k rv) dd')
 ·subst ey eH;cases (show u=Value.ref b from ry);obtain⟨z,hd,xs,rel,dd⟩:=zJ I.hok e;have hz:xs.length≤sizeLine:=by rw[←Paired.length rel];exact z
  have hl:(bY kvs k v).length≤sizeLine:=by have:=di kvs k v;omega
  refine wpAny_setItem_heap (hsz:=hz) (tupleKind_room_in1 hu) (gW I.hok eb) dd λh' dd' hs=>h _ ?_;obtain⟨q,es,ep,hq,h2,h3,h4,_,h5⟩:=dd';refine iM I (by rw[e];exact True.intro) hs ⟨q,hq⟩ ⟨hl,hd,_,(rel.put k eb rv).keeps λc ys ec=>?_,q,es,ep,hq,h2,h3,h4,h5⟩;rw[al (zt ec e (λz=>nomatch z))];exact ec
end
section
variable{X:Cx}{pins:List (Addr×Obj)}{σ:St}{H:Hp}{s:Shared}{a:Addr}{kvs:List (Key×V)}{k:Key}{u:Value}{A:Around}{E:Value→Shared→Prop}
theorem zK{v:V}{more:List Value}{Q:Value→Shared→Prop}(I:Inv X pins σ H s)(e:H a=some (.dK kvs))(ry:aH (kV k) u)(l:bc kvs k=some v)(hm:more=[]∨∃x,more=[x])(h:∀w' s',Inv X pins σ (upd H a (.dK (cR kvs k))) s'→aH v w'→Q w' s'):wpAny (model X.prog X.w) A (call (.builtin "dict.pop") (.ref a::u::more)) Q E s:=by
 obtain⟨z,hd,vs,rel,dd⟩:=ql I.hok e;obtain⟨w',hw,rw'⟩:=eY.some_of (v:=v) (o:=valueAt vs k) (by rw[←l];exact rel.val k);have hp:(keyPart u).isSome=true:=by
  cases k with
  |inl i=>obtain⟨t,q⟩:=(show ∃t,u=Value.int i t from ry);subst q;rfl
  |inr x=>obtain⟨t,q⟩:=(show ∃t,u=Value.str x t from ry);subst q;rfl
 have ha:argsOk "dict.pop" ⟨.ref a::u::more,[]⟩:=by
  rcases hm with q|⟨x,q⟩
  ·subst q;exact PySem.F.args_dict_pop_2 _ _
  ·subst q;exact PySem.F.args_dict_pop_3 _ _ _
 refine call_meetsIn slot_dict_pop dd.typeIs PySem.F.entry_dict_pop ha (meets_dict_pop_there (aw X.prog X.w) a (eZ ry) more hm hp)
  ⟨vs,w',dd,by rw[←rel.length];exact z,hw,λh' dd' hs=>h w' _ ?_ rw'⟩
 have he:∃q,h'.get? a=some q:=let⟨q,_,_,hq,_⟩:=dd';⟨q,hq⟩;exact iM I (by rw[e];exact True.intro) hs he (lP (le_trans (nv kvs k) z) hd (rel.drop k) dd')
theorem xQ{r:Value}{Q:Value→Shared→Prop}(I:Inv X pins σ H s)(e:H a=some (.dK kvs))(ry:aH (kV k) u)(l:bc kvs k=none)(h:∀s',Inv X pins σ H s'→Q r s'):
  wpAny (model X.prog X.w) A (call (.builtin "dict.pop") [.ref a,u,r]) Q E s:=by
 obtain⟨z,hd,vs,rel,dd⟩:=ql I.hok e;have hn:valueAt vs k=none:=eY.none_of (by rw[←l];exact rel.val k);have hp:(keyPart u).isSome=true:=by
  cases k with
  |inl i=>obtain⟨t,q⟩:=(show ∃t,u=Value.int i t from ry);subst q;rfl
  |inr x=>obtain⟨t,q⟩:=(show ∃t,u=Value.str x t from ry);subst q;rfl
 exact call_meetsIn slot_dict_pop dd.typeIs PySem.F.entry_dict_pop (PySem.F.args_dict_pop_3 _ _ _) (meets_dict_pop_default (aw X.prog X.w) a (eZ ry) hd hp r) ⟨vs,dd,hn,h _ (I.tok _)⟩
end
def zL(i:Expr):Prop:=∀ov iv,subscripted i false ov iv=operate [ov,iv] (getItem ov iv)
theorem vF{prog:Program}{w:World}{A:Around}{E:Value→Shared→Prop}{s:Shared}{env:Env}{value slice:Expr}{pos:Pos}{T id:String}{Q:Value→Shared→Prop}(hl:typeLookup (.type T) "__getitem__"=pure (some (.builtin id)))(hs:zL slice)(h:wpAny (model prog w) A (eval value env) (λo s₁=>wpAny (model prog w) A (eval slice env) (λi s₂=>s₂.TypeIs o T∧wpAny (model prog w) A (getItem o i) Q E s₂) E s₁) E s):
  wpAny (model prog w) A (eval (.Subscript value slice pos) env) Q E s:=by
 refine Subscript_ (wpAny_mono h (λo s₁ h₁=>wpAny_mono h₁ (λi s₂ h₂=>?_) λ_ _ x=>x) λ_ _ x=>x);obtain⟨hT,h₂⟩:=h₂;unfold subscriptTail;refine wpAny_bind ?_;rw[getitemInPython_of_ne hT.not_modules];refine wpAny_bind (wpAny_specialOf hT hl ?_);have fin:wpAny (model prog w) A (subscripted slice false o i) (λr s₃=>wpAny (model prog w) A (letTemporaryGo value o r >>= λ_=>pure r) Q E s₃) E s₂:=by
  rw[hs o i];exact wpAny_operating (wpAny_mono h₂ (λr s₃ h₃=>wpAny_bind (wpAny_letTemporaryGo (wpAny_pure h₃))) λ_ _ x=>x)
 first
  |exact wpAny_pure (wpAny_bind fin)
  |exact wpAny_bind (wpAny_pure (wpAny_bind fin))
  |exact wpAny_bind fin
theorem nw{X:Cx}{pins:List (Addr×Obj)}{σ:St}{H:Hp}{s:Shared}{a:Addr}{y:V}{o:Option V}(I:Inv X pins σ H s)(g:cK H a y o):s.TypeIs (.ref a) "dict":=by
 rcases g with⟨kvs,k,e,_,_⟩|⟨kvs,k,b,e,_,_,_⟩
 ·obtain⟨_,_,vs,_,dd⟩:=jh I.hok e;exact dd.typeIs
 ·obtain⟨_,_,xs,_,dd⟩:=ji I.hok e;exact dd.typeIs
def zM(td ty:TE):TE:=λσ H Q=>td σ H λx H1=>ty σ H1 λy H2=>∃a v,x=.ref a∧cK H2 a y (some v)∧Q v H2
def AQ(ty td:TE):TE:=λσ H Q=>ty σ H λy H1=>td σ H1 λx H2=>∃a o,x=.ref a∧cK H2 a y o∧Q (.bl o.isSome) H2
def vG(ty td:TE):TE:=λσ H Q=>ty σ H λy H1=>td σ H1 λx H2=>∃a o,x=.ref a∧cK H2 a y o∧Q (.bl (!o.isSome)) H2
def zN(td ty tv:TE):TS:=λD σ H=>tv σ H λv H1=>td σ H1 λx H2=>ty σ H2 λy H3=>∃a H4,x=.ref a∧pw H3 a y v H4∧D.nx σ H4
section
variable{X:Cx}{o i e value:Expr}{pos pos' tpos:Pos}{td ty tv:TE}
theorem cx(hu:X.A.units+1<cLine)(ho:PE X o td)(hi:PE X i ty)(hs:zL i):PE X (.Subscript o i pos) (zM td ty):=by
 intro pins s σ H Q I h;refine vF PySem.F.slot_dict_getitem.lookup hs (thn (ho pins s σ H _ I h) λu s1 ⟨x,H1,I1,rx,q1⟩=>thn (hi pins s1 σ H1 _ I1 q1) λiv s2 hpt=>?_);obtain⟨y,H2,I2,ry,a,v,ex,g,q2⟩:=hpt;subst ex;obtain rfl:u=Value.ref a:=rx;exact⟨nw I2 g,rq hu I2 g ry λw' s3 I3 rw'=>⟨v,H2,I3,rw',q2⟩⟩
theorem sY(hu:X.A.units+1<cLine)(hi:PE X i ty)(ho:PE X o td):PC X .In i o (AQ ty td):=by
 intro pins s σ H Q I h;refine thn (hi pins s σ H _ I h) λiv s1 ⟨y,H1,I1,ry,q1⟩=>thn (ho pins s1 σ H1 _ I1 q1) λu s2 hpt=>?_;obtain⟨x,H2,I2,rx,a,ov,ex,g,q2⟩:=hpt;subst ex;obtain rfl:u=Value.ref a:=rx;exact AO hu I2 g ry λs3 I3=>⟨.bl ov.isSome,H2,I3,rfl,q2⟩
theorem kY(hu:X.A.units+1<cLine)(hi:PE X i ty)(ho:PE X o td):PC X .NotIn i o (vG ty td):=by
 intro pins s σ H Q I h;refine thn (hi pins s σ H _ I h) λiv s1 ⟨y,H1,I1,ry,q1⟩=>thn (ho pins s1 σ H1 _ I1 q1) λu s2 hpt=>?_;obtain⟨x,H2,I2,rx,a,ov,ex,g,q2⟩:=hpt;subst ex;obtain rfl:u=Value.ref a:=rx;exact vE hu I2 g ry λs3 I3=>⟨.bl (!ov.isSome),H2,I3,rfl,q2⟩
theorem lQ(hu:X.A.units+1<cLine)(ho:PE X o td)(hi:PE X i ty)(hv:PE X value tv)(hs:swapsWith value (some (.Subscript o i pos')) pos.line X.env=pure false):
  PS X (.Assign [.Subscript o i pos'] value pos) (zN td ty tv):=by
 intro pins s σ H D I h;refine wpAny_Assign_Subscript (thn (hv pins s σ H _ I h) λr s1 ⟨v,H1,I1,rv,q1⟩=>thn (ho pins s1 σ H1 _ I1 q1) λu s2 ⟨x,H2,I2,rx,q2⟩=>thn (hi pins s2 σ H2 _ I2 q2) λiv s3 ⟨y,H3,I3,ry,a,H4,ex,g,q3⟩=>?_) hs;subst ex;obtain rfl:u=Value.ref a:=rx;exact rA hu I3 g ry rv λs4 I4=>⟨σ,H4,I4,q3⟩
end
theorem sZ{P:Program}{w:World}{H:Hp}(h:Heap)(hb:sysModules<h.objs.size):bA P w H (h.push {cls:=.type "dict",data:=.dict #[]}) h.objs.size (.dK []) :=
 ⟨zero_le _,beq_eq_false_iff_ne.mpr (symm (ne_of_lt hb)),[],.nil,Heap.DictOf.new h⟩
def xR:TE:=λ_ H Q=>∀p,H p=none→Q (.ref p) (upd H p (.dK []))
section
variable{X:Cx}{pos:Pos}
theorem tf:PE X (.Dict [] [] pos) xR:=λpins s σ H Q I h =>
 wpAny_Dict_empty ⟨.ref s.heap.objs.size,_,I.laid (a:=s.heap.objs.size) (o:=.dK []) (t':=s.toks) (λ_ _ q=>get?_push_of_some _ q) (le_refl _) (sZ s.heap I.big),rfl,h _ (I.hok.fresh (le_refl _))⟩
end
structure M1(X:Cx)(o:Expr)(m:Str)(apos:Pos)(e:Expr)(cpos:Pos):Prop where
 base:attributeBase o m X.env (eval o X.env)=eval o X.env
 few:((backTo cpos (starEach [e] X.env)).all (λx=>!x.1)&&(backToKw cpos (keywordEach [] X.env)).all (λx=>x.1.isSome)
  && decide (([e]:List Expr).length+([]:List Keyword).length+(if ([]:List Keyword).isEmpty then 0 else 1)<30))=true
 line:(apos.endLine==cpos.line)=true
 trees:backTo cpos (starEach [e] X.env)=[(false,eval e X.env)]
structure M2(X:Cx)(o:Expr)(m:Str)(apos:Pos)(e f:Expr)(cpos:Pos):Prop where
 base:attributeBase o m X.env (eval o X.env)=eval o X.env
 few:((backTo cpos (starEach [e,f] X.env)).all (λx=>!x.1)&&(backToKw cpos (keywordEach [] X.env)).all (λx=>x.1.isSome)
  && decide (([e,f]:List Expr).length+([]:List Keyword).length+(if ([]:List Keyword).isEmpty then 0 else 1)<30))=true
 line:(apos.endLine==cpos.line)=true
 trees:backTo cpos (starEach [e,f] X.env)=[(false,eval e X.env),(false,eval f X.env)]
def IsD(H:Hp)(a:Addr):Prop:=(∃kvs,Rd H a (.dK kvs))∨∃kvs,Rd H a (.dT kvs)
theorem tm{X:Cx}{pins:List (Addr×Obj)}{σ:St}{H:Hp}{s:Shared}{a:Addr}(I:Inv X pins σ H s)(d:IsD H a):
  s.TypeIs (.ref a) "dict"∧(∀b,Value.ref a=.ref b→∃ob,s.heap.get? b=some ob∧ob.dict=none)∧(a==sysModules)=false:=by
 rcases d with⟨kvs,e⟩|⟨kvs,e⟩
 ·obtain⟨_,hd,vs,_,dd⟩:=jh I.hok e;refine⟨dd.typeIs,λb q=>?_,hd⟩;cases q;obtain⟨ob,_,_,h1,h2,_⟩:=dd;exact⟨ob,h1,h2.2.1⟩
 ·obtain⟨_,hd,xs,_,dd⟩:=ji I.hok e;refine⟨dd.typeIs,λb q=>?_,hd⟩;cases q;obtain⟨ob,_,_,h1,h2,_⟩:=dd;exact⟨ob,h1,h2.2.1⟩
section
variable{X:Cx}{pins:List (Addr×Obj)}{σ:St}{H:Hp}{s:Shared}{a:Addr}{y d:V}{u r:Value}{o:Option V}{A:Around}{E:Value→Shared→Prop}
theorem xS{Q:Value→Shared→Prop}(hu:A.units+1<cLine)(I:Inv X pins σ H s)(g:cK H a y o)(ry:aH y u)(h:∀w' s',Inv X pins σ H s'→aH (o.getD .non) w'→Q w' s'):
  wpAny (model X.prog X.w) A (call (.builtin "dict.get") [.ref a,u]) Q E s:=by
 rcases g with⟨kvs,k,e,ey,l⟩|⟨kvs,k,b,e,ey,eb,l⟩
 ·subst ey;obtain⟨z,hd,vs,rel,dd⟩:=jh I.hok e;refine call_meetsIn slot_dict_get dd.typeIs PySem.F.entry_dict_get (PySem.F.args_dict_get_2 _ _) (meets_dict_get (aw X.prog X.w) a (eZ ry) hd) ⟨_,dd.mapOf,h _ _ (I.tok _) ?_⟩;rw[l];exact(rel.val k).getD rfl
 ·subst ey;cases (show u=Value.ref b from ry);obtain⟨z,hd,xs,rel,dd⟩:=ji I.hok e;refine call_meetsIn slot_dict_get dd.typeIs PySem.F.entry_dict_get (PySem.F.args_dict_get_2 _ _) (meetsH_dict_get (tupleKind (aw X.prog X.w)) a b hd) ⟨tupleKind_room_in1 hu,k,xs,gW I.hok eb,dd,h _ _ (I.tok _) ?_⟩;rw[l];exact(rel.val k).getD rfl
end
def xU(td ty:TE):TE:=λσ H Q=>td σ H λx H1=>∃a,x=.ref a∧IsD H1 a∧ty σ H1 λy H2=>∃o,cK H2 a y o∧Q (o.getD .non) H2
def xV(td ty tx:TE):TE:=λσ H Q=>td σ H λx H1=>∃a,x=.ref a∧IsD H1 a∧ty σ H1 λy H2=>tx σ H2 λz H3=>∃kvs k,H3 a=some (.dK kvs)∧y=kV k ∧
 (∀v,bc kvs k=some v→Q v (upd H3 a (.dK (cR kvs k))))∧(bc kvs k=none→Q z H3)
section
variable{X:Cx}{o e f:Expr}{apos cpos:Pos}{td ty tx:TE}
theorem ny(hu:X.A.units+1<cLine)(ho:PE X o td)(he:PE X e ty)(m:M1 X o "get" apos e cpos):PE X (.Call (.Attribute o "get" apos) [e] [] cpos) (xU td ty):=by
 intro pins s σ H Q I h;refine wpAny_Call_method m.base m.few m.line plainAttrs_dict slot_dict_get PySem.F.type_dict_get (thn (ho pins s σ H _ I h) λu s1 hpt=>?_);obtain⟨x,H1,I1,rx,a,ex,d,q1⟩:=hpt;subst ex;obtain rfl:u=Value.ref a:=rx;obtain⟨t1,t2,_⟩:=tm I1 d;refine⟨t1,t2,?_⟩;rw[m.trees];refine callWith_builtin rfl (evalArgs_plain (spliced_cons (thn (he pins s1 σ H1 _ I1 q1) λiv s2 ⟨y,H2,I2,ry,ov,g,q2⟩=>spliced_nil ?_)));exact xS hu I2 g ry λw' s3 I3 rw'=>⟨_,H2,I3,rw',q2⟩
theorem tq(ho:PE X o td)(he:PE X e ty)(hf:PE X f tx)(m:M2 X o "pop" apos e f cpos):PE X (.Call (.Attribute o "pop" apos) [e,f] [] cpos) (xV td ty tx):=by
 intro pins s σ H Q I h;refine wpAny_Call_method m.base m.few m.line plainAttrs_dict slot_dict_pop PySem.F.type_dict_pop (thn (ho pins s σ H _ I h) λu s1 hpt=>?_);obtain⟨x,H1,I1,rx,a,ex,d,q1⟩:=hpt;subst ex;obtain rfl:u=Value.ref a:=rx;obtain⟨t1,t2,_⟩:=tm I1 d;refine⟨t1,t2,?_⟩;rw[m.trees];refine callWith_builtin rfl (evalArgs_plain (spliced_cons (thn (he pins s1 σ H1 _ I1 q1) λiv s2 ⟨y,H2,I2,ry,q2⟩ =>
  spliced_cons (thn (hf pins s2 σ H2 _ I2 q2) λfv s3 ⟨z,H3,I3,rz,kvs,k,ea,ey,q3,q4⟩=>spliced_nil ?_))))
 subst ey;cases l:bc kvs k with
 |some v=>exact zK I3 ea ry l (.inr ⟨fv,rfl⟩) λw' s4 I4 rw'=>⟨v,_,I4,rw',q3 v l⟩
 |none=>exact xQ I3 ea ry l λs4 I4=>⟨z,H3,I4,rz,q4 l⟩
end
section
variable{X:Cx}{pins:List (Addr×Obj)}{σ:St}{H:Hp}{s:Shared}{a:Addr}{kvs:List (Key×V)}{A:Around}{E:Value→Shared→Prop}
end
section
variable{X:Cx}{pins:List (Addr×Obj)}{σ:St}{H:Hp}{s:Shared}{a:Addr}{y:V}{u:Value}{A:Around}{E:Value→Shared→Prop}
end
end L2
namespace Att
open PySem PySem.W PySem.Calls PyProof.Rows
theorem iD{P:Params}{h:Heap}:∀(ns:List Int)(vs:List Value),WellAll P h vs (ns.map WData.int)→IntsAre vs ns:=by
 intro ns
 induction ns with
 |nil =>
  intro vs w;rw[map_nil]at w;cases w;exact .nil
 |cons n ns ih =>
  intro vs w;rw[map_cons]at w;cases w with
  |cons a b =>
   cases a;exact .cons _ _ (ih _ b)
theorem rB{l:OpenLaw}{n:Nat}(hn:l.most=some n){P:Params}{h:Heap}{args:List WData}{vals:List Value}(hpre:l.row.toRowW.claim.pre args=true)(hwl:WellAll P h vals args):
  ∃a vs ns,vals=[Value.ref a]∧args=[WData.list (ns.map WData.int)]∧h.get? a=some {cls:=.type "list",data:=.seq vs.toArray}∧IntsAre vs ns∧ns.length≤n:=by
 have hsh:WShape.hasAll [] args [.list .int]=true:=(pre_splitW hpre).1;have hc:l.pre.holds [] {args:=args}=true:=(pre_splitW hpre).2;obtain⟨d,r,rfl,h1,h2⟩:=hasAllW_cons hsh;obtain rfl:=hasAllW_nil h2;obtain⟨xs,rfl,h3⟩:=hasW_list h1;obtain⟨ns,rfl⟩:=items_int h3;have hlen:ns.length≤n:=by
  unfold OpenLaw.pre at hc;have h4:(WTm.not (.lt (.lit (.int (n:Int))) (.len (.arg 0)))).holds [] {args:=[.list (ns.map .int)]}=true:=by
   have h4:=(holds_andW hc).1;rw[hn]at h4;exact h4
  have h5:=condW_of h4 (w_not (w_lt w_lit (w_len_list (w_arg rfl))));rw[length_map]at h5;refine Nat.le_of_not_lt λq=>?_;have q':(n:Int)<((ns.length:Nat):Int):=by omega
  first
   |(rw[decide_eq_true q']at h5;exact absurd h5 (by decide))
   |(simp at h5;omega)
 cases hwl with
 |cons w1 w2 =>
  cases w2;cases w1 with
  |list ho hall=>exact⟨_,_,ns,rfl,rfl,ho,iD ns _ hall,hlen⟩
theorem rC(l:OpenLaw)(args:List WData):l.row.toRowW.claim.post args (.bool true) args=true :=
 postW_of (r:=l.row.toRowW) (X:=(true==true))
  (show WShape.has [] (.bool true) .bool=true by first|rfl|decide|simp[WShape.has,WShape.arms,WShape.armsAll])
  (show(WTm.eq .res (.lit (.bool true))).value [] {args:=args,res:=some (.bool true),after:=args}=some (.bool (true==true))from w_eq_bool (w_res rfl) w_lit) rfl
theorem nA{l:OpenLaw}{n:Nat}{q:Program}{loose:List Str}{XP:(Str→Option Value)→Heap→Prop}{YP:World→Heap→Prop}{d:DefRec}(hn:l.most=some n)(hdf:d.params.defaults=[])(call:∀(w:World) (s₀ s₁:Shared) (mg mb:Str→Option Value) (fa:Addr) (o:Obj) (pm cd doc:Value) (a:Addr) (vs:List Value) (ns:List Int),
   Ground q loose [] XP w s₀ mg mb s₁.heap→YP w s₁.heap →
   s₁.heap.get? fa=some o→o.data=.func (docDef d.name d.params d.body d.scope pm cd doc)→s₁.heap.CodeRec cd d.name→mg d.name=some (.ref fa) →
   s₁.heap.get? a=some {cls:=.type "list",data:=.seq vs.toArray}→IntsAre vs ns→ns.length≤n→s₁.gens=#[] →
   codeAny (model l.prog w) callerA (.call (.ref fa) ⟨[.ref a],[]⟩) (λr s'=>r=.ok (.ret (.bool true))∧OldK s₁.heap s'.heap∧s'.os=s₁.os∧AllBare s'.gens) s₁):
  WalkO q loose XP YP l.row.toRowW d [] (λf vs=>PySem.call f vs):=by
 intro w s₀ s₁ mg mb G Y fa o pm cd doc dV kV ho hd hcd hD hmg hg args vals as hpre hlay hrd hwl hlo;obtain rfl:dV=.none:=Dflts.none hD hdf;obtain rfl:kV=.none:=Dflts.noKw hD;obtain⟨a,vs,ns,rfl,rfl,hobj,hints,hlen⟩:=rB hn hpre hwl;refine enter_call (codeAny_mono (call w s₀ s₁ mg mb fa o pm cd doc a vs ns G Y ho (fd_plain hd) hcd hmg hobj hints hlen hg) λr s' hq=>?_);obtain⟨rfl,h2,h3,h4⟩:=hq;exact⟨.inl ⟨.bool true,.bool true,[],rfl,λ_=>rfl,.bool true,rC l _,λ_=>⟨Pairwise.nil,λ_ hm=>(nomatch hm)⟩⟩,h2,h3,h4⟩
section
variable{prog:Program}{w:World}{A:Around}{E:Value→Shared→Prop}{s:Shared}{K:Frag}
end
end Att
namespace L2
open PySem PySem.Spec PyProof.Rows
theorem lg:∀{vs:List Value}{ns:List Int},IntsAre vs ns→ar (ns.map V.int) vs
 |_,_,.nil=>.nil
 |_,_,.cons n t h=>.cons ⟨t,rfl⟩ (lg h)
def xW(H:Hp):Prop:=∀b,H b=none∨∃o xs,H b=some (.frz o (.lst xs))
theorem tu{P:Program}{w:World}{K:PySem.W.Frag}{mg mb:Str→Option Value}{CX:CXT}{k:Nat}{fa a:Addr}{fd:FuncData}{x:Str}{sp:Sp}{s₁:Shared}{vs:List Value}{ns:List Int}(KX:K.In s₁.heap)(hns:s₁.heap.Ns mainGlobals mg)(hb:s₁.heap.Ns builtinsNs mb)(hbb:∀x:Str,x≠"__name__"→mb x=bootBuiltins x)(hlim:s₁.heap.NoLimit)(hg:s₁.gens=#[])(ha:s₁.heap.get? a=some {cls:=.type "list",data:=.seq vs.toArray})(hi:IntsAre vs ns)(hl:ns.length≤sizeLine)(hr:Room k callerA)(F:∀base:Heap,K.In base→base.Ns mainGlobals mg→FnOk P w K mg base CX k fa fd [x] sp)(hbind:∀(s:Shared) (u:Value),BindsTo s fd ⟨[u],[]⟩ [(x,u)])(hsp:∀H:Hp,xW H→SqL K H a (ns.map V.int)→sp [.ref a] H (λv _=>v=.bl true) λ_ _ _=>False)(hCX:∀H e s',CX [] H s₁ (λ_ _ _=>False) e s'→False):
  codeAny (model P w) callerA (.call (.ref fa) ⟨[.ref a],[]⟩) (λr s'=>r=.ok (.ret (.bool true))∧OldK s₁.heap s'.heap∧s'.os=s₁.os∧AllBare s'.gens) s₁:=by
 have rv:=lg hi;have lenV:=hi.length;have core:∀H:Hp,xW H→SqL K H a (ns.map V.int)→HOk P w H s₁.heap→(∀b,H b≠none→b=a)→(H a≠none→K.lookup a=none) →
   codeAny (model P w) callerA (.call (.ref fa) ⟨[.ref a],[]⟩) (λr s'=>r=.ok (.ret (.bool true))∧OldK s₁.heap s'.heap∧s'.os=s₁.os∧AllBare s'.gens) s₁:=by
  intro H hO hS hok hA hK;have base_of:∀{b:Addr}{o:Obj},s₁.heap.get? b=some o→H b=none→(lG s₁.heap H).get? b=some o:=λe n=>sE e n;have noA:∀{b:Addr}{o:Obj}{es:Array DictEntry}{ep:Nat},s₁.heap.get? b=some o→o.data=.dict es ep→H b=none:=λ{b o es ep} e d=>by
   cases q:H b with
   |none=>rfl
   |some u =>
    have e':b=a:=hA b (by rw[q];simp);subst e';rw[ha]at e;cases e;have d':Data.seq vs.toArray _=Data.dict es ep:=d;cases d'
  have nsK:∀{b:Addr}{m:Str→Option Value},s₁.heap.Ns b m→(lG s₁.heap H).Ns b m:=λ{b m} ⟨o,es,ep,e,d,r⟩=>⟨o,es,ep,base_of e (noA e d),d,r⟩;have hKb:K.In (lG s₁.heap H):=λb o e=>base_of (KX b o e) (by
   cases q:H b with
   |none=>rfl
   |some u =>
    have e':b=a:=hA b (by rw[q];simp);subst e';rw[hK (by rw[q];simp)]at e;cases e)
  have hM:Mod K mg (lG s₁.heap H):=⟨hKb,nsK hns,⟨mb,nsK hb,hbb⟩,let⟨mc,h1,h2⟩:=hlim;⟨mc,nsK h1,h2⟩⟩;have e0:Env0 P w K mg (lG s₁.heap H) callerA [] s₁ H:=⟨rfl,hM,λb o e=>vp e,le_of_eq (rj _ _),trivial,λb hb=>absurd (show b∈([]:List Addr)from hb) (by simp),hok,.of_eq hg⟩;refine codeAny_mono ((F _ hKb (nsK hns)).run callerA [] s₁ H ⟨[.ref a],[]⟩ [.ref a] [.ref a] _ _ hr e0 (hbind s₁ (.ref a)) (.cons rfl .nil) (hsp H hO hS)) λr s' h=>?_;cases r with
  |error e=>exact(hCX H e s' h).elim
  |ok fl =>
   cases fl with
   |next=>exact False.elim h
   |brk=>exact False.elim h
   |cont=>exact False.elim h
   |ret u =>
    obtain⟨v,H',os,bare,un,hok',r',q⟩:=h;have q':v=.bl true:=q;subst q';obtain rfl:u=Value.bool true:=r';refine⟨rfl,OldK.of_keep λb o e=>?_,os,bare⟩;cases q:H b with
    |none=>exact un.keep b o e q (by intro z;exact absurd (show b∈([]:List Addr)from z) (by simp)) (by simp)
    |some u =>
     rcases hO b with z|⟨ob,xs,z⟩
     ·rw[q]at z;cases z
     ·have z2:=un.frzs b ob _ z;obtain⟨e1,_⟩:=hok b _ z;obtain⟨e2,_⟩:=hok' b _ z2;rw[e]at e1;cases e1;exact e2
 cases hk:K.lookup a with
 |some o =>
  have e:=KX a o hk;rw[ha]at e;cases e;refine core (λ_=>none) (λ_=>.inl rfl) (.inr ⟨_,vs.toArray,_,hk,rfl,rfl,rfl,by rw[size_toArray,lenV];exact hl,by simpa using rv⟩) (λb u z=>by have z':(none:Option HO)=some u:=z;cases z') (λb z=>absurd rfl z) λz=>absurd rfl z
 |none =>
  refine core (λb=>if b=a then some (.frz {cls:=.type "list",data:=.seq vs.toArray} (.lst (ns.map V.int)))else none) (λb=>?_) (.inl (.inr ⟨{cls:=.type "list",data:=.seq vs.toArray},if_pos rfl⟩)) (λb u z=>?_) (λb z=>?_) λ_=>hk
  ·by_cases hb:b=a
   ·exact .inr ⟨_,_,if_pos hb⟩
   ·exact .inl (if_neg hb)
  ·by_cases hb:b=a
   ·have z':=(if_pos hb).symm.trans z;cases z';subst hb;exact⟨ha,by rw[length_map];exact hl,vs,_,rv,ha⟩
   ·have z':=(if_neg hb).symm.trans z;cases z'
  ·by_cases hb:b=a
   ·exact hb
   ·exact absurd (if_neg hb) z
theorem vH{l:PySem.W.OpenLaw}{n k:Nat}{q:Program}{loose:List Str}{XP:(Str→Option Value)→Heap→Prop}{YP:World→Heap→Prop}{d:DefRec}{K:Params→PySem.W.Frag}{CX:World→CXT}{sp:World→Sp}{x:Str}(hn:l.most=some n)(hn2:n≤sizeLine)(hdf:d.params.defaults=[])(hr:Room k callerA)(hY:∀(w:World) (h:Heap),YP w h→(K w.params).In h)(F:∀(w:World) (mg:Str→Option Value) (fa:Addr) (h:Heap),(K w.params).In h→h.Ns mainGlobals mg→mg d.name=some (.ref fa) →
   ∃fd:FuncData,(∀(s:Shared) (u:Value),BindsTo s fd ⟨[u],[]⟩ [(x,u)]) ∧
    ∀base:Heap,(K w.params).In base→base.Ns mainGlobals mg→FnOk l.prog w (K w.params) mg base (CX w) k fa fd [x] (sp w))(hsp:∀(w:World) (H:Hp) (a:Addr) (ns:List Int),ns.length≤n→xW H→SqL (K w.params) H a (ns.map V.int)→sp w [.ref a] H (λv _=>v=.bl true) λ_ _ _=>False)(hCX:∀(w:World) (H:Hp) (s:Shared) (e:Value) (s':Shared),CX w [] H s (λ_ _ _=>False) e s'→False):
  PySem.W.WalkO q loose XP YP l.row.toRowW d [] (λf vs=>PySem.call f vs):=by
 refine Att.nA hn hdf λw s₀ s₁ mg mb fa o pm cd doc a vs ns G Y ho hd hcd hmg hobj hints hlen hg=>?_;have KX:=hY w _ Y;obtain⟨fd,hb,hF⟩:=F w mg fa _ KX G.T.g hmg;exact tu KX G.T.g G.T.b G.T.builtins G.T.nolimit hg hobj hints (le_trans hlen hn2) hr hF hb (λH hO hS=>hsp w H a ns hlen hO hS) λH e s'=>hCX w H s₁ e s'
def dG(s:Stmt):Arguments:=match s with
 |.FunctionDef _ a _ _ _ _ _ _ _ _=>a
 |_=>{posonlyargs:=[],args:=[],vararg:=none,kwonlyargs:=[],kw_defaults:=[],kwarg:=none,defaults:=[]}
def bv(s:Stmt):List Stmt:=match s with
 |.FunctionDef _ _ b _ _ _ _ _ _ _=>b
 |_=>[]
def ai(s:Stmt):Scope:=match s with
 |.FunctionDef _ _ _ _ _ _ sc _ _ _=>sc
 |_=>{kind:=.function,names:=[],isGenerator:=false,isCoroutine:=false}
abbrev CX0:CXT:=λ_ _ _ _ _ _=>False
abbrev E0:XK:=λ_ _ _=>False
theorem au{X:Cx}:gM CX0 X E0:=λ_ _ _ _ _ _ _ h=>h.elim
structure Fun(K:PySem.W.Frag)(x qual:Str)(st:Stmt)(f:Addr)(fd:FuncData):Prop where
 ex:∃(oc:Value) (od:Option Addr) (kV doc pm:Value) (an:Option Addr) (cdv ct:Value) (osl:Array (Option Value)),
  fd=fnOf x qual (dG st) (bv st) (ai st) .none kV doc pm an cdv ct∧K.lookup f=some ⟨oc,od,.func fd,osl⟩∧codeIn K cdv qual=true
 kp:keepIn K (.ref f)=true
section
variable{P:Program}{w:World}{K:PySem.W.Frag}{mg:Str→Option Value}{base:Heap}
theorem Fun.ok{x qual:Str}{st:Stmt}{f:Addr}{fd:FuncData}{N ps:List Str}{k:Nat}{sp:Sp}(F:Fun K x qual st f fd)(S:FnScope N ps (ai st))(len:∀vs H Q E,sp vs H Q E→vs.length=ps.length)(hbody:∀(cdv:Value) (A:Around) (outer:List Env) (s:Shared) (H:Hp) (vs:List V) (Q:VK) (E:XK),Room k (A.deeper (envOfC qual (ai st) s.heap.objs.size f cdv))→sp vs H Q E →
   ∃t,PSs (fM CX0 P w K mg base N qual (ai st) f cdv A outer s H E).nox (bv st) t∧t {nx:=λ_ H'=>Q .non H',rt:=Q} (start N vs) H):FnOk P w K mg base CX0 (k+1) f fd ps sp:=by
 obtain⟨oc,od,kV,doc,pm,an,cdv,ct,osl,rfl,lk,hcd⟩:=F.ex;refine xo lk hcd S len λA outer s H vs Q E hr hsp=>?_;obtain⟨t,h,q⟩:=hbody cdv A outer s H vs Q E hr hsp;exact⟨t,h.nox,q⟩
theorem Fun.binds{x qual:Str}{st:Stmt}{f:Addr}{fd:FuncData}{ps:List Str}(F:Fun K x qual st f fd)(h:∀(kV doc pm:Value) (an:Option Addr) (cdv ct:Value) (us:List Value),us.length=ps.length→bindArgs (fnOf x qual (dG st) (bv st) (ai st) .none kV doc pm an cdv ct) ⟨us,[]⟩=pure (ps.zip us)):cP K fd ps []:=by
 obtain⟨oc,od,kV,doc,pm,an,cdv,ct,osl,rfl,lk,hcd⟩:=F.ex;exact .all (h kV doc pm an cdv ct)
theorem xX{x qual:Str}{st:Stmt}{f:Addr}{oc:Value}{od an:Option Addr}{osl:Array (Option Value)}{kV doc pm cdv ct:Value}(l:K.lookup f=some ⟨oc,od,.func (fnOf x qual (dG st) (bv st) (ai st) .none kV doc pm an cdv ct),osl⟩)(c:codeIn K cdv qual=true)(k:keepIn K (.ref f)=true):Fun K x qual st f (fnOf x qual (dG st) (bv st) (ai st) .none kV doc pm an cdv ct):=⟨⟨oc,od,kV,doc,pm,an,cdv,ct,osl,rfl,l,c⟩,k⟩
end
theorem cr{A:Around}{k:Nat}(hr:Room k A):A.units+1<cLine:=lt_of_le_of_lt (Nat.add_le_add_left (by decide:1≤64) _) hr.units
theorem aE{n:Nat}(h:n≤1000):n<sizeLine:=lt_of_le_of_lt h (by decide)
section
variable{X:Cx}
theorem pv(i:Nat){x:Str}{pos:Pos}(hN:X.N[i]?=some x:=by rfl)(hv:Vis X.env.scope x:=by first|exact Or.inl rfl|exact Or.inr (Or.inl rfl)|exact Or.inr (Or.inr rfl))(hd:(x==("__debug__":Str))=false:=by decide)(hcd:(x==("__classdict__":Str))=false:=by decide):PE X (.Name x pos) (vq i):=xC hN hv hd hcd
end
theorem cy{A B:Prop}(h:B):if false=true then A else B:=by
 rw[if_neg Bool.false_ne_true];exact h
theorem iE{A B:Prop}(h:A):if true=true then A else B:=by
 rw[if_pos rfl];exact h
theorem AR{c A B:Prop}[Decidable c](h1:c→A)(h2:¬c→B):if c then A else B:=by
 by_cases h:c
 ·rw[if_pos h];exact h1 h
 ·rw[if_neg h];exact h2 h
def Same(H H':Hp):Prop:=∀b o,H b=some o→H' b=some o
theorem Same.refl(H:Hp):Same H H:=λ_ _ h=>h
theorem Same.trans{H H1 H2:Hp}(a:Same H H1)(b:Same H1 H2):Same H H2:=λc o h=>b c o (a c o h)
theorem Same.free{H H':Hp}(e:Same H H'){l:Addr}(h:H' l=Option.none):H l=Option.none:=by
 cases q:H l with
 |none=>rfl
 |some o =>
  rw[e l o q]at h;cases h
theorem Same.seq{K:PySem.W.Frag}{H H':Hp}{a:Addr}{xs:List V}(e:Same H H')(h:SqL K H a xs):SqL K H' a xs:=by
 rcases h with (h|⟨o,h⟩)|h
 ·exact .inl (.inl (e _ _ h))
 ·exact .inl (.inr ⟨o,e _ _ h⟩)
 ·exact .inr h
section
variable{κ:Type}[DecidableEq κ]
theorem rD{p:κ×V}{r:List (κ×V)}{k:κ}(e:p.1=k):cR (p::r) k=cR r k:=by
 unfold cR;rw[filter_cons,if_neg (by simp[e])]
theorem rE{p:κ×V}{r:List (κ×V)}{k:κ}(e:¬p.1=k):cR (p::r) k=p::cR r k:=by
 unfold cR;rw[filter_cons,if_pos (by simp[e])]
end
structure LcOk(X:Cx)(scope:Scope)(cl:List (Str×Addr)):Prop where
 kind:scope.kind=.function
 clos:closureFor scope X.env=pure cl
 names:∀x∈scope.names,x.2=.local→scope.names.lookup x.1=some .local
 nocell:∀x∈scope.names,x.2≠.cell
 cells:∀x c,cl.lookup x=some c→X.env.cells.lookup x=some c
 has:∀x,((relabel scope X.env).names.lookup x=some .cell∨(relabel scope X.env).names.lookup x=some .free)→∃c,cl.lookup x=some c
abbrev bn(X:Cx)(N:List Str)(scope:Scope)(cl:List (Str×Addr))(s:Shared)(H:Hp)(ex:List Addr):Cx :=
 {X with N:=N,s₀:=s,H₀:=H,env:=compEnvC scope cl s.heap.objs.size X.env,outer:=X.stack,stack:=X.stack,ex:=ex,fn:=λ_=>false,pn:=[],xe:=λ_ _=>False}
section
variable{X:Cx}{pins:List (Addr×Obj)}{σ:St}{H:Hp}{s:Shared}{N:List Str}{scope:Scope}{cl:List (Str×Addr)}{fp:List Addr}
theorem tw(I:Inv X pins σ H s)(L:LcOk X scope cl)(hf:∀b∈fp,dc X pins H b)(ho:∀b∈fp,b<s.heap.objs.size):(bn X N scope cl s H fp).Ok where
 mod:=I.ok.mod
 kind:=L.kind
 glob:=I.ok.glob
 blt:=I.ok.blt
 above:=le_refl _
 inj:=λx y c h1 h2=>I.ok.inj x y c (L.cells x c h1) (L.cells y c h2)
 has:=λx hx=>L.has x hx
 cab:=λx c h _=>absurd h (by simp)
 hd:=I.ok.hd
 frames:=I.ok.frames
 stk:=.inl rfl
 exf:=λb hb=>⟨ne_of_lt (ho b hb),λx c h=>(hf b hb).2.2.2.2.1 x c (L.cells x c h)⟩
 bs:=I.bs
 bsz:=le_trans I.ok.bsz I.sz
 noex:=λb o e hb=>by
  rcases (hf b hb).2.2.2.1 with z|z
  ·exact I.ok.noex b o e z
  ·exact absurd (lt_of_lt_of_le (lt_size e) (le_trans I.ok.bsz z)) (lt_irrefl _)
 exfs:=λb hb hs=>by
  rcases mem_cons.mp (I.stkSub b hs)with z|z
  ·exact(hf b hb).2.1 z
  ·exact(hf b hb).2.2.1 z
 funs:=I.stack
 frf:=I.stkFree
def cH(k:Nat)(js:List Nat)(σ:St):St:=List.replicate k none++js.map λj=>(σ[j]?).getD none
theorem nB{h₁:Heap}{tk:Nat}{k:Nat}{js:List Nat}(I:Inv X pins σ H s)(L:LcOk X scope cl)(hf:∀b∈fp,dc X pins H b)(ho:∀b∈fp,b<s.heap.objs.size)(hns:∃m,h₁.Ns s.heap.objs.size m)(hk:∀b o,s.heap.get? b=some o→h₁.get? b=some o)(hN:N.length=k+js.length)(hj:∀(i j:Nat) x,js[i]?=some j→N[k+i]?=some x→X.N[j]?=some x∧Vis X.env.scope x∧X.env.scope.names.lookup x≠some .local∧((relabel scope X.env).names.lookup x=some .cell∨(relabel scope X.env).names.lookup x=some .free)):
  Inv (bn X N scope cl s H fp) [] (cH k js σ) H {s with heap:=h₁,toks:=tk}:=by
 obtain⟨m,hm⟩:=hns;have cellK:∀c v,s.heap.IsCell c v→h₁.IsCell c v:=λc v ⟨o,e,d⟩=>⟨o,hk c o e,d⟩;refine⟨tw I L hf ho,rfl,I.bare,Un.kept hk,⟨m,hm,λi x v e1 e2 e3=>?_⟩,λx c e=>?_,I.hok.fresh (le_refl _),λx c e=>I.freeC x c (L.cells x c e),λp hp=>absurd (show p∈([]:List (Addr×Obj))from hp) (by simp),I.hok.kept hk,?_⟩
 ·unfold cH at e2
  by_cases hi:i<k
  ·rw[getElem?_append_left (by simpa using hi),List.getElem?_replicate]at e2
   split at e2<;>cases e2
  ·obtain⟨i',rfl⟩:∃i',i=k+i':=⟨i-k,by omega⟩;rw[List.getElem?_append_right (by simp),length_replicate,Nat.add_sub_cancel_left,getElem?_map]at e2;cases ej:js[i']? with
   |none=>rw[ej]at e2;cases e2
   |some j =>
    rw[ej]at e2;have e2':(σ[j]?).getD none=some v:=Option.some.inj e2;obtain⟨h1,h2,h3,h4⟩:=hj i' j x ej e1;have e4:σ[j]?=some (some v):=by
     cases q:σ[j]? with
     |none=>rw[q]at e2';cases e2'
     |some y=>rw[q]at e2';exact congrArg some e2'
    obtain⟨m0,_,hl⟩:=I.loc;obtain⟨u,r,lk⟩:=hl j x v h1 e4 h2;refine⟨u,r,.inr ⟨h4,?_⟩⟩;rcases lk with⟨q,_⟩|⟨_,c,e5,e6⟩
    ·exact absurd q h3
    ·obtain⟨c',e7⟩:=L.has x h4;have:c'=c:=Option.some.inj ((L.cells x c' e7).symm.trans e5);subst this;exact⟨c',e7,cellK c' _ e6⟩
 ·obtain⟨v,e1⟩:=I.cell x c (L.cells x c e);exact⟨v,cellK c v e1⟩
 ·unfold cH;rw[length_append,length_replicate,length_map];exact hN.symm
theorem pA{H':Hp}{σ':St}{s':Shared}{h':Heap}(I:Inv X pins σ H s)(hf:∀b∈fp,dc X pins H b)(J:Inv (bn X N scope cl s H fp) [] σ' H' s')(hs:SameBut s.heap.objs.size s'.heap h'):Inv X pins σ H' {s' with heap:=h'}:=by
 have ne:∀b o,s.heap.get? b=some o→b≠s.heap.objs.size:=λb o e=>ne_of_lt (lt_size e);have u:=J.base;have u':Un (frs X.stack) fp H H' s.heap h' :=
  ⟨λb o e n hb hx=>(hs.2 b (ne b o e)).trans (u.keep b o e n hb hx),λb o e n hb hx=>by
   obtain⟨sl,q⟩:=u.slot b o e n hb hx;exact⟨sl,(hs.2 b (ne b o e)).trans q⟩,u.free,λb o e hx=>by
   obtain⟨o',q⟩:=u.there b o e hx;exact⟨o',(hs.2 b (ne b o e)).trans q⟩,u.tups,u.frzs,u.tbls⟩
 have nt:∀b o,H' b=some o→b≠s.heap.objs.size:=λb o e z=>by
  have:=J.free;rw[show(bn X N scope cl s H fp).env.locals=s.heap.objs.size from rfl,←z,e]at this;cases this
 refine I.call' (s':={s' with heap:=h'}) J.os u' (λb o e=>?_) J.bare λb hb=>?_
 ·refine(J.hok b o e).stay (λc v hc q=>(hs.2 c ?_).trans q) (λ_ q=>q) λ_ _ q=>q;rcases hc with z|z
  ·rw[z];exact nt b o e
  ·exact nt c _ z
 ·obtain⟨f0,f1,f2,f3,f4,f5⟩:=hf b hb;exact⟨f3,f1,f4,f5⟩
end
section
variable{prog:Program}{w:World}{A:Around}{R:Result→Shared→Prop}{s:Shared}
def ocW(prog:Program)(w:World)(A:Around)(oc:Option Expr)(env:Env)(K:Bool→Shared→Prop)(s:Shared):Prop:=match oc with
 |none=>K true s
 |some c=>wpAny (model prog w) A (isTrue c env (eval c env)) K (λ_ _=>False) s
theorem jj(elt target iter c:Expr)(scope:Scope)(pos:Pos)(it acc:Value)(env:Env):
  compTurn (.ListComp elt [⟨target,iter,[c],0⟩] scope pos) 0 it acc env=(standAt iter.pos >>= λ_=>pyNext it >>= λr=>match r with
   |none=>pure (.done .next)
   |some v=>letOwnedTupleGo target it v >>= λ_=>assign target env v >>= λ_ =>
    (forIn [c] true λc r=>if r=true then do let ok ← isTrue c env (eval c env);pure (ForInStep.yield ok)else pure (ForInStep.yield r)) >>= λok =>
    if ok=true then (eval elt env >>= λx=>call (.builtin "list.append") [acc,x] >>= λ_=>pure ()) >>= λ_ =>
     again (.compLoop (.ListComp elt [⟨target,iter,[c],0⟩] scope pos) 0 it acc env)
    else again (.compLoop (.ListComp elt [⟨target,iter,[c],0⟩] scope pos) 0 it acc env)):=by rfl
theorem qm{elt target iter:Expr}{oc:Option Expr}{scope:Scope}{pos:Pos}{it acc:Value}{env:Env}(I:Nat→Shared→Prop)(turn:∀n s,I n s→wpAny (model prog w) A (pyNext it) (λr s₁=>match r with
   |none=>R (.ok .next) s₁
   | some v=>wpAny (model prog w) A (letOwnedTupleGo target it v) (λ_ s₂=>wpAny (model prog w) A (assign target env v) (λ_ s₃=>ocW prog w A oc env (λok s₃ =>
     if ok=true then wpAny (model prog w) A (eval elt env) (λx s₄ =>
      wpAny (model prog w) A (call (.builtin "list.append") [acc,x]) (λ_ s₅=>∃m,m<n∧I m s₅) (λ_ _=>False) s₄) (λ_ _=>False) s₃
     else ∃m,m<n∧I m s₃) s₃) (λ_ _=>False) s₂) (λ_ _=>False) s₁) (λ_ _=>False) s)(n:Nat)(h:I n s):codeAny (model prog w) A (.compLoop (.ListComp elt [⟨target,iter,oc.toList,0⟩] scope pos) 0 it acc env) R s:=by
 refine codeAny_loop rfl I (λn s hI=>?_) n h;show wpAny _ _ ((compTurn (.ListComp elt [⟨target,iter,oc.toList,0⟩] scope pos) 0 it acc env).onRaise (λx=>do noteFrame x env;theTreesLotGoes x)) _ _ s;refine wpAny_noted ?_;cases oc with
 |none =>
  rw[show(none:Option Expr).toList=[]from rfl,compTurn_list1];refine wpAny_bind (wpAny_standAt (wpAny_bind (wpAny_mono (turn n s hI) (λr s₁ h₁=>?_) λ_ _ h'=>h'.elim)));cases r with
  |none=>exact wpAny_pure h₁
  |some v =>
   refine wpAny_bind (wpAny_mono h₁ (λ_ s₂ h₂=>wpAny_bind (wpAny_mono h₂ (λ_ s₃ h₃=>?_) λ_ _ h'=>h'.elim)) λ_ _ h'=>h'.elim);exact wpAny_bind (wpAny_bind (wpAny_mono (show wpAny _ _ _ _ _ _ from h₃) (λx s₃ h₃=>wpAny_bind (wpAny_mono h₃ (λ_ s₄ h₄=>wpAny_pure (wpAny_pure ⟨rfl,h₄⟩)) λ_ _ h'=>h'.elim)) λ_ _ h'=>h'.elim))
 |some c =>
  rw[show(some c).toList=[c]from rfl,jj];refine wpAny_bind (wpAny_standAt (wpAny_bind (wpAny_mono (turn n s hI) (λr s₁ h₁=>?_) λ_ _ h'=>h'.elim)));cases r with
  |none=>exact wpAny_pure h₁
  |some v =>
   refine wpAny_bind (wpAny_mono h₁ (λ_ s₂ h₂=>wpAny_bind (wpAny_mono h₂ (λ_ s₃ h₃=>?_) λ_ _ h'=>h'.elim)) λ_ _ h'=>h'.elim);rw[forIn_cons];simp only[if_true];refine wpAny_bind (wpAny_bind (wpAny_bind (wpAny_mono (show wpAny _ _ _ _ _ _ from h₃) (λok s₄ h₄=>wpAny_pure ?_) λ_ _ h'=>h'.elim)));simp only[forIn_nil];refine wpAny_pure ?_;cases ok with
   |true=>exact wpAny_bind (wpAny_bind (wpAny_mono (show wpAny _ _ _ _ _ _ from h₄) (λx s₃ h₃=>wpAny_bind (wpAny_mono h₃ (λ_ s₄ h₄=>wpAny_pure (wpAny_pure ⟨rfl,h₄⟩)) λ_ _ h'=>h'.elim)) λ_ _ h'=>h'.elim))
   |false=>exact wpAny_pure ⟨rfl,h₄⟩
end
def LcW(k:Nat)(js:List Nat)(g:TG)(te:TE)(σ:St)(Q:VK)(J:It)(H1:Hp)(p:Addr):Prop:=∃W:Nat→Nat→List V→St→Hp→Prop,
 (∃m,W 0 m [] (cH k js σ) (upd H1 p (.lst [])))∧∀i m ys σ' H',W i m ys σ' H'→(J.stop i H'∧Q (.ref p) H') ∨
  (J.go i H'∧ys.length<sizeLine∧∀x H2,J.yld i H' x H2→g x σ' H2 λσ2 H3=>te σ2 H3 λy H4=>H4 p=some (.lst ys)∧∃m',m'<m∧W (i+1) m' (ys++[y]) σ2 (upd H4 p (.lst (ys++[y]))))
def tLc(k:Nat)(js:List Nat)(wi:TI)(g:TG)(te:TE):TE:=λσ H Q=>wi σ H λJ H1=>∀p,H1 p=none→LcW k js g te σ Q J H1 p
def nC(k:Nat)(js:List Nat)(g:TG)(tc:TT)(te:TE)(σ:St)(Q:VK)(J:It)(H1:Hp)(p:Addr):Prop:=∃W:Nat→Nat→List V→St→Hp→Prop,
 (∃m,W 0 m [] (cH k js σ) (upd H1 p (.lst [])))∧∀i m ys σ' H',W i m ys σ' H'→(J.stop i H'∧Q (.ref p) H') ∨
  (J.go i H'∧ys.length<sizeLine∧∀x H2,J.yld i H' x H2→g x σ' H2 λσ2 H3=>tc σ2 H3 λb H4=>if b=true then te σ2 H4 λy H5=>H5 p=some (.lst ys)∧∃m',m'<m∧W (i+1) m' (ys++[y]) σ2 (upd H5 p (.lst (ys++[y])))
   else ∃m',m'<m∧W (i+1) m' ys σ2 H4)
def zO(k:Nat)(js:List Nat)(wi:TI)(g:TG)(tc:TT)(te:TE):TE:=λσ H Q=>wi σ H λJ H1=>∀p,H1 p=none→nC k js g tc te σ Q J H1 p
def ocT(X:Cx)(oc:Option Expr)(tc:TT):Prop:=match oc with
 |none=>∀σ H K,tc σ H K→K true H
 |some c=>PT X c tc
theorem qo{X:Cx}{oc:Option Expr}{tc:TT}{pins:List (Addr×Obj)}{s:Shared}{σ:St}{H:Hp}{K:Bool→Hp→Prop}{K':Bool→Shared→Prop}(h:ocT X oc tc)(hx:X.xe=λ_ _=>False)(I:Inv X pins σ H s)(q:tc σ H K)(m:∀b s',TP X pins σ K b s'→K' b s'):ocW X.prog X.w X.A oc X.env K' s:=by
 cases oc with
 |none=>exact m true s ⟨H,I,h σ H K q⟩
 |some c=>exact wpAny_mono (h pins s σ H K I q) m λ_ _ e=>by rw[hx]at e;exact e
section
variable{X:Cx}{N:List Str}{scope:Scope}{cl:List (Str×Addr)}{k:Nat}{js:List Nat}
theorem qp{elt tg iter:Expr}{oc:Option Expr}{pos q:Pos}{wi:TI}{g:TG}{tc:TT}{te:TE}{use:Option (Value→Sem Unit)}{Qc:Value→Shared→Prop}{Q:VK}{pins:List (Addr×Obj)}{s:Shared}{σ:St}{H:Hp}(hc:X.calm=true)(L:LcOk X scope cl)(hN:N.length=k+js.length)(hj:∀(i j:Nat) x,js[i]?=some j→N[k+i]?=some x→X.N[j]?=some x∧Vis X.env.scope x∧X.env.scope.names.lookup x≠some .local∧((relabel scope X.env).names.lookup x=some .cell∨(relabel scope X.env).names.lookup x=some .free))(hi:PI X tg iter wi)(hg:∀s H fp,PG (bn X N scope cl s H fp) tg g)(ht:∀s H fp,ocT (bn X N scope cl s H fp) oc tc)(he:∀s H fp,PE (bn X N scope cl s H fp) elt te)(hs:∀x,foldedSetIterable iter X.env x=pure x){Lw:It→Hp→Addr→Prop}(hL:∀J H1 p,Lw J H1 p→nC k js g tc te σ Q J H1 p)(I:Inv X pins σ H s)(h:wi σ H λJ H1=>∀p,H1 p=none→Lw J H1 p)(fin:∀{s0 s4:Shared} {Hx H3:Hp} {σ4:St} {fp:List Addr} {p:Addr},Inv X pins σ Hx s0→(∀b∈fp,dc X pins Hx b)→Inv (bn X N scope cl s0 Hx fp) [] σ4 H3 s4→Q (.ref p) H3→compPost (model X.prog X.w) X.A X.xe use Qc (.ref p) s0.heap.objs.size (.ok .next) s4):
  wpAny (model X.prog X.w) X.A (comprehension (.ListComp elt [⟨tg,iter,oc.toList,0⟩] scope pos) scope X.env q (newList []) false (eval iter X.env) use) Qc X.xe s:=by
 refine wpAny_comprehension_free rfl hs L.clos L.kind L.names ?_;refine thn (hi pins s σ H _ I h) λv s1 h1=>thn h1 λitv s2 h2=>?_;obtain⟨it,fp,tn,J,H2,e,I2,T,st2,f2,hW⟩:=h2;subst e;have hfp:∀b∈fp,b<s2.heap.objs.size:=λb hb=>by
  obtain⟨o,e,_⟩:=T.obj _ _ st2 b hb;exact lt_size e
 refine wpAny_newObj_type (wpAny_newFunctionEnv L.nocell (by intro y hy;simp at hy) (λh₁ hns hsb=>?_) L.kind);dsimp only at hns hsb⊢;obtain⟨W,⟨m0,w0⟩,turn⟩:=hL _ _ _ (hW s2.heap.objs.size (I2.hok.fresh (le_refl _)));have I3:Inv X pins σ (upd H2 s2.heap.objs.size (.lst [])) {s2 with heap:=s2.heap.push {cls:=.type "list",dict:=none,data:=.seq ([]:List Value).toArray}}:=I2.lnew (t':=s2.toks) .nil (zero_le _)
 generalize hA:s2.heap.push {cls:=.type "list",dict:=none,data:=.seq ([]:List Value).toArray}=hpA at hns hsb I3⊢;have hszA:hpA.objs.size=s2.heap.objs.size+1:=by rw[←hA,size_push]
 have keepA:∀b o,s2.heap.get? b=some o→hpA.get? b=some o:=λb o e=>by rw[←hA];exact get?_push_of_some _ e
 have f3:∀b∈fp,dc X pins (upd H2 s2.heap.objs.size (.lst [])) b:=λb hb=>⟨by rw[al (ne_of_lt (hfp b hb))];exact(f2 b hb).1,(f2 b hb).2⟩;have hfp3:∀b∈fp,b<hpA.objs.size:=λb hb=>by rw[hszA];exact lt_succ_of_lt (hfp b hb)
 have keep1:∀b o,hpA.get? b=some o→h₁.get? b=some o:=λb o e=>hsb.extBut b o (ne_of_lt (lt_size e)) (get?_push_of_some _ e);have J0:=nB (N:=N) (k:=k) (js:=js) (tk:=s2.toks+([]:List (Str×Value)).length) I3 L f3 hfp3 ⟨_,hns⟩ keep1 hN hj;have st1:tn 0 h₁:=T.keep _ _ _ st2 λb hb o e=>keep1 b o (keepA b o e);have stat:∀{H':Hp},(∀b∈fp,H' b=none)→∀b∈fp,dc (bn X N scope cl {s2 with heap:=hpA} (upd H2 s2.heap.objs.size (.lst [])) fp) [] H' b:=λhn b hb =>
  ⟨hn b hb,ne_of_lt (hfp3 b hb),(tw (N:=N) I3 L f3 hfp3).exfs b hb,.inl hb,λx c h=>(f3 b hb).2.2.2.2.1 x c (L.cells x c h),λp hp=>absurd (show p∈([]:List (Addr×Obj))from hp) (by simp)⟩
 have loop:codeAny (model X.prog X.w) X.A (.compLoop (.ListComp elt [⟨tg,iter,oc.toList,0⟩] scope pos) 0 (.ref it) (.ref s2.heap.objs.size) (compEnvC scope cl hpA.objs.size X.env))
   (compPost (model X.prog X.w) X.A X.xe use Qc (.ref s2.heap.objs.size) hpA.objs.size) {s2 with heap:=h₁,toks:=s2.toks+([]:List (Str×Value)).length}:=by
  refine qm (λn s'=>∃i ys σ' H',Inv (bn X N scope cl {s2 with heap:=hpA} (upd H2 s2.heap.objs.size (.lst [])) fp) [] σ' H' s'∧tn i s'.heap∧(∀b∈fp,H' b=none)∧W i n ys σ' H') ?_ m0 ⟨0,[],_,_,J0,st1,λb hb=>(f3 b hb).1,w0⟩
  rintro n s3 ⟨i,ys,σ3,H3,J3,st3,fr3,w3⟩;rcases turn i n ys σ3 H3 w3 with⟨stop,qn⟩|⟨go,hlen,step⟩
  ·refine thn (T.done (bn X N scope cl {s2 with heap:=hpA} (upd H2 s2.heap.objs.size (.lst [])) fp) rfl rfl rfl hc i [] s3 σ3 H3 (λ_ _=>False) J3 (stat fr3) st3 stop) λr s4 hpt=>?_
   obtain⟨hr,J4⟩:=hpt;subst hr;exact fin I3 f3 J4 qn
  ·refine thn (T.item (bn X N scope cl {s2 with heap:=hpA} (upd H2 s2.heap.objs.size (.lst [])) fp) rfl rfl rfl hc i [] s3 σ3 H3 (λ_ _=>False) J3 (stat fr3) st3 go) λr s4 hpt=>?_
   obtain⟨u,hr,h4⟩:=hpt;subst hr;refine thn h4 λ_ s5 hpt=>?_;obtain⟨x,H5,J5,r5,y5,st5,fr5⟩:=hpt;have J5':=J5.pinned (stat fr5) (T.obj _ _ st5);refine thn (hg _ _ _ _ s5 σ3 H5 x u _ J5' r5 (step x H5 y5)) λ_ s6 hpt=>?_;obtain⟨σ6,H6,J6,q6⟩:=hpt;refine qo (ht _ _ _) rfl J6 q6 λb s6 hpt=>?_;obtain⟨H6,J6,q6⟩:=hpt;cases b with
   |true =>
    rw[if_pos rfl]at q6⊢;refine thn (he _ _ _ _ s6 σ6 H6 _ J6 q6) λy s7 hpt=>?_;obtain⟨vy,H7,J7,r7,q7,m',hm',w7⟩:=hpt;refine thn (cq _ s7 σ6 H7 (.ref s2.heap.objs.size) [vy] _ _ (λ_ H8=>H8=upd H7 s2.heap.objs.size (.lst (ys++[vy]))) J7 rfl (.cons r7 .nil) ⟨_,ys,vy,rfl,rfl,q7,hlen,rfl⟩) λ_ s8 hpt=>?_;obtain⟨_,H8,J8,_,e8⟩:=hpt;subst e8;refine⟨m',hm',i+1,ys++[vy],σ6,_,J8.unpinned,T.keep _ _ _ st5 λb hb o e=>(J8.pin (b,o) (mem_append_right _ (mem_append_right _ (bp hb e)))).1,λb hb=>?_,w7⟩;obtain⟨o,e,d⟩:=T.obj _ _ st5 b hb;exact(J8.pin (b,o) (mem_append_right _ (mem_append_right _ (bp hb e)))).2.1
   |false =>
    rw[if_neg (by simp)]at q6⊢;obtain⟨m',hm',w7⟩:=q6;refine⟨m',hm',i+1,ys,σ6,_,J6.unpinned,T.keep _ _ _ st5 λb hb o e=>(J6.pin (b,o) (mem_append_right _ (mem_append_right _ (bp hb e)))).1,λb hb=>?_,w7⟩;obtain⟨o,e,d⟩:=T.obj _ _ st5 b hb;exact(J6.pin (b,o) (mem_append_right _ (mem_append_right _ (bp hb e)))).2.1
 exact codeAny_compStart_list loop (T.self _ 0 _ _ _ st1 loop)
theorem lR{g:TG}{te:TE}{σ:St}{Q:VK}(J:It)(H1:Hp)(p:Addr)(h:LcW k js g te σ Q J H1 p):nC k js g (λ_ H K=>K true H) te σ Q J H1 p:=by
 obtain⟨W,w0,turn⟩:=h;exact⟨W,w0,turn⟩
theorem tD{elt tg iter:Expr}{oc:Option Expr}{pos:Pos}{wi:TI}{g:TG}{tc:TT}{te:TE}{Lw:St→VK→It→Hp→Addr→Prop}(hL:∀{σ Q} J H1 p,Lw σ Q J H1 p→nC k js g tc te σ Q J H1 p)(hc:X.calm=true)(L:LcOk X scope cl)(hN:N.length=k+js.length)(hj:∀(i j:Nat) x,js[i]?=some j→N[k+i]?=some x→X.N[j]?=some x∧Vis X.env.scope x∧X.env.scope.names.lookup x≠some .local∧((relabel scope X.env).names.lookup x=some .cell∨(relabel scope X.env).names.lookup x=some .free))(hi:PI X tg iter wi)(hg:∀s H fp,PG (bn X N scope cl s H fp) tg g)(ht:∀s H fp,ocT (bn X N scope cl s H fp) oc tc)(he:∀s H fp,PE (bn X N scope cl s H fp) elt te)(hs:∀x,foldedSetIterable iter X.env x=pure x):PE X (.ListComp elt [⟨tg,iter,oc.toList,0⟩] scope pos) (λσ H Q=>wi σ H λJ H1=>∀p,H1 p=none→Lw σ Q J H1 p):=by
 intro pins s σ H Q I h;rw[eval_ListComp];exact qp hc L hN hj hi hg ht he hs hL I h λI3 f3 J4 qn=>let⟨m,hm,_⟩:=J4.loc;⟨m,hm,λh' hs'=>⟨.ref _,_,pA I3 f3 J4 hs',rfl,qn⟩⟩
theorem dj{elt tg iter:Expr}{pos:Pos}{wi:TI}{g:TG}{te:TE}(hc:X.calm=true)(L:LcOk X scope cl)(hN:N.length=k+js.length)(hj:∀(i j:Nat) x,js[i]?=some j→N[k+i]?=some x→X.N[j]?=some x∧Vis X.env.scope x∧X.env.scope.names.lookup x≠some .local∧((relabel scope X.env).names.lookup x=some .cell∨(relabel scope X.env).names.lookup x=some .free))(hi:PI X tg iter wi)(hg:∀s H fp,PG (bn X N scope cl s H fp) tg g)(he:∀s H fp,PE (bn X N scope cl s H fp) elt te)(hs:∀x,foldedSetIterable iter X.env x=pure x:=by intro _;rfl):PE X (.ListComp elt [⟨tg,iter,[],0⟩] scope pos) (tLc k js wi g te):=tD (oc:=none) lR hc L hN hj hi hg (λ_ _ _ _ _ _ h=>h) he hs
theorem dZ{elt tg iter c:Expr}{pos:Pos}{wi:TI}{g:TG}{tc:TT}{te:TE}(hc:X.calm=true)(L:LcOk X scope cl)(hN:N.length=k+js.length)(hj:∀(i j:Nat) x,js[i]?=some j→N[k+i]?=some x→X.N[j]?=some x∧Vis X.env.scope x∧X.env.scope.names.lookup x≠some .local∧((relabel scope X.env).names.lookup x=some .cell∨(relabel scope X.env).names.lookup x=some .free))(hi:PI X tg iter wi)(hg:∀s H fp,PG (bn X N scope cl s H fp) tg g)(ht:∀s H fp,PT (bn X N scope cl s H fp) c tc)(he:∀s H fp,PE (bn X N scope cl s H fp) elt te)(hs:∀x,foldedSetIterable iter X.env x=pure x:=by intro _;rfl):PE X (.ListComp elt [⟨tg,iter,[c],0⟩] scope pos) (zO k js wi g tc te):=tD (oc:=some c) (λ_ _ _ h=>h) hc L hN hj hi hg ht he hs
end
end L2
namespace L2
open PySem PyProof.Rows
theorem kd:entryFor table "proto.unchain"=some Builtin.«proto.unchain»:=entryFor_of_tree (by kernel_rfl)
section
variable{prog:Program}{w:World}{A:Around}{E:Value→Shared→Prop}{s:Shared}
def cf(h:Heap)(ea:Addr):Prop:=∃o vs,h.get? ea=some o∧o.data=.fields vs∧vs[2]?=some .none
theorem jk{α:Type}{a ea:Addr}{o:Obj}{vs:Array Value}{Q:α→Shared→Prop}(hh:A.handled=some (.ref ea))(ne:ea≠a)(ha:s.heap.get? a=some o)(hd:o.data=.fields vs)(h2:2<vs.size)(he:cf s.heap ea)(hE:E (.ref a) {s with heap:=s.heap.update a (Obj.mapFields (·.setIfInBounds 2 (.ref ea)))}):wpAny (model prog w) A (raiseNew (α:=α) (.ref a)) Q E s:=by
 obtain⟨oe,ve,e1,e2,e3⟩:=he;unfold raiseNew;refine wpAny_bind (wpAny_handled ?_);rw[hh];have hne:(Value.ref ea != Value.ref a)=true:=by
  rw[bne_iff_ne];intro z;injection z with z
  exact ne z
 show wpAny _ _ (if (Value.ref ea != Value.ref a)=true then _ else _) _ _ s
 rw[if_pos hne];refine wpAny_bind (wpAny_holding (wpAny_runValue (codeAny_builtin kd ?_)));unfold Builtin.«proto.unchain»;show wpAny _ _ (field (.ref ea) 2 >>= _) _ _ s;refine wpAny_bind (wpAny_field e1 e2 e3 ?_);show wpAny _ _ (if (Value.none==Value.none)=true then _ else _) _ _ s
 rw[if_pos (show(Value.none==Value.none)=true from rfl)];refine wpAny_pure ?_;show wpAny _ _ (updateField a 2 (.ref ea) >>= λ_=>throw (Value.ref a)) _ _ s;unfold updateField;refine wpAny_bind (wpAny_bind (wpAny_load ha ?_));rw[hd];show wpAny _ _ (if 2<vs.size then _ else _) _ _ s;rw[if_pos h2];exact wpAny_update ha (wpAny_throw hE)
theorem xY{α:Type}{ea:Addr}{Q:α→Shared→Prop}(hh:A.handled=some (.ref ea))(he:cf s.heap ea)(hE:∀(e:Addr) (h':Heap),(∀b o,s.heap.get? b=some o→h'.get? b=some o)→(∃o,h'.get? e=some o∧o.cls=.type "StopIteration")→E (.ref e) {s with heap:=h'}):
  wpAny (model prog w) A (newExc (.type "StopIteration") [] >>= raiseNew (α:=α)) Q E s:=by
 refine wpAny_bind ?_;simp only[newExc,newTuple];refine wpAny_bind (wpAny_newObj_type ?_ (by size_fits));refine wpAny_bind (m:=firstArgMember _ _) (wpAny_of_eq (a:=Value.none) (by first|rfl|(simp only[firstArgMember];rfl)) ?_)
 refine wpAny_newObj_type ?_ (by size_fits);obtain⟨oe,ve,e1,e2,e3⟩:=he;have hlt:=lt_size e1;refine jk hh ?_ (get?_push_size _ rfl) rfl ?_ ⟨oe,ve,?_,e2,e3⟩ (hE _ _ ?_ ?_)
 ·exact ne_of_lt (by rw[size_push'];exact lt_succ_of_lt hlt)
 ·show 2<6
  decide
 ·rw[get?_push_ne _ _ _ (ne_of_lt (by rw[size_push'];exact lt_succ_of_lt hlt)),get?_push_ne _ _ _ (ne_of_lt hlt)];exact e1
 ·intro b o hb;have hb1:=lt_size hb;rw[get?_update_ne _ _ _ _ (ne_of_lt (by rw[size_push'];exact lt_succ_of_lt hb1)),get?_push_ne _ _ _ (ne_of_lt (by rw[size_push'];exact lt_succ_of_lt hb1)),get?_push_ne _ _ _ (ne_of_lt hb1)];exact hb
 ·exact⟨_,get?_update_self _ (get?_push_size _ rfl) rfl,rfl⟩
theorem cf.upd{h:Heap}{ea it:Addr}{f:Obj→Obj}(x:cf h ea)(ne:ea≠it):cf (h.update it f) ea:=by
 obtain⟨o,vs,e1,e2,e3⟩:=x;exact⟨o,vs,by rw[get?_update_ne _ _ _ _ ne];exact e1,e2,e3⟩
theorem xq{it:Addr}{T id:String}{B:Builtin}{R:Heap→Prop}{Q:Option Value→Shared→Prop}(slot:Slot T "__next__" id)(ent:entryFor table id=some B)(args:argsOk id ⟨[.ref it],[]⟩)(hT:s.TypeIs (.ref it) T)(hB:∀(E':Value→Shared→Prop) (Q':PySem.Fin→Shared→Prop),(∀(e:Addr) (h':Heap),R h'→(∃o,h'.get? e=some o∧o.cls=.type "StopIteration")→E' (.ref e) {s with heap:=h'})→wpAny (model prog w) A.in1 (B ⟨[.ref it],[]⟩) Q' E' s)(hQ:∀h',R h'→Q none {s with heap:=h'}):wpAny (model prog w) A (pyNext (.ref it)) Q E s:=by
 unfold pyNext;exact wpAny_bind (wpAny_attempt (wpAny_callSpecial?_slot hT slot (wpAny_call_entry slot hT ent (hB _ _ λe h' r hs=>wpAny_bind (wpAny_isInstance (T:="StopIteration") (b:=true) hs isSubtype_stop (wpAny_pure (hQ h' r)))) args)))
theorem tE(b:Bool){it x ea:Addr}{i n:Nat}{items:Array Value}{oi ox:Obj}{E':Value→Shared→Prop}{Q':PySem.Fin→Shared→Prop}(hh:A.handled=some (.ref ea))(he:cf s.heap ea)(ne:ea≠it)(a1:s.heap.get? it=some oi)(a2:oi.data=.fields #[.ref x,.int i 0])(b1:s.heap.get? x=some ox)(b2:ox.data=.seq items n)(hn:items[i]?=none)(hE:∀(e:Addr) (h':Heap),(∀b o,b≠it→s.heap.get? b=some o→h'.get? b=some o)→(∃o,h'.get? e=some o∧o.cls=.type "StopIteration")→E' (.ref e) {s with heap:=h'}):
  wpAny (model prog w) A ((bif b then Builtin.«list_iterator.__next__» else Builtin.«tuple_iterator.__next__») ⟨[.ref it],[]⟩) Q' E' s:=by
 have fin:∀{α:Type}{Q:α→Shared→Prop},wpAny (model prog w) A (setField (.ref it) 0 .none >>= λ_=>newExc (.type "StopIteration") [] >>= raiseNew (α:=α)) Q E' s:=λ{α Q} =>
  wpAny_bind (wpAny_setField a1 a2 (by simp) (xY (ea:=ea) hh (he.upd ne) λe h' hk hs=>hE e h' (λb o n q=>hk b o ((get?_update_ne _ _ _ _ n).trans q)) hs))
 have ref0:(Value.ref x==Value.none)=false:=rfl;cases b<;>(show wpAny _ _ (field (.ref it) 0 >>= _) _ _ s;refine wpAny_bind (wpAny_field (x:=.ref x) a1 a2 rfl ?_);dsimp only;rw[ref0,if_neg Bool.false_ne_true];refine wpAny_bind (wpAny_field (x:=.int i 0) a1 a2 rfl ?_);dsimp only;refine wpAny_bind (wpAny_seqItems b1 b2 ?_);dsimp only;rw[toNat_natCast,hn];exact wpAny_bind (wpAny_rule fin))
theorem nD{it l ea:Addr}{i:Nat}{items:Array Value}{Q:Option Value→Shared→Prop}(hh:A.handled=some (.ref ea))(he:cf s.heap ea)(ne:ea≠it)(hi:s.heap.IsListIter it l i)(hs:s.heap.IsList l items)(hn:items[i]?=none)(hQ:∀h',(∀b o,b≠it→s.heap.get? b=some o→h'.get? b=some o)→Q none {s with heap:=h'}):wpAny (model prog w) A (pyNext (.ref it)) Q E s :=
 let⟨_,a1,_,a2⟩:=hi;let⟨_,b1,_,_,b2⟩:=hs
 xq slot_listiter_next entry_listiter_next (args_listiter_next _) hi.typeIs (λE' Q' hE=>tE true hh he ne a1 a2 b1 b2 hn hE) hQ
theorem gf{it t ea:Addr}{i:Nat}{items:Array Value}{Q:Option Value→Shared→Prop}(hh:A.handled=some (.ref ea))(he:cf s.heap ea)(ne:ea≠it)(hi:s.heap.IsTupleIter it t i)(hs:s.heap.IsTuple t items)(hn:items[i]?=none)(hQ:∀h',(∀b o,b≠it→s.heap.get? b=some o→h'.get? b=some o)→Q none {s with heap:=h'}):wpAny (model prog w) A (pyNext (.ref it)) Q E s :=
 let⟨_,a1,_,a2⟩:=hi;let⟨_,b1,_,_,b2⟩:=hs
 xq F.slot_tuple_iterator_next F.entry_tuple_iterator_next (F.args_tuple_iterator_next_1 _) hi.typeIs (λE' Q' hE=>tE false hh he ne a1 a2 b1 b2 hn hE) hQ
theorem cf.keep{h h':Heap}{ea:Addr}(x:cf h ea)(k:∀o,h.get? ea=some o→h'.get? ea=some o):cf h' ea:=let⟨o,vs,e1,e2⟩:=x;⟨o,vs,k o e1,e2⟩
theorem lS{ea:Addr}(hh:A.handled=some (.ref ea))(I ax:Addr)(hne:ax≠I)(ne:ea≠I)(items:Array Value):
  Walks prog w A I [I,ax,ea] [I] items.size (λi v=>items[i]?=some v) (λi h=>h.IsListIter I ax i∧h.IsList ax items∧cf h ea) where
 sub:=λb hb=>by simp at hb;simp[hb]
 frame:=λ_ _ _ st hk=>⟨st.1.at λo e=>hk I (by simp) o e,st.2.1.at λo e=>hk ax (by simp) o e,st.2.2.keep λo e=>hk ea (by simp) o e⟩
 item:=λi s Q E hi st hQ=>by
  have hx:items[i]?=some items[i]:=Array.getElem?_eq_getElem hi;refine wpAny_pyNext_list_item st.1 st.2.1 hx λh' st' sb=>?_;have k:∀b o,b≠I→s.heap.get? b=some o→h'.get? b=some o:=λb o n e=>(sb.2 b n).trans e;exact hQ _ h' s.toks hx ⟨st',st.2.1.at λo e=>k ax o hne e,st.2.2.keep λo e=>k ea o ne e⟩ λb o n e=>k b o (λz=>n (by simp[z])) e
 done:=λs Q E st hQ=>by
  refine nD hh st.2.2 ne st.1 st.2.1 (by simp) λh' k=>?_;exact hQ h' s.toks λb o n e=>k b o (λz=>n (by simp[z])) e
 self:=λ_ _ _ _ st h=>wpAny_pyIter_listiter st.1 h
def eA(A:Around)(h:Heap):Prop:=A.handled=none∨∃ea,A.handled=some (.ref ea)∧cf h ea
theorem eA.keep{h h':Heap}(x:eA A h)(k:∀b o,h.get? b=some o→h'.get? b=some o):eA A h':=x.imp id λ⟨ea,e,y⟩=>⟨ea,e,y.keep λo q=>k ea o q⟩
theorem eA.in1{h:Heap}(x:eA A h):eA A.in1 h:=by
 have e:A.in1.handled=A.handled:=by simp
 unfold eA;rw[e];exact x
theorem cz{h0:Heap}(hh:eA A h0)(I l:Addr)(hne:l≠I)(hI:h0.objs.size≤I)(items:Array Value):∃(fp:List Addr) (St:Nat→Heap→Prop),Walks prog w A I fp [I] items.size (λi v=>items[i]?=some v) St ∧
  (∀b∈fp,b=I∨b=l∨∃o vs,h0.get? b=some o∧o.data=.fields vs)∧(∀i h,h.IsListIter I l i→h.IsList l items→(∀b o,h0.get? b=some o→h.get? b=some o)→St i h)∧∀i h,St i h→h.IsListIter I l i:=by
 rcases hh with hh|⟨ea,hh,ha⟩
 ·refine⟨_,_,Walks.list hh I l hne items,λb hb=>?_,λi h a b _=>⟨a,b⟩,λi h a=>a.1⟩;simp only[mem_cons,not_mem_nil,or_false]at hb;rcases hb with hb|hb
  ·exact .inl hb
  ·exact .inr (.inl hb)
 ·obtain⟨o,vs,e1,e2,e3⟩:=id ha;have ne:ea≠I:=ne_of_lt (lt_of_lt_of_le (lt_size e1) hI);refine⟨_,_,lS hh I l hne ne items,λb hb=>?_,λi h a b k=>⟨a,b,ha.keep λo q=>k ea o q⟩,λi h a=>a.1⟩;simp only[mem_cons,not_mem_nil,or_false]at hb;rcases hb with hb|hb|hb
  ·exact .inl hb
  ·exact .inr (.inl hb)
  ·exact .inr (.inr ⟨o,vs,hb ▸ e1,e2⟩)
theorem xZ{α:Type}{v:Value}{x y:Str}{Q:α→Shared→Prop}(hh:eA A s.heap)(hE:∀h' tk e,NewExcOf s.heap h' e "AttributeError"→E (.ref e) {s with heap:=h',toks:=tk})(hy:y.length≤sizeLine):wpAny (model prog w) A (raiseAttrError (α:=α) v x y) Q E s:=by
 rcases hh with hh|⟨ea,hh,oe,ve,e1,e2,e3⟩
 ·exact wpAny_raiseAttrError hh (λh' tk e z=>hE h' tk e z.of) hy
 obtain⟨hp,gs,dr,tk,os⟩:=s;have f1:=sub_AttributeError;have first:firstArgMember (.type "AttributeError") [.str y tk]=pure Value.none:=by simp only[firstArgMember,attrError_no_first];rfl
 unfold raiseAttrError newExc newTuple;refine wpAny_bind (wpAny_mkStr ?_ hy);dsimp only;rw[first]
 refine wpAny_bind (wpAny_bind (wpAny_newObj_type (wpAny_bind (wpAny_pure (wpAny_newObj_type ?_ (by rw[ownMembersOf_AttributeError];size_fits)))) (by size_fits)));rw[ownMembersOf_AttributeError]
 repeat (any_goals (first|exact f1|wp_step))
 dsimp only at e1 hE⊢;have lt2:∀b ob,hp.get? b=some ob→(hp.push {cls:=Value.type "tuple",data:=Data.seq #[Value.str y tk]}).objs.size≠b:=λb ob hb=>by
  rw[size_push];exact ne_of_gt (lt_succ_of_lt (lt_size hb))
 refine jk hh (λz=>lt2 ea oe e1 z.symm) (get?_update_self _ (get?_push_size _ rfl) rfl) rfl (show 2<8 by decide) ⟨oe,ve,(get?_update_other _ _ (lt2 ea oe e1)).trans (get?_push_of_some _ (get?_push_of_some _ e1)),e2,e3⟩ (hE _ _ _ ⟨λb ob hb=>?_,Heap.get?_none_of_le (by simp),?_⟩)
 ·exact(get?_update_other _ _ (lt2 b ob hb)).trans ((get?_update_other _ _ (lt2 b ob hb)).trans (get?_push_of_some _ (get?_push_of_some _ hb)))
 ·exact⟨_,_,get?_update_self _ (get?_update_self _ (get?_push_size _ rfl) rfl) rfl,rfl,rfl,rfl⟩
theorem ya{a:Addr}{xs:Array Value}{k:Nat}{sl:Array (Option Value)}{x:Str}{u:Tok}{Q:PySem.Fin→Shared→Prop}(h1:s.heap.get? a=some ⟨.type "list",none,.seq xs k,sl⟩)(no:typeLookup (.type "list") x=pure none)(nx:(["__module__","__name__","__qualname__","__doc__","__annotations__"]:List Str).contains x=false)(hx:x.length+100≤sizeLine)(hh:eA A s.heap)(hE:∀h' tk e,NewExcOf s.heap h' e "AttributeError"→E (.ref e) {s with heap:=h',toks:=tk}):wpAny (model prog w) A (Builtin.«object.__getattribute__» ⟨[.ref a,.str x u],[]⟩) Q E s:=by
 obtain⟨hp,gs,dr,tk,os⟩:=s;have tl:Shared.TypeIs ⟨hp,gs,dr,tk,os⟩ (.ref a) "list":=⟨_,h1,rfl⟩;unfold Builtin.«object.__getattribute__»
 repeat (any_goals (first|exact tl|exact no|exact h1|wp_step))
 simp only[nx,if_false,false_eq_true]
 repeat (any_goals (first|exact tl|exact no|exact h1|wp_step))
 exact xZ hh hE (attrMsg_fits (by decide +kernel) hx)
end
def HdX(X:Cx):Prop:=∀(pins:List (Addr×Obj))(σ:St)(H:Hp)(s:Shared),Inv X pins σ H s→eA X.A s.heap
theorem HdX.of{X:Cx}(hc:X.calm=true):HdX X:=λ_ _ _ _ I=>.inl (I.ok.hd hc)
end L2
namespace TB
open PySem PySem.SetTable
def adv(mask:Nat)(p:Probe):Probe :=
 if p.more>0 then {p with j:=p.j+1,more:=p.more-1} else
 {p with j:=(leap mask p.i p.perturb).1,more:=runEnd mask (leap mask p.i p.perturb).1-(leap mask p.i p.perturb).1,i:=(leap mask p.i p.perturb).1,perturb:=(leap mask p.i p.perturb).2}
theorem fi(t:SetTable)(p:Probe):advance t p=adv t.mask p:=rfl
def lvP(mask:Nat)(x:Nat×Nat):Probe:={j:=x.1,more:=runEnd mask x.1-x.1,i:=x.1,perturb:=x.2,dummy:=none}
def st(mask:Nat)(h:Int):Probe:=lvP mask (bits h % (mask+1),bits h)
def nth(mask:Nat):Probe→Nat→Probe
 |p,0=>p
 |p,n+1=>nth mask (adv mask p) n
theorem dH(mask:Nat):∀(a b:Nat)(p:Probe),nth mask p (a+b)=nth mask (nth mask p a) b
 |0,b,p=>by rw[zero_add];rfl
 |a+1,b,p=>by
  rw[show a+1+b=(a+b)+1 by omega];show nth mask (adv mask p) (a+b)=nth mask (nth mask (adv mask p) a) b;exact dH mask a b _
theorem tF(mask:Nat)(p:Probe)(n:Nat):nth mask p (n+1)=adv mask (nth mask p n):=by
 rw[dH];rfl
def pos(mask:Nat)(h:Int)(n:Nat):Nat:=(nth mask (st mask h) n).j
theorem lh(mask:Nat):∀(m:Nat)(p:Probe),p.more=m→nth mask p m={p with j:=p.j+m,more:=0}
 |0,p,h=>by
  show p=_;cases p;simp at h;subst h;rfl
 |m+1,p,h=>by
  show nth mask (adv mask p) m=_;have e:adv mask p={p with j:=p.j+1,more:=m}:=by
   unfold adv;rw[if_pos (by omega),h];rfl
  rw[e,lh mask m _ rfl];simp only[Probe.mk.injEq,and_true];omega
theorem nE(mask:Nat):∀(m:Nat)(p:Probe),m≤p.more→nth mask p m={p with j:=p.j+m,more:=p.more-m}
 |0,p,h=>by
  show p=_;cases p;rfl
 |m+1,p,h=>by
  show nth mask (adv mask p) m=_;have e:adv mask p={p with j:=p.j+1,more:=p.more-1}:=by
   unfold adv;rw[if_pos (by omega)]
  rw[e,nE mask m _ (by show m≤p.more-1;omega)];simp only[Probe.mk.injEq,and_true];omega
theorem fj(mask:Nat)(x:Nat×Nat):nth mask (lvP mask x) (runEnd mask x.1-x.1+1)=lvP mask (leap mask x.1 x.2):=by
 have e:=lh mask (runEnd mask x.1-x.1) (lvP mask x) rfl;rw[tF,e];unfold adv;rw[if_neg (by simp)];rfl
theorem yb(mask i:Nat):runEnd mask i-i≤9:=by unfold runEnd;split<;>omega
def lv(mask:Nat):Nat→Nat×Nat→Nat×Nat
 |0,x=>x
 |k+1,x=>lv mask k (leap mask x.1 x.2)
theorem pB(mask:Nat):∀(a b:Nat)(x:Nat×Nat),lv mask (a+b) x=lv mask b (lv mask a x)
 |0,b,x=>by rw[zero_add];rfl
 |a+1,b,x=>by
  rw[show a+1+b=(a+b)+1 by omega];exact pB mask a b _
theorem nF(mask:Nat):∀(k:Nat)(x:Nat×Nat),∃n,n≤10*k∧nth mask (lvP mask x) n=lvP mask (lv mask k x)
 |0,x=>⟨0,by omega,rfl⟩
 |k+1,x=>by
  obtain⟨n,hn,e⟩:=nF mask k (leap mask x.1 x.2);refine⟨(runEnd mask x.1-x.1+1)+n,?_,?_⟩
  ·have:=yb mask x.1;omega
  ·rw[dH,fj];exact e
theorem fk(mask:Nat):∀(k:Nat)(x:Nat×Nat),(lv mask k x).2=x.2 / 32 ^ k
 |0,x=>by simp[lv]
 |k+1,x=>by
  show(lv mask k (leap mask x.1 x.2)).2=_;rw[fk mask k];show x.2 / 32 / 32 ^ k=_;rw[Nat.div_div_eq_div_mul,Nat.pow_succ,Nat.mul_comm 32]
theorem qr(mask:Nat):∀(k:Nat)(x:Nat×Nat),x.1≤mask→(lv mask k x).1≤mask
 |0,x,h=>h
 |k+1,x,h=>qr mask k _ (by show(x.1*5+1+x.2 / 32) % (mask+1)≤mask;have:=mod_lt (x.1*5+1+x.2 / 32) (show 0<mask+1 by omega);omega)
theorem qt(h:Int):bits h<2 ^ 64:=by
 unfold bits;have h1:=emod_nonneg h (b:=2 ^ 64) (by decide);have h2:=Int.emod_lt_of_pos h (b:=2 ^ 64) (by decide);omega
def gg(mask:Nat):Nat→Nat→Nat
 |0,i=>i
 |k+1,i=>gg mask k ((i*5+1) % (mask+1))
theorem jl(mask:Nat):∀(k i:Nat),lv mask k (i,0)=(gg mask k i,0)
 |0,i=>rfl
 |k+1,i=>by
  show lv mask k ((i*5+1+0 / 32) % (mask+1),0 / 32)=_;simp only[Nat.zero_div,Nat.add_zero];exact jl mask k _
def Cyc(mask:Nat):Prop:=∀i,i≤mask→∀j,j≤mask→∃k,k≤mask∧gg mask k i=j
theorem eQ(mask:Nat):∀(a b i:Nat),gg mask (a+b) i=gg mask b (gg mask a i)
 |0,b,i=>by rw[zero_add];rfl
 |a+1,b,i=>by
  rw[show a+1+b=(a+b)+1 by omega];exact eQ mask a b _
def vI(mask:Nat):Nat→Nat→List Nat
 |0,_=>[]
 |n+1,i=>i::vI mask n ((i*5+1) % (mask+1))
theorem nG{mask j:Nat}:∀{n i:Nat},j∈vI mask n i→∃k,k<n∧gg mask k i=j
 |0,_,h=>by simp[vI]at h
 |n+1,i,h=>by
  rcases mem_cons.mp h with e|e
  ·exact⟨0,by omega,e.symm⟩
  ·obtain⟨k,hk,e'⟩:=nG e;exact⟨k+1,by omega,e'⟩
theorem tG{mask:Nat}(h0:gg mask (mask+1) 0=0)(h:(List.range (mask+1)).all (λj=>(vI mask (mask+1) 0).contains j)=true):Cyc mask:=by
 have all:∀j,j≤mask→∃k,k≤mask∧gg mask k 0=j:=λj hj=>by
  rw[all_eq_true]at h;have h1:=h j (mem_range.mpr (by omega));rw[List.contains_iff_mem]at h1;obtain⟨k,hk,e⟩:=nG h1;exact⟨k,by omega,e⟩
 intro i hi j hj;obtain⟨a,ha,ea⟩:=all i hi;obtain⟨b,hb,eb⟩:=all j hj
 by_cases hab:a≤b
 ·refine⟨b-a,by omega,?_⟩;rw[←ea,←eQ,show a+(b-a)=b by omega];exact eb
 ·refine⟨mask+1-a+b,by omega,?_⟩;rw[←ea,←eQ,show a+(mask+1-a+b)=(mask+1)+b by omega,eQ,h0];exact eb
def Mk(m:Nat):Prop:=m=7∨m=15∨m=31∨m=63∨m=127∨m=255
theorem Mk.cyc{m:Nat}(h:Mk m):Cyc m:=by
 rcases h with e|e|e|e|e|e<;>subst e<;>exact tG (by decide +kernel) (by decide +kernel)
theorem Mk.ge{m:Nat}(h:Mk m):7≤m∧m≤255:=by rcases h with e|e|e|e|e|e<;>subst e<;>omega
theorem Mk.odd{m:Nat}(h:Mk m):m % 2=1:=by rcases h with e|e|e|e|e|e<;>subst e<;>rfl
def mkB(m:Nat):Bool:=m==7||m==15||m==31||m==63||m==127||m==255
theorem yc:(List.range 256).all (λw=>mkB (sizeAbove w-1)&&decide (w≤sizeAbove w-1)&&decide (sizeAbove w≤256))=true:=by decide +kernel
theorem gh{w:Nat}(h:w≤255):Mk (sizeAbove w-1)∧w≤sizeAbove w-1∧sizeAbove w≤256:=by
 have h1:=(all_eq_true.mp yc) w (mem_range.mpr (by omega));rw[and_eq_true,and_eq_true,decide_eq_true_eq,decide_eq_true_eq]at h1;refine⟨?_,h1.1.2,h1.2⟩;have h2:=h1.1.1;unfold mkB at h2;rw[or_eq_true,or_eq_true,or_eq_true,or_eq_true,or_eq_true,beq_iff_eq,beq_iff_eq,beq_iff_eq,beq_iff_eq,beq_iff_eq,beq_iff_eq]at h2;rcases h2 with ((((h|h)|h)|h)|h)|h
 ·exact .inl h
 ·exact .inr (.inl h)
 ·exact .inr (.inr (.inl h))
 ·exact .inr (.inr (.inr (.inl h)))
 ·exact .inr (.inr (.inr (.inr (.inl h))))
 ·exact .inr (.inr (.inr (.inr (.inr h))))
theorem cover{mask:Nat}(c:Cyc mask)(h:Int){j:Nat}(hj:j≤mask):∃n,n<10*turns mask∧pos mask h n=j:=by
 have h0:(lv mask 13 (bits h % (mask+1),bits h)).2=0:=by
  rw[fk];have:=qt h;exact Nat.div_eq_of_lt (by have e:(32:Nat) ^ 13=36893488147419103232:=(by decide);rw[e];show bits h<_;omega)
 have h1:(lv mask 13 (bits h % (mask+1),bits h)).1≤mask:=qr mask _ _ (by have:=mod_lt (bits h) (show 0<mask+1 by omega);show bits h % (mask+1)≤mask;omega);obtain⟨k,hk,e⟩:=c _ h1 j hj;obtain⟨n,hn,en⟩:=nF mask (13+k) (bits h % (mask+1),bits h);refine⟨n,by unfold turns;omega,?_⟩;unfold pos st;rw[en,pB];have ex:lv mask 13 (bits h % (mask+1),bits h)=((lv mask 13 (bits h % (mask+1),bits h)).1,0):=by rw[←h0]
 rw[ex,jl];exact e
def InT(mask:Nat)(p:Probe):Prop:=p.j+p.more≤mask
theorem gX{mask i:Nat}(h:i≤mask):runEnd mask i≤mask∧i≤runEnd mask i:=by unfold runEnd;split<;>omega
theorem vJ{mask:Nat}{p:Probe}(h:InT mask p):InT mask (adv mask p):=by
 unfold adv InT at *
 split
 ·show p.j+1+(p.more-1)≤mask;omega
 ·have hl:(leap mask p.i p.perturb).1≤mask:=by
   show(p.i*5+1+p.perturb / 32) % (mask+1)≤mask;have:=mod_lt (p.i*5+1+p.perturb / 32) (show 0<mask+1 by omega);omega
  have:=gX hl;show(leap mask p.i p.perturb).1+(runEnd mask (leap mask p.i p.perturb).1-(leap mask p.i p.perturb).1)≤mask;omega
theorem qu{mask:Nat}:∀(n:Nat){p:Probe},InT mask p→InT mask (nth mask p n)
 |0,_,h=>h
 |n+1,_,h=>qu n (vJ h)
theorem yd{mask:Nat}{x:Nat×Nat}(h:x.1≤mask):InT mask (lvP mask x):=by
 have:=gX h;show x.1+(runEnd mask x.1-x.1)≤mask;omega
theorem gY(mask:Nat)(h:Int)(n:Nat):pos mask h n≤mask:=by
 have:InT mask (nth mask (st mask h) n):=qu n (yd (by have:=mod_lt (bits h) (show 0<mask+1 by omega);show bits h % (mask+1)≤mask;omega));unfold InT at this;unfold pos;omega
theorem jm(E:Nat→Prop):∀N,E N→∃n,n≤N∧E n∧∀m,m<n→¬E m
 |N,h=>by
  induction N using Nat.strongRecOn with
  |_ N ih =>
   by_cases z:∃m,m<N∧E m
   ·obtain⟨m,hm,e⟩:=z;obtain⟨n,hn,e',no⟩:=ih m hm e;exact⟨n,by omega,e',no⟩
   ·exact⟨N,le_refl _,h,λm hm e=>z ⟨m,hm,e⟩⟩
theorem gZ(mask:Nat):∀(n:Nat)(p:Probe),(nth mask p n).dummy=p.dummy
 |0,_=>rfl
 |n+1,p=>by
  show(nth mask (adv mask p) n).dummy=_;rw[gZ mask n];unfold adv
  split<;>rfl
theorem jn(t:SetTable)(ha:Nat→Int)(h:Int):∀(n:Nat)(p:Probe)(fuel:Nat),n<fuel →
  (∀m,m<n→∃i,t.slot (nth t.mask p m).j=.live i∧(ha i==h)=false)→t.slot (nth t.mask p n).j=.empty →
  probe.go t ha h fuel p=some (.empty (nth t.mask p n).j p.dummy)
 |0,p,fuel+1,_,_,e=>by
  have e':t.slot p.j=.empty:=e;unfold probe.go;rw[e'];rfl
 |n+1,p,fuel+1,hf,hl,e=>by
  obtain⟨i,h1,h2⟩:=hl 0 (by omega);have h1':t.slot p.j=.live i:=h1;unfold probe.go;rw[h1'];simp only[h2,false_eq_true,if_false,fi];rw[jn t ha h n (adv t.mask p) fuel (by omega) (λm hm=>hl (m+1) (by omega)) e]
  congr 2
  exact gZ t.mask 1 p
theorem qv(t:SetTable)(ha:Nat→Int)(h:Int)(i:Nat):∀(n:Nat)(p:Probe)(fuel:Nat),n<fuel →
  (∀m,m<n→∃i,t.slot (nth t.mask p m).j=.live i∧(ha i==h)=false)→t.slot (nth t.mask p n).j=.live i→(ha i==h)=true →
  probe.go t ha h fuel p=some (.candidate (nth t.mask p n).j i (nth t.mask p (n+1)))
 |0,p,fuel+1,_,_,e,hh=>by
  have e':t.slot p.j=.live i:=e;unfold probe.go;rw[e'];simp only[hh,if_true,fi];rfl
 |n+1,p,fuel+1,hf,hl,e,hh=>by
  obtain⟨i',h1,h2⟩:=hl 0 (by omega);have h1':t.slot p.j=.live i':=h1;unfold probe.go;rw[h1'];simp only[h2,false_eq_true,if_false,fi];rw[qv t ha h i n (adv t.mask p) fuel (by omega) (λm hm=>hl (m+1) (by omega)) e hh];rfl
theorem jo(xs:Array Nat)(j:Nat)(hs:∀a b,a<b→b<xs.size→xs.getD a 0<xs.getD b 0):∀(fuel lo hi:Nat),hi-lo≤fuel→lo≤hi→hi≤xs.size →
  (∀k,k<lo→xs.getD k 0<j)→(∀k,hi≤k→k<xs.size→j≤xs.getD k 0) →
  below.go xs j fuel lo hi≤xs.size∧(∀k,k<below.go xs j fuel lo hi→xs.getD k 0<j)∧(∀k,below.go xs j fuel lo hi≤k→k<xs.size→j≤xs.getD k 0)
 |0,lo,hi,hf,hl,hh,h1,h2=>by
  have e:lo=hi:=by omega
  subst e;exact⟨hh,h1,h2⟩
 |fuel+1,lo,hi,hf,hl,hh,h1,h2=>by
  unfold below.go
  by_cases hlt:lo<hi
  ·rw[if_pos hlt];have hm:(lo+hi) / 2<hi:=by omega
   have hm2:lo≤(lo+hi) / 2:=by omega
   have eg:xs.getD ((lo+hi) / 2) j=xs.getD ((lo+hi) / 2) 0:=by
    rw[getD_eq_getD_getElem?,getD_eq_getD_getElem?,Array.getElem?_eq_getElem (by omega)];rfl
   simp only[eg]
   split
   ·rename_i hc
    refine jo xs j hs fuel _ hi (by omega) (by omega) hh (λk hk=>?_) h2
    by_cases e:k=(lo+hi) / 2
    ·rw[e];exact hc
    ·have:=hs k ((lo+hi) / 2) (by omega) (by omega);omega
   ·rename_i hc
    refine jo xs j hs fuel lo _ (by omega) (by omega) (by omega) h1 (λk hk hk2=>?_)
    by_cases e:k=(lo+hi) / 2
    ·rw[e];omega
    ·have:=hs ((lo+hi) / 2) k (by omega) hk2;omega
  ·rw[if_neg hlt];have e:lo=hi:=by omega
   subst e;exact⟨hh,h1,h2⟩
def Up(l:List Nat):Prop:=l.Pairwise (· < ·)
theorem ye{l:List Nat}(h:Up l){a b:Nat}(hab:a<b)(hb:b<l.length):l.toArray.getD a 0<l.toArray.getD b 0:=by
 unfold Up at h;have:=pairwise_iff_getElem.mp h a b (by omega) hb hab;simp[getD_eq_getD_getElem?,show a<l.length by omega,hb];exact this
theorem cE{l:List Nat}(h:Up l)(j:Nat):below l.toArray j≤l.length∧(∀k (hk:k<l.length),k<below l.toArray j→l[k]<j)∧(∀k (hk:k<l.length),below l.toArray j≤k→j≤l[k]):=by
 have:=jo l.toArray j (λa b hab hb=>ye h hab (by simpa using hb)) l.toArray.size 0 l.toArray.size (by omega) (by omega) (le_refl _) (by intro k hk;omega) (by intro k hk hk2;omega);unfold below;refine⟨by simpa using this.1,λk hk h1=>?_,λk hk h1=>?_⟩
 ·have:=this.2.1 k h1;simpa [getD_eq_getD_getElem?,hk]using this
 ·have:=this.2.2 k h1 (by simpa using hk);simpa [getD_eq_getD_getElem?,hk]using this
structure Tb(t:SetTable)(l:List Nat):Prop where
 pl:t.place=l.toArray
 nd:t.dummies=#[]
 up:Up l
 le:∀j∈l,j≤t.mask
theorem qw(j:Nat):has #[] j=false:=by
 unfold has;simp
theorem iN{t:SetTable}{l:List Nat}(T:Tb t l){i j:Nat}(h:l[i]?=some j):t.slot j=.live i:=by
 obtain⟨hi,e⟩:=List.getElem?_eq_some_iff.mp h;obtain⟨b1,b2,b3⟩:=cE T.up j;have eb:below l.toArray j=i:=by
  rcases Nat.lt_trichotomy (below l.toArray j) i with z|z|z
  ·have:=b3 (below l.toArray j) (by omega) (le_refl _);have:=pairwise_iff_getElem.mp T.up (below l.toArray j) i (by omega) hi z;omega
  ·exact z
  ·have:=b2 i hi z;omega
 unfold SetTable.slot;rw[T.pl,eb];simp[h]
theorem nH{t:SetTable}{l:List Nat}(T:Tb t l){j:Nat}(h:j∉l):t.slot j=.empty:=by
 unfold SetTable.slot;rw[T.pl,T.nd,qw];have:¬(l.toArray[below l.toArray j]?==some j)=true:=by
  intro z;have z':l[below l.toArray j]?=some j:=by simpa using z
  exact h (mem_of_getElem? z')
 simp only[this,false_eq_true,if_false]
theorem rF{l:List Nat}(h:Up l){j:Nat}(hj:j∉l):Up (l.take (below l.toArray j)++j::l.drop (below l.toArray j)):=by
 obtain⟨b1,b2,b3⟩:=cE h j;unfold Up;rw[List.pairwise_append,pairwise_cons];have hsub1:(l.take (below l.toArray j)).Pairwise (· < ·):=Pairwise.sublist (take_sublist _ _) h;have hsub2:(l.drop (below l.toArray j)).Pairwise (· < ·):=Pairwise.sublist (List.drop_sublist _ _) h;have h1:∀a∈l.take (below l.toArray j),a<j:=by
  intro a ha;obtain⟨k,hk,e⟩:=mem_iff_getElem.mp ha;rw[length_take]at hk;rw[List.getElem_take]at e;rw[←e];exact b2 k (by omega) (by omega)
 have h2:∀a∈l.drop (below l.toArray j),j<a:=by
  intro a ha;have hne:a≠j:=λe=>hj (e ▸ List.mem_of_mem_drop ha);obtain⟨k,hk,e⟩:=mem_iff_getElem.mp ha;rw[length_drop]at hk;rw[List.getElem_drop]at e;have:=b3 (below l.toArray j+k) (by omega) (by omega);omega
 refine⟨hsub1,⟨h2,hsub2⟩,λa ha b hb=>?_⟩;rcases mem_cons.mp hb with rfl|hb
 ·exact h1 a ha
 ·have:=h1 a ha;have:=h2 b hb;omega
theorem tH{t:SetTable}{l:List Nat}(T:Tb t l){j:Nat}(hj:j∉l)(hm:j≤t.mask):Tb (t.put j).1 (l.take (below l.toArray j)++j::l.drop (below l.toArray j))∧(t.put j).2=below l.toArray j∧(t.put j).1.mask=t.mask:=by
 refine⟨⟨?_,?_,rF T.up hj,?_⟩,?_,rfl⟩
 ·show insertAt t.place (below t.place j) j=_;rw[T.pl];apply toList_inj.mp;rw[SetTable.toList_insertAt]
 ·show(if has t.dummies j=true then _ else t.dummies)=#[];rw[T.nd,qw];rfl
 ·intro a ha;rcases mem_append.mp ha with h|h
  ·exact T.le a (List.mem_of_mem_take h)
  ·rcases mem_cons.mp h with rfl|h
   ·exact hm
   ·exact T.le a (List.mem_of_mem_drop h)
 ·show below t.place j=_;rw[T.pl]
def fb(mask:Nat)(zs:List (Nat×Int)):Prop:=∀z∈zs,∃n,pos mask z.2 n=z.1∧∀m,m<n→pos mask z.2 m∈zs.map (·.1)
theorem fb.nil(mask:Nat):fb mask []:=by intro z hz;simp at hz
theorem fb.mono{mask:Nat}{zs ys:List (Nat×Int)}(h:fb mask zs)(new:Nat×Int)(hm:∀z∈ys,z∈zs∨z=new)(hs:∀z∈zs,z∈ys)(hn:∃n,pos mask new.2 n=new.1∧∀m,m<n→pos mask new.2 m∈zs.map (·.1)):fb mask ys:=by
 intro z hz;have up:∀j,j∈zs.map (·.1)→j∈ys.map (·.1):=λj hj=>by
  obtain⟨y,hy,e⟩:=mem_map.mp hj;exact mem_map.mpr ⟨y,hs y hy,e⟩
 rcases hm z hz with h1|h1
 ·obtain⟨n,e,p⟩:=h z h1;exact⟨n,e,λm hm=>up _ (p m hm)⟩
 ·subst h1;obtain⟨n,e,p⟩:=hn;exact⟨n,e,λm hm=>up _ (p m hm)⟩
def emp(owner:Array (Option Nat))(j:Nat):Bool:=(owner.getD j (some 0)).isNone
theorem li(mask:Nat)(owner:Array (Option Nat)):∀(fuel:Nat)(x:Nat×Nat),x.1≤mask→(∃k,k<fuel∧emp owner (lv mask k x).1=true) →
  ∃j n,layClean.free mask owner fuel x.1 x.2=some j∧(nth mask (lvP mask x) n).j=j∧emp owner j=true∧∀m,m<n→emp owner (nth mask (lvP mask x) m).j=false
 |0,x,_,h=>by obtain⟨k,hk,_⟩:=h;omega
 |fuel+1,x,hx,h=>by
  unfold layClean.free;have hr:=gX hx;have hpart:∀m,m≤runEnd mask x.1-x.1→(nth mask (lvP mask x) m).j=x.1+m:=λm hm=>by
   rw[nE mask m (lvP mask x) hm];rfl
  cases e:(List.range (runEnd mask x.1+1-x.1)).find? (λk=>(owner.getD (x.1+k) (some 0)).isNone)with
  |some k =>
   rw[List.find?_range_eq_some]at e;obtain⟨e1,e2,e3⟩:=e;have hk:k≤runEnd mask x.1-x.1:=by have:=mem_range.mp e2;omega
   refine⟨x.1+k,k,rfl,hpart k hk,e1,λm hm=>?_⟩;rw[hpart m (by omega)];have:=e3 m hm;simpa [emp]using this
  |none =>
   rw[List.find?_range_eq_none]at e;obtain⟨k,hk,h1⟩:=h;have hk0:k≠0:=by
    rintro rfl;have:=e 0 (by omega);have h1':(owner.getD x.1 (some 0)).isNone=true:=h1;rw[Nat.add_zero,h1']at this;simp at this
   obtain⟨k',rfl⟩:∃k',k=k'+1:=⟨k-1,by omega⟩;have hl:(leap mask x.1 x.2).1≤mask:=qr mask 1 x hx;obtain⟨j,n,f1,f2,f3,f4⟩:=li mask owner fuel (leap mask x.1 x.2) hl ⟨k',by omega,h1⟩;refine⟨j,(runEnd mask x.1-x.1+1)+n,f1,?_,f3,λm hm=>?_⟩
   ·rw[dH,fj];exact f2
   ·by_cases hm2:m≤runEnd mask x.1-x.1
    ·rw[hpart m hm2];have:=e m (by omega);simpa [emp]using this
    ·obtain⟨m',rfl⟩:∃m',m=(runEnd mask x.1-x.1+1)+m':=⟨m-(runEnd mask x.1-x.1+1),by omega⟩;rw[dH,fj];exact f4 m' (by omega)
theorem vK{mask:Nat}(c:Cyc mask)(owner:Array (Option Nat))(h:Int){j₀:Nat}(hj:j₀≤mask)(he:emp owner j₀=true):
  ∃j n,layClean.free mask owner (turns mask) (bits h % (mask+1)) (bits h)=some j∧pos mask h n=j∧emp owner j=true∧∀m,m<n→emp owner (pos mask h m)=false:=by
 have h0:(lv mask 13 (bits h % (mask+1),bits h)).2=0:=by
  rw[fk];have:=qt h;exact Nat.div_eq_of_lt (by have e:(32:Nat) ^ 13=36893488147419103232:=(by decide);rw[e];show bits h<_;omega)
 have hx:bits h % (mask+1)≤mask:=by have:=mod_lt (bits h) (show 0<mask+1 by omega);omega
 have h1:(lv mask 13 (bits h % (mask+1),bits h)).1≤mask:=qr mask _ _ hx;obtain⟨k,hk,e⟩:=c _ h1 j₀ hj;refine li mask owner (turns mask) (bits h % (mask+1),bits h) hx ⟨13+k,by unfold turns;omega,?_⟩;rw[pB];have ex:lv mask 13 (bits h % (mask+1),bits h)=((lv mask 13 (bits h % (mask+1),bits h)).1,0):=by rw[←h0]
 rw[ex,jl,e];exact he
def live(mask:Nat)(owner:Array (Option Nat)):List (Nat×Nat):=(List.range (mask+1)).filterMap λj=>(owner.getD j none).map (j,·)
theorem eB{α β:Type}{f g:α→Option β}:∀{l:List α},(∀x∈l,g x=f x)→l.filterMap g=l.filterMap f
 |[],_=>rfl
 |x::l,h=>by
  have ih:=eB (l:=l) λy hy=>h y (mem_cons_of_mem _ hy);have hx:=h x mem_cons_self;cases e:f x with
  |none=>rw[filterMap_cons_none e,filterMap_cons_none (hx.trans e),ih]
  |some b=>rw[filterMap_cons_some e,filterMap_cons_some (hx.trans e),ih]
theorem fc{α β:Type}(f g:α→Option β)(a:α)(v:β)(hf:f a=none)(hg:g a=some v)(hne:∀x,x≠a→g x=f x):∀(l:List α),l.Nodup→a∈l →
  (l.filterMap g).Perm (v::l.filterMap f)
 |[],_,h=>by simp at h
 |x::l,hn,h=>by
  obtain⟨h1,h2⟩:=nodup_cons.mp hn
  by_cases e:x=a
  ·subst e;rw[filterMap_cons_some hg,filterMap_cons_none hf];have:l.filterMap g=l.filterMap f:=eB λy hy=>hne y (λe=>h1 (e ▸ hy));rw[this]
  ·have ha:a∈l:=by
    rcases mem_cons.mp h with z|z
    ·exact absurd z.symm e
    ·exact z
   have ih:=fc f g a v hf hg hne l h2 ha;cases ef:f x with
   |none =>
    rw[filterMap_cons_none ef,filterMap_cons_none (by rw[hne x e,ef])];exact ih
   |some b =>
    rw[filterMap_cons_some ef,filterMap_cons_some (by rw[hne x e,ef])];exact(ih.cons b).trans (List.Perm.swap _ _ _)
structure Lay(mask:Nat)(owner:Array (Option Nat))(hs:List Int):Prop where
 size:owner.size=mask+1
 perm:((live mask owner).map (·.2)).Perm (List.range hs.length)
 path:∀j i,owner.getD j none=some i→∃h,hs[i]?=some h∧∃n,pos mask h n=j∧∀m,m<n→emp owner (pos mask h m)=false
theorem gk{mask:Nat}{owner:Array (Option Nat)}(hs:owner.size=mask+1){j:Nat}(hj:j≤mask):emp owner j=(owner.getD j none).isNone:=by
 unfold emp;rw[getD_eq_getD_getElem?,getD_eq_getD_getElem?,Array.getElem?_eq_getElem (by omega)];rfl
theorem vL(mask:Nat):Lay mask (replicate (mask+1) none) []:=by
 have e:∀j,(replicate (mask+1) (none:Option Nat)).getD j none=none:=λj=>by
  rw[getD_eq_getD_getElem?,Array.getElem?_replicate]
  split<;>rfl
 refine⟨by simp,?_,λj i h=>?_⟩
 ·have:live mask (replicate (mask+1) none)=[]:=by
   unfold live;rw[List.filterMap_eq_nil_iff];intro j _;rw[e];rfl
  rw[this];simp
 ·rw[e]at h;cases h
theorem tI{mask:Nat}{owner:Array (Option Nat)}{hs:List Int}(L:Lay mask owner hs)(hl:hs.length≤mask):∃j,j≤mask∧emp owner j=true:=by
 by_cases h:∃j,j≤mask∧emp owner j=true
 ·exact h
 ·exfalso
  have all:∀j,j≤mask→∃i,owner.getD j none=some i:=λj hj=>by
   cases e:owner.getD j none with
   |some i=>exact⟨i,rfl⟩
   |none=>exact(h ⟨j,hj,by rw[gk L.size hj,e];rfl⟩).elim
  have len:(live mask owner).length=mask+1:=by
   have key:∀l:List Nat,(∀j∈l,j≤mask)→(l.filterMap λj=>(owner.getD j none).map (j,·)).length=l.length:=by
    intro l
    induction l with
    |nil=>intro _;rfl
    |cons x l ih =>
     intro hl;obtain⟨i,e⟩:=all x (hl x (by simp));rw[filterMap_cons_some (by rw[e];rfl),length_cons,length_cons,ih λj hj=>hl j (by simp[hj])]
   unfold live;rw[key _ (λj hj=>by have:=mem_range.mp hj;omega),length_range]
  have:=L.perm.length_eq;rw[length_map,length_range,len]at this;omega
theorem gm{owner:Array (Option Nat)}{j k:Nat}{v:Option Nat}(hj:j<owner.size):(owner.setIfInBounds j v).getD k none=if k=j then v else owner.getD k none:=by
 rw[getD_eq_getD_getElem?,getD_eq_getD_getElem?,Array.getElem?_setIfInBounds]
 by_cases e:j=k
 ·subst e;simp[hj]
 ·rw[if_neg e,if_neg (λz=>e z.symm)]
theorem qx{mask:Nat}{owner:Array (Option Nat)}{j k i:Nat}(hs:owner.size=mask+1)(hj:j≤mask)(hk:k≤mask)(h:emp owner k=false):emp (owner.setIfInBounds j (some i)) k=false:=by
 rw[gk (by simpa using hs) hk,gm (by omega)];rw[gk hs hk]at h
 split
 ·rfl
 ·exact h
theorem tJ{mask:Nat}(c:Cyc mask){owner:Array (Option Nat)}{hs:List Int}(L:Lay mask owner hs)(hl:hs.length≤mask)(h:Int):
  ∃j,layClean.free mask owner (turns mask) (bits h % (mask+1)) (bits h)=some j∧Lay mask (owner.setIfInBounds j (some hs.length)) (hs++[h]):=by
 obtain⟨j₀,hj₀,e₀⟩:=tI L hl;obtain⟨j,n,e1,e2,e3,e4⟩:=vK c owner h hj₀ e₀;have hj:j≤mask:=by rw[←e2];exact gY mask h n
 have hjn:owner.getD j none=none:=by
  rw[gk L.size hj]at e3;exact Option.isNone_iff_eq_none.mp e3
 refine⟨j,e1,by simpa using L.size,?_,λk i hk=>?_⟩
 ·have p:=fc (λk=>(owner.getD k none).map (k,·)) (λk=>((owner.setIfInBounds j (some hs.length)).getD k none).map (k,·)) j (j,hs.length) (by simp[hjn])
   (by show((owner.setIfInBounds j (some hs.length)).getD j none).map (j,·)=_;rw[gm (by rw[L.size];omega),if_pos rfl];rfl) (λx hx=>by show((owner.setIfInBounds j (some hs.length)).getD x none).map (x,·)=(owner.getD x none).map (x,·);rw[gm (by rw[L.size];omega),if_neg hx]) (List.range (mask+1)) nodup_range (mem_range.mpr (by omega))
  have p2:((live mask (owner.setIfInBounds j (some hs.length))).map (·.2)).Perm (hs.length::(live mask owner).map (·.2)):=p.map (·.2);rw[length_append,length_singleton,List.range_succ];exact p2.trans ((L.perm.cons _).trans (List.perm_append_singleton _ _).symm)
 ·rw[gm (by rw[L.size];omega)]at hk
  by_cases e:k=j
  ·subst e;rw[if_pos rfl]at hk;cases hk;exact⟨h,by simp,n,e2,λm hm=>qx L.size hj (gY _ _ _) (e4 m hm)⟩
  ·rw[if_neg e]at hk;obtain⟨h',a1,n',a2,a3⟩:=L.path k i hk;have hi:i<hs.length:=(List.getElem?_eq_some_iff.mp a1).1;exact⟨h',by rw[getElem?_append_left hi];exact a1,n',a2,λm hm=>qx L.size hj (gY _ _ _) (a3 m hm)⟩
theorem ix{mask:Nat}(c:Cyc mask)(hashes:Array Int)(hl:hashes.size≤mask+1):∃owner,layClean mask hashes=some owner∧Lay mask owner hashes.toList:=by
 have key:∀(r hs:List Int)(owner:Array (Option Nat)),Lay mask owner hs→hs.length+r.length≤mask+1 →
   ∃owner',r.foldl (λacc h=>do
    let(owner,k) ← acc
    let j ← layClean.free mask owner (turns mask) (bits h % (mask+1)) (bits h)
    pure (owner.setIfInBounds j (some k),k+1)) (some (owner,hs.length))=some (owner',hs.length+r.length)∧Lay mask owner' (hs++r):=by
  intro r
  induction r with
  |nil=>intro hs owner L _;exact⟨owner,rfl,by simpa using L⟩
  |cons h r ih =>
   intro hs owner L hle;rw[length_cons]at hle;obtain⟨j,e,L'⟩:=tJ c L (by omega) h;obtain⟨owner',e',L''⟩:=ih (hs++[h]) _ L' (by rw[length_append,length_singleton];omega);refine⟨owner',?_,by rw[append_assoc]at L'';exact L''⟩;rw[List.foldl_cons];have eb:(do
    let(owner,k) ← some (owner,hs.length)
    let j ← layClean.free mask owner (turns mask) (bits h % (mask+1)) (bits h)
    pure (owner.setIfInBounds j (some k),k+1))=some (owner.setIfInBounds j (some hs.length),hs.length+1):=by
    show(layClean.free mask owner (turns mask) (bits h % (mask+1)) (bits h)).bind _=_;rw[e];rfl
   rw[eb];rw[length_append,length_singleton]at e';rw[e',length_cons]
   congr 2
   omega
 obtain⟨owner',e,L⟩:=key hashes.toList [] _ (vL mask) (by simpa using hl);refine⟨owner',?_,by simpa using L⟩
 unfold layClean;rw[←Array.foldl_toList];have e2:(0:Nat)=([]:List Int).length:=rfl;rw[e2,e];rfl
theorem hJ{t:SetTable}{hashes:Array Int}{wanted:Nat}(c:Cyc (sizeAbove wanted-1))(hl:hashes.size≤sizeAbove wanted-1+1):
  ∃(t':SetTable) (zs:List (Nat×Nat)),t.relaid hashes wanted=some (t',(zs.map (·.2)).toArray)∧t'.mask=sizeAbove wanted-1∧t'.led=t.led∧t'.plain=t.plain ∧
   Tb t' (zs.map (·.1))∧(zs.map (·.2)).Perm (List.range hashes.size)∧fb t'.mask (zs.map λz=>(z.1,hashes.getD z.2 0)):=by
 obtain⟨owner,e,L⟩:=ix c hashes hl;refine⟨{mask:=sizeAbove wanted-1,place:=((live (sizeAbove wanted-1) owner).map (·.1)).toArray,dummies:=#[],finger:=t.finger,led:=t.led,moves:=t.movedTo (sizeAbove wanted-1),plain:=t.plain},live (sizeAbove wanted-1) owner,?_,rfl,rfl,rfl,⟨rfl,rfl,?_,?_⟩,?_,?_⟩
 ·unfold relaid laid;rw[e];rfl
 ·unfold Up live;rw[List.map_filterMap];have e1:((List.range (sizeAbove wanted-1+1)).filterMap λj=>((owner.getD j none).map (j,·)).map (·.1))=(List.range (sizeAbove wanted-1+1)).filter λj=>(owner.getD j none).isSome:=by
   generalize List.range (sizeAbove wanted-1+1)=l
   induction l with
   |nil=>rfl
   |cons x l ih =>
    cases ex:owner.getD x none with
    |none=>rw[filterMap_cons_none (by rw[ex];rfl),filter_cons_of_neg (by simp[ex])];exact ih
    |some i=>rw[filterMap_cons_some (b:=x) (by rw[ex];rfl),filter_cons_of_pos (by simp[ex]),ih]
  rw[e1];exact Pairwise.sublist filter_sublist List.pairwise_lt_range
 ·intro j hj;obtain⟨z,hz,rfl⟩:=mem_map.mp hj;unfold live at hz;obtain⟨k,hk,e1⟩:=mem_filterMap.mp hz;cases ex:owner.getD k none with
  |none=>rw[ex]at e1;cases e1
  |some i =>
   rw[ex]at e1;have e2:(k,i)=z:=Option.some.inj e1;subst e2;have:=mem_range.mp hk;show k≤sizeAbove wanted-1;omega
 ·have:=L.perm;rw[length_toList]at this;exact this
 ·intro y hy;obtain⟨z,hz,rfl⟩:=mem_map.mp hy;have key:∀z:Nat×Nat,z∈live (sizeAbove wanted-1) owner↔z.1≤sizeAbove wanted-1∧owner.getD z.1 none=some z.2:=by
   intro z;unfold live;rw[mem_filterMap];constructor
   ·rintro⟨k,hk,e1⟩;cases ex:owner.getD k none with
    |none=>rw[ex]at e1;cases e1
    |some i =>
     rw[ex]at e1;have e2:(k,i)=z:=Option.some.inj e1;subst e2;have:=mem_range.mp hk;exact⟨by omega,ex⟩
   ·rintro⟨h1,h2⟩;exact⟨z.1,mem_range.mpr (by omega),by rw[h2];rfl⟩
  obtain⟨z1,z2⟩:=(key z).mp hz;obtain⟨h,a1,n,a2,a3⟩:=L.path _ _ z2;have eh:hashes.getD z.2 0=h:=by
   have a1':hashes[z.2]?=some h:=by simpa using a1
   rw[getD_eq_getD_getElem?,a1'];rfl
  refine⟨n,by rw[eh];exact a2,λm hm=>?_⟩;have:=a3 m hm;have hle:=gY (sizeAbove wanted-1) h m;rw[gk L.size hle]at this;cases ex:owner.getD (pos (sizeAbove wanted-1) h m) none with
  |none=>rw[ex]at this;cases this
  |some i =>
   rw[map_map];show pos (sizeAbove wanted-1) (hashes.getD z.2 0) m∈_;rw[eh];exact mem_map.mpr ⟨(pos (sizeAbove wanted-1) h m,i),(key _).mpr ⟨hle,ex⟩,rfl⟩
section
variable{prog:Program}{w:World}{K:Type}[DecidableEq K]{knd:KeyKind prog w K}{A:Around}{E:Value→Shared→Prop}{s:Shared}
theorem iF(n:Nat){v:Value}(h:carriedByValue v=true):ofAClassStatement n v=pure false:=by
 cases v with
 |ref a=>simp[carriedByValue]at h
 |_=>cases n<;>rfl
theorem fe{ks:List K}{a:Addr}{Q:Bool→Shared→Prop}(hk:IsTupleKey knd s.heap ks a)(h:Q false s):wpAny (model prog w) A (ofAClassStatement 8 (.ref a)) Q E s:=by
 have hT:=hk.typeIs;obtain⟨o,items,n,ho,_,hd,hi⟩:=hk;unfold ofAClassStatement;refine wpAny_bind (wpAny_typeOf hT ?_);dsimp only;rw[if_pos (by decide)];refine wpAny_bind (wpAny_pure ?_);simp only[Bool.not_true,false_eq_true,if_false];refine wpAny_bind (wpAny_seqItems ho hd ?_);dsimp only;refine wpAny_bind ?_;rw[←forIn_toList];refine wpAny_forIn_list _ (λrest r s'=>r.1=none∧s'=s∧∀v∈rest,carriedByValue v=true) _ ?_ ?_ _ _ ⟨rfl,rfl,hi.byValue⟩
 ·rintro v rest r s' ⟨hr,rfl,hall⟩;rw[iF _ (hall v mem_cons_self)];refine wpAny_bind (wpAny_pure ?_);simp only[false_eq_true,if_false];exact wpAny_pure ⟨rfl,rfl,λu hu'=>hall u (mem_cons_of_mem _ hu')⟩
 ·rintro⟨r1,r2⟩ s' ⟨hr,rfl,_⟩;simp only at hr;subst hr;exact wpAny_pure h
theorem tK(n:Nat){x:Value}(hx:x.scannable=true):∃b,hashByValue n x=pure b:=⟨_,hashByValue_scannable n hx⟩
theorem rG{ks:List K}{a:Addr}{Q:Bool→Shared→Prop}(hk:IsTupleKey knd s.heap ks a)(hsc:∀k v,knd.is k v=true→v.scannable=true)(h:∀b,Q b s):wpAny (model prog w) A (hashByValue 8 (.ref a)) Q E s:=by
 have hT:=hk.typeIs;obtain⟨o,items,n,ho,_,hd,hi⟩:=hk;have hall:∀v∈items.toList,v.scannable=true:=by
  generalize items.toList=l at hi
  induction hi with
  |nil=>intro v hv;simp at hv
  |cons h1 _ ih =>
   intro v hv;rcases mem_cons.mp hv with rfl|hv
   ·exact hsc _ _ h1
   ·exact ih v hv
 unfold hashByValue;refine wpAny_bind (wpAny_specialOf hT F.slot_tuple_hash.lookup ?_);show wpAny _ _ (seqItems? (.ref a) >>= _) _ _ s;refine wpAny_bind (wpAny_seqItems ho hd ?_);refine wpAny_bind ?_;show wpAny _ _ (forIn items _ _) _ _ s;rw[←forIn_toList];refine wpAny_forIn_list _ (λrest r s'=>r.1=none∧s'=s∧∀v∈rest,v.scannable=true) _ ?_ ?_ _ _ ⟨rfl,rfl,hall⟩
 ·rintro v rest r s' ⟨hr,rfl,hall⟩;obtain⟨b,e⟩:=tK 7 (hall v mem_cons_self);rw[e];refine wpAny_bind (wpAny_pure ?_);cases b with
  |true =>
   simp only[Bool.not_true,false_eq_true,if_false];exact wpAny_pure ⟨rfl,rfl,λu hu'=>hall u (mem_cons_of_mem _ hu')⟩
  |false =>
   simp only[Bool.not_false,if_true];exact wpAny_pure (wpAny_pure (h false))
 ·rintro⟨r1,r2⟩ s' ⟨hr,rfl,_⟩;simp only at hr;subst hr;exact wpAny_pure (h true)
theorem vM{k:List K}{b:Addr}(hb:IsTupleKey knd s.heap k b)(stored:List Value)(hs:∀v∈stored,∃k' b',v=.ref b'∧IsTupleKey knd s.heap k' b'){Q:Bool→Shared→Prop}(h:Q false s):
  wpAny (model prog w) A (searchCouldBeSeen (.ref b) stored) Q E s:=by
 unfold searchCouldBeSeen;refine wpAny_bind ?_;refine wpAny_forIn_list _ (λrest r s'=>r.1=none∧s'=s∧∀v∈rest,∃k' b',v=.ref b'∧IsTupleKey knd s.heap k' b') _ ?_ ?_ _ _ ⟨rfl,rfl,hs⟩
 ·rintro v rest r s' ⟨hr,rfl,hall⟩;obtain⟨k',b',rfl,hb'⟩:=hall v mem_cons_self;have hall':=λu hu'=>hall u (mem_cons_of_mem _ hu')
  by_cases hv:(b==b')=true
  ·simp only[hv,Bool.true_or,if_true];exact wpAny_pure ⟨rfl,rfl,hall'⟩
  ·have hv':(b==b')=false:=by simpa using hv
   have hc:carriedByValue (.ref b)=false:=rfl;simp only[hv',hc,Bool.false_and,Bool.or_false,false_eq_true,if_false];refine wpAny_bind (wpAny_eqIsQuiet_tuple hb ?_);simp only[Bool.not_true,false_eq_true,if_false];refine wpAny_bind (wpAny_eqIsQuiet_tuple hb' ?_);simp only[Bool.not_true,false_eq_true,if_false];refine wpAny_bind (fe hb ?_);simp only[false_eq_true,if_false];refine wpAny_bind (fe hb' ?_);simp only[false_eq_true,if_false];exact wpAny_pure ⟨rfl,rfl,hall'⟩
 ·rintro⟨r1,r2⟩ s' ⟨hr,rfl,_⟩;simp only at hr;subst hr;exact wpAny_pure h
end
section
variable{prog:Program}{w:World}{K:Type}[DecidableEq K](knd:KeyKind prog w K)
abbrev Ent(K:Type):=Nat×Addr×List K
def ent(z:Ent K):Int×Value:=(tupleKeyHash knd z.2.2,.ref z.2.1)
def pth(z:Ent K):Nat×Int:=(z.1,tupleKeyHash knd z.2.2)
structure TS(h:Heap)(a:Addr)(zs:List (Ent K)):Prop where
 ob:∃o es ep t,h.get? a=some o∧o.ExactSet∧o.data=.set es ep t∧es.toList=zs.map (ent knd)∧Tb t (zs.map (·.1))∧Mk t.mask∧zs.length*5<t.mask*3∧fb t.mask (zs.map (pth knd))
 keys:∀z∈zs,IsTupleKey knd h z.2.2 z.2.1
 nd:(zs.map (·.2.2)).Nodup
variable{knd}
variable{A:Around}{E:Value→Shared→Prop}{s:Shared}
theorem eR{t:SetTable}{l:List Nat}(T:Tb t l):t.fill=l.length:=by
 unfold SetTable.fill;rw[T.pl,T.nd];simp
theorem eS{t:SetTable}{l:List Nat}(T:Tb t l){n:Nat}(hn:l.length=n)(hf:n≤t.mask):t.fits n=true:=by
 unfold SetTable.fits;rw[eR T,T.pl];simp[hn,hf]
theorem jp{mask:Nat}{h:Int}(n0 m:Nat):(nth mask (nth mask (st mask h) n0) m).j=pos mask h (n0+m):=by
 unfold pos;rw[dH]
theorem nI{a b:Addr}{o:Obj}{es:Array (Int×Value)}{ep:Nat}{t:SetTable}{zs:List (Ent K)}{k:List K}{Q:SetFound→Shared→Prop}(hu:A.units<cLine)(ho:s.heap.get? a=some o)(hd:o.data=.set es ep t)(hes:es.toList=zs.map (ent knd))(T:Tb t (zs.map (·.1)))(hf:t.fits es.size=true)(hodd:t.gaveWay=false)(hk:∀z∈zs,IsTupleKey knd s.heap z.2.2 z.2.1)(hb:IsTupleKey knd s.heap k b){N:Nat}(hN:pos t.mask (tupleKeyHash knd k) N∉zs.map (·.1))(hNb:N<10*turns t.mask)(hN1:∀m,m<N→pos t.mask (tupleKeyHash knd k) m∈zs.map (·.1))(q1:(∃z∈zs,z.2.2=k)→Q (.there none) s)(q2:(∀m,m<N→∀z∈zs,z.1=pos t.mask (tupleKeyHash knd k) m→z.2.2≠k)→Q (.free (pos t.mask (tupleKeyHash knd k) N) false) s):
  ∀(d n0 fuel:Nat)(stand:Option SetTable.Probe),N-n0=d→n0≤N→d<fuel→stand.getD (t.probeStart (tupleKeyHash knd k))=nth t.mask (st t.mask (tupleKeyHash knd k)) n0 →
   (∀m,m<n0→∀z∈zs,z.1=pos t.mask (tupleKeyHash knd k) m→z.2.2≠k) →
   wpAny (model prog w) A (setSearchFrom a (.ref b) (tupleKeyHash knd k) true fuel stand) Q E s:=by
 intro d
 induction d using Nat.strongRecOn with
 |_ d ih =>
  intro n0 fuel stand hdd hn0 hfuel hst hpast;obtain⟨fuel,rfl⟩:∃f,fuel=f+1:=⟨fuel-1,by omega⟩;unfold setSearchFrom;refine wpAny_bind (wpAny_setState_of ho hd hf ?_);dsimp only;rw[hodd];simp only[false_eq_true,if_false];rw[hst];have hget:∀{i:Nat}{z:Ent K},zs[i]?=some z→es[i]?=some (ent knd z):=λ{i z} e=>by
   rw[←getElem?_toList,hes,getElem?_map,e];rfl
  obtain⟨n,hn,hev,hno⟩:=jm (λm=>pos t.mask (tupleKeyHash knd k) (n0+m)∉zs.map (·.1)∨∃z∈zs,z.1=pos t.mask (tupleKeyHash knd k) (n0+m)∧tupleKeyHash knd z.2.2=tupleKeyHash knd k) (N-n0)
   (.inl (by rw[show n0+(N-n0)=N by omega];exact hN))
  have hlive:∀m,pos t.mask (tupleKeyHash knd k) m∈zs.map (·.1)→∃i z,t.slot (pos t.mask (tupleKeyHash knd k) m)=.live i∧zs[i]?=some z∧z.1=pos t.mask (tupleKeyHash knd k) m:=λm hm=>by
   obtain⟨i,hi,e⟩:=mem_iff_getElem.mp hm;have hi':i<zs.length:=by simpa using hi
   have e1:(zs.map (·.1))[i]?=some (pos t.mask (tupleKeyHash knd k) m):=by rw[getElem?_eq_getElem hi,e]
   refine⟨i,zs[i],iN T e1,by simp[hi'],?_⟩;rw[getElem_map]at e;exact e
  have hskip:∀m,m<n→∃i,t.slot (nth t.mask (nth t.mask (st t.mask (tupleKeyHash knd k)) n0) m).j=.live i∧((es[i]?.map (·.1)).getD 0==tupleKeyHash knd k)=false:=λm hm=>by
   have h1:pos t.mask (tupleKeyHash knd k) (n0+m)∈zs.map (·.1):=by
    by_cases z:pos t.mask (tupleKeyHash knd k) (n0+m)∈zs.map (·.1)
    ·exact z
    ·exact(hno m hm (.inl z)).elim
   obtain⟨i,z,e1,e2,e3⟩:=hlive _ h1;refine⟨i,by rw[jp];exact e1,?_⟩;rw[hget e2];show(tupleKeyHash knd z.2.2==tupleKeyHash knd k)=false;rw[beq_eq_false_iff_ne];intro e4;exact hno m hm (.inr ⟨z,mem_of_getElem? e2,e3,e4⟩)
  by_cases hmem:pos t.mask (tupleKeyHash knd k) (n0+n)∈zs.map (·.1)
  ·
   have hcand:∃z∈zs,z.1=pos t.mask (tupleKeyHash knd k) (n0+n)∧tupleKeyHash knd z.2.2=tupleKeyHash knd k:=by
    rcases hev with e|e
    ·exact(e hmem).elim
    ·exact e
   obtain⟨i,z,e1,e2,e3⟩:=hlive _ hmem;have hz:z∈zs:=mem_of_getElem? e2;have hzh:tupleKeyHash knd z.2.2=tupleKeyHash knd k:=by
    obtain⟨z',hz',f1,f2⟩:=hcand;have hinj:z'=z:=by
     obtain⟨i',hi',ei'⟩:=mem_iff_getElem.mp hz';have g1:(zs.map (·.1))[i']?=some (pos t.mask (tupleKeyHash knd k) (n0+n)):=by rw[getElem?_map,getElem?_eq_getElem hi',ei',←f1];rfl
     have g2:=iN T g1;rw[e1]at g2;cases g2;rw[getElem?_eq_getElem hi',ei']at e2;exact Option.some.inj e2
    rw[←hinj];exact f2
   have hnN:n0+n<N:=by
    rcases lt_or_ge (n0+n) N with z'|z'
    ·exact z'
    ·have:n0+n=N:=by omega
     rw[this]at hmem;exact(hN hmem).elim
   have hp:=qv t (λi=>(es[i]?.map (·.1)).getD 0) (tupleKeyHash knd k) i n (nth t.mask (st t.mask (tupleKeyHash knd k)) n0) (10*turns t.mask) (by omega) hskip (by rw[jp];exact e1)
    (by rw[hget e2];show(tupleKeyHash knd z.2.2==tupleKeyHash knd k)=true;rw[hzh];simp)
   generalize hg:SetTable.probe t _ (tupleKeyHash knd k) (nth t.mask (st t.mask (tupleKeyHash knd k)) n0)=met;have hmet:met=some (.candidate (nth t.mask (nth t.mask (st t.mask (tupleKeyHash knd k)) n0) n).j i (nth t.mask (nth t.mask (st t.mask (tupleKeyHash knd k)) n0) (n+1))):=hg.symm.trans hp;subst hmet;dsimp only;have cont:wpAny (model prog w) A (match es[i]? with
      |some (_,y)=>do
       let equal ← holding [y] (eqBool y (.ref b))
       let(es',_,t') ← setState a
       if (true&&equal)=true then return SetFound.there none
       let some same:=t'.sameMemory t.moves t.mask|unsupported "set.changed-during-lookup:is-the-new-block-at-the-old-address"
       let still ← match (if same then t'.slot (nth t.mask (nth t.mask (st t.mask (tupleKeyHash knd k)) n0) n).j else .empty)with
        |.live i'=>match es'[i']? with
         |some (_,y')=>do pure (if ← isSame y' y then some i' else none)
         |none=>pure none
        |_=>pure none
       match still with
       |none=>rule "set.search.anew";setSearchFrom a (.ref b) (tupleKeyHash knd k) true fuel none
       |some i'=>if equal then return SetFound.there (some i')else setSearchFrom a (.ref b) (tupleKeyHash knd k) true fuel (some (nth t.mask (nth t.mask (st t.mask (tupleKeyHash knd k)) n0) (n+1)))
      | _=>unsupported "internal:set-entry") Q E s:=by
    rw[hget e2];show wpAny _ _ (holding [Value.ref z.2.1] (eqBool (.ref z.2.1) (.ref b)) >>= _) _ _ _;refine wpAny_bind (wpAny_holding (wpAny_eqBool_tuple hu (hk z hz) hb ?_));refine wpAny_bind (wpAny_setState_of ho hd hf ?_);dsimp only
    by_cases hkk:z.2.2=k
    ·rw[decide_eq_true hkk];simp only[Bool.and_self,if_true];exact wpAny_pure (q1 ⟨z,hz,hkk⟩)
    ·rw[decide_eq_false hkk];simp only[Bool.and_false,false_eq_true,if_false];have hsm:t.sameMemory t.moves t.mask=some true:=by unfold SetTable.sameMemory;simp
     rw[hsm];simp only[if_true];rw[jp,e1];dsimp only;rw[hget e2];dsimp only;refine wpAny_bind (wpAny_isSame_ref_self ?_);simp only[if_true];refine wpAny_bind (wpAny_pure ?_);dsimp only;refine ih (N-(n0+n+1)) (by omega) (n0+n+1) fuel _ rfl (by omega) (by omega) ?_ ?_
     ·show nth t.mask (nth t.mask (st t.mask (tupleKeyHash knd k)) n0) (n+1)=_;rw[←dH];rfl
     ·intro m hm z' hz' e
      by_cases hlt:m<n0
      ·exact hpast m hlt z' hz' e
      ·intro hzk;have hm2:pos t.mask (tupleKeyHash knd k) m∈zs.map (·.1):=mem_map.mpr ⟨z',hz',e⟩;obtain⟨m',rfl⟩:∃m',m=n0+m':=⟨m-n0,by omega⟩;rcases lt_or_ge m' n with hlt'|hge
       ·exact hno m' hlt' (.inr ⟨z',hz',e,by rw[hzk]⟩)
       ·have:m'=n:=by omega
        subst this;obtain⟨i',hi',ei'⟩:=mem_iff_getElem.mp hz';have g1:(zs.map (·.1))[i']?=some (pos t.mask (tupleKeyHash knd k) (n0+m')):=by rw[getElem?_map,getElem?_eq_getElem hi',ei',←e];rfl
        have g2:=iN T g1;rw[e1]at g2;cases g2;rw[getElem?_eq_getElem hi',ei']at e2;have:z'=z:=Option.some.inj e2;exact hkk (this ▸ hzk)
   cases hl:t.led with
   |true =>
    simp only[Bool.not_true,false_eq_true,if_false];exact cont
   |false =>
    simp only[Bool.not_false,if_true];refine wpAny_bind (vM hb _ ?_ ?_)
    ·intro v hv;obtain⟨e,he,rfl⟩:=mem_map.mp hv;rw[Array.toList_filter,hes]at he;obtain⟨he1,_⟩:=mem_filter.mp he;obtain⟨z',hz',rfl⟩:=mem_map.mp he1;exact⟨z'.2.2,z'.2.1,rfl,hk z' hz'⟩
    ·simp only[false_eq_true,if_false];exact cont
  ·
   have hnN:n0+n=N:=by
    rcases lt_or_ge (n0+n) N with z|z
    ·exact(hmem (hN1 _ z)).elim
    ·omega
   have hp:=jn t (λi=>(es[i]?.map (·.1)).getD 0) (tupleKeyHash knd k) n (nth t.mask (st t.mask (tupleKeyHash knd k)) n0) (10*turns t.mask) (by omega) hskip (by rw[jp];exact nH T hmem);generalize hg:SetTable.probe t _ (tupleKeyHash knd k) (nth t.mask (st t.mask (tupleKeyHash knd k)) n0)=met;have hmet:met=some (.empty (nth t.mask (nth t.mask (st t.mask (tupleKeyHash knd k)) n0) n).j (nth t.mask (st t.mask (tupleKeyHash knd k)) n0).dummy):=hg.symm.trans hp;subst hmet;have hdm:(nth t.mask (st t.mask (tupleKeyHash knd k)) n0).dummy=none:=gZ _ _ _;rw[hdm];dsimp only;rw[jp,hnN];refine wpAny_pure (q2 λm hm z hz e hzk=>?_)
   by_cases hlt:m<n0
   ·exact hpast m hlt z hz e hzk
   ·obtain⟨m',rfl⟩:∃m',m=n0+m':=⟨m-n0,by omega⟩;exact hno m' (by omega) (.inr ⟨z,hz,e,by rw[hzk]⟩)
end
theorem qy:∀(n:Nat)(l:List Nat),(∀j,j<n→j∈l)→n≤l.length
 |0,_,_=>zero_le _
 |n+1,l,h=>by
  have hn:=h n (by omega);have ih:=qy n (l.erase n) λj hj=>(List.mem_erase_of_ne (by omega)).mpr (h j (by omega));rw[List.length_erase_of_mem hn]at ih;have:0<l.length:=List.length_pos_of_mem hn;omega
theorem jq(n:Nat)(l:List Nat)(h:l.length≤n):∃j,j≤n∧j∉l:=by
 by_cases z:∃j,j≤n∧j∉l
 ·exact z
 ·exfalso
  have:=qy (n+1) l λj hj=>by
   by_cases e:j∈l
   ·exact e
   ·exact(z ⟨j,by omega,e⟩).elim
  omega
section
variable{prog:Program}{w:World}{K:Type}[DecidableEq K]{knd:KeyKind prog w K}{A:Around}{E:Value→Shared→Prop}{s:Shared}
theorem IsTupleKey.same{h h':Heap}{ks:List K}{a d:Addr}{o:Obj}{es ep t}(x:IsTupleKey knd h ks a)(ho:h.get? d=some o)(hd:o.data=.set es ep t)(hs:SameBut d h h'):IsTupleKey knd h' ks a:=by
 obtain⟨o',items,n,ho',hc,hd',hi⟩:=x;have hne:a≠d:=by
  rintro rfl;obtain rfl:o'=o:=Option.some.inj (ho'.symm.trans ho);rw[hd]at hd';exact nomatch hd'
 exact⟨o',items,n,(hs.2 a hne).trans ho',hc,hd',hi⟩
theorem tL{t:SetTable}{l:List Nat}(T:Tb t l)(b:Bool):Tb {t with plain:=b} l:=⟨T.pl,T.nd,T.up,T.le⟩
theorem stored{a:Addr}{o:Obj}{es:Array (Int×Value)}{ep:Nat}{t:SetTable}(ho:s.heap.get? a=some o)(hd:o.data=.set es ep t)(es':Array (Int×Value))(t':SetTable):
  (s.heap.update a (Obj.putSet es' t')).get? a=some {o with data:=.set es' (ep+1) t'}:=by
 have:=get?_update_self (Obj.putSet es' t') ho (by rw[putSet_of es' t' hd];rfl);rw[putSet_of es' t' hd]at this;exact this
theorem lT{n:Nat}(h:n≤64):n≤sizeLine:=by rw[sizeLine_eq];omega
theorem rH{a b:Addr}{zs:List (Ent K)}{k:List K}{Q:Bool→Shared→Prop}(hu:A.units<cLine)(hsc:∀k v,knd.is k v=true→v.scannable=true)(hS:TS knd s.heap a zs)(hb:IsTupleKey knd s.heap k b)(hroom:zs.length<60)(h:∀r h' zs',SameBut a s.heap h'→TS knd h' a zs'→((k∈zs.map (·.2.2)∧zs'=zs)∨(k∉zs.map (·.2.2)∧(zs'.map (·.2)).Perm ((b,k)::zs.map (·.2))))→Q r {s with heap:=h'}):
  wpAny (model prog w) A (setAddHashed a (.ref b) (tupleKeyHash knd k)) Q E s:=by
 obtain⟨⟨o,es,ep,t,ho,hex,hd,hes,T,hmask,hfull,hpath⟩,hk,hnd⟩:=id hS;have hlen:es.size=zs.length:=by rw[←length_toList,hes,length_map]
 have hge:=hmask.ge;have hle:zs.length≤t.mask:=by omega
 have hf:t.fits es.size=true:=eS T (by rw[length_map,hlen]) (by rw[hlen];exact hle);have hodd:t.gaveWay=false:=by unfold SetTable.gaveWay;rw[hmask.odd];rfl
 have cyc:=hmask.cyc;obtain⟨j₀,hj₀,hj₀'⟩:=jq t.mask (zs.map (·.1)) (by rw[length_map];exact hle);obtain⟨n₀,hn₀,en₀⟩:=cover cyc (tupleKeyHash knd k) hj₀;obtain⟨N,hNle,hN,hNno⟩:=jm (λm=>pos t.mask (tupleKeyHash knd k) m∉zs.map (·.1)) n₀ (by rw[en₀];exact hj₀');have hN1:∀m,m<N→pos t.mask (tupleKeyHash knd k) m∈zs.map (·.1):=λm hm=>by
  by_cases z:pos t.mask (tupleKeyHash knd k) m∈zs.map (·.1)
  ·exact z
  ·exact(hNno m hm z).elim
 have hturns:10*turns t.mask<100000:=by unfold turns;omega
 unfold setAddHashed setAddHashedIn;refine wpAny_holding (wpAny_bind (wpAny_setState_of ho hd hf ?_));dsimp only;have hby:byScan (.ref b) es=false:=rfl;rw[hby];simp only[false_eq_true,if_false];refine wpAny_bind ?_;unfold setSearch;refine nI hu ho hd hes T hf hodd hk hb hN (by omega) hN1 ?_ ?_ N 0 100000 none rfl (by omega) (by omega) rfl (λm hm=>by omega)
 ·intro hex';dsimp only;have e:s={s with heap:=s.heap}:=by cases s;rfl
  have hq:=h false s.heap zs (SameBut.refl a s.heap) hS (.inl ⟨by
   obtain⟨z,hz,e⟩:=hex';exact mem_map.mpr ⟨z,hz,e⟩,rfl⟩)
  rw[e];exact wpAny_pure hq
 ·intro hnone;have hknew:k∉zs.map (·.2.2):=by
   intro hm;obtain⟨z,hz,ez⟩:=mem_map.mp hm;obtain⟨n,e1,e2⟩:=hpath (pth knd z) (mem_map.mpr ⟨z,hz,rfl⟩);have e1':pos t.mask (tupleKeyHash knd k) n=z.1:=by rw[←ez];exact e1
   have e2':∀m,m<n→pos t.mask (tupleKeyHash knd k) m∈zs.map (·.1):=λm hm=>by
    have:=e2 m hm;rw[map_map]at this;rw[←ez];exact this
   have hnN:n<N:=by
    rcases lt_or_ge n N with z'|z'
    ·exact z'
    ·exfalso
     rcases lt_or_ge N n with z''|z''
     ·exact hN (e2' N z'')
     ·have:n=N:=by omega
      subst this;exact hN (by rw[e1'];exact mem_map.mpr ⟨z,hz,rfl⟩)
   exact hnone n hnN z hz e1'.symm ez
  dsimp only;refine wpAny_bind (wpAny_setState_of ho hd hf ?_);dsimp only;have hpl:pos t.mask (tupleKeyHash knd k) N≤t.mask:=gY _ _ _;obtain⟨T1,hp1,hm1⟩:=tH T hN hpl;generalize hput:t.put (pos t.mask (tupleKeyHash knd k) N)=tp at T1 hp1 hm1⊢;obtain⟨t1,p⟩:=tp;dsimp only at T1 hp1 hm1⊢;obtain⟨zs1,hzs1⟩:∃zs1,zs1=zs.take p++(pos t.mask (tupleKeyHash knd k) N,b,k)::zs.drop p:=⟨_,rfl⟩;have hT1:zs1.map (·.1)=(zs.map (·.1)).take (below (zs.map (·.1)).toArray (pos t.mask (tupleKeyHash knd k) N))++(pos t.mask (tupleKeyHash knd k) N)::(zs.map (·.1)).drop (below (zs.map (·.1)).toArray (pos t.mask (tupleKeyHash knd k) N)):=by
   rw[hzs1,←hp1];simp[map_take,map_drop]
  rw[←hT1]at T1;have hperm:zs1.Perm ((pos t.mask (tupleKeyHash knd k) N,b,k)::zs):=by
   rw[hzs1];refine perm_middle.trans ?_;rw[List.take_append_drop]
  have hlen1:zs1.length=zs.length+1:=by rw[hperm.length_eq,length_cons]
  have hes1:(insertAt es p (tupleKeyHash knd k,Value.ref b)).toList=zs1.map (ent knd):=by
   rw[SetTable.toList_insertAt,hes,hzs1];simp[map_take,map_drop,ent]
  have hpath1:fb t.mask (zs1.map (pth knd)):=by
   refine fb.mono hpath (pos t.mask (tupleKeyHash knd k) N,tupleKeyHash knd k) (λz hz=>?_) (λz hz=>?_) ⟨N,rfl,λm hm=>by rw[map_map];exact hN1 m hm⟩
   ·obtain⟨y,hy,rfl⟩:=mem_map.mp hz;rcases mem_cons.mp (hperm.mem_iff.mp hy)with e|e
    ·right;rw[e];rfl
    ·left;exact mem_map.mpr ⟨y,e,rfl⟩
   ·obtain⟨y,hy,rfl⟩:=mem_map.mp hz;exact mem_map.mpr ⟨y,hperm.mem_iff.mpr (mem_cons_of_mem _ hy),rfl⟩
  have hkeys1:∀z∈zs1,IsTupleKey knd s.heap z.2.2 z.2.1:=λz hz=>by
   rcases mem_cons.mp (hperm.mem_iff.mp hz)with e|e
   ·rw[e];exact hb
   ·exact hk z e
  have hkp1:(zs1.map (·.2.2)).Perm (k::zs.map (·.2.2)):=hperm.map _;have hkq1:(zs1.map (·.2)).Perm ((b,k)::zs.map (·.2)):=hperm.map _;have hnd1:(zs1.map (·.2.2)).Nodup:=hkp1.nodup_iff.mpr (nodup_cons.mpr ⟨hknew,hnd⟩);have hsz1:(insertAt es p (tupleKeyHash knd k,Value.ref b)).size=zs.length+1:=by rw[←length_toList,hes1,length_map,hlen1]
  have tail:∀t2:SetTable,Tb t2 (zs1.map (·.1))→t2.mask=t.mask→wpAny (model prog w) A (do
    storeSet a (insertAt es p (tupleKeyHash knd k,Value.ref b)) t2
    if (!false&&t2.tooFull)=true then do
      setRelay a (SetTable.grown (es.size+1))
      pure true
     else pure true) Q E s:=by
   intro t2 T2 hm2;refine wpAny_bind (wpAny_storeSet_of ho hd ?_ (by rw[hsz1];exact lT (by omega)));have ho1:=stored ho hd (insertAt es p (tupleKeyHash knd k,Value.ref b)) t2;have hsb1:=SameBut.update s.heap a (Obj.putSet (insertAt es p (tupleKeyHash knd k,Value.ref b)) t2);have hfill:t2.fill=zs.length+1:=by rw[eR T2,length_map,hlen1]
   by_cases hfull2:t2.tooFull=true
   ·rw[hfull2];simp only[Bool.not_false,Bool.and_self,if_true];refine wpAny_bind ?_;unfold setRelay;have hf2:t2.fits (insertAt es p (tupleKeyHash knd k,Value.ref b)).size=true:=eS T2 (by rw[length_map,hlen1,hsz1]) (by rw[hsz1,hm2];omega);refine wpAny_bind (wpAny_setState_of ho1 rfl hf2 ?_);dsimp only;obtain⟨nn,hnn⟩:∃nn,nn=zs.length+1:=⟨_,rfl⟩;have hw:SetTable.grown (es.size+1)=nn*4:=by rw[hlen,hnn];unfold SetTable.grown;rw[if_neg (by omega)]
    obtain⟨hmk,hsz,hsz256⟩:=gh (w:=nn*4) (by omega);rw[hw];rw[if_neg (by rw[sizeLine_eq];omega)];have hhs:((insertAt es p (tupleKeyHash knd k,Value.ref b)).map (·.1)).size=nn:=by rw[size_map,hsz1,hnn]
    obtain⟨t3,zi,hrel,hm3,hl3,hp3,T3,hperm3,hpath3⟩:=hJ (t:=t2) (hashes:=(insertAt es p (tupleKeyHash knd k,Value.ref b)).map (·.1)) (wanted:=nn*4) hmk.cyc (by rw[hhs];omega);rw[hhs]at hperm3;have hidx:∀z∈zi,z.2<nn:=λz hz=>mem_range.mp (hperm3.mem_iff.mp (mem_map.mpr ⟨z,hz,rfl⟩));have hlen5:zs1.length=nn:=by rw[hlen1,hnn]
    obtain⟨zs2,hzs2⟩:∃zs2:List (Ent K),zs2=zi.map λz=>(z.1,(zs1.getD z.2 (0,0,[])).2):=⟨_,rfl⟩;have hgetE:∀i,i<nn→(insertAt es p (tupleKeyHash knd k,Value.ref b))[i]?=some (ent knd (zs1.getD i (0,0,[]))):=λi hi=>by
     rw[←getElem?_toList,hes1,getElem?_map,getD_eq_getElem?_getD,getElem?_eq_getElem (by omega)];rfl
    have hes2:(((zi.map (·.2)).toArray).filterMap (λi=>(insertAt es p (tupleKeyHash knd k,Value.ref b))[i]?)).toList=zs2.map (ent knd):=by
     rw[Array.toList_filterMap,hzs2];show(zi.map (·.2)).filterMap _=_;rw[List.filterMap_map,map_map];have:∀l:List (Nat×Nat),(∀z∈l,z.2<nn)→l.filterMap ((λi=>(insertAt es p (tupleKeyHash knd k,Value.ref b))[i]?)∘λx=>x.2)=l.map (ent knd∘λz=>(z.1,(zs1.getD z.2 (0,0,[])).2)):=by
      intro l
      induction l with
      |nil=>intro _;rfl
      |cons x l ih =>
       intro hl;rw[filterMap_cons_some (b:=ent knd (zs1.getD x.2 (0,0,[]))) (by show(insertAt es p (tupleKeyHash knd k,Value.ref b))[x.2]?=_;exact hgetE _ (hl x (by simp))),map_cons,ih λz hz=>hl z (by simp[hz])];rfl
     exact this zi hidx
    have hsz2:(((zi.map (·.2)).toArray).filterMap (λi=>(insertAt es p (tupleKeyHash knd k,Value.ref b))[i]?)).size=nn:=by
     rw[←length_toList,hes2,length_map,hzs2,length_map];have:=hperm3.length_eq;rw[length_map,length_range]at this;exact this
    refine wpAny_bind ?_;rw[hrel];show wpAny _ _ (@ite _ _ _ _ _) _ _ _;rw[if_neg (by rw[hsz2,hsz1,hnn];simp)];refine wpAny_pure ?_;dsimp only;refine wpAny_storeSet_of ho1 rfl ?_ (by rw[hsz2];exact lT (by omega));have ho2:=stored (s:={s with heap:=s.heap.update a (Obj.putSet (insertAt es p (tupleKeyHash knd k,Value.ref b)) t2)}) ho1 rfl (((zi.map (·.2)).toArray).filterMap (λi=>(insertAt es p (tupleKeyHash knd k,Value.ref b))[i]?)) t3
    have hsb2:=hsb1.trans (SameBut.update (s.heap.update a (Obj.putSet (insertAt es p (tupleKeyHash knd k,Value.ref b)) t2)) a (Obj.putSet (((zi.map (·.2)).toArray).filterMap (λi=>(insertAt es p (tupleKeyHash knd k,Value.ref b))[i]?)) t3));have hkq2:(zs2.map (·.2)).Perm (zs1.map (·.2)):=by
     rw[hzs2,map_map];have e1:zi.map ((λz:Ent K=>z.2)∘λz=>(z.1,(zs1.getD z.2 (0,0,[])).2))=(zi.map (·.2)).map λi=>(zs1.getD i (0,0,[])).2:=by rw[map_map];rfl
     have e2:zs1.map (·.2)=(List.range nn).map λi=>(zs1.getD i (0,0,[])).2:=by
      apply ext_getElem?;intro i;rw[getElem?_map,getElem?_map]
      by_cases hi:i<nn
      ·rw[getElem?_eq_getElem (by omega),getElem?_range hi];have e3:zs1.getD i (0,0,[])=zs1[i]'(by omega):=by rw[getD_eq_getElem?_getD,getElem?_eq_getElem (by omega)];rfl
       show some (zs1[i]'(by omega)).2=some (zs1.getD i (0,0,[])).2;rw[e3]
      ·rw[getElem?_eq_none (by omega),getElem?_eq_none (by rw[length_range];omega)];rfl
     rw[e1,e2];exact hperm3.map _
    have hkp2:(zs2.map (·.2.2)).Perm (zs1.map (·.2.2)):=by
     have:=hkq2.map (·.2);rw[map_map,map_map]at this;exact this
    have hmem2:∀z∈zs2,∃y∈zs1,y.2=z.2:=λz hz=>by
     rw[hzs2]at hz;obtain⟨y,hy,rfl⟩:=mem_map.mp hz;have:=hidx y hy;refine⟨zs1[y.2]'(by omega),getElem_mem _,?_⟩;rw[getD_eq_getElem?_getD,getElem?_eq_getElem (by omega)];rfl
    refine wpAny_pure (h true _ zs2 hsb2 ⟨⟨_,_,_,t3,ho2,hex,rfl,hes2,?_,by rw[hm3];exact hmk,?_,?_⟩,λz hz=>?_,hkp2.nodup_iff.mpr hnd1⟩ (.inr ⟨hknew,hkq2.trans hkq1⟩))
    ·have e1:zs2.map (·.1)=zi.map (·.1):=by rw[hzs2,map_map];rfl
     rw[e1];exact T3
    ·have:zs2.length=nn:=by
      have:=hkp2.length_eq;rw[length_map,length_map,hlen5]at this;exact this
     rw[this,hm3];omega
    ·have e1:zs2.map (pth knd)=zi.map λz=>(z.1,((insertAt es p (tupleKeyHash knd k,Value.ref b)).map (·.1)).getD z.2 0):=by
      rw[hzs2,map_map];apply map_congr_left;intro z hz;show(z.1,tupleKeyHash knd (zs1.getD z.2 (0,0,[])).2.2)=_
      congr 1
      rw[getD_eq_getD_getElem?,Array.getElem?_map,hgetE _ (hidx z hz)];rfl
     rw[e1];exact hpath3
    ·obtain⟨y,hy,e⟩:=hmem2 z hz;rw[←e];exact IsTupleKey.same (hkeys1 y hy) ho hd hsb2
   ·have hnf:t2.tooFull=false:=by simpa using hfull2
    rw[hnf];simp only[Bool.and_false,false_eq_true,if_false];refine wpAny_pure (h true _ zs1 hsb1 ⟨⟨_,_,_,t2,ho1,hex,rfl,hes1,T2,by rw[hm2];exact hmask,?_,by rw[hm2];exact hpath1⟩,λz hz=>IsTupleKey.same (hkeys1 z hz) ho hd hsb1,hnd1⟩ (.inr ⟨hknew,hkq1⟩));unfold SetTable.tooFull at hnf;rw[decide_eq_false_iff_not,hfill]at hnf;rw[hlen1];omega
  cases hpl2:t1.plain with
  |true =>
   simp only[if_true];refine wpAny_bind (rG hb hsc λbb=>?_);cases bb with
   |true =>
    simp only[if_true];exact tail t1 T1 hm1
   |false =>
    simp only[false_eq_true,if_false];exact tail _ (tL T1 false) hm1
  |false =>
   simp only[false_eq_true,if_false];refine wpAny_bind (wpAny_pure ?_);simp only[if_true];exact tail t1 T1 hm1
end
theorem lj{α:Type}[DecidableEq α]:∀l:List α,¬l.Nodup→∃l':List α,l'.length+1=l.length∧∀x∈l,x∈l'
 |[],h=>(h nodup_nil).elim
 |x::r,h=>by
  by_cases hx:x∈r
  ·refine⟨r,rfl,λy hy=>?_⟩;rcases mem_cons.mp hy with e|e
   ·rw[e];exact hx
   ·exact e
  ·have hr:¬r.Nodup:=λz=>h (nodup_cons.mpr ⟨hx,z⟩);obtain⟨r',e,s⟩:=lj r hr;refine⟨x::r',by simp[←e],λy hy=>?_⟩;rcases mem_cons.mp hy with e'|e'
   ·rw[e'];simp
   ·exact mem_cons_of_mem _ (s y e')
theorem nJ{α:Type}[DecidableEq α]{z l:List α}(hz:z.Nodup)(h:∀x,x∈z↔x∈l):z.length=l.length↔l.Nodup:=by
 constructor
 ·intro e
  by_cases hl:l.Nodup
  ·exact hl
  ·obtain⟨l',e',s⟩:=lj l hl;have:=Nodup.length_le_of_subset hz (λx hx=>s x ((h x).mp hx));omega
 ·intro hl;exact((List.perm_ext_iff_of_nodup hz hl).mpr h).length_eq
section
variable{prog:Program}{w:World}{K:Type}[DecidableEq K]{knd:KeyKind prog w K}{A:Around}{R:Result→Shared→Prop}{I:Addr}{fp wr:List Addr}{G:Array GenState→Array GenState→Prop}{n:Nat}{P:Nat→Value→Prop}{St:Nat→Shared→Prop}
theorem jr{wr:List Addr}{s s':Shared}{k:List K}{b:Addr}(m:Moved wr G s s')(hb:b∉wr)(h:IsTupleKey knd s.heap k b):IsTupleKey knd s'.heap k b:=by
 obtain⟨o,items,n,ho,r⟩:=h;exact⟨o,items,n,m.heap b o hb ho,r⟩
theorem nK{wr:List Addr}{s s':Shared}{S:Addr}{zs:List (Ent K)}(m:Moved wr G s s')(hS:S∉wr)(hz:∀z∈zs,z.2.1∉wr)(h:TS knd s.heap S zs):TS knd s'.heap S zs:=by
 obtain⟨⟨o,es,ep,t,ho,r⟩,hk,hn⟩:=h;exact⟨⟨o,es,ep,t,m.heap S o hS ho,r⟩,λz hz'=>jr m (hz z hz') (hk z hz'),hn⟩
theorem dq(W:WalksS prog w A.in1 I fp wr G n P St)(S:Addr)(hSf:S∉fp)(hu:A.in1.units<cLine)(hsc:∀k v,knd.is k v=true→v.scannable=true)(key:Nat→List K)(ad:Nat→Addr)(hval:∀i v,P i v→v=.ref (ad i))(had:∀i,i<n→ad i∉S::fp)(hn:n≤60):
  ∀(k i:Nat)(s:Shared)(zs:List (Ent K)),n-i=k→i≤n→St i s→TS knd s.heap S zs→zs.length≤i→(∀z∈zs,∃j,j<n∧z.2.1=ad j)→(∀k',k'∈zs.map (·.2.2)↔∃j,j<i∧key j=k')→(∀j,j<n→IsTupleKey knd s.heap (key j) (ad j)) →
   (∀s' zs',Moved (S::wr) G s s'→TS knd s'.heap S zs'→zs'.length≤n→(∀k',k'∈zs'.map (·.2.2)↔∃j,j<n∧key j=k')→R (.ok (.ret .none)) s') →
   codeAny (model prog w) A (.builtin "set.update.loop" ⟨[.ref S,.ref I],[]⟩) R s:=by
 have hSw:S∉wr:=λh=>hSf (W.sub _ h);have hsub:∀b∈wr,b∈S::wr:=λb hb=>mem_cons_of_mem _ hb;have hadw:∀i,i<n→ad i∉wr:=λi hi h=>had i hi (mem_cons_of_mem _ (W.sub _ h));have hadS:∀i,i<n→ad i≠S:=λi hi h=>had i hi (by rw[h];exact mem_cons_self);intro k
 induction k with
 |zero =>
  intro i s zs hk hi hst hS hl hza hmem hks hR;have hin:i=n:=by omega
  subst hin;refine codeAny_builtin PyProof.Rows.F.entry_set_update_loop ?_;rw[Around.under_plainId PyProof.Rows.F.plain_set_update_loop _];show wpAny _ A.in1 (pyNext (.ref I) >>= _) _ _ s;refine wpAny_bind (W.done s _ _ hst λs' hm=>?_);show wpAny _ A.in1 (ret Value.none) _ _ s';exact wpAny_pure (hR s' zs (hm.mono hsub) (nK hm hSw (λz hz=>by obtain⟨j,hj,e⟩:=hza z hz;rw[e];exact hadw j hj) hS) hl hmem)
 |succ k ih =>
  intro i s zs hk hi hst hS hl hza hmem hks hR;have hlt:i<n:=by omega
  refine codeAny_builtin PyProof.Rows.F.entry_set_update_loop ?_;rw[Around.under_plainId PyProof.Rows.F.plain_set_update_loop _];show wpAny _ A.in1 (pyNext (.ref I) >>= _) _ _ s;refine wpAny_bind (W.item i s _ _ hlt hst λv s' hP hst' hm=>?_);have hv:=hval i v hP;subst hv;have hS':TS knd s'.heap S zs:=nK hm hSw (λz hz=>by obtain⟨j,hj,e⟩:=hza z hz;rw[e];exact hadw j hj) hS;have hks':∀j,j<n→IsTupleKey knd s'.heap (key j) (ad j):=λj hj=>jr hm (hadw j hj) (hks j hj);show wpAny _ A.in1 (holding [Value.ref (ad i)] (setAdd S (.ref (ad i))) >>= _) _ _ s';refine wpAny_bind (wpAny_holding ?_);unfold setAdd;refine wpAny_holding ?_;refine wpAny_bind (wpAny_pyHash_tuple hu (hks' i hlt) ?_);refine rH (s:={s' with toks:=s'.toks+((key i).length+1)}) hu hsc hS' (hks' i hlt) (by omega) λr h' zs' hsb hS2 hor=>?_
  have hsb':SameBut S s'.heap h':=hsb;have hlen':zs'.length≤i+1:=by
   rcases hor with⟨_,e⟩|⟨_,e⟩
   ·rw[e];omega
   ·have:=e.length_eq;rw[length_map,length_cons,length_map]at this;omega
  have hor2:(key i∈zs.map (·.2.2)∧zs'=zs)∨(zs'.map (·.2.2)).Perm (key i::zs.map (·.2.2)):=by
   rcases hor with e|⟨_,e⟩
   ·exact .inl e
   ·have:=e.map (·.2);rw[map_map,map_cons,map_map]at this;exact .inr this
  have hmem':∀k',k'∈zs'.map (·.2.2)↔∃j,j<i+1∧key j=k':=λk'=>by
   rcases hor2 with⟨hin,e⟩|e
   ·rw[e,hmem k'];constructor
    ·rintro⟨j,hj,e'⟩;exact⟨j,by omega,e'⟩
    ·rintro⟨j,hj,e'⟩
     by_cases hji:j=i
     ·rw[←e',hji];exact(hmem _).mp hin
     ·exact⟨j,by omega,e'⟩
   ·rw[e.mem_iff,mem_cons,hmem k'];constructor
    ·rintro(e'|⟨j,hj,e'⟩)
     ·exact⟨i,by omega,e'.symm⟩
     ·exact⟨j,by omega,e'⟩
    ·rintro⟨j,hj,e'⟩
     by_cases hji:j=i
     ·left;rw[←e',hji]
     ·exact .inr ⟨j,by omega,e'⟩
  have hkeep:∀b o,b∉S::wr→s'.heap.get? b=some o→h'.get? b=some o:=λb o hb e=>by
   rw[hsb'.2 b (λz:b=S=>hb (by rw[z];exact mem_cons_self))];exact e
  have hks2:∀j,j<n→IsTupleKey knd h' (key j) (ad j):=λj hj=>by
   obtain⟨o,items,m,ho,r⟩:=hks' j hj;exact⟨o,items,m,(hsb'.2 _ (hadS j hj)).trans ho,r⟩
  have hza2:∀z∈zs',∃j,j<n∧z.2.1=ad j:=by
   rcases hor with⟨_,e⟩|⟨_,e⟩
   ·rw[e];exact hza
   ·intro z hz;have hz2:z.2∈zs'.map (·.2):=mem_map.mpr ⟨z,hz,rfl⟩;rcases mem_cons.mp (e.mem_iff.mp hz2)with e'|e'
    ·exact⟨i,hlt,by rw[e']⟩
    ·obtain⟨y,hy,ey⟩:=mem_map.mp e';obtain⟨j,hj,ej⟩:=hza y hy;exact⟨j,hj,by rw[←ey];exact ej⟩
  refine wpAny_pure ⟨plainId_quiet PyProof.Rows.F.plain_set_update_loop _,ih (i+1) _ zs' (by omega) hlt (W.frame _ s' _ _ hst' (le_add_right _ _) λb hb o e=>?_) hS2 hlen' hza2 hmem' hks2 λs'' zs'' hm'' hS'' hl'' hmm''=>?_⟩
  ·rw[hsb'.2 b (λh:b=S=>hSf (by rw[←h];exact hb))];exact e
  ·refine hR s'' zs'' (Moved.trans W.gtrans ((hm.mono hsub).then_heap (le_add_right _ _) λb o hb e=>?_) hm'') hS'' hl'' hmm'';rw[hsb'.2 b (λh:b=S=>hb (by rw[h];exact mem_cons_self))];exact e
end
section
variable{prog:Program}{w:World}{K:Type}[DecidableEq K]{knd:KeyKind prog w K}{A:Around}{E:Value→Shared→Prop}{s:Shared}
theorem tM{h:Heap}{a:Addr}(led:Bool)(ho:h.get? a=some {cls:=.type "set",dict:=none,data:=.set #[] 0 (.fresh 0 0 led)}):TS knd h a [] :=
 ⟨⟨_,#[],0,_,ho,⟨rfl,rfl,rfl⟩,rfl,rfl,⟨rfl,rfl,Pairwise.nil,λ_ h=>by simp at h⟩,Or.inl rfl,(by show 0<21;decide),fb.nil _⟩,λ_ h=>by simp at h,nodup_nil⟩
set_option maxRecDepth 100000 in
set_option maxHeartbeats 3200000 in
theorem iG{l:Addr}{items:Array Value}{key:Nat→List K}{ad:Nat→Addr}{Q:Value→Shared→Prop}(hh:L2.eA A s.heap)(hu:A.units+4<cLine)(hsc:∀k v,knd.is k v=true→v.scannable=true)(hl:s.heap.IsList l items)(hi:∀(i:Nat) (v:Value),items[i]?=some v→v=Value.ref (ad i))(hk:∀i,i<items.size→IsTupleKey knd s.heap (key i) (ad i))(hb:items.size≤60)(h:∀(h':Heap) (tk:Nat) (zs:List (Ent K)),TS knd h' s.heap.objs.size zs→zs.length≤items.size→(∀k',k'∈zs.map (·.2.2)↔∃j,j<items.size∧key j=k') →
   (∀b o,b<s.heap.objs.size→s.heap.get? b=some o→h'.get? b=some o)→Q (.ref s.heap.objs.size) {s with heap:=h',toks:=tk}):
  wpAny (model prog w) A (call (.type "set") [.ref l]) Q E s:=by
 obtain⟨c,tl,hmro⟩:=F.called_set.mro;have hmade:=F.called_set.made;have hsub:=F.called_set.sub;refine wpAny_call (codeAny_of_tree ?_);show wpAny _ _ (callAny (.type "set") _) _ _ _;refine wpAny_pure ⟨Code.quiet_builtin _ (by decide +kernel),codeAny_builtin F.entry_type_call ?_⟩;rw[Around.under_plain (weight_type_call_type "set" [.ref l] []) rfl];have h1:=F.called_set.notType;have h2:=F.called_set.canCreate;have hct:=F.typeCall_set_1 (.ref l)
 repeat (any_goals (first|assumption|wp_step))
 refine codeAny_mono (code_set_new_1 (.ref l) (E:=E) (Q₁:=λobj s₁=>∃led:Bool,obj=.ref s.heap.objs.size∧s₁={s with heap:=s.heap.push {cls:=.type "set",dict:=none,data:=.set #[] 0 (.fresh 0 0 led)}}) λled=>⟨led,rfl,rfl⟩) λr s₁ hr=>?_
 cases r with
 |error e=>exact hr
 |ok fl =>
  cases fl with
  |ret obj =>
   obtain⟨led,rfl,rfl⟩:=hr;have hS:(s.heap.push {cls:=.type "set",dict:=none,data:=.set #[] 0 (.fresh 0 0 led)}).get? s.heap.objs.size=some {cls:=.type "set",dict:=none,data:=.set #[] 0 (.fresh 0 0 led)}:=get?_push_size _ rfl;have hT:Shared.TypeIs {s with heap:=s.heap.push {cls:=.type "set",dict:=none,data:=.set #[] 0 (.fresh 0 0 led)}} (.ref s.heap.objs.size) "set":=⟨_,hS,rfl⟩
   have hli:=F.called_set.init.lookup;have hbi:=F.called_set.init.bind (.ref s.heap.objs.size)
   repeat (any_goals (first|assumption|wp_step))
   refine codeAny_mono (codeAny_call_builtin (R:=wants (λr s₂=>r=.none∧∃h' tk zs,s₂={s with heap:=h',toks:=tk}∧TS knd h' s.heap.objs.size zs∧zs.length≤items.size∧(∀k',k'∈zs.map (·.2.2)↔∃j,j<items.size∧key j=k') ∧
     (∀b o,b<s.heap.objs.size→s.heap.get? b=some o→h'.get? b=some o)) E) F.called_set.init.plain F.entry_set_init (check_set_init_1 hT ?_)) λr₂ s₂ hr₂=>?_
   ·obtain⟨ol,hol,hcl,nl,hdl⟩:=hl;obtain⟨ocls,odict,odata,oslots⟩:=ol;simp only at hcl hdl;subst hcl;subst hdl;have hol':(s.heap.push {cls:=.type "set",dict:=none,data:=.set #[] 0 (.fresh 0 0 led)}).get? l=some {cls:=.type "list",dict:=odict,data:=.seq items nl,slots:=oslots}:=get?_push_of_some _ hol;have hsls:=F.sub_list_set;have hslf:=F.sub_list_frozenset;have hne:(Value.type "list"==Value.type "dict")=false:=by decide
    have hl1:(s.heap.push {cls:=.type "set",dict:=none,data:=.set #[] 0 (.fresh 0 0 led)}).IsList l items:=⟨_,hol',rfl,nl,rfl⟩;unfold Builtin.«set.__init__» noKeywords Builtin.Frozenset.updateFrom;generalize hPI:pyIter=PI
    wp_walk
    subst hPI;refine wpAny_pyIter_list hl1 ?_;refine wpAny_bind (wpAny_runValue ?_);have hlS:l<s.heap.objs.size:=lt_size hol;have hneI:l≠(s.heap.push {cls:=.type "set",dict:=none,data:=.set #[] 0 (.fresh 0 0 led)}).objs.size:=by
     rw[size_push];exact ne_of_lt (lt_succ_of_lt hlS)
    obtain⟨fp,St,W,hfp,mkS,_⟩:=L2.cz (prog:=prog) (w:=w) hh.in1.in1.in1 (s.heap.push {cls:=.type "set",dict:=none,data:=.set #[] 0 (.fresh 0 0 led)}).objs.size l hneI (by rw[size_push];exact le_succ _) items;have hSf:s.heap.objs.size∉fp:=λhb=>by
     rcases hfp _ hb with e|e|⟨o,_,e,_⟩
     ·rw[size_push]at e;exact ne_of_lt (Nat.lt_succ_self _) e
     ·exact ne_of_gt hlS e
     ·exact lt_irrefl _ (lt_size e)
    have hadlt:∀i,i<items.size→ad i<s.heap.objs.size:=λi hi'=>by
     obtain⟨o,_,_,ho,_⟩:=hk i hi';exact lt_size ho
    have hadl:∀i,i<items.size→ad i≠l:=λi hi' e=>by
     obtain⟨o,_,_,ho,hc,_⟩:=hk i hi';rw[e,hol]at ho;cases ho;have h':Value.type "list"=Value.type "tuple":=hc;injection h' with h'
     exact absurd h' (by decide)
    have had:∀i,i<items.size→ad i∉s.heap.objs.size::fp:=λi hi' hb=>by
     have q1:ad i<s.heap.objs.size:=hadlt i hi';rcases mem_cons.mp hb with e|hb
     ·exact ne_of_lt q1 e
     rcases hfp _ hb with e|e|⟨o,vs,e,ed⟩
     ·rw[size_push]at e;exact ne_of_lt (lt_succ_of_lt q1) e
     ·exact hadl i hi' e
     ·obtain⟨o',_,_,ho,_,hd,_⟩:=hk i hi';rw[e]at ho;cases ho;rw[ed]at hd;cases hd
    refine dq (knd:=knd) W.toS s.heap.objs.size
     hSf (by simp[Around.in1_units];omega) hsc key ad hi had hb (items.size-0) 0 _ [] (by omega) (zero_le _)
     (mkS 0 _ ⟨_,get?_push_size _ rfl,rfl,rfl⟩ (hl1.push _) λb o e=>get?_push_of_some _ (get?_push_of_some _ e)) ?hS0 (zero_le _) (λ_ h=>by simp at h) (λk'=>⟨λh=>by simp at h,λ⟨j,hj,_⟩=>by omega⟩) ?hks ?hR
    case hS0 =>
     exact tM led (get?_push_of_some _ hS)
    case hks =>
     intro j hj;obtain⟨o,its,m,ho,r⟩:=hk j hj;exact⟨o,its,m,get?_push_of_some _ (get?_push_of_some _ ho),r⟩
    case hR =>
     intro s' zs hm hS' hl' hm';obtain⟨h',g',d',tk',os'⟩:=s';have eg:g'=s.gens:=hm.gens;have ed:d'=s.drawn:=hm.drawn;have eo:os'=s.os:=hm.os;subst eg;subst ed;subst eo;show wpAny _ _ _ _ _ _;refine wpAny_pure ?_;show wpAny _ _ (ret Value.none) _ _ _;refine wpAny_pure ⟨rfl,h',tk',zs,rfl,hS',hl',hm',λb o hb e=>?_⟩;have hb1:b≠s.heap.objs.size:=ne_of_lt hb;have hb2:b≠(s.heap.push {cls:=.type "set",dict:=none,data:=.set #[] 0 (.fresh 0 0 led)}).objs.size:=by
      rw[size_push];exact ne_of_lt (lt_succ_of_lt hb)
     exact hm.heap b o (by simp only[mem_cons,List.mem_singleton,not_mem_nil,or_false,not_or];exact⟨hb1,hb2⟩) (get?_push_of_some _ (get?_push_of_some _ e))
   ·cases r₂ with
    |error e=>exact hr₂
    |ok fl₂ =>
     cases fl₂ with
     |ret r =>
      obtain⟨rfl,h',tk,zs,rfl,hS',hl',hm',hk'⟩:=hr₂
      repeat (any_goals (first|assumption|wp_step))
      exact h _ _ zs hS' hl' hm' hk'
     |_=>exact hr₂.elim
  |_=>exact hr.elim
end
end TB
namespace SRT
open PySem PySem.W PyProof.Rows
def run{α:Type}(f:Nat→Nat→Bool):KasT α→α
 |.ret a=>a
 |.ask i j k=>run f (k (f i j))
theorem dy{α β:Type}(f:Nat→Nat→Bool)(g:α→KasT β):∀t:KasT α,run f (t.bind g)=run f (g (run f t))
 |.ret a=>rfl
 |.ask i j k=>dy f g (k (f i j))
def path{α:Type}(f:Nat→Nat→Bool)(n:Nat):KasT α→Prop
 |.ret _=>True
 |.ask i j k=>i<n∧j<n∧path f n (k (f i j))
theorem cT{α β:Type}{f:Nat→Nat→Bool}{n:Nat}{g:α→KasT β}:∀{t:KasT α},path f n t→path f n (g (run f t))→path f n (t.bind g)
 |.ret a,_,h=>h
 |.ask i j k,h,h'=>⟨h.1,h.2.1,cT (t:=k (f i j)) h.2.2 h'⟩
theorem qz{α:Type}{f:Nat→Nat→Bool}{n:Nat}{cmp:Nat→Nat→(Bool→Shared→Prop)→Shared→Prop}{s:Shared}(hc:∀i j C,i<n→j<n→C (f i j) s→cmp i j C s)(Q:α→Shared→Prop):∀t:KasT α,path f n t→Q (run f t) s→t.kasWp cmp Q s
 |.ret a,_,h=>h
 |.ask i j k,p,h=>hc i j _ p.1 p.2.1 (qz hc Q (k (f i j)) p.2.2 h)
structure Ord(f:Nat→Nat→Bool)(n:Nat):Prop where
 irr:∀i,i<n→f i i=false
 tr:∀i j k,i<n→j<n→k<n→f i j=true→f j k=true→f i k=true
 tot:∀i j,i<n→j<n→i≠j→f i j=true∨f j i=true
section
variable{f:Nat→Nat→Bool}{n:Nat}
structure Row(n:Nat)(p:Array Nat):Prop where
 perm:p.toList.Perm (List.range n)
theorem Row.size{p:Array Nat}(r:Row n p):p.size=n:=by have:=r.perm.length_eq;simpa using this
theorem Row.lt{p:Array Nat}(r:Row n p){i:Nat}(hi:i<n):p.getD i 0<n:=by
 have hs:=r.size;have:p.getD i 0∈p.toList:=by
  rw[getD_eq_getD_getElem?,Array.getElem?_eq_getElem (by omega)];exact Array.getElem_mem_toList (by omega)
 exact mem_range.mp (r.perm.mem_iff.mp this)
theorem Row.ne{p:Array Nat}(r:Row n p){i j:Nat}(hi:i<n)(hj:j<n)(hij:i≠j):p.getD i 0≠p.getD j 0:=by
 have hs:=r.size;have nd:p.toList.Nodup:=r.perm.nodup_iff.mpr nodup_range;rw[getD_eq_getD_getElem?,getD_eq_getD_getElem?,Array.getElem?_eq_getElem (by omega),Array.getElem?_eq_getElem (by omega)];intro e;have e':p.toList[i]'(by simpa using (by omega:i<p.size))=p.toList[j]'(by simpa using (by omega:j<p.size)):=by simpa using e
 exact hij ((getElem_inj nd).mp e')
theorem Row.rev{p:Array Nat}(r:Row n p)(i j:Nat):Row n (kas_rev p i j):=⟨(Array.perm_iff_toList_perm.mp (mirror_perm p i j _)).trans r.perm⟩
theorem Row.bub{p:Array Nat}(r:Row n p)(i j:Nat):Row n (bubble p i j):=⟨(Array.perm_iff_toList_perm.mp (bubble_perm p i j)).trans r.perm⟩
def Up(f:Nat→Nat→Bool)(p:Array Nat)(m:Nat):Prop:=∀i j,i<j→j<m→f (p.getD i 0) (p.getD j 0)=true
theorem vN(O:Ord f n){p:Array Nat}(r:Row n p){m:Nat}(hm:m<n)(h1:1≤m)(u:Up f p m)(h:f (p.getD m 0) (p.getD (m-1) 0)=false):Up f p (m+1):=by
 have hl:f (p.getD (m-1) 0) (p.getD m 0)=true:=by
  rcases O.tot _ _ (r.lt (i:=m) hm) (r.lt (i:=m-1) (by omega)) (r.ne hm (by omega) (by omega))with z|z
  ·rw[h]at z;cases z
  ·exact z
 intro i j hij hj
 by_cases e:j=m
 ·subst e
  by_cases e2:i=j-1
  ·rw[e2];exact hl
  ·exact O.tr _ _ _ (r.lt (by omega)) (r.lt (by omega)) (r.lt hm) (u i (j-1) (by omega) (by omega)) hl
 ·exact u i j hij (by omega)
theorem lU(O:Ord f n){p:Array Nat}(r:Row n p):∀(fuel m:Nat),1≤m→m+fuel≤n→Up f p m →
  m≤run f (kas_asc p fuel m)∧run f (kas_asc p fuel m)≤m+fuel∧Up f p (run f (kas_asc p fuel m))∧(run f (kas_asc p fuel m)<m+fuel→f (p.getD (run f (kas_asc p fuel m)) 0) (p.getD (run f (kas_asc p fuel m)-1) 0)=true)
 |0,m,_,_,u=>⟨le_refl _,le_refl _,u,λh=>absurd h (by simp[kas_asc,run])⟩
 |fuel+1,m,h1,hm,u=>by
  cases e:f (p.getD m 0) (p.getD (m-1) 0)with
  |true =>
   have er:run f (kas_asc p (fuel+1) m)=m:=by
    show run f (if f (p.getD m 0) (p.getD (m-1) 0)=true then KasT.ret m else kas_asc p fuel (m+1))=m
    rw[e,if_pos rfl];rfl
   rw[er];exact⟨le_refl _,by omega,u,λ_=>e⟩
  |false =>
   have er:run f (kas_asc p (fuel+1) m)=run f (kas_asc p fuel (m+1)):=by
    show run f (if f (p.getD m 0) (p.getD (m-1) 0)=true then KasT.ret m else kas_asc p fuel (m+1))=_
    rw[e,if_neg (by simp)]
   rw[er];obtain⟨a1,a2,a3,a4⟩:=lU O r fuel (m+1) (by omega) (by omega) (vN O r (by omega) h1 u e);exact⟨by omega,by omega,a3,λh=>a4 (by omega)⟩
def yf(f:Nat→Nat→Bool)(p:Array Nat)(m:Nat):Prop:=∀i j,i<j→j<m→f (p.getD j 0) (p.getD i 0)=true
theorem lV(O:Ord f n){p:Array Nat}(r:Row n p):∀(fuel m:Nat),1≤m→m+fuel≤n→yf f p m →
  ∃m',run f (kas_desc fuel p m 0)=(p,m',0)∧m≤m'∧m'≤m+fuel∧yf f p m'
 |0,m,_,_,u=>⟨m,rfl,le_refl _,le_refl _,u⟩
 |fuel+1,m,h1,hm,u=>by
  cases e:f (p.getD m 0) (p.getD (m-1) 0)with
  |true =>
   have er:run f (kas_desc (fuel+1) p m 0)=run f (kas_desc fuel p (m+1) 0):=by
    show run f (if f (p.getD m 0) (p.getD (m-1) 0)=true then (if 0>0 then _ else kas_desc fuel p (m+1) 0)else _)=_
    rw[e,if_pos rfl,if_neg (by omega)]
   rw[er];obtain⟨m',a1,a2,a3,a4⟩:=lV O r fuel (m+1) (by omega) (by omega) (by
    intro i j hij hj
    by_cases ej:j=m
    ·subst ej
     by_cases e2:i=j-1
     ·rw[e2];exact e
     ·exact O.tr _ _ _ (r.lt (by omega)) (r.lt (i:=j-1) (by omega)) (r.lt (by omega)) e (u i (j-1) (by omega) (by omega))
    ·exact u i j hij (by omega))
   exact⟨m',a1,by omega,by omega,a4⟩
  |false =>
   have e2:f (p.getD (m-1) 0) (p.getD m 0)=true:=by
    rcases O.tot _ _ (r.lt (i:=m) (by omega)) (r.lt (i:=m-1) (by omega)) (r.ne (by omega) (by omega) (by omega))with z|z
    ·rw[e]at z;cases z
    ·exact z
   have er:run f (kas_desc (fuel+1) p m 0)=(p,m,0):=by
    show run f (if f (p.getD m 0) (p.getD (m-1) 0)=true then _ else KasT.ask (p.getD (m-1) 0) (p.getD m 0) λd=>if d=true then .ret (p,m,0)else kas_desc fuel p (m+1) (0+1))=_
    rw[e,if_neg (by simp)];show run f (if f (p.getD (m-1) 0) (p.getD m 0)=true then KasT.ret (p,m,0)else kas_desc fuel p (m+1) (0+1))=_
    rw[e2,if_pos rfl];rfl
   exact⟨m,er,le_refl _,by omega,u⟩
theorem qA{p:Array Nat}{m:Nat}(hm:m≤p.size)(k:Nat)(hk:k<m):(kas_rev p 0 m).getD k 0=p.getD (m-1-k) 0:=by
 unfold kas_rev;rw[getD_eq_getD_getElem?,getElem?_mirror_all hm k,if_pos ⟨by omega,hk⟩,getD_eq_getD_getElem?]
 congr 2
 omega
theorem yg{p:Array Nat}{m:Nat}(hm:m≤p.size)(d:yf f p m):Up f (kas_rev p 0 m) m:=by
 intro i j hij hj;rw[qA hm i (by omega),qA hm j hj];exact d _ _ (by omega) (by omega)
theorem nL(O:Ord f n){p:Array Nat}(r:Row n p)(h2:1≤n):∃m p',run f (kas_count n p)=(m,p')∧1≤m∧m≤n∧Row n p'∧Up f p' m:=by
 obtain⟨a1,a2,a3,a4⟩:=lU O r (n-1) 1 (by omega) (by omega) (by intro i j hij hj;omega);have er:run f (kas_count n p)=run f (if (run f (kas_asc p (n-1) 1)==n)=true then KasT.ret (run f (kas_asc p (n-1) 1),p)else if run f (kas_asc p (n-1) 1)>1 then .ask (p.getD 0 0) (p.getD (run f (kas_asc p (n-1) 1)-1) 0) λc=>if c=true then .ret (run f (kas_asc p (n-1) 1),p)else kas_descPart (run f (kas_asc p (n-1) 1)) n (kas_rev p 0 (run f (kas_asc p (n-1) 1)))
  else kas_descPart (run f (kas_asc p (n-1) 1)) n p):=by
  unfold kas_count;rw[dy]
 rw[er];generalize run f (kas_asc p (n-1) 1)=m at a1 a2 a3 a4⊢
 by_cases e:m=n
 ·rw[if_pos (by simp[e])];exact⟨m,p,rfl,a1,by omega,r,a3⟩
 ·rw[if_neg (by simpa using e)]
  by_cases e1:m>1
  ·rw[if_pos e1];refine⟨m,p,?_,a1,by omega,r,a3⟩;show run f (if f (p.getD 0 0) (p.getD (m-1) 0)=true then KasT.ret (m,p)else _)=_
   rw[a3 0 (m-1) (by omega) (by omega),if_pos rfl];rfl
  ·rw[if_neg e1];have em:m=1:=by omega
   subst em;have hd:=a4 (by omega);unfold kas_descPart;obtain⟨m',b1,b2,b3,b4⟩:=lV O r (n-(1+1)) (1+1) (by omega) (by omega) (by
    intro i j hij hj;have:i=0∧j=1:=by omega
    rw[this.1,this.2];exact hd)
   rw[dy,b1];dsimp only;rw[if_neg (by omega)];unfold kas_tail3;have hs:=r.size;have ur:=yg (f:=f) (by omega:m'≤p.size) b4;obtain⟨c1,c2,c3,c4⟩:=lU O (r.rev 0 m') (n-m') m' (by omega) (by omega) ur;rw[dy];exact⟨_,_,rfl,by omega,by omega,r.rev 0 m',c3⟩
theorem gn(O:Ord f n){p:Array Nat}(r:Row n p){k:Nat}(hk:k<n)(u:Up f p k):∀(fuel l r':Nat),r'-l≤fuel→l≤r'→r'≤k →
  (∀i,i<l→f (p.getD i 0) (p.getD k 0)=true)→(∀i,r'≤i→i<k→f (p.getD k 0) (p.getD i 0)=true) →
  run f (kas_place p k fuel l r')≤k∧(∀i,i<run f (kas_place p k fuel l r')→f (p.getD i 0) (p.getD k 0)=true)∧(∀i,run f (kas_place p k fuel l r')≤i→i<k→f (p.getD k 0) (p.getD i 0)=true)
 |0,l,r',h1,h2,h3,h4,h5=>by
  have:l=r':=by omega
  subst this;exact⟨h3,h4,h5⟩
 |fuel+1,l,r',h1,h2,h3,h4,h5=>by
  unfold kas_place
  by_cases e:l≥r'
  ·rw[if_pos e];have:l=r':=by omega
   subst this;exact⟨h3,h4,h5⟩
  ·rw[if_neg e];have hmid:(l+r') / 2<k:=by omega
   cases c:f (p.getD k 0) (p.getD ((l+r') / 2) 0)with
   |true =>
    have er:run f (KasT.ask (p.getD k 0) (p.getD ((l+r') / 2) 0) λc=>if c=true then kas_place p k fuel l ((l+r') / 2)else kas_place p k fuel ((l+r') / 2+1) r')=run f (kas_place p k fuel l ((l+r') / 2)):=by
     show run f (if f (p.getD k 0) (p.getD ((l+r') / 2) 0)=true then _ else _)=_
     rw[c,if_pos rfl]
    rw[er];refine gn O r hk u fuel l _ (by omega) (by omega) (by omega) h4 (λi hi hik=>?_)
    by_cases ei:i=(l+r') / 2
    ·rw[ei];exact c
    ·exact O.tr _ _ _ (r.lt hk) (r.lt (i:=(l+r') / 2) (by omega)) (r.lt (by omega)) c (u _ _ (by omega) hik)
   |false =>
    have er:run f (KasT.ask (p.getD k 0) (p.getD ((l+r') / 2) 0) λc=>if c=true then kas_place p k fuel l ((l+r') / 2)else kas_place p k fuel ((l+r') / 2+1) r')=run f (kas_place p k fuel ((l+r') / 2+1) r'):=by
     show run f (if f (p.getD k 0) (p.getD ((l+r') / 2) 0)=true then _ else _)=_
     rw[c,if_neg (by simp)]
    rw[er];have c':f (p.getD ((l+r') / 2) 0) (p.getD k 0)=true:=by
     rcases O.tot _ _ (r.lt (i:=k) hk) (r.lt (i:=(l+r') / 2) (by omega)) (r.ne hk (by omega) (by omega))with z|z
     ·rw[c]at z;cases z
     ·exact z
    refine gn O r hk u fuel _ r' (by omega) (by omega) h3 (λi hi=>?_) h5
    by_cases ei:i=(l+r') / 2
    ·rw[ei];exact c'
    ·exact O.tr _ _ _ (r.lt (by omega)) (r.lt (i:=(l+r') / 2) (by omega)) (r.lt hk) (u i _ (by omega) (by omega)) c'
theorem iO{p:Array Nat}{k l:Nat}(hk:k<p.size)(hl:l≤k)(i:Nat):(bubble p k (k-l)).getD i 0=if i=l then p.getD k 0 else if l<i∧i≤k then p.getD (i-1) 0 else p.getD i 0:=by
 simp only[getD_eq_getD_getElem?];rw[getElem?_bubble hk (k-l) (by omega) i];have e:k-(k-l)=l:=by omega
 rw[e]
 by_cases h1:i=l
 ·rw[if_pos h1,if_pos h1]
 ·rw[if_neg h1,if_neg h1]
  by_cases h2:l<i∧i≤k
  ·rw[if_pos h2,if_pos h2]
  ·rw[if_neg h2,if_neg h2]
theorem tN(O:Ord f n):∀(fuel:Nat)(p:Array Nat)(k:Nat),Row n p→k+fuel=n→Up f p k→Row n (run f (kas_bin fuel p k))∧Up f (run f (kas_bin fuel p k)) n
 |0,p,k,r,hk,u=>by
  have:k=n:=by omega
  subst this;exact⟨r,u⟩
 |fuel+1,p,k,r,hk,u=>by
  have hkn:k<n:=by omega
  obtain⟨a1,a2,a3⟩:=gn O r hkn u k 0 k (by omega) (by omega) (le_refl _) (λi hi=>by omega) (λi h1 h2=>by omega);have er:run f (kas_bin (fuel+1) p k)=run f (kas_bin fuel (bubble p k (k-run f (kas_place p k k 0 k))) (k+1)):=by
   show run f ((kas_place p k k 0 k).bind λl=>kas_bin fuel (bubble p k (k-l)) (k+1))=_;rw[dy]
  rw[er];generalize run f (kas_place p k k 0 k)=l at a1 a2 a3⊢;have hs:=r.size;refine tN O fuel _ (k+1) (r.bub _ _) (by omega) ?_;intro i j hij hj;rw[iO (by omega) a1 i,iO (by omega) a1 j]
  by_cases ei:i=l
  ·rw[if_pos ei,if_neg (by omega),if_pos ⟨by omega,by omega⟩];exact a3 (j-1) (by omega) (by omega)
  ·rw[if_neg ei]
   by_cases ej:j=l
   ·rw[if_pos ej,if_neg (by omega)];exact a2 i (by omega)
   ·rw[if_neg ej]
    by_cases hi2:l<i∧i≤k
    ·rw[if_pos hi2,if_pos ⟨by omega,by omega⟩];exact u _ _ (by omega) (by omega)
    ·rw[if_neg hi2]
     by_cases hj2:l<j∧j≤k
     ·rw[if_pos hj2]
      by_cases e3:i=j-1
      ·omega
      ·exact u i (j-1) (by omega) (by omega)
     ·rw[if_neg hj2];exact u i j hij (by omega)
theorem jt{p:Array Nat}(r:Row n p):∀(fuel m:Nat),1≤m→m+fuel≤n→path f n (kas_asc p fuel m)
 |0,m,_,_=>trivial
 |fuel+1,m,h1,hm=>by
  refine⟨r.lt (by omega),r.lt (by omega),?_⟩;show path f n (if f (p.getD m 0) (p.getD (m-1) 0)=true then KasT.ret m else kas_asc p fuel (m+1))
  split
  ·exact trivial
  ·exact jt r fuel (m+1) (by omega) (by omega)
theorem ll(O:Ord f n){p:Array Nat}(r:Row n p):∀(fuel m:Nat),1≤m→m+fuel≤n→path f n (kas_desc fuel p m 0)
 |0,m,_,_=>trivial
 |fuel+1,m,h1,hm=>by
  refine⟨r.lt (by omega),r.lt (by omega),?_⟩;show path f n (if f (p.getD m 0) (p.getD (m-1) 0)=true then (if 0>0 then _ else kas_desc fuel p (m+1) 0)else KasT.ask (p.getD (m-1) 0) (p.getD m 0) λd=>if d=true then .ret (p,m,0)else kas_desc fuel p (m+1) (0+1))
  cases e:f (p.getD m 0) (p.getD (m-1) 0)with
  |true =>
   rw[if_pos rfl,if_neg (by omega)];exact ll O r fuel (m+1) (by omega) (by omega)
  |false =>
   rw[if_neg (by simp)];have e2:f (p.getD (m-1) 0) (p.getD m 0)=true:=by
    rcases O.tot _ _ (r.lt (i:=m) (by omega)) (r.lt (i:=m-1) (by omega)) (r.ne (by omega) (by omega) (by omega))with z|z
    ·rw[e]at z;cases z
    ·exact z
   refine⟨r.lt (by omega),r.lt (by omega),?_⟩;dsimp only;rw[e2,if_pos rfl];exact trivial
theorem pC(O:Ord f n){p:Array Nat}(r:Row n p)(h2:1≤n):path f n (kas_count n p):=by
 obtain⟨a1,a2,a3,a4⟩:=lU O r (n-1) 1 (by omega) (by omega) (by intro i j hij hj;omega);unfold kas_count;refine cT (jt r _ _ (by omega) (by omega)) ?_;generalize run f (kas_asc p (n-1) 1)=m at a1 a2 a3 a4⊢
 by_cases e:m=n
 ·rw[if_pos (by simp[e])];exact trivial
 ·rw[if_neg (by simpa using e)]
  by_cases e1:m>1
  ·rw[if_pos e1];refine⟨r.lt (by omega),r.lt (by omega),?_⟩;dsimp only;rw[a3 0 (m-1) (by omega) (by omega),if_pos rfl];exact trivial
  ·rw[if_neg e1];have em:m=1:=by omega
   subst em;have hd:=a4 (by omega);unfold kas_descPart;refine cT (ll O r _ _ (by omega) (by omega)) ?_;obtain⟨m',b1,b2,b3,b4⟩:=lV O r (n-(1+1)) (1+1) (by omega) (by omega) (by
    intro i j hij hj;have:i=0∧j=1:=by omega
    rw[this.1,this.2];exact hd)
   rw[b1];dsimp only;rw[if_neg (by omega)];unfold kas_tail3;exact cT (jt (r.rev 0 m') _ _ (by omega) (by omega)) trivial
theorem fm{p:Array Nat}(r:Row n p){k:Nat}(hk:k<n):∀(fuel l r':Nat),r'≤k→path f n (kas_place p k fuel l r')
 |0,l,r',_=>trivial
 |fuel+1,l,r',h=>by
  unfold kas_place
  by_cases e:l≥r'
  ·rw[if_pos e];exact trivial
  ·rw[if_neg e];refine⟨r.lt hk,r.lt (by omega),?_⟩;dsimp only
   split
   ·exact fm r hk fuel _ _ (by omega)
   ·exact fm r hk fuel _ _ h
theorem nM(O:Ord f n):∀(fuel:Nat)(p:Array Nat)(k:Nat),Row n p→k+fuel=n→Up f p k→path f n (kas_bin fuel p k)
 |0,p,k,r,hk,u=>trivial
 |fuel+1,p,k,r,hk,u=>by
  have hkn:k<n:=by omega
  show path f n ((kas_place p k k 0 k).bind λl=>kas_bin fuel (bubble p k (k-l)) (k+1));refine cT (fm r hkn _ _ _ (le_refl _)) ?_;obtain⟨a1,a2,a3⟩:=gn O r hkn u k 0 k (by omega) (by omega) (le_refl _) (λi hi=>by omega) (λi h1 h2=>by omega);generalize run f (kas_place p k k 0 k)=l at a1 a2 a3⊢;have hs:=r.size;refine nM O fuel _ (k+1) (r.bub _ _) (by omega) ?_;intro i j hij hj;rw[iO (by omega) a1 i,iO (by omega) a1 j]
  by_cases ei:i=l
  ·rw[if_pos ei,if_neg (by omega),if_pos ⟨by omega,by omega⟩];exact a3 (j-1) (by omega) (by omega)
  ·rw[if_neg ei]
   by_cases ej:j=l
   ·rw[if_pos ej,if_neg (by omega)];exact a2 i (by omega)
   ·rw[if_neg ej]
    by_cases hi2:l<i∧i≤k
    ·rw[if_pos hi2,if_pos ⟨by omega,by omega⟩];exact u _ _ (by omega) (by omega)
    ·rw[if_neg hi2]
     by_cases hj2:l<j∧j≤k
     ·rw[if_pos hj2]
      by_cases e3:i=j-1
      ·omega
      ·exact u i (j-1) (by omega) (by omega)
     ·rw[if_neg hj2];exact u i j hij (by omega)
theorem rJ(O:Ord f n)(h:1≤n):path f n (kas_sort n):=by
 have r0:Row n (toArray (List.range n)):=⟨by simp⟩;obtain⟨m,p',e,h1,h2,r,u⟩:=nL O r0 h;unfold kas_sort;refine cT (pC O r0 h) ?_;rw[e];dsimp only
 by_cases hm:m<n
 ·rw[if_pos hm];have:max m 1=m:=by omega
  rw[this];exact nM O (n-m) p' m r (by omega) u
 ·rw[if_neg hm];exact trivial
theorem vO(O:Ord f n)(h:1≤n):Row n (run f (kas_sort n))∧Up f (run f (kas_sort n)) n:=by
 have r0:Row n (toArray (List.range n)):=⟨by simp⟩;obtain⟨m,p',e,h1,h2,r,u⟩:=nL O r0 h;unfold kas_sort;rw[dy,e];dsimp only
 by_cases hm:m<n
 ·rw[if_pos hm];have:max m 1=m:=by omega
  rw[this];exact tN O (n-m) p' m r (by omega) u
 ·rw[if_neg hm];have:m=n:=by omega
  subst this;exact⟨r,u⟩
end
section
variable{prog:Program}{w:World}{A:Around}{E:Value→Shared→Prop}{s:Shared}
theorem vQ{vs:List Value}(h:vs.length<2):((vs.toArray.zip vs.toArray).map (·.2)).toList=(toArray ((toArray (List.range vs.length)).toList.map λi=>vs.getD i Value.none)).toList:=by
 cases vs with
 |nil=>simp
 |cons v r =>
  cases r with
  |nil=>simp
  |cons u r=>exact absurd h (by simp)
theorem gp{f:Nat→Nat→Bool}{a:Addr}{vs:List Value}{n:Nat}{κ:SortKind}{P:PySem.Fin→Shared→Prop}(O:Ord f vs.length)(ho:s.heap.get? a=some (seqObj "list" vs.toArray n))(h64:vs.length<64)(hk:∀s':Shared,(∀b o,b≠a→s.heap.get? b=some o→s'.heap.get? b=some o)→∀Q:SortKind→Shared→Prop,2≤vs.length→Q κ s'→wpAny (model prog w) A (keyKind' vs.toArray) Q (λ_ _=>False) s')(hlt:∀s':Shared,(∀b o,b≠a→s.heap.get? b=some o→s'.heap.get? b=some o)→∀(i j:Nat) (C:Bool→Shared→Prop),i<vs.length→j<vs.length→C (f i j) s'→wpAny (model prog w) A (keyLt' κ (vs.getD i Value.none) (vs.getD j Value.none)) C (λ_ _=>False) s')(h:∀p:Array Nat,Row vs.length p→Up f p vs.length→P (.done (.ret .none)) {s with heap:=sortedHeap s.heap a vs (toArray (p.toList.map λi=>vs.getD i Value.none))}):
  wpAny (model prog w) A (Builtin.«list.sort» ⟨[.ref a],[]⟩) P E s:=by
 have ha:a<s.heap.objs.size:=lt_size ho;have s1:=SameBut.update s.heap a (Obj.mapSeq λ_=>(#[]:Array Value));obtain⟨e1,ho1⟩:∃e1,(s.heap.update a (Obj.mapSeq λ_=>(#[]:Array Value))).get? a=some (seqObj "list" #[] e1):=⟨_,get?_update_seq ho λ_=>#[]⟩;rw[list_sort_plain];refine wpAny_bind (listItems_at ho rfl ?_);refine wpAny_bind (listUpdate_at ho rfl ?_ (by rw[size_toArray,sizeLine_eq];omega) (zero_le _));refine wpAny_bind (seqEpoch_at ho1 rfl ?_);refine wpAny_bind (wpAny_newTuple ?_ (by show vs.length≤_;rw[sizeLine_eq];omega));refine wpAny_bind (wpAny_newList ?_ (zero_le _));refine wpAny_holding ?_;have ho6:(((s.heap.update a (Obj.mapSeq λ_=>(#[]:Array Value))).push (seqObj "tuple" vs.toArray 0)).push (seqObj "list" #[] 0)).get? a=some (seqObj "list" #[] e1):=get?_push_of_some _ (get?_push_of_some _ ho1);have keep:∀b o,b≠a→s.heap.get? b=some o→(((s.heap.update a (Obj.mapSeq λ_=>(#[]:Array Value))).push (seqObj "tuple" vs.toArray 0)).push (seqObj "list" #[] 0)).get? b=some o:=λb o hb e =>
  get?_push_of_some _ (get?_push_of_some _ ((s1.2 b hb).trans e))
 show wpAny (model prog w) A _ P E {s with heap:=((s.heap.update a (Obj.mapSeq λ_=>(#[]:Array Value))).push (seqObj "tuple" vs.toArray 0)).push (seqObj "list" #[] 0)}
 dsimp only
 by_cases hn2:vs.toArray.size<2
 ·rw[if_pos hn2,if_pos hn2];refine wpAny_bind (wpAny_pure ?_);rw[StateT.run_pure];refine wpAny_bind (wpAny_pure ?_);dsimp only;have hn2':vs.length<2:=by simpa using hn2
  have hr:Row vs.length (toArray (List.range vs.length)):=⟨by simp⟩;have hu:Up f (toArray (List.range vs.length)) vs.length:=λi j hij hj=>by omega
  have e2:(arrOf (SortSt.mk' general' (vs.toArray.zip vs.toArray) #[] 7 none)).map (·.2)=toArray ((toArray (List.range vs.length)).toList.map λi=>vs.getD i Value.none):=by
   show(vs.toArray.zip vs.toArray).map (·.2)=_;apply toList_inj.mp;exact vQ hn2'
  refine wpAny_bind (seqEpoch_at ho6 rfl ?_);rw[e2];refine wpAny_bind (listUpdate_at ho6 rfl ?_ (zero_le _) (by rw[size_toArray,length_map,length_toList,hr.size,sizeLine_eq];omega));show wpAny _ _ (if (e1 != e1)=true then _ else _) _ _ _
  simp only[bne_self_eq_false,false_eq_true,if_false];exact wpAny_pure (h _ hr hu)
 ·have hn2':2≤vs.length:=by rw[size_toArray]at hn2;omega
  rw[if_neg hn2,if_neg hn2];refine wpAny_bind (wpAny_mono (hk {s with heap:=((s.heap.update a (Obj.mapSeq λ_=>(#[]:Array Value))).push (seqObj "tuple" vs.toArray 0)).push (seqObj "list" #[] 0)} keep (λk' s'=>k'=κ∧s'={s with heap:=((s.heap.update a (Obj.mapSeq λ_=>(#[]:Array Value))).push (seqObj "tuple" vs.toArray 0)).push (seqObj "list" #[] 0)}) hn2' ⟨rfl,rfl⟩) (λκ' s0 hes=>?_) λ_ _ x=>x.elim)
  obtain⟨ek,es⟩:=hes;subst ek es;obtain⟨hrow,hup⟩:=vO O (by omega:1≤vs.length);refine wpAny_bind (wpAny_mono (kat_run (Q:=λst' s'=>∃p:Array Nat,p.size=vs.length∧arrOf st'=p.map (kas_item (vs.toArray.zip vs.toArray))∧failedOf st'=none∧p=run f (kas_sort vs.length)∧s'={s with heap:=((s.heap.update a (Obj.mapSeq λ_=>(#[]:Array Value))).push (seqObj "tuple" vs.toArray 0)).push (seqObj "list" #[] 0)})
   rfl hn2' h64 (λp' st' s' a1 a2 a3 a4=>⟨p',a1,a2,a3,a4⟩) (qz (n:=vs.length) (λi j C hi hj hC=>hlt _ keep i j C hi hj hC) (λp s'=>p=run f (kas_sort vs.length)∧s'={s with heap:=((s.heap.update a (Obj.mapSeq λ_=>(#[]:Array Value))).push (seqObj "tuple" vs.toArray 0)).push (seqObj "list" #[] 0)}) _ (rJ O (by omega)) ⟨rfl,rfl⟩)) ?_ λ_ _ e=>e)
  rintro⟨⟨⟩,st'⟩ s' ⟨p,hp,har,hf,ep,es⟩;subst es;dsimp only;have hout:=kat_snds (ks:=vs) rfl har;refine wpAny_bind (seqEpoch_at ho6 rfl ?_);rw[hout];refine wpAny_bind (listUpdate_at ho6 rfl ?_ (zero_le _) (by rw[size_toArray,length_map,length_toList,hp,sizeLine_eq];omega));rw[hf];simp only[bne_self_eq_false,false_eq_true,if_false];rw[ep];exact wpAny_pure (h _ hrow hup)
theorem nN{l:Addr}{vs:List Value}{Q:List Value→Shared→Prop}(hl:IsTup s.heap l vs.toArray)(h:Q vs {s with heap:=(s.heap.push (seqObj "list" #[] 0)).update s.heap.objs.size (Obj.mapSeq (· ++ vs.toArray))})(hsz:vs.length≤sizeLine):
  wpAny (model prog w) A (collect (.ref l)) Q E s:=by
 obtain⟨o,ho,hc,n,hd⟩:=id hl;unfold collect;refine wpAny_bind (wpAny_runValue (codeAny_builtin entry_proto_collect' ?_));show wpAny _ _ (do again (.builtin "list.__iadd__" ⟨[←newList [],.ref l],[]⟩)) _ _ s
 refine wpAny_bind (wpAny_newList (wpAny_pure ⟨Code.quiet_builtin _ (by decide +kernel),codeAny_builtin entry_list_iadd' ?_⟩));show wpAny _ _ (Builtin.List.listExtendWith (.ref s.heap.objs.size) (.ref l) (.ref s.heap.objs.size)) _ _ {s with heap:=s.heap.push (seqObj "list" #[] 0)}
 unfold Builtin.List.listExtendWith;have ho':(s.heap.push (seqObj "list" #[] 0)).get? l=some o:=get?_push_of_some _ ho;refine wpAny_bind (wpAny_typeOf (T:="tuple") ⟨o,ho',hc⟩ ?_);have ht:(Value.type "tuple"==Value.type "tuple")=true:=by rfl
 rw[if_pos (by rw[ht];simp)];refine wpAny_bind (listItems_at ho' hd ?_);refine wpAny_bind (listItems_at (xs:=#[]) (n:=0) (get?_push_size _ rfl) rfl ?_);rw[if_neg (by simp)];refine wpAny_bind (listUpdate_at (xs:=#[]) (n:=0) (get?_push_size _ rfl) rfl ?_ (zero_le _) (by show(#[]++vs.toArray).size≤sizeLine+1;simp only[Array.size_append,size_toArray,length_nil];omega));refine wpAny_pure ?_;show wpAny (model prog w) A (do
   let o ← load s.heap.objs.size
   match o.data with
   |.seq xs _=>pure xs.toList
   | _=>unsupported "internal:collect") Q E {s with heap:=(s.heap.push (seqObj "list" #[] 0)).update s.heap.objs.size (Obj.mapSeq (· ++ vs.toArray))}
 refine wpAny_bind (wpAny_load (get?_update_seq (get?_push_size _ rfl) _) ?_);show wpAny _ _ (pure ((#[]:Array Value)++vs.toArray).toList) Q E _;rw[show((#[]:Array Value)++vs.toArray).toList=vs by simp];exact wpAny_pure h
theorem nO{l:Addr}{vs:List Value}{Q:List Value→Shared→Prop}(hl:s.heap.IsList l vs.toArray∨IsTup s.heap l vs.toArray)(h:Q vs {s with heap:=(s.heap.push (seqObj "list" #[] 0)).update s.heap.objs.size (Obj.mapSeq (· ++ vs.toArray))})(hsz:vs.length≤sizeLine):
  wpAny (model prog w) A (collect (.ref l)) Q E s:=by
 rcases hl with hl|hl
 ·exact collect_list hl h hsz
 ·exact nN hl h hsz
theorem ju{f:Nat→Nat→Bool}{l:Addr}{vs:List Value}{κ:SortKind}{Q:Value→Shared→Prop}(O:Ord f vs.length)(hl:s.heap.IsList l vs.toArray∨IsTup s.heap l vs.toArray)(h64:vs.length<64)(hk:∀(A':Around) (s':Shared),A'.units≤A.units+2→(∀b o,s.heap.get? b=some o→s'.heap.get? b=some o)→∀Q:SortKind→Shared→Prop,2≤vs.length→Q κ s'→wpAny (model prog w) A' (keyKind' vs.toArray) Q (λ_ _=>False) s')(hlt:∀(A':Around) (s':Shared),A'.units≤A.units+2→(∀b o,s.heap.get? b=some o→s'.heap.get? b=some o)→∀(i j:Nat) (C:Bool→Shared→Prop),i<vs.length→j<vs.length→C (f i j) s'→wpAny (model prog w) A' (keyLt' κ (vs.getD i Value.none) (vs.getD j Value.none)) C (λ_ _=>False) s')(h:∀(p:Array Nat) (h':Heap),Row vs.length p→Up f p vs.length→(∀b o,s.heap.get? b=some o→h'.get? b=some o)→s.heap.objs.size≤s.heap.objs.size+1→(∃k,h'.get? (s.heap.objs.size+1)=some (seqObj "list" (toArray (p.toList.map λi=>vs.getD i Value.none)) k))→Q (.ref (s.heap.objs.size+1)) {s with heap:=h'}):
  wpAny (model prog w) A (call (.builtin "sorted") [.ref l]) Q E s:=by
 refine Calls.call_function_entry kind_sorted plain_sorted entry_sorted (args_sorted1 _) ?_;unfold Builtin.«sorted»;refine wpAny_bind (m:=checkCount "sorted" 1 1 _) (wpAny_pure ?_);refine wpAny_bind (nO hl ?_ (by rw[sizeLine_eq];omega));refine wpAny_bind (wpAny_newList ?_ (by rw[sizeLine_eq];omega));have hsz:((s.heap.push (seqObj "list" #[] 0)).update s.heap.objs.size (Obj.mapSeq (· ++ vs.toArray))).objs.size=s.heap.objs.size+1:=by
  rw[Heap.size_update,size_push']
 have hoL:(((s.heap.push (seqObj "list" #[] 0)).update s.heap.objs.size (Obj.mapSeq (· ++ vs.toArray))).push (seqObj "list" vs.toArray 0)).get? (s.heap.objs.size+1)=some (seqObj "list" vs.toArray 0):=by
  rw[←hsz];exact get?_push_size _ rfl
 have keep:∀b o,s.heap.get? b=some o→(((s.heap.push (seqObj "list" #[] 0)).update s.heap.objs.size (Obj.mapSeq (· ++ vs.toArray))).push (seqObj "list" vs.toArray 0)).get? b=some o:=λb o q=>by
  have hlt:b<s.heap.objs.size:=lt_size q;rw[get?_push_ne _ _ _ (by rw[hsz];exact ne_of_lt (lt_succ_of_lt hlt)),get?_update_ne _ _ _ _ (ne_of_lt hlt),get?_push_ne _ _ _ (ne_of_lt hlt)];exact q
 have neD:∀b o,s.heap.get? b=some o→b≠s.heap.objs.size+1:=λb o q=>ne_of_lt (lt_succ_of_lt (lt_size q));show wpAny _ _ _ _ _ {s with heap:=((s.heap.push (seqObj "list" #[] 0)).update s.heap.objs.size (Obj.mapSeq (· ++ vs.toArray))).push (seqObj "list" vs.toArray 0)}
 rw[hsz];refine wpAny_bind (wpAny_holding (wpAny_call_entry slot_list_sort ⟨_,hoL,rfl⟩ entry_list_sort (gp (κ:=κ) (s:={s with heap:=((s.heap.push (seqObj "list" #[] 0)).update s.heap.objs.size (Obj.mapSeq (· ++ vs.toArray))).push (seqObj "list" vs.toArray 0)}) O hoL h64 ?_ ?_ λp hr hu=>⟨_,rfl,?_⟩) (args_list_sort _)))
 ·intro s' hs' Q' h2 hq;exact hk _ s' (by simp[Around.in1_units]) (λb o e=>hs' b o (neD b o e) (keep b o e)) Q' h2 hq
 ·intro s' hs' i j C hi hj hC;exact hlt _ s' (by simp[Around.in1_units]) (λb o e=>hs' b o (neD b o e) (keep b o e)) i j C hi hj hC
 ·refine wpAny_pure ⟨_,rfl,h p _ hr hu (λb o e=>?_) (le_succ _) ?_⟩
  ·unfold sortedHeap;rw[get?_update_ne _ _ _ _ (neD b o e)];refine get?_push_of_some _ (get?_push_of_some _ ?_);rw[get?_update_ne _ _ _ _ (neD b o e)];exact keep b o e
  ·unfold sortedHeap;obtain⟨e1,ho1⟩:∃e1,((((s.heap.push (seqObj "list" #[] 0)).update s.heap.objs.size (Obj.mapSeq (· ++ vs.toArray))).push (seqObj "list" vs.toArray 0)).update (s.heap.objs.size+1) (Obj.mapSeq λ_=>(#[]:Array Value))).get? (s.heap.objs.size+1)=some (seqObj "list" #[] e1):=⟨_,get?_update_seq hoL λ_=>#[]⟩;exact⟨_,get?_update_seq (get?_push_of_some _ (get?_push_of_some _ ho1)) _⟩
theorem rK{f:Nat→Nat→Bool}{l:Addr}{vs:List Value}{κ:SortKind}{Q:Value→Shared→Prop}(O:Ord f vs.length)(hl:s.heap.IsList l vs.toArray)(h64:vs.length<64)(hk:∀(A':Around) (s':Shared),A'.units≤A.units+2→(∀b o,s.heap.get? b=some o→s'.heap.get? b=some o)→∀Q:SortKind→Shared→Prop,2≤vs.length→Q κ s'→wpAny (model prog w) A' (keyKind' vs.toArray) Q (λ_ _=>False) s')(hlt:∀(A':Around) (s':Shared),A'.units≤A.units+2→(∀b o,s.heap.get? b=some o→s'.heap.get? b=some o)→∀(i j:Nat) (C:Bool→Shared→Prop),i<vs.length→j<vs.length→C (f i j) s'→wpAny (model prog w) A' (keyLt' κ (vs.getD i Value.none) (vs.getD j Value.none)) C (λ_ _=>False) s')(h:∀(p:Array Nat) (h':Heap),Row vs.length p→Up f p vs.length→(∀b o,s.heap.get? b=some o→h'.get? b=some o)→s.heap.objs.size≤s.heap.objs.size+1→(∃k,h'.get? (s.heap.objs.size+1)=some (seqObj "list" (toArray (p.toList.map λi=>vs.getD i Value.none)) k))→Q (.ref (s.heap.objs.size+1)) {s with heap:=h'}):
  wpAny (model prog w) A (call (.builtin "sorted") [.ref l]) Q E s:=ju O (.inl hl) h64 hk hlt h
end
end SRT
namespace L2
open PySem PySem.Spec PyProof.Rows
section
variable{X:Cx}{tg:Expr}
theorem tO{pins:List (Addr×Obj)}{σ:St}{H:Hp}{s:Shared}{a:Addr}{ks:List Key}(I:Inv X pins σ H s)(h:H a=some (.tup (ks.map kV)))(P:Program)(w:World):IsTupleKey (aw P w) s.heap ks a:=by
 obtain⟨_,its,r,o,e,c,n,d⟩:=I.hok a _ h;exact⟨o,its.toArray,n,e,c,d,by simpa using gU r⟩
theorem cU:∀{as:List Addr}{us:List Value},ar (as.map V.ref) us→us=as.map Value.ref
 |[],_,.nil=>rfl
 |b::bs,_,.cons r t=>by
  have e:_=Value.ref b:=r;rw[e,cU t];rfl
theorem ke(hu:X.A.units+1<cLine):OpR X (compareOp .NotIn) (λx y H Q=>∃a p ks,∃kss:List (Addr×List Key),x=.ref a∧H a=some (.tup (ks.map kV))∧y=.ref p∧SqL X.K H p ((kss.map (·.1)).map V.ref) ∧
  (∀z∈kss,H z.1=some (.tup (z.2.map kV)))∧Q (.bl (!(kss.any λz=>decide (z.2=ks)))) H):=by
 intro pins s σ H x y v u Q I rx ry h;obtain⟨a,p,ks,kss,rfl,ha,rfl,hq,hk,q⟩:=h;cases rx;cases ry;obtain⟨its,rv,pl,hz⟩:=I.list hq;have e:=cU rv;subst e
 let e:Value→Bool:=λv=>match v with | .ref b=>((kss.find? λz=>z.1==b).map λz=>decide (z.2=ks)).getD false | _=>false
 have he:∀z∈kss,e (.ref z.1)=decide (z.2=ks):=λz hz'=>by
  show((kss.find? λy=>y.1==z.1).map λz=>decide (z.2=ks)).getD false=_;cases ef:kss.find? λy=>y.1==z.1 with
  |none=>have:=find?_eq_none.mp ef z hz';simp at this
  |some y =>
   have h1:=find?_some ef;have h2:=List.mem_of_find?_eq_some ef;have e1:y.1=z.1:=by simpa using h1
   have e2:=hk y h2;rw[e1,hk z hz']at e2;have e3:z.2.map kV=y.2.map kV:=by injection (Option.some.inj e2)
   rw[qk e3];rfl
 refine SeqAt.notIn_listAt e pl.isList (λy hy=>?_) ⟨.bl _,H,I,rfl,?_⟩
 ·have hy':y∈(kss.map (·.1)).map Value.ref:=by simpa using hy
  obtain⟨b,hb,rfl⟩:=mem_map.mp hy';obtain⟨z,hz',rfl⟩:=mem_map.mp hb;rw[he z hz'];intro prog w E' Q' hQ;exact wpAny_eqBool_tuple (knd:=aw prog w) (by simp;exact hu) (tO I (hk z hz') prog w) (tO I ha prog w) hQ
 ·have e1:(((kss.map (·.1)).map Value.ref).toArray.any e)=kss.any λz=>decide (z.2=ks):=by
   rw[List.any_toArray,any_map,any_map];apply Bool.eq_iff_iff.mpr;rw[any_eq_true,any_eq_true];constructor
   ·rintro⟨z,hz',h1⟩;exact⟨z,hz',by rw[←he z hz'];exact h1⟩
   ·rintro⟨z,hz',h1⟩;exact⟨z,hz',by show e (.ref z.1)=true;rw[he z hz'];exact h1⟩
  rw[e1];exact q
def lW(a:Addr)(n:Nat)(h:Heap):Prop:=∃o es ep t,h.get? a=some o∧o.ExactSet∧o.data=.set es ep t∧t.fits es.size=true∧es.size=n
theorem tP(P:Program)(w:World):∀k v,(aw P w).is k v=true→v.scannable=true:=λk v h=>by
 rcases aN h with⟨i,t,_,rfl⟩|⟨x,t,_,rfl⟩<;>rfl
abbrev yh(K:PySem.W.Frag):List V→Hp→VK→Prop:=λxs H Q=>∃p,∃kss:List (Addr×List Key),xs=[.ref p]∧SqL K H p ((kss.map (·.1)).map V.ref)∧(∀z∈kss,H z.1=some (.tup (z.2.map kV)))∧kss.length≤60 ∧
  ∀n,n≤kss.length→(n=kss.length↔(kss.map (·.2)).Nodup)→∀q,H q=none→Q (.ref q) (upd H q (.ext (lW q n)))
theorem jv(hc:HdX X)(hu:X.A.units+4<cLine):bX X (.type "set") (yh X.K):=by
 intro pins s σ H xs us Q I r h;obtain⟨p,kss,rfl,hq,hk,hl,q⟩:=h;obtain⟨u,rfl,ru⟩:=cv r;cases ru;obtain⟨its,rv,pl,hz⟩:=I.list hq;have e:=cU rv;subst e;have hsz:(((kss.map (·.1)).map Value.ref).toArray).size=kss.length:=by simp
 have hget:∀i,i<kss.length→kss.getD i (0,[])∈kss:=λi hi=>by
  rw[getD_eq_getElem?_getD,getElem?_eq_getElem hi];exact getElem_mem hi
 refine TB.iG (knd:=aw X.prog X.w) (key:=λi=>(kss.getD i (0,[])).2) (ad:=λi=>(kss.getD i (0,[])).1) (hc _ _ _ _ I) hu (tP _ _) pl.isList (λi v hv=>?_) (λi hi=>?_) (by rw[hsz];exact hl) λh' tk zs hS hzl hm hkeep=>?_
 ·have hv':((kss.map (·.1)).map Value.ref)[i]?=some v:=by simpa using hv
  rw[getElem?_map,getElem?_map]at hv';rw[getD_eq_getElem?_getD];cases ei:kss[i]? with
  |none=>rw[ei]at hv';cases hv'
  |some z=>rw[ei]at hv';exact(Option.some.inj hv').symm
 ·exact tO I (hk _ (hget i (by omega))) _ _
 ·rw[hsz]at hm hzl;have hcount:zs.length=kss.length↔(kss.map (·.2)).Nodup:=by
   have:=TB.nJ (z:=zs.map (·.2.2)) (l:=kss.map (·.2)) hS.nd λk'=>by
    rw[hm k'];constructor
    ·rintro⟨j,hj,e⟩;rw[←e];exact mem_map.mpr ⟨_,hget j hj,rfl⟩
    ·intro h1;obtain⟨z,hz',e⟩:=mem_map.mp h1;obtain⟨j,hj,e2⟩:=mem_iff_getElem.mp hz';exact⟨j,hj,by rw[getD_eq_getElem?_getD,getElem?_eq_getElem hj,e2];exact e⟩
   rw[length_map,length_map]at this;exact this
  obtain⟨⟨o,es,ep,t,ho,hex,hd,hes,T,hmask,hfull,hpath⟩,_,_⟩:=hS;have hlen:es.size=zs.length:=by rw[←length_toList,hes,length_map]
  have hf:t.fits es.size=true:=TB.eS T (by rw[length_map,hlen]) (by rw[hlen];omega);refine⟨.ref s.heap.objs.size,_,I.laid (t':=tk) (o:=.ext (lW s.heap.objs.size zs.length)) (λb o e=>hkeep b o (lt_size e) e) (le_refl _) ⟨⟨o,es,ep,t,ho,hex,hd,hf,hlen⟩,⟨o,ho⟩,?_⟩,rfl,q zs.length hzl hcount _ (I.hok.fresh (le_refl _))⟩;rintro h1 h2 ⟨o,es,ep,t,a1,a2⟩ hh;exact⟨o,es,ep,t,hh o a1,a2⟩
theorem nP:bX X (.builtin "len") (λxs H Q=>∃p n,xs=[.ref p]∧H p=some (.ext (lW p n))∧n≤60∧Q (.int n) H):=by
 intro pins s σ H xs us Q I r h;obtain⟨p,n,rfl,hp,hn,q⟩:=h;obtain⟨u,rfl,ru⟩:=cv r;cases ru;obtain⟨⟨o,es,ep,t,ho,hex,hd,hf,hlen⟩,_,_⟩:=I.hok p _ hp;refine call_len_set ho hex hd hf (by rw[hlen];omega) ⟨.int n,H,I.tok _,?_,q⟩;rw[hlen];exact⟨_,rfl⟩
def vR:V→List V→Hp→VK→Prop:=λx vs H Q=>∃d kvs k y,x=.ref d∧vs=[kV k,y]∧H d=some (.dK kvs)∧kvs.length<sizeLine∧(∀v,bc kvs k=some v→Q v H)∧(bc kvs k=none→Q y (upd H d (.dK (bY kvs k y))))
theorem kg:MtM X "dict.setdefault" vR:=by
 intro pins s σ H x vs v us Q I rx rv h;obtain⟨d,kvs,k,y,rfl,rfl,hd,hz,q1,q2⟩:=h;cases rx;obtain⟨u,u',rfl,ru,ru'⟩:=rv.two;obtain⟨z,hs,ws,rel,dd⟩:=ql I.hok hd;have hzw:ws.length≤sizeLine:=by rw[←rel.length];exact z
 refine call_meetsIn F.slot_dict_setdefault dd.typeIs F.entry_dict_setdefault (F.args_dict_setdefault_3 _ _ _) (kt_meets_setdefault (aw X.prog X.w) d (eZ ru) hs u') ⟨ws,dd,hzw,λw' hw=>?_,λhw h' dd' sb=>?_⟩
 ·have:=rel.val k;rw[hw]at this;cases e:bc kvs k with
  |none=>rw[e]at this;cases this
  |some v =>
   rw[e]at this;exact⟨v,H,I.tok _,this,q1 v e⟩
 ·have:=rel.val k;rw[hw]at this;cases e:bc kvs k with
  |some v=>rw[e]at this;cases this
  |none =>
   have he:∃q,h'.get? d=some q:=let⟨q,_,_,hq,_⟩:=dd';⟨q,hq⟩;have hl:(bY kvs k y).length≤sizeLine:=by have:=di kvs k y;omega
   exact⟨y,_,iM I (by rw[hd];exact True.intro) sb he (lP hl hs (rel.put k ru') dd'),ru',q2 e⟩
theorem rL:bX X (.type "range") (λxs H Q=>∃i j,xs=[.int i,.int j]∧∀p,H p=none→Q (.ref p) (upd H p (.rng i j))):=by
 intro pins s σ H xs us Q I r h;obtain⟨i,j,rfl,q⟩:=h;obtain⟨u,u',rfl,⟨t,rfl⟩,⟨t',rfl⟩⟩:=xn r;refine call_range_2 ⟨.ref s.heap.objs.size,_,I.laid (t':=s.toks+1) (o:=.rng i j) (λb ob q=>get?_push_of_some _ q) (le_refl _) ?_,rfl,q _ (I.hok.fresh (le_refl _))⟩;exact⟨t,t',_,get?_push_size _ rfl⟩
theorem pD{lo:Int}{n:Nat}{acc:Array Value}(h:ItemsOf (λi v=>∃t,v=.int (lo+i*1) t) acc n):ar ((List.range n).map λk=>V.int (lo+(k:Nat))) acc.toList:=by
 obtain⟨h1,h2⟩:=h;have key:∀(l:List Value)(k:Nat),(∀(i:Nat)(v:Value),l[i]?=some v→∃t,v=Value.int (lo+(k+i:Nat)) t)→ar ((range' k l.length).map λk=>V.int (lo+(k:Nat))) l:=by
  intro l
  induction l with
  |nil=>intro k _;exact .nil
  |cons v l ih =>
   intro k hv;rw[length_cons,List.range'_succ,map_cons];refine .cons ?_ (ih (k+1) λi w hw=>?_)
   ·obtain⟨t,e⟩:=hv 0 v rfl;exact⟨t,e⟩
   ·obtain⟨t,e⟩:=hv (i+1) w hw;exact⟨t,by rw[e,show k+(i+1)=k+1+i by omega]⟩
 have hl:acc.toList.length=n:=by simpa using h1
 have:=key acc.toList 0 λi v hv=>by
  have hv':acc[i]?=some v:=by simpa using hv
  obtain⟨t,e⟩:=h2 i v hv';exact⟨t,by rw[e,mul_one,zero_add]⟩
 rw[hl]at this;rw[List.range_eq_range'];exact this
theorem kh(hc:X.calm=true):bX X (.type "list") (λxs H Q=>∃p i j,xs=[.ref p]∧H p=some (.rng i j)∧(-(2 ^ 62)≤i∧i<2 ^ 62∧-(2 ^ 62)≤j∧j<2 ^ 62)∧(j-i).toNat≤1000 ∧
  ∀l,H l=none→Q (.ref l) (upd H l (.lst ((List.range (j-i).toNat).map λk=>V.int (i+(k:Nat)))))):=by
 intro pins s σ H xs us Q I r h;obtain⟨p,i,j,rfl,hp,⟨b1,b2,b3,b4⟩,hn,q⟩:=h;obtain⟨u,rfl,rx⟩:=cv r;cases rx;obtain⟨t,t',t'',e⟩:=(show bA X.prog X.w H s.heap p (.rng i j)from I.hok p _ hp);have hsz:Builtin.Range.rangeSize i j 1=((j-i).toNat:Nat):=by rw[rangeSize_one];split<;>omega
 refine call_list_range (n:=(j-i).toNat) (I.ok.hd hc) e (small_one b1 b2 b3 b4) hsz (by omega) λh' tk acc c' kp hg hi=>?_;refine⟨.ref s.heap.objs.size,_,I.laid (t':=tk) kp (le_refl _) (show bA X.prog X.w _ h' _ (.lst _)from⟨?_,acc.toList,c',pD hi,by simpa using hg⟩),rfl,q _ (I.hok.fresh (le_refl _))⟩
 rw[length_map,length_range,sizeLine_eq];omega
theorem jw:OpR X (binaryOp .Add) (λx y H Q=>∃a b ys,x=.ref a∧y=.ref b∧SqT X.K H a []∧SqT X.K H b ys∧Q (.ref b) H):=by
 intro pins s σ H x y v u Q I rx ry h;obtain⟨a,b,ys,rfl,rfl,ha,hb,q⟩:=h;cases rx;cases ry;obtain⟨its,r1,ht,_⟩:=I.tuple ha;obtain⟨its2,r2,hb',_⟩:=I.tuple hb;cases r1;obtain⟨⟨cls,dd,data,sl⟩,ho,hc,n,hd⟩:=id ht;obtain⟨⟨cls2,dd2,data2,sl2⟩,ho2,hc2,n2,hd2⟩:=id hb';simp only at hc hd hc2 hd2;subst hc hd hc2 hd2;exact concat_meets ⟨_,ho,rfl⟩ ⟨_,ho2,rfl⟩ noFill_tuple_add seq_tuple_add slot_tuple_add entry_tuple_add (args_tuple_add_2 _ _)
  (tuple_addW0 a b _ its2.toArray n n2 dd dd2 sl sl2 (by rfl)) ⟨ho,ho2,⟨.ref b,H,I,rfl,q⟩⟩
theorem pE(hu:X.A.units<cLine):OpR X (compareOp .Eq) (λx y H Q=>∃a b xs,x=.ref a∧y=.ref b∧SqT X.K H a xs∧SqT X.K H b []∧Q (.bl (decide (xs=[]))) H):=by
 intro pins s σ H x y v u Q I rx ry h;obtain⟨a,b,xs,rfl,rfl,ha,hb,q⟩:=h;cases rx;cases ry;obtain⟨its,r1,ht,_⟩:=I.tuple ha;obtain⟨its2,r2,hb',_⟩:=I.tuple hb;cases r2;refine eq_tupleAt (e:=λ_=>true) ht hb' hu (λj h1 h2=>absurd h2 (by simp)) ⟨.bl _,H,I,?_,q⟩;show _=Value.bool _
 congr 1
 have:=r1.nil_iff
 by_cases e:xs=[]
 ·have e2:=this.mpr e;subst e2;simp[e]
 ·have e2:its≠[]:=λz=>e (this.mp z);have e3:its.length≠0:=λz=>e2 (length_eq_zero_iff.mp z);simp[e,e3]
theorem fo(hu:X.A.units<cLine):OpR X (compareOp .Eq) (λx y H Q=>∃a b xs,x=.ref a∧y=.ref b∧SqL X.K H a xs∧SqL X.K H b []∧Q (.bl (decide (xs=[]))) H):=by
 intro pins s σ H x y v u Q I rx ry h;obtain⟨a,b,xs,rfl,rfl,ha,hb,q⟩:=h;cases rx;cases ry;obtain⟨its,r1,ht,_⟩:=I.list ha;obtain⟨its2,r2,hb',_⟩:=I.list hb;cases r2
 by_cases e:xs=[]
 ·subst e;cases r1;refine eq_listAt (e:=λ_=>true) ht.isList hb'.isList rfl hu (λj h1 h2=>absurd h2 (by simp)) ⟨.bl _,H,I,?_,q⟩;rfl
 ·have e2:its≠[]:=λz=>e (r1.nil_iff.mp z);have e3:its.length≠0:=λz=>e2 (length_eq_zero_iff.mp z);refine SeqAt.eq_list_lengthsAt ht.isList hb'.isList (by simp[e3]) hu ⟨.bl _,H,I,?_,q⟩;show _=Value.bool _;simp[e]
end
end L2
namespace ZT
open PySem PySem.SeqAt
section
variable{prog:Program}{w:World}{A:Around}{E:Value→Shared→Prop}{s:Shared}
theorem fq{it t:Addr}{i:Nat}{items:Array Value}{x:Value}{Q:Value→Shared→Prop}(hi:s.heap.IsTupleIter it t i)(ht:s.heap.IsTuple t items)(hx:items[i]?=some x)(q:∀g,g.IsTupleIter it t (i+1)→SameBut it s.heap g→Q x {s with heap:=g}):wpAny (model prog w) A (Builtin.SmallTypes.nextOf (.ref it)) Q E s:=by
 obtain⟨oi,e1,e2,e3⟩:=id hi;obtain⟨ot,e4,_,k,e5⟩:=ht;unfold Builtin.SmallTypes.nextOf;refine wpAny_bind (wpAny_callSpecial?_slot (name:=ofString "__next__") hi.typeIs F.slot_tuple_iterator_next (wpAny_call_entry F.slot_tuple_iterator_next hi.typeIs F.entry_tuple_iterator_next ?body (F.args_tuple_iterator_next_1 _)))
 case body =>
  refine wpAny_bind (m:=field (.ref it) 0) (wpAny_field e1 e3 (x:=.ref t) rfl ?_);rw[if_neg (show ¬((Value.ref t==Value.none)=true)by simp)];refine wpAny_bind (m:=field (.ref it) 1) (wpAny_field e1 e3 (x:=.int i 0) rfl ?_);refine wpAny_bind (m:=seqItems? (.ref t)) (wpAny_seqItems e4 e5 ?_);simp only[toNat_natCast,hx];have up:(Obj.mapFields (·.setIfInBounds 1 (rawInt ((i:Int)+1))) oi).data=.fields #[.ref t,.int ((i+1:Nat):Int) 0]:=by rw[Obj.data_mapFields e3];simp[rawInt]
  exact wpAny_bind (wpAny_setField e1 e3 (by simp) (wpAny_pure ⟨x,rfl,wpAny_pure (q _ ⟨_,get?_update_self _ e1 (Obj.isFreed_of_fields (Obj.data_mapFields e3 _)),(Obj.cls_mapFields ..).trans e2,up⟩ (SameBut.update ..))⟩))
theorem lm{it t:Addr}{i:Nat}{items:Array Value}{Q:Value→Shared→Prop}(hh:A.handled=none)(hi:s.heap.IsTupleIter it t i)(ht:s.heap.IsTuple t items)(hx:items[i]?=none)(q:∀g e,ExtBut it s.heap g→(∃o,g.get? e=some o∧o.cls=.type "StopIteration")→E (.ref e) {s with heap:=g}):wpAny (model prog w) A (Builtin.SmallTypes.nextOf (.ref it)) Q E s:=by
 obtain⟨oi,e1,e2,e3⟩:=id hi;obtain⟨ot,e4,_,k,e5⟩:=ht;unfold Builtin.SmallTypes.nextOf;refine wpAny_bind (wpAny_callSpecial?_slot (name:=ofString "__next__") hi.typeIs F.slot_tuple_iterator_next (wpAny_call_entry F.slot_tuple_iterator_next hi.typeIs F.entry_tuple_iterator_next ?body (F.args_tuple_iterator_next_1 _)))
 case body =>
  refine wpAny_bind (m:=field (.ref it) 0) (wpAny_field e1 e3 (x:=.ref t) rfl ?_);rw[if_neg (show ¬((Value.ref t==Value.none)=true)by simp)];refine wpAny_bind (m:=field (.ref it) 1) (wpAny_field e1 e3 (x:=.int i 0) rfl ?_);refine wpAny_bind (m:=seqItems? (.ref t)) (wpAny_seqItems e4 e5 ?_);simp only[toNat_natCast,hx];refine wpAny_bind (wpAny_rule (wpAny_bind (wpAny_setField e1 e3 (by simp) ?_)));refine wpAny_bind (m:=newExc (.type "StopIteration") []) ?_;unfold newExc newTuple;refine wpAny_bind (wpAny_newObj_type (hd:=by size_fits) ?_);refine wpAny_bind (m:=firstArgMember _ _) (wpAny_of_eq (a:=Value.none) (by first|rfl|(unfold firstArgMember;rfl)) (wpAny_newObj_type (hd:=by size_fits) ?_))
  unfold raiseNew;refine wpAny_bind (wpAny_handled ?_)
  first|rw[show A.in1.handled=none from hh]|rw[hh]
  exact wpAny_bind (wpAny_pure (wpAny_throw (q _ _ (((SameBut.update ..).extBut.push _).push _) ⟨_,get?_push_size _ rfl,rfl⟩)))
structure Rec(h:Heap)(z a b i1 i2 t1 t2:Addr)(out:Value)(k:Nat):Prop where
 zz:IsZip h z a b out
 ti:IsPair h a (.ref i1) (.ref i2)
 to:∃u v,IsPair h b u v
 n1:h.IsTupleIter i1 t1 k
 n2:h.IsTupleIter i2 t2 k
structure Apart(z a b i1 i2 t1 t2:Nat):Prop where
 az:a≠z
 bz:b≠z
 z1:i1≠z
 z2:i2≠z
 ab:a≠b
 a1:a≠i1
 a2:a≠i2
 b1:b≠i1
 b2:b≠i2
 d12:i1≠i2
 tz:t1≠z∧t2≠z
 tb:t1≠b∧t2≠b
 t1n:t1≠i1∧t2≠i1
 t2n:t1≠i2∧t2≠i2
theorem tQ(n t1 t2:Nat)(h1:t1<n)(h2:t2<n):Apart (n+4) (n+2) (n+3) n (n+1) t1 t2 :=
 ⟨by omega,by omega,by omega,by omega,by omega,by omega,by omega,by omega,by omega,by omega,⟨by omega,by omega⟩,⟨by omega,by omega⟩,⟨by omega,by omega⟩,⟨by omega,by omega⟩⟩
theorem rM{z a b i1 i2 t1 t2:Addr}{k:Nat}{xs ys:Array Value}{x y:Value}{Q:Value→Shared→Prop}(D:Apart z a b i1 i2 t1 t2)(R:Rec s.heap z a b i1 i2 t1 t2 .none k)(h1:s.heap.IsTuple t1 xs)(h2:s.heap.IsTuple t2 ys)(hx:xs[k]?=some x)(hy:ys[k]?=some y)(q:∀g,Rec g z a b i1 i2 t1 t2 (rawInt s.heap.objs.size) (k+1)→IsPair g s.heap.objs.size x y→(∀c o,c≠z→c≠b→c≠i1→c≠i2→s.heap.get? c=some o→g.get? c=some o)→Q (.ref s.heap.objs.size) {s with heap:=g}):
  wpAny (model prog w) A (Builtin.«zip.__next__» ⟨[.ref z],[]⟩) (λfin s'=>∃v,fin=.done (.ret v)∧Q v s') E s:=by
 obtain⟨hz,hti,⟨u,v,hto⟩,n1,n2⟩:=R;refine wpAny_bind (m:=field (.ref z) 2) (wpAny_field hz rfl (x:=.bool false) rfl ?_);refine wpAny_bind (m:=field (.ref z) 3) (wpAny_field hz rfl (x:=.ref a) rfl ?_);refine wpAny_bind (m:=seqItems? (.ref a)) (wpAny_seqItems hti rfl ?_);refine wpAny_bind (m:=Builtin.SmallTypes.ownedTupleIsFree (.ref z)) ?_;unfold Builtin.SmallTypes.ownedTupleIsFree;refine wpAny_bind (wpAny_field hz rfl (x:=.none) rfl (wpAny_pure ?_));simp only[if_true];refine wpAny_bind (wpAny_rule (wpAny_bind (wpAny_field hz rfl (x:=.ref b) rfl (wpAny_bind (wpAny_setField_rec hz (by simp) λg1 z1 s1=>?_)))));have z1':IsZip g1 z a b .ellipsis:=z1;refine wpAny_bind ?_;simp only[List.zipIdx_cons,List.zipIdx_nil,forIn_cons,forIn_nil];refine wpAny_bind (wpAny_bind (wpAny_onRaise (wpAny_bind (m:=Builtin.SmallTypes.nextOf (.ref i1)) (fq (n1.extBut s1.extBut D.z1) (h1.extBut s1.extBut D.tz.1) hx λg2 m1 s2=>wpAny_pure ?_))));have to2:IsPair g2 b u v:=s2.extBut _ _ D.b1 (s1.extBut _ _ D.bz hto);refine wpAny_bind (wpAny_seqItems to2 rfl (wpAny_bind (wpAny_updateSeq_pair to2 λg3 to3 s3=>wpAny_bind (wpAny_letGo (wpAny_pure ?_)))));have to3':IsPair g3 b x v:=to3;refine wpAny_bind (wpAny_bind (wpAny_onRaise (wpAny_bind (m:=Builtin.SmallTypes.nextOf (.ref i2)) (fq (((n2.extBut s1.extBut D.z2).extBut s2.extBut D.d12.symm).extBut s3.extBut D.b2.symm)
  (((h2.extBut s1.extBut D.tz.2).extBut s2.extBut D.t1n.2).extBut s3.extBut D.tb.2) hy λg4 m2 s4=>wpAny_pure ?_))))
 have to4:IsPair g4 b x v:=s4.extBut _ _ D.b2 to3';refine wpAny_bind (wpAny_seqItems to4 rfl (wpAny_bind (wpAny_updateSeq_pair to4 λg5 to5 s5=>wpAny_bind (wpAny_letGo (wpAny_pure (wpAny_pure ?_))))));have to5':IsPair g5 b x y:=to5;refine wpAny_bind (wpAny_seqItems to5' rfl (wpAny_bind (wpAny_newTuple ?_)));have size5:g5.objs.size=s.heap.objs.size:=by rw[s5.1,s4.1,s3.1,s2.1,s1.1]
 have keep5:∀c o,c≠z→c≠b→c≠i1→c≠i2→s.heap.get? c=some o→g5.get? c=some o:=λc o c1 c2 c3 c4 e=>s5.extBut _ _ c2 (s4.extBut _ _ c4 (s3.extBut _ _ c2 (s2.extBut _ _ c3 (s1.extBut _ _ c1 e))));have z5:IsZip g5 z a b .ellipsis:=s5.extBut _ _ D.bz.symm (s4.extBut _ _ D.z2.symm (s3.extBut _ _ D.bz.symm (s2.extBut _ _ D.z1.symm z1')));have m15:g5.IsTupleIter i1 t1 (k+1):=((m1.extBut s3.extBut D.b1.symm).extBut s4.extBut D.d12).extBut s5.extBut D.b1.symm;have m25:g5.IsTupleIter i2 t2 (k+1):=m2.extBut s5.extBut D.b2.symm;have ti5:IsPair g5 a (.ref i1) (.ref i2):=keep5 _ _ D.az D.ab D.a1 D.a2 hti;refine wpAny_bind (m:=Builtin.SmallTypes.ownedTupleHandOut (.ref z) (.ref g5.objs.size)) ?_;unfold Builtin.SmallTypes.ownedTupleHandOut;have z6:IsZip (g5.push {cls:=.type "tuple",data:=.seq #[x,y]}) z a b .ellipsis:=get?_push_of_some _ z5;refine wpAny_bind (wpAny_setField_rec z6 (by simp) λg7 z7 s7=>?_);have z7':IsZip g7 z a b (rawInt g5.objs.size):=z7;refine wpAny_setField_rec z7' (by simp) λg8 z8 s8=>?_;have z8':IsZip g8 z a b (rawInt g5.objs.size):=z8;have up:∀c o,c≠z→g5.get? c=some o→g8.get? c=some o:=λc o c1 e=>s8.extBut _ _ c1 (s7.extBut _ _ c1 (get?_push_of_some _ e));have nz:g5.objs.size≠z:=ne_of_gt (lt_size z5);have new8:IsPair g8 g5.objs.size x y:=s8.extBut _ _ nz (s7.extBut _ _ nz (get?_push_size _ rfl));rw[size5]at z8' new8;refine wpAny_pure ⟨_,rfl,?_⟩;show Q (.ref g5.objs.size) _;rw[size5];exact q g8 ⟨z8',up _ _ D.az ti5,⟨_,_,up _ _ D.bz to5'⟩,(let⟨o,e,r⟩:=m15;⟨o,up _ o D.z1 e,r⟩),(let⟨o,e,r⟩:=m25;⟨o,up _ o D.z2 e,r⟩)⟩ new8 λc o c1 c2 c3 c4 e=>up c o c1 (keep5 c o c1 c2 c3 c4 e)
theorem tR{z a b i1 i2 t1 t2:Addr}{k:Nat}{xs ys:Array Value}{Q:PySem.Fin→Shared→Prop}(hh:A.handled=none)(D:Apart z a b i1 i2 t1 t2)(R:Rec s.heap z a b i1 i2 t1 t2 .none k)(h1:s.heap.IsTuple t1 xs)(h2:s.heap.IsTuple t2 ys)(hend:xs[k]?=none∨ys[k]?=none)(q:∀g e,(∀c o,c≠z→c≠b→c≠i1→c≠i2→s.heap.get? c=some o→g.get? c=some o)→(∃o,g.get? e=some o∧o.cls=.type "StopIteration")→E (.ref e) {s with heap:=g}):
  wpAny (model prog w) A (Builtin.«zip.__next__» ⟨[.ref z],[]⟩) Q E s:=by
 obtain⟨hz,hti,⟨u,v,hto⟩,n1,n2⟩:=R;refine wpAny_bind (m:=field (.ref z) 2) (wpAny_field hz rfl (x:=.bool false) rfl ?_);refine wpAny_bind (m:=field (.ref z) 3) (wpAny_field hz rfl (x:=.ref a) rfl ?_);refine wpAny_bind (m:=seqItems? (.ref a)) (wpAny_seqItems hti rfl ?_);refine wpAny_bind (m:=Builtin.SmallTypes.ownedTupleIsFree (.ref z)) ?_;unfold Builtin.SmallTypes.ownedTupleIsFree;refine wpAny_bind (wpAny_field hz rfl (x:=.none) rfl (wpAny_pure ?_));simp only[if_true];refine wpAny_bind (wpAny_rule (wpAny_bind (wpAny_field hz rfl (x:=.ref b) rfl (wpAny_bind (wpAny_setField_rec hz (by simp) λg1 z1 s1=>?_)))));have z1':IsZip g1 z a b .ellipsis:=z1;refine wpAny_bind ?_;simp only[List.zipIdx_cons,List.zipIdx_nil,forIn_cons,forIn_nil];refine wpAny_bind (wpAny_bind (wpAny_onRaise ?_));refine wpAny_bind (m:=Builtin.SmallTypes.nextOf (.ref i1)) ?_;cases hx:xs[k]? with
 |none =>
  refine lm hh (n1.extBut s1.extBut D.z1) (h1.extBut s1.extBut D.tz.1) hx λg2 e s2 he=>?_;obtain⟨oe,e1,e2⟩:=he;have z2':IsZip g2 z a b .ellipsis:=s2 _ _ D.z1.symm z1';have ne:e≠z:=λc=>by rw[c,z2']at e1;cases e1;simp at e2
  exact wpAny_setField_rec z2' (by simp) λg3 _ s3=>q g3 e (λc o c1 _ c3 _ h=>s3.extBut _ _ c1 (s2 _ _ c3 (s1.extBut _ _ c1 h))) ⟨oe,s3.extBut _ _ ne e1,e2⟩
 |some x =>
  have hy:ys[k]?=none:=hend.resolve_left (by rw[hx];simp);refine fq (n1.extBut s1.extBut D.z1) (h1.extBut s1.extBut D.tz.1) hx λg2 m1 s2=>wpAny_pure ?_;have to2:IsPair g2 b u v:=s2.extBut _ _ D.b1 (s1.extBut _ _ D.bz hto);refine wpAny_bind (wpAny_seqItems to2 rfl (wpAny_bind (wpAny_updateSeq_pair to2 λg3 to3 s3=>wpAny_bind (wpAny_letGo (wpAny_pure ?_)))));refine wpAny_bind (wpAny_bind (wpAny_onRaise (wpAny_bind (m:=Builtin.SmallTypes.nextOf (.ref i2)) (lm hh (((n2.extBut s1.extBut D.z2).extBut s2.extBut D.d12.symm).extBut s3.extBut D.b2.symm)
   (((h2.extBut s1.extBut D.tz.2).extBut s2.extBut D.t1n.2).extBut s3.extBut D.tb.2) hy λg4 e s4 he=>?_))))
  obtain⟨oe,e1,e2⟩:=he;have z4':IsZip g4 z a b .ellipsis:=s4 _ _ D.z2.symm (s3.extBut _ _ D.bz.symm (s2.extBut _ _ D.z1.symm z1'));have ne:e≠z:=λc=>by rw[c,z4']at e1;cases e1;simp at e2
  exact wpAny_setField_rec z4' (by simp) λg5 _ s5=>q g5 e (λc o c1 c2 c3 c4 h=>s5.extBut _ _ c1 (s4 _ _ c4 (s3.extBut _ _ c2 (s2.extBut _ _ c3 (s1.extBut _ _ c1 h))))) ⟨oe,s5.extBut _ _ ne e1,e2⟩
theorem pF{z a b i1 i2 t1 t2:Addr}{k:Nat}{xs ys:Array Value}{x y:Value}{Q:Option Value→Shared→Prop}(D:Apart z a b i1 i2 t1 t2)(R:Rec s.heap z a b i1 i2 t1 t2 .none k)(h1:s.heap.IsTuple t1 xs)(h2:s.heap.IsTuple t2 ys)(hx:xs[k]?=some x)(hy:ys[k]?=some y)(q:∀g,Rec g z a b i1 i2 t1 t2 (rawInt s.heap.objs.size) (k+1)→IsPair g s.heap.objs.size x y→(∀c o,c≠z→c≠b→c≠i1→c≠i2→s.heap.get? c=some o→g.get? c=some o)→Q (some (.ref s.heap.objs.size)) {s with heap:=g}):
  wpAny (model prog w) A (pyNext (.ref z)) Q E s:=by
 have hT:s.TypeIs (.ref z) "zip":=⟨_,R.zz,rfl⟩;unfold pyNext;exact wpAny_bind (wpAny_attempt (wpAny_callSpecial?_slot (name:=ofString "__next__") hT F.slot_zip_next (wpAny_call_entry F.slot_zip_next hT F.entry_zip_next (rM D R h1 h2 hx hy λg r n k=>wpAny_pure (q g r n k)) (F.args_zip_next_1 _))))
theorem rN{z a b i1 i2 t1 t2:Addr}{k:Nat}{xs ys:Array Value}{Q:Option Value→Shared→Prop}(hh:A.handled=none)(D:Apart z a b i1 i2 t1 t2)(R:Rec s.heap z a b i1 i2 t1 t2 .none k)(h1:s.heap.IsTuple t1 xs)(h2:s.heap.IsTuple t2 ys)(hend:xs[k]?=none∨ys[k]?=none)(q:∀g,(∀c o,c≠z→c≠b→c≠i1→c≠i2→s.heap.get? c=some o→g.get? c=some o)→Q none {s with heap:=g}):wpAny (model prog w) A (pyNext (.ref z)) Q E s:=by
 have hT:s.TypeIs (.ref z) "zip":=⟨_,R.zz,rfl⟩;unfold pyNext;refine wpAny_bind (wpAny_attempt (wpAny_callSpecial?_slot (name:=ofString "__next__") hT F.slot_zip_next (wpAny_call_entry F.slot_zip_next hT F.entry_zip_next (tR hh D R h1 h2 hend λg e k he=>?_) (F.args_zip_next_1 _))));obtain⟨o,e1,e2⟩:=he;exact wpAny_bind (wpAny_isInstance (T:="StopIteration") (b:=true) ⟨o,e1,e2⟩ isSubtype_stop (wpAny_pure (q g k)))
def made(h:Heap)(t1 t2:Addr):Heap :=
 ((((h.push {cls:=.type "tuple_iterator",data:=.fields #[.ref t1,.int 0 0]}).push {cls:=.type "tuple_iterator",data:=.fields #[.ref t2,.int 0 0]}).push {cls:=.type "tuple",data:=.seq #[.ref h.objs.size,.ref (h.objs.size+1)]}).push
  {cls:=.type "tuple",data:=.seq #[.none,.none]}).push {cls:=.type "zip",data:=.fields #[.none,.bool false,.bool false,.ref (h.objs.size+2),.ref (h.objs.size+3)]}
theorem vS(t1 t2:Addr)(xs ys:Array Value):Meets (Builtin.«zip.__new__» ⟨[.type "zip",.ref t1,.ref t2],[]⟩) (λ_ R s=>s.heap.IsTuple t1 xs∧s.heap.IsTuple t2 ys∧R (.ok (.ret (.ref (s.heap.objs.size+4)))) {s with heap:=made s.heap t1 t2}) :=
 .of_wp λprog w A R s h=>by
  obtain⟨hp,g,d,tk,os⟩:=s;obtain⟨k1,k2,h⟩:=h;have hsub:=sub_zip;have u1:IsTuple (Shared.heap ⟨hp,g,d,tk,os⟩) t1 xs:=k1;have u2:IsTuple (Shared.heap ⟨hp.push {cls:=.type "tuple_iterator",data:=.fields #[.ref t1,.int 0 0]},g,d,tk,os⟩) t2 ys:=IsTuple.push k2 _
  wp_walk using wpAny_pyIter_tuple u1,wpAny_pyIter_tuple u2
  refine⟨_,rfl,?_⟩;unfold made at h;simp only[size_push];exact h
theorem tS{t1 t2:Addr}{xs ys:Array Value}{Q:Value→Shared→Prop}(h1:s.heap.IsTuple t1 xs)(h2:s.heap.IsTuple t2 ys)(q:Q (.ref (s.heap.objs.size+4)) {s with heap:=made s.heap t1 t2}):wpAny (model prog w) A (call (.type "zip") [.ref t1,.ref t2]) Q E s:=by
 refine callType_new F.called_zip (by decide) (F.typeCall_zip_2 _ _) (F.newCall_zip_2 _ _) (λobj=>F.args_object_init_3 obj _ _) F.entry_zip_new (vS t1 t2 xs ys) ⟨h1,h2,?_⟩;have e:(made s.heap t1 t2).get? (s.heap.objs.size+4)=some {cls:=.type "zip",data:=.fields #[.none,.bool false,.bool false,.ref (s.heap.objs.size+2),.ref (s.heap.objs.size+3)]}:=by
  unfold made;have:=get?_push_size ((((s.heap.push {cls:=.type "tuple_iterator",data:=.fields #[.ref t1,.int 0 0]}).push {cls:=.type "tuple_iterator",data:=.fields #[.ref t2,.int 0 0]}).push {cls:=.type "tuple",data:=.seq #[.ref s.heap.objs.size,.ref (s.heap.objs.size+1)]}).push {cls:=.type "tuple",data:=.seq #[.none,.none]})
   (o:={cls:=.type "zip",data:=.fields #[.none,.bool false,.bool false,.ref (s.heap.objs.size+2),.ref (s.heap.objs.size+3)]}) rfl
  simpa only [size_push]using this
 exact⟨⟨_,e,rfl⟩,q⟩
end
end ZT
namespace L2
open PySem PySem.Spec PyProof.Rows
section
variable{X:Cx}{tg:Expr}
def Itz(K:PySem.W.Frag)(t1 t2:Addr):It :=
 ⟨λi H=>∃xs ys x y,SqT K H t1 xs∧SqT K H t2 ys∧xs[i]?=some x∧ys[i]?=some y,λi H v H'=>∃p x y,H p=none∧v=.ref p∧(∀xs,SqT K H t1 xs→xs[i]?=some x)∧(∀ys,SqT K H t2 ys→ys[i]?=some y)∧H'=upd H p (.tup [x,y]),
  λi H=>∃xs ys,SqT K H t1 xs∧SqT K H t2 ys∧(xs.length≤i∨ys.length≤i)⟩
theorem tT{P:Program}{w:World}{K:PySem.W.Frag}{es:List Expr}{k:Nat}{p0:Pos}(z a b i1 i2 t1 t2:Addr)(D:ZT.Apart z a b i1 i2 t1 t2):
  Turn P w K (.Tuple es k p0) (Itz K t1 t2) [z,a,b,i1,i2] z (λi h=>ZT.Rec h z a b i1 i2 t1 t2 .none i) where
 mem:=by simp
 obj:=λi h R c hc=>by
  obtain⟨z1,z2,⟨u,v,z3⟩,⟨o4,z4,_,z4'⟩,⟨o5,z5,_,z5'⟩⟩:=R;simp only[mem_cons,not_mem_nil,or_false]at hc;rcases hc with rfl|rfl|rfl|rfl|rfl
  ·exact⟨_,z1,λv z=>nomatch z⟩
  ·exact⟨_,z2,λv z=>nomatch z⟩
  ·exact⟨_,z3,λv z=>nomatch z⟩
  ·exact⟨_,z4,λv z=>by rw[z4']at z;cases z⟩
  ·exact⟨_,z5,λv z=>by rw[z5']at z;cases z⟩
 keep:=λi h h' R kp=>by
  obtain⟨z1,z2,⟨u,v,z3⟩,⟨o4,z4,r4⟩,⟨o5,z5,r5⟩⟩:=R;exact⟨kp _ (by simp) _ z1,kp _ (by simp) _ z2,⟨u,v,kp _ (by simp) _ z3⟩,⟨o4,kp _ (by simp) _ z4,r4⟩,⟨o5,kp _ (by simp) _ z5,r5⟩⟩
 item:=by
  intro X hP hw hK hc i pins s σ H E I hf st hg;subst hP hw hK;obtain⟨xs,ys,x,y,hq1,hq2,hx,hy⟩:=hg;obtain⟨its1,rv1,k1,_⟩:=I.tuple hq1;obtain⟨its2,rv2,k2,_⟩:=I.tuple hq2;obtain⟨u1,hu1,ru1⟩:=rv1.get hx;obtain⟨u2,hu2,ru2⟩:=rv2.get hy;refine ZT.pF D st k1 k2 (x:=u1) (y:=u2) (by simpa using hu1) (by simpa using hu2) λg R' new kp=>⟨_,rfl,?_⟩;refine wpAny_letOwnedTupleGo_zip R'.zz λg' z' sb=>?_;have nz:s.heap.objs.size≠z:=ne_of_gt (lt_size st.zz);have kp':∀c o,c≠z→c≠b→c≠i1→c≠i2→s.heap.get? c=some o→g'.get? c=some o:=λc o c1 c2 c3 c4 e=>(sb.2 c c1).trans (kp c o c1 c2 c3 c4 e);have kpO:∀c o,c∉[z,a,b,i1,i2]→s.heap.get? c=some o→g'.get? c=some o:=λc o hn e=>kp' c o (λq=>hn (by simp[q])) (λq=>hn (by simp[q])) (λq=>hn (by simp[q])) (λq=>hn (by simp[q])) e;have hnot:∀c o,H c=some o→c∉[z,a,b,i1,i2]:=λc o e hm=>by rw[(hf c hm).1]at e;cases e
  have nsz:∀c o,s.heap.get? c=some o→c≠s.heap.objs.size:=λc o e=>ne_of_lt (lt_size e);have trk:∀c o,H c=some o→c≠s.heap.objs.size:=λc o e=>ne_of_lt (I.hok.lt e);have new':g'.get? s.heap.objs.size=some {cls:=.type "tuple",data:=.seq #[u1,u2]}:=(sb.2 _ nz).trans new;have R2:ZT.Rec g' z a b i1 i2 t1 t2 .none (i+1):=by
   obtain⟨_,z2,⟨u,v,z3⟩,⟨o4,z4,r4⟩,⟨o5,z5,r5⟩⟩:=R';exact⟨z',(sb.2 _ D.az).trans z2,⟨u,v,(sb.2 _ D.bz).trans z3⟩,⟨o4,(sb.2 _ D.z1).trans z4,r4⟩,⟨o5,(sb.2 _ D.z2).trans z5,r5⟩⟩
  have okH:HOk X.prog X.w (upd H s.heap.objs.size (.tup [x,y])) g':=λc o e=>by
   by_cases ec:c=s.heap.objs.size
   ·subst ec;rw[ac]at e;cases e;exact⟨by show 2≤sizeLine;rw[sizeLine_eq];decide,[u1,u2],.cons ru1 (.cons ru2 .nil),⟨_,new',rfl,0,rfl⟩⟩
   ·rw[al ec]at e;refine(I.hok c o e).stay (λd v hd q=>kpO d v ?_ q) (λd q=>by rw[al (trk d _ q)];exact q) λd zs q=>by rw[al (trk d _ q)];exact q
    rcases hd with rfl|hd
    ·exact hnot _ _ e
    ·exact hnot _ _ hd
  have I2:Inv X pins σ (upd H s.heap.objs.size (.tup [x,y])) {s with heap:=g'}:=by
   refine I.step (g':=s.gens) (t':=s.toks) (d':=s.drawn) (ch:=[z,a,b,i1,i2]) (λc hc'=>?_) (λc o _ _ hn e _=>kpO c o hn e) (λc o _ _ hn e _=>⟨o.slots,kpO c o hn e⟩) (λc o _ e n=>by rw[al (nsz c o e)];exact n) (λc o hn e=>⟨o,kpO c o hn e⟩)
    (λc zs q=>by rw[al (trk c _ q)];exact q) (λc o u q=>by rw[al (trk c _ q)];exact q) (λc ps q=>⟨#[],by rw[al (trk c _ q),q];simp⟩) (λm hm=>?_) okH I.bare
   ·obtain⟨f0,f1,f2,f3,f4,f5⟩:=hf c hc';exact⟨f3,f1,f4,f5⟩
   ·obtain⟨o,es',ep,ho,r⟩:=hm;exact⟨o,es',ep,kpO _ o (λhm'=>(hf _ hm').2.1 rfl) ho,r⟩
  refine⟨.ref s.heap.objs.size,_,I2,rfl,⟨s.heap.objs.size,x,y,I.hok.fresh (le_refl _),rfl,λzs hz=>?_,λzs hz=>?_,rfl⟩,R2,λc hc'=>?_⟩
  ·rw[I.tuple_inj hz hq1];exact hx
  ·rw[I.tuple_inj hz hq2];exact hy
  ·obtain⟨o,e,_⟩:∃o,s.heap.get? c=some o∧True:=by
    obtain⟨z1,z2,⟨u,v,z3⟩,⟨o4,z4,_⟩,⟨o5,z5,_⟩⟩:=st;simp only[mem_cons,not_mem_nil,or_false]at hc';rcases hc' with rfl|rfl|rfl|rfl|rfl
    ·exact⟨_,z1,trivial⟩
    ·exact⟨_,z2,trivial⟩
    ·exact⟨_,z3,trivial⟩
    ·exact⟨_,z4,trivial⟩
    ·exact⟨_,z5,trivial⟩
   rw[al (nsz c o e)];exact(hf c hc').1
 done:=by
  intro X hP hw hK hc i pins s σ H E I hf st hg;subst hP hw hK;obtain⟨xs,ys,hq1,hq2,hle⟩:=hg;obtain⟨its1,rv1,k1,_⟩:=I.tuple hq1;obtain⟨its2,rv2,k2,_⟩:=I.tuple hq2;have e1:=rv1.length;have e2:=rv2.length;refine ZT.rN (I.ok.hd hc) D st k1 k2 (by rcases hle with h|h;left;simp;omega;right;simp;omega) λg kp=>⟨rfl,?_⟩;have kpO:∀c o,c∉[z,a,b,i1,i2]→s.heap.get? c=some o→g.get? c=some o:=λc o hn e=>kp c o (λq=>hn (by simp[q])) (λq=>hn (by simp[q])) (λq=>hn (by simp[q])) (λq=>hn (by simp[q])) e;have hnot:∀c o,H c=some o→c∉[z,a,b,i1,i2]:=λc o e hm=>by rw[(hf c hm).1]at e;cases e
  refine I.step (g':=s.gens) (t':=s.toks) (d':=s.drawn) (ch:=[z,a,b,i1,i2]) (λc hc'=>?_) (λc o _ _ hn e _=>kpO c o hn e) (λc o _ _ hn e _=>⟨o.slots,kpO c o hn e⟩) (λc o _ e n=>n) (λc o hn e=>⟨o,kpO c o hn e⟩)
   (λc zs q=>q) (λc o u q=>q) (λc ps q=>⟨#[],by rw[q];simp⟩) (λm hm=>?_) (λc o e=>?_) I.bare
  ·obtain⟨f0,f1,f2,f3,f4,f5⟩:=hf c hc';exact⟨f3,f1,f4,f5⟩
  ·obtain⟨o,es',ep,ho,r⟩:=hm;exact⟨o,es',ep,kpO _ o (λhm'=>(hf _ hm').2.1 rfl) ho,r⟩
  ·refine(I.hok c o e).stay (λd v hd q=>kpO d v ?_ q) (λd q=>q) λd zs q=>q;rcases hd with rfl|hd
   ·exact hnot _ _ e
   ·exact hnot _ _ hd
 self:=λA i s Q E st hq=>wpAny_pyIter_zip st.zz hq
theorem yi{es:List Expr}{k:Nat}{p0:Pos}{a b:Expr}{ta:TA}{p pos:Pos}(hg:Gl X "zip")(hm:X.mg "zip"=none)(ha:PA X [a,b] ta)(hs:starEach [a,b] X.env=[(false,eval a X.env),(false,eval b X.env)]:=by rfl)(hs2:starEach [b] X.env=[(false,eval b X.env)]:=by rfl):
  PI X (.Tuple es k p0) (.Call (.Name "zip" p) [a,b] [] pos) (λσ H R=>ta σ H λvs H1=>∃t1 t2 xs ys,vs=[.ref t1,.ref t2]∧H1 t1=some (.tup xs)∧H1 t2=some (.tup ys)∧R (Itz X.K t1 t2) H1):=by
 intro pins s σ H R I h;refine Call_ (fg I hg hm boot_zip (PyProof.Rows.callWith_type1 (thn (ha pos pins s σ H _ I h) λus s1 ⟨vs,H1,I1,r1,q1⟩=>?_) (by rw[hs,hs2]) (by rw[hs2];rfl)));obtain⟨t1,t2,xs,ys,e,ht1,ht2,q⟩:=q1;subst e;obtain⟨u1,u2,rfl,ru1,ru2⟩:=xn r1;cases ru1;cases ru2;obtain⟨its1,rv1,k1,hz1⟩:=I1.tuple (SqT.of ht1);obtain⟨its2,rv2,k2,hz2⟩:=I1.tuple (SqT.of ht2);refine ZT.tS k1 k2 ?_;generalize hn:s1.heap.objs.size=n;have keep:∀c o,s1.heap.get? c=some o→(ZT.made s1.heap t1 t2).get? c=some o:=λc o e=>by
  unfold ZT.made;exact get?_push_of_some _ (get?_push_of_some _ (get?_push_of_some _ (get?_push_of_some _ (get?_push_of_some _ e))))
 have rec0:ZT.Rec (ZT.made s1.heap t1 t2) (n+4) (n+2) (n+3) n (n+1) t1 t2 .none 0:=by
  subst hn;unfold ZT.made;refine⟨?_,?_,⟨.none,.none,?_⟩,⟨{cls:=.type "tuple_iterator",data:=.fields #[.ref t1,.int 0 0]},?_,rfl,rfl⟩,⟨{cls:=.type "tuple_iterator",data:=.fields #[.ref t2,.int 0 0]},?_,rfl,rfl⟩⟩
  ·have:=get?_push_size ((((s1.heap.push {cls:=.type "tuple_iterator",data:=.fields #[.ref t1,.int 0 0]}).push {cls:=.type "tuple_iterator",data:=.fields #[.ref t2,.int 0 0]}).push {cls:=.type "tuple",data:=.seq #[.ref s1.heap.objs.size,.ref (s1.heap.objs.size+1)]}).push {cls:=.type "tuple",data:=.seq #[.none,.none]})
    (o:={cls:=.type "zip",data:=.fields #[.none,.bool false,.bool false,.ref (s1.heap.objs.size+2),.ref (s1.heap.objs.size+3)]}) rfl
   simpa only [size_push]using this
  ·refine get?_push_of_some _ (get?_push_of_some _ ?_);have:=get?_push_size ((s1.heap.push {cls:=.type "tuple_iterator",data:=.fields #[.ref t1,.int 0 0]}).push {cls:=.type "tuple_iterator",data:=.fields #[.ref t2,.int 0 0]}) (o:={cls:=.type "tuple",data:=.seq #[.ref s1.heap.objs.size,.ref (s1.heap.objs.size+1)]}) rfl;simpa only [size_push]using this
  ·refine get?_push_of_some _ ?_;have:=get?_push_size (((s1.heap.push {cls:=.type "tuple_iterator",data:=.fields #[.ref t1,.int 0 0]}).push {cls:=.type "tuple_iterator",data:=.fields #[.ref t2,.int 0 0]}).push {cls:=.type "tuple",data:=.seq #[.ref s1.heap.objs.size,.ref (s1.heap.objs.size+1)]}) (o:={cls:=.type "tuple",data:=.seq #[.none,.none]}) rfl;simpa only [size_push]using this
  ·exact get?_push_of_some _ (get?_push_of_some _ (get?_push_of_some _ (get?_push_of_some _ (get?_push_size _ rfl))))
  ·refine get?_push_of_some _ (get?_push_of_some _ (get?_push_of_some _ ?_));have:=get?_push_size (s1.heap.push {cls:=.type "tuple_iterator",data:=.fields #[.ref t1,.int 0 0]}) (o:={cls:=.type "tuple_iterator",data:=.fields #[.ref t2,.int 0 0]}) rfl;simpa only [size_push]using this
 have l1:t1<n:=by rw[←hn];exact I1.hok.lt ht1
 have l2:t2<n:=by rw[←hn];exact I1.hok.lt ht2
 have D:=ZT.tQ n t1 t2 l1 l2;refine wpAny_pyIter_zip rec0.zz ?_;refine⟨n+4,[n+4,n+2,n+3,n,n+1],_,Itz X.K t1 t2,H1,rfl,I1.kept (t':=s1.toks) keep,tT _ _ _ _ _ _ _ D,rec0,λc hc=>?_,q⟩;have hle:s1.heap.objs.size≤c:=by
  rw[hn];simp only[mem_cons,not_mem_nil,or_false]at hc;rcases hc with rfl|rfl|rfl|rfl|rfl
  ·exact le_add_right _ _
  ·exact le_add_right _ _
  ·exact le_add_right _ _
  ·exact le_refl _
  ·exact le_add_right _ _
 exact I1.fpOk hle (I1.hok.fresh hle)
abbrev iH:=Addr×Int×List V
def numAt(zs:List iH)(i:Nat):Int:=(zs.getD i (0,0,[])).2.1
theorem tU{zs:List iH}(h:(zs.map (·.2.1)).Nodup):SRT.Ord (λi j=>decide (numAt zs i<numAt zs j)) zs.length:=by
 refine⟨λi _=>by simp,λi j k _ _ _ h1 h2=>?_,λi j hi hj hij=>?_⟩
 ·simp only[decide_eq_true_eq]at *;omega
 ·simp only[decide_eq_true_eq];have:numAt zs i≠numAt zs j:=by
   unfold numAt;rw[getD_eq_getElem?_getD,getD_eq_getElem?_getD,getElem?_eq_getElem hi,getElem?_eq_getElem hj];intro e;have e':(zs.map (·.2.1))[i]'(by simpa using hi)=(zs.map (·.2.1))[j]'(by simpa using hj):=by simpa using e
   exact hij ((getElem_inj h).mp e')
  omega
theorem nQ{prog:Program}{w:World}{A:Around}{s:Shared}{b:Bool}{Q:Bool→Shared→Prop}(h:Q false s):∀(l:List Value)(i:Nat),KatLex prog w A b false Q (l.zip l) i s
 |[],i=>h
 |v::l,i=>kat_cons (EqAt.same v prog w _ _ (kat_yes (nQ h l (i+1))))
theorem cA:bX X (.builtin "sorted") (λxs H Q=>∃l,∃zs:List iH,xs=[.ref l]∧(SqL X.K H l ((zs.map (·.1)).map V.ref)∨SqT X.K H l ((zs.map (·.1)).map V.ref))∧(∀z∈zs,H z.1=some (.tup (.int z.2.1::z.2.2)))∧(zs.map (·.2.1)).Nodup∧zs.length<64 ∧
  ∀zs':List iH,zs'.Perm zs→zs'.Pairwise (λa b=>a.2.1<b.2.1)→∀p,H p=none→Q (.ref p) (upd H p (.lst ((zs'.map (·.1)).map V.ref)))):=by
 intro pins s σ H xs us Q I r h;obtain⟨l,zs,rfl,hq,hk,hnd,h64,q⟩:=h;obtain⟨u,rfl,ru⟩:=cv r;cases ru;obtain⟨its,rv,pl⟩:∃its,ar ((zs.map (·.1)).map V.ref) its∧(s.heap.IsList l its.toArray∨IsTup s.heap l its.toArray):=by
  rcases hq with hq|hq
  ·obtain⟨its,rv,pl,hz⟩:=I.list hq;exact⟨its,rv,.inl pl.isList⟩
  ·obtain⟨its,rv,pl,hz⟩:=I.tuple hq;exact⟨its,rv,.inr pl⟩
 have e:=cU rv;subst e;have hlen:((zs.map (·.1)).map Value.ref).length=zs.length:=by simp
 have hobj:∀z∈zs,∃o its n t,s.heap.get? z.1=some o∧o.cls=.type "tuple"∧o.data=.seq its n∧its.toList=.int z.2.1 t::its.toList.drop 1:=λz hz'=>by
  obtain⟨_,its,rr,o,e1,e2,n,e3⟩:=I.hok z.1 _ (hk z hz');cases rr with
  |cons r1 r2 =>
   obtain⟨t,rfl⟩:=r1;exact⟨o,_,n,t,e1,e2,e3,by simp⟩
 have hget:∀i,i<zs.length→((zs.map (·.1)).map Value.ref).getD i Value.none=.ref (zs.getD i (0,0,[])).1∧zs.getD i (0,0,[])∈zs:=λi hi=>by
  rw[getD_eq_getElem?_getD,getD_eq_getElem?_getD,getElem?_map,getElem?_map,getElem?_eq_getElem hi];exact⟨rfl,getElem_mem hi⟩
 refine SRT.ju (κ:=tuples' true) (f:=λi j=>decide (numAt zs i<numAt zs j)) (by rw[hlen];exact tU hnd) pl (by rw[hlen];exact h64) ?kind ?less ?fin
 case kind =>
  intro A' s' _ kp Q' h2 hQ';have key:∀ys:List iH,(∀z∈ys,z∈zs)→∃fs:List Value,KatTups s'.heap ((ys.map (·.1)).map Value.ref) fs∧fs.length=ys.length∧∀v∈fs,∃i t,v=Value.int i t:=by
   intro ys
   induction ys with
   |nil=>intro _;exact⟨[],KatTups.nil,rfl,λv hv=>by simp at hv⟩
   |cons z ys ih =>
    intro hm;obtain⟨fs,h1,h2',h3⟩:=ih λy hy=>hm y (by simp[hy]);obtain⟨o,its,n,t,e1,e2,e3,e4⟩:=hobj z (hm z (by simp));refine⟨.int z.2.1 t::fs,KatTups.cons (kp _ _ e1) e2 e3 ?_ h1,by simp[h2'],λv hv=>?_⟩
    ·rw[←getElem?_toList,e4];rfl
    ·rcases mem_cons.mp hv with rfl|hv
     ·exact⟨_,_,rfl⟩
     ·exact h3 v hv
  obtain⟨fs,h1,h2',h3⟩:=key zs λz hz'=>hz';refine kat_kind (T:=.type "int") h1 (by rw[h2'];rw[hlen]at h2;omega) (λv hv=>?_) (by rfl) hQ';obtain⟨i,t,rfl⟩:=h3 v hv;exact .now
 case less =>
  intro A' s' _ kp i j C hi hj hC;rw[hlen]at hi hj;obtain⟨gi,mi⟩:=hget i hi;obtain⟨gj,mj⟩:=hget j hj;rw[gi,gj];obtain⟨oi,ii,ni,ti,a1,a2,a3,a4⟩:=hobj _ mi;obtain⟨oj,ij,nj,tj,b1,b2,b3,b4⟩:=hobj _ mj;refine kat_lt (kp _ _ a1) a3 (kp _ _ b1) b3 ?_
  by_cases hij:i=j
  ·subst hij;rw[a1]at b1;cases b1;rw[a3]at b3;cases b3;have:C false s':=by simpa using hC
   have e2:decide (ii.size<ii.size)=false:=by simp
   rw[e2];exact nQ this _ _
  ·have hne:numAt zs i≠numAt zs j:=by
    rcases (tU hnd).tot i j hi hj hij with h1|h1<;>simp only[decide_eq_true_eq]at h1<;>omega
   rw[a4,b4];refine kat_cons (wpAny_eqBool_int ?_);have e2:((zs.getD i (0,0,[])).2.1==(zs.getD j (0,0,[])).2.1)=false:=beq_eq_false_iff_ne.mpr hne;rw[e2];refine kat_no ?_;exact kat_lt_int hC
 case fin =>
  intro p h' hrow hup kp _ hg;obtain⟨c,hg⟩:=hg;rw[hlen]at hrow hup;obtain⟨zs',hzs'⟩:∃zs',zs'=p.toList.map λi=>zs.getD i (0,0,[]):=⟨_,rfl⟩;have hperm:zs'.Perm zs:=by
   rw[hzs'];refine(hrow.perm.map _).trans ?_;have:(List.range zs.length).map (λi=>zs.getD i (0,0,[]))=zs:=by
    apply ext_getElem?;intro i;rw[getElem?_map]
    by_cases hi:i<zs.length
    ·rw[getElem?_range hi,getElem?_eq_getElem hi];show some (zs.getD i (0,0,[]))=_;rw[getD_eq_getElem?_getD,getElem?_eq_getElem hi];rfl
    ·rw[getElem?_eq_none (by rw[length_range];omega),getElem?_eq_none (by omega)];rfl
   rw[this]
  have hpl:p.size=zs.length:=hrow.size;have hpw:zs'.Pairwise (λa b=>a.2.1<b.2.1):=by
   rw[pairwise_iff_getElem];intro i j hi hj hij;have hi':i<p.size:=by rw[hzs',length_map,length_toList]at hi;exact hi
   have hj':j<p.size:=by rw[hzs',length_map,length_toList]at hj;exact hj
   have:=hup i j hij (by omega);simp only[decide_eq_true_eq,numAt]at this;rw[getD_eq_getD_getElem?,getD_eq_getD_getElem?,Array.getElem?_eq_getElem hi',Array.getElem?_eq_getElem hj']at this;simpa [hzs']using this
  have hout:(toArray (p.toList.map λi=>((zs.map (·.1)).map Value.ref).getD i Value.none))=((zs'.map (·.1)).map Value.ref).toArray:=by
   congr 1
   rw[hzs'];simp only[map_map];apply map_congr_left;intro i hi;have hi':i<zs.length:=mem_range.mp (hrow.perm.mem_iff.mp hi);have:=(hget i hi').1;simp only[map_map]at this;exact this
  rw[hout]at hg;have hv:ar ((zs'.map (·.1)).map V.ref) ((zs'.map (·.1)).map Value.ref):=by
   generalize zs'.map (·.1)=as
   induction as with
   |nil=>exact .nil
   |cons a as ih=>exact .cons rfl ih
  refine⟨.ref (s.heap.objs.size+1),_,I.laid (t':=s.toks) (o:=.lst ((zs'.map (·.1)).map V.ref)) kp (le_succ _) ⟨?_,_,c,hv,hg⟩,rfl,q zs' hperm hpw _ (I.hok.fresh (le_succ _))⟩;rw[length_map,length_map,hperm.length_eq,sizeLine_eq];omega
theorem hV:bX X (.builtin "sorted") (λxs H Q=>∃l,∃zs:List iH,xs=[.ref l]∧SqL X.K H l ((zs.map (·.1)).map V.ref)∧(∀z∈zs,H z.1=some (.tup (.int z.2.1::z.2.2)))∧(zs.map (·.2.1)).Nodup∧zs.length<64 ∧
  ∀zs':List iH,zs'.Perm zs→zs'.Pairwise (λa b=>a.2.1<b.2.1)→∀p,H p=none→Q (.ref p) (upd H p (.lst ((zs'.map (·.1)).map V.ref)))) :=
 λpins s σ H xs us Q I r ⟨l,zs,e,hq,h⟩=>cA pins s σ H xs us Q I r ⟨l,zs,e,.inl hq,h⟩
end
theorem lX{scope:Scope}{env:Env}(h:∀y∈scope.names,y.2≠.free):relabel scope env=scope:=by
 unfold relabel;rw[map_eq_self (l:=scope.names) (λx hx=>by
  obtain⟨n,k⟩:=x;have:(k==NameKind.free)=false:=by simpa using h _ hx
  simp[this])]
theorem cj{X:Cx}{scope:Scope}(hk:scope.kind=.function)(hf:∀y∈scope.names,y.2≠.free)(hc:∀y∈scope.names,y.2≠.cell)(hn:∀x∈scope.names,x.2=.local→scope.names.lookup x.1=some .local):LcOk X scope [] :=
 ⟨hk,closureFor_none hf,hn,hc,λx c h=>by simp at h,λx h=>by
  rw[lX hf]at h;rcases h with h|h
  ·exact absurd rfl (hc _ (PySem.mem_of_lookup h))
  ·exact absurd rfl (hf _ (PySem.mem_of_lookup h))⟩
theorem tV{k:Nat}{js:List Nat}{J:It}{g:TG}{te:TE}{σ:St}{H1:Hp}{Q:VK}{p:Addr}(n:Nat)(hn:n≤1000)(Pv:Nat→List V→St→Hp→Prop)(h0:Pv 0 [] (cH k js σ) (upd H1 p (.lst [])))(hy:∀i ys σ' H',Pv i ys σ' H'→ys.length≤i)(go:∀i ys σ' H',i<n→Pv i ys σ' H'→J.go i H')(stop:∀ys σ' H',Pv n ys σ' H'→J.stop n H'∧Q (.ref p) H')(step:∀i ys σ' H',i<n→Pv i ys σ' H'→∀x H2,J.yld i H' x H2→g x σ' H2 λσ2 H3=>te σ2 H3 λy H4=>H4 p=some (.lst ys)∧Pv (i+1) (ys++[y]) σ2 (upd H4 p (.lst (ys++[y]))))(mg:∀x σ H (Q Q':St→Hp→Prop),(∀σ H,Q σ H→Q' σ H)→g x σ H Q→g x σ H Q')(me:∀σ H (Q Q':VK),(∀y H,Q y H→Q' y H)→te σ H Q→te σ H Q'):
  LcW k js g te σ Q J H1 p:=by
 refine⟨λi m ys σ' H'=>m=n-i∧i≤n∧Pv i ys σ' H',⟨n,by simp,zero_le _,h0⟩,?_⟩;rintro i m ys σ' H' ⟨rfl,hi,hp⟩
 by_cases hlt:i<n
 ·refine .inr ⟨go i ys σ' H' hlt hp,?_,λx H2 y=>?_⟩
  ·have:=hy i ys σ' H' hp;exact lt_of_le_of_lt this (aE (by omega))
  ·refine mg _ _ _ _ _ (λσ2 H3 h3=>me _ _ _ _ (λz H4 h4=>⟨h4.1,n-(i+1),by omega,rfl,hlt,h4.2⟩) h3) (step i ys σ' H' hlt hp x H2 y)
 ·have e:i=n:=by omega
  subst e;exact .inl (stop ys σ' H' hp)
theorem ae{H:Hp}{p:Addr}{o:HO}(h:H p=none):Same H (upd H p o):=λb u e=>by rw[al (bV e h)];exact e
theorem ca{H:Hp}{p a:Addr}{o u:HO}(h:H p=none)(e:H a=some u):upd H p o a=some u:=by rw[al (bV e h)];exact e
theorem aL{H0 H:Hp}{p:Addr}{o:HO}(h0:H0 p=none)(s:Same H0 H):Same H0 (upd H p o):=λb u e=>by
 rw[al (bV e h0)];exact s b u e
end L2
namespace L2
open PySem PyProof.Rows
def Saf(f:Obj→Obj):Prop:=∀o vs,o.data=.fields vs→vs[2]?=some .none→∃ws,(f o).data=.fields ws∧ws[2]?=some .none
def Qt{α:Type}:Sem α→Prop
 |.rule _ k=>Qt (k ())
 |.at _ k=>Qt (k ())
 |.load _ _ k=>∀o,Qt (k o)
 |.update _ _ f k=>Saf f∧Qt (k ())
 |.alloc _ k=>∀a,Qt (k a)
 |.loadIfAlive _ k=>∀o,Qt (k o)
 |.point _ k=>Qt (k ())
 |.fresh k=>∀t,Qt (k t)
 |.ask k=>∀s,Qt (k s)
 |.choose _ _ k=>∀n,Qt (k n)
 |.os _ _ k=>∀r,Qt (k r)
 |.call ..=>False
 |.handled _ k=>∀o,Qt (k o)
 |.newGen _ k=>∀n,Qt (k n)
 |.genState _ k=>∀x,Qt (k x)
 |.resume ..=>False
 |.stack k=>∀l,Qt (k l)
 |.thread k=>∀n,Qt (k n)
 |_=>True
theorem ba{α β:Type}{m:Sem α}{f:α→Sem β}(h:Qt m)(hf:∀a,Qt (f a)):Qt (m >>= f):=by
 show Qt (Sem.bind m f)
 induction m<;>simp_all [Sem.bind,Qt]
theorem cf.push{h:Heap}{e:Addr}{o:Obj}(x:cf h e):cf (h.push o) e:=x.keep λ_ q=>get?_push_of_some _ q
theorem cf.saf{h:Heap}{e a:Addr}{f:Obj→Obj}(x:cf h e)(s:Saf f):cf (h.update a f) e:=by
 by_cases n:e=a
 ·subst n;obtain⟨o,vs,e1,e2,e3⟩:=x;obtain⟨ws,g1,g2⟩:=s o vs e2 e3;exact⟨_,ws,get?_update_self f e1 (Obj.isFreed_of_fields g1),g1,g2⟩
 ·exact x.upd n
theorem zP{α:Type}{M:Model}{Γ:Ctx}{e:Addr}{t:Sem α}{Q:α→Pos→Shared→Prop}{E:Value→Pos→Shared→Prop}(hq:Qt t){p:Pos}{s:Shared}(hd:cf s.heap e)(h:Sem.wp M Γ t Q E p s):
  Sem.wp M Γ t (λa q s'=>Q a q s'∧cf s'.heap e) (λx q s'=>E x q s'∧cf s'.heap e) p s:=by
 induction t generalizing p s with
 |pure a=>exact⟨h,hd⟩
 |raise x=>exact⟨h,hd⟩
 |load a c k ih=>obtain⟨o,h1,h2⟩:=h;exact⟨o,h1,ih o (hq o) hd h2⟩
 |update a c f k ih=>obtain⟨h1,h2⟩:=h;exact⟨h1,ih () hq.2 (hd.saf hq.1) h2⟩
 |alloc o k ih=>exact ih _ (hq _) hd.push h
 |choose c n k ih=>obtain⟨h1,h2⟩:=h;exact⟨h1,ih _ (hq _) hd h2⟩
 |genState g k ih=>obtain⟨x,h1,h2⟩:=h;exact⟨x,h1,ih _ (hq _) hd h2⟩
 |call=>exact hq.elim
 |resume=>exact hq.elim
 |rule _ k ih=>exact ih () hq hd h
 |«at» _ k ih=>exact ih () hq hd h
 |point _ k ih=>exact ih () hq hd h
 |loadIfAlive a k ih=>exact ih _ (hq _) hd h
 |fresh k ih=>exact ih _ (hq _) hd h
 |ask k ih=>exact ih _ (hq _) hd h
 |os q l k ih=>exact ih _ (hq _) hd h
 |handled o k ih=>exact ih _ (hq _) hd h
 |newGen c k ih=>exact ih _ (hq _) hd h
 |stack k ih=>exact ih _ (hq _) hd h
 |thread k ih=>exact ih _ (hq _) hd h
 |unsupported=>exact h
 |finish=>exact h
 |register=>exact h
 |yield=>exact h
 |fork=>exact h
 |await=>exact h
theorem yj{α:Type}{M:Model}{A:Around}{e:Addr}{t:Sem α}{Q:α→Shared→Prop}{E:Value→Shared→Prop}{s:Shared}(hq:Qt t)(hd:cf s.heap e)(h:wpAny M A t Q E s):wpAny M A t (λa s'=>Q a s'∧cf s'.heap e) (λx s'=>E x s'∧cf s'.heap e) s :=
 λΓ p i=>zP hq hd (h Γ p i)
theorem vT{i:Nat}{x:Value}(h:i≠2):Saf (Obj.mapFields (·.setIfInBounds i x)):=λo vs e1 e2=>⟨_,Obj.data_mapFields e1 _,by rw[Array.getElem?_setIfInBounds_ne h];exact e2⟩
theorem gq(v:Value)(i:Nat):Qt (field v i):=by
 unfold field fieldsOf;refine ba ?_ λvs=>?_
 ·cases v<;>first|trivial|skip
  refine ba (λo=>trivial) λo=>?_;show Qt (match o.data with | .fields vs=>_ | _=>_)
  split<;>trivial
 ·show Qt (match vs[i]? with|some x=>_|none=>_)
  split<;>trivial
theorem pG{v x:Value}{i:Nat}(h:i≠2):Qt (setField v i x):=by
 unfold setField;cases v<;>first|trivial|skip
 unfold updateField;refine ba (λo=>trivial) λo=>?_;show Qt (match o.data with | .fields vs=>_ | _=>_)
 split
 ·split
  ·exact⟨vT h,trivial⟩
  ·trivial
 ·trivial
theorem hX(e:Value):Qt (setFlight e none):=by
 unfold setFlight;refine ba (gq _ _) λtb=>?_;show Qt (if _ then _ else _)
 split
 ·exact pG (by decide)
 ·trivial
theorem nR:∀l:List Env,Qt (readyFrames l)
 |[]=>trivial
 |env::outer=>by
  unfold readyFrames;show Qt (match env.frame with|some f=>_ | _=>_)
  split
  ·refine ba (λo=>trivial) λo=>?_;show Qt (if _ then _ else _)
   split
   ·trivial
   ·refine ba ?_ λim=>ba ?_ λbk=>⟨λo vs e1 e2=>⟨vs,e1,e2⟩,nR outer⟩
    ·unfold behindIsImport
     split
     ·trivial
     ·show Qt (if _ then _ else _)
      split
      ·trivial
      ·exact ba (gq _ _) λ_=>trivial
    ·unfold keptBack;cases outer with
     |nil =>
      show Qt (if _ then _ else _)
      split
      ·trivial
      ·exact ba (λl=>trivial) λ_=>trivial
     |cons c r=>trivial
  ·trivial
theorem pH(env:Env):Qt (PySem.frameOf env):=by
 unfold PySem.frameOf;refine ba (λl=>trivial) λl=>ba ?_ λr=>?_
 ·cases h:List.dropWhile (λx:Env=>x.frame != env.frame) l with
  |nil=>trivial
  |cons a r=>exact ba (nR _) λ_=>trivial
 ·show Qt (match r with|some f=>_|none=>_)
  split<;>trivial
theorem tW(a b c d e:Value)(pl:List Value):Qt (EntryCells.newEntry a b c d e pl):=by
 unfold EntryCells.newEntry newFields newObj;have h:∀vs:Array Value,Qt (newObjAsIs (.type "traceback") (.fields vs)):=λvs=>by
  unfold newObjAsIs;exact ba (λa=>trivial) λa=>trivial
 generalize ([a,b,c,d,e]++if pl.isEmpty then List.replicate 6 Value.none else pl).toArray=vs;show Qt (if _ then _ else _)
 split
 ·exact trivial
 ·exact h _
theorem qB(e:Value)(env:Env):Qt (noteFrame e env):=by
 unfold noteFrame;show Qt (match env.frame with|some f=>_ | _=>_)
 split
 ·refine ba (gq _ _) λhd=>?_;have fin:∀f b,Qt (do setField e 1 (← EntryCells.newEntry hd (← PySem.frameOf env) .none (rawInt f) .none (← entryPlaceOf f b))):=λf b=>by
   refine ba (pH _) λfr=>ba ?_ λpl=>ba (tW _ _ _ _ _ _) λen=>pG (by decide);unfold entryPlaceOf;refine ba (λl=>trivial) λacts=>?_;dsimp only
   split<;>trivial
  show Qt (if _ then _ else _)
  split
  ·refine ba (gq _ _) λx=>?_;show Qt (if _ then _ else _)
   split
   ·trivial
   ·exact ba (pG (by decide)) λ_=>fin _ _
  ·exact fin _ _
 ·trivial
theorem jx(env:Env)(e:Value):Qt (leaving env e):=by
 unfold leaving;exact ba (qB _ _) λ_=>hX _
end L2
namespace PySem
def Heap.FlyingN(base:Heap)(l:List Env)(e:Addr)(cls a0:Value)(h:Heap):Prop:=base.StaysIn h∧base.get? e=none∧h.FunFrames base l∧h.TracedW base e cls a0∧L2.cf h e
def Heap.HeldN(base:Heap)(l:List Env)(e:Addr)(cls a0:Value)(L:Addr)(h:Heap):Prop:=HeldW base l e cls a0 L h∧L2.cf h e
section
variable{base h:Heap}{l outer:List Env}{e L:Addr}{cls a0:Value}{M:Model}{A:Around}{E:Value→Shared→Prop}{s:Shared}{env:Env}{Q:Unit→Shared→Prop}
theorem Heap.FlyingN.w(x:Heap.FlyingN base l e cls a0 h):FlyingW base l e cls a0 h:=⟨x.1,x.2.1,x.2.2.1,x.2.2.2.1⟩
theorem qC(x:FlyingW base l e cls a0 h)(y:L2.cf h e):Heap.FlyingN base l e cls a0 h:=⟨x.1,x.2.1,x.2.2.1,x.2.2.2,y⟩
theorem Heap.FlyingN.there(x:Heap.FlyingN base l e cls a0 h):∃ob,h.get? e=some ob∧ob.cls=cls:=x.w.there
theorem Heap.FlyingN.first(x:Heap.FlyingN base l e cls a0 h):∃oe vs,h.get? e=some oe∧oe.cls=cls∧oe.data=.fields vs∧vs[0]?=some a0∧vs[2]?=some .none:=by
 obtain⟨oe,vs,e1,e2,e3,e4⟩:=x.w.first;obtain⟨o,ws,g1,g2,g3⟩:=x.2.2.2.2;rw[e1]at g1;cases g1;rw[e3]at g2;cases g2;exact⟨oe,vs,e1,e2,e3,e4,g3⟩
theorem jy{t:Sem Unit}(hq:L2.Qt t)(hd:L2.cf s.heap e)(R:Heap→Prop)(w:∀Q':Unit→Shared→Prop,(∀h',R h'→Q' () {s with heap:=h'})→wpAny M A t Q' (λ_ _=>False) s)(hQ:∀h',R h'→L2.cf h' e→Q () {s with heap:=h'}):wpAny M A t Q E s :=
 wpAny_mono (L2.yj hq hd (w (λ_ s'=>∃h',s'={s with heap:=h'}∧R h') λh' r=>⟨h',rfl,r⟩)) (λ_ s' z=>by obtain⟨⟨h',rfl,r⟩,d⟩:=z;exact hQ h' r d) λ_ _ z=>z.1.elim
theorem hZ(hfr:A.frames=some (env::outer))(hf:env.frame=some L)(hfl:Heap.FlyingN base (env::outer) e cls a0 s.heap)(hQ:∀h',Heap.FlyingN base outer e cls a0 h'→s.heap.UpToSlots h'→Q () {s with heap:=h'}):wpAny M A (leaving env (.ref e)) Q E s :=
 jy (L2.jx _ _) hfl.2.2.2.2 (λh'=>FlyingW base outer e cls a0 h'∧s.heap.UpToSlots h') (λQ' q=>wpAny_leaves_onW hfr hf hfl.w λh' a b=>q h' ⟨a,b⟩) λh' r d=>hQ h' (qC r.1 d) r.2
theorem ft{args:List Value}(hfr:A.frames=some (env::outer))(hf:env.frame=some L)(hkb:base.StaysIn h)(hl:h.FunFrames base (env::outer))(hx:Heap.MadeExcOf h s.heap e cls args)(hQ:∀h' t,Heap.FlyingN base outer e cls (.ref t) h'→h'.TupAt t args→base.get? t=none→s.heap.UpToSlots h'→Q () {s with heap:=h'}):wpAny M A (leaving env (.ref e)) Q E s:=by
 have hd:L2.cf s.heap e:=let⟨t,he,_⟩:=hx.there;⟨_,_,he,rfl,rfl⟩;exact jy (L2.jx _ _) hd (λh'=>∃t,FlyingW base outer e cls (.ref t) h'∧h'.TupAt t args∧base.get? t=none∧s.heap.UpToSlots h') (λQ' q=>wpAny_leaves_madeW hfr hf hkb hl hx λh' t a b c d=>q h' ⟨t,a,b,c,d⟩) λh' ⟨t,a,b,c,d⟩ y=>hQ h' t (qC a y) b c d
theorem iI(hfr:A.frames=some (env::outer))(hf:env.frame=some L)(hfl:Heap.FlyingN base (env::outer) e cls a0 s.heap)(hQ:∀h',Heap.HeldN base (env::outer) e cls a0 L h'→s.heap.UpToSlots h'→Q () {s with heap:=h'}):wpAny M A (noteFrame (.ref e) env) Q E s :=
 jy (L2.qB _ _) hfl.2.2.2.2 (λh'=>HeldW base (env::outer) e cls a0 L h'∧s.heap.UpToSlots h') (λQ' q=>wpAny_looks_onW hfr hf hfl.w λh' a b=>q h' ⟨a,b⟩) λh' r d=>hQ h' ⟨r.1,d⟩ r.2
theorem lY(hh:Heap.HeldN base l e cls a0 L s.heap)(hQ:∀h',Heap.FlyingN base l e cls a0 h'→s.heap.UpToSlots h'→Q () {s with heap:=h'}):wpAny M A (setFlight (.ref e) none) Q E s :=
 jy (L2.hX _) hh.2 (λh'=>FlyingW base l e cls a0 h'∧s.heap.UpToSlots h') (λQ' q=>wpAny_landsW hh.1 λh' a b=>q h' ⟨a,b⟩) λh' r d=>hQ h' (qC r.1 d) r.2
theorem lZ(hh:Heap.FlyingN base l e cls a0 s.heap)(hQ:∀h',Heap.FlyingN base l e cls a0 h'→s.heap.UpToSlots h'→Q () {s with heap:=h'}):wpAny M A (setFlight (.ref e) none) Q E s :=
 jy (L2.hX _) hh.2.2.2.2 (λh'=>FlyingW base l e cls a0 h'∧s.heap.UpToSlots h') (λQ' q=>PyProof.Rows.lands_againW hh.w λh' a b=>q h' ⟨a,b⟩) λh' r d=>hQ h' (qC r.1 d) r.2
end
end PySem
namespace L2
open PySem PySem.Spec PyProof.Rows
structure Fly(P:Program)(w:World)(outer:List Env)(H:Hp)(s:Shared)(H':Hp)(ea C:Addr)(s':Shared):Prop where
 os:s'.os=s.os
 bare:AllBare s'.gens
 un:Un (frs outer) [] H H' s.heap s'.heap
 new:H' ea=none
 fly:∃B a0,Heap.FlyingN B outer ea (.ref C) a0 s'.heap∧HOk P w H' B∧(∀b o,s.heap.get? b=some o→H b=none→b∉frs outer→B.get? b=some o) ∧
  ∀b o,s.heap.get? b=some o→b∉frs outer→∃o',B.get? b=some o'
def CX1(P:Program)(w:World):CXT:=λouter H s E e s'=>∃ea C H',e=.ref ea∧Fly P w outer H s H' ea C s'∧E (.ref C) none H'
theorem bA.ex{P:Program}{w:World}{H:Hp}{h:Heap}{a:Addr}{o:HO}(x:bA P w H h a o):∃ob,h.get? a=some ob:=by
 cases o with
 |lst xs=>obtain⟨_,_,_,_,e⟩:=x;exact⟨_,e⟩
 |tup xs=>obtain⟨_,_,_,ob,e,_⟩:=x;exact⟨ob,e⟩
 |dK kvs=>obtain⟨_,_,_,_,o,_,_,e,_⟩:=x;exact⟨_,e⟩
 |dT kvs=>obtain⟨_,_,_,_,o,_,_,e,_⟩:=x;exact⟨_,e⟩
 |set S n=>obtain⟨o,_,_,_,e,_⟩:=x;exact⟨_,e⟩
 |ins C dx fs=>obtain⟨_,_,_,e,_⟩:=x;exact⟨_,e⟩
 |own y=>obtain⟨_,e⟩:=x;exact⟨_,e⟩
 |xd fs=>obtain⟨_,⟨_,_,_,e,_⟩,_⟩:=x;exact⟨_,e⟩
 |rng lo hi=>obtain⟨_,_,_,e⟩:=x;exact⟨_,e⟩
 |frz ob u=>obtain⟨e,_⟩:=x;exact⟨_,e⟩
 |tbl ps=>exact⟨_,(show h.get? a=some _ from x)⟩
 |met f y=>exact⟨_,(show h.get? a=some _ from x)⟩
 |ext φ=>obtain⟨_,⟨_,e⟩,_⟩:=x;exact⟨_,e⟩
theorem tX{P:Program}{w:World}{H:Hp}{h:Heap}{l:List Addr}(x:HOk P w H h)(hl:∀b∈l,H b=none):HOk P w H (hideAll h l):=λa o e =>
 (x a o e).stay (λb u hb q=>hideAll_get l q λz=>by
  have:=hl b z;rcases hb with hb|hb
  ·rw[hb,e]at this;cases this
  ·rw[hb]at this;cases this) (λ_ q=>q) λ_ _ q=>q
section
variable{P:Program}{w:World}{l:List Env}{H H':Hp}{h1 h2 h3 B:Heap}{ea:Addr}{cls a0:Value}
theorem jz(un:Un (frs l) [] H H' h1 h2)(fl:Heap.FlyingN B l ea cls a0 h2)(hB:HOk P w H' B)(kp:∀b o,h1.get? b=some o→H b=none→b∉frs l→B.get? b=some o)(th:∀b o,h1.get? b=some o→b∉frs l→∃o',B.get? b=some o')(st:B.StaysIn h3)(hs:h2.UpToSlots h3):Un (frs l) [] H H' h1 h3∧HOk P w H' h3:=by
 refine⟨⟨λb o e n hb _=>st b o (kp b o e n hb),λb o e n hb hx=>?_,un.free,λb o e _=>?_,un.tups,un.frzs,un.tbls⟩,hB.kept st⟩
 ·obtain⟨sl,q⟩:=un.slot b o e n hb hx;obtain⟨_,o',ho',hd⟩:=fl.2.2.1.mem hb;rw[q]at ho';cases ho';obtain⟨sl',q'⟩:=hs b _ q hd;exact⟨sl',q'⟩
 ·by_cases hb:b∈frs l
  ·obtain⟨_,o',ho',hd⟩:=fl.2.2.1.mem hb;obtain⟨sl',q'⟩:=hs b _ ho' hd;exact⟨_,q'⟩
  ·obtain⟨o',q⟩:=th b o e hb;exact⟨o',st b o' q⟩
end
section
variable{X:Cx}{pins:List (Addr×Obj)}{σ:St}{H H':Hp}{s s':Shared}{ea C:Addr}{E:XK}
theorem Inv.fly_up(I:Inv X pins σ H s)(hex:X.ex=[])(J:Inv X pins σ H' s')(new:H' ea=none){B:Heap}{a0:Value}(fl:Heap.FlyingN B X.outer ea (.ref C) a0 s'.heap)(hB:HOk X.prog X.w H' B)(kp:∀b o,s.heap.get? b=some o→H b=none→b∉frs X.stack→B.get? b=some o)(th:∀b o,s.heap.get? b=some o→b∉frs X.stack→∃o',B.get? b=some o'):Fly X.prog X.w X.outer X.H₀ X.s₀ H' ea C s':=by
 have ub:=I.base;rw[hex]at ub;have uj:=J.base;rw[hex]at uj;have ne:∀b o,X.s₀.heap.get? b=some o→b∉frs X.outer→b∉frs X.stack:=λb o e n hb=>by
  rcases mem_cons.mp (I.stkSub b hb)with z|z
  ·have:=lt_size e;rw[z]at this;exact absurd (lt_of_lt_of_le this I.ok.above) (lt_irrefl _)
  ·exact n z
 refine⟨J.os,J.bare,uj,new,B,a0,fl,hB,λb o e n hb=>?_,λb o e hb=>?_⟩
 ·exact kp b o (ub.keep b o e n hb (by simp)) (ub.free b o e n (by simp)) (ne b o e hb)
 ·obtain⟨o',q⟩:=ub.there b o e (by simp);exact th b o' q (ne b o e hb)
structure Lv(X:Cx)(E:XK):Prop where
 ex:X.ex=[]
 stk:X.stack=X.env::X.outer
 fr:X.env.frame=some X.env.locals
 xe:X.xe=λe s'=>wpAny (model X.prog X.w) X.A (leaving X.env e) (λ_ s''=>CX1 X.prog X.w X.outer X.H₀ X.s₀ E e s'') (λe' s''=>CX1 X.prog X.w X.outer X.H₀ X.s₀ E e' s'') s'
theorem tY{P:Program}{w:World}{K:PySem.W.Frag}{mg:Str→Option Value}{base:Heap}{N:List Str}{qual:Str}{scope:Scope}{f:Addr}{cd:Value}{A:Around}{outer:List Env}{s:Shared}{H:Hp}{E:XK} :
  Lv (fM (CX1 P w) P w K mg base N qual scope f cd A outer s H E) E:=⟨rfl,rfl,rfl,rfl⟩
theorem zQ(L:Lv X E):gM (CX1 X.prog X.w) X E:=by
 intro pins σ H s e s' I h;obtain⟨ea,C,H',rfl,F,hE⟩:=h;rw[L.xe];obtain⟨B,a0,fl,hB,kp,th⟩:=id F.fly;have fl':=fl;rw[L.stk]at fl';refine hZ (by rw[I.ok.frames,L.stk]) L.fr fl' λh' fl2 hs=>?_;obtain⟨u,ok⟩:=jz F.un fl hB kp th fl2.1 hs;have J:Inv X pins σ H' {s' with heap:=h'}:=I.call' (s':={s' with heap:=h'}) F.os u ok F.bare λb z=>absurd z (by simp)
 exact⟨ea,C,H',rfl,I.fly_up L.ex J F.new fl2 hB kp th,hE⟩
theorem Inv.ground(I:Inv X pins σ H s):(hideAll s.heap (frs X.stack)).StaysIn s.heap∧s.heap.FunFrames (hideAll s.heap (frs X.stack)) X.stack∧HOk X.prog X.w H (hideAll s.heap (frs X.stack)) :=
 ⟨λb o q=>of_hideAll _ q,PySem.W.funFrames_hide I.stack λenv he b hb=>mem_filterMap.mpr ⟨env,he,hb⟩,tX I.hok I.stkFree⟩
theorem zR(L:Lv X E)(I:Inv X pins σ H s){h':Heap}{vs:List Value}(hx:Heap.MadeExcOf s.heap h' ea (.ref C) vs)(hE:E (.ref C) none H):X.xe (.ref ea) {s with heap:=h'}:=by
 rw[L.xe];obtain⟨g1,g2,g3⟩:=I.ground;have g2':s.heap.FunFrames (hideAll s.heap (frs X.stack)) (X.env::X.outer):=L.stk ▸ g2;refine ft (s:={s with heap:=h'}) (by rw[I.ok.frames,L.stk]) L.fr g1 g2' hx λh'' t fl _ _ hs=>?_;have hs':s.heap.UpToSlots h'':=(Heap.UpToSlots.of_keeps hx.keeps).trans hs;have u:Un (frs X.stack) [] H H s.heap h'':=⟨λb o e n hb _=>fl.1 b o (hideAll_get _ e hb),λb o e n hb _=>by
   obtain⟨_,o',ho',hd⟩:=g2.mem hb;rw[e]at ho';cases ho';exact hs' b o e hd,λb o e n _=>n,λb o e _=>by
   by_cases hb:b∈frs X.stack
   ·obtain⟨_,o',ho',hd⟩:=g2.mem hb;obtain⟨sl,q⟩:=hs' b o' ho' hd;exact⟨_,q⟩
   ·exact⟨o,fl.1 b o (hideAll_get _ e hb)⟩,λ_ _ q=>q,λ_ _ _ q=>q,λb ps q=>⟨#[],by simpa using q⟩⟩
 have J:Inv X pins σ H {s with heap:=h''}:=I.call' (s':={s with heap:=h''}) rfl u (g3.kept fl.1) I.bare λb z=>absurd z (by simp)
 have new:H ea=none:=by
  cases q:H ea with
  |none=>rfl
  |some o =>
   obtain⟨ob,e⟩:=(I.hok ea o q).ex;have h2:=hx.new;rw[e]at h2;cases h2
 exact⟨ea,C,H,rfl,I.fly_up L.ex J new fl g3 (λb o e _ hb=>hideAll_get _ e hb) λb o e hb=>⟨o,hideAll_get _ e hb⟩,hE⟩
end
end L2
namespace XI
open PySem PySem.Spec PySem.W
section
variable{prog:Program}{w:World}{A:Around}{E:Value→Shared→Prop}{h:Heap}{g:Array GenState}{d:Drawn}{t:Nat}{os:OsState}{a:Addr}{o:Obj}{vs:Array Value}{nm q:Str}{C N:Addr}{bs bm:List Value}{hdct:Bool}{sn:List Str}{sub:List Value}{ab:Bool}{col:Option Bool}{dd:Option Addr}{k0 k1 k2 k3 k5:Option Value}{newId:String}
end
def zS(e C:Addr)(h:Heap):Prop:=∃o vs,h.get? e=some o∧o.cls=.ref C∧o.data=.fields vs
end XI
namespace L2
open PySem PySem.Spec PyProof.Rows
section
variable{X:Cx}{pins:List (Addr×Obj)}{σ:St}{H:Hp}{s:Shared}
def tF2(te:TE):TE:=λσ H Q=>te σ H λv H1=>∃i:Int,v=.int i∧0≤i∧i≤60∧∀y,Q (.str y) H1
theorem pI(i:Int)(h0:0≤i)(h1:i≤60):(ofString (toString i)).length≤100:=by
 have key:∀n:Fin 61,(ofString (toString ((n.val:Nat):Int))).length≤100:=by decide +kernel
 have:=key ⟨i.toNat,by omega⟩;have e:((i.toNat:Nat):Int)=i:=by omega
 rw[e]at this;exact this
theorem zT{x:Str}{j:Nat}{p1 p2 p3:Pos}{e:Expr}{te:TE}(he:PE X e te)(hx:x.length≤800):PE X (.JoinedStr [.Constant (.str x) j p1,.FormattedValue e (-1) none p2] p3) (tF2 te):=by
 intro pins s σ H Q I h;have hl:(empty++x).length≤800:=by rw[strLen_append];show 0+x.length≤800;omega
 refine JoinedStr_many (joinParts_cons (Constant_str ?_));refine⟨le_of_lt (aE (by omega)),?_⟩;refine joinParts_cons (FormattedValue_plain (thn (he pins _ σ H _ (I.tok _) h) λv s1 hpt=>?_));obtain⟨y,H1,I1,r1,q1⟩:=hpt;obtain⟨i,rfl,h0,h1,q⟩:=q1;obtain⟨t,rfl⟩:=r1;have h2:=pI i h0 h1;have h3:((empty++x)++ofString (toString i)).length≤1000:=by rw[strLen_append];omega
 refine formatField_int_small (lt_of_le_of_lt (Nat.log2_le_self _) (by omega)) ⟨le_of_lt (aE h3),?_⟩;exact joinParts_nil ⟨.str _,H1,(I1.tok _).tok _,⟨_,rfl⟩,q _⟩ (le_of_lt (aE h3))
abbrev bmV:List Value:=[.type "ValueError",.type "Exception",.type "BaseException",.type "object"]
abbrev zU(X:Cx)(x:Str)(C:Addr):Prop:=OwnCls x C bmV "ValueError.__new__" X.mg X.base
def yk(C:Addr)(E:XK)(ta:TE):TS:=λ_ σ H=>ir ta pb σ H λvs H1=>vs.length≤sizeLine∧E (.ref C) none H1
theorem nT{E:XK}(L:Lv X E){x:Str}{C:Addr}{np cpos pos:Pos}{a:Expr}{ta:TE}(O:zU X x C)(hh:X.A.handled=none)(hg:Gl X x)(ha:PE X a ta)(hs:starEach [a] X.env=[(false,eval a X.env)]:=by rfl)(hd:(x==("__debug__":Str))=false:=by decide):PS X (.Raise (some (.Call (.Name x np) [a] [] cpos)) none pos) (yk C E ta):=by
 intro pins s σ H D I h;obtain⟨tl,N,nm,q,bs,hdct,sn,sub,ab,col,dd,k0,k1,k2,k3,k5,mN,hC,hN,hni,T⟩:=O.obj;refine wpAny_Raise_call_subT (C:=C) (nm:=nm) (q:=q) (N:=N) (bs:=bs) (bm:=tl) (hdct:=hdct) (sn:=sn) (sub:=sub) (ab:=ab) (col:=col) (dd:=dd) (k0:=k0) (k1:=k1) (k2:=k2) (k3:=k3) (k5:=k5)
  PySem.F.excBase_ValueError (mN:=mN) (T.hasType PySem.F.excBase_ValueError.hasBase) hh (by rw[hs];rfl) hni (fE I hg O.bound ⟨rfl,?_⟩ hd)
 have hA:PA X [a] (ir ta pb):=aa ha af hs;have h':=hA cpos pins s σ H (λvs H1=>vs.length≤sizeLine∧E (.ref C) none H1) I h;rw[hs]at h'⊢;refine evalArgs_plain (thn h' λus s2 hpt=>?_);obtain⟨vs,H2,I2,r2,q2⟩:=hpt;exact⟨rfl,by rw[←r2.length];exact q2.1,I2.bk _ _ hC,hN.keeps I2.bk,T.keeps I2.bk,λh' e hx=>zR L I2 hx q2.2⟩
abbrev TX:=St→Hp→VK→XK→Prop
def XP(X:Cx)(pins:List (Addr×Obj))(σ:St)(E:XK)(e:Value)(s':Shared):Prop:=∃ea C H' H1 s1,e=.ref ea∧Inv X pins σ H1 s1∧Fly X.prog X.w X.stack H1 s1 H' ea C s'∧E (.ref C) none H'
def PX(X:Cx)(e:Expr)(t:TX):Prop :=
 ∀(pins:List (Addr×Obj))(s:Shared)(σ:St)(H:Hp)(Q:VK)(E:XK),Inv X pins σ H s→t σ H Q E→wpAny (model X.prog X.w) X.A (eval e X.env) (EP X pins σ Q) (XP X pins σ E) s
def ym(sp:Sp)(t:TA):TX:=λσ H Q E=>t σ H λvs H1=>sp vs H1 Q E
theorem vU(hno:∀e s,¬X.xe e s){k:Nat}{f:Addr}{fd:FuncData}{ps:List Str}{sp:Sp}{x:Str}{p pos:Pos}{e:Expr}{es:List Expr}{t:TA}(F:FnOk X.prog X.w X.K X.mg X.base (CX1 X.prog X.w) k f fd ps sp)(hr:Room k X.A)(hg:Gl X x)(hm:X.mg x=some (.ref f))(hk:keepIn X.K (.ref f)=true)(hb:cP X.K fd ps [])(ha:PA X (e::es) t)(hdb:(x==("__debug__":Str))=false:=by decide)(he:starEach (e::es) X.env=(false,eval e X.env)::starEach es X.env:=by rfl)(hpl:(backTo pos (starEach es X.env)).any (·.1)=false:=by rfl):
  PX X (.Call (.Name x p) (e::es) [] pos) (ym sp t):=by
 intro pins s σ H Q E I h;refine wpAny_Call_Name_kw (fE I hg hm ?_ hdb);refine callWith_K (h₀:=X.base) I.ok.mod.kin hk (wpAny_mono (ha pos pins s σ H _ I h) (λus s1 ⟨vs,H1,I1,r,q⟩=>⟨I1.kIn,?_⟩) λ_ _ z=>absurd z (hno _ _)) he hpl;have hl:us.length=ps.length:=by rw[←r.length];exact F.len _ _ _ _ q
 have hb':=hb s1 us I1.kIn (by rw[append_nil];exact hl);rw[append_nil]at hb';refine wpAny_call (codeAny_mono (F.run X.A X.stack s1 H1 ⟨us,[]⟩ us vs Q E hr I1.env0 hb' r q) λr s' hq=>?_);cases r with
 |error e =>
  obtain⟨ea,C,H',rfl,fl,hE⟩:=hq;exact⟨ea,C,H',H1,s1,rfl,I1,fl,hE⟩
 |ok fl =>
  cases fl with
  |ret u=>exact I1.after hq
  |next=>exact False.elim hq
  |brk=>exact False.elim hq
  |cont=>exact False.elim hq
theorem vV{M:Model}{A:Around}{E:Value→Shared→Prop}{nm q:Str}{C N:Addr}{bs bm:List Value}{hdct:Bool}{sn:List Str}{sub:List Value}{ab:Bool}{col:Option Bool}{dd:Option Addr}{k0 k1 k2 k3 k5:Option Value}{newId:String}{h:Heap}{g:Array GenState}{d:Drawn}{t:Nat}{os:OsState}{e T:Addr}{oe:Obj}{Q:Bool→Shared→Prop}(hT:h.get? T=some (excClassObj nm q T N bs bm hdct sn sub ab col dd k0 k1 k2 k3 k5 newId))(hbase:bm.contains (.type "BaseException")=true)(LCT:Looks M h (isSubtype (.ref C) (.ref T)) true)(he:h.get? e=some oe)(hcls:oe.cls=.ref C)(hq:Q true ⟨h,g,d,t,os⟩):wpAny M A (excMatches (.ref e) (.ref T)) Q E ⟨h,g,d,t,os⟩:=by
 have hcB:(Value.ref T::bm).contains (.type "BaseException")=true:=by rw[List.contains_cons,hbase,Bool.or_true]
 have f:=tc_notTuple;unfold excMatches
 repeat (first|(with_reducible refine wpAny_loadPart_at he ?_;rw[hcls])|with_reducible refine LCT.at ?_|with_reducible refine wpAny_loadPart_at hT ?_|(with_reducible refine wpAny_isSubtype_exc hT ?_;rw[hcB])|wp_step)
 exact hq
theorem Inv.caught{H':Hp}{ea C:Addr}{s':Shared}{B h6:Heap}{a0:Value}(I:Inv X pins σ H s)(F:Fly X.prog X.w X.stack H s H' ea C s')(fl:Heap.FlyingN B X.stack ea (.ref C) a0 s'.heap)(hB:HOk X.prog X.w H' B)(kp:∀b o,s.heap.get? b=some o→H b=none→b∉frs X.stack→B.get? b=some o)(th:∀b o,s.heap.get? b=some o→b∉frs X.stack→∃o',B.get? b=some o')(f6:Heap.FlyingN B X.stack ea (.ref C) a0 h6)(hs:s'.heap.UpToSlots h6):
  Inv X pins σ (upd H' ea (.ext (XI.zS ea C))) {s' with heap:=h6}:=by
 obtain⟨u,ok⟩:=jz F.un fl hB kp th f6.1 hs;obtain⟨oe,vs,g1,g2,g3,_⟩:=f6.first;have ne:∀b o,s.heap.get? b=some o→b≠ea:=λb o e z=>by
  by_cases hb:b∈frs X.stack
  ·obtain⟨_,o',ho',hd⟩:=f6.2.2.1.mem hb;rw[z,g1]at ho';cases ho';exact hd _ g3
  ·obtain⟨o',q⟩:=th b o e hb;rw[z,f6.2.1]at q;cases q
 have ner:∀b u,H' b=some u→b≠ea:=λb u e z=>by rw[z,F.new]at e;cases e
 refine I.call' (s':={s' with heap:=h6}) F.os ⟨u.keep,u.slot,λb o e n hx=>?_,u.there,λb xs e=>?_,λb o v e=>?_,λb ps e=>?_⟩ (λb ob e=>?_) F.bare λb z=>absurd z (by simp)
 ·rw[al (ne b o e)];exact u.free b o e n hx
 ·have:=u.tups b xs e;rw[al (ner b _ this)];exact this
 ·have:=u.frzs b o v e;rw[al (ner b _ this)];exact this
 ·obtain⟨more,this⟩:=u.tbls b ps e;exact⟨more,by rw[al (ner b _ this)];exact this⟩
 ·by_cases hb:b=ea
  ·subst hb;rw[ac]at e;cases e;refine⟨⟨oe,vs,g1,g2,g3⟩,⟨oe,g1⟩,λh1 h2 ⟨o,vs,a1,a2,a3⟩ k=>⟨o,vs,k o a1,a2,a3⟩⟩
  ·rw[al hb]at e;exact(ok b ob e).stay (λ_ _ _ q=>q) (λc q=>by rw[al (ner c _ q)];exact q) λc xs q=>by rw[al (ner c _ q)];exact q
structure TryOk(X:Cx):Prop where
 no:∀e s,¬X.xe e s
 stk:X.stack=X.env::X.outer
 fr:X.env.frame=some X.env.locals
end
end L2
namespace DL
open PySem PySem.Spec PyProof.Rows
theorem jA:entryFor table "dict.update.loop"=some Builtin.«dict.update.loop»:=entryFor_of_tree (by kernel_rfl)
theorem dI:plainId "dict.update.loop"=true:=by decide +kernel
theorem ma:typeLookup (.type "list") "keys"=pure none:=by rw[typeLookup_type,builtinLookup_eq_fast];kernel_rfl
section
variable{prog:Program}{w:World}{A:Around}{E:Value→Shared→Prop}{s:Shared}
theorem vW{a:Addr}{xs:Array Value}{k:Nat}{sl:Array (Option Value)}{u:Tok}{Q:Value→Shared→Prop}(hx:s.heap.get? a=some {cls:=.type "list",dict:=none,data:=.seq xs k,slots:=sl})(hA:L2.eA A s.heap)(h:∀h' tk e,NewExcOf s.heap h' e "AttributeError"→E (.ref e) {s with heap:=h',toks:=tk}):
  wpAny (model prog w) A (getAttrBy (.ref a) (.str "keys" u) false) Q E s:=by
 obtain⟨hp,g,d,tk,os⟩:=s;have hT:∀tk',(⟨hp,g,d,tk',os⟩:Shared).TypeIs (.ref a) "list":=λ_=>⟨_,hx,rfl⟩;have f1:=sub_AttributeError;have f3:=F.slot_list_getattribute.lookup;have f4:=F.slot_list_getattribute.bind (.ref a);have f5:=am_list_getattr_none;unfold getAttrBy
 repeat (any_goals (first|assumption|exact hT _|((with_reducible show wpAny _ _ (call (Value.builtin "list.__getattribute__") _ _) _ _ _);refine wpAny_call_entry F.slot_list_getattribute (hT _) am_entry_list_getattribute (L2.ya hx ma (by decide) (by size_fits) (by exact hA.in1) λh' tk' e hx'=>?_) (F.args_list_getattribute_2 _ _))|wp_step))
 obtain⟨⟨oc,od,odt,osl⟩,vs,he,hc,_,_⟩:=hx'.there;simp only at hc;subst hc
 repeat (any_goals (first|assumption|with_reducible refine wpAny_loadPart_at he ?_|wp_step))
 exact h _ _ _ hx'
theorem vX{a:Addr}{xs:Array Value}{k:Nat}{sl:Array (Option Value)}{Q:Option Value→Shared→Prop}(hx:s.heap.get? a=some {cls:=.type "list",dict:=none,data:=.seq xs k,slots:=sl})(hA:L2.eA A s.heap)(h:∀h' tk,(∀b o,s.heap.get? b=some o→h'.get? b=some o)→Q none {s with heap:=h',toks:=tk}):
  wpAny (model prog w) A (getAttr? (.ref a) "keys") Q E s:=by
 obtain⟨hp,g,d,tk,os⟩:=s;have f1:=sub_AttributeError;unfold getAttr? getAttrBy?
 repeat (any_goals (first|assumption|((with_reducible show wpAny _ _ (getAttrBy _ _ false) _ _ _);refine vW (s:=⟨hp,g,d,_,os⟩) hx hA λh' tk' e hx'=>?_)|wp_step))
 obtain⟨⟨oc,od,odt,osl⟩,vs,he,hc,_,_⟩:=hx'.there;simp only at hc;subst hc
 repeat (any_goals (first|assumption|with_reducible refine wpAny_loadPart_at he ?_|wp_step))
 exact h h' tk' λb o e=>hx'.keeps b o e
end
section
variable{prog:Program}{w:World}{A:Around}{E:Value→Shared→Prop}{R:Result→Shared→Prop}{I:Addr}{fp wr:List Addr}{G:Array GenState→Array GenState→Prop}{n:Nat}{P:Nat→Value→Prop}{St:Nat→Shared→Prop}
theorem rO(W:WalksS prog w A.in1 I fp wr G n P St)(d:Addr)(hdf:d∉fp)(ad:Nat→Addr)(kk vv:Nat→Value)(hval:∀i v,P i v→v=.ref (ad i))(had:∀i,i<n→ad i∉d::wr)(D:Nat→Heap→Prop)(hD:∀i (h h':Heap),D i h→(∀b o,b∉wr→h.get? b=some o→h'.get? b=some o)→D i h')(step:∀i (s:Shared) (E:Value→Shared→Prop) (Q:Unit→Shared→Prop),i<n→D i s.heap→(∀h' tk,s.toks≤tk→SameBut d s.heap h'→D (i+1) h'→Q () {s with heap:=h',toks:=tk})→wpAny (model prog w) A.in1 (dictSet d (kk i) (vv i)) Q E s):
  ∀(k i:Nat)(s:Shared)(tk:Tok),n-i=k→i≤n→St i s→D i s.heap→(∀j,j<n→IsTup s.heap (ad j) #[kk j,vv j]) →
   (∀s',Moved (d::wr) G s s'→D n s'.heap→R (.ok (.ret .none)) s') →
   codeAny (model prog w) A (.builtin "dict.update.loop" ⟨[.ref d,.ref I,.int i tk,.none],[]⟩) R s:=by
 have hdw:d∉wr:=λh=>hdf (W.sub _ h);have hsub:∀b∈wr,b∈d::wr:=λb hb=>mem_cons_of_mem _ hb;have hadw:∀i,i<n→ad i∉wr:=λi hi h=>had i hi (mem_cons_of_mem _ h);have hadd:∀i,i<n→ad i≠d:=λi hi h=>had i hi (by rw[h];exact mem_cons_self);intro k
 induction k with
 |zero =>
  intro i s tk hk hi hst hDi htp hR;have hin:i=n:=by omega
  subst hin;refine codeAny_builtin jA ?_;rw[Around.under_plainId dI _];show wpAny _ A.in1 (pyNext (.ref I) >>= _) _ _ s;refine wpAny_bind (W.done s _ _ hst λs' hm=>?_);show wpAny _ A.in1 (Builtin.Dict.addKeywords d [] >>= λ_=>ret Value.none) _ _ s';exact wpAny_bind (wpAny_pure (wpAny_pure (hR s' (hm.mono hsub) (hD _ _ _ hDi hm.heap))))
 |succ k ih =>
  intro i s tk hk hi hst hDi htp hR;have hlt:i<n:=by omega
  refine codeAny_builtin jA ?_;rw[Around.under_plainId dI _];show wpAny _ A.in1 (pyNext (.ref I) >>= _) _ _ s;refine wpAny_bind (W.item i s _ _ hlt hst λv s' hP hst' hm=>?_);have hv:=hval i v hP;subst hv;have hDi':D i s'.heap:=hD _ _ _ hDi hm.heap;have htp':∀j,j<n→IsTup s'.heap (ad j) #[kk j,vv j]:=λj hj=>by
   obtain⟨o,ho,r⟩:=htp j hj;exact⟨o,hm.heap _ o (hadw j hj) ho,r⟩
  obtain⟨ot,hot,hct,nt,hdt⟩:=htp' i hlt;have hT:s'.TypeIs (.ref (ad i)) "tuple":=⟨ot,hot,hct⟩;refine wpAny_bind (wpAny_holding ?_);refine wpAny_bind (wpAny_tryCatch ?_);unfold Builtin.Dict.pairItems;refine wpAny_bind (wpAny_typeOf hT ?_);rw[if_pos (by decide)];generalize hDS:dictSet=DS;obtain⟨hp,g,dr,t,os⟩:=s';obtain⟨ocls,odict,odata,oslots⟩:=ot;simp only at hct hdt;subst hct hdt
  repeat (any_goals (first|assumption|with_reducible refine wpAny_loadPart_at hot ?_|wp_step))
  subst hDS;refine step i _ _ _ hlt hDi' λh' tk' htk hsb hD'=>?_;have hsb':SameBut d hp h':=hsb;have hkeep:∀b o,b∉d::wr→hp.get? b=some o→h'.get? b=some o:=λb o hb e=>by
   rw[hsb'.2 b (λz:b=d=>hb (by rw[z];exact mem_cons_self))];exact e
  refine wpAny_pure ⟨plainId_quiet dI _,?_⟩;refine ih (i+1) _ _ (by omega) hlt (W.frame _ _ _ _ hst' htk λb hb o e=>?_) hD' (λj hj=>?_) λs'' hm'' hD''=>?_
  ·rw[hsb'.2 b (λh:b=d=>hdf (by rw[←h];exact hb))];exact e
  ·obtain⟨o,ho,r⟩:=htp' j hj;exact⟨o,hkeep _ o (had j hj) ho,r⟩
  ·exact hR s'' (Moved.trans W.gtrans ((hm.mono hsub).then_heap htk λb o hb e=>hkeep b o hb e) hm'') hD''
end
section
variable{prog:Program}{w:World}{A:Around}{E:Value→Shared→Prop}{s:Shared}
theorem jB{l:Addr}{items:Array Value}{nl:Nat}{sl:Array (Option Value)}{Q:Value→Shared→Prop}(hh:L2.eA A s.heap)(hl:s.heap.get? l=some {cls:=.type "list",dict:=none,data:=.seq items nl,slots:=sl})(ad:Nat→Addr)(kk vv:Nat→Value)(hi:∀(i:Nat) (v:Value),items[i]?=some v→v=Value.ref (ad i))(ht:∀i,i<items.size→IsTup s.heap (ad i) #[kk i,vv i])(D:Nat→Heap→Prop)(hD0:∀h',h'.get? s.heap.objs.size=some {cls:=.type "dict",data:=.dict #[]}→(∀b o,s.heap.get? b=some o→h'.get? b=some o)→D 0 h')(hD:∀i (h h':Heap),D i h→(∀b o,b≤s.heap.objs.size→h.get? b=some o→h'.get? b=some o)→D i h')(step:∀i (s':Shared) (E:Value→Shared→Prop) (Q:Unit→Shared→Prop),i<items.size→D i s'.heap→(∀h' tk,s'.toks≤tk→SameBut s.heap.objs.size s'.heap h'→D (i+1) h'→Q () {s' with heap:=h',toks:=tk}) →
   wpAny (model prog w) A.in1.in1 (dictSet s.heap.objs.size (kk i) (vv i)) Q E s')(h:∀h' tk,D items.size h'→(∀b o,s.heap.get? b=some o→h'.get? b=some o)→Q (.ref s.heap.objs.size) {s with heap:=h',toks:=tk}):
  wpAny (model prog w) A (call (.type "dict") [.ref l]) Q E s:=by
 refine callType_codes (Q₁:=λobj s₁=>obj=.ref s.heap.objs.size∧s₁={s with heap:=s.heap.push {cls:=.type "dict",data:=.dict #[]}}) F.kt_called_dict (F.kt_typeCall_dict_1 _) F.entry_dict_init (kt_code_dict_new _ ⟨rfl,rfl⟩) ?_;rintro obj s₁ ⟨rfl,rfl⟩;have hnew:(s.heap.push {cls:=.type "dict",data:=.dict #[]}).get? s.heap.objs.size=some {cls:=.type "dict",data:=.dict #[]}:=get?_push_size _ rfl;have hTd:Shared.TypeIs {s with heap:=s.heap.push {cls:=.type "dict",data:=.dict #[]}} (.ref s.heap.objs.size) "dict":=⟨_,hnew,rfl⟩
 have hl':(s.heap.push {cls:=.type "dict",data:=.dict #[]}).get? l=some {cls:=.type "list",dict:=none,data:=.seq items nl,slots:=sl}:=get?_push_of_some _ hl;have hTl:Shared.TypeIs {s with heap:=s.heap.push {cls:=.type "dict",data:=.dict #[]}} (.ref l) "list":=⟨_,hl',rfl⟩
 refine⟨hTd,F.args_dict_init_2 _ _,?_⟩;unfold Builtin.«dict.__init__»;refine wpAny_bind ?_;unfold Builtin.Dict.selfAndRest;refine wpAny_bind (wpAny_notOrdered_dict hTd ?_);show wpAny _ _ (pure (s.heap.objs.size,[Value.ref l])) _ _ _;refine wpAny_pure ?_;show wpAny _ _ (Builtin.Dict.updateFrom "dict.__init__" s.heap.objs.size (.ref l) [] .none) _ _ _;unfold Builtin.Dict.updateFrom;refine wpAny_bind (wpAny_typeOf hTl ?_);rw[if_pos (by decide)];refine wpAny_bind (vX (s:={s with heap:=s.heap.push {cls:=.type "dict",data:=.dict #[]}}) hl' (hh.keep λb o e=>get?_push_of_some _ e).in1.in1 λh1 tk1 hk1=>?_);have hk1':∀b o,(s.heap.push {cls:=.type "dict",data:=.dict #[]}).get? b=some o→h1.get? b=some o:=hk1;have hL1:h1.IsList l items:=⟨_,hk1' _ _ hl',rfl,nl,rfl⟩;rw[if_pos (show(none:Option Value).isNone=true from rfl)];refine wpAny_bind (wpAny_rule ?_);refine wpAny_bind (wpAny_pyIter_list hL1 ?_);have hlS:l<s.heap.objs.size:=lt_size hl;have hS1:s.heap.objs.size<h1.objs.size:=lt_size (hk1' _ _ hnew);have k0:∀b o,s.heap.get? b=some o→h1.get? b=some o:=λb o e=>hk1' b o (get?_push_of_some _ e);have hadlt:∀i,i<items.size→ad i<s.heap.objs.size:=λi hi'=>by
  obtain⟨o,ho,_⟩:=ht i hi';exact lt_size ho
 obtain⟨fp,St,W,hfp,mkS,_⟩:=L2.cz (prog:=prog) (w:=w) hh.in1.in1 h1.objs.size l (ne_of_lt (lt_trans hlS hS1)) (le_of_lt hS1) items;refine wpAny_pure ⟨plainId_quiet dI _,rO (A:=A.in1) W.toS s.heap.objs.size ?hdf ad kk vv hi ?had D ?hD' (λi s' E Q hi' hDi hq=>step i s' E Q hi' hDi hq)
  (items.size-0) 0 _ 0 (by omega) (zero_le _) (mkS 0 _ ⟨_,get?_push_size _ rfl,rfl,rfl⟩ (hL1.push _) λb o e=>get?_push_of_some _ (k0 b o e)) ?hD0' ?ht' λs' hm hDn=>?_⟩
 case hdf =>
  intro hb;rcases hfp _ hb with e|e|⟨o,_,e,_⟩
  ·exact ne_of_lt hS1 e
  ·exact ne_of_gt hlS e
  ·exact lt_irrefl _ (lt_size e)
 case had =>
  intro i hi';simp only[mem_cons,not_mem_nil,or_false,not_or];exact⟨ne_of_lt (hadlt i hi'),ne_of_lt (lt_trans (hadlt i hi') hS1)⟩
 case hD' =>
  intro i g g' hDi hk;refine hD i g g' hDi λb o hb e=>hk b o ?_ e;simp only[mem_cons,not_mem_nil,or_false];exact ne_of_lt (lt_of_le_of_lt hb hS1)
 case hD0' =>
  exact hD0 _ (get?_push_of_some _ (hk1' _ _ hnew)) λb o e=>get?_push_of_some _ (k0 b o e)
 case ht' =>
  intro j hj;obtain⟨o,ho,r⟩:=ht j hj;exact⟨o,get?_push_of_some _ (k0 _ _ ho),r⟩
 obtain⟨h',g',d',tk',os'⟩:=s';have eg:g'=s.gens:=hm.gens;have ed:d'=s.drawn:=hm.drawn;have eo:os'=s.os:=hm.os;subst eg;subst ed;subst eo;refine⟨rfl,h h' tk' hDn λb o e=>?_⟩;have hb:b<s.heap.objs.size:=lt_size e;refine hm.heap b o ?_ (get?_push_of_some _ (k0 b o e));simp only[mem_cons,not_mem_nil,or_false,not_or];exact⟨ne_of_lt hb,ne_of_lt (lt_trans hb hS1)⟩
end
end DL
namespace L2
open PySem PySem.Spec PyProof.Rows
section
variable{X:Cx}
theorem tZ{pins:List (Addr×Obj)}{σ:St}{H:Hp}{s:Shared}(I:Inv X pins σ H s){a:Addr}{x y:V}(h:H a=some (.tup [x,y])):∃u v,aH x u∧aH y v∧IsTup s.heap a #[u,v]:=by
 obtain⟨_,its,r,ht⟩:=I.hok a _ h;cases r with
 |cons r1 r =>
  cases r with
  |cons r2 r=>cases r;exact⟨_,_,r1,r2,by simpa using ht⟩
theorem ua{κ:Type}{pins:List (Addr×Obj)}{σ:St}{H:Hp}{s:Shared}(I:Inv X pins σ H s){zs:List (Addr×κ×V)}(kf:Addr×κ×V→V)(hk:∀z∈zs,H z.1=some (.tup [kf z,z.2.2])):
  ∃f:Addr×κ×V→Value×Value,∀z∈zs,aH (kf z) (f z).1∧aH z.2.2 (f z).2∧IsTup s.heap z.1 #[(f z).1,(f z).2]:=by
 have hch:∀z:Addr×κ×V,∃p:Value×Value,z∈zs→aH (kf z) p.1∧aH z.2.2 p.2∧IsTup s.heap z.1 #[p.1,p.2]:=λz=>by
  by_cases hz':z∈zs
  ·obtain⟨u,v,a,b,c⟩:=tZ I (hk z hz');exact⟨(u,v),λ_=>⟨a,b,c⟩⟩
  ·exact⟨(.none,.none),λh=>absurd h hz'⟩
 exact⟨λz=>Classical.choose (hch z),λz hz=>Classical.choose_spec (hch z) hz⟩
theorem aY{α:Type}{l:List α}{i:Nat}{d:α}(h:i<l.length):l.getD i d∈l∧l[i]?=some (l.getD i d):=by
 rw[getD_eq_getElem?_getD,getElem?_eq_getElem h];exact⟨getElem_mem h,rfl⟩
theorem rP{κ:Type}{zs:List (Addr×κ×V)}{d:Addr×κ×V}{i:Nat}{v:Value}(h:(((zs.map (·.1)).map Value.ref).toArray)[i]?=some v):v=Value.ref (zs.getD i d).1:=by
 have h':((zs.map (·.1)).map Value.ref)[i]?=some v:=by simpa using h
 rw[getElem?_map,getElem?_map]at h';rw[getD_eq_getElem?_getD];cases e:zs[i]? with
 |none=>rw[e]at h';cases h'
 |some z=>rw[e]at h';exact(Option.some.inj h').symm
theorem eT{α:Type}{l:List α}{i:Nat}{x:α}(h:l[i]?=some x):l.take (i+1)=l.take i++[x]:=by rw[take_succ,h];rfl
theorem rQ{α κ:Type}{l:List α}{f:α→κ}{i:Nat}{x:α}(hn:(l.map f).Nodup)(h:l[i]?=some x):f x∉(l.take i).map f:=by
 intro hm;obtain⟨y,hy,e⟩:=mem_map.mp hm;obtain⟨j,hj,e2⟩:=mem_iff_getElem.mp hy;have hj':j<i:=by rw[length_take]at hj;omega
 have hi:i<l.length:=(List.getElem?_eq_some_iff.mp h).1;have e3:(l.map f)[j]'(by rw[length_map];omega)=(l.map f)[i]'(by rw[length_map];omega):=by
  rw[getElem_map,getElem_map];rw[List.getElem_take]at e2;rw[e2,e,(List.getElem?_eq_some_iff.mp h).2]
 have:=(getElem_inj hn).mp e3;omega
theorem eD(hc:HdX X):bX X (.type "dict") (λxs H Q=>∃l,∃zs:List (Addr×Key×V),xs=[.ref l]∧H l=some (.lst ((zs.map (·.1)).map V.ref))∧(∀z∈zs,H z.1=some (.tup [kV z.2.1,z.2.2]))∧zs.length≤1000 ∧
  (zs.map (·.2.1)).Nodup∧((∀d o,H d=none→Q (.ref d) (upd H d (.frz o (.dK (zs.map (·.2))))))∨∀d,H d=none→Q (.ref d) (upd H d (.dK (zs.map (·.2)))))):=by
 intro pins s σ H xs us Q I r h;obtain⟨l,zs,rfl,hl,hk,hz,hnd,q⟩:=h;obtain⟨u,rfl,ru⟩:=cv r;cases ru;obtain⟨_,its,nl,rv,ho⟩:=I.hok l _ hl;have e:=cU rv;subst e;obtain⟨f,hf⟩:=ua I (λz=>kV z.2.1) hk;have hsz:(((zs.map (·.1)).map Value.ref).toArray).size=zs.length:=by simp
 refine DL.jB (s:=s) (hc _ _ _ _ I) ho (λi=>(zs.getD i (0,.inl 0,.non)).1) (λi=>(f (zs.getD i (0,.inl 0,.non))).1) (λi=>(f (zs.getD i (0,.inl 0,.non))).2) (λi v hv=>rP hv) (λi hi=>?_)
  (λi h'=>h'.DictOf (aw X.prog X.w) s.heap.objs.size ((zs.take i).map λz=>(z.2.1,(f z).2))) (λh' hg _=>?_) (λi g g' hd hk=>?_) (λi s' E Q hi hd hq=>?_) λh' tk hd hkeep=>?_
 ·rw[hsz]at hi;exact(hf _ (aY hi).1).2.2
 ·exact⟨_,#[],0,hg,⟨rfl,rfl,rfl⟩,rfl,λ_ he=>by simp at he,Pairs.nil,nodup_nil⟩
 ·obtain⟨o,es,ep,ho,r⟩:=hd;exact⟨o,es,ep,hk _ o (le_refl _) ho,r⟩
 ·rw[hsz]at hi;obtain⟨hm,hg⟩:=aY (d:=((0,.inl 0,.non):Addr×Key×V)) hi;refine wpAny_dictSet_pairs (hsz:=by rw[length_map,length_take];have:=aE hz;omega) (k:=(zs.getD i (0,.inl 0,.non)).2.1) (eZ (hf _ hm).1) hd λh' hd' hs=>hq h' _ (le_succ _) hs ?_;have e1:=eT hg;have e2:=rQ hnd hg;rw[e1,map_append];unfold stored at hd';rw[if_neg]at hd'
  ·exact hd'
  ·intro ha;obtain⟨p,hp,he⟩:=any_eq_true.mp ha;obtain⟨z,hz',rfl⟩:=mem_map.mp hp;exact e2 (mem_map.mpr ⟨z,hz',of_decide_eq_true he⟩)
 ·rw[hsz,take_length]at hd;obtain⟨ob,hob⟩:∃ob,h'.get? s.heap.objs.size=some ob:=let⟨o,_,_,ho,_⟩:=hd;⟨o,ho⟩;have hrel:KV (zs.map (·.2)) (zs.map λz=>(z.2.1,(f z).2)):=by
   have:∀ys:List (Addr×Key×V),(∀z∈ys,z∈zs)→KV (ys.map (·.2)) (ys.map λz=>(z.2.1,(f z).2)):=by
    intro ys
    induction ys with
    |nil=>intro _;exact .nil
    |cons z ys ih=>intro hm;exact .cons ⟨rfl,(hf z (hm z (by simp))).2.1⟩ (ih λy hy=>hm y (by simp[hy]))
   exact this zs λz hz=>hz
  have hdk:∀H':Hp,bA X.prog X.w H' h' s.heap.objs.size (.dK (zs.map (·.2))):=λH'=>lP (le_of_lt (aE (by rw[length_map];exact hz))) (beq_eq_false_iff_ne.mpr (symm (ne_of_lt I.big))) hrel hd;rcases q with q|q
  ·exact⟨.ref s.heap.objs.size,_,I.laid (t':=tk) (o:=.frz ob (.dK (zs.map (·.2)))) hkeep (le_refl _) ⟨hob,hdk _⟩,rfl,q _ ob (I.hok.fresh (le_refl _))⟩
  ·exact⟨.ref s.heap.objs.size,_,I.laid (t':=tk) (o:=.dK (zs.map (·.2))) hkeep (le_refl _) (hdk _),rfl,q _ (I.hok.fresh (le_refl _))⟩
theorem cu(hc:X.calm=true):bX X (.type "dict") (λxs H Q=>∃l,∃zs:List (Addr×Key×V),xs=[.ref l]∧H l=some (.lst ((zs.map (·.1)).map V.ref))∧(∀z∈zs,H z.1=some (.tup [kV z.2.1,z.2.2]))∧zs.length≤1000∧(zs.map (·.2.1)).Nodup∧∀d,H d=none→Q (.ref d) (upd H d (.dK (zs.map (·.2))))) :=
 λpins s σ H xs us Q I r ⟨l,zs,h1,h2,h3,h4,h5,q⟩=>eD (HdX.of hc) pins s σ H xs us Q I r ⟨l,zs,h1,h2,h3,h4,h5,.inr q⟩
theorem nU(hc:HdX X):bX X (.type "dict") (λxs H Q=>∃l,∃zs:List (Addr×Key×V),xs=[.ref l]∧H l=some (.lst ((zs.map (·.1)).map V.ref))∧(∀z∈zs,H z.1=some (.tup [kV z.2.1,z.2.2]))∧zs.length≤1000∧(zs.map (·.2.1)).Nodup∧∀d o,H d=none→Q (.ref d) (upd H d (.frz o (.dK (zs.map (·.2)))))) :=
 λpins s σ H xs us Q I r ⟨l,zs,h1,h2,h3,h4,h5,q⟩=>eD hc pins s σ H xs us Q I r ⟨l,zs,h1,h2,h3,h4,h5,.inl q⟩
theorem md(hc:HdX X):bX X (.type "dict") (λxs H Q=>∃l,∃zs:List (Addr×Key×V),xs=[.ref l]∧H l=some (.lst ((zs.map (·.1)).map V.ref))∧(∀z∈zs,H z.1=some (.tup [kV z.2.1,z.2.2]))∧zs.length≤1000∧(zs.map (·.2.1)).Nodup∧∀d,H d=none→Q (.ref d) (upd H d (.dK (zs.map (·.2))))) :=
 λpins s σ H xs us Q I r ⟨l,zs,h1,h2,h3,h4,h5,q⟩=>eD hc pins s σ H xs us Q I r ⟨l,zs,h1,h2,h3,h4,h5,.inr q⟩
end
def yn(h:Heap)(d:Addr)(es:Array DictEntry)(ep:Nat):Prop:=∃o,h.get? d=some o∧o.ExactDict∧o.data=.dict es ep
section
variable{prog:Program}{w:World}{A:Around}{E:Value→Shared→Prop}{s:Shared}
theorem nV{d:Addr}{es:Array DictEntry}{ep:Nat}{Q:Value→Shared→Prop}(hd:(d==sysModules)=false)(hm:yn s.heap d es ep)(hQ:Q (.ref s.heap.objs.size) {s with heap:=s.heap.push {cls:=.type "dict_keyiterator",data:=.fields #[.ref d,.int 0 0,.int es.size 0,.int ep 0]}}):
  wpAny (model prog w) A (pyIter (.ref d)) Q E s:=by
 obtain⟨o,ho,hc,hdat⟩:=id hm;have hT:s.TypeIs (.ref d) "dict":=⟨o,ho,hc.1⟩;refine wpAny_pyIter_slot hT PySem.F.slot_dict_iter (wpAny_call_entry PySem.F.slot_dict_iter hT PySem.F.entry_dict_iter ?_ (PySem.F.args_dict_iter_1 _));unfold Builtin.«dict.__iter__»;refine wpAny_bind ?_;unfold Builtin.Dict.dictSlotNone;refine wpAny_bind (wpAny_notOrdered_dict hT ?_);show wpAny _ _ (pure (Value.ref d)) _ _ s;refine wpAny_pure ?_;show wpAny _ _ (Builtin.Dict.showsAll d >>= _) _ _ s;unfold Builtin.Dict.showsAll;rw[if_neg (by rw[hd];exact Bool.false_ne_true)];refine wpAny_bind (wpAny_pure ?_);refine wpAny_bind (wpAny_dictEntries ho hdat ?_);refine wpAny_bind (wpAny_dictEpoch ho hdat ?_);refine wpAny_bind (wpAny_newObj_type (wpAny_pure ⟨_,rfl,"dict_keyiterator",_,⟨_,get?_push_size _ rfl,rfl⟩,slot_dict_keyiterator_next.lookup,?_⟩));simpa [rawInt]using hQ
theorem uc{it d:Addr}{i ep:Nat}{es:Array DictEntry}{e:DictEntry}{Q:Option Value→Shared→Prop}(hit:s.heap.IsKeyIter it d i es.size ep)(hm:yn s.heap d es ep)(hx:es[i]?=some e)(hQ:∀h',h'.IsKeyIter it d (i+1) es.size ep→SameBut it s.heap h'→Q (some e.key) {s with heap:=h'}):
  wpAny (model prog w) A (pyNext (.ref it)) Q E s:=by
 obtain⟨o,ho,hc,hd⟩:=id hit;obtain⟨od,hod,hcd,hdd⟩:=id hm;unfold pyNext;refine wpAny_bind (wpAny_attempt (wpAny_callSpecial?_slot (name:=ofString "__next__") hit.typeIs slot_dict_keyiterator_next
  (wpAny_call_entry slot_dict_keyiterator_next hit.typeIs PySem.F.entry_dict_keyiterator_next ?_ (PySem.F.args_dict_keyiterator_next_1 _))))
 refine wpAny_bind (wpAny_pure ?_);refine wpAny_bind ?_;refine wpAny_bind ?_
 first|refine wpAny_bind (wpAny_typeNameOfWhole_keyiter hit.typeIs (wpAny_pure ?_))|refine wpAny_bind (wpAny_typeNameOf_keyiter hit.typeIs (wpAny_pure ?_))
 refine wpAny_bind (wpAny_fieldsOf ho hd ?_);have hown:Builtin.Dict_items.ownsTuple "dict_keyiterator"=false:=by decide
 simp only[hown,false_eq_true,if_false];show wpAny _ _ (if (Value.ref d==Value.none)=true then _ else _) _ _ s
 rw[if_neg (show ¬((Value.ref d==Value.none)=true)from Bool.false_ne_true)];refine wpAny_bind (wpAny_pure ?_);refine wpAny_bind (wpAny_dictEntries hod hdd ?_);rw[if_neg (by simp)];refine wpAny_bind (wpAny_pure ?_);refine wpAny_bind (wpAny_dictEpoch hod hdd ?_);rw[if_neg (by simp)];refine wpAny_pure ?_;have hlt':i<es.size:=(Array.getElem?_eq_some_iff.mp hx).1;have he:es[i]=e:=(Array.getElem?_eq_some_iff.mp hx).2;simp only[show ¬((i:Int)<0)from by omega,if_false,toNat_natCast,Array.getElem?_eq_getElem hlt'];refine wpAny_bind ?_
 first|refine wpAny_bind (wpAny_typeNameOfWhole_keyiter hit.typeIs (wpAny_pure ?_))|refine wpAny_bind (wpAny_typeNameOf_keyiter hit.typeIs (wpAny_pure ?_))
 refine wpAny_bind (wpAny_isOneOf_keyiter hit.typeIs ?_);show wpAny _ _ (setField (.ref it) 1 (rawInt ((i:Int)+1)) >>= _) _ _ s;refine wpAny_bind (wpAny_setField ho hd (by simp) ?_);have hit':(s.heap.update it (Obj.mapFields (·.setIfInBounds 1 (rawInt ((i:Int)+1))))).IsKeyIter it d (i+1) es.size ep :=
  ⟨_,get?_update_self _ ho (Obj.isFreed_of_fields (Obj.data_mapFields hd _)),(Obj.cls_mapFields ..).trans hc,by rw[Obj.data_mapFields hd];simp[rawInt]⟩
 refine wpAny_bind (wpAny_holding ?_);refine wpAny_bind (wpAny_isOneOf_keyiter (s:={s with heap:=s.heap.update it (Obj.mapFields (·.setIfInBounds 1 (rawInt ((i:Int)+1))))}) hit'.typeIs ?_)
 show wpAny _ _ (pure es[i].key) _ _ _;rw[he];exact wpAny_pure (wpAny_pure ⟨_,rfl,wpAny_pure (hQ _ hit' (SameBut.update ..))⟩)
theorem vY{it d:Addr}{i ep:Nat}{es:Array DictEntry}{Q:Option Value→Shared→Prop}(hh:A.handled=none)(hit:s.heap.IsKeyIter it d i es.size ep)(hm:yn s.heap d es ep)(hge:es.size≤i)(hQ:∀h',ExtBut it s.heap h'→Q none {s with heap:=h'}):wpAny (model prog w) A (pyNext (.ref it)) Q E s:=by
 obtain⟨o,ho,hc,hd⟩:=id hit;obtain⟨od,hod,hcd,hdd⟩:=id hm;unfold pyNext;refine wpAny_bind (wpAny_attempt (wpAny_callSpecial?_slot (name:=ofString "__next__") hit.typeIs slot_dict_keyiterator_next
  (wpAny_call_entry slot_dict_keyiterator_next hit.typeIs PySem.F.entry_dict_keyiterator_next ?_ (PySem.F.args_dict_keyiterator_next_1 _))))
 refine wpAny_bind (wpAny_pure ?_);refine wpAny_bind ?_;refine wpAny_bind ?_
 first|refine wpAny_bind (wpAny_typeNameOfWhole_keyiter hit.typeIs (wpAny_pure ?_))|refine wpAny_bind (wpAny_typeNameOf_keyiter hit.typeIs (wpAny_pure ?_))
 refine wpAny_bind (wpAny_fieldsOf ho hd ?_);have hown:Builtin.Dict_items.ownsTuple "dict_keyiterator"=false:=by decide
 simp only[hown,false_eq_true,if_false];show wpAny _ _ (if (Value.ref d==Value.none)=true then _ else _) _ _ s
 rw[if_neg (show ¬((Value.ref d==Value.none)=true)from Bool.false_ne_true)];refine wpAny_bind (wpAny_pure ?_);refine wpAny_bind (wpAny_dictEntries hod hdd ?_);rw[if_neg (by simp)];refine wpAny_bind (wpAny_pure ?_);refine wpAny_bind (wpAny_dictEpoch hod hdd ?_);rw[if_neg (by simp)];refine wpAny_pure ?_;simp only[show ¬((i:Int)<0)from by omega,if_false,toNat_natCast,Array.getElem?_eq_none hge];refine wpAny_bind ?_
 first|refine wpAny_bind (wpAny_typeNameOfWhole_keyiter hit.typeIs (wpAny_pure ?_))|refine wpAny_bind (wpAny_typeNameOf_keyiter hit.typeIs (wpAny_pure ?_))
 show wpAny _ _ (setField (.ref it) 0 .none >>= _) _ _ s;refine wpAny_bind (wpAny_setField ho hd (by simp) ?_);show wpAny _ _ (newExc (.type "StopIteration") [] >>= _) _ _ _;refine wpAny_bind ?_;simp only[newExc,newTuple];refine wpAny_bind (wpAny_newObj_type ?_ (by size_fits));refine wpAny_bind (m:=firstArgMember _ _) (wpAny_of_eq (a:=Value.none) (by first|rfl|(simp only[firstArgMember];rfl)) ?_)
 refine wpAny_newObj_type ?_ (by size_fits);simp only[raiseNew];refine wpAny_bind (wpAny_handled ?_);rw[show A.in1.handled=none from hh];refine wpAny_bind (wpAny_pure (wpAny_throw ?_));refine wpAny_bind (wpAny_isInstance (T:="StopIteration") (b:=true) ⟨_,get?_push_size _ rfl,rfl⟩ isSubtype_stop ?_);exact wpAny_pure (hQ _ (((SameBut.update ..).extBut.push _).push _))
end
def Itk(d:Addr)(o:Obj)(u:HO)(ks:List V):It:=⟨λi H=>H d=some (.frz o u)∧i<ks.length,λi H x H'=>H'=H∧ks[i]?=some x,λi H=>H d=some (.frz o u)∧ks.length≤i⟩
theorem ln{P:Program}{w:World}{K:PySem.W.Frag}{tg:Expr}{d it:Addr}{o:Obj}{u:HO}{es:Array DictEntry}{ep:Nat}{ks:List V}(hx:o.ExactDict)(hd:o.data=.dict es ep)(hv:ar ks (es.toList.map (·.key))):
  Turn P w K tg (Itk d o u ks) [it] it (λi h=>h.IsKeyIter it d i es.size ep) where
 mem:=by simp
 obj:=λi h st b hb=>by
  have e:b=it:=by simpa using hb
  subst e;obtain⟨o,e,c,d⟩:=st;exact⟨o,e,λv z=>by rw[d]at z;cases z⟩
 keep:=λi h h' st k=>st.at λo e=>k it (by simp) o e
 item:=by
  intro X hP hw hK hc i pins s σ H E I hf st hg;subst hP hw hK;obtain⟨hH,hi⟩:=hg;have ho:=(I.hok d _ hH).1;have hl:ks.length=es.size:=by rw[hv.length,length_map,length_toList]
  have hi':i<es.size:=by omega
  obtain⟨v,hv1,hv2⟩:=hv.get (getElem?_eq_getElem hi);obtain⟨f0,f1,f2,f3,f4,f5⟩:=hf it (by simp);have ev:v=es[i].key:=by
   rw[getElem?_map,getElem?_toList,Array.getElem?_eq_getElem hi']at hv1;exact(Option.some.inj hv1).symm
  refine uc st ⟨o,ho,hx,hd⟩ (Array.getElem?_eq_getElem hi') λh' st' sb=>?_;have I1:Inv X pins σ H {s with heap:=h'}:=I.turned (t':=s.toks) (λb o hb e=>(sb.2 b hb).trans e) f0 f1 f3 f4 f5
  obtain⟨oi,e,c,dd⟩:=id st';exact⟨_,rfl,nr (s:={s with heap:=h'}) e c dd (by decide) ⟨ks[i],H,I1,ev ▸ hv2,⟨rfl,getElem?_eq_getElem hi⟩,st',λb hb=>(hf b hb).1⟩⟩
 done:=by
  intro X hP hw hK hc i pins s σ H E I hf st hg;subst hP hw hK;obtain⟨hH,hi⟩:=hg;have ho:=(I.hok d _ hH).1;have hl:ks.length=es.size:=by rw[hv.length,length_map,length_toList]
  obtain⟨f0,f1,f2,f3,f4,f5⟩:=hf it (by simp);exact vY (I.ok.hd hc) st ⟨o,ho,hx,hd⟩ (by omega) λh' eb=>⟨rfl,I.turned (t':=s.toks) (λb o hb e=>eb b o hb e) f0 f1 f3 f4 f5⟩
 self:=λ_ _ _ _ _ st h=>wpAny_pyIter_keyiter st h
section
variable{X:Cx}{tg:Expr}
def iDF(td:TE):TI:=λσ H R=>td σ H λv H1=>∃d o kvs,v=.ref d∧H1 d=some (.frz o (.dK kvs))∧R (Itk d o (.dK kvs) (kvs.map λp=>kV p.1)) H1
theorem zV{l:Expr}{tl:TE}(hl:PE X l tl):PI X tg l (iDF tl):=by
 intro pins s σ H R I h;refine thn (hl pins s σ H _ I h) λv s1 hpt=>?_;obtain⟨x,H1,I1,r1,q1⟩:=hpt;obtain⟨d,o,kvs,e,hH,q⟩:=q1;subst e;cases r1;obtain⟨ho,_,hsm,vs,rel,o',es,ep,ho',hx,hd,hk,hp,hn⟩:=I1.hok d _ hH;rw[ho]at ho';cases ho';refine nV hsm ⟨o,ho,hx,hd⟩ ?_;refine⟨s1.heap.objs.size,[s1.heap.objs.size],_,_,H1,rfl,I1.kept (t':=s1.toks) λb o e=>get?_push_of_some _ e,ln hx hd ?_,⟨_,get?_push_size _ rfl,rfl,rfl⟩,λb hb=>?_,q⟩
 ·have key:∀(es:List DictEntry)(vs:List (Key×Value))(kvs:List (Key×V)),Pairs (aw X.prog X.w) es vs→KV kvs vs→ar (kvs.map λp=>kV p.1) (es.map (·.key)):=by
   intro es vs kvs hp
   induction hp generalizing kvs with
   |nil=>intro r;cases r;exact .nil
   |cons h1 h2 _ ih =>
    intro r;cases r with
    |cons r1 r2 =>
     refine .cons ?_ (ih _ r2);dsimp only;rw[r1.1];rcases aN h1 with⟨i,t,e1,e2⟩|⟨x,t,e1,e2⟩
     ·rw[e1,e2];exact⟨t,rfl⟩
     ·rw[e1,e2];exact⟨t,rfl⟩
  exact key _ _ _ hp rel
 ·have e:b=s1.heap.objs.size:=by simpa using hb
  subst e;exact I1.fpOk (le_refl _) (I1.hok.fresh (le_refl _))
end
theorem rR:typeLookup (.type "list_reverseiterator") "__len__"=pure none:=by rw[typeLookup_type,builtinLookup_eq_fast];kernel_rfl
theorem ud:typeLookup (.type "list_reverseiterator") "__length_hint__"=pure (some (.builtin "list_reverseiterator.__length_hint__")):=by rw[typeLookup_type,builtinLookup_eq_fast];kernel_rfl
theorem vZ:isSubtype (.type "list_reverseiterator") (.type "list_reverseiterator")=pure true:=by rw[isSubtype_type];kernel_rfl
section
variable{prog:Program}{w:World}{A:Around}{E:Value→Shared→Prop}{s:Shared}
theorem nW{I l:Addr}{items:Array Value}{Q:List Value→Shared→Prop}(hh:A.handled=none)(hI:s.heap.IsRevIter I l ((items.size:Int)-1))(hl:s.heap.IsList l items)(hne:l≠I)(hn:items.size≤sizeLine)(hQ:∀h' tk acc,(∀b o,b≠I→s.heap.get? b=some o→h'.get? b=some o)→acc=items.toList.reverse→Q acc {s with heap:=h',toks:=tk}):wpAny (model prog w) A (collect (.ref I)) Q E s:=by
 have W:=(Walks.listRev (prog:=prog) (w:=w) (show A.in1.handled=none by simp[hh]) I l hne items).toS;obtain⟨oI,hoI,_⟩:=id hI;obtain⟨oL,hoL,_⟩:=id hl;have ltI:I<s.heap.objs.size:=lt_size hoI;have ltL:l<s.heap.objs.size:=lt_size hoL;have hSf:s.heap.objs.size∉[I,l]:=by
  simp only[mem_cons,not_mem_nil,or_false,not_or];exact⟨ne_of_gt ltI,ne_of_gt ltL⟩
 have hSI:s.heap.objs.size≠I:=ne_of_gt ltI;have key:∀(s':Shared)(acc:Array Value),Moved [I] (λa b=>b=a) s s'→ItemsOf (λi v=>items[items.size-1-i]?=some v) acc items.size→Q acc.toList s':=by
  intro s' acc hm hacc;obtain⟨h',g',d',tk',os'⟩:=s';have eg:g'=s.gens:=hm.gens;have ed:d'=s.drawn:=hm.drawn;have eo:os'=s.os:=hm.os;subst eg;subst ed;subst eo;refine hQ h' tk' acc.toList (λb o hb e=>hm.heap b o (by simpa using hb) e) ?_;apply ext_getElem?;intro i;rw[getElem?_toList]
  by_cases hi:i<items.size
  ·have hi':i<acc.size:=by rw[hacc.1];exact hi
   have ha:acc[i]?=some acc[i]:=Array.getElem?_eq_getElem hi';rw[List.getElem?_reverse (by simpa using hi),ha,length_toList,getElem?_toList];exact(hacc.2 i _ ha).symm
  ·rw[Array.getElem?_eq_none (by rw[hacc.1];omega),getElem?_eq_none (by simp;omega)]
 have st0:∀o,(λ(i:Nat) (h:Heap)=>i≤items.size∧h.IsRevIter I l ((items.size:Int)-1-(i:Int))∧h.IsList l items) 0 (s.heap.push o):=λo=>by
  refine⟨zero_le _,?_,?_⟩
  ·rw[show(items.size:Int)-1-((0:Nat):Int)=(items.size:Int)-1 by omega];exact hI.at λo' e=>get?_push_of_some _ e
  ·exact hl.push _
 unfold collect;refine wpAny_bind (wpAny_runValue (codeAny_builtin PySem.F.entry_proto_collect ?_));rw[Around.under_plainId PySem.F.plain_proto_collect _];show wpAny _ A.in1 (newList [] >>= λl=>again (.builtin "list.__iadd__" ⟨[l,.ref I],[]⟩)) _ _ s;refine wpAny_bind (wpAny_newObj_type (wpAny_pure ⟨plainId_quiet plain_list_iadd _,codeAny_builtin PySem.F.entry_list_iadd ?_⟩));rw[Around.under_plainId plain_list_iadd _];have hTI:Shared.TypeIs {s with heap:=s.heap.push {cls:=.type "list",data:=.seq ([]:List Value).toArray}} (.ref I) "list_reverseiterator":=((st0 _).2.1).typeIs
 have h1:Builtin.List.listSameRef (.ref s.heap.objs.size) (.ref I)=false:=by simp[Builtin.List.listSameRef,hSI]
 show wpAny _ A.in1 (Builtin.List.listExtendWith (.ref s.heap.objs.size) (.ref I) (.ref s.heap.objs.size)) _ _ _;unfold Builtin.List.listExtendWith;refine wpAny_bind (wpAny_typeOf hTI ?_);rw[if_neg (by rw[h1];decide)];refine wpAny_bind (W.self 0 _ _ _ (st0 _) (wpAny_bind (wpAny_holding ?_)));unfold Builtin.List.listLengthHint;refine wpAny_bind (wpAny_specialOf hTI rR ?_);show wpAny _ A.in1 (specialOf (Value.ref I) (ofString "__length_hint__") >>= _) _ _ _;refine wpAny_bind (wpAny_specialOf hTI ud ?_);generalize hid:("list_reverseiterator.__length_hint__":String)=id0
 wp_delta
 rw[show splitId id0=some ("list_reverseiterator","__length_hint__")from by subst hid;decide +kernel];subst hid;refine wpAny_bind (wpAny_isInstance (b:=true) hTI vZ (wpAny_pure ?_));rw[if_neg (by decide)];have hS:(s.heap.push {cls:=.type "list",data:=.seq ([]:List Value).toArray}).get? s.heap.objs.size=some {cls:=.type "list",data:=.seq ([]:List Value).toArray}:=get?_push_size _ rfl;refine wpAny_pure ⟨plainId_quiet PySem.F.plain_extend_loop _,codeAny_extend_loopS W hn _ hSf _ items.size 0 _ _ _ rfl (zero_le _) (st0 _) hS (ItemsOf.nil _) λs' acc c hm hS' hacc=>?_⟩;show wpAny _ A (load s.heap.objs.size >>= _) _ _ s';exact wpAny_bind (wpAny_load hS' (wpAny_pure (key s' acc (Moved.drop_new (o:={cls:=.type "list",data:=.seq ([]:List Value).toArray}) (tk:=s.toks) hm (le_refl _)) hacc)))
theorem jC{I l:Addr}{items:Array Value}{Q:Value→Shared→Prop}(hh:A.handled=none)(hI:s.heap.IsRevIter I l ((items.size:Int)-1))(hl:s.heap.IsList l items)(hne:l≠I)(hn:items.size≤sizeLine)(hQ:∀(h':Heap) (tk:Nat),(∀b o,b≠I→s.heap.get? b=some o→h'.get? b=some o)→Q (.ref h'.objs.size) {s with heap:=h'.push {cls:=.type "tuple",data:=.seq items.toList.reverse.toArray},toks:=tk}):
  wpAny (model prog w) A (call (.type "tuple") [.ref I]) Q E s:=by
 refine callType_codes (Q₁:=λobj s₁=>s₁.TypeIs obj "tuple"∧Q obj s₁) called_tuple (PySem.F.typeCall_tuple_1 _) PySem.F.entry_object_init ?_ λobj s₁ h₁=>?_
 ·refine codeAny_of_tree ?_;show wpAny _ A.in1.in1 (do checkBuiltinCall "tuple.__new__" ⟨[.type "tuple",.ref I],[]⟩;again (.builtin "tuple.__new__" ⟨[.type "tuple",.ref I],[]⟩)) _ _ s
  refine wpAny_bind (wpAny_of_eq (PySem.F.newCall_tuple_1 _) (wpAny_pure ⟨plainId_quiet PySem.F.plain_tuple_new _,codeAny_builtin PySem.F.entry_tuple_new ?_⟩));rw[Around.under_plainId PySem.F.plain_tuple_new _];have hsub:=sub_tuple_self;have hinit:=init_tuple_lookup;have hmh:=madeHere_tuple;have hTI:s.TypeIs (.ref I) "list_reverseiterator":=hI.typeIs
  wp_walk using wpAny_typeOf hTI,nW (show A.in1.in1.handled=none by simp[hh]) hI hl hne hn
  intro h' tk acc hk hacc;subst hacc;refine wpAny_bind (wpAny_pure ?_);show wpAny _ _ (Builtin.Tuple.tupleExact items.toList.reverse.toArray >>= λv=>ret v) _ _ _;unfold Builtin.Tuple.tupleExact;have hsz:items.toList.reverse.toArray.size≤sizeLine:=by simpa using hn
  exact wpAny_bind (wpAny_newObj_type (wpAny_pure ⟨⟨_,get?_push_size _ rfl,rfl⟩,hQ h' tk hk⟩) hsz)
 ·exact⟨h₁.1,PySem.F.args_object_init_2 obj _,object_init_meets called_tuple.init.lookup called_tuple.made (by decide) prog w A.in1 _ s₁ ⟨h₁.1,rfl,h₁.2⟩⟩
end
section
variable{X:Cx}
def wa(te:TE):TE:=λσ H Q=>ir te pb σ H λvs H1=>∃l ys,vs=[.ref l]∧H1 l=some (.lst ys)∧∀p,H1 p=none→Q (.ref p) (upd H1 p (.tup ys.reverse))
theorem rS{e:Expr}{te:TE}{q1 q2 p1 p2:Pos}(hc:X.calm=true)(hg:Gl X "tuple")(hm:X.mg "tuple"=none)(hg':Gl X "reversed")(hm':X.mg "reversed"=none)(he:PE X e te)(s1:starEach [e] X.env=[(false,eval e X.env)]:=by rfl)(s2:starEach [.Call (.Name "reversed" q1) [e] [] p1] X.env=[(false,eval (.Call (.Name "reversed" q1) [e] [] p1) X.env)]:=by rfl):
  PE X (.Call (.Name "tuple" q2) [.Call (.Name "reversed" q1) [e] [] p1] [] p2) (wa te):=by
 intro pins s σ H Q I h;refine wpAny_Call_Name_kw (fg I hg hm boot_tuple ?_ (by decide) (by decide));refine PyProof.Rows.callWith_type1 ?_ s2 rfl;rw[s2];refine spliced_cons ?_;refine wpAny_Call_Name_kw (fg I hg' hm' PyProof.Rows.boot_reversed ?_ (by decide) (by decide));have hA:PA X [e] (ir te pb):=aa he af s1;refine PyProof.Rows.callWith_type1 (thn (hA p1 pins s σ H _ I h) λus s3 ⟨vs,H1,I1,r1,q1⟩=>?_) s1 rfl;obtain⟨l,ys,rfl,hl,q⟩:=q1;obtain⟨u,rfl,ru⟩:=cv r1;cases ru;obtain⟨hz,its,n,rv,ho⟩:=I1.hok l _ hl;have hL:s3.heap.IsList l its.toArray:=⟨_,ho,rfl,n,rfl⟩;have hlen:its.toArray.size≤sizeLine:=by rw[size_toArray,←rv.length];exact hz
 refine call_reversed_list hL (spliced_nil ?_);have ltl:l<s3.heap.objs.size:=lt_size ho;refine jC (s:={s3 with heap:=s3.heap.push (revObj l ((its.toArray.size:Int)-1))}) (items:=its.toArray) (I.ok.hd hc) ⟨_,get?_push_size _ rfl,rfl,rfl⟩ (hL.push _) (ne_of_lt ltl) hlen λh' tk hk=>?_
 have k0:∀b o,s3.heap.get? b=some o→h'.get? b=some o:=λb o e=>hk b o (ne_of_lt (lt_size e)) (get?_push_of_some _ e);have I2:Inv X pins σ H1 {s3 with heap:=h',toks:=tk}:=I1.kept (t':=tk) k0
 have er:its.toArray.toList.reverse.toArray=its.reverse.toArray:=by simp
 rw[er];have I3:Inv X pins σ (upd H1 h'.objs.size (.tup ys.reverse)) {s3 with heap:=h'.push {cls:=.type "tuple",data:=.seq its.reverse.toArray},toks:=tk} :=
  I2.laid (t':=tk) (λb o e=>get?_push_of_some _ e) (le_refl _) (show bA X.prog X.w _ _ _ (.tup ys.reverse)from⟨by rw[List.length_reverse];exact hz,its.reverse,rv.reverse,IsTup.new _ _⟩)
 exact⟨.ref h'.objs.size,_,I3,rfl,q _ (I2.hok.fresh (le_refl _))⟩
theorem wb{P:Program}{w:World}{kvs:List (Key×V)}{vs:List (Key×Value)}{acc:Array Value}(rel:KV kvs vs)(h:ItemsOf (λi v=>∃k x,vs[i]?=some (k,x)∧(aw P w).is k v=true) acc vs.length):ar (kvs.map λp=>kV p.1) acc.toList:=by
 obtain⟨h1,h2⟩:=h;have hl:acc.toList.length=vs.length:=by simpa using h1
 have h3:∀(i:Nat)(v:Value),acc.toList[i]?=some v→∃k x,vs[i]?=some (k,x)∧(aw P w).is k v=true:=λi v hv=>h2 i v (by simpa using hv);clear h1 h2;generalize acc.toList=l at hl h3
 induction rel generalizing l with
 |nil =>
  cases l with
  |nil=>exact .nil
  |cons a r=>simp at hl
 |@cons p q kvs vs r _ ih =>
  cases l with
  |nil=>simp at hl
  |cons a l =>
   refine .cons ?_ (ih l (by simpa using hl) λi v hv=>by simpa using h3 (i+1) v (by simpa using hv))
   obtain⟨k,x,e1,e2⟩:=h3 0 a rfl;have e3:q=(k,x):=by simpa using e1
   show aH (kV p.1) a;rw[r.1,e3];rcases aN e2 with⟨i,t,e4,e5⟩|⟨y,t,e4,e5⟩
   ·rw[e4,e5];exact⟨t,rfl⟩
   ·rw[e4,e5];exact⟨t,rfl⟩
end
end L2
namespace HT
open PySem PyProof.Rows
def eE(x y:Str):Bool:=decide (x.cps.toList<y.cps.toList)
def cL:List Str→List Str→Bool
 |[],[]=>false
 |[],_::_=>true
 |_::_,[]=>false
 |x::xs,y::ys=>if x=y then cL xs ys else eE x y
theorem cV(x y:Str)(xs ys:List Str):cL (x::xs) (y::ys)=if x=y then cL xs ys else eE x y:=rfl
theorem mf:cL [] []=false:=rfl
theorem kl(y:Str)(ys:List Str):cL [] (y::ys)=true:=rfl
theorem km(x:Str)(xs:List Str):cL (x::xs) []=false:=rfl
theorem wc{x y:Str}(h:x.cps.toList=y.cps.toList):x=y:=by
 obtain⟨x⟩:=x;obtain⟨y⟩:=y
 congr
 exact toList_inj.mp h
theorem rT(x:Str):eE x x=false:=decide_eq_false (List.lt_irrefl _)
theorem ue{x y z:Str}(h1:eE x y=true)(h2:eE y z=true):eE x z=true:=by
 unfold eE at *;rw[decide_eq_true_eq]at *;exact List.lt_trans h1 h2
theorem rU{x y:Str}(h:x≠y):eE x y=true∨eE y x=true:=by
 unfold eE;rw[decide_eq_true_eq,decide_eq_true_eq];rcases Decidable.em (x.cps.toList<y.cps.toList)with a|a
 ·exact .inl a
 ·refine .inr ?_;have hle:y.cps.toList≤x.cps.toList:=not_lt.mp a;rcases Decidable.em (y.cps.toList<x.cps.toList)with b|b
  ·exact b
  ·have hle2:x.cps.toList≤y.cps.toList:=not_lt.mp b;exact absurd (wc (List.le_antisymm hle2 hle)) h
theorem dz:∀p:List Str,cL p p=false
 |[]=>rfl
 |x::p=>by rw[cV,if_pos rfl];exact dz p
theorem iP:∀{p q r:List Str},cL p q=true→cL q r=true→cL p r=true
 |[],[],_,h,_=>by cases h
 |[],_::_,[],_,h=>by cases h
 |[],_::_,_::_,_,_=>rfl
 |_::_,[],_,h,_=>by cases h
 |_::_,_::_,[],_,h=>by cases h
 |x::p,y::q,z::r,h1,h2=>by
  rw[cV]at h1 h2⊢
  by_cases a:x=y
  ·subst a;rw[if_pos rfl]at h1
   by_cases b:x=z
   ·rw[if_pos b]at h2⊢;exact iP h1 h2
   ·rw[if_neg b]at h2⊢;exact h2
  ·rw[if_neg a]at h1
   by_cases b:y=z
   ·subst b;rw[if_neg a];exact h1
   ·rw[if_neg b]at h2;have h3:=ue h1 h2;have c:x≠z:=λe=>by
     subst e;rw[rT]at h3;cases h3
    rw[if_neg c];exact h3
theorem jD:∀{p q:List Str},p≠q→cL p q=true∨cL q p=true
 |[],[],h=>absurd rfl h
 |[],_::_,_=>.inl rfl
 |_::_,[],_=>.inr rfl
 |x::p,y::q,h=>by
  rw[cV,cV]
  by_cases a:x=y
  ·subst a;rw[if_pos rfl,if_pos rfl];exact jD λe=>h (by rw[e])
  ·rw[if_neg a,if_neg (symm a)];exact rU a
theorem uf(A:Around)(s:Shared)(a:Str)(t:Tok)(c:Str)(u:Tok):∃e,EqAt A s (.str a t) (.str c u) e∧(e=true↔a=c) :=
 ⟨decide (a=c),λprog w E Q h=>wpAny_eqBool_str h,by simp⟩
theorem ug(A:Around)(s:Shared)(a:Str)(t:Tok)(c:Str)(u:Tok)(prog:Program)(w:World)(E:Value→Shared→Prop)(Q:Value→Shared→Prop)(h:Q (.bool (eE a c)) s):
  wpAny (model prog w) A (richCompare .Lt (.str a t) (.str c u)) Q E s :=
 (PyProof.Rows.lt_str h:wpAny (model prog w) A (compareOp .Lt (.str a t) (.str c u)) Q E s)
section
open PySem.SeqAt
open PySem.AutoSeq1 (wpAny_loadPart')
open PySem.MeetsSeq PySem.MeetsSeq2 PySem.MeetsSeq3
theorem kn(l b:Addr)(items items2:Array Value)(n n2:Nat)(dd dd2:Option Addr)(sl sl2:Array (Option Value))(ns ms:List Str)(hi:StrsAre items.toList ns)(hj:StrsAre items2.toList ms):
  Meets (Builtin.«tuple.__lt__» ⟨[.ref l,.ref b],[]⟩)
   (λ_ R s=>s.heap.get? l=some {cls:=.type "tuple",dict:=dd,data:=.seq items n,slots:=sl}∧s.heap.get? b=some {cls:=.type "tuple",dict:=dd2,data:=.seq items2 n2,slots:=sl2} ∧
    R (.ok (.ret (.bool (cL ns ms)))) s) :=
 .of_wp λprog w A R s h=>by
  obtain⟨hp,g,d,tk,os⟩:=s;obtain⟨hl,hb,h⟩:=h;have f2:=AutoSeq1.sub_tuple_tuple;have z1:items.size=ns.length:=by rw[←hi.length];simp
  have z2:items2.size=ms.length:=by rw[←hj.length];simp
  wp_walk using wpAny_loadPart' hl,wpAny_loadPart' hb,wpAny_forIn_list _ (λrest b s'=>b.1=none∧s'=⟨hp,g,d,tk,os⟩∧∃(vs ws:List Value) (ns' ms':List Str),rest=vs.zip ws ∧
   StrsAre vs ns'∧StrsAre ws ms'∧ns'.length+items2.size=ms'.length+items.size∧R (.ok (.ret (.bool (cL ns' ms')))) ⟨hp,g,d,tk,os⟩) _
  case turn =>
   rintro⟨y,x⟩ rest b s' ⟨hb',rfl,vs,ws,ns',ms',hz,hvi,hwi,hlen,hR⟩;cases hvi with
   |nil=>rw[List.zip_nil_left]at hz;cases hz
   |cons a t hvi' =>
    cases hwi with
    |nil=>rw[List.zip_nil_right]at hz;cases hz
    |cons c u hwi' =>
     rw[List.zip_cons_cons]at hz;injection hz with hyx hrest
     injection hyx with hy hx
     subst hy hx;rw[cV]at hR;simp only[length_cons]at hlen;obtain⟨e,he,hiff⟩:=uf A.in1 ⟨hp,g,d,tk,os⟩ a t c u;refine wpAny_bind (he prog w _ _ ?_);cases e with
     |true =>
      rw[if_pos (hiff.mp rfl)]at hR
      wp_walk
      exact⟨rfl,rfl,_,_,_,_,hrest,hvi',hwi',by omega,hR⟩
     |false =>
      rw[if_neg (λq=>absurd (hiff.mpr q) Bool.false_ne_true)]at hR;have hri:=ug A.in1 ⟨hp,g,d,tk,os⟩ a t c u prog w
      wp_walk using hri
      exact⟨_,rfl,by simpa using hR⟩
  case fin =>
   rintro⟨b1,b2⟩ s' ⟨hb',rfl,vs,ws,ns',ms',hz,hvi,hwi,hlen,hR⟩;simp only at hb';subst hb';have hv:cL ns' ms'=decide (items.size<items2.size):=by
    cases hvi with
    |nil =>
     cases hwi with
     |nil =>
      simp only[length_nil]at hlen;rw[mf];exact(decide_eq_false (by omega)).symm
     |cons c u hw =>
      simp only[length_nil,length_cons]at hlen;rw[kl];exact(decide_eq_true (by omega)).symm
    |cons a t hv =>
     cases hwi with
     |nil =>
      simp only[length_nil,length_cons]at hlen;rw[km];exact(decide_eq_false (by omega)).symm
     |cons c u hw =>
      rw[List.zip_cons_cons]at hz;cases hz
   rw[hv]at hR
   wp_walk
   exact⟨_,rfl,by simpa [Builtin.Tuple.tupleCompareSizes]using hR⟩
  case h =>
   exact⟨rfl,rfl,items.toList,items2.toList,ns,ms,rfl,hi,hj,by omega,h⟩
end
section
variable{prog:Program}{w:World}{A:Around}{E:Value→Shared→Prop}{s:Shared}
theorem pJ{l b:Addr}{items items2:Array Value}{ns ms:List Str}{Q:Value→Shared→Prop}(hl:IsTup s.heap l items)(hb:IsTup s.heap b items2)(hi:StrsAre items.toList ns)(hj:StrsAre items2.toList ms)(hu:A.units<cLine)(h:Q (.bool (cL ns ms)) s):wpAny (model prog w) A (compareOp .Lt (.ref l) (.ref b)) Q E s:=by
 obtain⟨⟨cls,dd,data,sl⟩,ho,hc,n,hd⟩:=id hl;obtain⟨⟨cls2,dd2,data2,sl2⟩,ho2,hc2,n2,hd2⟩:=id hb;simp only at hc hd hc2 hd2;subst hc hd hc2 hd2;exact richCompare_meets_room (op:=.Lt) ⟨_,ho,rfl⟩ ⟨_,ho2,rfl⟩ PySem.F.slot_tuple_lt PySem.F.entry_tuple_lt (PySem.F.args_tuple_lt_2 _ _) (kn l b items items2 n n2 dd dd2 sl sl2 ns ms hi hj)
  ⟨ho,ho2,show Value.bool (cL ns ms)≠Value.notImplemented∧Q (.bool (cL ns ms)) s from⟨(λx=>nomatch x),h⟩⟩ hu
end
end HT
namespace L2
open PySem PySem.Spec PyProof.Rows
section
variable{X:Cx}
theorem uh{α β:Type}{l:List α}{f:α→β}{d:α}{e:β}{i:Nat}(h:i<l.length):(l.map f).getD i e=f (l.getD i d):=by
 rw[getD_eq_getElem?_getD,getD_eq_getElem?_getD,getElem?_map,getElem?_eq_getElem h];rfl
theorem ia{α:Type}{zs:List α}{val:α→V}{d:α}:∀{us:List Value},ar (zs.map val) us→∀(ps:List Nat),(∀i∈ps,i<zs.length)→ar ((ps.map λi=>zs.getD i d).map val) (ps.map λi=>us.getD i Value.none):=by
 intro us rv ps
 induction ps with
 |nil=>intro _;exact .nil
 |cons i ps ih =>
  intro h;refine .cons ?_ (ih λj hj=>h j (by simp[hj]));have hi:=h i (by simp);obtain⟨u,hu,r⟩:=rv.get (i:=i) (x:=val (zs.getD i d)) (by rw[getElem?_map,(aY (d:=d) hi).2];rfl);have:us.getD i Value.none=u:=by rw[getD_eq_getElem?_getD,hu];rfl
  show aH (val (zs.getD i d)) (us.getD i Value.none);rw[this];exact r
theorem eF{α:Type}{zs:List α}{val:α→V}{d:α}{us:List Value}{f:α→α→Bool}{l:Addr}{pins:List (Addr×Obj)}{σ:St}{H:Hp}{s:Shared}{Q:VK}{κ:SortKind}{E:Value→Shared→Prop}(I:Inv X pins σ H s)(rv:ar (zs.map val) us)(O:SRT.Ord (λi j=>f (zs.getD i d) (zs.getD j d)) zs.length)(pl:s.heap.IsList l us.toArray)(h64:zs.length<64)(hk:∀(A':Around) (s':Shared),A'.units≤X.A.units+2→(∀b o,s.heap.get? b=some o→s'.heap.get? b=some o)→∀Q:SortKind→Shared→Prop,2≤zs.length→Q κ s'→wpAny (model X.prog X.w) A' (keyKind' us.toArray) Q (λ_ _=>False) s')(hlt:∀(A':Around) (s':Shared),A'.units≤X.A.units+2→(∀b o,s.heap.get? b=some o→s'.heap.get? b=some o)→∀(i j:Nat) (C:Bool→Shared→Prop),i<zs.length→j<zs.length→C (f (zs.getD i d) (zs.getD j d)) s'→wpAny (model X.prog X.w) A' (keyLt' κ (us.getD i Value.none) (us.getD j Value.none)) C (λ_ _=>False) s')(q:∀zs':List α,zs'.Perm zs→zs'.Pairwise (λa b=>f a b=true)→∀p,H p=none→Q (.ref p) (upd H p (.lst (zs'.map val)))):wpAny (model X.prog X.w) X.A (call (.builtin "sorted") [.ref l]) (EP X pins σ Q) E s:=by
 have hlen:us.length=zs.length:=by rw[←rv.length,length_map]
 refine SRT.rK (κ:=κ) (f:=λi j=>f (zs.getD i d) (zs.getD j d)) (by rw[hlen];exact O) pl (by rw[hlen];exact h64) (λA' s' h1 h2 Q' h3=>hk A' s' h1 h2 Q' (by omega)) (λA' s' h1 h2 i j C hi hj=>hlt A' s' h1 h2 i j C (by omega) (by omega)) ?_;intro p h' hrow hup kp _ hg;obtain⟨c,hg⟩:=hg;rw[hlen]at hrow hup;have hin:∀i∈p.toList,i<zs.length:=λi hi=>mem_range.mp (hrow.perm.mem_iff.mp hi);have hperm:(p.toList.map λi=>zs.getD i d).Perm zs:=by
  refine(hrow.perm.map _).trans ?_;have:(List.range zs.length).map (λi=>zs.getD i d)=zs:=by
   apply ext_getElem?;intro i;rw[getElem?_map]
   by_cases hi:i<zs.length
   ·rw[getElem?_range hi,(aY (d:=d) hi).2];rfl
   ·rw[getElem?_eq_none (by rw[length_range];omega),getElem?_eq_none (by omega)];rfl
  rw[this]
 have hpl:p.size=zs.length:=hrow.size;have hpw:(p.toList.map λi=>zs.getD i d).Pairwise (λa b=>f a b=true):=by
  rw[pairwise_iff_getElem];intro i j hi hj hij;have hi':i<p.size:=by rw[length_map,length_toList]at hi;exact hi
  have hj':j<p.size:=by rw[length_map,length_toList]at hj;exact hj
  have:=hup i j hij (by omega);simp only[]at this;rw[getD_eq_getD_getElem?,getD_eq_getD_getElem?,Array.getElem?_eq_getElem hi',Array.getElem?_eq_getElem hj']at this;simpa using this
 refine⟨.ref (s.heap.objs.size+1),_,I.laid (t':=s.toks) (o:=.lst ((p.toList.map λi=>zs.getD i d).map val)) kp (le_succ _) ⟨?_,_,c,ia rv p.toList hin,hg⟩,rfl,q _ hperm hpw _ (I.hok.fresh (le_succ _))⟩;rw[length_map,hperm.length_eq,sizeLine_eq];omega
theorem iQ{ns:List Int}{us:List Value}(r:ar (ns.map V.int) us):IntsAre us ns:=po r
theorem ib:bX X (.builtin "sorted") (λxs H Q=>∃l,∃ns:List Int,xs=[.ref l]∧H l=some (.lst (ns.map V.int))∧ns.Nodup∧ns.length<64 ∧
  ∀ms:List Int,ms.Perm ns→ms.Pairwise (λa b=>a<b)→∀p,H p=none→Q (.ref p) (upd H p (.lst (ms.map V.int)))):=by
 intro pins s σ H xs us Q I r h;obtain⟨l,ns,rfl,hl,hnd,h64,q⟩:=h;obtain⟨u,rfl,ru⟩:=cv r;cases ru;obtain⟨_,its,n,rv,ho⟩:=I.hok l _ hl;have hI:=iQ rv;have hlen:its.length=ns.length:=by rw[←rv.length,length_map]
 refine eF (val:=V.int) (d:=(0:Int)) (f:=λa b=>decide (a<b)) (κ:=oneType') I rv ⟨λi _=>by simp,λi j k _ _ _ h1 h2=>?_,λi j hi hj hij=>?_⟩ ⟨_,ho,rfl,n,rfl⟩ h64 (λA' s' _ _ Q' h2 hQ=>?_) (λA' s' _ _ i j C hi hj hC=>?_) λzs' h1 h2 p hp=>q zs' h1 (h2.imp λh=>by simpa using h) p hp
 ·simp only[decide_eq_true_eq]at *;omega
 ·simp only[decide_eq_true_eq];have:ns.getD i 0≠ns.getD j 0:=by
   rw[getD_eq_getElem?_getD,getD_eq_getElem?_getD,getElem?_eq_getElem hi,getElem?_eq_getElem hj];exact λe=>hij ((getElem_inj hnd).mp e)
  omega
 ·rw[ksk_kind (keys:=its.toArray) (kz:=ns) (by simpa using hI) (by rw[size_toArray];omega)];exact wpAny_pure hQ
 ·have gi:∀i,i<ns.length→∃t,its.getD i Value.none=.int (ns.getD i 0) t:=λi hi=>by
   obtain⟨v,hv,r⟩:=rv.get (i:=i) (x:=.int (ns.getD i 0)) (by rw[getElem?_map,(aY (d:=(0:Int)) hi).2];rfl);obtain⟨t,rfl⟩:=r;exact⟨t,by rw[getD_eq_getElem?_getD,hv];rfl⟩
  obtain⟨t,e1⟩:=gi i hi;obtain⟨t',e2⟩:=gi j hj;rw[e1,e2];exact kat_lt_int hC
structure Cp where
 a:Addr
 t:Addr
 p:List Str
 n:Int
def rV(H:Hp)(z:Cp):Prop:=H z.a=some (.tup [.ref z.t,.int z.n])∧H z.t=some (.tup (z.p.map V.str))
theorem mh:∀{ps:List Str}{us:List Value},ar (ps.map V.str) us→StrsAre us ps
 |[],_,.nil=>.nil
 |p::ps,_,.cons ⟨t,e⟩ r=>by subst e;exact .cons p t (mh r)
theorem iJ(hu:X.A.units+8<cLine):bX X (.builtin "sorted") (λxs H Q=>∃l,∃zs:List Cp,xs=[.ref l]∧H l=some (.lst (zs.map λz=>V.ref z.a))∧(∀z∈zs,rV H z)∧(zs.map (·.p)).Nodup∧zs.length<64 ∧
  ∀zs':List Cp,zs'.Perm zs→zs'.Pairwise (λa b=>HT.cL a.p b.p=true)→∀p,H p=none→Q (.ref p) (upd H p (.lst (zs'.map λz=>V.ref z.a)))):=by
 intro pins s σ H xs us Q I r h;obtain⟨l,zs,rfl,hl,hk,hnd,h64,q⟩:=h;obtain⟨u,rfl,ru⟩:=cv r;cases ru;obtain⟨_,its,n,rv,ho⟩:=I.hok l _ hl
 let d:Cp:=⟨0,0,[],0⟩
 have hlen:its.length=zs.length:=by rw[←rv.length,length_map]
 have gi:∀i,i<zs.length→its.getD i Value.none=.ref (zs.getD i d).a:=λi hi=>by
  obtain⟨v,hv,r⟩:=rv.get (i:=i) (x:=.ref (zs.getD i d).a) (by rw[getElem?_map,(aY (d:=d) hi).2];rfl);cases r;rw[getD_eq_getElem?_getD,hv];rfl
 have eits:its=zs.map λz=>Value.ref z.a:=by
  have key:∀(l:List Cp)(us:List Value),ar (l.map λz=>V.ref z.a) us→us=l.map λz=>Value.ref z.a:=by
   intro l
   induction l with
   |nil=>intro us r;cases r;rfl
   |cons z l ih =>
    intro us r;cases r with
    |cons r1 r2 =>
     rw[ih _ r2];cases r1;rfl
  exact key zs its rv
 have hobj:∀z∈zs,∃t',IsTup s.heap z.a #[.ref z.t,.int z.n t']:=λz hz=>by
  obtain⟨u,v,r1,r2,ht⟩:=tZ I (hk z hz).1;cases r1;obtain⟨t',rfl⟩:=r2;exact⟨t',ht⟩
 have htup:∀z∈zs,∃ws:List Value,StrsAre ws z.p∧IsTup s.heap z.t ws.toArray:=λz hz=>by
  obtain⟨_,ws,r1,ht⟩:=I.hok z.t _ (hk z hz).2;exact⟨ws,mh r1,ht⟩
 have kept:∀{s':Shared}{a:Addr}{xs:Array Value},(∀b o,s.heap.get? b=some o→s'.heap.get? b=some o)→IsTup s.heap a xs→IsTup s'.heap a xs:=λk ⟨o,e,r⟩=>⟨o,k _ o e,r⟩;refine eF (val:=λz:Cp=>V.ref z.a) (d:=d) (f:=λa b=>HT.cL a.p b.p) (κ:=tuples' false) I rv ⟨λi _=>HT.dz _,λi j k _ _ _ h1 h2=>HT.iP h1 h2,λi j hi hj hij=>HT.jD ?_⟩ ⟨_,ho,rfl,n,rfl⟩ h64 (λA' s' _ kp Q' h2 hQ=>?_) (λA' s' hA kp i j C hi hj hC=>?_) q
 ·intro e;have e':(zs.map (·.p))[i]'(by simpa using hi)=(zs.map (·.p))[j]'(by simpa using hj):=by
   have h1:=(aY (d:=d) hi).2;have h2:=(aY (d:=d) hj).2;rw[getElem_map,getElem_map,(List.getElem?_eq_some_iff.mp h1).2,(List.getElem?_eq_some_iff.mp h2).2];exact e
  exact hij ((getElem_inj hnd).mp e')
 ·have key:∀ys:List Cp,(∀z∈ys,z∈zs)→KatTups s'.heap (ys.map λz=>Value.ref z.a) (ys.map λz=>Value.ref z.t):=by
   intro ys
   induction ys with
   |nil=>intro _;exact KatTups.nil
   |cons z ys ih =>
    intro hm;obtain⟨t',o,e1,e2,n',e3⟩:=hobj z (hm z (by simp));exact KatTups.cons (kp _ _ e1) e2 e3 rfl (ih λy hy=>hm y (by simp[hy]))
  rw[eits];refine kat_kind (T:=.type "tuple") (key zs λz hz=>hz) (by rw[length_map];omega) (λv hv=>?_) (by rfl) hQ;obtain⟨z,hz,rfl⟩:=mem_map.mp hv;obtain⟨ws,_,o,e1,e2,_⟩:=htup z hz;exact e2 ▸ (Looks.ld (kp _ _ e1)).andThen .now
 ·rw[gi i hi,gi j hj];have mi:=(aY (d:=d) hi).1;have mj:=(aY (d:=d) hj).1;generalize zs.getD i d=zi at mi hC⊢;generalize zs.getD j d=zj at mj hC⊢;obtain⟨ti,oi,a1,a2,ni,a3⟩:=hobj zi mi;obtain⟨tj,oj,b1,b2,nj,b3⟩:=hobj zj mj;refine kat_lt (kp _ _ a1) a3 (kp _ _ b1) b3 ?_;obtain⟨wi,si,pi⟩:=htup zi mi;obtain⟨wj,sj,pj⟩:=htup zj mj;have hu1:A'.units<cLine:=by omega
  have ki:IsTupleKey (aw X.prog X.w) s'.heap (zi.p.map Sum.inr) zi.t:=by
   obtain⟨o,its',n',ho',r⟩:=tO (ks:=zi.p.map Sum.inr) I (by rw[map_map];exact(hk zi mi).2) X.prog X.w;exact⟨o,its',n',kp _ _ ho',r⟩
  have kj:IsTupleKey (aw X.prog X.w) s'.heap (zj.p.map Sum.inr) zj.t:=by
   obtain⟨o,its',n',ho',r⟩:=tO (ks:=zj.p.map Sum.inr) I (by rw[map_map];exact(hk zj mj).2) X.prog X.w;exact⟨o,its',n',kp _ _ ho',r⟩
  refine kat_cons (wpAny_eqBool_tuple (knd:=aw X.prog X.w) hu1 ki kj ?_)
  by_cases e:zi.p=zj.p
  ·rw[e,decide_eq_true rfl];have hC':C false s':=by rw[e,HT.dz]at hC;exact hC
   have en:zi=zj:=by
    obtain⟨x,hx,ex⟩:=mem_iff_getElem.mp mi;obtain⟨y,hy,ey⟩:=mem_iff_getElem.mp mj;have e':(zs.map (·.p))[x]'(by simpa using hx)=(zs.map (·.p))[y]'(by simpa using hy):=by rw[getElem_map,getElem_map,ex,ey];exact e
    have:=(getElem_inj hnd).mp e';subst this;rw[←ex,←ey]
   subst en;refine kat_yes (kat_cons (wpAny_eqBool_int ?_));rw[beq_self_eq_true];exact kat_yes (kat_nil (by simpa using hC'))
  ·have hne:¬(zi.p.map Sum.inr:List Key)=zj.p.map Sum.inr:=λz=>e (by
    have:=congrArg (List.map λk:Key=>match k with | .inr x=>x | .inl _=>empty) z;simpa [map_map,Function.comp_def]using this)
   rw[decide_eq_false hne];refine kat_no (kat_one _ _ ?_);exact HT.pJ (kept kp pi) (kept kp pj) (by simpa using si) (by simpa using sj) hu1 hC
end
def nX(H:Hp):Nat→V→V→Prop
 |0,x,y=>x=y∧cQ x=true
 |n+1,x,y=>(x=y∧cQ x=true)∨∃a b xs ys,x=.ref a∧y=.ref b∧H a=some (.tup xs)∧H b=some (.tup ys)∧xs.length=ys.length∧∀(i:Nat) x' y',xs[i]?=some x'→ys[i]?=some y'→nX H n x' y'
theorem nY{x:V}(f:cQ x=true):eqV x x=true:=by
 cases x<;>first|rfl|(simp[eqV];done) | (exact absurd (show false=true from f) Bool.false_ne_true)
theorem pK{H:Hp}{n:Nat}{x y:V}(h:x=y∧cQ x=true):nX H n x y:=by
 cases n with
 |zero=>exact h
 |succ n=>exact .inl h
section
variable{X:Cx}{pins:List (Addr×Obj)}{σ:St}{H:Hp}{s:Shared}
theorem ui(I:Inv X pins σ H s):∀(n:Nat){A:Around}{x y:V}{u v:Value},aH x u→aH y v→nX H n x y→A.units+n<cLine→EqAt A s u v true:=by
 intro n
 induction n with
 |zero =>
  intro A x y u v ru rv h hu;obtain⟨e,f⟩:=h;subst e;have:=jg (A:=A) (s:=s) ru rv f f;rw[nY f]at this;exact this
 |succ n ih =>
  intro A x y u v ru rv h hu;rcases h with⟨e,f⟩|⟨a,b,xs,ys,rfl,rfl,ha,hb,hl,hx⟩
  ·subst e;have:=jg (A:=A) (s:=s) ru rv f f;rw[nY f]at this;exact this
  ·cases ru;cases rv
   by_cases hab:a=b
   ·subst hab;exact EqAt.same _
   ·obtain⟨_,us,r1,t1⟩:=I.hok a _ ha;obtain⟨_,ws,r2,t2⟩:=I.hok b _ hb;have l1:=r1.length;have l2:=r2.length;have:=RcAt.tuples (A:=A) (s:=s) (e:=λ_=>true) t1 t2 (by omega) (λj h1 h2=>by
     have h1':j<xs.length:=by rw[l1];simpa using h1
     have h2':j<ys.length:=by rw[l2];simpa using h2
     obtain⟨u',hu1,hu2⟩:=r1.get (getElem?_eq_getElem h1');obtain⟨v',hv1,hv2⟩:=r2.get (getElem?_eq_getElem h2');have e1:us.toArray[j]=u':=by
      have:us[j]?=some us.toArray[j]:=by rw[getElem?_eq_getElem (by simpa using h1)];simp
      rw[hu1]at this;exact(Option.some.inj this).symm
     have e2:ws.toArray[j]=v':=by
      have:ws[j]?=some ws.toArray[j]:=by rw[getElem?_eq_getElem (by simpa using h2)];simp
      rw[hv1]at this;exact(Option.some.inj this).symm
     rw[e1,e2];exact ih hu2 hv2 (hx j _ _ (getElem?_eq_getElem h1') (getElem?_eq_getElem h2')) (by simp[Around.in1_units];omega))
    have e3:((List.range (min us.toArray.size ws.toArray.size)).all (λ_=>true)&&us.toArray.size==ws.toArray.size)=true:=by
     have:us.toArray.size=ws.toArray.size:=by simp only[size_toArray];omega
     simp[this]
    rw[e3]at this;exact EqAt.of_refs hab this
def dA(H:Hp)(xs ys:List V):Prop:=xs.length=ys.length∧∀(i:Nat) x y,xs[i]?=some x→ys[i]?=some y→nX H 3 x y
theorem gu{pins:List (Addr×Obj)}{σ:St}{H:Hp}{s:Shared}(I:Inv X pins σ H s){xs ys:List V}{us ws:List Value}(r1:ar xs us)(r2:ar ys ws)(h:dA H xs ys){A:Around}(hu:A.units+3<cLine):
  ∀j (h1:j<us.toArray.size) (h2:j<ws.toArray.size),EqAt A s us.toArray[j] ws.toArray[j] true:=λj h1 h2=>by
 have h1':j<xs.length:=by rw[r1.length];simpa using h1
 have h2':j<ys.length:=by rw[r2.length];simpa using h2
 obtain⟨u',hu1,hu2⟩:=r1.get (getElem?_eq_getElem h1');obtain⟨v',hv1,hv2⟩:=r2.get (getElem?_eq_getElem h2');have e1:us.toArray[j]=u':=by
  have:us[j]?=some us.toArray[j]:=by rw[getElem?_eq_getElem (by simpa using h1)];simp
  rw[hu1]at this;exact(Option.some.inj this).symm
 have e2:ws.toArray[j]=v':=by
  have:ws[j]?=some ws.toArray[j]:=by rw[getElem?_eq_getElem (by simpa using h2)];simp
  rw[hv1]at this;exact(Option.some.inj this).symm
 rw[e1,e2];exact ui I 3 hu2 hv2 (h.2 j _ _ (getElem?_eq_getElem h1') (getElem?_eq_getElem h2')) hu
theorem pL(hu:X.A.units+4<cLine):OpR X (compareOp .NotEq) (λx y H Q=>rNe x y H Q∨(∃a b xs ys,x=.ref a∧y=.ref b∧dA H xs ys∧((H a=some (.lst xs)∧H b=some (.lst ys))∨(H a=some (.tup xs)∧H b=some (.tup ys)))∧Q (.bl false) H)):=by
 intro pins s σ H x y v u Q I rx ry h;rcases h with h|⟨a,b,xs,ys,rfl,rfl,hx,h,q⟩
 ·exact iq pins s σ H x y v u Q I rx ry h
 ·cases rx;cases ry;rcases h with⟨ha,hb⟩|⟨ha,hb⟩
  ·obtain⟨_,us,n1,r1,o1⟩:=I.hok a _ ha;obtain⟨_,ws,n2,r2,o2⟩:=I.hok b _ hb;have hl:=hx.1;have l1:=r1.length;have l2:=r2.length;refine RcNeAt.lists (e:=λ_=>true) ⟨_,o1,rfl,n1,rfl⟩ ⟨_,o2,rfl,n2,rfl⟩ (by simp only[size_toArray];omega) (by omega) (gu I r1 r2 hx (by simp[Around.in1_units];omega)) _ _ _ _ ⟨.bl false,H,I,?_,q⟩;show _=Value.bool false;simp
  ·obtain⟨_,us,r1,t1⟩:=I.hok a _ ha;obtain⟨_,ws,r2,t2⟩:=I.hok b _ hb;have hl:=hx.1;have l1:=r1.length;have l2:=r2.length;refine RcNeAt.tuples (e:=λ_=>true) t1 t2 (by omega) (gu I r1 r2 hx (by simp[Around.in1_units];omega)) _ _ _ _ ⟨.bl false,H,I,?_,q⟩;show _=Value.bool false;have:us.toArray.size=ws.toArray.size:=by simp only[size_toArray];omega
   simp[this]
end
section
variable{prog:Program}{w:World}{A:Around}{E:Value→Shared→Prop}{s:Shared}
end
section
variable{P:Program}{w:World}
end
section
variable{X:Cx}{o e:Expr}{td ty:TE}{apos cpos:Pos}
end
def Ext(p:Addr)(H H':Hp):Prop:=∀b o,b≠p→H b=some o→H' b=some o
theorem Ext.of{p:Addr}{H H':Hp}(s:Same H H'):Ext p H H':=λb o _ e=>s b o e
theorem Ext.upd{p:Addr}{H:Hp}{o:HO}:Ext p H (upd H p o):=λb u hb e=>by rw[al hb];exact e
theorem Ext.trans{p:Addr}{H H1 H2:Hp}(a:Ext p H H1)(b:Ext p H1 H2):Ext p H H2:=λc o hc e=>b c o hc (a c o hc e)
def zW(te:TE):Prop:=∀σ H (Q Q':VK),(∀y H,Q y H→Q' y H)→te σ H Q→te σ H Q'
theorem ml{js:List Nat}{J:It}{te:TE}{σ:St}{H1:Hp}{Q:VK}{p:Addr}{fr:List (Option V)}(n:Nat)(hn:n≤1000)(hp:H1 p=none)(hfr:cH 1 js σ=none::fr)(R:Nat→V→Hp→Prop)(hR:∀i y H H',R i y H→Ext p H H'→R i y H')(go:∀i H',i<n→Same H1 H'→J.go i H')(stop:∀H',Same H1 H'→J.stop n H')(me:zW te)(step:∀i H' x H2,i<n→Same H1 H'→(∃ys,H' p=some (.lst ys))→J.yld i H' x H2→H2=H'∧te (some x::fr) H' λy H4=>Same H' H4∧R i y H4)(fin:∀ys H',Same H1 H'→H' p=some (.lst ys)→ys.length=n→(∀(j:Nat) y,ys[j]?=some y→R j y H')→Q (.ref p) H'):LcW 1 js (aJ 0) te σ Q J H1 p:=by
 refine tV (k:=1) (js:=js) (J:=J) (p:=p) n hn (λi ys σ' H'=>(∃o,σ'=o::fr)∧Same H1 H'∧H' p=some (.lst ys)∧ys.length=i∧∀(j:Nat) y,ys[j]?=some y→R j y H') ⟨⟨none,hfr⟩,ae hp,ac,rfl,λj y h=>by simp at h⟩
  (λi ys σ' H' h=>by have:=h.2.2.2.1;omega) (λi ys σ' H' hi h=>go i H' hi h.2.1) (λys σ' H' h=>⟨stop H' h.2.1,fin ys H' h.2.1 h.2.2.1 h.2.2.2.1 h.2.2.2.2⟩) (λi ys σ' H' hi h x H2 hy=>?_) ?_ me
 ·obtain⟨⟨o,rfl⟩,s1,hl,hlen,hrs⟩:=h;obtain⟨rfl,ht⟩:=step i H' x H2 hi s1 ⟨ys,hl⟩ hy;refine me _ _ _ _ (λy H4 h4=>?_) ht;obtain⟨s4,r4⟩:=h4;refine⟨s4 _ _ hl,⟨some x,rfl⟩,aL hp (s1.trans s4),ac,by rw[length_append,hlen];rfl,λj z hz=>?_⟩;have ex:Ext p H2 (upd H4 p (.lst (ys++[y]))):=(Ext.of s4).trans Ext.upd
  by_cases hj:j<ys.length
  ·rw[getElem?_append_left hj]at hz;exact hR _ _ _ _ (hrs j z hz) ex
  ·rw[List.getElem?_append_right (by omega)]at hz;have hj':j-ys.length=0:=by
    cases e:j-ys.length with
    |zero=>rfl
    |succ m=>rw[e]at hz;simp at hz
   rw[hj']at hz;have ez:y=z:=by simpa using hz
   subst ez;have ej:j=i:=by omega
   subst ej;exact hR _ _ _ _ r4 Ext.upd
 ·intro _ _ _ _ _ m q;exact m _ _ q
theorem ck{H:Hp}{p q:Addr}(hp:∃ys,H p=some (.lst ys))(hq:H q=none):q≠p:=λe=>by
 obtain⟨ys,h⟩:=hp;rw[←e,hq]at h;cases h
section
variable{X:Cx}{N:List Str}{scope:Scope}{cl:List (Str×Addr)}{k:Nat}{js:List Nat}
theorem lp{elt tg iter:Expr}{oc:Option Expr}{pos spos py:Pos}{y:Str}{ii:Nat}{wi:TI}{g:TG}{tc:TT}{te:TE}{Lw:St→VK→It→Hp→Addr→Prop}(hL:∀{σ Q} J H1 p,Lw σ Q J H1 p→nC k js g tc te σ Q J H1 p)(hXN:X.N.Nodup)(hii:X.N[ii]?=some y)(hx:Loc X.env.scope y)(hc:X.calm=true)(L:LcOk X scope cl)(hN:N.length=k+js.length)(hj:∀(i j:Nat) x,js[i]?=some j→N[k+i]?=some x→X.N[j]?=some x∧Vis X.env.scope x∧X.env.scope.names.lookup x≠some .local∧((relabel scope X.env).names.lookup x=some .cell∨(relabel scope X.env).names.lookup x=some .free))(hi:PI X tg iter wi)(hg:∀s H fp,PG (bn X N scope cl s H fp) tg g)(ht:∀s H fp,ocT (bn X N scope cl s H fp) oc tc)(he:∀s H fp,PE (bn X N scope cl s H fp) elt te)(hs:∀x,foldedSetIterable iter X.env x=pure x)(hsw:swapsWith (.ListComp elt [⟨tg,iter,oc.toList,0⟩] scope pos) (some (.Name y py)) spos.line X.env=pure true)(hf:X.fn y=true∨X.env.scope.names.lookup y=some .local):PS X (.Assign [.Name y py] (.ListComp elt [⟨tg,iter,oc.toList,0⟩] scope pos) spos) (sJ (λσ H Q=>wi σ H λJ H1=>∀p,H1 p=none→Lw σ Q J H1 p) (aJ ii)):=by
 intro pins s σ H D I h;rw[exec_Assign_Name_used _ _ _ _ hsw];refine wpAny_bind (wpAny_standAt (wpAny_bind ?_));show wpAny _ X.A (do let _ ← comprehension (.ListComp elt [⟨tg,iter,oc.toList,0⟩] scope pos) scope X.env _ (newList []) false (eval iter X.env) (some (assign (.Name y py) X.env))) _ _ s
 refine wpAny_bind (wpAny_mono (qp (Qc:=λ_ s'=>∃σ' H',Inv X pins σ' H' s'∧D.nx σ' H') hc L hN hj hi hg ht he hs hL I h λ{s0 s4 Hx H3 σ4 fp p} I3 f3 J4 qn=>?_) (λ_ s' hq=>wpAny_pure (wpAny_pure hq)) λ_ _ e=>e);obtain⟨m,hm,_⟩:=J4.loc;have I4:Inv X pins σ H3 s4:=pA I3 f3 J4 (SameBut.refl _ _);obtain⟨f0,f1,f2,f3',f4,f5⟩:=I3.fpOk (b:=s0.heap.objs.size) (le_refl _) (H':=H3) J4.free;show wpAny _ _ (assign (.Name y py) X.env (.ref p)) _ _ _;refine wpAny_assign_Name (kA I4 hXN hii hx (v:=.ref p) rfl (λs5 I5 ⟨a,sb,ha⟩=>⟨m,hm.sameBut sb ?_,λh' hs'=>⟨_,H3,I5.turned (t':=s5.toks) (λb o hb e=>(hs'.2 b hb).trans e) f0 f1 f3' f4 f5,qn⟩⟩) hf);rcases ha with e|e
 ·rw[e];exact f1
 ·exact λz=>f4 _ _ e z.symm
theorem lr{elt tg iter c:Expr}{pos spos py:Pos}{y:Str}{ii:Nat}{wi:TI}{g:TG}{tc:TT}{te:TE}(hXN:X.N.Nodup)(hii:X.N[ii]?=some y)(hx:Loc X.env.scope y)(hc:X.calm=true)(L:LcOk X scope cl)(hN:N.length=k+js.length)(hj:∀(i j:Nat) x,js[i]?=some j→N[k+i]?=some x→X.N[j]?=some x∧Vis X.env.scope x∧X.env.scope.names.lookup x≠some .local∧((relabel scope X.env).names.lookup x=some .cell∨(relabel scope X.env).names.lookup x=some .free))(hi:PI X tg iter wi)(hg:∀s H fp,PG (bn X N scope cl s H fp) tg g)(ht:∀s H fp,PT (bn X N scope cl s H fp) c tc)(he:∀s H fp,PE (bn X N scope cl s H fp) elt te)(hs:∀x,foldedSetIterable iter X.env x=pure x:=by intro _;rfl)(hsw:swapsWith (.ListComp elt [⟨tg,iter,[c],0⟩] scope pos) (some (.Name y py)) spos.line X.env=pure true:=by rfl)(hf:X.fn y=true∨X.env.scope.names.lookup y=some .local:=by first|exact .inl rfl|exact .inr rfl|assumption):PS X (.Assign [.Name y py] (.ListComp elt [⟨tg,iter,[c],0⟩] scope pos) spos) (sJ (zO k js wi g tc te) (aJ ii)):=lp (oc:=some c) (λ_ _ _ h=>h) hXN hii hx hc L hN hj hi hg ht he hs hsw hf
theorem nZ{elt tg iter:Expr}{pos spos py:Pos}{y:Str}{ii:Nat}{wi:TI}{g:TG}{te:TE}(hXN:X.N.Nodup)(hii:X.N[ii]?=some y)(hx:Loc X.env.scope y)(hc:X.calm=true)(L:LcOk X scope cl)(hN:N.length=k+js.length)(hj:∀(i j:Nat) x,js[i]?=some j→N[k+i]?=some x→X.N[j]?=some x∧Vis X.env.scope x∧X.env.scope.names.lookup x≠some .local∧((relabel scope X.env).names.lookup x=some .cell∨(relabel scope X.env).names.lookup x=some .free))(hi:PI X tg iter wi)(hg:∀s H fp,PG (bn X N scope cl s H fp) tg g)(he:∀s H fp,PE (bn X N scope cl s H fp) elt te)(hs:∀x,foldedSetIterable iter X.env x=pure x:=by intro _;rfl)(hsw:swapsWith (.ListComp elt [⟨tg,iter,[],0⟩] scope pos) (some (.Name y py)) spos.line X.env=pure true:=by rfl)(hf:X.fn y=true∨X.env.scope.names.lookup y=some .local:=by first|exact .inl rfl|exact .inr rfl|assumption):PS X (.Assign [.Name y py] (.ListComp elt [⟨tg,iter,[],0⟩] scope pos) spos) (sJ (tLc k js wi g te) (aJ ii)):=lp (oc:=none) lR hXN hii hx hc L hN hj hi hg (λ_ _ _ _ _ _ h=>h) he hs hsw hf
end
abbrev TJ:=St→Hp→(Hp→Prop)→Prop
section
variable{X:Cx}{tg:Expr}
def PJ(X:Cx)(ps:List Expr)(b:Nat)(t:TJ):Prop :=
 ∀(out:Str)(pins:List (Addr×Obj))(s:Shared)(σ:St)(H:Hp)(Q:VK),Inv X pins σ H s→out.length+b≤1000→(t σ H λH1=>∀y,Q (.str y) H1)→wpAny (model X.prog X.w) X.A (joinParts out (evalEach ps X.env)) (EP X pins σ Q) X.xe s
theorem yo:PJ X [] 0 (λσ H k=>k H):=by
 intro out pins s σ H Q I hb h;exact joinParts_nilE (joinParts_nil ⟨.str _,H,I.tok _,⟨_,rfl⟩,h _⟩ (le_of_lt (aE (by omega))))
theorem uk{x:Str}{c b:Nat}{j:Nat}{p:Pos}{ps:List Expr}{t:TJ}(hx:x.length≤c)(h:PJ X ps b t):PJ X (.Constant (.str x) j p::ps) (c+b) t:=by
 intro out pins s σ H Q I hb hq;refine joinParts_cons (Constant_str ?_);have hl:(out++x).length=out.length+x.length:=strLen_append ..;exact⟨le_of_lt (aE (by omega)),h _ pins _ σ H Q (I.tok _) (by omega) hq⟩
def zX(t:TJ):TE:=λσ H Q=>t σ H λH1=>∀y,Q (.str y) H1
theorem wd{p1 p2:Expr}{ps:List Expr}{pos:Pos}{b:Nat}{t:TJ}(h:PJ X (p1::p2::ps) b t)(hb:b≤1000):PE X (.JoinedStr (p1::p2::ps) pos) (zX t):=by
 intro pins s σ H Q I hq;exact JoinedStr_many (h empty pins s σ H Q I (by show 0+b≤1000;omega) hq)
def iDK(td:TE):TI:=λσ H R=>td σ H λv H1=>∃d kvs,v=.ref d∧H1 d=some (.dK kvs)∧∀o,R (Itk d o (.dK kvs) (kvs.map λp=>kV p.1)) (upd H1 d (.frz o (.dK kvs)))
theorem zY{l:Expr}{tl:TE}(hl:PE X l tl):PI X tg l (iDK tl):=by
 intro pins s σ H R I h;refine thn (hl pins s σ H _ I h) λv s1 hpt=>?_;obtain⟨x,H1,I1,r1,q1⟩:=hpt;obtain⟨d,kvs,e,hH,q⟩:=q1;subst e;cases r1;obtain⟨hz,hsm,vs,rel,o,es,ep,ho,hx,hd,hk,hp,hn⟩:=I1.hok d _ hH;have I2:Inv X pins σ (upd H1 d (.frz o (.dK kvs))) s1:=I1.write (t':=s1.toks) (x:=d) (e:=d) (by rw[hH];trivial) (.inl rfl) (λ_ _ _ q=>q) ⟨o,ho⟩ ⟨ho,hz,hsm,vs,rel,o,es,ep,ho,hx,hd,hk,hp,hn⟩;refine nV hsm ⟨o,ho,hx,hd⟩ ?_;refine⟨s1.heap.objs.size,[s1.heap.objs.size],_,_,upd H1 d (.frz o (.dK kvs)),rfl,I2.kept (t':=s1.toks) λb o e=>get?_push_of_some _ e,ln hx hd ?_,⟨_,get?_push_size _ rfl,rfl,rfl⟩,λb hb=>?_,q o⟩
 ·have key:∀(es:List DictEntry)(vs:List (Key×Value))(kvs:List (Key×V)),Pairs (aw X.prog X.w) es vs→KV kvs vs→ar (kvs.map λp=>kV p.1) (es.map (·.key)):=by
   intro es vs kvs hp
   induction hp generalizing kvs with
   |nil=>intro r;cases r;exact .nil
   |cons h1 h2 _ ih =>
    intro r;cases r with
    |cons r1 r2 =>
     refine .cons ?_ (ih _ r2);dsimp only;rw[r1.1];rcases aN h1 with⟨i,t,e1,e2⟩|⟨x,t,e1,e2⟩
     ·rw[e1,e2];exact⟨t,rfl⟩
     ·rw[e1,e2];exact⟨t,rfl⟩
  exact key _ _ _ hp rel
 ·have e:b=s1.heap.objs.size:=by simpa using hb
  subst e;exact I2.fpOk (le_refl _) (I2.hok.fresh (le_refl _))
theorem yp(hu:X.A.units+4<cLine):OpR X (compareOp .Eq) (λx y H Q=>rEq x y H Q∨(∃a b xs ys,x=.ref a∧y=.ref b∧dA H xs ys∧((H a=some (.lst xs)∧H b=some (.lst ys))∨(H a=some (.tup xs)∧H b=some (.tup ys)))∧Q (.bl true) H)):=by
 intro pins s σ H x y v u Q I rx ry h;rcases h with h|⟨a,b,xs,ys,rfl,rfl,hx,h,q⟩
 ·exact sN pins s σ H x y v u Q I rx ry h
 ·cases rx;cases ry;rcases h with⟨ha,hb⟩|⟨ha,hb⟩
  ·obtain⟨_,us,n1,r1,o1⟩:=I.hok a _ ha;obtain⟨_,ws,n2,r2,o2⟩:=I.hok b _ hb;have hl:=hx.1;have l1:=r1.length;have l2:=r2.length;refine eq_listAt (e:=λ_=>true) ⟨_,o1,rfl,n1,rfl⟩ ⟨_,o2,rfl,n2,rfl⟩ (by simp only[size_toArray];omega) (by omega) (gu I r1 r2 hx (by simp[Around.in1_units];omega)) ⟨.bl true,H,I,?_,q⟩;show _=Value.bool true;simp
  ·obtain⟨_,us,r1,t1⟩:=I.hok a _ ha;obtain⟨_,ws,r2,t2⟩:=I.hok b _ hb;have hl:=hx.1;have l1:=r1.length;have l2:=r2.length;refine eq_tupleAt (e:=λ_=>true) t1 t2 (by omega) (gu I r1 r2 hx (by simp[Around.in1_units];omega)) ⟨.bl true,H,I,?_,q⟩;show _=Value.bool true;have:us.toArray.size=ws.toArray.size:=by simp only[size_toArray];omega
   simp[this]
end
theorem Same.seqT{K:PySem.W.Frag}{H H':Hp}{a:Addr}{xs:List V}(e:Same H H')(h:SqT K H a xs):SqT K H' a xs:=by
 rcases h with (h|⟨o,h⟩)|h
 ·exact .inl (.inl (e _ _ h))
 ·exact .inl (.inr ⟨o,e _ _ h⟩)
 ·exact .inr h
structure Src(J:It)(H1:Hp)(xs:List V):Prop where
 go:∀i H',i<xs.length→Same H1 H'→J.go i H'
 stop:∀H',Same H1 H'→J.stop xs.length H'
 yl:∀i H' x H2,i<xs.length→Same H1 H'→J.yld i H' x H2→H2=H'∧xs[i]?=some x
theorem cb{K:PySem.W.Frag}{a:Addr}{xs:List V}{H1:Hp}(h:SqT K H1 a xs):Src (Itt K a) H1 xs :=
 ⟨λi H' hi s=>⟨xs,xs[i],s.seqT h,getElem?_eq_getElem hi⟩,λH' s=>⟨xs,s.seqT h,le_refl _⟩,λi H' x H2 _ s ⟨e,y⟩=>⟨e,y xs (by subst e;exact s.seqT h)⟩⟩
theorem cI{K:PySem.W.Frag}{a:Addr}{xs:List V}{H1:Hp}(h:SqL K H1 a xs):Src (Itl K a) H1 xs :=
 ⟨λi H' hi s=>⟨xs,xs[i],s.seq h,getElem?_eq_getElem hi⟩,λH' s=>⟨xs,s.seq h,le_refl _⟩,λi H' x H2 _ s ⟨e,y⟩=>⟨e,y xs (by subst e;exact s.seq h)⟩⟩
theorem ul{d:Addr}{o:Obj}{u:HO}{ks:List V}{H1:Hp}(h:H1 d=some (.frz o u)):Src (Itk d o u ks) H1 ks :=
 ⟨λi H' hi s=>⟨s _ _ h,hi⟩,λH' s=>⟨s _ _ h,le_refl _⟩,λi H' x H2 _ s ⟨e,y⟩=>⟨e,y⟩⟩
theorem Paired.snoc{α β:Type}{R:α→β→Prop}:∀{as:List α}{bs:List β}{a:α}{b:β},Paired R as bs→R a b→Paired R (as++[a]) (bs++[b])
 |_,_,_,_,.nil,h=>.cons h .nil
 |_,_,_,_,.cons r t,h=>.cons r (Paired.snoc t h)
theorem dJ{α:Type}{js:List Nat}{J:It}{tc:TT}{te:TE}{σ:St}{H1:Hp}{Q:VK}{p:Addr}{fr:List (Option V)}(zs:List α)(val:α→V)(hn:zs.length≤1000)(hp:H1 p=none)(S:Src J H1 (zs.map val))(hfr:cH 1 js σ=none::fr)(g:α→Bool)(R:α→V→Hp→Prop)(hR:∀z y H H',R z y H→Ext p H H'→R z y H')(cond:∀z H' (k:Bool→Hp→Prop),z∈zs→Same H1 H'→(∃ys,H' p=some (.lst ys))→(∀H4,Same H' H4→k (g z) H4)→tc (some (val z)::fr) H' k)(elt:∀z H' (k:VK),z∈zs→g z=true→Same H1 H'→(∃ys,H' p=some (.lst ys))→(∀y H4,Same H' H4→R z y H4→k y H4)→te (some (val z)::fr) H' k)(fin:∀ys H',Same H1 H'→H' p=some (.lst ys)→Paired (λz y=>R z y H') (zs.filter g) ys→Q (.ref p) H'):nC 1 js (aJ 0) tc te σ Q J H1 p:=by
 have grow:∀{as:List α}{ys:List V}{H H':Hp},Ext p H H'→Paired (λz y=>R z y H) as ys→Paired (λz y=>R z y H') as ys:=λex r=>Paired.mapP r λa b h=>hR a b _ _ h ex;have hlen:∀{as:List α}{ys:List V}{H:Hp},Paired (λz y=>R z y H) as ys→ys.length=as.length:=λr=>(Paired.length r).symm;refine⟨λi m ys σ' H'=>m=zs.length-i∧i≤zs.length∧(∃o,σ'=o::fr)∧Same H1 H'∧H' p=some (.lst ys)∧Paired (λz y=>R z y H') ((zs.take i).filter g) ys,⟨zs.length,by simp,zero_le _,⟨none,hfr⟩,ae hp,ac,.nil⟩,?_⟩;rintro i m ys σ' H' ⟨rfl,hi,⟨o,rfl⟩,s1,hl,hys⟩
 by_cases hlt:i<zs.length
 ·have hlt':i<(zs.map val).length:=by rw[length_map];exact hlt
  refine .inr ⟨S.go i H' hlt' s1,?_,λx H2 hy=>?_⟩
  ·have h1:ys.length≤zs.length:=by
    rw[hlen hys];exact le_trans (length_filter_le _ _) (by rw[length_take];omega)
   exact lt_of_le_of_lt h1 (aE hn)
  ·obtain⟨rfl,hx⟩:=S.yl i H' x H2 hlt' s1 hy;have gz:zs[i]?=some zs[i]:=getElem?_eq_getElem hlt;have mz:=mem_of_getElem? gz;rw[getElem?_map,gz]at hx;have ex:val zs[i]=x:=Option.some.inj hx;have et:zs.take (i+1)=zs.take i++[zs[i]]:=eT gz;subst ex;generalize zs[i]=z at gz mz et⊢;refine cond z H2 _ mz s1 ⟨ys,hl⟩ λH4 s4=>?_;cases hb:g z with
   |true =>
    rw[if_pos rfl];refine elt z H4 _ mz hb (s1.trans s4) ⟨ys,s4 _ _ hl⟩ λy H5 s5 r5=>⟨s5 _ _ (s4 _ _ hl),zs.length-(i+1),by omega,rfl,hlt,⟨_,rfl⟩,aL hp ((s1.trans s4).trans s5),ac,?_⟩;rw[et,List.filter_append,filter_cons_of_pos hb];exact Paired.snoc (grow ((Ext.of (s4.trans s5)).trans Ext.upd) hys) (hR _ _ _ _ r5 Ext.upd)
   |false =>
    rw[if_neg (by simp)];refine⟨zs.length-(i+1),by omega,rfl,hlt,⟨_,rfl⟩,s1.trans s4,s4 _ _ hl,?_⟩;rw[et,List.filter_append,filter_cons_of_neg (by simp[hb]),List.filter_nil,append_nil];exact grow (Ext.of s4) hys
 ·have e:i=zs.length:=by omega
  subst e;have st:=S.stop H' s1;rw[length_map]at st;refine .inl ⟨st,fin ys H' s1 hl ?_⟩;rw[take_length]at hys;exact hys
theorem bM{α:Type}{js:List Nat}{J:It}{te:TE}{σ:St}{H1:Hp}{Q:VK}{p:Addr}{fr:List (Option V)}(zs:List α)(val:α→V)(hn:zs.length≤1000)(hp:H1 p=none)(S:Src J H1 (zs.map val))(hfr:cH 1 js σ=none::fr)(R:α→V→Hp→Prop)(hR:∀z y H H',R z y H→Ext p H H'→R z y H')(elt:∀z H' (k:VK),z∈zs→Same H1 H'→(∃ys,H' p=some (.lst ys))→(∀y H4,Same H' H4→R z y H4→k y H4)→te (some (val z)::fr) H' k)(fin:∀ys H',Same H1 H'→H' p=some (.lst ys)→Paired (λz y=>R z y H') zs ys→Q (.ref p) H'):LcW 1 js (aJ 0) te σ Q J H1 p:=by
 have grow:∀{as:List α}{ys:List V}{H H':Hp},Ext p H H'→Paired (λz y=>R z y H) as ys→Paired (λz y=>R z y H') as ys:=λex r=>Paired.mapP r λa b h=>hR a b _ _ h ex;have hlen:∀{as:List α}{ys:List V}{H:Hp},Paired (λz y=>R z y H) as ys→ys.length=as.length:=λr=>(Paired.length r).symm;refine⟨λi m ys σ' H'=>m=zs.length-i∧i≤zs.length∧(∃o,σ'=o::fr)∧Same H1 H'∧H' p=some (.lst ys)∧Paired (λz y=>R z y H') (zs.take i) ys,⟨zs.length,by simp,zero_le _,⟨none,hfr⟩,ae hp,ac,.nil⟩,?_⟩;rintro i m ys σ' H' ⟨rfl,hi,⟨o,rfl⟩,s1,hl,hys⟩
 by_cases hlt:i<zs.length
 ·have hlt':i<(zs.map val).length:=by rw[length_map];exact hlt
  refine .inr ⟨S.go i H' hlt' s1,?_,λx H2 hy=>?_⟩
  ·have h1:ys.length≤zs.length:=by
    rw[hlen hys,length_take];omega
   exact lt_of_le_of_lt h1 (aE hn)
  ·obtain⟨rfl,hx⟩:=S.yl i H' x H2 hlt' s1 hy;have gz:zs[i]?=some zs[i]:=getElem?_eq_getElem hlt;have mz:=mem_of_getElem? gz;rw[getElem?_map,gz]at hx;have ex:val zs[i]=x:=Option.some.inj hx;have et:zs.take (i+1)=zs.take i++[zs[i]]:=eT gz;subst ex;generalize zs[i]=z at gz mz et⊢;refine elt z H2 _ mz s1 ⟨ys,hl⟩ λy H5 s5 r5=>⟨s5 _ _ hl,zs.length-(i+1),by omega,rfl,hlt,⟨_,rfl⟩,aL hp (s1.trans s5),ac,?_⟩;rw[et];exact Paired.snoc (grow ((Ext.of s5).trans Ext.upd) hys) (hR _ _ _ _ r5 Ext.upd)
 ·have e:i=zs.length:=by omega
  subst e;have st:=S.stop H' s1;rw[length_map]at st;refine .inl ⟨st,fin ys H' s1 hl ?_⟩;rw[take_length]at hys;exact hys
theorem bE{α β:Type}{R:α→V→Prop}{val:β→V}{S:α→β→Prop}{zs:List α}{ys:List V}(h:Paired R zs ys)(f:∀z y,z∈zs→R z y→∃b,y=val b∧S z b):
  ∃bs:List (α×β),bs.map (·.1)=zs∧ys=bs.map (λx=>val x.2)∧∀x∈bs,S x.1 x.2:=by
 induction h with
 |nil=>exact⟨[],rfl,rfl,by simp⟩
 |@cons a y as bs r _ ih =>
  obtain⟨cs,e1,e2,e3⟩:=ih λz y hz=>f z y (by simp[hz]);obtain⟨b,e,s⟩:=f _ _ (by simp) r;refine⟨(a,b)::cs,by rw[map_cons,e1],by rw[map_cons,←e2,e],λx hx=>?_⟩;rcases mem_cons.mp hx with rfl|hx
  ·exact s
  ·exact e3 x hx
theorem aU{α:Type}{R:α→V→Prop}{f:α→V}{zs:List α}{ys:List V}(h:Paired R zs ys)(hf:∀z y,z∈zs→R z y→y=f z):ys=zs.map f:=by
 induction h with
 |nil=>rfl
 |cons r _ ih=>rw[map_cons,←ih λz y hz=>hf z y (by simp[hz]),hf _ _ (by simp) r]
theorem we(p:Int)(ms:List Int):inV (.int p) (ms.map V.int)=decide (p∈ms):=by
 unfold inV;rw[any_map,Bool.eq_iff_iff,any_eq_true,decide_eq_true_eq];constructor
 ·rintro⟨x,hx,e⟩;have:x=p:=by simpa [eqV]using e
  rw[←this];exact hx
 ·intro h;exact⟨p,h,by simp[eqV]⟩
theorem qD{X:Cx}:gM (CX1 X.prog X.w) X E0:=λ_ _ _ _ _ _ _ ⟨_,_,_,_,_,h⟩=>h.elim
end L2
namespace TW
structure Nd(S:Type) where
 num:Int
 par:Int
 nm:S
 st:Option Int
section
variable{S:Type}
inductive Reach(ns:List (Nd S))(f:Int):Nd S→Prop where
 |base {n:Nd S}:n∈ns→n.par=f→Reach ns f n
 |step {m n:Nd S}:Reach ns f m→m.st=none→n∈ns→n.par=m.num→Reach ns f n
theorem Reach.mem{ns:List (Nd S)}{f:Int}{n:Nd S}(h:Reach ns f n):n∈ns:=by
 cases h<;>assumption
theorem Reach.mono{ns ms:List (Nd S)}{f:Int}{n:Nd S}(h:Reach ns f n)(hs:∀x∈ns,x∈ms):Reach ms f n:=by
 induction h with
 |base hm hp=>exact .base (hs _ hm) hp
 |step _ hf hm hp ih=>exact .step ih hf (hs _ hm) hp
def jE(ns:List (Nd S))(k:Int):List (Nd S):=ns.filter λn=>decide (n.par=k)
def dQ(dn:List Int)(n:Nd S):Bool:=decide (n.par∈dn)
structure Walk(ns:List (Nd S))(f:Int)(dn:List Int)(fd:List (Nd S))(pd:List Int):Prop where
 perm:fd.Perm (ns.filter (dQ dn))
 reach:∀n∈fd,Reach ns f n
 cover:∀k,(k∈pd∨k∈dn)↔(k=f∨∃m∈fd,m.st=none∧m.num=k)
theorem Walk.start(ns:List (Nd S))(f:Int):Walk ns f [] [] [f]:=by
 refine⟨?_,by simp,λk=>by simp⟩;have e:ns.filter (dQ [])=[]:=by
  rw[List.filter_eq_nil_iff];intro a _;simp[dQ]
 rw[e]
theorem eG{α:Type}(p q:α→Bool)(hd:∀x,p x=true→q x=true→False):∀l:List α,
  (l.filter p++l.filter q).Perm (l.filter λx=>p x||q x)
 |[]=>by simp
 |x::l=>by
  have ih:=eG p q hd l;cases hp:p x with
  |true =>
   have hq:q x=false:=by
    cases h:q x with
    |false=>rfl
    |true=>exact(hd x hp h).elim
   rw[filter_cons_of_pos hp,filter_cons_of_neg (by simp[hq]),filter_cons_of_pos (by simp[hp])];exact List.Perm.cons x ih
  |false =>
   cases hq:q x with
   |true =>
    rw[filter_cons_of_neg (by simp[hp]),filter_cons_of_pos hq,filter_cons_of_pos (by simp[hq])];exact perm_middle.trans (List.Perm.cons x ih)
   |false =>
    rw[filter_cons_of_neg (by simp[hp]),filter_cons_of_neg (by simp[hq]),filter_cons_of_neg (by simp[hp,hq])];exact ih
def here(ns:List (Nd S))(dn:List Int)(x:Int):List (Nd S):=if x∈dn then []else jE ns x
def aM(l:List (Nd S)):List Int:=(l.filter λn=>n.st.isNone).map (·.num)
theorem iy{l:List (Nd S)}{k:Int}:k∈aM l↔∃m∈l,m.st=none∧m.num=k:=by
 unfold aM;rw[mem_map];constructor
 ·rintro⟨m,hm,e⟩;rw[mem_filter]at hm;exact⟨m,hm.1,by simpa using hm.2,e⟩
 ·rintro⟨m,hm,h,e⟩;exact⟨m,mem_filter.mpr ⟨hm,by simp[h]⟩,e⟩
theorem Walk.turn{ns:List (Nd S)}{f x:Int}{dn:List Int}{fd:List (Nd S)}{pd:List Int}(w:Walk ns f dn fd (pd++[x])):
  Walk ns f (x::dn) (fd++here ns dn x) (pd++aM (here ns dn x)):=by
 have hx:=(w.cover x).mp (.inl (by simp))
 by_cases hd:x∈dn
 ·have eh:here ns dn x=[]:=by unfold here;rw[if_pos hd]
  rw[eh];refine⟨?_,by simpa using w.reach,λk=>?_⟩
  ·have e:ns.filter (dQ (x::dn))=ns.filter (dQ dn):=by
    apply filter_congr;intro n _;simp only[dQ,mem_cons,decide_eq_decide];constructor
    ·rintro(h|h)
     ·rw[h];exact hd
     ·exact h
    ·exact .inr
   rw[e,append_nil];exact w.perm
  ·have c:=w.cover k;rw[append_nil,←c];simp only[aM,List.filter_nil,map_nil,append_nil,mem_append,mem_cons,not_mem_nil,or_false];constructor
   ·rintro(h|h|h)
    ·exact .inl (.inl h)
    ·exact .inl (.inr h)
    ·exact .inr h
   ·rintro((h|h)|h)
    ·exact .inl h
    ·exact .inr (.inl h)
    ·exact .inr (.inr h)
 ·have eh:here ns dn x=jE ns x:=by unfold here;rw[if_neg hd]
  rw[eh];refine⟨?_,λn hn=>?_,λk=>?_⟩
  ·have e:ns.filter (dQ (x::dn))=ns.filter λn=>dQ dn n||decide (n.par=x):=by
    apply filter_congr;intro n _;rw[Bool.eq_iff_iff];simp only[dQ,mem_cons,decide_eq_true_eq,or_eq_true];constructor
    ·rintro(h|h)
     ·exact .inr h
     ·exact .inl h
    ·rintro(h|h)
     ·exact .inr h
     ·exact .inl h
   rw[e];refine(List.Perm.append_right _ w.perm).trans (eG _ _ (λy h1 h2=>?_) ns);simp only[dQ,decide_eq_true_eq]at h1 h2;rw[h2]at h1;exact hd h1
  ·rcases mem_append.mp hn with h|h
   ·exact w.reach n h
   ·unfold jE at h;rw[mem_filter]at h;obtain⟨hm,hp⟩:=h;simp only[decide_eq_true_eq]at hp;rcases hx with e|⟨m,hm',hf,e⟩
    ·exact .base hm (hp.trans e)
    ·exact .step (w.reach m hm') hf hm (hp.trans e.symm)
  ·have c:=w.cover k;simp only[mem_append,mem_cons,not_mem_nil,or_false]at c⊢;rw[iy];constructor
   ·rintro((h|⟨m,hm,h1,h2⟩)|h|h)
    ·rcases c.mp (.inl (.inl h))with e|⟨m,hm,z⟩
     ·exact .inl e
     ·exact .inr ⟨m,.inl hm,z⟩
    ·exact .inr ⟨m,.inr hm,h1,h2⟩
    ·rcases c.mp (.inl (.inr h))with e|⟨m,hm,z⟩
     ·exact .inl e
     ·exact .inr ⟨m,.inl hm,z⟩
    ·rcases c.mp (.inr h)with e|⟨m,hm,z⟩
     ·exact .inl e
     ·exact .inr ⟨m,.inl hm,z⟩
   ·rintro(e|⟨m,hm|hm,z⟩)
    ·rcases c.mpr (.inl e)with (h|h)|h
     ·exact .inl (.inl h)
     ·exact .inr (.inl h)
     ·exact .inr (.inr h)
    ·rcases c.mpr (.inr ⟨m,hm,z⟩)with (h|h)|h
     ·exact .inl (.inl h)
     ·exact .inr (.inl h)
     ·exact .inr (.inr h)
    ·exact .inl (.inr ⟨m,hm,z⟩)
theorem Walk.len{ns:List (Nd S)}{f:Int}{dn:List Int}{fd:List (Nd S)}{pd:List Int}(w:Walk ns f dn fd pd):fd.length≤ns.length:=by
 rw[w.perm.length_eq];exact length_filter_le _ _
theorem dk(l:List (Nd S)):(aM l).length≤l.length:=by
 unfold aM;rw[length_map];exact length_filter_le _ _
theorem Walk.mem{ns:List (Nd S)}{f:Int}{dn:List Int}{fd:List (Nd S)}(w:Walk ns f dn fd [])(n:Nd S):n∈fd↔Reach ns f n:=by
 constructor
 ·exact w.reach n
 ·have cov:∀k,(k=f∨∃m∈fd,m.st=none∧m.num=k)→k∈dn:=λk h=>by
   rcases (w.cover k).mpr h with z|z
   ·simp at z
   ·exact z
  have back:∀x,x∈ns→x.par∈dn→x∈fd:=λx hx hp=>w.perm.mem_iff.mpr (mem_filter.mpr ⟨hx,by simp[dQ,hp]⟩);intro h
  induction h with
  |base hm hp=>exact back _ hm (cov _ (.inl hp))
  |step _ hf hm hp ih=>exact back _ hm (cov _ (.inr ⟨_,ih,hf,hp.symm⟩))
def br(ns:List (Nd S)):Prop:=ns.Pairwise λa b=>a.num<b.num
def bx(ns:List (Nd S)):Prop:=(ns.map λn=>(n.par,n.nm)).Nodup
structure Tree(ns:List (Nd S)):Prop where
 rise:br ns
 own:bx ns
 down:∀n∈ns,Reach ns 0 n
inductive Built:List (Nd S)→Prop where
 |nil:Built []
 |snoc {l:List (Nd S)} {n:Nd S}:Built l→(n.par=0∨∃m∈l,m.st=none∧m.num=n.par)→Built (l++[n])
theorem Built.down{l:List (Nd S)}(b:Built l):∀n∈l,Reach l 0 n:=by
 induction b with
 |nil=>simp
 |@snoc l n b h ih =>
  intro x hx;have up:∀y∈l,y∈l++[n]:=λy hy=>mem_append_left _ hy;rcases mem_append.mp hx with hx|hx
  ·exact(ih x hx).mono up
  ·have e:x=n:=by simpa using hx
   subst e;rcases h with h|⟨m,hm,hf,he⟩
   ·exact .base (by simp) h
   ·exact .step ((ih m hm).mono up) hf (by simp) he.symm
theorem wf{l t:List (Nd S)}(b:Built l)(p:t.Perm l)(hr:t.Pairwise λa b=>a.num≤b.num)(hn:(l.map (·.num)).Nodup)(ho:bx l):Tree t:=by
 refine⟨?_,?_,λn hn'=>?_⟩
 ·have hn':(t.map (·.num)).Nodup:=((p.map _).nodup_iff).mpr hn;unfold Nodup at hn';rw[pairwise_map]at hn';unfold br;exact hr.imp₂ (λa b h1 h2=>by omega) hn'
 ·unfold bx;exact((p.map _).nodup_iff).mpr ho
 ·exact(b.down n (p.mem_iff.mp hn')).mono λx hx=>p.mem_iff.mpr hx
theorem jF{t:List (Nd S)}(h:br t){a b:Nd S}(ha:a∈t)(hb:b∈t)(e:a.num=b.num):a=b:=by
 unfold br at h
 induction t with
 |nil=>simp at ha
 |cons x r ih =>
  rw[pairwise_cons]at h;rcases mem_cons.mp ha with ea|ha'
  ·rcases mem_cons.mp hb with eb|hb'
   ·rw[ea,eb]
   ·have:=h.1 b hb';rw[←ea]at this;omega
  ·rcases mem_cons.mp hb with eb|hb'
   ·have:=h.1 a ha';rw[←eb]at this;omega
   ·exact ih h.2 ha' hb'
end
end TW
namespace TW
section
variable{S:Type}
inductive PathTo(ns:List (Nd S)):Int→List S→Prop where
 |top:PathTo ns 0 []
 |node {n:Nd S} {p:List S}:n∈ns→PathTo ns n.par p→PathTo ns n.num (p++[n.nm])
structure Tree1(ns:List (Nd S)):Prop extends Tree ns where
 pos:∀n∈ns,1≤n.num
theorem Tree1.inj{ns:List (Nd S)}(T:Tree1 ns){a b:Nd S}(ha:a∈ns)(hb:b∈ns)(e:a.num=b.num):a=b:=jF T.rise ha hb e
theorem PathTo.zero{ns:List (Nd S)}(T:Tree1 ns){k:Int}{p:List S}(h:PathTo ns k p)(e:k=0):p=[]:=by
 cases h with
 |top=>rfl
 |@node n p hm _=>have:=T.pos n hm;omega
theorem PathTo.inv{ns:List (Nd S)}(T:Tree1 ns){k:Int}{p:List S}(h:PathTo ns k p){n:Nd S}(hn:n∈ns)(e:k=n.num):∃q,p=q++[n.nm]∧PathTo ns n.par q:=by
 cases h with
 |top=>have:=T.pos n hn;omega
 |@node m q hm hq =>
  have:m=n:=T.inj hm hn e;subst this;exact⟨q,rfl,hq⟩
theorem PathTo.uniq{ns:List (Nd S)}(T:Tree1 ns){k:Int}{p:List S}(h:PathTo ns k p):∀{q:List S},PathTo ns k q→p=q:=by
 induction h with
 |top=>intro q hq;exact(hq.zero T rfl).symm
 |@node n p hm _ ih =>
  intro q hq;obtain⟨q',e,hq'⟩:=hq.inv T hm rfl;rw[e,ih hq']
theorem PathTo.ex{ns:List (Nd S)}(T:Tree1 ns){n:Nd S}(hn:n∈ns):∃p,PathTo ns n.num p:=by
 have key:∀x,Reach ns 0 x→∃p,PathTo ns x.num p:=by
  intro x r
  induction r with
  |base hm hp=>exact⟨_,.node hm (by rw[hp];exact .top)⟩
  |step _ _ hm hp ih =>
   obtain⟨p,h⟩:=ih;exact⟨_,.node hm (by rw[hp];exact h)⟩
 exact key n (T.down n hn)
theorem PathTo.key{ns:List (Nd S)}(T:Tree1 ns):∀{p:List S}{k j:Int},PathTo ns k p→PathTo ns j p→k=j:=by
 have main:∀(m:Nat){p:List S}{k j:Int},p.length=m→PathTo ns k p→PathTo ns j p→k=j:=by
  intro m
  induction m with
  |zero =>
   intro p k j hl h1 h2;have e:p=[]:=length_eq_zero_iff.mp hl;subst e;have z:∀{k:Int}{q:List S},PathTo ns k q→q=[]→k=0:=by
    intro k q h e;cases h with
    |top=>rfl
    |node _ _=>simp at e
   rw[z h1 rfl,z h2 rfl]
  |succ m ih =>
   intro p k j hl h1 h2;have z:∀{k:Int}{q:List S},PathTo ns k q→q=p→∃n q',n∈ns∧n.num=k∧p=q'++[n.nm]∧PathTo ns n.par q':=by
    intro k q h e;cases h with
    |top=>rw[←e]at hl;simp at hl
    |@node n q' hm hq'=>exact⟨n,q',hm,rfl,e.symm,hq'⟩
   obtain⟨n,q,hn,e1,e2,hq⟩:=z h1 rfl;obtain⟨n',q',hn',e1',e2',hq'⟩:=z h2 rfl;have e3:q++[n.nm]=q'++[n'.nm]:=e2.symm.trans e2';obtain⟨e4,e5⟩:=List.append_inj' e3 rfl;subst e4;have e6:n.nm=n'.nm:=by simpa using e5
   have e7:n.par=n'.par:=ih (by rw[e2]at hl;simpa using hl) hq hq';have ho:=T.own;have:n=n':=by
    unfold bx at ho;obtain⟨i,hi,gi⟩:=mem_iff_getElem.mp hn;obtain⟨j',hj,gj⟩:=mem_iff_getElem.mp hn';have:(ns.map λn=>(n.par,n.nm))[i]'(by simpa using hi)=(ns.map λn=>(n.par,n.nm))[j']'(by simpa using hj):=by
     rw[getElem_map,getElem_map,gi,gj,e6,e7]
    have hij:=(getElem_inj ho).mp this;subst hij;rw[←gi,←gj]
   rw[←e1,←e1',this]
 intro p k j h1 h2;exact main p.length rfl h1 h2
theorem PathTo.chain{ns:List (Nd S)}(T:Tree1 ns){k:Int}{p:List S}(h:PathTo ns k p):∃l:List Int,l.length=p.length∧l.Nodup∧∀x∈l,x∈ns.map (·.num)∧∃q,PathTo ns x q∧q.length≤p.length:=by
 induction h with
 |top=>exact⟨[],rfl,nodup_nil,by simp⟩
 |@node n p hm hp ih =>
  obtain⟨l,e,nd,hx⟩:=ih;refine⟨n.num::l,by simp[e],nodup_cons.mpr ⟨λhin=>?_,nd⟩,λx hx'=>?_⟩
  ·obtain⟨_,q,hq,hl⟩:=hx _ hin;have:=hq.uniq T (.node hm hp);rw[this]at hl;simp at hl;omega
  ·rcases mem_cons.mp hx' with e'|h'
   ·rw[e'];exact⟨mem_map.mpr ⟨n,hm,rfl⟩,_,.node hm hp,le_refl _⟩
   ·obtain⟨a,q,b,c⟩:=hx x h';exact⟨a,q,b,by simp;omega⟩
theorem PathTo.len{ns:List (Nd S)}(T:Tree1 ns){k:Int}{p:List S}(h:PathTo ns k p):p.length≤ns.length:=by
 obtain⟨l,e,nd,hx⟩:=h.chain T;rw[←e];have:=Nodup.length_le_of_subset nd (λx hx'=>(hx x hx').1);rw[length_map]at this;exact this
inductive Und(ns:List (Nd S))(g:Int):Int→Prop where
 |here:Und ns g g
 |up {n:Nd S}:n∈ns→Und ns g n.par→Und ns g n.num
theorem rW{ns:List (Nd S)}(T:Tree1 ns){g:Int}{n:Nd S}(h:Reach ns g n):Und ns g n.num∧∃p q,PathTo ns n.num (p++q)∧q≠[]∧PathTo ns g p:=by
 induction h with
 |@base n hm hp =>
  obtain⟨p,h⟩:=PathTo.ex T hm;obtain⟨q,e,hq⟩:=h.inv T hm rfl;refine⟨.up hm (by rw[hp];exact .here),q,[n.nm],by rw[←e];exact h,by simp,by rw[←hp];exact hq⟩
 |@step m n hr hf hm hp ih =>
  obtain⟨hu,p,q,h1,h2,h3⟩:=ih;refine⟨.up hm (by rw[hp];exact hu),p,q++[n.nm],?_,by simp,h3⟩;rw[←append_assoc];exact .node hm (by rw[hp];exact h1)
theorem eI{ns:List (Nd S)}(T:Tree1 ns){g:Int}{n:Nd S}(h:Reach ns g n):n.num≠g:=by
 obtain⟨_,p,q,h1,h2,h3⟩:=rW T h;intro e;rw[e]at h1;have:=h1.uniq T h3;have hl:=congrArg length this;rw[length_append]at hl;have:q.length≠0:=λz=>h2 (length_eq_zero_iff.mp z);omega
end
end TW
namespace TW
section
variable{S:Type}
end
end TW
namespace TW
section
variable{S:Type}
end
end TW
namespace TW
section
variable{S:Type}
end
end TW
namespace L2
open PySem PySem.Spec PyProof.Rows
section
variable{P:Program}{w:World}{K:PySem.W.Frag}{mg:Str→Option Value}{base:Heap}
theorem Fun.okX{x qual:Str}{st:Stmt}{f:Addr}{fd:FuncData}{N ps:List Str}{k:Nat}{sp:Sp}(F:Fun K x qual st f fd)(S:FnScope N ps (ai st))(len:∀vs H Q E,sp vs H Q E→vs.length=ps.length)(hbody:∀(cdv:Value) (A:Around) (outer:List Env) (s:Shared) (H:Hp) (vs:List V) (Q:VK) (E:XK),Room k (A.deeper (envOfC qual (ai st) s.heap.objs.size f cdv))→sp vs H Q E →
   ∃t,PSs (fM (CX1 P w) P w K mg base N qual (ai st) f cdv A outer s H E) (bv st) t∧t {nx:=λ_ H'=>Q .non H',rt:=Q} (start N vs) H):FnOk P w K mg base (CX1 P w) (k+1) f fd ps sp:=by
 obtain⟨oc,od,kV,doc,pm,an,cdv,ct,osl,rfl,lk,hcd⟩:=F.ex;exact xo lk hcd S len λA outer s H vs Q E hr hsp=>hbody cdv A outer s H vs Q E hr hsp
theorem LcOk.mk'{X:Cx}{scope:Scope}{cl:List (Str×Addr)}(fs:List Str)(hk:scope.kind=.function)(hc:closureFor scope X.env=pure cl)(hn:∀x∈scope.names,x.2=.local→scope.names.lookup x.1=some .local)(hnc:∀x∈scope.names,x.2≠.cell)(hcl:∀y∈cl,X.env.cells.lookup y.1=some y.2)(hfs:cl.map (·.1)=fs)(hall:scope.names.all (λy=>!(y.2==.free)||fs.contains y.1)=true):LcOk X scope cl:=by
 refine⟨hk,hc,hn,hnc,λx c h=>hcl (x,c) (PySem.mem_of_lookup h),λx h=>?_⟩;have hm:∃k,(x,k)∈(relabel scope X.env).names∧(k=.cell∨k=.free):=by
  rcases h with h|h
  ·exact⟨_,PySem.mem_of_lookup h,.inl rfl⟩
  ·exact⟨_,PySem.mem_of_lookup h,.inr rfl⟩
 obtain⟨k,hm,hk'⟩:=hm;unfold relabel at hm;obtain⟨⟨y,k0⟩,hy,e⟩:=mem_map.mp hm;have hfree:x=y∧k0=.free:=by
  cases k0 with
  |free =>
   simp only at e
   split at e
   ·injection e with e1 e2;exact⟨e1.symm,rfl⟩
   ·injection e with e1 e2;exact⟨e1.symm,rfl⟩
  |cell=>exact absurd rfl (hnc _ hy)
  |_ =>
   exfalso
   have e2:k=_:=(congrArg Prod.snd e).symm;simp at e2;rcases hk' with z|z<;>rw[z]at e2<;>cases e2
 obtain⟨rfl,rfl⟩:=hfree;have:=all_eq_true.mp hall _ hy;have hin:fs.contains x=true:=by simpa using this
 rw[←hfs]at hin;have hmem:x∈cl.map (·.1):=List.contains_iff_mem.mp hin;cases e:cl.lookup x with
 |some c=>exact⟨c,rfl⟩
 |none =>
  exfalso
  obtain⟨y,hy,ey⟩:=mem_map.mp hmem;have:=List.lookup_eq_none_iff.mp e y hy;rw[ey]at this;simp at this
end
end L2
namespace TK
open PySem L2
abbrev Nd:=TW.Nd Str
def stV:Option Int→V
 |none=>.non
 |some i=>.int i
def vals(n:Nd):List V:=[.int n.num,.int n.par,.str n.nm,stV n.st]
abbrev ZN:=List (Addr×Nd)
def av(zs:ZN):List V:=(zs.map (·.1)).map V.ref
def nds(zs:ZN):List Nd:=zs.map (·.2)
def At(H:Hp)(zs:ZN):Prop:=∀z∈zs,H z.1=some (.tup (vals z.2))
theorem At.same{H H':Hp}{zs:ZN}(h:At H zs)(s:Same H H'):At H' zs:=λz hz=>s _ _ (h z hz)
theorem bd(zs:ZN):(av zs).length=zs.length:=by simp[av]
theorem ao(zs:ZN):(nds zs).length=zs.length:=by simp[nds]
theorem cB{zs:ZN}{i:Nat}{x:V}(h:(av zs)[i]?=some x):∃z,zs[i]?=some z∧x=.ref z.1:=by
 unfold av at h;rw[getElem?_map,getElem?_map]at h;cases e:zs[i]? with
 |none=>rw[e]at h;cases h
 |some z=>rw[e]at h;exact⟨z,rfl,(Option.some.inj h).symm⟩
theorem eJ{zs:ZN}{i:Nat}{z:Addr×Nd}(h:zs[i]?=some z):(av zs)[i]?=some (.ref z.1):=by
 unfold av;rw[getElem?_map,getElem?_map,h];rfl
theorem at0(n:Nd):atI (vals n) 0=some (.int n.num):=rfl
theorem at1(n:Nd):atI (vals n) 1=some (.int n.par):=rfl
theorem at2(n:Nd):atI (vals n) 2=some (.str n.nm):=rfl
theorem at3(n:Nd):atI (vals n) 3=some (stV n.st):=rfl
theorem yq{σ:St}(h:σ.length=2):∃a b,σ=[a,b]:=by
 match σ,h with
 |[a,b],_=>exact⟨a,b,rfl⟩
theorem um{σ:St}(h:σ.length=1):∃a,σ=[a]:=by
 match σ,h with
 |[a],_=>exact⟨a,rfl⟩
theorem aW{n:Nat}(h:n≤1000):n≤sizeLine:=le_of_lt (aE h)
theorem le2:2≤sizeLine:=aW (by decide)
theorem mn{A:Around}{k:Nat}(hr:Room k A):A.units+4<cLine:=lt_of_le_of_lt (Nat.add_le_add_left (by decide:4≤64) _) hr.units
def plK(n:Nd):List Key:=[.inl n.par,.inr n.nm]
theorem rX(zs:List Nd):(zs.map plK).Nodup↔TW.bx zs:=by
 unfold TW.bx Nodup;rw[pairwise_map,pairwise_map];have e:∀a b:Nd,(plK a≠plK b)=((a.par,a.nm)≠(b.par,b.nm)):=λa b=>by
  simp[plK]
 simp only[e]
def ins(zs:ZN)(k:Int):ZN:=zs.filter λz=>decide (z.2.par=k)
theorem qE(zs:ZN)(k:Int):nds (ins zs k)=TW.jE (nds zs) k:=by
 unfold nds ins TW.jE;rw[filter_map];rfl
theorem eK(zs:ZN)(z:Addr×Nd)(k:Int):ins (zs++[z]) k=if z.2.par=k then ins zs k++[z]else ins zs k:=by
 unfold ins;rw[List.filter_append]
 by_cases h:z.2.par=k
 ·rw[if_pos h,filter_cons_of_pos (by simp[h])];rfl
 ·rw[if_neg h,filter_cons_of_neg (by simp[h])];simp
theorem wg{zs:ZN}{k:Int}{z:Addr×Nd}(h:z∈ins zs k):z∈zs:=(mem_filter.mp h).1
theorem ls(zs:ZN)(z:Addr×Nd):av (zs++[z])=av zs++[.ref z.1]:=by simp[av]
structure Mem(H0 H:Hp)(d:Addr)(L:Int→Addr)(kvs:List (Key×V))(xs:ZN)(dn:List Int):Prop where
 dict:H d=some (.dK kvs)
 d0:H0 d=none
 len:kvs.length≤xs.length
 val:∀k:Int,bc kvs (Sum.inl k:Key)=if k∈dn∨ins xs k=[]then none else some (.ref (L k))
 at':∀k,k∉dn→ins xs k≠[]→H (L k)=some (.lst (av (ins xs k)))∧H0 (L k)=none
 inj:∀k k',k∉dn→k'∉dn→ins xs k≠[]→ins xs k'≠[]→L k=L k'→k=k'
 same:Same H0 H
theorem Mem.grow{H0 H H':Hp}{d:Addr}{L:Int→Addr}{kvs:List (Key×V)}{xs:ZN}{dn:List Int}(m:Mem H0 H d L kvs xs dn)(s:Same H H'):Mem H0 H' d L kvs xs dn :=
 ⟨s _ _ m.dict,m.d0,m.len,m.val,λk h1 h2=>⟨s _ _ (m.at' k h1 h2).1,(m.at' k h1 h2).2⟩,m.inj,m.same.trans s⟩
theorem Mem.other{H0 H:Hp}{d p:Addr}{L:Int→Addr}{kvs:List (Key×V)}{xs:ZN}{dn:List Int}{is:List Int}{o:HO}(m:Mem H0 H d L kvs xs dn)(hp:H p=some (.lst (is.map V.int)))(h0:H0 p=none):Mem H0 (upd H p o) d L kvs xs dn:=by
 refine⟨?_,m.d0,m.len,m.val,λk h1 h2=>⟨?_,(m.at' k h1 h2).2⟩,m.inj,aL h0 m.same⟩
 ·rw[al]
  ·exact m.dict
  ·intro e;have:=m.dict;rw[e,hp]at this;cases this
 ·have e1:=(m.at' k h1 h2).1;rw[al]
  ·exact e1
  ·intro e;rw[e,hp]at e1;injection e1 with e1
   injection e1 with e1
   have hne:=h2;cases hk:ins xs k with
   |nil=>exact h2 hk
   |cons a r =>
    rw[hk]at e1;cases is with
    |nil=>simp[av]at e1
    |cons i r'=>simp[av]at e1
theorem Mem.start{H0:Hp}{d:Addr}(h:H0 d=none):Mem H0 (upd H0 d (.dK [])) d (λ_=>d) [] [] [] :=
 ⟨ac,h,by simp,λk=>by rw[if_pos (.inr rfl)];rfl,λk _ h=>absurd rfl h,λk k' _ _ h=>absurd rfl h,ae h⟩
theorem Mem.hit{H0 H:Hp}{d:Addr}{L:Int→Addr}{kvs:List (Key×V)}{xs:ZN}{z:Addr×Nd}(m:Mem H0 H d L kvs xs [])(hp:ins xs z.2.par≠[]):
  Mem H0 (upd H (L z.2.par) (.lst (av (ins xs z.2.par)++[.ref z.1]))) d L kvs (xs++[z]) []:=by
 have e1:=(m.at' z.2.par (by simp) hp);have hd:d≠L z.2.par:=λe=>by
  have:=m.dict;rw[e,e1.1]at this;cases this
 have ne:∀k,ins (xs++[z]) k=[]↔ins xs k=[]:=λk=>by
  rw[eK]
  by_cases h:z.2.par=k
  ·rw[if_pos h];subst h;simp[hp]
  ·rw[if_neg h]
 refine⟨by rw[al hd];exact m.dict,m.d0,by have:=m.len;simp;omega,λk=>?_,λk h1 h2=>?_,λk k' _ _ h2 h3 e=>m.inj k k' (by simp) (by simp) (λh=>h2 ((ne k).mpr h)) (λh=>h3 ((ne k').mpr h)) e,aL e1.2 m.same⟩
 ·rw[m.val k];simp only[ne k]
 ·have h2':ins xs k≠[]:=λh=>h2 ((ne k).mpr h);refine⟨?_,(m.at' k h1 h2').2⟩
  by_cases h:z.2.par=k
  ·subst h;rw[ac,eK,if_pos rfl,ls]
  ·rw[al,eK,if_neg h]
   ·exact(m.at' k h1 h2').1
   ·intro e;exact h (m.inj _ _ (by simp) (by simp) hp h2' e.symm)
theorem Mem.fresh{H0 H:Hp}{d q:Addr}{L:Int→Addr}{kvs:List (Key×V)}{xs:ZN}{z:Addr×Nd}(m:Mem H0 H d L kvs xs [])(hp:ins xs z.2.par=[])(hq:H q=none):
  Mem H0 (upd (upd (upd H q (.lst [])) d (.dK (bY kvs (Sum.inl z.2.par:Key) (.ref q)))) q (.lst ([]++[.ref z.1]))) d (λk=>if k=z.2.par then q else L k) (bY kvs (Sum.inl z.2.par:Key) (.ref q)) (xs++[z]) []:=by
 have hdq:d≠q:=λe=>by
  have:=m.dict;rw[e,hq]at this;cases this
 have lq:∀k,ins xs k≠[]→L k≠q:=λk h e=>by
  have:=(m.at' k (by simp) h).1;rw[e,hq]at this;cases this
 have ld:∀k,ins xs k≠[]→L k≠d:=λk h e=>by
  have:=(m.at' k (by simp) h).1;rw[e,m.dict]at this;cases this
 have q0:H0 q=none:=m.same.free hq;have e2:∀k,k≠z.2.par→ins (xs++[z]) k=ins xs k:=λk h=>by rw[eK,if_neg (λe=>h e.symm)]
 have e3:ins (xs++[z]) z.2.par=[z]:=by rw[eK,if_pos rfl,hp];rfl
 refine⟨by rw[al hdq,ac],m.d0,?_,λk=>?_,λk h1 h2=>?_,λk k' _ _ h2 h3 e=>?_,?_⟩
 ·have h1:=m.len;have h2:=di kvs (Sum.inl z.2.par:Key) (.ref q);rw[length_append,length_singleton];omega
 ·rw[dY]
  by_cases h:k=z.2.par
  ·subst h;rw[if_pos rfl,if_neg (by rw[e3];simp),if_pos rfl]
  ·rw[if_neg (λe=>h (Sum.inl.inj e)),m.val k,e2 k h,if_neg h]
 ·by_cases h:k=z.2.par
  ·subst h;simp only[if_true];exact⟨by rw[ac,e3];rfl,q0⟩
  ·rw[e2 k h]at h2;simp only[if_neg h];refine⟨?_,(m.at' k h1 h2).2⟩;rw[al (lq k h2),al (ld k h2),al (lq k h2),e2 k h];exact(m.at' k h1 h2).1
 ·by_cases h:k=z.2.par
  ·by_cases h':k'=z.2.par
   ·rw[h,h']
   ·rw[e2 k' h']at h3;simp only[if_pos h,if_neg h']at e;exact absurd e.symm (lq k' h3)
  ·rw[e2 k h]at h2
   by_cases h':k'=z.2.par
   ·simp only[if_neg h,if_pos h']at e;exact absurd e (lq k h2)
   ·rw[e2 k' h']at h3;simp only[if_neg h,if_neg h']at e;exact m.inj k k' (by simp) (by simp) h2 h3 e
 ·exact aL q0 (aL m.d0 (m.same.trans (ae hq)))
theorem rY{κ:Type}[DecidableEq κ](kvs:List (κ×V))(k j:κ):bc (cR kvs k) j=if j=k then none else bc kvs j:=by
 induction kvs with
 |nil=>simp[cR,bc]
 |cons p r ih =>
  by_cases e:p.1=k
  ·rw[rD e,ih]
   by_cases h:j=k
   ·rw[if_pos h,if_pos h]
   ·rw[if_neg h,if_neg h,aX (λz=>h (z.symm.trans e))]
  ·rw[rE e]
   by_cases h:p.1=j
   ·rw[bi h,if_neg (λz=>e (h.trans z)),bi h]
   ·rw[aX h,ih,aX h]
theorem Mem.drop{H0 H:Hp}{d:Addr}{L:Int→Addr}{kvs:List (Key×V)}{xs:ZN}{dn:List Int}(m:Mem H0 H d L kvs xs dn)(x:Int):Mem H0 (upd H d (.dK (cR kvs (Sum.inl x:Key)))) d L (cR kvs (Sum.inl x:Key)) xs (x::dn):=by
 have ld:∀k,k∉dn→ins xs k≠[]→L k≠d:=λk h0 h e=>by
  have:=(m.at' k h0 h).1;rw[e,m.dict]at this;cases this
 have no:∀k,k∉x::dn→k∉dn:=λk h h'=>h (mem_cons_of_mem _ h');refine⟨ac,m.d0,le_trans (nv _ _) m.len,λk=>?_,λk h1 h2=>?_,λk k' h0 h1 h2 h3 e=>m.inj k k' (no k h0) (no k' h1) h2 h3 e,aL m.d0 m.same⟩
 ·rw[rY,m.val k]
  by_cases h:k=x
  ·rw[if_pos (by rw[h]),if_pos (.inl (by rw[h];simp))]
  ·rw[if_neg (λe=>h (Sum.inl.inj e))];simp[h]
 ·rw[al (ld k (no k h1) h2)];exact m.at' k (no k h1) h2
theorem Mem.skip{H0 H:Hp}{d:Addr}{L:Int→Addr}{kvs:List (Key×V)}{xs:ZN}{dn:List Int}(m:Mem H0 H d L kvs xs dn){x:Int}(hx:x∈dn∨ins xs x=[]):Mem H0 H d L kvs xs (x::dn):=by
 have no:∀k,k∉x::dn→k∉dn:=λk h h'=>h (mem_cons_of_mem _ h');refine⟨m.dict,m.d0,m.len,λk=>?_,λk h1 h2=>m.at' k (no k h1) h2,λk k' h0 h1 h2 h3 e=>m.inj k k' (no k h0) (no k' h1) h2 h3 e,m.same⟩;rw[m.val k]
 by_cases h:k=x
 ·subst h;rw[if_pos hx,if_pos (.inl (by simp))]
 ·simp[h]
theorem uo{Q:VK}{H0 H:Hp}{d q:Addr}{L:Int→Addr}{kvs:List (Key×V)}{zs:ZN}{dn:List Int}{x:Int}(m:Mem H0 H d L kvs zs dn)(hq:H q=some (.lst []))(k:∀hl Hc kvs' hs,Mem H0 Hc d L kvs' zs (x::dn)→Hc hl=some (.lst (av hs))→nds hs=TW.here (nds zs) dn x→(∀z∈hs,z∈zs)→(∀p,p≠d→Hc p=H p)→(hs=[]→hl=q)→Q (.ref hl) Hc):
  ∃kvs k,H d=some (.dK kvs)∧V.int x=kV k∧(∀v,bc kvs k=some v→Q v (upd H d (.dK (cR kvs k))))∧(bc kvs k=none→Q (.ref q) H):=by
 refine⟨kvs,.inl x,m.dict,rfl,λv hv=>?_,λhn=>?_⟩
 ·rw[m.val x]at hv
  by_cases h:x∈dn∨ins zs x=[]
  ·rw[if_pos h]at hv;cases hv
  ·rw[if_neg h]at hv;have h1:x∉dn:=λz=>h (.inl z);have h2:ins zs x≠[]:=λz=>h (.inr z);cases hv;have a:=(m.at' x h1 h2).1;have ld:L x≠d:=λe=>by rw[e,m.dict]at a;cases a
   refine k (L x) _ _ (ins zs x) (m.drop x) (by rw[al ld];exact a) ?_ (λz hz=>wg hz) (λp hp=>al hp) (λe=>absurd e h2);rw[qE];unfold TW.here;rw[if_neg h1]
 ·rw[m.val x]at hn
  by_cases h:x∈dn∨ins zs x=[]
  ·refine k q _ _ [] (m.skip h) hq ?_ (by simp) (λp _=>rfl) (λ_=>rfl);unfold TW.here
   by_cases h1:x∈dn
   ·rw[if_pos h1];rfl
   ·rw[if_neg h1];rcases h with h|h
    ·exact absurd h h1
    ·rw[←qE,h]
  ·rw[if_neg h]at hn;cases hn
theorem qF{H:Hp}{p hl:Addr}{hs:ZN}{is:List Int}(hp:H p=some (.lst (is.map V.int)))(h:H hl=some (.lst (av hs)))(hne:hs≠[]):hl≠p:=by
 intro e;rw[e,hp]at h;injection h with h
 injection h with h
 cases hs with
 |nil=>exact hne rfl
 |cons a r =>
  cases is with
  |nil=>simp[av]at h
  |cons i r'=>simp[av]at h
def gv(H:Hp)(p:Addr):Nat:=match H p with
 |some (.lst xs)=>xs.length
 |_=>0
theorem dB{H:Hp}{p:Addr}{xs:List V}(h:H p=some (.lst xs)):gv H p=xs.length:=by unfold gv;rw[h]
def dl(l:List Nd):List V:=(l.map (·.num)).map V.int
def iz(K:PySem.W.Frag)(H:Hp)(a:Addr):Prop:=∃ns:List Int,SqL K H a (ns.map V.int)
theorem iz.same{K:PySem.W.Frag}{H H':Hp}{a:Addr}(h:iz K H a)(s:Same H H'):iz K H' a:=let⟨ns,e⟩:=h;⟨ns,s.seq e⟩
theorem og{ns:List Int}{i:Int}(h0:0≤i)(h1:i<ns.length):∃j,atI (ns.map V.int) i=some (.int j):=by
 refine⟨ns[i.toNat]'(by omega),?_⟩;have:=lM (xs:=ns.map V.int) (j:=i.toNat) (v:=.int (ns[i.toNat]'(by omega))) (by rw[getElem?_map,getElem?_eq_getElem (by omega)];rfl);rw[show((i.toNat:Nat):Int)=i by omega]at this;exact this
def Has(P:Program)(w:World)(K:PySem.W.Frag)(mg:Str→Option Value)(base:Heap)(k:Nat)(x:Str)(ps:List Str)(sp:Sp):Prop:=∃f fd,FnOk P w K mg base CX0 k f fd ps sp∧mg x=some (.ref f)∧keepIn K (.ref f)=true∧cP K fd ps []
def uq(n:Nd):Prop:=1≤n.num∧n.num≤12∧(n.nm="a"∨n.nm="b"∨n.nm="c"∨n.nm="abcde")∧(n.st=none∨n.st=some 0∨n.st=some 1∨n.st=some 2∨n.st=some 999)
structure Bd(zs:ZN)(lf:List Int):Prop where
 built:TW.Built (nds zs)
 nd:((nds zs).map (·.num)++lf).Nodup
 rng:∀x∈lf,1≤x∧x≤12
 own:TW.bx (nds zs)
 ok:∀z∈zs,uq z.2
theorem Bd.skip{zs:ZN}{lf:List Int}(b:Bd zs lf)(i:Nat):Bd zs (lf.eraseIdx i) :=
 ⟨b.built,Nodup.sublist (Sublist.append (Sublist.refl _) (List.eraseIdx_sublist lf i)) b.nd,λx hx=>b.rng x ((List.eraseIdx_sublist lf i).mem hx),b.own,b.ok⟩
theorem jG:∀{l:List Int}{i:Nat}{x:Int},l[i]?=some x→(x::l.eraseIdx i).Perm l
 |a::l,0,x,h=>by
  have:a=x:=by simpa using h
  subst this;exact List.Perm.refl _
 |a::l,i+1,x,h=>by
  have h':l[i]?=some x:=by simpa using h
  exact(List.Perm.swap a x _).trans (List.Perm.cons a (jG h'))
 |[],i,x,h=>by simp at h
theorem Bd.add{zs:ZN}{lf:List Int}{i:Nat}{q:Addr}{n:Nd}(b:Bd zs lf)(hi:lf[i]?=some n.num)(hp:n.par∈(0:Int)::TW.aM (nds zs))(ho:∀z∈zs,¬(z.2.par=n.par∧z.2.nm=n.nm))(h3:n.nm="a"∨n.nm="b"∨n.nm="c"∨n.nm="abcde")(h4:n.st=none∨n.st=some 0∨n.st=some 1∨n.st=some 2∨n.st=some 999):Bd (zs++[(q,n)]) (lf.eraseIdx i):=by
 have e:nds (zs++[(q,n)])=nds zs++[n]:=by simp[nds]
 have pm:=jG hi;refine⟨?_,?_,λx hx=>b.rng x ((List.eraseIdx_sublist lf i).mem hx),?_,λz hz=>?_⟩
 ·rw[e];refine .snoc b.built ?_;rcases mem_cons.mp hp with h|h
  ·exact .inl h
  ·exact .inr (TW.iy.mp h)
 ·rw[e,map_append,append_assoc];exact((List.Perm.append_left _ pm).nodup_iff).mpr b.nd
 ·rw[e];unfold TW.bx;rw[map_append,List.nodup_append];refine⟨b.own,by simp,λx hx y hy=>?_⟩;have ey:y=(n.par,n.nm):=by simpa using hy
  subst ey;obtain⟨m,hm,rfl⟩:=mem_map.mp hx;obtain⟨z,hz,rfl⟩:=mem_map.mp hm;intro h;injection h with h1 h2
  exact ho z hz ⟨h1,h2⟩
 ·rcases mem_append.mp hz with h|h
  ·exact b.ok z h
  ·have ez:z=(q,n):=by simpa using h
   subst ez;have:=b.rng n.num (mem_of_getElem? hi);exact⟨this.1,this.2,h3,h4⟩
def tp(z:Addr×Nd):iH:=(z.1,z.2.num,[.int z.2.par,.str z.2.nm,stV z.2.st])
def un(t:iH):Addr×Nd:=(t.1,match t.2.2 with
 |[.int p,.str s,.int i]=>⟨t.2.1,p,s,some i⟩
 |[.int p,.str s,_]=>⟨t.2.1,p,s,none⟩
 | _=>⟨0,0,"",none⟩)
theorem xt(z:Addr×Nd):un (tp z)=z:=by
 obtain⟨a,⟨n,p,s,st⟩⟩:=z;cases st<;>rfl
theorem back{zs:ZN}{ts:List iH}(h:ts.Perm (zs.map tp)):(ts.map un).Perm zs∧(ts.map un).map tp=ts:=by
 constructor
 ·have:=h.map un;rw[map_map]at this;have e:zs.map (un∘tp)=zs.map id:=map_congr_left λz _=>xt z;rw[e,map_id]at this;exact this
 ·rw[map_map,map_congr_left (g:=id)]
  ·simp
  ·intro t ht;obtain⟨z,_,rfl⟩:=mem_map.mp (h.mem_iff.mp ht);show tp (un (tp z))=tp z;rw[xt]
theorem iR(zs:ZN):((zs.map tp).map (·.1)).map V.ref=av zs:=by
 unfold av;simp only[map_map];rfl
theorem yr{n:Nat}{j:Int}(h0:0≤j)(h1:j<n):seqIndex? j n=some j.toNat:=(qh (by unfold ixN;rw[if_pos h0,if_pos h1])).1
theorem lu:∀(l:List Int)(i:Nat),(l.map V.int).eraseIdx i=(l.eraseIdx i).map V.int
 |[],i=>by simp
 |a::l,0=>rfl
 |a::l,i+1=>by
  show V.int a::(l.map V.int).eraseIdx i=V.int a::(l.eraseIdx i).map V.int;rw[lu l i]
theorem wm{ns:List Int}{i:Int}(h0:0≤i)(h1:i<ns.length):∃x∈ns,atI (ns.map V.int) i=some (.int x):=by
 refine⟨ns[i.toNat]'(by omega),getElem_mem _,?_⟩;have:=lM (xs:=ns.map V.int) (j:=i.toNat) (v:=.int (ns[i.toNat]'(by omega))) (by rw[getElem?_map,getElem?_eq_getElem (by omega)];rfl);rw[show((i.toNat:Nat):Int)=i by omega]at this;exact this
theorem wn{j:Int}(h0:0≤j)(h1:j<4):∃x:Str,(x="a"∨x="b"∨x="c"∨x="abcde")∧atI [V.str "a",.str "b",.str "c",.str "abcde"] j=some (.str x):=by
 obtain rfl|rfl|rfl|rfl:j=0∨j=1∨j=2∨j=3:=by omega
 ·exact⟨"a",.inl rfl,rfl⟩
 ·exact⟨"b",.inr (.inl rfl),rfl⟩
 ·exact⟨"c",.inr (.inr (.inl rfl)),rfl⟩
 ·exact⟨"abcde",.inr (.inr (.inr rfl)),rfl⟩
theorem wo{j:Int}(h0:0≤j)(h1:j<4):∃i:Int,(some i=none∨some i=some (0:Int)∨some i=some 1∨some i=some 2∨some i=some 999)∧atI [V.int 0,.int 1,.int 2,.int 999] j=some (.int i):=by
 obtain rfl|rfl|rfl|rfl:j=0∨j=1∨j=2∨j=3:=by omega
 ·exact⟨0,.inr (.inl rfl),rfl⟩
 ·exact⟨1,.inr (.inr (.inl rfl)),rfl⟩
 ·exact⟨2,.inr (.inr (.inr (.inl rfl))),rfl⟩
 ·exact⟨999,.inr (.inr (.inr (.inr rfl))),rfl⟩
structure Sta(H:Hp)(pl pf pn:Addr)(Hx:Hp)(lf fs:List Int)(zs:ZN):Prop where
 same:Same H Hx
 l:Hx pl=some (.lst (lf.map V.int))
 f:Hx pf=some (.lst (fs.map V.int))
 n:Hx pn=some (.lst (av zs))
 nd:At Hx zs
 l0:H pl=none
 f0:H pf=none
 n0:H pn=none
 lf':pl≠pf
 ln':pl≠pn
 fn':pf≠pn
theorem Sta.grow{H Hx Hy:Hp}{pl pf pn:Addr}{lf fs:List Int}{zs:ZN}(a:Sta H pl pf pn Hx lf fs zs)(s:Same Hx Hy):Sta H pl pf pn Hy lf fs zs :=
 ⟨a.same.trans s,s _ _ a.l,s _ _ a.f,s _ _ a.n,a.nd.same s,a.l0,a.f0,a.n0,a.lf',a.ln',a.fn'⟩
theorem At.over{H:Hp}{p:Addr}{xs:List V}{o:HO}{zs:ZN}(h:At H zs)(hp:H p=some (.lst xs)):At (upd H p o) zs:=λz hz=>by
 rw[al]
 ·exact h z hz
 ·intro e;have:=h z hz;rw[e,hp]at this;cases this
theorem Sta.pop{H Hx:Hp}{pl pf pn:Addr}{lf fs:List Int}{zs:ZN}(a:Sta H pl pf pn Hx lf fs zs)(lf2:List Int):Sta H pl pf pn (upd Hx pl (.lst (lf2.map V.int))) lf2 fs zs :=
 ⟨aL a.l0 a.same,ac,by rw[al (symm a.lf')];exact a.f,by rw[al (symm a.ln')];exact a.n,a.nd.over a.l,a.l0,a.f0,a.n0,a.lf',a.ln',a.fn'⟩
theorem Sta.fold{H Hx:Hp}{pl pf pn:Addr}{lf fs:List Int}{zs:ZN}(a:Sta H pl pf pn Hx lf fs zs)(x:Int):Sta H pl pf pn (upd Hx pf (.lst (fs.map V.int++[.int x]))) lf (fs++[x]) zs :=
 ⟨aL a.f0 a.same,by rw[al a.lf'];exact a.l,by rw[ac];simp,by rw[al (symm a.fn')];exact a.n,a.nd.over a.f,a.l0,a.f0,a.n0,a.lf',a.ln',a.fn'⟩
theorem Sta.node{H Hx:Hp}{pl pf pn q:Addr}{lf fs:List Int}{zs:ZN}{n:Nd}(a:Sta H pl pf pn Hx lf fs zs)(hq:Hx q=some (.tup (vals n))):Sta H pl pf pn (upd Hx pn (.lst (av zs++[.ref q]))) lf fs (zs++[(q,n)]) :=
 ⟨aL a.n0 a.same,by rw[al a.ln'];exact a.l,by rw[al a.fn'];exact a.f,by rw[ac,ls],(λz hz=>by
  rcases mem_append.mp hz with h|h
  ·exact a.nd.over a.n z h
  ·have ez:z=(q,n):=by simpa using h
   subst ez;rw[al]
   ·exact hq
   ·intro e;have e':q=pn:=e;rw[e',a.n]at hq;cases hq),a.l0,a.f0,a.n0,a.lf',a.ln',a.fn'⟩
def lf0(m:Int):List Int:=(List.range (m+4-1).toNat).map λk=>(1:Int)+(k:Nat)
theorem wq{m:Int}(h:0≤m):((lf0 m).length:Int)=m+3:=by unfold lf0;rw[length_map,length_range];omega
theorem wt{m:Int}(h:m≤9):∀x∈lf0 m,1≤x∧x≤12:=λx hx=>by
 unfold lf0 at hx;obtain⟨k,hk,rfl⟩:=mem_map.mp hx;have:=mem_range.mp hk;omega
theorem yt(m:Int):(lf0 m).Nodup:=by
 unfold lf0 Nodup;rw[pairwise_map];exact nodup_range.imp λh e=>h (by omega)
theorem Bd.zero{m:Int}(h:m≤9):Bd [] (lf0 m):=⟨.nil,by show(([]:List Int)++lf0 m).Nodup;rw[nil_append];exact yt m,wt h,by unfold TW.bx nds;simp,by simp⟩
def cN(zs:ZN):List (Key×V):=zs.map λz=>((Sum.inl z.2.num:Key),V.ref z.1)
theorem mq{zs:ZN}(hn:((nds zs).map (·.num)).Nodup){z:Addr×Nd}(hz:z∈zs):bc (cN zs) (Sum.inl z.2.num:Key)=some (.ref z.1):=by
 induction zs with
 |nil=>simp at hz
 |cons y zs ih =>
  have hn':y.2.num∉(nds zs).map (·.num)∧((nds zs).map (·.num)).Nodup:=by simpa [nds]using hn
  show bc (((Sum.inl y.2.num:Key),V.ref y.1)::cN zs) _=_;rcases mem_cons.mp hz with e|hz'
  ·subst e;exact bi rfl
  ·rw[aX]
   ·exact ih hn'.2 hz'
   ·intro e;injection e with e
    exact hn'.1 (mem_map.mpr ⟨z.2,mem_map.mpr ⟨z,hz',rfl⟩,e.symm⟩)
theorem pM{zs:ZN}{k:Int}(h:∀z∈zs,z.2.num≠k):bc (cN zs) (Sum.inl k:Key)=none:=by
 induction zs with
 |nil=>rfl
 |cons y zs ih =>
  show bc (((Sum.inl y.2.num:Key),V.ref y.1)::cN zs) _=_;rw[aX]
  ·exact ih λz hz=>h z (mem_cons_of_mem _ hz)
  ·intro e;injection e with e
   exact h y (by simp) e
def jH(H:Hp)(d:Addr)(zs:ZN):Prop:=∃o,H d=some (.frz o (.dK (cN zs)))
theorem jH.same{H H':Hp}{d:Addr}{zs:ZN}(h:jH H d zs)(s:Same H H'):jH H' d zs:=let⟨o,e⟩:=h;⟨o,s _ _ e⟩
theorem jH.get{H:Hp}{d:Addr}{zs:ZN}(h:jH H d zs)(hn:((nds zs).map (·.num)).Nodup){z:Addr×Nd}(hz:z∈zs):cK H d (.int z.2.num) (some (.ref z.1)):=by
 obtain⟨o,e⟩:=h;exact .inl ⟨cN zs,Sum.inl z.2.num,.inr ⟨o,e⟩,rfl,(mq hn hz).symm⟩
theorem jH.not{H:Hp}{d:Addr}{zs:ZN}(h:jH H d zs){k:Int}(hk:∀z∈zs,z.2.num≠k):cK H d (.int k) none:=by
 obtain⟨o,e⟩:=h;exact .inl ⟨cN zs,Sum.inl k,.inr ⟨o,e⟩,rfl,(pM hk).symm⟩
theorem bD{ns:List Nd}(T:TW.Tree1 ns):(ns.map (·.num)).Nodup:=by
 have h:=T.rise;unfold TW.br at h;unfold Nodup;rw[pairwise_map];exact h.imp λh e=>by omega
theorem wu{ys:List V}{zs:ZN}{H:Hp}{p:Addr}{g:Addr×Nd→List V}(hlen:ys.length=zs.length)(h:∀(i:Nat) y,ys[i]?=some y→∃q z,zs[i]?=some z∧y=.ref q∧q≠p∧H q=some (.tup (g z))):
  ∃as:List (Addr×(Addr×Nd)),as.map (·.2)=zs∧ys=(as.map (·.1)).map V.ref∧∀a∈as,a.1≠p∧H a.1=some (.tup (g a.2)):=by
 induction ys generalizing zs with
 |nil =>
  have:zs=[]:=length_eq_zero_iff.mp hlen.symm;subst this;exact⟨[],rfl,rfl,by simp⟩
 |cons y ys ih =>
  cases zs with
  |nil=>simp at hlen
  |cons z zs =>
   obtain⟨as,e1,e2,e3⟩:=ih (zs:=zs) (by simpa using hlen) λi x hx=>by simpa using h (i+1) x (by simpa using hx)
   obtain⟨q,z',f1,f2,f3,f4⟩:=h 0 y rfl;have:z=z':=by simpa using f1
   subst this;refine⟨(q,z)::as,by simp[e1],by simp[e2,f2],λa ha=>?_⟩;rcases mem_cons.mp ha with rfl|ha
   ·exact⟨f3,f4⟩
   ·exact e3 a ha
theorem eL{κ:Type}[DecidableEq κ]{kvs:List (κ×V)}(hn:(kvs.map (·.1)).Nodup){k:κ}{v:V}(h:(k,v)∈kvs):bc kvs k=some v:=by
 induction kvs with
 |nil=>simp at h
 |cons y kvs ih =>
  have hn':y.1∉kvs.map (·.1)∧(kvs.map (·.1)).Nodup:=by simpa using hn
  rcases mem_cons.mp h with e|h'
  ·subst e;exact bi rfl
  ·rw[aX]
   ·exact ih hn'.2 h'
   ·intro e;exact hn'.1 (mem_map.mpr ⟨_,h',e.symm⟩)
theorem mr{κ:Type}[DecidableEq κ]{kvs:List (κ×V)}{k:κ}(h:k∉kvs.map (·.1)):bc kvs k=none:=by
 induction kvs with
 |nil=>rfl
 |cons y kvs ih =>
  have h':¬k=y.1∧k∉kvs.map (·.1):=by simpa using h
  rw[aX (λe=>h'.1 e.symm)];exact ih h'.2
theorem qG{zs:ZN}{k:Int}{q:List Str}(T:TW.Tree1 (nds zs))(h:TW.PathTo (nds zs) k q)(hk:k≠0):∃z∈zs,z.2.num=k∧∃q',q=q'++[z.2.nm]∧TW.PathTo (nds zs) z.2.par q':=by
 cases h with
 |top=>exact absurd rfl hk
 |@node n q' hm hq' =>
  obtain⟨z,hz,rfl⟩:=mem_map.mp hm;exact⟨z,hz,rfl,q',rfl,hq'⟩
def mv(P:Program)(w:World)(K:PySem.W.Frag)(mg:Str→Option Value)(base:Heap)(k:Nat)(x:Str)(ps:List Str)(sp:Sp):Prop:=∃f fd,FnOk P w K mg base (CX1 P w) k f fd ps sp∧mg x=some (.ref f)∧keepIn K (.ref f)=true∧cP K fd ps []
structure Tre(H:Hp)(t:Addr)(zs:ZN):Prop where
 tup:H t=some (.tup (av zs))
 nod:At H zs
 tr:TW.Tree1 (nds zs)
 len:zs.length≤30
theorem Tre.same{H H':Hp}{t:Addr}{zs:ZN}(h:Tre H t zs)(s:Same H H'):Tre H' t zs:=⟨s _ _ h.tup,h.nod.same s,h.tr,h.len⟩
theorem rZ{ns:List Nd}(T:TW.Tree1 ns){f:Int}{dn:List Int}{fd:List Nd}(wk:TW.Walk ns f dn fd []):(fd.map (·.num)).Nodup:=by
 have h:=bD T;have:(fd.map (·.num)).Perm ((ns.filter (TW.dQ dn)).map (·.num)):=wk.perm.map _;exact this.nodup_iff.mpr (h.sublist (filter_sublist.map _))
theorem _root_.L2.Same.rd{H H':Hp}(s:Same H H'){a:Addr}{u:HO}(r:Rd H a u):Rd H' a u:=by
 rcases r with r|⟨o,r⟩
 ·exact .inl (s _ _ r)
 ·exact .inr ⟨o,s _ _ r⟩
def dC(as:List (Addr×(Addr×Nd))):List (Key×V):=as.map λa=>((Sum.inl a.2.2.num:Key),V.ref a.1)
def aV(n:Nd):List V:=[.int n.par,.str n.nm,stV n.st]
structure Book(H:Hp)(d:Addr)(as:List (Addr×(Addr×Nd)))(zs:ZN):Prop where
 dict:Rd H d (.dK (dC as))
 of:as.map (·.2)=zs
 at':∀a∈as,H a.1=some (.tup (aV a.2.2))
theorem Book.same{H H':Hp}{d:Addr}{as:List (Addr×(Addr×Nd))}{zs:ZN}(b:Book H d as zs)(s:Same H H'):Book H' d as zs:=⟨s.rd b.dict,b.of,λa ha=>s _ _ (b.at' a ha)⟩
theorem dL{as:List (Addr×(Addr×Nd))}{zs:ZN}(h:as.map (·.2)=zs):(dC as).map (·.1)=((nds zs).map (·.num)).map (Sum.inl:Int→Key):=by
 rw[←h];unfold dC nds;simp only[map_map];rfl
theorem ut{as:List (Addr×(Addr×Nd))}{zs:ZN}(h:as.map (·.2)=zs)(hn:((nds zs).map (·.num)).Nodup):((dC as).map (·.1)).Nodup:=by
 rw[dL h];unfold Nodup at hn⊢;rw[pairwise_map];exact hn.imp λh e=>h (by injection e)
theorem Book.get{H:Hp}{d:Addr}{as:List (Addr×(Addr×Nd))}{zs:ZN}(b:Book H d as zs)(hn:((nds zs).map (·.num)).Nodup){z:Addr×Nd}(hz:z∈zs):∃q,cK H d (.int z.2.num) (some (.ref q))∧H q=some (.tup (aV z.2)):=by
 have:z∈as.map (·.2):=by rw[b.of];exact hz
 obtain⟨a,ha,rfl⟩:=mem_map.mp this;refine⟨a.1,.inl ⟨dC as,Sum.inl a.2.2.num,b.dict,rfl,?_⟩,b.at' a ha⟩;exact(eL (ut b.of hn) (mem_map.mpr ⟨a,ha,rfl⟩)).symm
theorem Book.not{H:Hp}{d:Addr}{as:List (Addr×(Addr×Nd))}{zs:ZN}(b:Book H d as zs){k:Int}(hk:∀z∈zs,z.2.num≠k):cK H d (.int k) none:=by
 refine .inl ⟨dC as,Sum.inl k,b.dict,rfl,(mr λhm=>?_).symm⟩;rw[dL b.of]at hm;obtain⟨i,hi,e⟩:=mem_map.mp hm;obtain⟨n,hn,rfl⟩:=mem_map.mp hi;obtain⟨z,hz,rfl⟩:=mem_map.mp hn;injection e with e
 exact hk z hz e
def uu(ns:List Nd)(k:Int):Nat:=open Classical in if h:∃p,TW.PathTo ns k p then (Classical.choose h).length else 0
theorem qH{ns:List Nd}(T:TW.Tree1 ns){k:Int}{p:List Str}(h:TW.PathTo ns k p):uu ns k=p.length:=by
 unfold uu;have hx:∃p,TW.PathTo ns k p:=⟨p,h⟩;rw[dif_pos hx];rw[(Classical.choose_spec hx).uniq T h]
theorem AS(n:Nd):atI (aV n) 0=some (.int n.par):=rfl
theorem AT(n:Nd):atI (aV n) 1=some (.str n.nm):=rfl
abbrev qI(x:Str)(mg:Str→Option Value)(base:Heap)(C:Addr):Prop:=PyProof.Rows.OwnCls x C bmV "ValueError.__new__" mg base
theorem aC(zs:ZN):zs.map (λz=>V.ref z.1)=av zs:=by simp[av]
theorem iA{K:PySem.W.Frag}{H:Hp}{l:Addr}{zs:ZN}{Q:VK}(hl:SqL K H l (av zs)∨SqT K H l (av zs))(hA:At H zs)(hn:((nds zs).map (·.num)).Nodup)(h64:zs.length<64)(q:∀us t' H',Same H H'→H' t'=some (.tup (av us))→At H' us→us.Perm zs→TW.br (nds us)→Q (.ref t') H'):
  ∃l',∃ts:List iH,[V.ref l]=[V.ref l']∧(SqL K H l' ((ts.map (·.1)).map V.ref)∨SqT K H l' ((ts.map (·.1)).map V.ref))∧(∀z∈ts,H z.1=some (.tup (.int z.2.1::z.2.2)))∧(ts.map (·.2.1)).Nodup∧ts.length<64 ∧
   ∀ts':List iH,ts'.Perm ts→ts'.Pairwise (λa b=>a.2.1<b.2.1)→∀p,H p=none→∃p' ys,[V.ref p]=[V.ref p']∧((SqL K (upd H p (.lst ((ts'.map (·.1)).map V.ref))) p' ys∧∀l,upd H p (.lst ((ts'.map (·.1)).map V.ref)) l=none→Q (.ref l) (upd (upd H p (.lst ((ts'.map (·.1)).map V.ref))) l (.tup ys))) ∨
    (SqT K (upd H p (.lst ((ts'.map (·.1)).map V.ref))) p' ys∧Q (.ref p') (upd H p (.lst ((ts'.map (·.1)).map V.ref))))):=by
 have hnum:(zs.map tp).map (·.2.1)=(nds zs).map (·.num):=by
  unfold nds;simp only[map_map];rfl
 refine⟨l,zs.map tp,rfl,by rw[iR];exact hl,λz hz=>?_,by rw[hnum];exact hn,by rw[length_map];exact h64,λts pm up p hp=>?_⟩
 ·obtain⟨y,hy,rfl⟩:=mem_map.mp hz;exact hA y hy
 ·obtain⟨pm2,eb⟩:=back pm;have er:(ts.map (·.1)).map V.ref=av (ts.map un):=by rw[←iR,eb]
  rw[er];refine⟨p,_,rfl,.inl ⟨SqL.of ac,λl hl=>?_⟩⟩;refine q (ts.map un) l _ ((ae hp).trans (ae hl)) ac ?_ pm2 ?_
  ·intro z hz;exact((ae hp).trans (ae hl)) _ _ (hA z (pm2.mem_iff.mp hz))
  ·unfold nds TW.br;rw[pairwise_map];have up2:((ts.map un).map tp).Pairwise (λa b=>a.2.1<b.2.1):=by rw[eb];exact up
   rw[pairwise_map]at up2;exact up2
theorem aP{zs:ZN}{z:Addr×Nd}(h:z∈zs):z.2∈nds zs:=mem_map.mpr ⟨z,h,rfl⟩
theorem cm{zs:ZN}{n:Nd}(h:n∈nds zs):∃z∈zs,z.2=n:=mem_map.mp h
theorem AU(n:Nd):atI (aV n) 2=some (stV n.st):=rfl
def AV(x:Str):Prop:=x="a"∨x="b"∨x="c"∨x="abcde"
def zZ(s:Option Int):Prop:=∀i,s=some i→0≤i∧i≤999
def om(n:Nd):Prop:=1≤n.num∧n.num≤60∧AV n.nm∧zZ n.st
theorem uq.ok{n:Nd}(h:uq n):om n:=by
 obtain⟨h1,h2,h3,h4⟩:=h;refine⟨h1,by omega,h3,λi e=>?_⟩;rcases h4 with h|h|h|h|h<;>rw[h]at e<;>cases e<;>decide
def top(i:Nat):Stmt:=PySem.Challenge.pw_treewatch_k14_whole_seen_and_cut.main.body.getD i (.Pass ⟨0,0,0,0⟩)
abbrev wv:Stmt:=top 7
abbrev yu:Stmt:=top 8
abbrev ww:Stmt:=top 9
abbrev yv:Stmt:=top 10
abbrev wx:Stmt:=top 11
abbrev yw:Stmt:=top 12
abbrev yx:Stmt:=top 13
abbrev yy:Stmt:=top 14
abbrev wy:Stmt:=top 15
abbrev bR:Stmt:=top 16
abbrev be:Stmt:=top 17
abbrev cC:Stmt:=top 19
abbrev cF:Stmt:=top 20
abbrev aS:Stmt:=top 21
abbrev dM:Stmt:=top 23
abbrev dt:Stmt:=top 24
abbrev fu:Stmt:=top 25
abbrev cO:Stmt:=top 27
abbrev eU:Stmt:=top 28
abbrev eV:Stmt:=top 29
abbrev cc:Stmt:=top 30
abbrev iS:Stmt:=top 32
abbrev iT:Stmt:=top 34
abbrev uv:Stmt:=top 36
abbrev uw:Stmt:=top 37
abbrev ic:Stmt:=top 38
abbrev ux:Stmt:=top 39
abbrev pN:Stmt:=top 40
abbrev jI:Stmt:=top 42
structure Txt(mg:Str→Option Value):Prop where
 isin:mg "isinstance"=none
 dict:mg "dict"=none
 len:mg "len"=none
 tuple:mg "tuple"=none
 list:mg "list"=none
 range:mg "range"=none
 sorted:mg "sorted"=none
 reversed:mg "reversed"=none
 ValueError:mg "ValueError"=none
 str:mg "str"=none
 set:mg "set"=none
 max:mg "max"=none
 min:mg "min"=none
 sum:mg "sum"=none
 zip:mg "zip"=none
 enumerate:mg "enumerate"=none
 all:mg "all"=none
 int:mg "int"=none
 bool:mg "bool"=none
 top:∃t,mg "TOP"=some (.int 0 t)
end TK
namespace TB
open PySem PySem.SetTable
theorem sa{t:SetTable}{l:List Nat}(T:Tb t l)(mk:Mk t.mask)(hl:l.length≤t.mask)(h:Int):∃j,t.freeSlot h=some (j,false)∧j∉l∧j≤t.mask:=by
 obtain⟨j₀,hj₀,hj₀'⟩:=jq t.mask l hl;obtain⟨n₀,hn₀,en₀⟩:=cover mk.cyc h hj₀;obtain⟨N,hNle,hN,hNno⟩:=jm (λm=>pos t.mask h m∉l) n₀ (by rw[en₀];exact hj₀');have hp:=jn t (λ_=>h+1) h N (st t.mask h) (10*turns t.mask) (by omega) (λm hm=>by
  have hin:pos t.mask h m∈l:=by
   by_cases z:pos t.mask h m∈l
   ·exact z
   ·exact(hNno m hm z).elim
  obtain⟨i,hi,e⟩:=mem_iff_getElem.mp hin;exact⟨i,iN T (by show l[i]?=some (pos t.mask h m);rw[getElem?_eq_getElem hi,e]),by rw[beq_eq_false_iff_ne];omega⟩) (nH T hN)
 refine⟨pos t.mask h N,?_,hN,gY _ _ _⟩;unfold SetTable.freeSlot;have hp':t.probe (λ_=>h+1) h (t.probeStart h)=some (.empty (pos t.mask h N) none):=hp;rw[hp'];rfl
theorem wz{t:SetTable}{l:List Nat}(T:Tb t l)(mk:Mk t.mask)(hl:l.length+1≤t.mask)(es:Array (Int×Value))(hes:es.size=l.length)(h:Int)(x:Value):
  ∃p t' l',layNew t es h x=(insertAt es p (h,x),t',false,false)∧Tb t' l'∧l'.length=l.length+1∧t'.mask=t.mask∧t'.plain=t.plain∧t'.led=t.led:=by
 obtain⟨j,hf,hj,hjm⟩:=sa T mk (by omega) h;obtain⟨T1,hp1,hm1⟩:=tH T hj hjm;have hlen:(l.take (below l.toArray j)++j::l.drop (below l.toArray j)).length=l.length+1:=by
  rw[length_append,length_cons,length_take,length_drop];have:=(cE T.up j).1;omega
 have hsz:(insertAt es (t.put j).2 (h,x)).size=l.length+1:=by
  rw[←length_toList,SetTable.toList_insertAt,length_append,length_cons,length_take,length_drop,length_toList,hes,hp1];have:=(cE T.up j).1;omega
 have hfit:(t.put j).1.fits (insertAt es (t.put j).2 (h,x)).size=true:=eS T1 (by rw[hlen,hsz]) (by rw[hsz,hm1];exact hl);refine⟨(t.put j).2,(t.put j).1,_,?_,T1,hlen,hm1,rfl,rfl⟩;unfold layNew;rw[hf];show(insertAt es (t.put j).2 (h,x),(t.put j).1.orStandIn (insertAt es (t.put j).2 (h,x)).size,false,!((t.put j).1.fits (insertAt es (t.put j).2 (h,x)).size))=_;rw[hfit];unfold SetTable.orStandIn;rw[if_pos hfit];rfl
theorem se{t:SetTable}(es:Array (Int×Value))(h0:0<es.size)(h60:es.size≤60):
  ∃es' t' l',relayAll t es (grown es.size)=(es',t',false)∧es'.toList.Perm es.toList∧Tb t' l'∧l'.length=es.size∧Mk t'.mask∧es.size*5<t'.mask*3∧t'.plain=t.plain∧t'.led=t.led:=by
 have hw:grown es.size=es.size*4:=by unfold SetTable.grown;rw[if_neg (by omega)]
 obtain⟨hmk,hle,h256⟩:=gh (w:=es.size*4) (by omega);rw[hw];obtain⟨t',zs,e,hm,hled,hpl,T,hperm,_⟩:=hJ (t:=t) (hashes:=es.map (·.1)) (wanted:=es.size*4) hmk.cyc (by rw[size_map];omega);rw[size_map]at hperm;have hlen:zs.length=es.size:=by
  have:=hperm.length_eq;rw[length_map,length_range]at this;exact this
 have hp:(((zs.map (·.2)).toArray).filterMap (λi=>es[i]?)).toList.Perm es.toList:=by
  rw[Array.toList_filterMap];exact(hperm.filterMap _).trans (by rw[filterMap_getElem?_range])
 have hsz:(((zs.map (·.2)).toArray).filterMap (λi=>es[i]?)).size=es.size:=by
  rw[←length_toList,hp.length_eq,length_toList]
 have hfit:t'.fits (((zs.map (·.2)).toArray).filterMap (λi=>es[i]?)).size=true:=eS T (by rw[hsz,length_map,hlen]) (by rw[hsz,hm];omega);have hcov:coversAll (zs.map (·.2)).toArray es.size=true:=by
  unfold coversAll;exact List.isPerm_iff.mpr hperm
 refine⟨((zs.map (·.2)).toArray).filterMap (λi=>es[i]?),t',zs.map (·.1),?_,hp,T,by rw[length_map,hlen],by rw[hm];exact hmk,by rw[hm];omega,hpl,hled⟩;unfold relayAll;rw[e];dsimp only;rw[hcov,hfit];rfl
def bt(w:World):Bool:=w.params.followText "set-order"
def gw(tk:Int→Tok)(n:Int):Int×Value:=(hashInt n,.int n (tk n))
structure ISt(w:World)(es:Array (Int×Value))(t:SetTable)(ns:List Int):Prop where
 ent:∃tk,es.toList=ns.map (gw tk)
 nd:ns.Nodup
 tb:∃l,Tb t l∧l.length=ns.length
 mkm:Mk t.mask
 room:ns.length*5<t.mask*3
 pl:t.plain=true
 led:bt w=false→t.led=true
def IS(w:World)(h:Heap)(a:Addr)(ns:List Int):Prop:=∃o es ep t,h.get? a=some o∧o.ExactSet∧o.data=.set es ep t∧ISt w es t ns
theorem ISt.size{w:World}{es:Array (Int×Value)}{t:SetTable}{ns:List Int}(h:ISt w es t ns):es.size=ns.length:=by
 obtain⟨tk,e⟩:=h.ent;rw[←length_toList,e,length_map]
theorem ISt.fits{w:World}{es:Array (Int×Value)}{t:SetTable}{ns:List Int}(h:ISt w es t ns):t.fits es.size=true:=by
 obtain⟨l,T,hl⟩:=h.tb;have:=h.mkm.ge;have:=h.room;exact eS T (by rw[hl,h.size]) (by rw[h.size];omega)
theorem ISt.elems{prog:Program}{w:World}{es:Array (Int×Value)}{t:SetTable}{ns:List Int}(h:ISt w es t ns):ElemsOf (intKind prog w) es.toList:=by
 obtain⟨tk,e⟩:=h.ent;rw[e];intro z hz;obtain⟨n,hn,rfl⟩:=mem_map.mp hz;exact⟨⟨n,intKind_is _ _ _ _,rfl⟩,rfl⟩
theorem cW{es':List (Int×Value)}:∀{l:List (Int×Value)},es'.Perm l→∀{tk:Int→Tok}{ns:List Int},l=ns.map (gw tk)→∃ns':List Int,ns'.Perm ns∧es'=ns'.map (gw tk):=by
 intro l p tk ns e;have hall:∀z∈es',∃n,z=gw tk n:=λz hz=>by
  have:=p.mem_iff.mp hz;rw[e]at this;obtain⟨n,hn,e⟩:=mem_map.mp this;exact⟨n,e.symm⟩
 obtain⟨ns',e'⟩:∃ns':List Int,es'=ns'.map (gw tk):=by
  clear p e
  induction es' with
  |nil=>exact⟨[],rfl⟩
  |cons z es' ih =>
   obtain⟨n,hn⟩:=hall z mem_cons_self;obtain⟨ns',e⟩:=ih λy hy=>hall y (mem_cons_of_mem _ hy);exact⟨n::ns',by rw[hn,e];rfl⟩
 refine⟨ns',?_,e'⟩;have hv:∀m:List Int,(m.map (gw tk)).map (λz=>match z.2 with | .int n _=>n | _=>0)=m:=λm=>by
  rw[map_map]
  induction m with
  |nil=>rfl
  |cons x m ih=>rw[map_cons,ih];rfl
 have:=p.map (λz=>match z.2 with | .int n _=>n | _=>0);rw[e',e,hv,hv]at this;exact this
theorem uy{tk:Int→Tok}{ns:List Int}{n:Int}{t:Tok}(hn:n∉ns):∃tk',(gw tk' n=(hashInt n,Value.int n t))∧ns.map (gw tk')=ns.map (gw tk):=by
 refine⟨λm=>if m=n then t else tk m,by show(hashInt n,Value.int n (if n=n then t else tk n))=_;rw[if_pos rfl],?_⟩
 apply map_congr_left;intro m hm;show(hashInt m,Value.int m (if m=n then t else tk m))=_;rw[if_neg (by rintro rfl;exact hn hm)];rfl
section
variable{prog:Program}{w:World}{A:Around}{E:Value→Shared→Prop}{s:Shared}
theorem add_int{a:Addr}{ns:List Int}{n:Int}{t0:Tok}{Q:Bool→Shared→Prop}(hS:IS w s.heap a ns)(hroom:ns.length<60)(h:∀r h' ns',SameBut a s.heap h'→IS w h' a ns'→((n∈ns∧ns'=ns)∨(n∉ns∧ns'.Perm (n::ns)))→Q r {s with heap:=h'}):
  wpAny (model prog w) A (setAddHashed a (.int n t0) (hashInt n)) Q E s:=by
 obtain⟨o,es,ep,t,ho,hex,hd,S⟩:=id hS;have hsz:=S.size;have hf:=S.fits;have hel:ElemsOf (intKind prog w) es.toList:=S.elems;have hkey:(intKind prog w).is n (.int n t0)=true:=intKind_is _ _ _ _;have hb:es.size<scanBound:=by unfold scanBound;omega
 have hge:=S.mkm.ge;have hrm:=S.room;unfold setAddHashed setAddHashedIn;refine wpAny_holding (wpAny_bind (wpAny_setState_of ho hd hf ?_));dsimp only;rw[byScan_of (knd:=intKind prog w) (x:=.int n t0) rfl hb hel];simp only[↓reduceIte];unfold setAddByScan;refine wpAny_bind ?_;refine wpAny_bind (wpAny_rule ?_);refine wpAny_bind (wpAny_setScan_of (knd:=intKind prog w) (k:=n) hkey ho hd hf hel ?_);obtain⟨tk,hent⟩:=S.ent;cases hr:List.findIdx? (λe=>(intKind prog w).is n e.2) es.toList with
 |some j =>
  dsimp only;obtain⟨hj,hpj,_⟩:=List.findIdx?_eq_some_iff_getElem.mp hr;have hin:n∈ns:=by
   have hm:es.toList[j]∈es.toList:=getElem_mem hj;generalize es.toList[j]=z at hm hpj;rw[hent]at hm;obtain⟨m,hm1,rfl⟩:=mem_map.mp hm;have:=(intKind prog w).inj _ n m hpj (intKind_is _ _ _ _);rw[this];exact hm1
  refine wpAny_pure (wpAny_pure ?_);have e:s={s with heap:=s.heap}:=by cases s;rfl
  have:=h false s.heap ns (SameBut.refl a s.heap) hS (.inl ⟨hin,rfl⟩);rw[e];exact this
 |none =>
  dsimp only;have hnin:n∉ns:=λhin=>by
   have:=List.findIdx?_eq_none_iff.mp hr (gw tk n) (by rw[hent];exact mem_map.mpr ⟨n,hin,rfl⟩);have h2:(intKind prog w).is n (gw tk n).2=true:=intKind_is _ _ _ _;rw[h2]at this;cases this
  obtain⟨l,T,hl⟩:=S.tb;obtain⟨p,t1,l1,e1,T1,hl1,hm1,hp1,hled1⟩:=wz T S.mkm (by omega) es (by omega) (hashInt n) (.int n t0);rw[e1];dsimp only;obtain⟨tk',htk1,htk2⟩:=uy (tk:=tk) (t:=t0) hnin;obtain⟨ns1,hns1,hes1⟩:=cW (es':=(insertAt es p (hashInt n,Value.int n t0)).toList) (l:=(n::ns).map (gw tk')) (tk:=tk') (ns:=n::ns) (by
   refine(SetTable.insertAt_perm es p _).trans ?_;rw[Array.toList_push,hent,←htk2,map_cons,htk1];exact List.perm_append_singleton _ _) rfl
  have hn1:ns1.length=ns.length+1:=by rw[hns1.length_eq,length_cons]
  have hnd1:ns1.Nodup:=hns1.nodup_iff.mpr (nodup_cons.mpr ⟨hnin,S.nd⟩);have hsz1:(insertAt es p (hashInt n,Value.int n t0)).size=ns1.length:=by rw[←length_toList,hes1,length_map]
  refine wpAny_bind (wpAny_pure ?_);rw[hp1,S.pl];simp only[if_true];refine wpAny_bind ?_;rw[hashByValue_scannable 8 (x:=.int n t0) rfl];refine wpAny_pure ?_;simp only[plainKind,if_true];refine wpAny_bind (wpAny_storeSet_of ho hd ?_ (by rw[hsz1];exact lT (by omega)));have ho1:=stored ho hd (insertAt es p (hashInt n,Value.int n t0)) t1;have hsb1:=SameBut.update s.heap a (Obj.putSet (insertAt es p (hashInt n,Value.int n t0)) t1);have hfill:t1.fill=ns1.length:=by rw[eR T1,hl1,hl,hn1]
  by_cases hfull:t1.tooFull=true
  ·rw[hfull];simp only[Bool.not_false,Bool.and_self,if_true];obtain⟨es2,t2,l2,e2,p2,T2,hl2,hmk2,hrm2,hp2,hled2⟩:=se (t:=t1) (insertAt es p (hashInt n,Value.int n t0)) (by omega) (by omega);rw[e2];dsimp only;obtain⟨ns2,hns2,hes2⟩:=cW p2 hes1;have hn2:ns2.length=ns1.length:=hns2.length_eq;have hsz2:es2.size=ns2.length:=by rw[←length_toList,hes2,length_map]
   refine wpAny_bind (wpAny_pure ?_);refine wpAny_bind (wpAny_storeSet_of ho1 rfl ?_ (by rw[hsz2];exact lT (by omega)));have ho2:=stored (s:={s with heap:=s.heap.update a (Obj.putSet (insertAt es p (hashInt n,Value.int n t0)) t1)}) ho1 rfl es2 t2
   refine wpAny_pure (wpAny_pure (h true _ ns2 (hsb1.trans (SameBut.update _ a _)) ⟨_,es2,_,t2,ho2,hex,rfl,⟨⟨tk',hes2⟩,hns2.nodup_iff.mpr hnd1,⟨l2,T2,by omega⟩,hmk2,by rw[hn2,←hsz1];exact hrm2,by rw[hp2,hp1];exact S.pl,λz=>by rw[hled2,hled1];exact S.led z⟩⟩ (.inr ⟨hnin,hns2.trans hns1⟩)))
  ·have hnf:t1.tooFull=false:=by simpa using hfull
   rw[hnf];simp only[Bool.and_false,false_eq_true,if_false];refine wpAny_pure (wpAny_pure (h true _ ns1 hsb1 ⟨_,_,_,t1,ho1,hex,rfl,⟨⟨tk',hes1⟩,hnd1,⟨l1,T1,by omega⟩,by rw[hm1];exact S.mkm,?_,by rw[hp1];exact S.pl,λz=>by rw[hled1];exact S.led z⟩⟩ (.inr ⟨hnin,hns1⟩)));unfold SetTable.tooFull at hnf;rw[decide_eq_false_iff_not,hfill]at hnf;omega
end
theorem jJ:entryFor table "set.__iter__"=some Builtin.«frozenset.__iter__» :=
 entryFor_alias (id':="frozenset.__iter__") (by kernel_rfl) rfl (by decide +kernel) (by kernel_rfl)
theorem ce:Slot "set_iterator" "__next__" "set_iterator.__next__" :=
 .of (owner:="set_iterator") (n:="__next__") (by rw[typeLookup_type,builtinLookup_eq_fast];kernel_rfl) (by decide +kernel) (by decide +kernel) (by decide +kernel)
  (by first|exact .inl (by decide +kernel)|exact .inr (by decide +kernel)) (by rw[isSubtype_type];kernel_rfl)
theorem gB:Slot "set_iterator" "__iter__" "set_iterator.__iter__" :=
 .of (owner:="set_iterator") (n:="__iter__") (by rw[typeLookup_type,builtinLookup_eq_fast];kernel_rfl) (by decide +kernel) (by decide +kernel) (by decide +kernel)
  (by first|exact .inl (by decide +kernel)|exact .inr (by decide +kernel)) (by rw[isSubtype_type];kernel_rfl)
theorem ff:entryFor table "set_iterator.__next__"=some Builtin.«set_iterator.__next__»:=entryFor_of_tree (by kernel_rfl)
theorem oo:Manifest.owners.lookup (String.ofList ['r','o','t','a','r','e','t','i','_','t','e','s'].reverse)=some Manifest.sig_set_iterator:=by kernel_rfl
theorem gC(a:Value):argsOk "set_iterator.__next__" ⟨[a],[]⟩:=by
 unfold argsOk;rw[signature?_of (id:="set_iterator.__next__") (n:=['_','_','t','x','e','n','_','_']) (o:=['r','o','t','a','r','e','t','i','_','t','e','s']) (by kernel_rfl) oo];kernel_rfl
theorem mw(a:Value):argsOk "set_iterator.__iter__" ⟨[a],[]⟩:=by
 unfold argsOk;rw[signature?_of (id:="set_iterator.__iter__") (n:=['_','_','r','e','t','i','_','_']) (o:=['r','o','t','a','r','e','t','i','_','t','e','s']) (by kernel_rfl) oo];kernel_rfl
theorem ko:∃b,entryFor table "set_iterator.__iter__"=some b∧b=Builtin.«dict_keyiterator.__iter__» :=
 ⟨_,entryFor_alias (id':="dict_keyiterator.__iter__") (by kernel_rfl) rfl (by decide +kernel) (by kernel_rfl),rfl⟩
theorem lw{α:Type}(next:Nat→Nat):∀(fuel k:Nat)(left:List α)(out:Array α),left.length=fuel→(pickOrder.go next fuel k left out).toList.Perm (out.toList++left)
 |0,k,left,out,h=>by
  have:left=[]:=length_eq_zero_iff.mp h;subst this;rw[append_nil];exact .rfl
 |fuel+1,k,left,out,h=>by
  unfold pickOrder.go;have hlt:next k % left.length<left.length:=mod_lt _ (by omega);rw[getElem?_eq_getElem hlt];dsimp only;refine(lw next fuel (k+1) _ _ (by rw[List.length_eraseIdx,if_pos hlt];omega)).trans ?_;rw[Array.toList_push,append_assoc];refine List.Perm.append_left _ ?_;rw[List.singleton_append];rw[List.eraseIdx_eq_take_drop_succ];refine perm_middle.symm.trans ?_;rw[List.getElem_cons_drop,List.take_append_drop]
def eM(w:World)(a:Addr)(ep:Nat)(es:Array (Int×Value)):Array (Int×Value):=if bt w then pickOrder (w.params.setOrder a ep) es else es
theorem jK(w:World)(a:Addr)(ep:Nat)(es:Array (Int×Value)):(eM w a ep es).toList.Perm es.toList:=by
 unfold eM
 split
 ·exact lw _ _ _ _ _ rfl
 ·exact .rfl
theorem oq(w:World)(a:Addr)(ep:Nat)(es:Array (Int×Value)):(eM w a ep es).size=es.size:=by
 rw[←length_toList,(jK w a ep es).length_eq,length_toList]
def pO(w:World)(t:SetTable)(h:Heap)(I a:Addr)(n ep i:Nat):Prop :=
 ∃o slot,h.get? I=some o∧o.cls=.type "set_iterator"∧o.data=.fields #[.int (slot:Nat) 0,.int (i:Nat) 0,.ref a,.int (n:Nat) 0,.int (ep:Nat) 0]∧(bt w=false→below t.place slot=i)
theorem pO.typeIs{w:World}{t:SetTable}{s:Shared}{I a:Addr}{n ep i:Nat}(x:pO w t s.heap I a n ep i):s.TypeIs (.ref I) "set_iterator":=let⟨o,_,ho,hc,_⟩:=x;⟨o,ho,hc⟩
section
variable{prog:Program}{w:World}{A:Around}{E:Value→Shared→Prop}{s:Shared}
theorem ie{es:Array (Int×Value)}{t:SetTable}{ns:List Int}(S:ISt w es t ns):(!t.plain&&decide (es.size>1))=false:=by rw[S.pl];rfl
theorem uz{a:Addr}{o:Obj}{es:Array (Int×Value)}{ep:Nat}{t:SetTable}{ns:List Int}{Q:Value→Shared→Prop}(S:ISt w es t ns)(ho:s.heap.get? a=some o)(hex:o.ExactSet)(hd:o.data=.set es ep t)(hQ:Q (.ref s.heap.objs.size) {s with heap:=s.heap.push {cls:=.type "set_iterator",data:=.fields #[.int 0 0,.int 0 0,.ref a,.int es.size 0,.int ep 0]}}):wpAny (model prog w) A (pyIter (.ref a)) Q E s:=by
 have hT:s.TypeIs (.ref a) "set":=⟨o,ho,hex.1⟩;refine wpAny_pyIter_slot hT F.slot_set_iter (wpAny_call_entry F.slot_set_iter hT jJ ?_ (F.args_set_iter_1 _));unfold Builtin.«frozenset.__iter__» Builtin.Frozenset.slot0;refine wpAny_bind ?_;show wpAny _ _ (pure a) _ _ s;refine wpAny_pure ?_;unfold Builtin.Frozenset.sizeOf;refine wpAny_bind (wpAny_bind (wpAny_setEntries_of ho hd S.fits (wpAny_pure ?_)));refine wpAny_bind ?_;unfold setDrawn;refine wpAny_bind (wpAny_setState_of ho hd S.fits ?_);unfold setsByText;refine wpAny_bind (wpAny_bind (wpAny_askSetting (wpAny_pure ?_)));refine wpAny_pure ?_;have hdr:(!(model prog w).w.params.followText "set-order"&&(!t.plain&&decide (es.size>1)))=false:=by rw[ie S,Bool.and_false]
 show wpAny _ _ (if (!(model prog w).w.params.followText "set-order"&&(!t.plain&&decide (es.size>1)))=true then _ else _) _ _ _
 rw[hdr];simp only[false_eq_true,if_false];refine wpAny_bind (wpAny_pure ?_);refine wpAny_bind (wpAny_setEpoch_of ho hd S.fits ?_);refine wpAny_bind (wpAny_newObj_type (wpAny_pure ⟨_,rfl,"set_iterator",_,⟨_,get?_push_size _ rfl,rfl⟩,ce.lookup,?_⟩));simpa [rawInt]using hQ
theorem ou{a:Addr}{o:Obj}{es:Array (Int×Value)}{ep slot i:Nat}{t:SetTable}{ns:List Int}{Q:Option (Value×Nat)→Shared→Prop}(S:ISt w es t ns)(ho:s.heap.get? a=some o)(hd:o.data=.set es ep t)(hs:bt w=false→below t.place slot=i)(h1:∀v slot',(eM w a ep es)[i]?.map (·.2)=some v→(bt w=false→below t.place slot'=i+1)→Q (some (v,slot')) s)(h2:(eM w a ep es)[i]?=none→Q none s):wpAny (model prog w) A (setNext a slot i ep) Q E s:=by
 unfold setNext;refine wpAny_bind (wpAny_setState_of ho hd S.fits ?_);unfold setsByText;refine wpAny_bind (wpAny_bind (wpAny_askSetting (wpAny_pure ?_)));show wpAny _ _ (if bt w=true then _ else _) _ _ _;cases hb:bt w with
 |true =>
  simp only[if_true,bne_self_eq_false,false_eq_true,if_false];refine wpAny_bind ?_;unfold setWalk;refine wpAny_bind (wpAny_setState_of ho hd S.fits ?_);unfold setsByText;refine wpAny_bind (wpAny_bind (wpAny_askSetting (wpAny_pure ?_)));show wpAny _ _ (if bt w=true then _ else _) _ _ _;rw[hb];simp only[if_true];refine wpAny_bind (wpAny_askSetting (wpAny_pure ?_));have e:eM w a ep es=pickOrder (w.params.setOrder a ep) es:=by unfold eM;rw[hb];rfl
  rw[e]at h1 h2;show wpAny _ _ (pure (((pickOrder (w.params.setOrder a ep) es)[i]?).map λe=>(e.2,slot))) _ _ _;cases hx:(pickOrder (w.params.setOrder a ep) es)[i]? with
  |none=>exact wpAny_pure (h2 hx)
  |some x=>exact wpAny_pure (h1 x.2 slot (by rw[hx];rfl) (λz=>absurd (hb.symm.trans z) (by decide)))
 |false =>
  simp only[false_eq_true,if_false];have e:eM w a ep es=es:=by unfold eM;rw[hb];rfl
  rw[e]at h1 h2;show wpAny _ _ (if (!t.plain&&decide (es.size>1))=true then _ else _) _ _ _
  rw[ie S];simp only[false_eq_true,if_false];refine wpAny_bind ?_;show wpAny _ _ (if (!t.led && !es.isEmpty)=true then _ else _) _ _ _
  rw[S.led hb];simp only[Bool.not_true,Bool.false_and,false_eq_true,if_false];refine wpAny_pure ?_;have hsl:=hs hb;obtain⟨l,T,hl⟩:=S.tb;have hlen:l.length=es.size:=by rw[hl,S.size]
  rw[hsl]
  by_cases hi:i<es.size
  ·have e1:es[i]?=some es[i]:=Array.getElem?_eq_getElem hi;have e2:t.place[i]?=some (l[i]'(by omega)):=by rw[T.pl,List.getElem?_toArray,getElem?_eq_getElem (by omega)]
   rw[e1,e2];refine wpAny_pure (h1 _ _ (by rw[e1];rfl) λ_=>?_);obtain⟨b1,b2,b3⟩:=cE T.up (l[i]'(by omega)+1);rw[T.pl];rcases Nat.lt_trichotomy (below l.toArray (l[i]'(by omega)+1)) (i+1)with z|z|z
   ·have:=b3 i (by omega) (by omega);omega
   ·exact z
   ·have hi2:i+1<l.length:=by omega
    have q1:=b2 (i+1) hi2 z;have q2:=pairwise_iff_getElem.mp T.up i (i+1) (by omega) hi2 (by omega);omega
  ·have e1:es[i]?=none:=Array.getElem?_eq_none (by omega);rw[e1];exact wpAny_pure (h2 e1)
theorem wA{I a:Addr}{o:Obj}{es:Array (Int×Value)}{ep i:Nat}{t:SetTable}{ns:List Int}{Q:Option Value→Shared→Prop}(S:ISt w es t ns)(hi:i<es.size)(hit:pO w t s.heap I a es.size ep i)(ho:s.heap.get? a=some o)(hd:o.data=.set es ep t)(hne:a≠I)(hQ:∀v h',(eM w a ep es)[i]?.map (·.2)=some v→pO w t h' I a es.size ep (i+1)→SameBut I s.heap h'→Q (some v) {s with heap:=h'}):wpAny (model prog w) A (pyNext (.ref I)) Q E s:=by
 obtain⟨oi,slot,hoi,hci,hdi,hsl⟩:=id hit;unfold pyNext;refine wpAny_bind (wpAny_attempt (wpAny_callSpecial?_slot (name:=ofString "__next__") hit.typeIs ce
  (wpAny_call_entry ce hit.typeIs ff ?_ (gC _))))
 unfold Builtin.«set_iterator.__next__»;refine wpAny_bind (wpAny_pure ?_);refine wpAny_bind (wpAny_fieldsOf hoi hdi ?_);dsimp only;refine wpAny_bind (wpAny_setEntries_of ho hd S.fits ?_);rw[if_neg (by simp)];show wpAny _ _ (setNext a (toNat (slot:Int)) (toNat (i:Int)) (toNat (ep:Int)) >>= _) _ _ _;rw[toNat_natCast,toNat_natCast,toNat_natCast];refine wpAny_bind (ou S ho hd hsl (λv slot' hv hs'=>?_) λhn=>?_)
 ·dsimp only;refine wpAny_bind (wpAny_setField hoi hdi (by simp) ?_);have h1:(s.heap.update I (Obj.mapFields (·.setIfInBounds 0 (rawInt (slot':Nat))))).get? I=some _:=get?_update_self _ hoi (Obj.isFreed_of_fields (Obj.data_mapFields hdi _));refine wpAny_bind (wpAny_setField h1 (Obj.data_mapFields hdi _) (by simp) ?_);have h2:=get?_update_self (Obj.mapFields (·.setIfInBounds 1 (rawInt ((i:Int)+1)))) h1 (Obj.isFreed_of_fields (Obj.data_mapFields (Obj.data_mapFields hdi _) _));refine wpAny_pure ⟨_,rfl,wpAny_pure (hQ v _ hv ⟨_,slot',h2,?_,?_,hs'⟩ ((SameBut.update ..).trans (SameBut.update ..)))⟩
  ·rw[Obj.cls_mapFields,Obj.cls_mapFields];exact hci
  ·rw[Obj.data_mapFields (Obj.data_mapFields hdi _)];simp[rawInt]
 ·exfalso
  rw[Array.getElem?_eq_none_iff,oq]at hn;omega
theorem yz{I a:Addr}{o:Obj}{es:Array (Int×Value)}{ep:Nat}{t:SetTable}{ns:List Int}{Q:Option Value→Shared→Prop}(hh:A.handled=none)(S:ISt w es t ns)(hit:pO w t s.heap I a es.size ep es.size)(ho:s.heap.get? a=some o)(hd:o.data=.set es ep t)(hQ:∀h',ExtBut I s.heap h'→Q none {s with heap:=h'}):wpAny (model prog w) A (pyNext (.ref I)) Q E s:=by
 obtain⟨oi,slot,hoi,hci,hdi,hsl⟩:=id hit;unfold pyNext;refine wpAny_bind (wpAny_attempt (wpAny_callSpecial?_slot (name:=ofString "__next__") hit.typeIs ce
  (wpAny_call_entry ce hit.typeIs ff ?_ (gC _))))
 unfold Builtin.«set_iterator.__next__»;refine wpAny_bind (wpAny_pure ?_);refine wpAny_bind (wpAny_fieldsOf hoi hdi ?_);dsimp only;refine wpAny_bind (wpAny_setEntries_of ho hd S.fits ?_);rw[if_neg (by simp)];show wpAny _ _ (setNext a (toNat (slot:Int)) (toNat (es.size:Int)) (toNat (ep:Int)) >>= _) _ _ _;rw[toNat_natCast,toNat_natCast,toNat_natCast];refine wpAny_bind (ou S ho hd hsl (λv slot' hv hs'=>?_) λhn=>?_)
 ·exfalso
  have:(eM w a ep es)[es.size]?=none:=Array.getElem?_eq_none (by rw[oq];exact le_refl _);rw[this]at hv;cases hv
 ·dsimp only;refine wpAny_bind (wpAny_setField hoi hdi (by simp) ?_);show wpAny _ _ (newExc (.type "StopIteration") [] >>= _) _ _ _;refine wpAny_bind ?_;simp only[newExc,newTuple];refine wpAny_bind (wpAny_newObj_type ?_ (by size_fits));refine wpAny_bind (m:=firstArgMember _ _) (wpAny_of_eq (a:=Value.none) (by first|rfl|(simp only[firstArgMember];rfl)) ?_)
  refine wpAny_newObj_type ?_ (by size_fits);simp only[raiseNew];refine wpAny_bind (wpAny_handled ?_);rw[show A.in1.handled=none from hh];refine wpAny_bind (wpAny_pure (wpAny_throw ?_));refine wpAny_bind (wpAny_isInstance (T:="StopIteration") (b:=true) ⟨_,get?_push_size _ rfl,rfl⟩ isSubtype_stop ?_);exact wpAny_pure (hQ _ (((SameBut.update ..).extBut.push _).push _))
theorem wB{I a:Addr}{n ep i:Nat}{t:SetTable}{Q:Value→Shared→Prop}(hit:pO w t s.heap I a n ep i)(h:Q (.ref I) s):wpAny (model prog w) A (pyIter (.ref I)) Q E s:=by
 obtain⟨b,hb,e⟩:=ko;subst e;refine wpAny_pyIter_slot hit.typeIs gB (wpAny_call_entry gB hit.typeIs hb ?_ (mw _));show wpAny _ _ (ret (.ref I)) _ _ s;exact wpAny_pure ⟨_,rfl,"set_iterator",_,hit.typeIs,ce.lookup,h⟩
theorem sf{es:Array (Int×Value)}{t:SetTable}{ns:List Int}{ep:Nat}(S:ISt w es t ns)(hh:A.handled=none)(I a:Addr)(hne:a≠I)(o:Obj)(hd:o.data=.set es ep t):
  Walks prog w A I [I,a] [I] es.size (λi v=>(eM w a ep es)[i]?.map (·.2)=some v) (λi h=>pO w t h I a es.size ep i∧h.get? a=some o) where
 sub:=λb hb=>by simp at hb;simp[hb]
 frame:=λi h h' st hk=>by
  obtain⟨⟨oi,slot,h1,h2⟩,h3⟩:=st;exact⟨⟨oi,slot,hk I (by simp) _ h1,h2⟩,hk a (by simp) _ h3⟩
 item:=λi s Q E hi st hQ=>by
  refine wA S hi st.1 st.2 hd hne λv h' hv hit' hs'=>?_;exact hQ v h' s.toks hv ⟨hit',hs'.extBut a o hne st.2⟩ λb o hb e=>hs'.extBut b o (λh=>hb (by simp[h])) e
 done:=λs Q E st hQ=>yz hh S st.1 st.2 hd λh' he'=>hQ h' s.toks λb o hb e=>he' b o (λh=>hb (by simp[h])) e
 self:=λ_ _ _ _ st hQ=>wB st.1 hQ
theorem uA{r:Addr}{Q:Bool→Shared→Prop}(hT:s.TypeIs (.ref r) "set")(h:Q false s):wpAny (model prog w) A (Builtin.List.listLengthHint (.ref r)) Q E s:=by
 unfold Builtin.List.listLengthHint;refine wpAny_bind (wpAny_specialOf hT PySem.F.slot_set_len.lookup ?_);generalize hid:("set.__len__":String)=id0
 wp_delta
 rw[show splitId id0=some ("set","__len__")from by subst hid;decide +kernel];subst hid;refine wpAny_bind (wpAny_isInstance (T:="set") (b:=true) hT (by rw[isSubtype_type];kernel_rfl) ?_);refine wpAny_ite_split (λhab=>absurd hab (by decide)) (λ_=>?_);refine wpAny_ite_split (λ_=>?_) (λhab=>absurd (by decide +kernel) hab);refine wpAny_bind (wpAny_typeOf hT ?_);exact wpAny_pure h
theorem wC{es:Array (Int×Value)}{t:SetTable}{ns:List Int}{ep:Nat}{a:Addr}{o:Obj}(S:ISt w es t ns)(hex:o.ExactSet)(hd:o.data=.set es ep t):
  KdlSrc prog w "set" a a es.size (λi v=>(eM w a ep es)[i]?.map (·.2)=some v) (λh=>h.get? a=some o) where
 type:=λ_ hm=>⟨o,hm,hex.1⟩
 there:=λ_ hm=>⟨lt_size hm,lt_size hm⟩
 keep:=λ_ _ hm hk=>hk a (.inl rfl) o hm
 notList:=by decide
 notTuple:=by decide
 hint:=λ_ _ _ _ hm hq=>uA ⟨o,hm,hex.1⟩ hq
 iter:=λA s hh hm=>⟨{cls:=.type "set_iterator",data:=.fields #[.int 0 0,.int 0 0,.ref a,.int es.size 0,.int ep 0]},_,(λ_ _ hq=>uz S hm hex hd hq),sf S hh _ a (ne_of_lt (lt_size hm)) o hd,
  ⟨⟨_,0,get?_push_size _ rfl,rfl,rfl,λ_=>by
   obtain⟨l,T,hl⟩:=S.tb;obtain⟨b1,b2,b3⟩:=cE T.up 0;rw[T.pl];rcases Nat.eq_zero_or_pos (below l.toArray 0)with z|z
   ·exact z
   ·have:=b2 0 (by omega) z;omega⟩,get?_push_of_some _ hm⟩⟩
end
theorem IS.at{w:World}{h h':Heap}{S:Addr}{ns:List Int}(x:IS w h S ns)(k:∀o,h.get? S=some o→h'.get? S=some o):IS w h' S ns:=by
 obtain⟨o,es,ep,t,ho,r⟩:=x;exact⟨o,es,ep,t,k o ho,r⟩
theorem ow{w:World}{h:Heap}{a:Addr}(ho:h.get? a=some {cls:=.type "set",dict:=none,data:=.set #[] 0 (.fresh 0 0 (!bt w))}):IS w h a [] :=
 ⟨_,#[],0,_,ho,⟨rfl,rfl,rfl⟩,rfl,⟨⟨λ_=>0,rfl⟩,nodup_nil,⟨[],⟨rfl,rfl,Pairwise.nil,λ_ h=>by simp at h⟩,rfl⟩,Or.inl rfl,(by show 0<21;decide),rfl,λz=>by show(!bt w)=true;rw[z];rfl⟩⟩
section
variable{prog:Program}{w:World}{A:Around}{R:Result→Shared→Prop}{I:Addr}{fp wr:List Addr}{G:Array GenState→Array GenState→Prop}{n:Nat}{P:Nat→Value→Prop}{St:Nat→Shared→Prop}
end
section
variable{prog:Program}{w:World}{A:Around}{E:Value→Shared→Prop}{s:Shared}
theorem kq(a:Value){Q₁:Value→Shared→Prop}(h:Q₁ (.ref s.heap.objs.size) {s with heap:=s.heap.push {cls:=.type "set",dict:=none,data:=.set #[] 0 (.fresh 0 0 (!bt w))}}):
  codeAny (model prog w) A (.call (.builtin "set.__new__") ⟨[.type "set",a],[]⟩) (wants Q₁ E) s:=by
 refine codeAny_of_tree ?_;show wpAny _ A.in1 (do checkBuiltinCall "set.__new__" ⟨[.type "set",a],[]⟩;again (.builtin "set.__new__" ⟨[.type "set",a],[]⟩)) _ _ s
 refine wpAny_bind (wpAny_of_eq (F.newCall_set_1 a) (wpAny_pure ⟨plainId_quiet F.plain_set_new _,codeAny_builtin F.entry_set_new ?_⟩));rw[Around.under_plainId F.plain_set_new _];unfold Builtin.«set.__new__» Builtin.Frozenset.newClass;have hsub:=sub_set_self;obtain⟨hp,g,d,tk,os⟩:=s;dsimp only
 wp_walk
 refine wpAny_askSetting (wpAny_pure ?_);dsimp only;simp only[newObj];refine wpAny_bind (wpAny_alloc (wpAny_pure ?_));exact wpAny_pure h
set_option maxRecDepth 100000 in
set_option maxHeartbeats 3200000 in
theorem mx{x:Value}{Q:Value→Shared→Prop}(h:wpAny (model prog w) A.in1.in1 (Builtin.«set.__init__» ⟨[.ref s.heap.objs.size,x],[]⟩)
   (λfin s'=>match fin with | .done f=>wants (λr s₂=>r=.none∧Q (.ref s.heap.objs.size) s₂) E (.ok f) s' | .again c'=>c'.quiet=true∧codeAny (model prog w) A.in1 c' (wants (λr s₂=>r=.none∧Q (.ref s.heap.objs.size) s₂) E) s')
   (λe s'=>wants (λr s₂=>r=.none∧Q (.ref s.heap.objs.size) s₂) E (.error e) s') {s with heap:=s.heap.push {cls:=.type "set",dict:=none,data:=.set #[] 0 (.fresh 0 0 (!bt w))}}):
  wpAny (model prog w) A (call (.type "set") [x]) Q E s:=by
 obtain⟨c,tl,hmro⟩:=F.called_set.mro;have hmade:=F.called_set.made;have hsub:=F.called_set.sub;refine wpAny_call (codeAny_of_tree ?_);show wpAny _ _ (callAny (.type "set") _) _ _ _;refine wpAny_pure ⟨Code.quiet_builtin _ (by decide +kernel),codeAny_builtin F.entry_type_call ?_⟩;rw[Around.under_plain (weight_type_call_type "set" [x] []) rfl];have h1:=F.called_set.notType;have h2:=F.called_set.canCreate;have hct:=F.typeCall_set_1 x
 repeat (any_goals (first|assumption|wp_step))
 refine codeAny_mono (kq x (E:=E) (Q₁:=λobj s₁=>obj=.ref s.heap.objs.size∧s₁={s with heap:=s.heap.push {cls:=.type "set",dict:=none,data:=.set #[] 0 (.fresh 0 0 (!bt w))}}) ⟨rfl,rfl⟩) λr s₁ hr=>?_
 cases r with
 |error e=>exact hr
 |ok fl =>
  cases fl with
  |ret obj =>
   obtain⟨rfl,rfl⟩:=hr;have hS:(s.heap.push {cls:=.type "set",dict:=none,data:=.set #[] 0 (.fresh 0 0 (!bt w))}).get? s.heap.objs.size=some {cls:=.type "set",dict:=none,data:=.set #[] 0 (.fresh 0 0 (!bt w))}:=get?_push_size _ rfl;have hT:Shared.TypeIs {s with heap:=s.heap.push {cls:=.type "set",dict:=none,data:=.set #[] 0 (.fresh 0 0 (!bt w))}} (.ref s.heap.objs.size) "set":=⟨_,hS,rfl⟩
   have hli:=F.called_set.init.lookup;have hbi:=F.called_set.init.bind (.ref s.heap.objs.size)
   repeat (any_goals (first|assumption|wp_step))
   refine codeAny_mono (codeAny_call_builtin (R:=wants (λr s₂=>r=.none∧Q (.ref s.heap.objs.size) s₂) E) F.called_set.init.plain F.entry_set_init (check_set_init_1 hT ?_)) λr₂ s₂ hr₂=>?_
   ·exact h
   ·cases r₂ with
    |error e=>exact hr₂
    |ok fl₂ =>
     cases fl₂ with
     |ret r =>
      obtain⟨rfl,hq⟩:=hr₂
      repeat (any_goals (first|assumption|wp_step))
     |_=>exact hr₂.elim
  |_=>exact hr.elim
end
end TB
namespace SRT
open PySem PySem.W PyProof.Rows
section
variable{prog:Program}{w:World}{A:Around}{E:Value→Shared→Prop}{s:Shared}
theorem oz{f:Nat→Nat→Bool}{vs:List Value}{κ:SortKind}{Q:Value→Shared→Prop}(O:Ord f vs.length)(h64:vs.length<64)(hk:∀(A':Around) (s':Shared),A'.units≤A.units+1→(∀b o,s.heap.get? b=some o→s'.heap.get? b=some o)→∀Q:SortKind→Shared→Prop,2≤vs.length→Q κ s'→wpAny (model prog w) A' (keyKind' vs.toArray) Q (λ_ _=>False) s')(hlt:∀(A':Around) (s':Shared),A'.units≤A.units+1→(∀b o,s.heap.get? b=some o→s'.heap.get? b=some o)→∀(i j:Nat) (C:Bool→Shared→Prop),i<vs.length→j<vs.length→C (f i j) s'→wpAny (model prog w) A' (keyLt' κ (vs.getD i Value.none) (vs.getD j Value.none)) C (λ_ _=>False) s')(h:∀(p:Array Nat) (h':Heap),Row vs.length p→Up f p vs.length→(∀b o,s.heap.get? b=some o→h'.get? b=some o)→(∃k,h'.get? s.heap.objs.size=some (seqObj "list" (toArray (p.toList.map λi=>vs.getD i Value.none)) k))→Q (.ref s.heap.objs.size) {s with heap:=h'}):
  wpAny (model prog w) A (do
   let l ← newList vs
   let _ ← holding [l] (call (.builtin "list.sort") [l] [])
   ret l) (λfin s'=>∃v,fin=.done (.ret v)∧Q v s') E s:=by
 refine wpAny_bind (wpAny_newList ?_ (by rw[sizeLine_eq];omega));have hoL:(s.heap.push (seqObj "list" vs.toArray 0)).get? s.heap.objs.size=some (seqObj "list" vs.toArray 0):=get?_push_size _ rfl;have keep:∀b o,s.heap.get? b=some o→(s.heap.push (seqObj "list" vs.toArray 0)).get? b=some o:=λb o q=>get?_push_of_some _ q;have neD:∀b o,s.heap.get? b=some o→b≠s.heap.objs.size:=λb o q=>ne_of_lt (lt_size q);show wpAny _ _ _ _ _ {s with heap:=s.heap.push (seqObj "list" vs.toArray 0)}
 refine wpAny_bind (wpAny_holding (wpAny_call_entry slot_list_sort ⟨_,hoL,rfl⟩ entry_list_sort (gp (κ:=κ) (s:={s with heap:=s.heap.push (seqObj "list" vs.toArray 0)}) O hoL h64 ?_ ?_ λp hr hu=>⟨_,rfl,?_⟩) (args_list_sort _)))
 ·intro s' hs' Q' h2 hq;exact hk _ s' (by simp[Around.in1_units]) (λb o e=>hs' b o (neD b o e) (keep b o e)) Q' h2 hq
 ·intro s' hs' i j C hi hj hC;exact hlt _ s' (by simp[Around.in1_units]) (λb o e=>hs' b o (neD b o e) (keep b o e)) i j C hi hj hC
 ·refine wpAny_pure ⟨_,rfl,h p _ hr hu (λb o e=>?_) ?_⟩
  ·unfold sortedHeap;rw[get?_update_ne _ _ _ _ (neD b o e)];refine get?_push_of_some _ (get?_push_of_some _ ?_);rw[get?_update_ne _ _ _ _ (neD b o e)];exact keep b o e
  ·unfold sortedHeap;obtain⟨e1,ho1⟩:∃e1,((s.heap.push (seqObj "list" vs.toArray 0)).update s.heap.objs.size (Obj.mapSeq λ_=>(#[]:Array Value))).get? s.heap.objs.size=some (seqObj "list" #[] e1):=⟨_,get?_update_seq hoL λ_=>#[]⟩;exact⟨_,get?_update_seq (get?_push_of_some _ (get?_push_of_some _ ho1)) _⟩
theorem oA{T:String}{r d:Addr}{n:Nat}{P:Nat→Value→Prop}{OK:Heap→Prop}{Q:List Value→Shared→Prop}(K:KdlSrc prog w T r d n P OK)(hh:A.handled=none)(hok:OK s.heap)(hn:n≤sizeLine)(hQ:∀h' tk acc,(∀b o,s.heap.get? b=some o→h'.get? b=some o)→s.heap.objs.size<h'.objs.size→ItemsOf P acc n→Q acc.toList {s with heap:=h',toks:=tk}):wpAny (model prog w) A (collect (.ref r)) Q E s:=by
 unfold collect;refine wpAny_bind (wpAny_runValue (codeAny_builtin entry_proto_collect' ?_));show wpAny _ _ (do again (.builtin "list.__iadd__" ⟨[←newList [],.ref r],[]⟩)) _ _ s
 refine wpAny_bind (wpAny_newList (wpAny_pure ⟨Code.quiet_builtin _ (by decide +kernel),codeAny_builtin entry_list_iadd' ?_⟩));rw[Around.under_plainId plain_list_iadd _];show wpAny _ _ (Builtin.List.listExtendWith (.ref s.heap.objs.size) (.ref r) (.ref s.heap.objs.size)) _ _ {s with heap:=s.heap.push (seqObj "list" #[] 0)}
 have hlt:=K.there _ hok;have hS:(s.heap.push (seqObj "list" #[] 0)).get? s.heap.objs.size=some (seqObj "list" #[] 0):=get?_push_size _ rfl;have key:=PySem.W.kdl_extend (A:=A) (s:={s with heap:=s.heap.push (seqObj "list" #[] 0)}) (R:=λr s'=>∃h' tk acc c',r=.ok (.ret (.ref s.heap.objs.size))∧s'={s with heap:=h',toks:=tk}∧(∀b o,s.heap.get? b=some o→h'.get? b=some o)∧h'.get? s.heap.objs.size=some {cls:=.type "list",dict:=none,data:=.seq acc c',slots:=#[]}∧ItemsOf P acc n)
  K hh (K.keep _ _ hok λb _ o e=>get?_push_of_some _ e) s.heap.objs.size (ne_of_gt hlt.1) (ne_of_gt hlt.2) (.ref s.heap.objs.size) 0 hS (λh' tk acc' c' hk hS' hacc=>⟨h',tk,acc',c',rfl,rfl,λb o e=>hk b o (ne_of_lt (lt_size e)) (get?_push_of_some _ e),hS',hacc⟩) hn
 have fin:∀(h':Heap)(tk:Nat)(acc:Array Value)(c':Nat),(∀b o,s.heap.get? b=some o→h'.get? b=some o)→h'.get? s.heap.objs.size=some {cls:=.type "list",dict:=none,data:=.seq acc c',slots:=#[]}→ItemsOf P acc n→wpAny (model prog w) A (do
   let o ← load s.heap.objs.size
   match o.data with
   |.seq xs _=>pure xs.toList
   | _=>unsupported "internal:collect") Q E {s with heap:=h',toks:=tk}:=λh' tk acc c' hk hS' hacc=>by
  refine wpAny_bind (wpAny_load hS' ?_);exact wpAny_pure (hQ h' tk acc hk (lt_size hS') hacc)
 refine wpAny_mono key (λfn s' hf=>?_) λe s' hf=>?_
 ·cases fn with
  |done f =>
   obtain⟨h',tk,acc,c',e1,e2,hk,hS',hacc⟩:=hf;cases e1;subst e2;exact fin h' tk acc c' hk hS' hacc
  |again c =>
   refine⟨hf.1,codeAny_mono hf.2 λr s' hr=>?_⟩;obtain⟨h',tk,acc,c',e1,e2,hk,hS',hacc⟩:=hr;subst e1 e2;exact fin h' tk acc c' hk hS' hacc
 ·obtain⟨h',tk,acc,c',e1,_⟩:=hf;cases e1
theorem jL{T:String}{r d:Addr}{n:Nat}{P:Nat→Value→Prop}{OK:Heap→Prop}{κ:SortKind}{Q:Value→Shared→Prop}(K:KdlSrc prog w T r d n P OK)(hh:A.handled=none)(hok:OK s.heap)(hn:n≤sizeLine)(hQ:∀(h1:Heap) (tk:Nat) (vs:List Value),(∀b o,s.heap.get? b=some o→h1.get? b=some o)→s.heap.objs.size<h1.objs.size→ItemsOf P vs.toArray n→∃f:Nat→Nat→Bool,Ord f vs.length∧vs.length<64 ∧
   (∀(A':Around) (s':Shared),A'.units≤A.units+2→(∀b o,s.heap.get? b=some o→s'.heap.get? b=some o)→∀Q:SortKind→Shared→Prop,2≤vs.length→Q κ s'→wpAny (model prog w) A' (keyKind' vs.toArray) Q (λ_ _=>False) s') ∧
   (∀(A':Around) (s':Shared),A'.units≤A.units+2→(∀b o,s.heap.get? b=some o→s'.heap.get? b=some o)→∀(i j:Nat) (C:Bool→Shared→Prop),i<vs.length→j<vs.length→C (f i j) s'→wpAny (model prog w) A' (keyLt' κ (vs.getD i Value.none) (vs.getD j Value.none)) C (λ_ _=>False) s') ∧
   ∀(p:Array Nat) (h':Heap),Row vs.length p→Up f p vs.length→(∀b o,s.heap.get? b=some o→h'.get? b=some o)→(∃k,h'.get? h1.objs.size=some (seqObj "list" (toArray (p.toList.map λi=>vs.getD i Value.none)) k))→Q (.ref h1.objs.size) {s with heap:=h',toks:=tk}):
  wpAny (model prog w) A (call (.builtin "sorted") [.ref r]) Q E s:=by
 refine Calls.call_function_entry kind_sorted plain_sorted entry_sorted (args_sorted1 _) ?_;unfold Builtin.«sorted»;refine wpAny_bind (m:=checkCount "sorted" 1 1 _) (wpAny_pure ?_);refine wpAny_bind (oA K hh hok hn λh1 tk acc hk hlt hacc=>?_);obtain⟨f,O,h64,hkk,hltt,hq⟩:=hQ h1 tk acc.toList hk hlt (by rw[Array.toArray_toList];exact hacc);exact oz (s:={s with heap:=h1,toks:=tk}) O h64 (λA' s' hu hk'=>hkk A' s' (by have:=hu;simp only[Around.in1_units]at this;omega) λb o e=>hk' b o (hk b o e)) (λA' s' hu hk'=>hltt A' s' (by have:=hu;simp only[Around.in1_units]at this;omega) λb o e=>hk' b o (hk b o e))
  λp h' hr hu' hk' hg=>hq p h' hr hu' (λb o e=>hk' b o (hk b o e)) hg
end
end SRT
namespace L2
open PySem PySem.Spec PyProof.Rows
section
variable{X:Cx}
def dS(w:World)(a:Addr)(ns:List Int):HO:=.ext λh=>TB.IS w h a ns
theorem Inv.intS{pins:List (Addr×Obj)}{σ:St}{H:Hp}{s:Shared}(I:Inv X pins σ H s){a:Addr}{ns:List Int}(h:H a=some (dS X.w a ns)):TB.IS X.w s.heap a ns:=(I.hok a _ h).1
theorem Inv.layS{pins:List (Addr×Obj)}{σ:St}{H:Hp}{s:Shared}(I:Inv X pins σ H s){h':Heap}{t':Nat}{a:Addr}{ns:List Int}(k:∀b u,s.heap.get? b=some u→h'.get? b=some u)(hp:s.heap.objs.size≤a)(hS:TB.IS X.w h' a ns):
  Inv X pins σ (upd H a (dS X.w a ns)) {s with heap:=h',toks:=t'}:=by
 obtain⟨o,es,ep,t,ho,r⟩:=id hS;exact I.laid k hp ⟨hS,⟨o,ho⟩,λh1 h2 hI hh=>hI.at hh⟩
theorem jM(hc:X.calm=true):bX X (.builtin "sorted") (λxs H Q=>∃l,∃ns:List Int,xs=[.ref l]∧H l=some (dS X.w l ns)∧ns.length≤60 ∧
  ∀ms:List Int,ms.Perm ns→ms.Pairwise (λa b=>a<b)→∀p,H p=none→Q (.ref p) (upd H p (.lst (ms.map V.int)))):=by
 intro pins s σ H xs us Q I r h;obtain⟨l,ns,rfl,hl,h60,q⟩:=h;obtain⟨u,rfl,ru⟩:=cv r;cases ru;obtain⟨o,es,ep,t,ho,hex,hd,S⟩:=I.intS hl;obtain⟨tk0,hent⟩:=S.ent;obtain⟨ns',hperm,hord⟩:=TB.cW (TB.jK X.w l ep es) hent;have hnd':ns'.Nodup:=hperm.nodup_iff.mpr S.nd;have hl':ns'.length=ns.length:=hperm.length_eq;refine SRT.jL (κ:=oneType') (TB.wC S hex hd) (I.ok.hd hc) ho (by rw[S.size,sizeLine_eq];omega) λh1 tk vs hk1 hlt1 hit=>?_;have evs:vs=ns'.map λn=>Value.int n (tk0 n):=by
  apply ext_getElem?;intro i;have hvl:vs.length=es.size:=by have:=hit.1;rw[size_toArray]at this;exact this
  by_cases hi:i<vs.length
  ·have:Option.map (λx=>x.2) (TB.eM X.w l ep es)[i]?=some vs[i]:=hit.2 i vs[i] (by rw[List.getElem?_toArray];exact getElem?_eq_getElem hi);rw[getElem?_eq_getElem hi,getElem?_map];rw[←getElem?_toList,hord,getElem?_map]at this;cases e:ns'[i]? with
   |none=>rw[e]at this;cases this
   |some n =>
    rw[e]at this;have e2:(TB.gw tk0 n).2=vs[i]:=Option.some.inj this;show some vs[i]=some (Value.int n (tk0 n));rw[←e2];rfl
  ·rw[getElem?_eq_none (by omega),getElem?_eq_none (by rw[length_map,hl',←S.size];omega)]
 have hvl:vs.length=ns'.length:=by rw[evs,length_map]
 have gd:∀i,i<ns'.length→vs.getD i Value.none=.int (ns'.getD i 0) (tk0 (ns'.getD i 0)):=λi hi=>by
  rw[evs,uh (d:=(0:Int)) hi]
 have rv:ar (ns'.map V.int) vs:=by
  rw[evs];clear hperm hord hnd' hl' evs hvl gd hit
  induction ns' with
  |nil=>exact .nil
  |cons n ns' ih=>exact .cons ⟨_,rfl⟩ ih
 refine⟨λi j=>decide (ns'.getD i 0<ns'.getD j 0),⟨λi _=>by simp,λi j k _ _ _ h1 h2=>?_,λi j hi hj hij=>?_⟩,by omega,λA' s' _ _ Q' h2 hQ=>?_,λA' s' _ _ i j C hi hj hC=>?_,λp h' hrow hup kp hg=>?_⟩
 ·simp only[decide_eq_true_eq]at *;omega
 ·simp only[decide_eq_true_eq];have:ns'.getD i 0≠ns'.getD j 0:=by
   rw[getD_eq_getElem?_getD,getD_eq_getElem?_getD,getElem?_eq_getElem (by omega),getElem?_eq_getElem (by omega)];exact λe=>hij ((getElem_inj hnd').mp e)
  omega
 ·rw[ksk_kind (keys:=vs.toArray) (kz:=ns') (by simpa using iQ rv) (by rw[size_toArray];omega)];exact wpAny_pure hQ
 ·rw[gd i (by omega),gd j (by omega)];exact kat_lt_int hC
 ·obtain⟨c,hg⟩:=hg;rw[hvl]at hrow hup;have hin:∀i∈p.toList,i<ns'.length:=λi hi=>mem_range.mp (hrow.perm.mem_iff.mp hi);have hperm2:(p.toList.map λi=>ns'.getD i 0).Perm ns':=by
   refine(hrow.perm.map _).trans ?_;have:(List.range ns'.length).map (λi=>ns'.getD i 0)=ns':=by
    apply ext_getElem?;intro i;rw[getElem?_map]
    by_cases hi:i<ns'.length
    ·rw[getElem?_range hi,(aY (d:=(0:Int)) hi).2];rfl
    ·rw[getElem?_eq_none (by rw[length_range];omega),getElem?_eq_none (by omega)];rfl
   rw[this]
  have hpl:p.size=ns'.length:=hrow.size;have hpw:(p.toList.map λi=>ns'.getD i 0).Pairwise (λa b=>a<b):=by
   rw[pairwise_iff_getElem];intro i j hi hj hij;have hi':i<p.size:=by rw[length_map,length_toList]at hi;exact hi
   have hj':j<p.size:=by rw[length_map,length_toList]at hj;exact hj
   have:=hup i j hij (by omega);simp only[]at this;rw[getD_eq_getD_getElem?,getD_eq_getD_getElem?,Array.getElem?_eq_getElem hi',Array.getElem?_eq_getElem hj']at this;simpa using this
  refine⟨.ref h1.objs.size,_,I.laid (t':=tk) (o:=.lst ((p.toList.map λi=>ns'.getD i 0).map V.int)) kp (le_of_lt hlt1) ⟨?_,_,c,ia rv p.toList hin,hg⟩,rfl,q _ (hperm2.trans hperm) hpw _ (I.hok.fresh (le_of_lt hlt1))⟩;rw[length_map,hperm2.length_eq,sizeLine_eq];omega
end
end L2
namespace TB
open PySem PySem.SetTable
theorem wD{mask finger moves:Nat}{led plain:Bool}{hashes:Array Int}(c:Cyc mask)(hl:hashes.size≤mask+1):
  ∃(t':SetTable) (zs:List (Nat×Nat)),SetTable.laid mask finger moves led plain hashes=some (t',(zs.map (·.2)).toArray)∧t'.mask=mask∧t'.led=led∧t'.plain=plain ∧
   Tb t' (zs.map (·.1))∧(zs.map (·.2)).Perm (List.range hashes.size):=by
 obtain⟨owner,e,L⟩:=ix c hashes hl;refine⟨{mask:=mask,place:=((live mask owner).map (·.1)).toArray,dummies:=#[],finger:=finger,led:=led,moves:=moves,plain:=plain},live mask owner,?_,rfl,rfl,rfl,⟨rfl,rfl,?_,?_⟩,?_⟩
 ·unfold laid;rw[e];rfl
 ·unfold Up live;rw[List.map_filterMap];have e1:((List.range (mask+1)).filterMap λj=>((owner.getD j none).map (j,·)).map (·.1))=(List.range (mask+1)).filter λj=>(owner.getD j none).isSome:=by
   generalize List.range (mask+1)=l
   induction l with
   |nil=>rfl
   |cons x l ih =>
    cases ex:owner.getD x none with
    |none=>rw[filterMap_cons_none (by rw[ex];rfl),filter_cons_of_neg (by simp[ex])];exact ih
    |some i=>rw[filterMap_cons_some (b:=x) (by rw[ex];rfl),filter_cons_of_pos (by simp[ex]),ih]
  rw[e1];exact Pairwise.sublist filter_sublist List.pairwise_lt_range
 ·intro j hj;obtain⟨z,hz,rfl⟩:=mem_map.mp hj;unfold live at hz;obtain⟨k,hk,e1⟩:=mem_filterMap.mp hz;cases ex:owner.getD k none with
  |none=>rw[ex]at e1;cases e1
  |some i =>
   rw[ex]at e1;have e2:(k,i)=z:=Option.some.inj e1;subst e2;have:=mem_range.mp hk;show k≤mask;omega
 ·have:=L.perm;rw[length_toList]at this;exact this
theorem oB{es:Array (Int×Value)}{zs:List (Nat×Nat)}(h:(zs.map (·.2)).Perm (List.range es.size)):(((zs.map (·.2)).toArray).filterMap (λi=>es[i]?)).toList.Perm es.toList:=by
 rw[Array.toList_filterMap];exact(h.filterMap _).trans (by rw[filterMap_getElem?_range])
section
variable{prog:Program}{w:World}{A:Around}{E:Value→Shared→Prop}{s:Shared}
theorem uB{a:Addr}{ns:List Int}{wanted:Nat}{Q:Unit→Shared→Prop}(hS:IS w s.heap a ns)(hw:wanted≤255)(hroom:ns.length*5<(sizeAbove wanted-1)*3)(h:∀h' ns' o es ep t,SameBut a s.heap h'→h'.get? a=some o→o.ExactSet→o.data=.set es ep t→ISt w es t ns'→ns'.Perm ns→t.mask=sizeAbove wanted-1→Q () {s with heap:=h'}):wpAny (model prog w) A (setRelay a wanted) Q E s:=by
 obtain⟨o,es,ep,t,ho,hex,hd,S⟩:=hS;obtain⟨hmk,hle,h256⟩:=gh hw;have hsz:=S.size;have hge:=hmk.ge;unfold setRelay;refine wpAny_bind (wpAny_setState_of ho hd S.fits ?_);dsimp only;rw[if_neg (by rw[sizeLine_eq];omega)];obtain⟨t',zs,e,hm,hled,hpl,T,hperm,_⟩:=hJ (t:=t) (hashes:=es.map (·.1)) (wanted:=wanted) hmk.cyc (by rw[size_map];omega);rw[size_map]at hperm;have hp:=oB hperm;have hsz2:(((zs.map (·.2)).toArray).filterMap (λi=>es[i]?)).size=es.size:=by rw[←length_toList,hp.length_eq,length_toList]
 obtain⟨tk,hent⟩:=S.ent;obtain⟨ns',hns',hes'⟩:=cW hp hent;have hzl:zs.length=es.size:=by
  have:=hperm.length_eq;rw[length_map,length_range]at this;exact this
 have hnl:ns'.length=ns.length:=hns'.length_eq;refine wpAny_bind ?_;rw[e];show wpAny _ _ (@ite _ _ _ _ _) _ _ _;rw[if_neg (by rw[hsz2];simp)];refine wpAny_pure ?_;dsimp only;refine wpAny_storeSet_of ho hd ?_ (by rw[hsz2,sizeLine_eq];omega);exact h _ ns' _ _ _ t' (SameBut.update s.heap a _) (stored ho hd _ t') hex rfl ⟨⟨tk,hes'⟩,hns'.nodup_iff.mpr S.nd,⟨_,T,by rw[length_map];omega⟩,by rw[hm];exact hmk,by rw[hm,hnl];exact hroom,by rw[hpl];exact S.pl,λz=>by rw[hled];exact S.led z⟩ hns' hm
theorem my{a:Addr}{ns:List Int}{more:Nat}{Q:Unit→Shared→Prop}(hS:IS w s.heap a ns)(hw:ns.length+more≤120)(h:∀h' ns' o es ep t,SameBut a s.heap h'→h'.get? a=some o→o.ExactSet→o.data=.set es ep t→ISt w es t ns'→ns'.Perm ns→(ns.length+more)*5<t.mask*3→Q () {s with heap:=h'}):wpAny (model prog w) A (setRoomFor a more) Q E s:=by
 obtain⟨o,es,ep,t,ho,hex,hd,S⟩:=id hS;obtain⟨l,T,hl⟩:=S.tb;have hfill:t.fill=ns.length:=by rw[eR T,hl]
 have hpl:t.place.size=ns.length:=by rw[T.pl,size_toArray,hl]
 unfold setRoomFor;refine wpAny_bind (wpAny_setState_of ho hd S.fits ?_);dsimp only
 by_cases hc:(t.fill+more)*5≥t.mask*3
 ·have e:t.roomFor more=some ((t.place.size+more)*2):=by unfold SetTable.roomFor;rw[if_pos hc]
  rw[e];dsimp only;rw[hpl];obtain⟨hmk,hle,_⟩:=gh (w:=(ns.length+more)*2) (by omega);have hge:=hmk.ge;have hge2:=S.mkm.ge;refine uB hS (by omega) (by omega) λh' ns' o' es' ep' t' hsb ho' hex' hd' S' hp hm=>h h' ns' o' es' ep' t' hsb ho' hex' hd' S' hp ?_;rw[hm];omega
 ·have e:t.roomFor more=none:=by unfold SetTable.roomFor;rw[if_neg hc]
  rw[e];dsimp only;have es':s={s with heap:=s.heap}:=by cases s;rfl
  rw[es'];exact wpAny_pure (h s.heap ns o es ep t (SameBut.refl a s.heap) ho hex hd S (.refl _) (by rw[hfill]at hc;omega))
theorem lx{a b:Addr}{ns:List Int}{each:Sem Unit}{Q:Unit→Shared→Prop}(hab:a≠b)(ha:IS w s.heap a [])(hb:IS w s.heap b ns)(hn:ns.length≤60)(h:∀h' ns',SameBut a s.heap h'→IS w h' a ns'→ns'.Perm ns→Q () {s with heap:=h'}):wpAny (model prog w) A (setMerge a b each) Q E s:=by
 obtain⟨ob,eb,epb,tb,hob,hexb,hdb,Sb⟩:=id hb;unfold setMerge;have hne:(a==b)=false:=by simpa using hab
 rw[hne];simp only[false_eq_true,if_false];refine wpAny_bind (wpAny_setState_of hob hdb Sb.fits ?_);dsimp only;have es':s={s with heap:=s.heap}:=by cases s;rfl
 by_cases he:eb.isEmpty=true
 ·rw[he];simp only[if_true];have hz:ns=[]:=by
   have:=Sb.size;have h0:eb.size=0:=by simpa [isEmpty]using he
   exact length_eq_zero_iff.mp (by omega)
  subst hz;rw[es'];exact wpAny_pure (h s.heap [] (SameBut.refl a s.heap) ha (.refl _))
 ·have he':eb.isEmpty=false:=by simpa using he
  rw[he'];simp only[false_eq_true,if_false];have hsb:=Sb.size;refine wpAny_bind (my ha (by rw[length_nil];omega) λh1 ns1 o1 es1 ep1 t1 hs1 ho1 hex1 hd1 S1 hp1 hrm1=>?_);have e1:ns1=[]:=hp1.eq_nil;subst e1;rw[length_nil,zero_add]at hrm1;have hob1:h1.get? b=some ob:=(hs1.2 b (symm hab)).trans hob;refine wpAny_bind (wpAny_setState_of (s:={s with heap:=h1}) ho1 hd1 S1.fits ?_);dsimp only;obtain⟨l1,T1,hl1⟩:=S1.tb;have hfill1:t1.fill=0:=by rw[eR T1,hl1];rfl
  obtain⟨lb,Tb1,hlb⟩:=Sb.tb;obtain⟨tk,hent⟩:=Sb.ent;have hge1:=S1.mkm.ge;cases hr:t1.road tb with
  |slotForSlot =>
   dsimp only;refine wpAny_storeSet_of (s:={s with heap:=h1}) ho1 hd1 ?_ (by rw[hsb,sizeLine_eq];omega);refine h _ ns (hs1.trans (SameBut.update ..)) ⟨_,_,_,_,stored (s:={s with heap:=h1}) ho1 hd1 _ _,hex1,rfl,⟨⟨tk,hent⟩,Sb.nd,⟨lb,⟨Tb1.pl,Tb1.nd,Tb1.up,Tb1.le⟩,hlb⟩,Sb.mkm,Sb.room,by show(t1.plain&&tb.plain)=true;rw[S1.pl,Sb.pl];rfl,λz=>by show(t1.led&&tb.led)=true;rw[S1.led z,Sb.led z];rfl⟩⟩ (.refl _)
  |clean =>
   dsimp only;obtain⟨t',zs,e,hm,hled,hpl,T,hperm⟩:=wD (mask:=t1.mask) (finger:=t1.finger) (moves:=t1.moves) (led:=t1.led&&tb.led) (plain:=t1.plain&&tb.plain) (hashes:=eb.map (·.1)) S1.mkm.cyc (by rw[size_map];omega);rw[size_map]at hperm;have hp:=oB hperm;have hsz2:(((zs.map (·.2)).toArray).filterMap (λi=>eb[i]?)).size=eb.size:=by rw[←length_toList,hp.length_eq,length_toList]
   obtain⟨ns',hns',hes'⟩:=cW hp hent;have hzl:zs.length=eb.size:=by
    have:=hperm.length_eq;rw[length_map,length_range]at this;exact this
   have hnl:ns'.length=ns.length:=hns'.length_eq;refine wpAny_bind ?_;rw[e];show wpAny _ _ (@ite _ _ _ _ _) _ _ _;rw[if_neg (by rw[hsz2];simp)];refine wpAny_pure ?_;dsimp only;refine wpAny_storeSet_of (s:={s with heap:=h1}) ho1 hd1 ?_ (by rw[hsz2,hsb,sizeLine_eq];omega);exact h _ ns' (hs1.trans (SameBut.update ..)) ⟨_,_,_,_,stored (s:={s with heap:=h1}) ho1 hd1 _ _,hex1,rfl,⟨⟨tk,hes'⟩,hns'.nodup_iff.mpr Sb.nd,⟨_,T,by rw[length_map];omega⟩,by rw[hm];exact S1.mkm,by rw[hm,hnl,←hsb];exact hrm1,by rw[hpl,S1.pl,Sb.pl];rfl,λz=>by rw[hled,S1.led z,Sb.led z];rfl⟩⟩ hns'
  |oneByOne =>
   exfalso
   unfold SetTable.road at hr;rw[hfill1]at hr;simp only[bne_self_eq_false,false_eq_true,if_false]at hr
   split at hr<;>cases hr
theorem wE{b:Addr}{o:Obj}{es:Array (Int×Value)}{ep:Nat}{t:SetTable}{ns:List Int}{Q:Array (Int×Value)→Shared→Prop}(S:ISt w es t ns)(ho:s.heap.get? b=some o)(hd:o.data=.set es ep t)(h:Q (eM w b ep es) s):wpAny (model prog w) A (setWalk b) Q E s:=by
 unfold setWalk;refine wpAny_bind (wpAny_setState_of ho hd S.fits ?_);unfold setsByText;refine wpAny_bind (wpAny_bind (wpAny_askSetting (wpAny_pure ?_)));show wpAny _ _ (if bt w=true then _ else _) _ _ _;unfold eM at h;cases hb:bt w with
 |true =>
  rw[hb]at h;simp only[if_true]at h⊢;exact wpAny_bind (wpAny_askSetting (wpAny_pure h))
 |false =>
  rw[hb]at h;simp only[false_eq_true,if_false]at h⊢;show wpAny _ _ (if (!t.plain&&decide (es.size>1))=true then _ else _) _ _ _
  rw[ie S];simp only[false_eq_true,if_false];refine wpAny_bind ?_;show wpAny _ _ (if (!t.led&&decide (es.size>1))=true then _ else _) _ _ _
  rw[S.led hb];simp only[Bool.not_true,Bool.false_and,false_eq_true,if_false];exact wpAny_pure (wpAny_pure h)
theorem oC{b:Addr}{os:List Addr}{f:Option Addr}{o:Obj}{es:Array (Int×Value)}{ep:Nat}{t:SetTable}{ns:List Int}{Q:Array (Int×Value)→Shared→Prop}(S:ISt w es t ns)(ho:s.heap.get? b=some o)(hd:o.data=.set es ep t)(h:Q (eM w b ep es) s):wpAny (model prog w) A (setWalkUnseen b os f) Q E s:=by
 unfold setWalkUnseen;refine wpAny_bind (wpAny_setState_of ho hd S.fits ?_);dsimp only;refine wpAny_bind ?_;unfold setsByText;refine wpAny_bind (wpAny_askSetting (wpAny_pure ?_));have hc:((model prog w).w.params.followText "set-order"||t.led&&t.plain||decide (es.size≤1))=true:=by
  cases hb:bt w with
  |true =>
   have:(model prog w).w.params.followText "set-order"=true:=hb;rw[this];rfl
  |false=>rw[S.led hb,S.pl];simp
 show wpAny _ _ (if ((model prog w).w.params.followText "set-order"||t.led&&t.plain||decide (es.size≤1))=true then _ else _) _ _ _
 rw[hc];simp only[if_true];exact wE S ho hd h
theorem uC{a b:Addr}{ms ns:List Int}{each:Sem Unit}{Q:Unit→Shared→Prop}(hab:a≠b)(ha:IS w s.heap a ms)(hb:IS w s.heap b ns)(hn:ms.length+ns.length≤60)(hE:∀(h':Heap) (Q':Unit→Shared→Prop),SameBut a s.heap h'→Q' () {s with heap:=h'}→wpAny (model prog w) A each Q' E {s with heap:=h'})(h:∀h' us,SameBut a s.heap h'→IS w h' a us→(∀x,x∈us↔x∈ms∨x∈ns)→Q () {s with heap:=h'}):wpAny (model prog w) A (setMerge a b each) Q E s:=by
 by_cases hms:ms=[]
 ·subst hms;exact lx hab ha hb (by omega) λh' ns' hsb hS hp=>h h' ns' hsb hS λx=>by rw[hp.mem_iff];simp
 ·obtain⟨ob,eb,epb,tb,hob,hexb,hdb,Sb⟩:=id hb;have hml:0<ms.length:=List.length_pos_iff.mpr hms;unfold setMerge;have hne:(a==b)=false:=by simpa using hab
  rw[hne];simp only[false_eq_true,if_false];refine wpAny_bind (wpAny_setState_of hob hdb Sb.fits ?_);dsimp only;have es':s={s with heap:=s.heap}:=by cases s;rfl
  by_cases he:eb.isEmpty=true
  ·rw[he];simp only[if_true];have hz:ns=[]:=by
    have:=Sb.size;have h0:eb.size=0:=by simpa [isEmpty]using he
    exact length_eq_zero_iff.mp (by omega)
   subst hz;rw[es'];exact wpAny_pure (h s.heap ms (SameBut.refl a s.heap) ha λx=>by simp)
  ·have he':eb.isEmpty=false:=by simpa using he
   rw[he'];simp only[false_eq_true,if_false];have hsb:=Sb.size;refine wpAny_bind (my ha (by omega) λh1 ns1 o1 es1 ep1 t1 hs1 ho1 hex1 hd1 S1 hp1 hrm1=>?_);have hob1:h1.get? b=some ob:=(hs1.2 b (symm hab)).trans hob;refine wpAny_bind (wpAny_setState_of (s:={s with heap:=h1}) ho1 hd1 S1.fits ?_);dsimp only;obtain⟨l1,T1,hl1⟩:=S1.tb;have hfill1:t1.fill≠0:=by rw[eR T1,hl1,hp1.length_eq];omega
   have hroad:t1.road tb=.oneByOne:=by
    unfold SetTable.road;rw[if_pos (by simpa using hfill1)]
   rw[hroad];dsimp only;refine wpAny_bind (oC (s:={s with heap:=h1}) Sb hob1 hdb ?_);obtain⟨tk,hent⟩:=Sb.ent;obtain⟨ns',hns',hord⟩:=cW (jK w b epb eb) hent;have hnl:ns'.length=ns.length:=hns'.length_eq;rw[←forIn_toList,hord];refine wpAny_bind ?_;refine wpAny_forIn_list _ (λrest _ s'=>∃h' us i,s'={s with heap:=h'}∧rest=(ns'.drop i).map (gw tk)∧SameBut a s.heap h'∧IS w h' a us∧(∀x,x∈us↔x∈ms∨x∈ns'.take i)∧us.length≤ms.length+i∧i≤ns'.length) _ ?_ ?_ _ _
    ⟨h1,ns1,0,rfl,rfl,hs1,⟨o1,es1,ep1,t1,ho1,hex1,hd1,S1⟩,λx=>by rw[hp1.mem_iff];simp,by rw[hp1.length_eq];omega,zero_le _⟩
   ·rintro⟨hh,xx⟩ rest bb s' ⟨h',us,i,rfl,hr,hsb',hS',hmem,hlen,hi⟩;have hlt:i<ns'.length:=by
     rcases lt_or_ge i ns'.length with z|z
     ·exact z
     ·rw[List.drop_of_length_le z]at hr;cases hr
    rw[List.drop_eq_getElem_cons hlt,map_cons]at hr;injection hr with hr1 hr2
    have hr3:hh=hashInt ns'[i]∧xx=Value.int ns'[i] (tk ns'[i]):=by
     have:(hh,xx)=(hashInt ns'[i],Value.int ns'[i] (tk ns'[i])):=hr1;injection this with q1 q2
     exact⟨q1,q2⟩
    obtain⟨rfl,rfl⟩:=hr3;refine wpAny_bind (wpAny_holding (add_int (s:={s with heap:=h'}) hS' (by omega) λr h2 us2 hsb2 hS2 hor=>?_));refine wpAny_bind (hE h2 _ (hsb'.trans hsb2) ?_);have hob2:h2.get? b=some ob:=((hsb'.trans hsb2).2 b (symm hab)).trans hob;refine wpAny_bind (wpAny_setState_of (s:={s with heap:=h2}) hob2 hdb Sb.fits ?_);rw[if_neg (by simp)];refine wpAny_pure ⟨h2,us2,i+1,rfl,hr2,hsb'.trans hsb2,hS2,λx=>?_,?_,hlt⟩
    ·have ht:ns'.take (i+1)=ns'.take i++[ns'[i]]:=by rw[take_succ,getElem?_eq_getElem hlt];rfl
     rw[ht,mem_append,List.mem_singleton];rcases hor with⟨hin,e⟩|⟨_,e⟩
     ·rw[e,hmem x];constructor
      ·rintro(z|z)
       ·exact .inl z
       ·exact .inr (.inl z)
      ·rintro(z|z|z)
       ·exact .inl z
       ·exact .inr z
       ·rw[z];exact(hmem _).mp hin
     ·rw[e.mem_iff,mem_cons,hmem x];constructor
      ·rintro(z|z|z)
       ·exact .inr (.inr z)
       ·exact .inl z
       ·exact .inr (.inl z)
      ·rintro(z|z|z)
       ·exact .inr (.inl z)
       ·exact .inr (.inr z)
       ·exact .inl z
    ·rcases hor with⟨_,e⟩|⟨_,e⟩
     ·rw[e];omega
     ·have:=e.length_eq;rw[length_cons]at this;omega
   ·rintro bb s' ⟨h',us,i,rfl,hr,hsb',hS',hmem,hlen,hi⟩;have hie:ns'.drop i=[]:=by simpa using hr.symm
    have hin:i=ns'.length:=by
     have:=congrArg length hie;rw[length_drop,length_nil]at this;omega
    refine wpAny_pure (h h' us hsb' hS' λx=>?_);rw[hmem x,hin,take_length,hns'.mem_iff]
end
theorem mD:entryFor table "set.__or__"=some Builtin.«frozenset.__or__» :=
 entryFor_alias (id':="frozenset.__or__") (by kernel_rfl) rfl (by decide +kernel) (by kernel_rfl)
section
variable{prog:Program}{w:World}{A:Around}{E:Value→Shared→Prop}{s:Shared}
theorem yA{Q:Value→Shared→Prop}(h:∀h',(∀b o,s.heap.get? b=some o→h'.get? b=some o)→IS w h' s.heap.objs.size []→Q (.ref s.heap.objs.size) {s with heap:=h'}):wpAny (model prog w) A (newSet (.type "set")) Q E s:=by
 unfold newSet setsByText;refine wpAny_bind (wpAny_bind (wpAny_askSetting (wpAny_pure ?_)));dsimp only;simp only[newObj];exact wpAny_bind (wpAny_alloc (wpAny_pure (h _ (λb o e=>get?_push_of_some _ e) (ow (get?_push_size _ rfl)))))
theorem mE{a:Addr}{Q:Bool→Shared→Prop}(hT:s.TypeIs (.ref a) "set")(h:Q true s):wpAny (model prog w) A (Builtin.Frozenset.isAnySet (.ref a)) Q E s:=by
 unfold Builtin.Frozenset.isAnySet;refine wpAny_bind (wpAny_isInstance (b:=true) hT sub_set_self ?_);exact wpAny_pure h
theorem wF{a:Addr}{ns:List Int}{Q:Value→Shared→Prop}(ha:IS w s.heap a ns)(hn:ns.length≤60)(h:∀h' us,(∀b o,s.heap.get? b=some o→h'.get? b=some o)→IS w h' s.heap.objs.size us→us.Perm ns→Q (.ref s.heap.objs.size) {s with heap:=h'}):wpAny (model prog w) A (Builtin.Frozenset.copyOf a) Q E s:=by
 obtain⟨o,es,ep,t,ho,hex,hd,S⟩:=id ha;have hT:s.TypeIs (.ref a) "set":=⟨o,ho,hex.1⟩;unfold Builtin.Frozenset.copyOf Builtin.Frozenset.baseOf;refine wpAny_bind ?_;refine wpAny_bind (wpAny_isInstance (b:=true) hT sub_set_self ?_);refine wpAny_pure ?_;simp only[if_true];refine wpAny_bind (yA λh1 hk hS=>?_);refine wpAny_bind ?_;show wpAny _ _ (pure s.heap.objs.size) _ _ _;refine wpAny_pure ?_;have hlt:a<s.heap.objs.size:=lt_size ho;refine wpAny_bind (lx (s:={s with heap:=h1}) (ne_of_gt hlt) hS (ha.at λo e=>hk a o e) hn λh' us hsb hS' hp=>?_);refine wpAny_pure (h h' us (λb o e=>?_) hS' hp);rw[hsb.2 b (ne_of_lt (lt_size e))];exact hk b o e
theorem uD{a b:Addr}{ms ns:List Int}{Q:Value→Shared→Prop}(hab:a≠b)(ha:IS w s.heap a ms)(hb:IS w s.heap b ns)(hn:ms.length+ns.length≤60)(h:∀h' us,(∀b o,s.heap.get? b=some o→h'.get? b=some o)→IS w h' s.heap.objs.size us→(∀x,x∈us↔x∈ms∨x∈ns)→Q (.ref s.heap.objs.size) {s with heap:=h'}):wpAny (model prog w) A (binaryOp .BitOr (.ref a) (.ref b)) Q E s:=by
 obtain⟨oa,ea,epa,ta,hoa,hexa,hda,Sa⟩:=id ha;obtain⟨ob,eb,epb,tb,hob,hexb,hdb,Sb⟩:=id hb;have hTa:s.TypeIs (.ref a) "set":=⟨oa,hoa,hexa.1⟩;have hTb:s.TypeIs (.ref b) "set":=⟨ob,hob,hexb.1⟩;refine wpAny_binaryOp_same hTa hTb F.fills_set_or F.slot_set_or (wpAny_call_entry F.slot_set_or hTa mD ?_ (F.args_set_or_2 _ _));unfold Builtin.«frozenset.__or__»;refine wpAny_bind ?_;unfold Builtin.Frozenset.slot1;refine wpAny_bind (wpAny_pure (wpAny_pure ?_));dsimp only;simp only[false_eq_true,if_false];refine wpAny_bind ?_;refine wpAny_bind (mE hTa ?_);show wpAny _ _ (Builtin.Frozenset.isAnySet (.ref b)) _ _ _;refine mE hTb ?_;simp only[Bool.not_true,false_eq_true,if_false];refine wpAny_bind ?_;show wpAny _ _ (pure a) _ _ _;refine wpAny_pure ?_;refine wpAny_bind ?_;refine wpAny_bind (wF ha (by omega) λh1 us hk hS hp=>?_);have hne:(Value.ref b != Value.ref a)=true:=by
  rw[bne_iff_ne];intro e;injection e with e
  exact hab e.symm
 rw[hne];simp only[if_true];refine wpAny_bind ?_;show wpAny _ _ (pure s.heap.objs.size) _ _ _;refine wpAny_pure ?_;refine wpAny_bind ?_;refine wpAny_holding ?_;unfold Builtin.Frozenset.updateFrom;have hob1:h1.get? b=some ob:=hk b ob hob;have hTb1:Shared.TypeIs {s with heap:=h1} (.ref b) "set":=⟨ob,hob1,hexb.1⟩
 refine wpAny_bind (mE hTb1 ?_);simp only[if_true];refine wpAny_bind ?_;show wpAny _ _ (pure b) _ _ _;refine wpAny_pure ?_;unfold Builtin.Frozenset.merge;refine wpAny_bind (wpAny_setEpoch_of (s:={s with heap:=h1}) hob1 hdb Sb.fits ?_);have hbn:s.heap.objs.size≠b:=ne_of_gt (lt_size hob);refine uC (s:={s with heap:=h1}) hbn hS (hb.at λo e=>hk b o e) (by rw[hp.length_eq];exact hn) (λh' Q' hsb hq=>?_) λh' vs hsb hS' hmem=>?_
 ·unfold Builtin.Frozenset.unchanged;have hob2:h'.get? b=some ob:=(hsb.2 b (symm hbn)).trans hob1;refine wpAny_bind (wpAny_setEpoch_of (s:={s with heap:=h'}) hob2 hdb Sb.fits ?_);rw[if_neg (by simp)];exact wpAny_pure hq
 ·refine wpAny_pure (wpAny_pure ⟨_,rfl,(λe=>nomatch e),h h' vs (λc o e=>?_) hS' λx=>by rw[hmem x,hp.mem_iff]⟩);rw[hsb.2 c (ne_of_lt (lt_size e))];exact hk c o e
theorem uE{d:Addr}{od:Obj}{ed:Array DictEntry}{epd:Nat}{ks:List Int}{Q:Value→Shared→Prop}(hod:s.heap.get? d=some od)(hexd:od.ExactDict)(hdd:od.data=.dict ed epd)(hsm:(d==sysModules)=false)(hk:∀(i:Nat) (e:DictEntry),ed[i]?=some e→∃k t,ks[i]?=some k∧e.key=.int k t∧e.hash=hashInt k)(hlen:ed.size=ks.length)(hn:ks.length≤60)(h:∀h' us,(∀b o,s.heap.get? b=some o→h'.get? b=some o)→IS w h' s.heap.objs.size us→(∀x,x∈us↔x∈ks)→Q (.ref s.heap.objs.size) {s with heap:=h'}):wpAny (model prog w) A (call (.type "set") [.ref d]) Q E s:=by
 refine mx ?_;have hS:(s.heap.push {cls:=.type "set",dict:=none,data:=.set #[] 0 (.fresh 0 0 (!bt w))}).get? s.heap.objs.size=some {cls:=.type "set",dict:=none,data:=.set #[] 0 (.fresh 0 0 (!bt w))}:=get?_push_size _ rfl;have hI:IS w (s.heap.push {cls:=.type "set",dict:=none,data:=.set #[] 0 (.fresh 0 0 (!bt w))}) s.heap.objs.size []:=ow hS;have hod1:(s.heap.push {cls:=.type "set",dict:=none,data:=.set #[] 0 (.fresh 0 0 (!bt w))}).get? d=some od:=get?_push_of_some _ hod;have hkeep:∀b o,s.heap.get? b=some o→(s.heap.push {cls:=.type "set",dict:=none,data:=.set #[] 0 (.fresh 0 0 (!bt w))}).get? b=some o:=λb o e=>get?_push_of_some _ e;have hdS:s.heap.objs.size≠d:=ne_of_gt (lt_size hod);generalize (s.heap.push {cls:=.type "set",dict:=none,data:=.set #[] 0 (.fresh 0 0 (!bt w))})=h0 at hS hI hod1 hkeep⊢;have hT:Shared.TypeIs {s with heap:=h0} (.ref d) "dict":=⟨od,hod1,hexd.1⟩
 have hTS:Shared.TypeIs {s with heap:=h0} (.ref s.heap.objs.size) "set":=⟨_,hS,rfl⟩
 have h1:isSubtype (.type "dict") (.type "set")=pure false:=by rw[isSubtype_type];kernel_rfl
 have h2:isSubtype (.type "dict") (.type "frozenset")=pure false:=by rw[isSubtype_type];kernel_rfl
 generalize hU:@Builtin.Frozenset.updateFrom=U;unfold Builtin.«set.__init__» noKeywords
 wp_walk
 rw[hdd];refine wpAny_pure ?_;refine wpAny_bind (wpAny_dictEntries (s:={s with heap:=h0}) hod1 hdd ?_);refine wpAny_bind (my (s:={s with heap:=h0}) hI (by rw[length_nil];omega) λh3 ns3 o3 es3 ep3 t3 hs3 ho3 hex3 hd3 S3 hp3 _=>?_);have e3:ns3=[]:=hp3.eq_nil;subst e3;have hod3:h3.get? d=some od:=(hs3.2 d (symm hdS)).trans hod1;refine wpAny_bind (wpAny_dictEntries (s:={s with heap:=h3}) hod3 hdd ?_);refine wpAny_bind ?_;rw[Std.Legacy.Range.forIn_eq_forIn_range'];simp only[Std.Legacy.Range.size,Nat.sub_zero,Nat.add_sub_cancel,Nat.div_one];refine wpAny_forIn_list _ (λrest _ s'=>∃h' us i,s'={s with heap:=h'}∧rest=range' i (ed.size-i)∧i≤ed.size∧SameBut s.heap.objs.size h0 h'∧IS w h' s.heap.objs.size us∧(∀x,x∈us↔x∈ks.take i)∧us.length≤i) _ ?_ ?_ _ _
  ⟨h3,[],0,rfl,by simp,zero_le _,hs3,⟨o3,es3,ep3,t3,ho3,hex3,hd3,S3⟩,λx=>by simp,le_refl _⟩
 ·rintro x rest b s' ⟨h',us,i,rfl,hr,hi,hsb,hS',hmem,hl⟩;have hlt:i<ed.size:=by
   rcases lt_or_ge i ed.size with h|h
   ·exact h
   ·rw[Nat.sub_eq_zero_of_le h]at hr;simp at hr
  obtain⟨rfl,hrest⟩:x=i∧rest=range' (i+1) (ed.size-(i+1)):=by
   have e:ed.size-i=(ed.size-(i+1))+1:=by omega
   rw[e,List.range'_succ]at hr;injection hr with h1 h2
   exact⟨h1,h2⟩
  have hod':h'.get? d=some od:=(hsb.2 d (symm hdS)).trans hod1;refine wpAny_bind (wpAny_dictEntries (s:={s with heap:=h'}) hod' hdd ?_);have hx:ed[x]?=some ed[x]:=Array.getElem?_eq_getElem hlt;obtain⟨k,kt,hk1,hk2,hk3⟩:=hk x _ hx;rw[hx];show wpAny _ _ (holding [ed[x].key] (setAddHashed s.heap.objs.size ed[x].key ed[x].hash) >>= _) _ _ _;rw[hk2,hk3];refine wpAny_bind (wpAny_holding (add_int (s:={s with heap:=h'}) hS' (by omega) λr h2 us2 hsb2 hS2 hor=>?_));have hod2:h2.get? d=some od:=(hsb2.2 d (symm hdS)).trans hod';refine wpAny_bind (wpAny_dictEpoch (s:={s with heap:=h2}) hod2 hdd ?_);rw[if_neg (by simp)];refine wpAny_pure ⟨h2,us2,x+1,rfl,hrest,hlt,hsb.trans hsb2,hS2,λy=>?_,?_⟩
  ·have ht:ks.take (x+1)=ks.take x++[k]:=by rw[take_succ,hk1];rfl
   rw[ht,mem_append,List.mem_singleton];rcases hor with⟨hin,e⟩|⟨_,e⟩
   ·rw[e,hmem y];constructor
    ·exact .inl
    ·rintro(z|z)
     ·exact z
     ·rw[z];exact(hmem _).mp hin
   ·rw[e.mem_iff,mem_cons,hmem y];exact Or.comm
  ·rcases hor with⟨_,e⟩|⟨_,e⟩
   ·rw[e];omega
   ·have:=e.length_eq;rw[length_cons]at this;omega
 ·rintro b s' ⟨h',us,i,rfl,hr,hi,hsb,hS',hmem,hl⟩;have hin:i=ed.size:=by
   have:=congrArg length hr;rw[length_nil,List.length_range']at this;omega
  refine wpAny_pure (wpAny_pure ⟨rfl,h h' us (λc o e=>?_) hS' λx=>?_⟩)
  ·rw[hsb.2 c (ne_of_lt (lt_size e))];exact hkeep c o e
  ·rw[hmem x,hin,hlen,take_length]
end
end TB
namespace L2
open PySem PySem.Spec PyProof.Rows
section
variable{X:Cx}
theorem Inv.dK{pins:List (Addr×Obj)}{σ:St}{H:Hp}{s:Shared}(I:Inv X pins σ H s){a:Addr}{kvs:List (Key×V)}(h:Rd H a (.dK kvs)):
  kvs.length≤sizeLine∧(a==sysModules)=false∧∃vs,KV kvs vs∧s.heap.DictOf (aw X.prog X.w) a vs:=by
 rcases h with h|⟨o,h⟩
 ·obtain⟨hz,hsm,vs,rel,dd⟩:=I.hok a _ h;exact⟨hz,hsm,vs,rel,dd⟩
 ·obtain⟨_,hz,hsm,vs,rel,dd⟩:=I.hok a _ h;exact⟨hz,hsm,vs,rel,dd⟩
def dR:V→Bool
 |.non=>true
 |.int _=>true
 |.str _=>true
 |_=>false
theorem dN{x:V}(h:dR x=true):cQ x=true:=by cases x<;>first|rfl|cases h
theorem oD{x y:V}(hx:dR x=true)(hy:dR y=true):eqV x y=decide (x=y):=by
 cases x<;>cases y<;>simp_all [eqV,dR]<;>rw[Bool.eq_iff_iff]<;>simp
def OT(H:Hp)(x:V)(o:Option (List V)):Prop:=(x=.non∧o=none)∨∃a xs,x=.ref a∧H a=some (.tup xs)∧o=some xs∧∀v∈xs,dR v=true
theorem uF{xs ys:List V}(hl:xs.length=ys.length):((List.range xs.length).all λi=>decide (xs.getD i .non=ys.getD i .non))=decide (xs=ys):=by
 rw[Bool.eq_iff_iff,all_eq_true,decide_eq_true_eq];constructor
 ·intro h;apply ext_getElem?;intro i
  by_cases hi:i<xs.length
  ·have:=h i (mem_range.mpr hi);rw[decide_eq_true_eq,getD_eq_getElem?_getD,getD_eq_getElem?_getD,getElem?_eq_getElem hi,getElem?_eq_getElem (by omega)]at this;rw[getElem?_eq_getElem hi,getElem?_eq_getElem (by omega)];exact congrArg some this
  ·rw[getElem?_eq_none (by omega),getElem?_eq_none (by omega)]
 ·intro h i hi;rw[h];simp
theorem yB(hu:X.A.units+1<cLine):OpR X (compareOp .NotEq) (λx y H Q=>∃ox oy,OT H x ox∧OT H y oy∧Q (.bl (!decide (ox=oy))) H):=by
 intro pins s σ H x y v u Q I rx ry h;obtain⟨ox,oy,hx,hy,q⟩:=h;have hu0:X.A.units<cLine:=by omega
 rcases hx with⟨rfl,rfl⟩|⟨a,xs,rfl,ha,rfl,fx⟩<;>rcases hy with⟨rfl,rfl⟩|⟨b,ys,rfl,hb,rfl,fy⟩<;>cases rx<;>cases ry
 ·exact RcNeAt.none_none _ _ _ _ ⟨.bl false,H,I,rfl,q⟩
 ·obtain⟨_,ws,r2,t2⟩:=I.hok b _ hb;exact RcNeAt.none_tuple t2 hu0 _ _ _ _ ⟨.bl true,H,I,rfl,q⟩
 ·obtain⟨_,us,r1,t1⟩:=I.hok a _ ha;exact RcNeAt.tuple_none t1 hu0 _ _ _ _ ⟨.bl true,H,I,rfl,q⟩
 ·obtain⟨_,us,r1,t1⟩:=I.hok a _ ha;obtain⟨_,ws,r2,t2⟩:=I.hok b _ hb;have l1:=r1.length;have l2:=r2.length;refine RcNeAt.tuples (e:=λi=>decide (xs.getD i .non=ys.getD i .non)) t1 t2 hu0 (λj h1 h2=>?_) _ _ _ _ ⟨.bl _,H,I,rfl,?_⟩
  ·have h1':j<xs.length:=by rw[l1];simpa using h1
   have h2':j<ys.length:=by rw[l2];simpa using h2
   obtain⟨u',hu1,hu2⟩:=r1.get (getElem?_eq_getElem h1');obtain⟨v',hv1,hv2⟩:=r2.get (getElem?_eq_getElem h2');have e1:us.toArray[j]=u':=by
    have:us[j]?=some us.toArray[j]:=by rw[getElem?_eq_getElem (by simpa using h1)];simp
    rw[hu1]at this;exact(Option.some.inj this).symm
   have e2:ws.toArray[j]=v':=by
    have:ws[j]?=some ws.toArray[j]:=by rw[getElem?_eq_getElem (by simpa using h2)];simp
    rw[hv1]at this;exact(Option.some.inj this).symm
   rw[e1,e2,getD_eq_getElem?_getD,getD_eq_getElem?_getD,getElem?_eq_getElem h1',getElem?_eq_getElem h2'];have f1:=fx _ (getElem_mem h1');have f2:=fy _ (getElem_mem h2');show EqAt _ _ _ _ (decide (xs[j]=ys[j]));rw[←oD f1 f2];exact jg hu2 hv2 (dN f1) (dN f2)
  ·have e:((List.range (min us.toArray.size ws.toArray.size)).all (λi=>decide (xs.getD i .non=ys.getD i .non))&&us.toArray.size==ws.toArray.size)=decide (some xs=some ys):=by
    simp only[size_toArray,←l1,←l2]
    by_cases hl:xs.length=ys.length
    ·rw[←hl,min_self,uF hl];simp
    ·have:(xs.length==ys.length)=false:=by simpa using hl
     rw[this,Bool.and_false];refine(decide_eq_false ?_).symm;intro e;injection e with e
     exact hl (by rw[e])
   rw[e];exact q
end
theorem gD{α:Type}[DecidableEq α]:∀{l m:List α},l.Nodup→(∀x∈l,x∈m)→l.length≤m.length
 |[],_,_,_=>zero_le _
 |x::l,m,hn,h=>by
  obtain⟨h1,h2⟩:=nodup_cons.mp hn;have hx:=h x mem_cons_self;have ih:=gD (l:=l) (m:=m.erase x) h2 λy hy=>(List.mem_erase_of_ne (by rintro rfl;exact h1 hy)).mpr (h y (mem_cons_of_mem _ hy));rw[List.length_erase_of_mem hx]at ih;have:=List.length_pos_of_mem hx;rw[length_cons];omega
section
variable{X:Cx}
theorem iB:bX X (.type "set") (λxs H Q=>∃d kvs,∃ks:List Int,xs=[.ref d]∧Rd H d (.dK kvs)∧kvs.map (·.1)=ks.map (Sum.inl:Int→Key)∧ks.length≤60 ∧
  ∀ms:List Int,ms.Nodup→(∀x,x∈ms↔x∈ks)→∀q,H q=none→Q (.ref q) (upd H q (dS X.w q ms))):=by
 intro pins s σ H xs us Q I r h;obtain⟨d,kvs,ks,rfl,hH,hks,hl,q⟩:=h;obtain⟨u,rfl,ru⟩:=cv r;cases ru;obtain⟨hz,hsm,vs,rel,o,es,ep,ho,hx,hd,hk,hp,hn⟩:=I.dK hH;have hlen:es.size=ks.length:=by
  have e1:=hp.length;have e2:=rel.length;have e3:=congrArg length hks;rw[length_map,length_map]at e3;rw[length_toList]at e1;omega
 have key:∀(es:List DictEntry)(vs:List (Key×Value))(kvs:List (Key×V))(ks:List Int),Pairs (aw X.prog X.w) es vs→KV kvs vs→kvs.map (·.1)=ks.map (Sum.inl:Int→Key)→(∀e∈es,∃k,(aw X.prog X.w).is k e.key=true∧e.hash=(aw X.prog X.w).hash k) →
   ∀(i:Nat)(e:DictEntry),es[i]?=some e→∃k t,ks[i]?=some k∧e.key=.int k t∧e.hash=hashInt k:=by
  intro es vs kvs ks hp
  induction hp generalizing kvs ks with
  |nil=>intro _ _ _ i e he;simp at he
  |@cons e0 kv0 es0 kvs0 h1 h2 _ ih =>
   intro r hks hk i e he;cases r with
   |@cons p _ kvs1 _ r1 r2 =>
    cases ks with
    |nil=>simp at hks
    |cons k ks =>
     rw[map_cons,map_cons]at hks;injection hks with g1 g2
     cases i with
     |zero =>
      have ee:e0=e:=by simpa using he
      subst ee;have g3:kv0.1=Sum.inl k:=r1.1.symm.trans g1;rw[g3]at h1;obtain⟨k',hk1,hk2⟩:=hk _ mem_cons_self;have g4:k'=Sum.inl k:=(aw X.prog X.w).inj _ _ _ hk1 h1;subst g4;have h1':iX (Sum.inl k) e0.key=true:=h1;rcases aN h1' with⟨j,t,e1,e2⟩|⟨y,t,e1,e2⟩
      ·injection e1 with e1
       subst e1;exact⟨k,t,rfl,e2,hk2⟩
      ·cases e1
     |succ i=>exact ih _ ks r2 g2 (λe he=>hk e (mem_cons_of_mem _ he)) i e (by simpa using he)
 refine TB.uE (ks:=ks) ho hx hd hsm (λi e he=>?_) hlen hl λh' us hkeep hS hmem=>?_
 ·exact key es.toList vs kvs ks hp rel hks (λe he=>hk e (by simpa using he)) i e (by rw[getElem?_toList];exact he)
 ·have hnd:us.Nodup:=by obtain⟨_,_,_,_,_,_,_,S⟩:=hS;exact S.nd
  exact⟨.ref s.heap.objs.size,_,I.layS (t':=s.toks) hkeep (le_refl _) hS,rfl,q us hnd hmem _ (I.hok.fresh (le_refl _))⟩
theorem uG:OpR X (binaryOp .BitOr) (λx y H Q=>∃a b,∃ms ns:List Int,x=.ref a∧y=.ref b∧a≠b∧H a=some (dS X.w a ms)∧H b=some (dS X.w b ns)∧ms.length+ns.length≤60 ∧
  ∀us:List Int,us.Nodup→(∀x,x∈us↔x∈ms∨x∈ns)→∀q,H q=none→Q (.ref q) (upd H q (dS X.w q us))):=by
 intro pins s σ H x y v u Q I rx ry h;obtain⟨a,b,ms,ns,rfl,rfl,hab,ha,hb,hl,q⟩:=h;cases rx;cases ry;refine TB.uD hab (I.intS ha) (I.intS hb) hl λh' us hkeep hS hmem=>?_;have hnd:us.Nodup:=by obtain⟨_,_,_,_,_,_,_,S⟩:=hS;exact S.nd
 exact⟨.ref s.heap.objs.size,_,I.layS (t':=s.toks) hkeep (le_refl _) hS,rfl,q us hnd hmem _ (I.hok.fresh (le_refl _))⟩
end
end L2
namespace TW
section
variable{S:Type}
def aZ(t:List (Nd S))(k:Int):Option (Nd S):=t.find? λn=>n.num==k
theorem pP{t:List (Nd S)}(T:Tree1 t){m:Nd S}(hm:m∈t){k:Int}(e:m.num=k):aZ t k=some m:=by
 subst e;unfold aZ;cases h:t.find? λn=>n.num==m.num with
 |none=>have:=find?_eq_none.mp h m hm;simp at this
 |some y =>
  have h1:=find?_some h;have h2:=List.mem_of_find?_eq_some h;have h3:y.num=m.num:=by simpa using h1
  rw[T.inj h2 hm h3]
theorem jN{t:List (Nd S)}{k:Int}(h:∀m∈t,m.num≠k):aZ t k=none:=by
 unfold aZ;rw[find?_eq_none];intro m hm;simpa using h m hm
end
end TW
namespace TW
section
variable{S:Type}
structure Row(S:Type) where
 k:Int
 o:Option (Nd S)
 n:Option (Nd S)
structure Chg(t u:List (Nd S))(rs:List (Row S)):Prop where
 up:rs.Pairwise λa b=>a.k<b.k
 mem:∀r,r∈rs↔r.o=aZ t r.k∧r.n=aZ u r.k∧r.o≠r.n
theorem cX{t:List (Nd S)}{k:Int}{m:Nd S}(h:aZ t k=some m):m∈t∧m.num=k:=by
 unfold aZ at h;have h1:=find?_some h;have h2:=List.mem_of_find?_eq_some h;exact⟨h2,by simpa using h1⟩
theorem Chg.nil{t:List (Nd S)}{a:List (Row S)}(h:Chg t t a):a=[]:=by
 cases a with
 |nil=>rfl
 |cons x a =>
  obtain⟨h1,h2,h3⟩:=(h.mem x).mp mem_cons_self;exact absurd (h1.trans h2.symm) h3
def gE(t u:List (Nd S))(k:Int):Row S:=⟨k,aZ t k,aZ u k⟩
theorem yC[DecidableEq (Nd S)]{t u:List (Nd S)}{ns:List Int}(hu:ns.Pairwise (· < ·))(hm:∀k,aZ t k≠none∨aZ u k≠none→k∈ns∨aZ t k=aZ u k):Chg t u ((ns.map (gE t u)).filter λr=>decide (r.o≠r.n)):=by
 refine⟨?_,λr=>?_⟩
 ·refine Pairwise.filter _ ?_;rw[pairwise_map];exact hu
 ·rw[mem_filter,mem_map,decide_eq_true_eq];constructor
  ·rintro⟨⟨k,hk,rfl⟩,hne⟩;exact⟨rfl,rfl,hne⟩
  ·rintro⟨h1,h2,h3⟩;refine⟨⟨r.k,?_,?_⟩,h3⟩
   ·have h4:aZ t r.k≠aZ u r.k:=by rw[←h1,←h2];exact h3
    have h5:aZ t r.k≠none∨aZ u r.k≠none:=by
     by_cases z:aZ t r.k=none
     ·exact .inr λz2=>h4 (z.trans z2.symm)
     ·exact .inl z
    rcases hm r.k h5 with z|z
    ·exact z
    ·exact absurd z h4
   ·show(⟨r.k,aZ t r.k,aZ u r.k⟩:Row S)=r;rw[←h1,←h2]
end
end TW
namespace L2
open PySem PySem.Spec PyProof.Rows
theorem uH{α:Type}{k:Nat}{js:List Nat}{J:It}{g:TG}{te:TE}{σ:St}{H1:Hp}{Q:VK}{p:Addr}{fr:List (Option V)}(zs:List α)(val:α→V)(hn:zs.length≤1000)(hp:H1 p=none)(S:Src J H1 (zs.map val))(hfr:∃σ0:St,σ0.length=k∧cH k js σ=σ0++fr)(R:α→V→Hp→Prop)(hR:∀z y H H',R z y H→Ext p H H'→R z y H')(elt:∀z (σ0:St) H' (kk:St→VK),σ0.length=k→z∈zs→Same H1 H'→(∃ys,H' p=some (.lst ys))→(∀σ2 y H4,(∃σ0':St,σ0'.length=k∧σ2=σ0'++fr)→Same H' H4→R z y H4→kk σ2 y H4)→g (val z) (σ0++fr) H' λσ2 H3=>te σ2 H3 (kk σ2))(fin:∀ys H',Same H1 H'→H' p=some (.lst ys)→Paired (λz y=>R z y H') zs ys→Q (.ref p) H'):LcW k js g te σ Q J H1 p:=by
 have grow:∀{as:List α}{ys:List V}{H H':Hp},Ext p H H'→Paired (λz y=>R z y H) as ys→Paired (λz y=>R z y H') as ys:=λex r=>Paired.mapP r λa b h=>hR a b _ _ h ex;have hlen:∀{as:List α}{ys:List V}{H:Hp},Paired (λz y=>R z y H) as ys→ys.length=as.length:=λr=>(Paired.length r).symm;refine⟨λi m ys σ' H'=>m=zs.length-i∧i≤zs.length∧(∃σ0:St,σ0.length=k∧σ'=σ0++fr)∧Same H1 H'∧H' p=some (.lst ys)∧Paired (λz y=>R z y H') (zs.take i) ys,⟨zs.length,by simp,zero_le _,hfr,ae hp,ac,.nil⟩,?_⟩;rintro i m ys σ' H' ⟨rfl,hi,⟨σ0,hσ0,rfl⟩,s1,hl,hys⟩
 by_cases hlt:i<zs.length
 ·have hlt':i<(zs.map val).length:=by rw[length_map];exact hlt
  refine .inr ⟨S.go i H' hlt' s1,?_,λx H2 hy=>?_⟩
  ·have h1:ys.length≤zs.length:=by
    rw[hlen hys,length_take];omega
   exact lt_of_le_of_lt h1 (aE hn)
  ·obtain⟨rfl,hx⟩:=S.yl i H' x H2 hlt' s1 hy;have gz:zs[i]?=some zs[i]:=getElem?_eq_getElem hlt;have mz:=mem_of_getElem? gz;rw[getElem?_map,gz]at hx;have ex:val zs[i]=x:=Option.some.inj hx;have et:zs.take (i+1)=zs.take i++[zs[i]]:=eT gz;subst ex;generalize zs[i]=z at gz mz et⊢;refine elt z σ0 H2 _ hσ0 mz s1 ⟨ys,hl⟩ λσ2 y H5 hσ2 s5 r5=>⟨s5 _ _ hl,zs.length-(i+1),by omega,rfl,hlt,hσ2,aL hp (s1.trans s5),ac,?_⟩;rw[et];exact Paired.snoc (grow ((Ext.of s5).trans Ext.upd) hys) (hR _ _ _ _ r5 Ext.upd)
 ·have e:i=zs.length:=by omega
  subst e;have st:=S.stop H' s1;rw[length_map]at st;refine .inl ⟨st,fin ys H' s1 hl ?_⟩;rw[take_length]at hys;exact hys
end L2
namespace TK
open PySem L2
instance decNd:DecidableEq (TW.Nd Str):=λa b=>Classical.propDecidable _
abbrev Row:=TW.Row Str
def ig(H:Hp)(v:V)(o:Option Nd):Prop:=(v=.non∧o=none)∨∃q n,v=.ref q∧H q=some (.tup (aV n))∧o=some n
theorem ig.same{H H':Hp}{v:V}{o:Option Nd}(h:ig H v o)(s:Same H H'):ig H' v o:=by
 rcases h with h|⟨q,n,e,h,e2⟩
 ·exact .inl h
 ·exact .inr ⟨q,n,e,s _ _ h,e2⟩
theorem jO(n:Nd):∀v∈aV n,dR v=true:=λv hv=>by
 unfold aV at hv;simp only[mem_cons,not_mem_nil,or_false]at hv;rcases hv with rfl|rfl|rfl
 ·rfl
 ·rfl
 ·cases n.st<;>rfl
theorem ig.ot{H:Hp}{v:V}{o:Option Nd}(h:ig H v o):OT H v (o.map aV):=by
 rcases h with⟨e,e2⟩|⟨q,n,e,h,e2⟩
 ·exact .inl ⟨e,by rw[e2];rfl⟩
 ·exact .inr ⟨q,aV n,e,h,by rw[e2];rfl,jO n⟩
theorem ly{a b:Nd}(h:aV a=aV b)(e:a.num=b.num):a=b:=by
 obtain⟨n1,p1,m1,s1⟩:=a;obtain⟨n2,p2,m2,s2⟩:=b;unfold aV at h;simp only[List.cons.injEq,V.int.injEq,V.str.injEq,and_true]at h;obtain⟨h1,h2,h3⟩:=h;have h4:s1=s2:=by
  cases s1<;>cases s2<;>simp_all [stV]
 simp only at e;subst e h1 h2 h4;rfl
def wG(r:Row):Prop:=(∀n,r.o=some n→n.num=r.k)∧∀n,r.n=some n→n.num=r.k
theorem wG.eq{r:Row}(h:wG r):r.o.map aV=r.n.map aV↔r.o=r.n:=by
 obtain⟨k,o,n⟩:=r;constructor
 ·intro e;cases o with
  |none=>cases n with
   |none=>rfl
   |some b=>cases e
  |some a=>cases n with
   |none=>cases e
   |some b =>
    have e2:aV a=aV b:=Option.some.inj e;exact congrArg some (ly e2 ((h.1 a rfl).trans (h.2 b rfl).symm))
 ·intro e;show o.map aV=n.map aV;have:o=n:=e;rw[this]
structure RowAt(H:Hp)(e:Addr)(r:Row):Prop where
 at':∃vo vn,H e=some (.tup [.int r.k,vo,vn])∧ig H vo r.o∧ig H vn r.n
 ok:wG r
theorem RowAt.same{H H':Hp}{e:Addr}{r:Row}(h:RowAt H e r)(s:Same H H'):RowAt H' e r:=by
 obtain⟨⟨vo,vn,h1,h2,h3⟩,hk⟩:=h;exact⟨⟨vo,vn,s _ _ h1,h2.same s,h3.same s⟩,hk⟩
abbrev ZR:=List (Addr×Row)
def jP(es:ZR):List V:=es.map λe=>V.ref e.1
def kr(es:ZR):List Row:=es.map (·.2)
structure ChgAt(H:Hp)(c:Addr)(es:ZR):Prop where
 tup:H c=some (.tup (jP es))
 at':∀e∈es,RowAt H e.1 e.2
 len:es.length≤60
theorem uI{t u:List Nd}(k:Int):wG (TW.gE t u k):=⟨λn h=>(TW.cX h).2,λn h=>(TW.cX h).2⟩
theorem Book.optV{H:Hp}{d:Addr}{as:List (Addr×(Addr×Nd))}{zs:ZN}(b:Book H d as zs)(T:TW.Tree1 (nds zs))(k:Int):∃r,cK H d (.int k) r∧ig H (r.getD .non) (TW.aZ (nds zs) k):=by
 by_cases hk:∃z∈zs,z.2.num=k
 ·obtain⟨z,hz,rfl⟩:=hk;obtain⟨q,hq1,hq2⟩:=b.get (bD T) hz;refine⟨_,hq1,?_⟩;rw[TW.pP T (aP hz) rfl];exact .inr ⟨q,z.2,rfl,hq2,rfl⟩
 ·refine⟨none,b.not λz hz e=>hk ⟨z,hz,e⟩,?_⟩;rw[TW.jN λm hm e=>?_]
  ·exact .inl ⟨rfl,rfl⟩
  ·obtain⟨z,hz,rfl⟩:=cm hm;exact hk ⟨z,hz,e⟩
theorem jQ{as:List (Addr×(Addr×Nd))}{zs:ZN}(h:as.map (·.2)=zs):(dC as).map (·.1)=((nds zs).map (·.num)).map (Sum.inl:Int→Key):=dL h
theorem oE{es:ZR}{t u:List Nd}{ns:List Int}(h:kr es=ns.map (TW.gE t u)):kr (es.filter λe=>!decide (e.2.o=e.2.n))=(ns.map (TW.gE t u)).filter λr=>decide (r.o≠r.n):=by
 rw[←h];unfold kr;rw[filter_map]
 congr 1
 apply filter_congr;intro e _;show(!decide (e.2.o=e.2.n))=decide (e.2.o≠e.2.n)
 by_cases z:e.2.o=e.2.n<;>simp[z]
theorem lz{t:List Nd}{k:Int}(h:TW.aZ t k≠none):k∈t.map (·.num):=by
 cases e:TW.aZ t k with
 |none=>exact absurd e h
 |some m =>
  obtain⟨h1,h2⟩:=TW.cX e;exact mem_map.mpr ⟨m,h1,h2⟩
end TK
namespace L2
open PySem PySem.Spec PyProof.Rows
section
variable{X:Cx}
theorem jR(hc:X.calm=true):bX X (.builtin "sorted") (λxs H Q=>∃d kvs,∃ns:List Int,xs=[.ref d]∧Rd H d (.dK kvs)∧kvs.map (·.1)=ns.map (Sum.inl:Int→Key)∧ns.Nodup∧ns.length≤60 ∧
  ∀ms:List Int,ms.Perm ns→ms.Pairwise (λa b=>a<b)→∀p,H p=none→Q (.ref p) (upd H p (.lst (ms.map V.int)))):=by
 intro pins s σ H xs us Q I r h;obtain⟨d,kvs,ns,rfl,hH,hks,hnd',h60,q⟩:=h;obtain⟨u,rfl,ru⟩:=cv r;cases ru;obtain⟨hz,hsm,vs0,rel,dd⟩:=I.dK hH;obtain⟨ep,da⟩:=dd.dictAt;have hzv:vs0.length≤sizeLine:=by rw[←rel.length];exact hz
 refine SRT.jL (κ:=oneType') (PySem.W.kdl_dict hsm) (I.ok.hd hc) da hzv λh1 tk vs hk1 hlt1 hit=>?_;have rv:ar (ns.map V.int) vs:=by
  have:=wb rel hit;have e:(kvs.map λp=>kV p.1)=ns.map V.int:=by
   have:=congrArg (List.map kV) hks;rw[map_map,map_map]at this;exact this
  rw[e]at this;simpa using this
 have hvl:vs.length=ns.length:=by rw[←rv.length,length_map]
 have gd:∀i,i<ns.length→∃t,vs.getD i Value.none=.int (ns.getD i 0) t:=λi hi=>by
  obtain⟨v,hv,r⟩:=rv.get (i:=i) (x:=.int (ns.getD i 0)) (by rw[getElem?_map,(aY (d:=(0:Int)) hi).2];rfl);obtain⟨t,rfl⟩:=r;exact⟨t,by rw[getD_eq_getElem?_getD,hv];rfl⟩
 refine⟨λi j=>decide (ns.getD i 0<ns.getD j 0),⟨λi _=>by simp,λi j k _ _ _ h1 h2=>?_,λi j hi hj hij=>?_⟩,by omega,λA' s' _ _ Q' h2 hQ=>?_,λA' s' _ _ i j C hi hj hC=>?_,λp h' hrow hup kp hg=>?_⟩
 ·simp only[decide_eq_true_eq]at *;omega
 ·simp only[decide_eq_true_eq];have:ns.getD i 0≠ns.getD j 0:=by
   rw[getD_eq_getElem?_getD,getD_eq_getElem?_getD,getElem?_eq_getElem (by omega),getElem?_eq_getElem (by omega)];exact λe=>hij ((getElem_inj hnd').mp e)
  omega
 ·rw[ksk_kind (keys:=vs.toArray) (kz:=ns) (by simpa using iQ rv) (by rw[size_toArray];omega)];exact wpAny_pure hQ
 ·obtain⟨t1,e1⟩:=gd i (by omega);obtain⟨t2,e2⟩:=gd j (by omega);rw[e1,e2];exact kat_lt_int hC
 ·obtain⟨c,hg⟩:=hg;rw[hvl]at hrow hup;have hin:∀i∈p.toList,i<ns.length:=λi hi=>mem_range.mp (hrow.perm.mem_iff.mp hi);have hperm2:(p.toList.map λi=>ns.getD i 0).Perm ns:=by
   refine(hrow.perm.map _).trans ?_;have:(List.range ns.length).map (λi=>ns.getD i 0)=ns:=by
    apply ext_getElem?;intro i;rw[getElem?_map]
    by_cases hi:i<ns.length
    ·rw[getElem?_range hi,(aY (d:=(0:Int)) hi).2];rfl
    ·rw[getElem?_eq_none (by rw[length_range];omega),getElem?_eq_none (by omega)];rfl
   rw[this]
  have hpl:p.size=ns.length:=hrow.size;have hpw:(p.toList.map λi=>ns.getD i 0).Pairwise (λa b=>a<b):=by
   rw[pairwise_iff_getElem];intro i j hi hj hij;have hi':i<p.size:=by rw[length_map,length_toList]at hi;exact hi
   have hj':j<p.size:=by rw[length_map,length_toList]at hj;exact hj
   have:=hup i j hij (by omega);simp only[]at this;rw[getD_eq_getD_getElem?,getD_eq_getD_getElem?,Array.getElem?_eq_getElem hi',Array.getElem?_eq_getElem hj']at this;simpa using this
  refine⟨.ref h1.objs.size,_,I.laid (t':=tk) (o:=.lst ((p.toList.map λi=>ns.getD i 0).map V.int)) kp (le_of_lt hlt1) ⟨?_,_,c,ia rv p.toList hin,hg⟩,rfl,q _ hperm2 hpw _ (I.hok.fresh (le_of_lt hlt1))⟩;rw[length_map,hperm2.length_eq,sizeLine_eq];omega
theorem fw(hu:X.A.units<cLine):OpR X (compareOp .NotEq) (λx y H Q=>∃a b xs,x=.ref a∧y=.ref b∧SqL X.K H a xs∧SqL X.K H b []∧Q (.bl (!decide (xs=[]))) H):=by
 intro pins s σ H x y v u Q I rx ry h;obtain⟨a,b,xs,rfl,rfl,ha,hb,q⟩:=h;cases rx;cases ry;obtain⟨its,r1,ht,_⟩:=I.list ha;obtain⟨its2,r2,hb',_⟩:=I.list hb;cases r2
 by_cases e:xs=[]
 ·subst e;cases r1;refine RcNeAt.lists (e:=λ_=>true) ht.isList hb'.isList rfl hu (λj h1 h2=>absurd h2 (by simp)) _ _ _ _ ⟨.bl _,H,I,?_,q⟩;rfl
 ·have e2:its≠[]:=λz=>e (r1.nil_iff.mp z);have e3:its.length≠0:=λz=>e2 (length_eq_zero_iff.mp z);refine RcNeAt.lists_lengths ht.isList hb'.isList (by simp[e3]) hu _ _ _ _ ⟨.bl _,H,I,?_,q⟩;show _=Value.bool _;simp[e]
end
end L2
namespace TW
section
variable{S:Type}
theorem jS{t:List (Nd S)}(T:br t){m:Nd S}(hm:m∈t):aZ t m.num=some m:=by
 cases e:aZ t m.num with
 |none =>
  have:=find?_eq_none.mp e m hm;simp at this
 |some n =>
  obtain⟨h1,h2⟩:=cX e;rw[jF T h1 hm h2]
theorem lA{t u:List (Nd S)}(ht:br t)(hu:br u)(h:∀k,aZ t k=aZ u k):t=u:=by
 have mem:∀{a b:List (Nd S)},br a→(∀k,aZ a k=aZ b k)→∀m∈a,m∈b:=λha hh m hm=>by
  have:=jS ha hm;rw[hh]at this;exact(cX this).1
 have key:∀{a b:List (Nd S)},br a→br b→(∀m,m∈a↔m∈b)→a=b:=by
  intro a
  induction a with
  |nil =>
   intro b _ _ hm;cases b with
   |nil=>rfl
   |cons y b=>exact absurd ((hm y).mpr mem_cons_self) (by simp)
  |cons x a ih =>
   intro b ha hb hm;cases b with
   |nil=>exact absurd ((hm x).mp mem_cons_self) (by simp)
   |cons y b =>
    obtain⟨a1,a2⟩:=pairwise_cons.mp ha;obtain⟨b1,b2⟩:=pairwise_cons.mp hb;have e:x=y:=by
     rcases mem_cons.mp ((hm x).mp mem_cons_self)with e|e
     ·exact e
     ·rcases mem_cons.mp ((hm y).mpr mem_cons_self)with e'|e'
      ·exact e'.symm
      ·have q1:=b1 x e;have q2:=a1 y e';omega
    subst e
    congr 1
    refine ih a2 b2 λm=>⟨λq=>?_,λq=>?_⟩
    ·rcases mem_cons.mp ((hm m).mp (mem_cons_of_mem _ q))with e|e
     ·have:=a1 m q;rw[e]at this;omega
     ·exact e
    ·rcases mem_cons.mp ((hm m).mpr (mem_cons_of_mem _ q))with e|e
     ·have:=b1 m q;rw[e]at this;omega
     ·exact e
 exact key ht hu λm=>⟨mem ht h m,mem hu (λk=>(h k).symm) m⟩
end
end TW
namespace L2
open PySem PySem.Spec PyProof.Rows
end L2
namespace TK
open PySem L2
theorem wH(o:Option Int):cQ (stV o)=true:=by cases o<;>rfl
theorem pQ(H:Hp)(n:Nd)(k:Nat):∀(i:Nat) x y,(vals n)[i]?=some x→(vals n)[i]?=some y→nX H k x y:=λi x y h1 h2=>by
 have e:x=y:=Option.some.inj (h1.symm.trans h2);subst e;refine pK ⟨rfl,?_⟩
 match i,h1 with
 |0,h=>cases h;rfl
 |1,h=>cases h;rfl
 |2,h=>cases h;rfl
 |3,h=>cases h;exact wH _
 |i+4,h=>simp[vals]at h
theorem eN{H:Hp}{us ws:ZN}(h:nds us=nds ws)(hu:At H us)(hw:At H ws):dA H (av us) (av ws):=by
 refine⟨by rw[bd,bd,←ao us,←ao ws,h],λi x y hx hy=>?_⟩;obtain⟨a,ga,rfl⟩:=cB hx;obtain⟨b,gb,rfl⟩:=cB hy;have e:a.2=b.2:=by
  have h1:(nds us)[i]?=some a.2:=by unfold nds;rw[getElem?_map,ga];rfl
  have h2:(nds ws)[i]?=some b.2:=by unfold nds;rw[getElem?_map,gb];rfl
  rw[h,h2]at h1;exact(Option.some.inj h1).symm
 refine .inr ⟨a.1,b.1,_,_,rfl,rfl,hu a (mem_of_getElem? ga),hw b (mem_of_getElem? gb),rfl,?_⟩;rw[e];exact pQ H b.2 2
end TK
namespace L2
open PySem PySem.Spec PyProof.Rows
section
variable{X:Cx}{tg:Expr}
def AW(K:PySem.W.Frag)(te:TE):TI:=λσ H R=>te σ H λv H1=>∃a,v=.ref a∧(((∃xs,SqL K H1 a xs)∧R (Itl K a) H1)∨((∃xs,SqT K H1 a xs)∧R (Itt K a) H1))
theorem yD{l:Expr}{tl:TE}(hl:PE X l tl):PI X tg l (AW X.K tl):=by
 intro pins s σ H R I h;refine thn (hl pins s σ H _ I h) λv s1 hpt=>?_;obtain⟨x,H1,I1,r1,q1⟩:=hpt;obtain⟨a,e,q1⟩:=q1;subst e;cases r1;have fin:∀b∈[s1.heap.objs.size],dc X pins H1 b:=λb hb=>by
  have e:b=s1.heap.objs.size:=by simpa using hb
  subst e;exact I1.fpOk (le_refl _) (I1.hok.fresh (le_refl _))
 rcases q1 with⟨⟨xs,hq⟩,q⟩|⟨⟨xs,hq⟩,q⟩
 ·obtain⟨its,rv,p,hz⟩:=I1.list hq;exact wpAny_pyIter_list p.isList ⟨s1.heap.objs.size,[s1.heap.objs.size],_,_,H1,rfl,I1.kept (t':=s1.toks) λb o e=>get?_push_of_some _ e,kD a _,⟨_,get?_push_size _ rfl,rfl,rfl⟩,fin,q⟩
 ·obtain⟨its,rv,p,hz⟩:=I1.tuple hq;exact wpAny_pyIter_tuple (show s1.heap.IsTuple a its.toArray from p) ⟨s1.heap.objs.size,[s1.heap.objs.size],_,_,H1,rfl,I1.kept (t':=s1.toks) λb o e=>get?_push_of_some _ e,ja a _,⟨_,get?_push_size _ rfl,rfl,rfl⟩,fin,q⟩
end
theorem wI{K:PySem.W.Frag}{a:Addr}{xs:List V}{g:TG}{tb:TS}{D:Ends}{σ:St}{H:Hp}(Pv:Nat→St→Hp→Prop)(h0:Pv 0 σ H)(hl:(∀i σ H,i≤xs.length→Pv i σ H→SqL K H a xs)∨∀i σ H,i≤xs.length→Pv i σ H→SqT K H a xs)(hs:∀i x σ H,xs[i]?=some x→Pv i σ H→g x σ H λσ2 H2=>tb {D with nx:=Pv (i+1),ct:=Pv (i+1),bk:=D.nx} σ2 H2)(hd:∀σ H,Pv xs.length σ H→D.nx σ H):
  ((∃xs,SqL K H a xs)∧∃W:Nat→Nat→St→Hp→Prop,(∃m,W 0 m σ H)∧∀i m σ H,W i m σ H →
   ((Itl K a).stop i H∧D.nx σ H)∨((Itl K a).go i H∧∃N:St→Hp→Prop,(∀σ' H',N σ' H'→∃m',m'<m∧W (i+1) m' σ' H')∧∀x H',(Itl K a).yld i H x H'→g x σ H' λσ2 H2=>tb {D with nx:=N,ct:=N,bk:=D.nx} σ2 H2)) ∨
  ((∃xs,SqT K H a xs)∧∃W:Nat→Nat→St→Hp→Prop,(∃m,W 0 m σ H)∧∀i m σ H,W i m σ H →
   ((Itt K a).stop i H∧D.nx σ H)∨((Itt K a).go i H∧∃N:St→Hp→Prop,(∀σ' H',N σ' H'→∃m',m'<m∧W (i+1) m' σ' H')∧∀x H',(Itt K a).yld i H x H'→g x σ H' λσ2 H2=>tb {D with nx:=N,ct:=N,bk:=D.nx} σ2 H2)):=by
 rcases hl with hl|hl
 ·exact .inl ⟨⟨xs,hl 0 σ H (zero_le _) h0⟩,fJ Pv h0 hl hs hd⟩
 ·exact .inr ⟨⟨xs,hl 0 σ H (zero_le _) h0⟩,vw Pv h0 hl hs hd⟩
theorem wJ{A:Around}{s:Shared}{a b:Addr}{xs ys:List V}{us ws:List Value}(r1:ar xs us)(r2:ar ys ws)(t1:s.heap.IsTuple a us.toArray)(t2:s.heap.IsTuple b ws.toArray)(hu:A.units<cLine)(fx:∀v∈xs,dR v=true)(fy:∀v∈ys,dR v=true):RcAt A s (.ref a) (.ref b) (decide (xs=ys)):=by
 have l1:=r1.length;have l2:=r2.length;have e:((List.range (min us.toArray.size ws.toArray.size)).all (λi=>decide (xs.getD i .non=ys.getD i .non))&&us.toArray.size==ws.toArray.size)=decide (xs=ys):=by
  simp only[size_toArray,←l1,←l2]
  by_cases hl:xs.length=ys.length
  ·rw[←hl,min_self,uF hl];simp
  ·have:(xs.length==ys.length)=false:=by simpa using hl
   rw[this,Bool.and_false];exact(decide_eq_false λe=>hl (by rw[e])).symm
 rw[←e];refine RcAt.tuples t1 t2 hu λj h1 h2=>?_;have h1':j<xs.length:=by rw[l1];simpa using h1
 have h2':j<ys.length:=by rw[l2];simpa using h2
 obtain⟨u',hu1,hu2⟩:=r1.get (getElem?_eq_getElem h1');obtain⟨v',hv1,hv2⟩:=r2.get (getElem?_eq_getElem h2');have e1:us.toArray[j]=u':=by
  have:us[j]?=some us.toArray[j]:=by rw[getElem?_eq_getElem (by simpa using h1)];simp
  rw[hu1]at this;exact(Option.some.inj this).symm
 have e2:ws.toArray[j]=v':=by
  have:ws[j]?=some ws.toArray[j]:=by rw[getElem?_eq_getElem (by simpa using h2)];simp
  rw[hv1]at this;exact(Option.some.inj this).symm
 rw[e1,e2,getD_eq_getElem?_getD,getD_eq_getElem?_getD,getElem?_eq_getElem h1',getElem?_eq_getElem h2'];have f1:=fx _ (getElem_mem h1');have f2:=fy _ (getElem_mem h2');show EqAt _ _ _ _ (decide (xs[j]=ys[j]));rw[←oD f1 f2];exact jg hu2 hv2 (dN f1) (dN f2)
section
variable{X:Cx}
theorem wK{ps qs:List (List V)}(hl:ps.length=qs.length):((List.range ps.length).all λi=>decide (ps.getD i []=qs.getD i []))=decide (ps=qs):=by
 rw[Bool.eq_iff_iff,all_eq_true,decide_eq_true_eq];constructor
 ·intro h;apply ext_getElem?;intro i
  by_cases hi:i<ps.length
  ·have:=h i (mem_range.mpr hi);rw[decide_eq_true_eq,getD_eq_getElem?_getD,getD_eq_getElem?_getD,getElem?_eq_getElem hi,getElem?_eq_getElem (by omega)]at this;rw[getElem?_eq_getElem hi,getElem?_eq_getElem (by omega)];exact congrArg some this
  ·rw[getElem?_eq_none (by omega),getElem?_eq_none (by omega)]
 ·intro h i hi;rw[h];simp
theorem wL(hu:X.A.units+1<cLine):OpR X (compareOp .Eq) (λx y H Q=>∃a b,∃ps qs:List (Addr×List V),x=.ref a∧y=.ref b∧H a=some (.tup (ps.map λp=>V.ref p.1))∧H b=some (.tup (qs.map λp=>V.ref p.1))∧(∀p∈ps,H p.1=some (.tup p.2)∧∀v∈p.2,dR v=true)∧(∀p∈qs,H p.1=some (.tup p.2)∧∀v∈p.2,dR v=true)∧Q (.bl (decide (ps.map (·.2)=qs.map (·.2)))) H):=by
 intro pins s σ H x y v u Q I rx ry h;obtain⟨a,b,ps,qs,rfl,rfl,ha,hb,fx,fy,q⟩:=h;have hu0:X.A.units<cLine:=by omega
 cases rx;cases ry;obtain⟨_,us,r1,t1⟩:=I.hok a _ ha;obtain⟨_,ws,r2,t2⟩:=I.hok b _ hb;have l1:=r1.length;have l2:=r2.length;rw[length_map]at l1 l2;refine eq_tupleAt (e:=λi=>decide ((ps.map (·.2)).getD i []=(qs.map (·.2)).getD i [])) t1 t2 hu0 (λj h1 h2=>?_) ⟨.bl _,H,I,rfl,?_⟩
 ·have h1':j<ps.length:=by rw[l1];simpa using h1
  have h2':j<qs.length:=by rw[l2];simpa using h2
  obtain⟨u',hu1,hu2⟩:=r1.get (i:=j) (x:=V.ref ps[j].1) (by rw[getElem?_map,getElem?_eq_getElem h1'];rfl);obtain⟨v',hv1,hv2⟩:=r2.get (i:=j) (x:=V.ref qs[j].1) (by rw[getElem?_map,getElem?_eq_getElem h2'];rfl);have e1:us.toArray[j]=u':=by
   have:us[j]?=some us.toArray[j]:=by rw[getElem?_eq_getElem (by simpa using h1)];simp
   rw[hu1]at this;exact(Option.some.inj this).symm
  have e2:ws.toArray[j]=v':=by
   have:ws[j]?=some ws.toArray[j]:=by rw[getElem?_eq_getElem (by simpa using h2)];simp
   rw[hv1]at this;exact(Option.some.inj this).symm
  cases (show u'=Value.ref ps[j].1 from hu2);cases (show v'=Value.ref qs[j].1 from hv2);rw[e1,e2,getD_eq_getElem?_getD,getD_eq_getElem?_getD,getElem?_map,getElem?_map,getElem?_eq_getElem h1',getElem?_eq_getElem h2'];show EqAt _ _ _ _ (decide (ps[j].2=qs[j].2));obtain⟨g1,f1⟩:=fx _ (getElem_mem h1');obtain⟨g2,f2⟩:=fy _ (getElem_mem h2')
  by_cases e:ps[j].1=qs[j].1
  ·have e':ps[j].2=qs[j].2:=by
    rw[e,g2]at g1;injection (Option.some.inj g1)with g1
    exact g1.symm
   rw[e',e,decide_eq_true rfl];exact EqAt.same _
  ·obtain⟨_,us',r1',t1'⟩:=I.hok _ _ g1;obtain⟨_,ws',r2',t2'⟩:=I.hok _ _ g2;exact EqAt.of_refs e (wJ r1' r2' t1' t2' (by simpa using hu) f1 f2)
 ·have e:((List.range (min us.toArray.size ws.toArray.size)).all (λi=>decide ((ps.map (·.2)).getD i []=(qs.map (·.2)).getD i []))&&us.toArray.size==ws.toArray.size)=decide (ps.map (·.2)=qs.map (·.2)):=by
   simp only[size_toArray,←l1,←l2]
   by_cases hl:ps.length=qs.length
   ·rw[←hl,min_self];have hl':(ps.map (·.2)).length=(qs.map (·.2)).length:=by rw[length_map,length_map,hl]
    have:=wK hl';rw[length_map]at this;rw[this];simp
   ·have:(ps.length==qs.length)=false:=by simpa using hl
    rw[this,Bool.and_false];exact(decide_eq_false λe=>hl (by have:=congrArg length e;rwa [length_map,length_map]at this)).symm
  rw[e];exact q
end
end L2
namespace TK
open PySem L2
section
variable{P:Program}{w:World}{K:PySem.W.Frag}{mg:Str→Option Value}{base:Heap}
def jT:Sp:=λvs H Q _=>∃t f zs,vs=[.ref t,.int f]∧(H t=some (.lst (av zs))∨H t=some (.tup (av zs)))∧At H zs∧zs.length≤100∧∀fd dn l H',TW.Walk (nds zs) f dn fd []→H' l=some (.lst (dl fd))→Same H H'→Q (.ref l) H'
theorem fz:FnScope ["nodes","folder","members","node","found","pending","here"] ["nodes","folder"] (ai yu):=fsc
theorem wM{f:Addr}{fd:FuncData}(F:Fun K "numbers_inside" "numbers_inside" yu f fd)(T:Txt mg):FnOk P w K mg base CX0 1 f fd ["nodes","folder"] jT:=by
 refine F.ok fz (λvs H Q E h=>?_) (λcdv A outer s H vs Q E hr h=>?_)
 ·obtain⟨t,f,zs,rfl,_⟩:=h;rfl
 ·obtain⟨t,f,zs,rfl,ht,hA,hl,k⟩:=h;refine⟨_,ag (aA (i:=2) fz.nd rfl (Or.inl rfl) tf)
   (ag (jb PassesOwn.never rfl (yD (pv 0)) (ap (i:=3) fz.nd rfl (Or.inl rfl)) (am (ci (iw plainAttrs_list PySem.F.slot_list_append PySem.F.type_list_append cq
     (iw plainAttrs_dict PySem.F.slot_dict_setdefault PySem.F.type_dict_setdefault kg (pv 2) (aa (aQ aG (pv 3) aj (λ_ _=>rfl)) (aa (bw af) af))) (aa (pv 3) af)))))
   (ag (aA (i:=4) fz.nd rfl (Or.inl rfl) (bw af))
   (ag (aA (i:=5) fz.nd rfl (Or.inl rfl) (bw (aa (pv 1) af)))
   (ag (iZ PassesOwn.never (sP (pv 5) (λ_=>rfl))
    (ag (aA (i:=6) fz.nd rfl (Or.inl rfl) (tq (pv 2) (xL plainAttrs_list slot_list_pop type_list_pop xM (pv 5)) (bw af) ⟨rfl,rfl,rfl,rfl⟩))
    (am (jb PassesOwn.never rfl (bJ (pv 6)) (ap (i:=3) fz.nd rfl (Or.inl rfl))
     (ag (ci (iw plainAttrs_list PySem.F.slot_list_append PySem.F.type_list_append cq (pv 4) (aa (aQ aG (pv 3) aj (λ_ _=>rfl)) af)))
     (am (cp (aI oY (aQ aG (pv 3) aj (λ_ _=>rfl)) gK (aR _)) (am (ci (iw plainAttrs_list PySem.F.slot_list_append PySem.F.type_list_append cq (pv 5) (aa (aQ aG (pv 3) aj (λ_ _=>rfl)) af)))) bf)))))))
   (am (aF (pv 4))))))),?_⟩
  refine λd hd=>?_;have z100:∀{n:Nat},n≤100→n<sizeLine:=λh=>aE (by omega);refine⟨_,rfl,t,rfl,wI (xs:=av zs) (λi σ H'=>∃L kvs on,σ=[some (.ref t),some (.int f),some (.ref d),on,none,none,none]∧Mem H H' d L kvs (zs.take i) [])
   ⟨_,_,_,rfl,Mem.start hd⟩ ?_ (λi x σ H' hx h=>?_) (λσ H' h=>?_)⟩
  ·rcases ht with ht|ht
   ·refine .inl λi σ H' _ h=>?_;obtain⟨_,_,_,_,m⟩:=h;exact SqL.of (m.same _ _ ht)
   ·refine .inr λi σ H' _ h=>?_;obtain⟨_,_,_,_,m⟩:=h;exact SqT.of (m.same _ _ ht)
  ·obtain⟨L,kvs,on,rfl,m⟩:=h;obtain⟨z,gz,rfl⟩:=cB hx;have mz:=mem_of_getElem? gz;have ez:zs.take (i+1)=zs.take i++[z]:=by rw[take_succ,gz];rfl
   have hkl:kvs.length≤100:=by have:=m.len;rw[length_take]at this;omega
   refine⟨_,rfl,.inr (.inr (.inl ⟨rfl,.inl ⟨_,m.dict⟩⟩)),_,rfl,z.1,_,_,_,rfl,rfl,SqT.of (m.same _ _ (hA z mz)),at1 z.2,zero_le _,λq hq=>?_⟩;have m':=m.grow (ae (o:=.lst []) hq);refine⟨d,kvs,.inl z.2.par,.ref q,rfl,rfl,m'.dict,z100 hkl,λv hv=>?_,λhn=>?_⟩
   ·rw[m.val]at hv
    by_cases h:z.2.par∈([]:List Int)∨ins (zs.take i) z.2.par=[]
    ·rw[if_pos h]at hv;cases hv
    ·rw[if_neg h]at hv;cases hv;have h2:ins (zs.take i) z.2.par≠[]:=λz=>h (.inr z);have a:=(m'.at' z.2.par (by simp) h2).1;refine⟨.inl ⟨rfl,_,SqL.of a⟩,_,rfl,_,_,_,rfl,rfl,a,?_,?_⟩
     ·refine z100 ?_;rw[bd];exact le_trans (Sublist.length_le (Sublist.trans filter_sublist (take_sublist _ _))) hl
     ·refine⟨L,kvs,_,rfl,?_⟩;rw[ez];exact m'.hit h2
   ·rw[m.val]at hn
    by_cases h:z.2.par∈([]:List Int)∨ins (zs.take i) z.2.par=[]
    ·have h2:ins (zs.take i) z.2.par=[]:=h.resolve_left (by simp);have hqd:q≠d:=λe=>by rw[e,m.dict]at hq;cases hq
     have a:upd (upd H' q (.lst [])) d (.dK (bY kvs (Sum.inl z.2.par:Key) (.ref q))) q=some (.lst []):=by rw[al hqd];exact ac
     refine⟨.inl ⟨rfl,_,SqL.of a⟩,_,rfl,q,[],_,rfl,rfl,a,z100 (zero_le _),?_⟩;have fr:=m.fresh (z:=z) h2 hq;rw[←ez]at fr;exact⟨_,_,_,rfl,fr⟩
    ·rw[if_neg h]at hn;cases hn
  ·obtain⟨L,kvs,on,rfl,m⟩:=h;rw[bd,take_length]at m;refine⟨zero_le _,λpf hpf=>⟨_,rfl,aW (by simp),λpp hpp=>?_⟩⟩;have m1:=(m.grow (ae (o:=.lst []) hpf)).grow (ae (o:=.lst [.int f]) hpp);have hpf0:H pf=none:=m.same.free hpf;have hne:pp≠pf:=λe=>by rw[e,ac]at hpp;cases hpp
   have hpp0:H pp=none:=by rw[al hne]at hpp;exact m.same.free hpp
   dsimp only[aJ,vt];refine jc (λσ H'=>∃L kvs dn fd pd on oh,σ=[some (.ref t),some (.int f),some (.ref d),on,some (.ref pf),some (.ref pp),oh]∧pd.length≤fd.length+1∧Mem H H' d L kvs zs dn∧TW.Walk (nds zs) f dn fd pd∧H' pf=some (.lst (dl fd))∧H' pp=some (.lst (pd.map V.int)))
    (λσ H'=>2*(zs.length-gv H' pf)+gv H' pp) ⟨L,kvs,[],[],[f],_,_,rfl,le_refl _,m1,TW.Walk.start _ _,by rw[al (symm hne),ac];rfl,ac⟩ (λσ H' h=>?_) ?_
   ·obtain⟨L,kvs,dn,fd,pd,on,oh,rfl,hpl,m,wk,ef,ep⟩:=h;refine⟨_,rfl,_,.inl ⟨_,SqL.of ep,rfl⟩,?_⟩
    by_cases hpd:pd=[]
    ·subst hpd;exact cy ⟨_,rfl,k fd dn pf H' wk ef m.same⟩
    ·obtain⟨pd',x,rfl⟩:∃pd' x,pd=pd'++[x]:=⟨pd.dropLast,pd.getLast hpd,(List.dropLast_concat_getLast hpd).symm⟩;have et:(!((pd'++[x]).map V.int).isEmpty)=true:=by simp
     rw[if_pos et];have elast:((pd'++[x]).map V.int)[((pd'++[x]).map V.int).length-1]?=some (.int x):=by simp
     have edrop:((pd'++[x]).map V.int).dropLast=pd'.map V.int:=by simp
     refine⟨_,rfl,d,rfl,.inl ⟨_,Rd.of m.dict⟩,_,rfl,.inl ⟨rfl,_,SqL.of ep⟩,pp,_,.int x,rfl,rfl,ep,elast,zero_le _,λq hq=>?_⟩;rw[edrop]at hq⊢;have m2:=(m.other (o:=.lst (pd'.map V.int)) ep hpp0).grow (ae (o:=.lst []) hq);have hqp:q≠pp:=λe=>by rw[e,ac]at hq;cases hq
     have hqf:q≠pf:=λe=>by rw[e,al (symm hne),ef]at hq;cases hq
     refine uo m2 ac λhl Hc kvs' hs m3 ehl eh hsub hkeep hnil=>?_;have df:pf≠d:=λe=>by have:=m.dict;rw[←e,ef]at this;cases this
     have dp:pp≠d:=λe=>by have:=m.dict;rw[←e,ep]at this;cases this
     have ef3:Hc pf=some (.lst (dl fd)):=by rw[hkeep pf df,al (symm hqf),al (symm hne)];exact ef
     have ep3:Hc pp=some (.lst (pd'.map V.int)):=by rw[hkeep pp dp,al (symm hqp),ac]
     have hlf:hl≠pf:=by
      by_cases h:hs=[]
      ·rw[hnil h];exact hqf
      ·exact qF ef3 ehl h
     have hlp:hl≠pp:=by
      by_cases h:hs=[]
      ·rw[hnil h];exact hqp
      ·exact qF ep3 ehl h
     have wk':=wk.turn;rw[←eh]at wk';have hlen:=wk'.len;rw[length_append,ao,ao]at hlen;rw[length_append,length_singleton]at hpl;refine⟨_,rfl,hl,rfl,⟨_,SqL.of ehl⟩,fJ (xs:=av hs) (λj σ H'=>∃on,σ=[some (.ref t),some (.int f),some (.ref d),on,some (.ref pf),some (.ref pp),some (.ref hl)]∧Mem H H' d L kvs' zs (x::dn)∧H' hl=some (.lst (av hs)) ∧
      H' pf=some (.lst (dl (fd++nds (hs.take j))))∧H' pp=some (.lst ((pd'++TW.aM (nds (hs.take j))).map V.int))) ⟨_,rfl,m3,ehl,by rw[ef3];simp[nds],by rw[ep3];simp[nds,TW.aM]⟩
      (λj σ H' _ h=>?_) (λj y σ H' hy h=>?_) (λσ H' h=>?_)⟩
     ·obtain⟨_,_,_,e,_⟩:=h;exact SqL.of e
     ·obtain⟨on,rfl,m4,e1,e2,e3⟩:=h;obtain⟨z,gz,rfl⟩:=cB hy;have mz:=hsub z (mem_of_getElem? gz);have ez:hs.take (j+1)=hs.take j++[z]:=by rw[take_succ,gz];rfl
      have l1:(dl (fd++nds (hs.take j))).length≤100:=by
       unfold dl;rw[length_map,length_map,length_append,ao,length_take];omega
      have l2:((pd'++TW.aM (nds (hs.take j))).map V.int).length≤1000:=by
       have:=TW.dk (nds (hs.take j));rw[ao,length_take]at this;rw[length_map,length_append];omega
      have g0:∀{Hx:Hp},Same H Hx→Hx z.1=some (.tup (vals z.2)):=λs=>s _ _ (hA z mz);have e4:dl (fd++nds (hs.take (j+1)))=dl (fd++nds (hs.take j))++[.int z.2.num]:=by rw[ez];simp[dl,nds]
      have m5:Mem H (upd H' pf (.lst (dl (fd++nds (hs.take j))++[.int z.2.num]))) d L kvs' zs (x::dn):=m4.other e2 hpf0;have e5:(upd H' pf (.lst (dl (fd++nds (hs.take j))++[.int z.2.num]))) hl=some (.lst (av hs)):=by rw[al hlf];exact e1
      have e6:(upd H' pf (.lst (dl (fd++nds (hs.take j))++[.int z.2.num]))) pp=some (.lst ((pd'++TW.aM (nds (hs.take j))).map V.int)):=by rw[al hne];exact e3
      refine⟨_,rfl,.inl ⟨rfl,_,SqL.of e2⟩,_,rfl,z.1,_,_,_,rfl,rfl,SqT.of (g0 m4.same),at0 z.2,pf,_,_,rfl,rfl,e2,z100 l1,?_⟩;refine⟨_,rfl,z.1,_,_,_,rfl,rfl,SqT.of (g0 m5.same),at3 z.2,rfl,_,rfl,?_⟩;cases est:z.2.st with
      |none =>
       have e7:TW.aM (nds (hs.take (j+1)))=TW.aM (nds (hs.take j))++[z.2.num]:=by rw[ez];simp[TW.aM,nds,est]
       refine iE ⟨_,rfl,.inl ⟨rfl,_,SqL.of e6⟩,_,rfl,z.1,_,_,_,rfl,rfl,SqT.of (g0 m5.same),at0 z.2,pp,_,_,rfl,rfl,e6,aE l2,?_⟩;refine⟨_,rfl,m5.other e6 hpp0,by rw[al hlp];exact e5,by rw[al (symm hne),ac,e4],?_⟩;rw[ac,e7];simp
      |some i =>
       have e7:TW.aM (nds (hs.take (j+1)))=TW.aM (nds (hs.take j)):=by rw[ez];simp[TW.aM,nds,est]
       refine cy ⟨_,rfl,m5,e5,by rw[ac,e4],?_⟩;rw[e6,e7]
     ·obtain⟨on,rfl,m4,e1,e2,e3⟩:=h;rw[bd,take_length]at e2 e3;refine⟨⟨L,kvs',x::dn,_,_,on,_,rfl,?_,m4,wk',e2,e3⟩,?_⟩
      ·have:=TW.dk (nds hs);rw[ao]at this;rw[length_append,length_append,ao];omega
      show 2*(zs.length-gv H' pf)+gv H' pp<_;rw[dB e2,dB e3,dB ef,dB ep];have:=TW.dk (nds hs);rw[ao]at this;simp only[dl,length_map,length_append,ao,length_singleton];omega
   ·rintro σ H Q Q' mo ⟨v,e,k,tv,q⟩;exact⟨v,e,k,tv,mo _ _ q⟩
def uJ:Sp:=λvs H Q _=>∃t f zs,vs=[.ref t,.int f]∧H t=some (.tup (av zs))∧At H zs∧zs.length≤100∧∀fd dn l H',TW.Walk (nds zs) f dn fd []→H' l=some (.lst (dl fd))→Same H H'→Q (.ref l) H'
theorem AX(h:Has P w K mg base 1 "numbers_inside" ["nodes","folder"] jT):Has P w K mg base 1 "numbers_inside" ["nodes","folder"] uJ:=by
 obtain⟨f,fd,G,r⟩:=h;exact⟨f,fd,G.imp λvs H Q E ⟨t,f,zs,e,ht,hA,hl,k⟩=>⟨t,f,zs,e,.inr ht,hA,hl,k⟩,r⟩
end
end TK
namespace L2
open PySem PySem.Spec PyProof.Rows
structure RoomM(k:Nat)(A:Around):Prop where
 dp:A.depth+3*k+5<recursionLimit
 un:A.units+16*k+200<cLine
theorem Room.m{k:Nat}{A:Around}(r:Room k A):RoomM k A:=⟨r.dp,r.un⟩
theorem RoomM.deeper{k:Nat}{A:Around}(r:RoomM (k+1) A)(env:Env):RoomM k (A.deeper env) :=
 ⟨by have:=r.dp;show A.depth+1+3*k+5<_;omega,by have:=r.un;show A.units+3+16*k+200<_;omega⟩
theorem RoomM.depth{k:Nat}{A:Around}(r:RoomM k A):A.depth<recursionLimit:=by have:=r.dp;omega
abbrev gF(CX:CXT)(P:Program)(w:World)(K:PySem.W.Frag)(mg:Str→Option Value)(base:Heap)(N:List Str)(qual:Str)(scope:Scope)(f:Addr)(cd:Value)(A:Around)(outer:List Env)(s:Shared)(H:Hp)(E:XK):Cx:={fM CX P w K mg base N qual scope f cd A outer s H E with calm:=false}
theorem pR{CX:CXT}{P:Program}{w:World}{K:PySem.W.Frag}{mg:Str→Option Value}{base:Heap}{N ps:List Str}{qual:Str}{scope:Scope}{f:Addr}{cd:Value}{A:Around}{outer:List Env}{s s1:Shared}{H:Hp}{E:XK}{us:List Value}{vs:List V}(S:FnScope N ps scope)(e0:Env0 P w K mg base A outer s H)(hl:vs.length=ps.length)(r:ar vs us)(x:InCallC s s.heap.objs.size (bindL (envOfC qual scope s.heap.objs.size f cd).kindOf (ps.zip us) λ_=>none) (cellsFrom (s.heap.objs.size+1) scope.names []) (bindC (envOfC qual scope s.heap.objs.size f cd).kindOf (ps.zip us) λ_=>none) s1):
  Inv (gF CX P w K mg base N qual scope f cd A outer s H E) [] (start N vs) H s1:=by
 have hpl:ps.length≤N.length:=by have:=congrArg length S.pre;rw[length_take]at this;omega
 obtain⟨h1,tk,rfl,hk⟩:=x.done;have noA:∀b:Addr,b∉(gF CX P w K mg base N qual scope f cd A outer s H E).ex:=λb z=>absurd (show b∈([]:List Addr)from z) (by simp);refine⟨⟨e0.mod,S.kind,rfl,rfl,le_refl _,λy z c h1 h2=>?_,λy hy=>?_,λy c _ h=>?_,λh=>absurd (show false=true from h) (by decide),Around.frames_deeper e0.frames,.inr ⟨rfl,rfl⟩,λb z=>absurd z (noA b),e0.bs,e0.bsz,λb _ _=>noA b,λb z=>absurd z (noA b),e0.funs,e0.frf⟩,
  rfl,e0.bare,Un.kept hk,⟨_,x.toInCall.ns,λi y v h1 h2 h3=>?_⟩,λy c h=>⟨_,x.cell y c h⟩,e0.hok.fresh (le_refl _),λy c h=>?_,λp hp=>absurd (show p∈([]:List (Addr×Obj))from hp) (by simp),e0.hok.kept hk,?_⟩
 ·exact name_of_addr x.apart (PySem.mem_of_lookup h1) (PySem.mem_of_lookup h2)
 ·have hy:scope.names.lookup y=some .cell∨scope.names.lookup y=some .free:=hy;rcases hy with hy|hy
  ·exact fR hy
  ·exact absurd rfl (S.nofree _ (PySem.mem_of_lookup hy))
 ·exact le_of_lt (x.above y c (PySem.mem_of_lookup h))
 ·have hi:i<vs.length:=by
   unfold start at h2
   by_cases hi:i<vs.length
   ·exact hi
   ·rw[List.getElem?_append_right (by simpa using hi)]at h2;rw[List.getElem?_replicate]at h2
    split at h2<;>cases h2
  have ha:vs[i]?=some v:=by
   unfold start at h2;rw[getElem?_append_left (by simpa using hi),getElem?_map]at h2;cases e:vs[i]? with
   |none=>rw[e]at h2;cases h2
   |some a=>rw[e]at h2;cases h2;rfl
  obtain⟨u,hu,rv⟩:=r.get ha;have hp:ps[i]?=some y:=by
   rw[←S.pre,List.getElem?_take_of_lt (by omega)];exact h1
  have ndP:ps.Nodup:=by rw[←S.pre];exact S.nd.sublist (take_sublist _ _)
  refine⟨u,rv,?_⟩;rcases S.par y (mem_of_getElem? hp)with k|k
  ·exact .inl ⟨k,gO ndP hp hu k⟩
  ·obtain⟨c,e⟩:=fR (n:=s.heap.objs.size+1) k;refine .inr ⟨.inl k,c,e,?_⟩;have q:=x.cell y c e;rw[gP ndP hp hu (by show scope.names.lookup y≠_;rw[k];decide)]at q;exact q
 ·exact e0.hok.fresh (le_of_lt (x.above y c (PySem.mem_of_lookup h)))
 ·unfold start;show _=N.length;rw[length_append,length_map,length_replicate];omega
section
variable{X:Cx}{CX:CXT}{k:Nat}{f C:Addr}{fd:FuncData}{ps:List Str}{sp:Sp}{dvs:List V}{ds:List Value}{E:XK}{x m:Str}{p pos apos:Pos}{e o:Expr}{es:List Expr}{ta:TE}{t:TA}
abbrev Cx.hnd(X:Cx)(pl:List (Addr×Obj))(v:Option Value):Cx:={X with pn:=pl,xe:=λ_ _=>False,A:=X.A.mark v,calm:=false}
theorem Inv.hnd{pins:List (Addr×Obj)}{σ:St}{H:Hp}{s:Shared}{v:Option Value}(I:Inv X pins σ H s):Inv (X.hnd (X.pn++pins) v) [] σ H s :=
 ⟨⟨I.ok.mod,I.ok.kind,I.ok.glob,I.ok.blt,I.ok.above,I.ok.inj,I.ok.has,I.ok.cab,λh=>absurd (show false=true from h) (by decide),I.ok.frames,I.ok.stk,I.ok.exf,I.ok.bs,I.ok.bsz,I.ok.noex,I.ok.exfs,I.ok.funs,I.ok.frf⟩,I.os,I.bare,I.base,I.loc,I.cell,I.free,I.freeC,λp hp=>I.pin p (by simpa using hp),I.hok,I.len⟩
end
end L2
namespace L2
open PySem PyProof.Rows
def cZ(X:Cx):Prop:=X.A.handled=none∨∃ea o vs,X.A.handled=some (.ref ea)∧X.s₀.heap.get? ea=some o∧o.data=.fields vs∧vs[2]?=some .none∧X.H₀ ea=none∧ea∉X.fs∧ea∉X.ex
theorem Inv.hd2{X:Cx}{pins:List (Addr×Obj)}{σ:St}{H:Hp}{s:Shared}(I:Inv X pins σ H s)(h:cZ X):X.A.handled=none∨∃ea,X.A.handled=some (.ref ea)∧cf s.heap ea∧H ea=none∧ea∉X.fs∧ea∉X.ex∧ea<X.s₀.heap.objs.size:=by
 rcases h with h|⟨ea,o,vs,h1,h2,h3,h4,h5,h6,h7⟩
 ·exact .inl h
 ·exact .inr ⟨ea,h1,⟨o,vs,I.base.keep ea o h2 h5 h6 h7,h3,h4⟩,I.base.free ea o h2 h5 h7,h6,h7,lt_size h2⟩
theorem dc.hd{X:Cx}{pins:List (Addr×Obj)}{H:Hp}{b ea:Addr}(f:dc X pins H b)(h1:ea∉X.ex)(h2:ea<X.s₀.heap.objs.size):ea≠b:=λz=>by
 rcases f.2.2.2.1 with h|h
 ·exact h1 (z ▸ h)
 ·exact absurd (lt_of_lt_of_le h2 h) (by rw[z];exact lt_irrefl _)
structure TurnH(P:Program)(w:World)(K:PySem.W.Frag)(tg:Expr)(J:It)(fp:List Addr)(it:Addr)(tn:Nat→Heap→Prop):Prop where
 mem:it∈fp
 obj:∀i h,tn i h→∀b∈fp,∃o,h.get? b=some o∧∀v,o.data≠.cell v
 keep:∀i h h',tn i h→(∀b∈fp,∀o,h.get? b=some o→h'.get? b=some o)→tn i h'
 item:∀(X:Cx),X.prog=P→X.w=w→X.K=K→∀(i:Nat)(pins:List (Addr×Obj))(s:Shared)(σ:St)(H:Hp)(E:Value→Shared→Prop),Inv X pins σ H s→(∀b∈fp,dc X pins H b)→tn i s.heap→J.go i H →
  wpAny (model P w) X.A (pyNext (.ref it)) (λr s1=>∃u,r=some u ∧
   wpAny (model P w) X.A (letOwnedTupleGo tg (.ref it) u) (λ_ s2=>∃x H',Inv X pins σ H' s2∧aH x u∧J.yld i H x H'∧tn (i+1) s2.heap∧∀b∈fp,H' b=none) E s1) E s
 done:∀(X:Cx),X.prog=P→X.w=w→X.K=K→cZ X→∀(i:Nat)(pins:List (Addr×Obj))(s:Shared)(σ:St)(H:Hp)(E:Value→Shared→Prop),Inv X pins σ H s→(∀b∈fp,dc X pins H b)→tn i s.heap→J.stop i H →
  wpAny (model P w) X.A (pyNext (.ref it)) (λr s1=>r=none∧Inv X pins σ H s1) E s
 self:∀(A:Around)(i:Nat)(s:Shared)(Q:Value→Shared→Prop)(E:Value→Shared→Prop),tn i s.heap→Q (.ref it) s→wpAny (model P w) A (pyIter (.ref it)) Q E s
theorem oF{P:Program}{w:World}{K:PySem.W.Frag}{tg:Expr}(a it:Addr):TurnH P w K tg (Itt K a) [it] it (λi h=>h.IsTupleIter it a i) where
 mem:=by simp
 obj:=λi h st b hb=>by
  have e:b=it:=by simpa using hb
  subst e;obtain⟨o,e,c,d⟩:=st;exact⟨o,e,λv z=>by rw[d]at z;cases z⟩
 keep:=λi h h' st k=>st.at λo e=>k it (by simp) o e
 item:=by
  intro X hP hw hK i pins s σ H E I hf st hg;subst hP hw hK;obtain⟨xs,x,hq,hx⟩:=hg;obtain⟨its,rv,p,hz⟩:=I.tuple hq;obtain⟨u,hu,ru⟩:=rv.get hx;obtain⟨f0,f1,f2,f3,f4,f5⟩:=hf it (by simp);refine wpAny_pyNext_tuple_item st (show s.heap.IsTuple a its.toArray from p) (x:=u) (by simpa using hu) λh' st' sb=>?_;have I1:Inv X pins σ H {s with heap:=h'}:=I.turned (t':=s.toks) (λb o hb e=>(sb.2 b hb).trans e) f0 f1 f3 f4 f5
  obtain⟨o,e,c,d⟩:=id st';exact⟨u,rfl,nr (s:={s with heap:=h'}) e c d (by decide) ⟨x,H,I1,ru,⟨rfl,λys hy=>by rw[I.tuple_inj hy hq];exact hx⟩,st',λb hb=>(hf b hb).1⟩⟩
 done:=by
  intro X hP hw hK hc i pins s σ H E I hf st hg;subst hP hw hK;obtain⟨xs,hq,hx⟩:=hg;obtain⟨its,rv,p,hz⟩:=I.tuple hq;have f:=hf it (by simp);obtain⟨f0,f1,f2,f3,f4,f5⟩:=id f;have hl:=rv.length;rcases I.hd2 hc with hh|⟨ea,hh,ha,_,_,hex,hlt⟩
  ·exact wpAny_pyNext_tuple_end hh st (show s.heap.IsTuple a its.toArray from p) (by simp;omega) λh' eb=>⟨rfl,I.turned (t':=s.toks) (λb o hb e=>eb b o hb e) f0 f1 f3 f4 f5⟩
  ·exact gf hh ha (f.hd hex hlt) st (show s.heap.IsTuple a its.toArray from p) (by simp;omega) λh' eb=>⟨rfl,I.turned (t':=s.toks) (λb o hb e=>eb b o hb e) f0 f1 f3 f4 f5⟩
 self:=λ_ _ _ _ _ st h=>wpAny_pyIter_tupleiter st h
def AY(X:Cx)(pins:List (Addr×Obj))(σ:St)(tg:Expr)(R:It→Hp→Prop)(itv:Value)(s2:Shared):Prop :=
 ∃(it:Addr) (fp:List Addr) (tn:Nat→Heap→Prop) (J:It) (H':Hp),itv=.ref it∧Inv X pins σ H' s2∧TurnH X.prog X.w X.K tg J fp it tn∧tn 0 s2.heap∧(∀b∈fp,dc X pins H' b)∧R J H'
def PIH(X:Cx)(tg iter:Expr)(wi:TI):Prop :=
 ∀(pins:List (Addr×Obj))(s:Shared)(σ:St)(H:Hp)(R:It→Hp→Prop),Inv X pins σ H s→wi σ H R →
  wpAny (model X.prog X.w) X.A (eval iter X.env) (λv s1=>wpAny (model X.prog X.w) X.A (pyIter v) (AY X pins σ tg R) X.xe s1) X.xe s
section
variable{X:Cx}{tg:Expr}
theorem gG{l:Expr}{tl:TE}(hl:PE X l tl):PIH X tg l (zA X.K tl):=by
 intro pins s σ H R I h;refine thn (hl pins s σ H _ I h) λv s1 hpt=>?_;obtain⟨x,H1,I1,r1,q1⟩:=hpt;obtain⟨a,e,⟨xs,hq⟩,q⟩:=q1;subst e;cases r1;obtain⟨its,rv,p,hz⟩:=I1.tuple hq;refine wpAny_pyIter_tuple (show s1.heap.IsTuple a its.toArray from p) ?_;refine⟨s1.heap.objs.size,[s1.heap.objs.size],_,_,H1,rfl,I1.kept (t':=s1.toks) λb o e=>get?_push_of_some _ e,oF a _,⟨_,get?_push_size _ rfl,rfl,rfl⟩,λb hb=>?_,q⟩;have e:b=s1.heap.objs.size:=by simpa using hb
 subst e;exact I1.fpOk (le_refl _) (I1.hok.fresh (le_refl _))
end
theorem cZ.lc{X:Cx}{pins:List (Addr×Obj)}{σ:St}{H:Hp}{s:Shared}{N:List Str}{scope:Scope}{cl:List (Str×Addr)}{fp:List Addr}(hc:cZ X)(I:Inv X pins σ H s)(hf:∀b∈fp,dc X pins H b):cZ (bn X N scope cl s H fp):=by
 rcases I.hd2 hc with h|⟨ea,h,⟨o,vs,e1,e2,e3⟩,h3,h4,h5,h6⟩
 ·exact .inl h
 ·refine .inr ⟨ea,o,vs,h,e1,e2,e3,h3,?_,λhb=>(hf ea hb).hd h5 h6 rfl⟩;show ea∉frs X.stack;rcases I.ok.stk with e|⟨e,ef⟩
  ·rw[e];exact h4
  ·rw[e];intro z;rw[show frs (X.env::X.outer)=X.env.locals::frs X.outer by unfold frs;rw[filterMap_cons,ef]]at z;rcases mem_cons.mp z with z|z
   ·obtain⟨m,⟨o',es,ep,g1,g2,_⟩,_⟩:=I.loc;rw[←z,e1]at g1;cases g1;rw[e2]at g2;cases g2
   ·exact h4 z
section
variable{X:Cx}{N:List Str}{scope:Scope}{cl:List (Str×Addr)}{k:Nat}{js:List Nat}
theorem uK{elt tg iter:Expr}{oc:Option Expr}{pos q:Pos}{wi:TI}{g:TG}{tc:TT}{te:TE}{use:Option (Value→Sem Unit)}{Qc:Value→Shared→Prop}{Q:VK}{pins:List (Addr×Obj)}{s:Shared}{σ:St}{H:Hp}(hc:cZ X)(L:LcOk X scope cl)(hN:N.length=k+js.length)(hj:∀(i j:Nat) x,js[i]?=some j→N[k+i]?=some x→X.N[j]?=some x∧Vis X.env.scope x∧X.env.scope.names.lookup x≠some .local∧((relabel scope X.env).names.lookup x=some .cell∨(relabel scope X.env).names.lookup x=some .free))(hi:PIH X tg iter wi)(hg:∀s H fp,PG (bn X N scope cl s H fp) tg g)(ht:∀s H fp,ocT (bn X N scope cl s H fp) oc tc)(he:∀s H fp,PE (bn X N scope cl s H fp) elt te)(hs:∀x,foldedSetIterable iter X.env x=pure x){Lw:It→Hp→Addr→Prop}(hL:∀J H1 p,Lw J H1 p→nC k js g tc te σ Q J H1 p)(I:Inv X pins σ H s)(h:wi σ H λJ H1=>∀p,H1 p=none→Lw J H1 p)(fin:∀{s0 s4:Shared} {Hx H3:Hp} {σ4:St} {fp:List Addr} {p:Addr},Inv X pins σ Hx s0→(∀b∈fp,dc X pins Hx b)→Inv (bn X N scope cl s0 Hx fp) [] σ4 H3 s4→Q (.ref p) H3→compPost (model X.prog X.w) X.A X.xe use Qc (.ref p) s0.heap.objs.size (.ok .next) s4):
  wpAny (model X.prog X.w) X.A (comprehension (.ListComp elt [⟨tg,iter,oc.toList,0⟩] scope pos) scope X.env q (newList []) false (eval iter X.env) use) Qc X.xe s:=by
 refine wpAny_comprehension_free rfl hs L.clos L.kind L.names ?_;refine thn (hi pins s σ H _ I h) λv s1 h1=>thn h1 λitv s2 h2=>?_;obtain⟨it,fp,tn,J,H2,e,I2,T,st2,f2,hW⟩:=h2;subst e;have hfp:∀b∈fp,b<s2.heap.objs.size:=λb hb=>by
  obtain⟨o,e,_⟩:=T.obj _ _ st2 b hb;exact lt_size e
 refine wpAny_newObj_type (wpAny_newFunctionEnv L.nocell (by intro y hy;simp at hy) (λh₁ hns hsb=>?_) L.kind);dsimp only at hns hsb⊢;obtain⟨W,⟨m0,w0⟩,turn⟩:=hL _ _ _ (hW s2.heap.objs.size (I2.hok.fresh (le_refl _)));have I3:Inv X pins σ (upd H2 s2.heap.objs.size (.lst [])) {s2 with heap:=s2.heap.push {cls:=.type "list",dict:=none,data:=.seq ([]:List Value).toArray}}:=I2.lnew (t':=s2.toks) .nil (zero_le _)
 generalize hA:s2.heap.push {cls:=.type "list",dict:=none,data:=.seq ([]:List Value).toArray}=hpA at hns hsb I3⊢;have hszA:hpA.objs.size=s2.heap.objs.size+1:=by rw[←hA,size_push]
 have keepA:∀b o,s2.heap.get? b=some o→hpA.get? b=some o:=λb o e=>by rw[←hA];exact get?_push_of_some _ e
 have f3:∀b∈fp,dc X pins (upd H2 s2.heap.objs.size (.lst [])) b:=λb hb=>⟨by rw[al (ne_of_lt (hfp b hb))];exact(f2 b hb).1,(f2 b hb).2⟩;have hfp3:∀b∈fp,b<hpA.objs.size:=λb hb=>by rw[hszA];exact lt_succ_of_lt (hfp b hb)
 have keep1:∀b o,hpA.get? b=some o→h₁.get? b=some o:=λb o e=>hsb.extBut b o (ne_of_lt (lt_size e)) (get?_push_of_some _ e);have J0:=nB (N:=N) (k:=k) (js:=js) (tk:=s2.toks+([]:List (Str×Value)).length) I3 L f3 hfp3 ⟨_,hns⟩ keep1 hN hj;have st1:tn 0 h₁:=T.keep _ _ _ st2 λb hb o e=>keep1 b o (keepA b o e);have stat:∀{H':Hp},(∀b∈fp,H' b=none)→∀b∈fp,dc (bn X N scope cl {s2 with heap:=hpA} (upd H2 s2.heap.objs.size (.lst [])) fp) [] H' b:=λhn b hb =>
  ⟨hn b hb,ne_of_lt (hfp3 b hb),(tw (N:=N) I3 L f3 hfp3).exfs b hb,.inl hb,λx c h=>(f3 b hb).2.2.2.2.1 x c (L.cells x c h),λp hp=>absurd (show p∈([]:List (Addr×Obj))from hp) (by simp)⟩
 have loop:codeAny (model X.prog X.w) X.A (.compLoop (.ListComp elt [⟨tg,iter,oc.toList,0⟩] scope pos) 0 (.ref it) (.ref s2.heap.objs.size) (compEnvC scope cl hpA.objs.size X.env))
   (compPost (model X.prog X.w) X.A X.xe use Qc (.ref s2.heap.objs.size) hpA.objs.size) {s2 with heap:=h₁,toks:=s2.toks+([]:List (Str×Value)).length}:=by
  refine qm (λn s'=>∃i ys σ' H',Inv (bn X N scope cl {s2 with heap:=hpA} (upd H2 s2.heap.objs.size (.lst [])) fp) [] σ' H' s'∧tn i s'.heap∧(∀b∈fp,H' b=none)∧W i n ys σ' H') ?_ m0 ⟨0,[],_,_,J0,st1,λb hb=>(f3 b hb).1,w0⟩
  rintro n s3 ⟨i,ys,σ3,H3,J3,st3,fr3,w3⟩;rcases turn i n ys σ3 H3 w3 with⟨stop,qn⟩|⟨go,hlen,step⟩
  ·refine thn (T.done (bn X N scope cl {s2 with heap:=hpA} (upd H2 s2.heap.objs.size (.lst [])) fp) rfl rfl rfl (hc.lc I3 f3) i [] s3 σ3 H3 (λ_ _=>False) J3 (stat fr3) st3 stop) λr s4 hpt=>?_
   obtain⟨hr,J4⟩:=hpt;subst hr;exact fin I3 f3 J4 qn
  ·refine thn (T.item (bn X N scope cl {s2 with heap:=hpA} (upd H2 s2.heap.objs.size (.lst [])) fp) rfl rfl rfl i [] s3 σ3 H3 (λ_ _=>False) J3 (stat fr3) st3 go) λr s4 hpt=>?_
   obtain⟨u,hr,h4⟩:=hpt;subst hr;refine thn h4 λ_ s5 hpt=>?_;obtain⟨x,H5,J5,r5,y5,st5,fr5⟩:=hpt;have J5':=J5.pinned (stat fr5) (T.obj _ _ st5);refine thn (hg _ _ _ _ s5 σ3 H5 x u _ J5' r5 (step x H5 y5)) λ_ s6 hpt=>?_;obtain⟨σ6,H6,J6,q6⟩:=hpt;refine qo (ht _ _ _) rfl J6 q6 λb s6 hpt=>?_;obtain⟨H6,J6,q6⟩:=hpt;cases b with
   |true =>
    rw[if_pos rfl]at q6⊢;refine thn (he _ _ _ _ s6 σ6 H6 _ J6 q6) λy s7 hpt=>?_;obtain⟨vy,H7,J7,r7,q7,m',hm',w7⟩:=hpt;refine thn (cq _ s7 σ6 H7 (.ref s2.heap.objs.size) [vy] _ _ (λ_ H8=>H8=upd H7 s2.heap.objs.size (.lst (ys++[vy]))) J7 rfl (.cons r7 .nil) ⟨_,ys,vy,rfl,rfl,q7,hlen,rfl⟩) λ_ s8 hpt=>?_;obtain⟨_,H8,J8,_,e8⟩:=hpt;subst e8;refine⟨m',hm',i+1,ys++[vy],σ6,_,J8.unpinned,T.keep _ _ _ st5 λb hb o e=>(J8.pin (b,o) (mem_append_right _ (mem_append_right _ (bp hb e)))).1,λb hb=>?_,w7⟩;obtain⟨o,e,d⟩:=T.obj _ _ st5 b hb;exact(J8.pin (b,o) (mem_append_right _ (mem_append_right _ (bp hb e)))).2.1
   |false =>
    rw[if_neg (by simp)]at q6⊢;obtain⟨m',hm',w7⟩:=q6;refine⟨m',hm',i+1,ys,σ6,_,J6.unpinned,T.keep _ _ _ st5 λb hb o e=>(J6.pin (b,o) (mem_append_right _ (mem_append_right _ (bp hb e)))).1,λb hb=>?_,w7⟩;obtain⟨o,e,d⟩:=T.obj _ _ st5 b hb;exact(J6.pin (b,o) (mem_append_right _ (mem_append_right _ (bp hb e)))).2.1
 exact codeAny_compStart_list loop (T.self _ 0 _ _ _ st1 loop)
theorem wN{elt tg iter:Expr}{oc:Option Expr}{pos:Pos}{wi:TI}{g:TG}{tc:TT}{te:TE}{Lw:St→VK→It→Hp→Addr→Prop}(hL:∀{σ Q} J H1 p,Lw σ Q J H1 p→nC k js g tc te σ Q J H1 p)(hc:cZ X)(L:LcOk X scope cl)(hN:N.length=k+js.length)(hj:∀(i j:Nat) x,js[i]?=some j→N[k+i]?=some x→X.N[j]?=some x∧Vis X.env.scope x∧X.env.scope.names.lookup x≠some .local∧((relabel scope X.env).names.lookup x=some .cell∨(relabel scope X.env).names.lookup x=some .free))(hi:PIH X tg iter wi)(hg:∀s H fp,PG (bn X N scope cl s H fp) tg g)(ht:∀s H fp,ocT (bn X N scope cl s H fp) oc tc)(he:∀s H fp,PE (bn X N scope cl s H fp) elt te)(hs:∀x,foldedSetIterable iter X.env x=pure x):PE X (.ListComp elt [⟨tg,iter,oc.toList,0⟩] scope pos) (λσ H Q=>wi σ H λJ H1=>∀p,H1 p=none→Lw σ Q J H1 p):=by
 intro pins s σ H Q I h;rw[eval_ListComp];exact uK hc L hN hj hi hg ht he hs hL I h λI3 f3 J4 qn=>let⟨m,hm,_⟩:=J4.loc;⟨m,hm,λh' hs'=>⟨.ref _,_,pA I3 f3 J4 hs',rfl,qn⟩⟩
theorem jU{elt tg iter:Expr}{pos:Pos}{wi:TI}{g:TG}{te:TE}(hc:cZ X)(L:LcOk X scope cl)(hN:N.length=k+js.length)(hj:∀(i j:Nat) x,js[i]?=some j→N[k+i]?=some x→X.N[j]?=some x∧Vis X.env.scope x∧X.env.scope.names.lookup x≠some .local∧((relabel scope X.env).names.lookup x=some .cell∨(relabel scope X.env).names.lookup x=some .free))(hi:PIH X tg iter wi)(hg:∀s H fp,PG (bn X N scope cl s H fp) tg g)(he:∀s H fp,PE (bn X N scope cl s H fp) elt te)(hs:∀x,foldedSetIterable iter X.env x=pure x:=by intro _;rfl):PE X (.ListComp elt [⟨tg,iter,[],0⟩] scope pos) (tLc k js wi g te):=wN (oc:=none) lR hc L hN hj hi hg (λ_ _ _ _ _ _ h=>h) he hs
end
end L2
namespace L2
open PySem PySem.Spec PyProof.Rows
section
variable{X:Cx}
end
def HdF(A:Around)(outer:List Env)(s:Shared)(H:Hp):Prop:=A.handled=none∨∃ea o vs,A.handled=some (.ref ea)∧s.heap.get? ea=some o∧o.data=.fields vs∧vs[2]?=some .none∧H ea=none∧ea∉frs outer
structure FnOkH(P:Program)(w:World)(K:PySem.W.Frag)(mg:Str→Option Value)(base:Heap)(CX:CXT)(k:Nat)(f:Addr)(fd:FuncData)(ps:List Str)(sp:Sp):Prop where
 len:∀vs H Q E,sp vs H Q E→vs.length=ps.length
 run:∀(A:Around)(outer:List Env)(s:Shared)(H:Hp)(args:Args)(us:List Value)(vs:List V)(Q:VK)(E:XK),RoomM k A→HdF A outer s H→Env0 P w K mg base A outer s H→BindsTo s fd args (ps.zip us)→ar vs us→sp vs H Q E →
  codeAny (model P w) A (.call (.ref f) args) (CR CX outer P w H s Q E) s
theorem FnOkH.ok{P:Program}{w:World}{K:PySem.W.Frag}{mg:Str→Option Value}{base:Heap}{CX:CXT}{k:Nat}{f:Addr}{fd:FuncData}{ps:List Str}{sp:Sp}(F:FnOkH P w K mg base CX k f fd ps sp):FnOk P w K mg base CX k f fd ps sp :=
 ⟨F.len,λA outer s H args us vs Q E hr e0 hb r h=>F.run A outer s H args us vs Q E hr.m (.inl hr.hd) e0 hb r h⟩
theorem yE{CX:CXT}{P:Program}{w:World}{K:PySem.W.Frag}{mg:Str→Option Value}{base:Heap}{k:Nat}{f:Addr}{name qual:Str}{params:Arguments}{body:List Stmt}{scope:Scope}{dV kV doc pm cdv ct oc:Value}{an od:Option Addr}{osl:Array (Option Value)}{N ps:List Str}{sp:Sp}(lk:K.lookup f=some ⟨oc,od,.func (fnOf name qual params body scope dV kV doc pm an cdv ct),osl⟩)(hcd:codeIn K cdv qual=true)(S:FnScope N ps scope)(len:∀vs H Q E,sp vs H Q E→vs.length=ps.length)(hbody:∀(A:Around) (outer:List Env) (s:Shared) (H:Hp) (vs:List V) (Q:VK) (E:XK),RoomM k (A.deeper (envOfC qual scope s.heap.objs.size f cdv))→cZ (gF CX P w K mg base N qual scope f cdv A outer s H E)→sp vs H Q E →
   ∃t,PSs (gF CX P w K mg base N qual scope f cdv A outer s H E) body t∧t {nx:=λ_ H'=>Q .non H',rt:=Q} (start N vs) H):
  FnOkH P w K mg base CX (k+1) f (fnOf name qual params body scope dV kV doc pm an cdv ct) ps sp:=by
 refine⟨len,λA outer s H args us vs Q E hr hd e0 hb r hsp=>?_⟩;have hc:cZ (gF CX P w K mg base N qual scope f cdv A outer s H E):=by
  rcases hd with h|⟨ea,o,vs,h1,h2,h3,h4,h5,h6⟩
  ·exact .inl h
  ·exact .inr ⟨ea,o,vs,h1,h2,h3,h4,h5,h6,λz=>absurd (show ea∈([]:List Addr)from z) (by simp)⟩
 have hl:=len _ _ _ _ hsp;have KX:K.In s.heap:=e0.mod.kin.keeps λb o e=>(e0.bs b o e).1;have lim:s.heap.NoLimit:=e0.mod.nolimit.keeps λb o e=>(e0.bs b o e).1;have hkind:∀y∈ps.zip us,scope.names.lookup y.1=some .local∨(scope.names.lookup y.1=some .cell∧((cellsFrom (s.heap.objs.size+1) scope.names []).lookup y.1).isSome=true):=λ⟨n,v⟩ hy=>by
  rcases S.par n (of_mem_zip hy).1 with q|q
  ·exact .inl q
  ·exact .inr ⟨q,cellsFrom_some _ _ _ (.inl q)⟩
 refine codeAny_call_function hr.depth (KX _ _ lk) rfl S.co S.gen rfl (codeRec_of KX hcd) (hb _ _ _ _ ?_);refine wpAny_newFunctionEnv_cells S.kind hkind λenv he s1 x=>?_;subst he;refine⟨lim.keeps x.toInCall.keep,codeAny_func ?_⟩;obtain⟨t,ht,hq⟩:=hbody A outer s H vs Q E (hr.deeper _) hc hsp;have I:Inv (gF CX P w K mg base N qual scope f cdv A outer s H E) [] (start N vs) H s1:=pR S e0 hl r x;refine wpAny_mono (ht [] s1 (start N vs) H _ I hq) (λfl s' hs=>?_) λe s' hs=>hs;have fin:∀{σ':St}{H':Hp}{v:V}{u:Value},Inv (gF CX P w K mg base N qual scope f cdv A outer s H E) [] σ' H' s'→aH v u→Q v H'→CE outer P w H s Q u s' :=
  λ{σ' H' v u} J rv q=>⟨v,H',J.os,J.bare,J.base,J.hok,rv,q⟩
 cases fl with
 |ret u =>
  obtain⟨v,σ',H',J,rv,q⟩:=hs;exact fin J rv q
 |next =>
  obtain⟨σ',H',J,q⟩:=hs;exact fin (v:=V.non) (u:=Value.none) J rfl q
 |brk =>
  obtain⟨_,_,_,q⟩:=hs;exact False.elim q
 |cont =>
  obtain⟨_,_,_,q⟩:=hs;exact False.elim q
theorem eW{P:Program}{w:World}{K:PySem.W.Frag}{mg:Str→Option Value}{base:Heap}{x qual:Str}{st:Stmt}{f:Addr}{fd:FuncData}{N ps:List Str}{k:Nat}{sp:Sp}(F:Fun K x qual st f fd)(S:FnScope N ps (ai st))(len:∀vs H Q E,sp vs H Q E→vs.length=ps.length)(hbody:∀(cdv:Value) (A:Around) (outer:List Env) (s:Shared) (H:Hp) (vs:List V) (Q:VK) (E:XK),RoomM k (A.deeper (envOfC qual (ai st) s.heap.objs.size f cdv))→cZ (gF CX0 P w K mg base N qual (ai st) f cdv A outer s H E).nox→sp vs H Q E →
   ∃t,PSs (gF CX0 P w K mg base N qual (ai st) f cdv A outer s H E).nox (bv st) t∧t {nx:=λ_ H'=>Q .non H',rt:=Q} (start N vs) H):FnOkH P w K mg base CX0 (k+1) f fd ps sp:=by
 obtain⟨oc,od,kV,doc,pm,an,cdv,ct,osl,rfl,lk,hcd⟩:=F.ex;refine yE lk hcd S len λA outer s H vs Q E hr hc hsp=>?_;obtain⟨t,h,q⟩:=hbody cdv A outer s H vs Q E hr hc hsp;exact⟨t,h.nox,q⟩
def HdY(X:Cx):Prop:=∀(pins:List (Addr×Obj))(σ:St)(H:Hp)(s:Shared),Inv X pins σ H s→HdF X.A X.stack s H
theorem Inv.noloc{X:Cx}{pins:List (Addr×Obj)}{σ:St}{H:Hp}{s:Shared}(I:Inv X pins σ H s){ea:Addr}{o:Obj}{vs:Array Value}(e1:s.heap.get? ea=some o)(e2:o.data=.fields vs)(h4:ea∉X.fs):ea∉frs X.stack:=by
 rcases I.ok.stk with e|⟨e,ef⟩
 ·rw[e];exact h4
 ·rw[e];intro z;rw[show frs (X.env::X.outer)=X.env.locals::frs X.outer by unfold frs;rw[filterMap_cons,ef]]at z;rcases mem_cons.mp z with z|z
  ·obtain⟨m,⟨o',es,ep,g1,g2,_⟩,_⟩:=I.loc;rw[←z,e1]at g1;cases g1;rw[e2]at g2;cases g2
  ·exact h4 z
theorem cZ.y{X:Cx}(hc:cZ X):HdY X:=λ_ _ _ _ I=>by
 rcases I.hd2 hc with h|⟨ea,h,⟨o,vs,e1,e2,e3⟩,h3,h4,_,_⟩
 ·exact .inl h
 ·exact .inr ⟨ea,o,vs,h,e1,e2,e3,h3,I.noloc e1 e2 h4⟩
theorem cZ.x{X:Cx}(hc:cZ X):HdX X:=λ_ _ _ _ I=>by
 rcases I.hd2 hc with h|⟨ea,h,h2,_⟩
 ·exact .inl h
 ·exact .inr ⟨ea,h,h2⟩
theorem HdY.pin{X:Cx}{ea:Addr}{o:Obj}{vs:Array Value}(h:X.A.handled=some (.ref ea))(hp:(ea,o)∈X.pn)(e2:o.data=.fields vs)(e3:vs[2]?=some .none):HdY X:=λ_ _ _ _ I=>by
 obtain⟨p1,p2,p3,p4,p5⟩:=I.pin (ea,o) (mem_append_left _ hp);exact .inr ⟨ea,o,vs,h,p1,e2,e3,p2,I.noloc p1 e2 p4⟩
section
variable{X:Cx}{CX:CXT}{k:Nat}{f:Addr}{fd:FuncData}{ps:List Str}{sp:Sp}{dvs:List V}{ds:List Value}{E:XK}{x:Str}{p pos:Pos}{e:Expr}{es:List Expr}{t:TA}
theorem dD(F:FnOkH X.prog X.w X.K X.mg X.base CX k f fd ps sp)(hr:RoomM k X.A)(hc:HdY X)(hg:Gl X x)(hm:X.mg x=some (.ref f))(hk:keepIn X.K (.ref f)=true)(hb:cP X.K fd ps ds)(hd:ar dvs ds)(hx:gM CX X E)(ha:PA X (e::es) t)(hdb:(x==("__debug__":Str))=false:=by decide)(he:starEach (e::es) X.env=(false,eval e X.env)::starEach es X.env:=by rfl)(hpl:(backTo pos (starEach es X.env)).any (·.1)=false:=by rfl):
  PE X (.Call (.Name x p) (e::es) [] pos) (sQ sp dvs E t):=by
 intro pins s σ H Q I h;refine wpAny_Call_Name_kw (fE I hg hm ?_ hdb);refine callWith_K (h₀:=X.base) I.ok.mod.kin hk (thn (ha pos pins s σ H _ I h) λus s1 ⟨vs,H1,I1,r,q⟩=>⟨I1.kIn,?_⟩) he hpl;have r2:ar (vs++dvs) (us++ds):=r.append hd;have hl:(us++ds).length=ps.length:=by rw[←r2.length];exact F.len _ _ _ _ q
 refine wpAny_call (codeAny_mono (F.run X.A X.stack s1 H1 ⟨us,[]⟩ (us++ds) (vs++dvs) Q E hr (hc _ _ _ _ I1) I1.env0 (hb s1 us I1.kIn hl) r2 q) λr s' hq=>?_);cases r with
 |error e=>exact hx _ σ H1 s1 e s' I1 hq
 |ok fl =>
  cases fl with
  |ret u=>exact I1.after hq
  |next=>exact False.elim hq
  |brk=>exact False.elim hq
  |cont=>exact False.elim hq
end
end L2
namespace TK
open PySem L2
def ku(P:Program)(w:World)(K:PySem.W.Frag)(mg:Str→Option Value)(base:Heap)(k:Nat)(x:Str)(ps:List Str)(sp:Sp):Prop:=∃f fd,FnOkH P w K mg base CX0 k f fd ps sp∧mg x=some (.ref f)∧keepIn K (.ref f)=true∧cP K fd ps []
end TK
namespace L2
open PySem PySem.Spec PyProof.Rows
theorem pS{A:Around}{k:Nat}(hr:RoomM k A):A.units+1<cLine:=by have:=hr.un;omega
theorem wO{A:Around}{k:Nat}(hr:RoomM k A):A.units+4<cLine:=by have:=hr.un;omega
end L2
namespace TK
open PySem L2
section
variable{P:Program}{w:World}{K:PySem.W.Frag}{mg:Str→Option Value}{base:Heap}
def eO:Sp:=λvs H Q _=>∃t zs,vs=[.ref t]∧H t=some (.tup (av zs))∧At H zs∧zs.length≤100∧((nds zs).map (·.num)).Nodup∧∀d H',Same H H'→jH H' d zs→Q (.ref d) H'
theorem Aa:FnScope ["tree"] ["tree"] (ai ww):=fsc
theorem qJ{f:Addr}{fd:FuncData}(F:Fun K "by_number" "by_number" ww f fd)(T:Txt mg):FnOkH P w K mg base CX0 1 f fd ["tree"] eO:=by
 refine eW F Aa (λvs H Q E h=>?_) (λcdv A outer s H vs Q E hr hc h=>?_)
 ·obtain⟨t,zs,rfl,_⟩:=h;rfl
 ·obtain⟨t,zs,rfl,ht,hA,hl,hnd,k⟩:=h;refine⟨_,am (aF (aD (nU hc.x) rfl T.dict boot_dict (aa (jU (N:=["node"]) (k:=1) (js:=[]) (g:=aJ 0) hc (cj rfl (by decide +kernel) (by decide +kernel) (by decide +kernel)) rfl (λi j x h=>by simp at h)
   (gG (pv 0)) (λs H fp=>ap (i:=0) (show(["node"]:List Str).Nodup by decide +kernel) rfl (Or.inl rfl) (Or.inr rfl))
   (λs H fp=>bh (aa (aQ (r:=cw K) aG (pv 0) aj (λ_ _=>rfl)) (aa (pv 0) af)))) af))),?_⟩
  refine⟨_,rfl,t,rfl,⟨_,SqT.of ht⟩,λp hp=>?_⟩;refine ml (fr:=[]) zs.length (by omega) hp rfl (λi y H'=>∃q z,zs[i]?=some z∧y=.ref q∧q≠p∧H' q=some (.tup [.int z.2.num,.ref z.1])) (λi y H1 H2 h ex=>?_) (λi H' hi s1=>?_) (λH' s1=>?_) ?_ (λi H' x H2 hi s1 hpl hy=>?_) (λys H' s1 hp' hlen hys=>?_)
  ·obtain⟨q,z,e1,e2,e3,e4⟩:=h;exact⟨q,z,e1,e2,e3,ex q _ e3 e4⟩
  ·exact⟨_,_,SqT.of (s1 _ _ ht),eJ (getElem?_eq_getElem hi)⟩
  ·exact⟨_,SqT.of (s1 _ _ ht),by rw[bd];exact le_refl _⟩
  ·rintro _ _ _ _ m ⟨v1,b1,p1,xs,i1,v2,c1,c2,c3,c4,v3,b3,hz,q⟩;exact⟨v1,b1,p1,xs,i1,v2,c1,c2,c3,c4,v3,b3,hz,λl hl=>m _ _ (q l hl)⟩
  ·obtain⟨rfl,hx⟩:=hy;obtain⟨z,gz,rfl⟩:=cB (hx _ (SqT.of (s1 _ _ ht)));have mz:=mem_of_getElem? gz;refine⟨rfl,_,rfl,z.1,_,_,_,rfl,rfl,SqT.of (s1 _ _ (hA z mz)),at0 z.2,_,rfl,le2,λq hq=>⟨ae hq,q,z,gz,rfl,ck hpl hq,ac⟩⟩
  ·obtain⟨as,e1,e2,e3⟩:=wu (g:=λz=>[.int z.2.num,.ref z.1]) hlen hys;have e4:as.length=zs.length:=by rw[←e1,length_map]
   have e5:(as.map λa=>((Sum.inl a.2.2.num:Key),V.ref a.2.1))=cN zs:=by rw[←e1];unfold cN;rw[map_map];rfl
   refine⟨p,as.map λa=>(a.1,(Sum.inl a.2.2.num:Key),V.ref a.2.1),rfl,?_,?_,?_,?_,λd o hd=>?_⟩
   ·rw[hp',e2,map_map,map_map,map_map];rfl
   ·intro z hz;obtain⟨a,ha,rfl⟩:=mem_map.mp hz;exact(e3 a ha).2
   ·rw[length_map];omega
   ·rw[map_map];have:(as.map ((λx:Addr×Key×V=>x.2.1)∘λa=>(a.1,(Sum.inl a.2.2.num:Key),V.ref a.2.1)))=((nds zs).map (·.num)).map (Sum.inl:Int→Key):=by
     rw[←e1];unfold nds;simp only[map_map];rfl
    rw[this];unfold Nodup at hnd⊢;rw[pairwise_map];exact hnd.imp λh e=>h (by injection e)
   ·refine k d _ (s1.trans (ae hd)) ⟨o,?_⟩;rw[ac,map_map];exact congrArg (λx=>some (HO.frz o (.dK x))) e5
theorem yF{f:Addr}{fd:FuncData}(F:Fun K "by_number" "by_number" ww f fd)(T:Txt mg):FnOk P w K mg base CX0 1 f fd ["tree"] eO:=(qJ F T).ok
abbrev uL(mg:Str→Option Value)(base:Heap)(C:Addr):Prop:=PyProof.Rows.OwnCls "NoNode" C bmV "ValueError.__new__" mg base
def oG(C:Addr):Sp:=λvs H Q E=>∃d k zs,vs=[.ref d,.int k]∧jH H d zs∧((nds zs).map (·.num)).Nodup∧0≤k∧k≤60∧(∀z∈zs,z.2.num=k→Q (.ref z.1) H)∧((∀z∈zs,z.2.num≠k)→E (.ref C) none H)
theorem Ab:FnScope ["nodes","number"] ["nodes","number"] (ai yv):=fsc
theorem yG{f C:Addr}{fd:FuncData}(F:Fun K "node_of" "node_of" yv f fd)(O:uL mg base C):FnOk P w K mg base (CX1 P w) 1 f fd ["nodes","number"] (oG C):=by
 refine F.okX Ab (λvs H Q E h=>?_) (λcdv A outer s H vs Q E hr h=>?_)
 ·obtain⟨d,k,zs,rfl,_⟩:=h;rfl
 ·obtain⟨d,k,zs,rfl,hd,hnd,h0,h1,q1,q2⟩:=h;refine⟨_,ag (cp (lH (kY (cr hr) (pv 1) (pv 0))) (am (nT tY O hr.hd rfl (zT (pv 1) (by decide +kernel)))) bf) (am (aF (cx (cr hr) (pv 0) (pv 1) (λ_ _=>rfl)))),?_⟩
  by_cases hk:∀z∈zs,z.2.num≠k
  ·refine⟨_,rfl,_,rfl,d,_,rfl,hd.not hk,_,rfl,?_⟩;exact iE ⟨_,rfl,k,rfl,h0,h1,λy=>⟨aW (show 1≤1000 by decide),q2 hk⟩⟩
  ·obtain⟨z,hz,e⟩:∃z∈zs,z.2.num=k:=by
    by_cases h:∃z∈zs,z.2.num=k
    ·exact h
    ·exact absurd (λz hz e=>h ⟨z,hz,e⟩) hk
   subst e;refine⟨_,rfl,_,rfl,d,_,rfl,hd.get hnd hz,_,rfl,?_⟩;exact cy ⟨_,rfl,_,rfl,d,_,rfl,hd.get hnd hz,q1 z hz rfl⟩
def qK(C:Addr):Sp:=λvs H Q E=>∃t k zs,vs=[.ref t,.int k]∧Tre H t zs∧0≤k∧k≤60 ∧
 ((k=0∨∃z∈zs,z.2.num=k)→∀(ms:List Int)(l:Addr)(H':Hp),Same H H'→ms.Pairwise (λa b:Int=>a<b)→ms.length≤zs.length→(∀x,x∈ms↔∃n∈nds zs,n.num=x∧TW.Reach (nds zs) k n)→H' l=some (.lst (ms.map V.int))→Q (.ref l) H') ∧
 (k≠0→(∀z∈zs,z.2.num≠k)→∀H',Same H H'→E (.ref C) none H')
theorem Ac:FnScope ["tree","number"] ["tree","number"] (ai yy):=fsc
theorem yH{f C:Addr}{fd:FuncData}(F:Fun K "below" "below" yy f fd)(T:Txt mg)(CB:Has P w K mg base 1 "by_number" ["tree"] eO)(CN:mv P w K mg base 1 "node_of" ["nodes","number"] (oG C))(CI:Has P w K mg base 1 "numbers_inside" ["nodes","folder"] uJ):
  FnOk P w K mg base (CX1 P w) 2 f fd ["tree","number"] (qK C):=by
 obtain⟨fB,fdB,GB,mB,kB,bB⟩:=CB;obtain⟨fN,fdN,GN,mN,kN,bN⟩:=CN;obtain⟨fI,fdI,GI,mI,kI,bI⟩:=CI;obtain⟨tt,hT⟩:=T.top;refine F.okX Ac (λvs H Q E h=>?_) (λcdv A outer s H vs Q E hr h=>?_)
 ·obtain⟨t,k,zs,rfl,_⟩:=h;rfl
 ·obtain⟨t,k,zs,rfl,tr,h0,h1,q1,q2⟩:=h;have hnd:=bD tr.tr;have hl:=tr.len;refine⟨_,ag (cp (aI iq (pv 1) (de (v:=.int 0) rfl hT ⟨_,rfl⟩) (aR _))
    (am (ci (ak (E:=E) GN hr rfl mN kN bN .nil (zQ tY) (aa (ak GB hr rfl mB kB bB .nil au (aa (pv 0) af)) (aa (pv 1) af))))) bf)
   (am (aF (aT ib rfl T.sorted boot_sorted (aa (ak GI hr rfl mI kI bI .nil au (aa (pv 0) (aa (pv 1) af))) af)))),?_⟩
  have main:∀H1,Same H H1→(k=0∨∃z∈zs,z.2.num=k)→zx (tCB (λxs H Q=>∃l,∃ns:List Int,xs=[.ref l]∧H l=some (.lst (ns.map V.int))∧ns.Nodup∧ns.length<64∧∀ms:List Int,ms.Perm ns→ms.Pairwise (λa b=>a<b)→∀p,H p=none→Q (.ref p) (upd H p (.lst (ms.map V.int))))
    (ir (sQ uJ [] E0 (ir (vq 0) (ir (vq 1) pb))) pb)) {nx:=λ_ H'=>Q .non H',rt:=Q} [some (.ref t),some (.int k)] H1:=by
   intro H1 s1 hk;refine⟨_,rfl,_,rfl,t,k,zs,rfl,s1 _ _ tr.tup,tr.nod.same s1,by omega,λfd dn l H2 wk el s2=>?_⟩;have hfl:=wk.len;rw[ao]at hfl;refine⟨l,fd.map (λn:Nd=>n.num),rfl,(show H2 l=some (.lst ((fd.map λn:Nd=>n.num).map V.int))from el),rZ tr.tr wk,by rw[length_map];omega,λms hp hs p hpn=>?_⟩;refine q1 hk ms p _ ((s1.trans s2).trans (ae hpn)) hs (by rw[hp.length_eq,length_map];exact hfl) (λx=>?_) ac;rw[hp.mem_iff,mem_map];constructor
   ·rintro⟨n,hn,e⟩;have:=(wk.mem n).mp hn;exact⟨n,this.mem,e,this⟩
   ·rintro⟨n,_,e,hr⟩;exact⟨n,(wk.mem n).mpr hr,e⟩
  refine⟨_,rfl,rfl,_,rfl,?_⟩
  by_cases hk0:k=0
  ·have:decide (V.int k=V.int 0)=true:=by simp[hk0]
   rw[this];exact cy (main H (Same.refl _) (.inl hk0))
  ·have:decide (V.int k=V.int 0)=false:=by simp[hk0]
   rw[this];refine iE ?_;refine⟨_,rfl,t,zs,rfl,tr.tup,tr.nod,by omega,hnd,λd H1 s1 nd1=>?_⟩;refine⟨_,rfl,d,k,zs,rfl,nd1,hnd,h0,h1,λz hz e=>main H1 s1 (.inr ⟨z,hz,e⟩),λhk=>q2 hk0 hk H1 s1⟩
def pT:Sp:=λvs H Q _=>∃t zs,vs=[.ref t]∧Tre H t zs∧∀d as H',Same H H'→H d=none→Book H' d as zs→H' d=some (.dK (dC as))→Q (.ref d) H'
theorem yI:FnScope ["_law_tree_here"] ["_law_tree_here"] (ai ux):=fsc
theorem wP{f:Addr}{fd:FuncData}(F:Fun K "_law_book" "_law_book" ux f fd)(T:Txt mg):FnOk P w K mg base CX0 1 f fd ["_law_tree_here"] pT:=by
 refine F.ok yI (λvs H Q E h=>?_) (λcdv A outer s H vs Q E hr h=>?_)
 ·obtain⟨t,zs,rfl,_⟩:=h;rfl
 ·obtain⟨t,zs,rfl,tr,k⟩:=h;have hnd:=bD tr.tr;have hl:=tr.len;have ht:=tr.tup;have hA:=tr.nod;refine⟨_,am (aF (aD (cu rfl) rfl T.dict boot_dict (aa (dj (N:=["_law_node"]) (k:=1) (js:=[]) (g:=aJ 0) rfl (cj rfl (by decide +kernel) (by decide +kernel) (by decide +kernel)) rfl (λi j x h=>by simp at h)
   (cM (pv 0)) (λs H fp=>ap (i:=0) (show(["_law_node"]:List Str).Nodup by decide +kernel) rfl (Or.inl rfl) (Or.inr rfl))
   (λs H fp=>bh (aa (aQ (r:=cw K) aG (pv 0) aj (λ_ _=>rfl)) (aa (cY (r:=rp K) jf (pv 0) (dh aj) eP) af)))) af))),?_⟩
  refine⟨_,rfl,t,rfl,⟨_,SqT.of ht⟩,λp hp=>?_⟩;refine ml (fr:=[]) zs.length (by omega) hp rfl (λi y H'=>∃q t' z,zs[i]?=some z∧y=.ref q∧q≠p∧t'≠p∧H' q=some (.tup [.int z.2.num,.ref t'])∧H' t'=some (.tup (aV z.2))) (λi y H1 H2 h ex=>?_) (λi H' hi s1=>?_) (λH' s1=>?_) ?_ (λi H' x H2 hi s1 hpl hy=>?_) (λys H' s1 hp' hlen hys=>?_)
  ·obtain⟨q,t',z,e1,e2,e3,e4,e5,e6⟩:=h;exact⟨q,t',z,e1,e2,e3,e4,ex q _ e3 e5,ex t' _ e4 e6⟩
  ·exact⟨_,_,SqT.of (s1 _ _ ht),eJ (getElem?_eq_getElem hi)⟩
  ·exact⟨_,SqT.of (s1 _ _ ht),by rw[bd];exact le_refl _⟩
  ·rintro _ _ _ _ m ⟨v1,b1,p1,xs,i1,v2,c1,c2,c3,c4,v3,b3,i3,d0,a3,xs3,d1,d2,d3,q⟩;refine⟨v1,b1,p1,xs,i1,v2,c1,c2,c3,c4,v3,b3,i3,d0,a3,xs3,d1,d2,d3,λl hl=>?_⟩;obtain⟨hz',q'⟩:=q l hl;exact⟨hz',λl' hl'=>m _ _ (q' l' hl')⟩
  ·obtain⟨rfl,hx⟩:=hy;obtain⟨z,gz,rfl⟩:=cB (hx _ (SqT.of (s1 _ _ ht)));have mz:=mem_of_getElem? gz;have hz1:=s1 _ _ (hA z mz);have ecut:gR (vals z.2) (some 1) none=aV z.2:=rfl;refine⟨rfl,_,rfl,z.1,_,_,_,rfl,rfl,SqT.of hz1,at0 z.2,_,rfl,_,rfl,z.1,_,rfl,SqT.of hz1,(by intro h;exact absurd h.1 (show ¬HT.sIx 4 0 (some 1)=0 by decide)),λt' ht'=>?_⟩;rw[ecut];have s2:=ae (o:=.tup (aV z.2)) ht';have hpl2:∃ys,upd H2 t' (.tup (aV z.2)) p=some (.lst ys):=let⟨ys,e⟩:=hpl;⟨ys,s2 _ _ e⟩;refine⟨le2,λq hq=>⟨s2.trans (ae hq),q,t',z,gz,rfl,ck hpl2 hq,ck hpl ht',ac,ca hq ac⟩⟩
  ·obtain⟨as,e1,e2,e3⟩:∃as:List ((Addr×Addr)×(Addr×Nd)),as.map (·.2)=zs∧ys=(as.map (·.1.1)).map V.ref∧∀a∈as,H' a.1.1=some (.tup [.int a.2.2.num,.ref a.1.2])∧H' a.1.2=some (.tup (aV a.2.2)):=by
    clear hp';have main:∀(ys:List V)(xs:ZN),ys.length=xs.length→(∀(i:Nat) y,ys[i]?=some y→∃q t' z,xs[i]?=some z∧y=.ref q∧q≠p∧t'≠p∧H' q=some (.tup [.int z.2.num,.ref t'])∧H' t'=some (.tup (aV z.2))) →
      ∃as:List ((Addr×Addr)×(Addr×Nd)),as.map (·.2)=xs∧ys=(as.map (·.1.1)).map V.ref∧∀a∈as,H' a.1.1=some (.tup [.int a.2.2.num,.ref a.1.2])∧H' a.1.2=some (.tup (aV a.2.2)):=by
     intro ys
     induction ys with
     |nil =>
      intro xs hl _;have:xs=[]:=length_eq_zero_iff.mp hl.symm;subst this;exact⟨[],rfl,rfl,by simp⟩
     |cons y ys ih =>
      intro xs hl h;cases xs with
      |nil=>simp at hl
      |cons x xs =>
       obtain⟨as,e1,e2,e3⟩:=ih xs (by simpa using hl) λi y hy=>by simpa using h (i+1) y (by simpa using hy)
       obtain⟨q,t',z,f1,f2,f3,f4,f5,f6⟩:=h 0 y rfl;have:x=z:=by simpa using f1
       subst this;refine⟨((q,t'),x)::as,by simp[e1],by simp[e2,f2],λa ha=>?_⟩;rcases mem_cons.mp ha with rfl|ha
       ·exact⟨f5,f6⟩
       ·exact e3 a ha
    exact main ys zs hlen hys
   have hal:as.length=zs.length:=by rw[←e1,length_map]
   refine⟨p,as.map λa=>(a.1.1,(Sum.inl a.2.2.num:Key),V.ref a.1.2),rfl,?_,?_,?_,?_,λd hd=>?_⟩
   ·rw[hp',e2,map_map,map_map,map_map];rfl
   ·intro z hz;obtain⟨a,ha,rfl⟩:=mem_map.mp hz;exact(e3 a ha).1
   ·rw[length_map];omega
   ·rw[map_map];have:(as.map ((λx:Addr×Key×V=>x.2.1)∘λa=>(a.1.1,(Sum.inl a.2.2.num:Key),V.ref a.1.2)))=((nds zs).map (·.num)).map (Sum.inl:Int→Key):=by
     rw[←e1];unfold nds;simp only[map_map];rfl
    rw[this];unfold Nodup at hnd⊢;rw[pairwise_map];exact hnd.imp λh e=>h (by injection e)
   ·have sd:=ae (o:=.dK ((as.map λa=>(a.1.1,(Sum.inl a.2.2.num:Key),V.ref a.1.2)).map (·.2))) hd;have ed:upd H' d (.dK ((as.map λa=>(a.1.1,(Sum.inl a.2.2.num:Key),V.ref a.1.2)).map (·.2))) d=some (.dK (dC (as.map λa=>(a.1.2,a.2)))):=by
     rw[ac];refine congrArg (λx=>some (HO.dK x)) ?_;unfold dC;simp only[map_map];rfl
    refine k d (as.map λa=>(a.1.2,a.2)) _ (s1.trans sd) (s1.free hd) ⟨.inl ed,by rw[map_map];exact e1,λa ha=>?_⟩ ed;obtain⟨b,hb,rfl⟩:=mem_map.mp ha;exact sd _ _ (e3 b hb).2
end
end TK
namespace L2
open PySem PySem.Spec PyProof.Rows
section
variable{X:Cx}
end
end L2
namespace L2
open PySem PyProof PyProof.Rows
section
variable{X:Cx}{pos:Pos}
def Ad(K:PySem.W.Frag)(te:TE)(i j:Nat):TS:=λD σ H=>te σ H λv H1=>∃a y1 y2,v=.ref a∧SqT K H1 a [y1,y2]∧D.nx ((σ.set j (some y2)).set i (some y1)) H1
theorem uM{x1 x2:Str}{p1 p2 tpos:Pos}{k:Nat}{value:Expr}{te:TE}{i j:Nat}(hc:X.calm=true)(hN:X.N.Nodup)(hi:X.N[i]?=some x1)(hj:X.N[j]?=some x2)(hx1:Loc X.env.scope x1)(hx2:Loc X.env.scope x2)(hf1:X.env.scope.names.lookup x1=some .local)(hf2:X.env.scope.names.lookup x2=some .local)(he:PE X value te)(hs:swapsWithSole [.Tuple [.Name x1 p1,.Name x2 p2] k tpos] value pos.line X.env=pure false:=by rfl)(hw:swappedStores [.Tuple [.Name x1 p1,.Name x2 p2] k tpos] value X.env=pure (some [x1,x2]):=by rfl):PS X (.Assign [.Tuple [.Name x1 p1,.Name x2 p2] k tpos] value pos) (Ad X.K te i j):=by
 intro pins s σ H D I h;refine Assign_Tuple_swapped (names:=[x1,x2]) (thn (he pins s σ H _ I h) λv s1 ⟨x,H1,I1,r1,q1⟩=>?_) hs hw;obtain⟨a,y1,y2,rfl,hq,q⟩:=q1;cases r1;obtain⟨its,rv,ht,hz⟩:=I1.tuple hq;cases rv with
 |@cons _ u1 _ _ r1 rv=>cases rv with
  |@cons _ u2 _ _ r2 rv=>cases rv with
   |nil =>
    refine unpackItems_tuple (items:=#[u1,u2]) (I1.ok.hd hc) ht λh' hx=>?_;have I2:Inv X pins σ H1 {s1 with heap:=h'}:=I1.kept (t':=s1.toks) λb o e=>hx b o (ne_of_lt (lt_size e)) e
    show wpAny _ _ (assignInOrder [bindName X.env x2,bindName X.env x1] [u2,u1]) _ _ _;refine assignInOrder_cons (wpAny_bindName (dU I2 hN hj hx2 r2 (λs2 I3=>?_) (.inr hf2)));refine assignInOrder_cons (wpAny_bindName (dU I3 hN hi hx1 r1 (λs3 I4=>?_) (.inr hf1)));exact assignInOrder_nil ⟨_,H1,I4,q⟩
end
end L2
namespace L2
open PySem PySem.Spec PyProof.Rows
section
variable{CX:CXT}{P:Program}{w:World}{K:PySem.W.Frag}{mg:Str→Option Value}{base:Heap}{k:Nat}{f c:Addr}{name qual:Str}{params:Arguments}{body:Expr}{scope:Scope}{cl:List (Str×Addr)}{pm ctv:Value}{ps fs:List Str}{fv:List V}{sp:Sp}
end
section
variable{X:Cx}{pins:List (Addr×Obj)}{σ:St}{H:Hp}{s:Shared}
end
section
variable{CX:CXT}{P:Program}{w:World}{K:PySem.W.Frag}{mg:Str→Option Value}{base:Heap}{k:Nat}{f c:Addr}{name qual:Str}{params:Arguments}{body:Expr}{scope:Scope}{cl:List (Str×Addr)}{pm ctv:Value}{ps fs:List Str}{fv:List V}{sp:Sp}
end
section
variable{P:Program}{w:World}{H:Hp}{fs:List Addr}{s s1:Shared}
variable{K:PySem.W.Frag}{mg:Str→Option Value}{base:Heap}{A:Around}{outer:List Env}{k:Nat}{f:Addr}{fd:FuncData}{y:Str}{spK:Sp}{key:V→Str}
end
section
variable{X:Cx}
end
section
variable{P:Program}{w:World}{H:Hp}{s s1:Shared}{K:PySem.W.Frag}{mg:Str→Option Value}{base:Heap}{A:Around}{outer:List Env}{k:Nat}{f:Addr}{fd:FuncData}{y:Str}{spK:Sp}{key:V→Int}
end
section
variable{X:Cx}{pins:List (Addr×Obj)}{σ:St}{H:Hp}{s:Shared}
theorem kx(hc:X.calm=true):bX X (.builtin "sum") (λxs H Q=>∃l,∃ns:List Int,xs=[.ref l]∧H l=some (.lst (ns.map V.int))∧Q (.int ns.sum) H):=by
 intro pins s σ H xs us Q I r h;obtain⟨l,ns,rfl,hl,q⟩:=h;obtain⟨u,rfl,ru⟩:=cv r;cases ru;obtain⟨_,its,n,rv,ho⟩:=I.hok l _ hl;have hi:=iQ rv;obtain⟨xs,hx⟩:=hi.allInts.items;have hl':s.heap.IsList l (intItems xs):=hx ▸ ⟨_,ho,rfl,n,rfl⟩;refine sum_intListG (I.ok.hd hc) hl' λh' tk t' hk=>?_;have e1:ns=xs.toList.map (·.1):=by
  rw[←nums_intItems,←hx];exact(show numsOf its.toArray.toList=ns from hi.numsOf).symm
 have e2:preSum (PySem.numAt xs) xs.size=ns.sum:=by
  rw[preSum_eq,take_of_length_le (by simp),e1]
 rw[e2];exact⟨.int ns.sum,H,I.kept (t':=tk) hk,⟨t',rfl⟩,q⟩
end
end L2
namespace TW
section
variable{S:Type}[DecidableEq S]
end
section
variable{S:Type}{ns:List (Nd S)}
variable[DecidableEq S]
end
end TW
namespace TK
open PySem L2
section
variable{P:Program}{w:World}{K:PySem.W.Frag}{mg:Str→Option Value}{base:Heap}
def qL:Sp:=λvs H Q _=>∃d k zs p,vs=[.ref d,.int k]∧jH H d zs∧At H zs∧TW.Tree1 (nds zs)∧zs.length≤100∧TW.PathTo (nds zs) k p∧∀t H',Same H H'→H' t=some (.tup (p.map V.str))→Q (.ref t) H'
theorem qM:FnScope ["nodes","number","names","at"] ["nodes","number"] (ai yw):=fsc
theorem yJ{f:Addr}{fd:FuncData}(F:Fun K "path_up" "path_up" yw f fd)(T:Txt mg):FnOk P w K mg base CX0 1 f fd ["nodes","number"] qL:=by
 obtain⟨tt,hT⟩:=T.top;refine F.ok qM (λvs H Q E h=>?_) (λcdv A outer s H vs Q E hr h=>?_)
 ·obtain⟨d,k,zs,p,rfl,_⟩:=h;rfl
 ·obtain⟨d,k,zs,p,rfl,hd,hA,hTr,hl,hp,q⟩:=h;have hnd:=bD hTr;have hpl:p.length≤100:=by have:=hp.len hTr;rw[ao]at this;omega
  refine⟨_,ag (aA (i:=2) qM.nd rfl (Or.inl rfl) (bw af)) (ag (aA (i:=3) qM.nd rfl (Or.inl rfl) (pv 1))
   (ag (iZ PassesOwn.never (aI iq (pv 3) (de (v:=.int 0) rfl hT ⟨_,rfl⟩) (aR _))
    (ag (ci (iw plainAttrs_list PySem.F.slot_list_append PySem.F.type_list_append cq (pv 2) (aa (aQ aG (cx (cr hr) (pv 0) (pv 3) (λ_ _=>rfl)) aj (λ_ _=>rfl)) af)))
    (am (aA (i:=3) qM.nd rfl (Or.inl rfl) (aQ aG (cx (cr hr) (pv 0) (pv 3) (λ_ _=>rfl)) aj (λ_ _=>rfl))))))
   (am (aF (rS rfl rfl T.tuple rfl T.reversed (pv 2)))))),?_⟩
  refine⟨zero_le _,λpn hpn=>⟨_,rfl,?_⟩⟩;dsimp only[aJ,vt];refine jc (λσ H'=>∃at' q' r,σ=[some (.ref d),some (.int k),some (.ref pn),some (.int at')]∧TW.PathTo (nds zs) at' q'∧p=q'++r∧H' pn=some (.lst (r.reverse.map V.str))∧Same H H')
   (λσ H'=>p.length-gv H' pn) ⟨k,p,[],rfl,hp,by simp,ac,ae hpn⟩ (λσ H' h=>?_) ?_
  ·obtain⟨at',q',r,rfl,hq',ep,en,s1⟩:=h;refine⟨_,rfl,rfl,_,rfl,?_⟩
   by_cases h0:at'=0
   ·subst h0;have e0:q'=[]:=hq'.zero hTr rfl;subst e0;refine cy ⟨_,rfl,pn,_,rfl,en,λt ht=>q t _ (s1.trans (ae ht)) ?_⟩;rw[ac,ep,nil_append,←List.map_reverse,List.reverse_reverse]
   ·have hne:decide (V.int at'=V.int 0)=false:=by simp[h0]
    rw[hne];refine iE ?_;obtain⟨z,hz,e1,q'',e2,hq''⟩:=qG hTr hq' h0;subst e1;have hdz:=(hd.same s1).get hnd hz;have hat:=s1 _ _ (hA z hz);have hrl:r.length<100:=by
     have:=congrArg length ep;rw[e2]at this;simp at this;omega
    refine⟨_,rfl,.inl ⟨rfl,_,SqL.of en⟩,_,rfl,_,rfl,d,_,rfl,hdz,z.1,_,_,_,rfl,rfl,SqT.of hat,at2 z.2,pn,_,_,rfl,rfl,en,aE (by rw[length_map,List.length_reverse];omega),?_⟩;have hpnd:pn≠d:=λe=>by
     obtain⟨o,e'⟩:=hd.same s1;rw[←e,en]at e';cases e'
    have hpnz:z.1≠pn:=λe=>by rw[e,en]at hat;cases hat
    have s2:Same H (upd H' pn (.lst (r.reverse.map V.str++[.str z.2.nm]))):=aL hpn s1;refine⟨_,rfl,_,rfl,d,_,rfl,(hd.same s2).get hnd hz,z.1,_,_,_,rfl,rfl,SqT.of (s2 _ _ (hA z hz)),at1 z.2,?_⟩;refine⟨⟨z.2.par,q'',z.2.nm::r,rfl,hq'',by rw[ep,e2];simp,by rw[ac];simp,s2⟩,?_⟩;show p.length-gv _ pn<p.length-gv H' pn;rw[dB ac,dB en,ep,e2];simp;omega
  ·rintro σ H1 Q1 Q2 m ⟨v,e,h2,b,e3,q⟩;exact⟨v,e,h2,b,e3,m _ _ q⟩
def uN:Sp:=λvs H Q _=>∃d k as zs p,vs=[.ref d,.int k]∧Book H d as zs∧TW.Tree1 (nds zs)∧zs.length≤30∧TW.PathTo (nds zs) k p∧∀t H',Same H H'→H' t=some (.tup (p.map V.str))→Q (.ref t) H'
theorem wQ:FnScope ["_law_book_here","_law_number","_law_names"] ["_law_book_here","_law_number"] (ai pN):=fsc
theorem Ae{f:Addr}{fd:FuncData}(F:Fun K "_law_path" "_law_path" pN f fd)(T:Txt mg):FnOk P w K mg base CX0 1 f fd ["_law_book_here","_law_number"] uN:=by
 refine F.ok wQ (λvs H Q E h=>?_) (λcdv A outer s H vs Q E hr h=>?_)
 ·obtain⟨d,k,as,zs,p,rfl,_⟩:=h;rfl
 ·obtain⟨d,k,as,zs,p,rfl,bk,hTr,hl,hp,q⟩:=h;have hnd:=bD hTr;refine⟨_,ag (aA (i:=2) wQ.nd rfl (Or.inl rfl) (bw af))
   (ag (iZ PassesOwn.never (aI iq (pv 1) aj (aR _))
    (ag (aA (i:=2) wQ.nd rfl (Or.inl rfl) (aK pr (bw (aa (aQ aG (cx (cr hr) (pv 0) (pv 1) (λ_ _=>rfl)) aj (λ_ _=>rfl)) af)) (pv 2)))
    (am (aA (i:=1) wQ.nd rfl (Or.inl rfl) (aQ aG (cx (cr hr) (pv 0) (pv 1) (λ_ _=>rfl)) aj (λ_ _=>rfl))))))
   (am (aF (aD bg rfl T.tuple rfl (aa (pv 2) af))))),?_⟩
  refine⟨zero_le _,λpn hpn=>?_⟩;dsimp only[aJ,vt];refine jc (λσ H'=>∃at' q' r pn,σ=[some (.ref d),some (.int at'),some (.ref pn)]∧TW.PathTo (nds zs) at' q'∧p=q'++r∧H' pn=some (.lst (r.map V.str))∧Same H H')
   (λσ H'=>match σ with | [_,some (.int k),_]=>uu (nds zs) k | _=>0) ⟨k,p,[],pn,rfl,hp,by simp,ac,ae hpn⟩ (λσ H' h=>?_) ?_
  ·obtain⟨at',q',r,pn,rfl,hq',ep,en,s1⟩:=h;refine⟨_,rfl,rfl,_,rfl,?_⟩
   by_cases h0:at'=0
   ·subst h0;have e0:q'=[]:=hq'.zero hTr rfl;subst e0;refine cy ⟨_,rfl,pn,_,rfl,.inl ⟨SqL.of en,λt ht=>q t _ (s1.trans (ae ht)) ?_⟩⟩;rw[ac,ep,nil_append]
   ·have hne:decide (V.int at'=V.int 0)=false:=by simp[h0]
    rw[hne];refine iE ?_;obtain⟨z,hz,e1,q'',e2,hq''⟩:=qG hTr hq' h0;subst e1;obtain⟨b,hb1,hb2⟩:=(bk.same s1).get hnd hz;have hrl:r.length≤100:=by
     have h1:=hp.len hTr;have h2:=congrArg length ep;rw[ao]at h1;rw[length_append]at h2;omega
    refine⟨_,rfl,_,rfl,d,_,rfl,hb1,b,_,_,_,rfl,rfl,SqT.of hb2,AT z.2,aW (show 1≤1000 by decide),λl1 hl1=>?_⟩;have s2:=ae (o:=.lst [.str z.2.nm]) hl1;refine⟨_,rfl,l1,pn,_,_,rfl,rfl,ac,s2 _ _ en,aW (by simp;omega),λl2 hl2=>?_⟩;have s3:=s2.trans (ae (o:=.lst ([.str z.2.nm]++r.map V.str)) hl2);obtain⟨b',hb1',hb2'⟩:=(bk.same (s1.trans s3)).get hnd hz;refine⟨_,rfl,_,rfl,d,_,rfl,hb1',b',_,_,_,rfl,rfl,SqT.of hb2',AS z.2,?_⟩;refine⟨⟨z.2.par,q'',z.2.nm::r,l2,rfl,hq'',by rw[ep,e2];simp,ac,s1.trans s3⟩,?_⟩;show uu (nds zs) z.2.par<uu (nds zs) z.2.num;rw[qH hTr hq'',qH hTr hq',e2];simp
  ·rintro σ H1 Q1 Q2 m ⟨v,e,h2,b,e3,q⟩;exact⟨v,e,h2,b,e3,m _ _ q⟩
end
theorem sg{α β:Type}{g:α→β}{l:List α}(h:(l.map g).Nodup){a b:α}(ha:a∈l)(hb:b∈l)(e:g a=g b):a=b:=by
 induction l with
 |nil=>cases ha
 |cons x r ih =>
  rw[map_cons,nodup_cons]at h;rcases mem_cons.mp ha with ea|ha'<;>rcases mem_cons.mp hb with eb|hb'
  ·rw[ea,eb]
  ·exact absurd (mem_map.mpr ⟨b,hb',by rw[←e,ea]⟩) h.1
  ·exact absurd (mem_map.mpr ⟨a,ha',by rw[e,eb]⟩) h.1
  ·exact ih h.2 ha' hb'
def uO(zs:ZN):List V:=zs.map λz=>V.int z.2.num
theorem dO{α:Type}{R:α→α→Prop}(irr:∀a,¬R a a)(asy:∀a b,R a b→¬R b a):∀{l m:List α},l.Pairwise R→m.Pairwise R→(∀x,x∈l↔x∈m)→l=m
 |[],[],_,_,_=>rfl
 |[],b::m,_,_,h=>absurd ((h b).mpr mem_cons_self) (by simp)
 |a::l,[],_,_,h=>absurd ((h a).mp mem_cons_self) (by simp)
 |a::l,b::m,hl,hm,h=>by
  obtain⟨l1,l2⟩:=pairwise_cons.mp hl;obtain⟨m1,m2⟩:=pairwise_cons.mp hm;have e:a=b:=by
   rcases mem_cons.mp ((h a).mp mem_cons_self)with e|h1
   ·exact e
   ·rcases mem_cons.mp ((h b).mpr mem_cons_self)with e|h2
    ·exact e.symm
    ·exact absurd (m1 a h1) (asy _ _ (l1 b h2))
  subst e;rw[dO irr asy l2 m2 λx=>⟨λhx=>?_,λhx=>?_⟩]
  ·rcases mem_cons.mp ((h x).mp (mem_cons_of_mem _ hx))with e|h1
   ·subst e;exact absurd (l1 x hx) (irr _)
   ·exact h1
  ·rcases mem_cons.mp ((h x).mpr (mem_cons_of_mem _ hx))with e|h1
   ·subst e;exact absurd (m1 x hx) (irr _)
   ·exact h1
section
variable{P:Program}{w:World}{K:PySem.W.Frag}{mg:Str→Option Value}{base:Heap}{f:Addr}
def oH:Sp:=λvs H Q _=>∃d k zs,vs=[.ref d,.int k]∧jH H d zs∧At H zs∧((nds zs).map (·.num)).Nodup∧0≤k∧k≤60∧(k=0∨∃z∈zs,z.2.num=k∧z.2.st=none)∧Q .non H
theorem xu:FnScope ["nodes","number"] ["nodes","number"] (ai wx):=fsc
theorem yK{CN0:Addr}{fd:FuncData}(F:Fun K "check_folder" "check_folder" wx f fd)(T:Txt mg)(CN:mv P w K mg base 1 "node_of" ["nodes","number"] (oG CN0)):FnOk P w K mg base CX0 2 f fd ["nodes","number"] oH:=by
 obtain⟨fN,fdN,GN,mN,kN,bN⟩:=CN;obtain⟨tt,hT⟩:=T.top;refine F.ok xu (λvs H Q E h=>?_) (λcdv A outer s H vs Q E hr h=>?_)
 ·obtain⟨d,k,zs,rfl,_⟩:=h;rfl
 ·obtain⟨d,k,zs,rfl,hd,hA,hnd,k0,k1,hk,q⟩:=h;refine⟨_,am (cp (PW.pt (pw_and (aI iq (pv 1) (de (v:=.int 0) rfl hT ⟨_,rfl⟩) (aR _)) (pw_and1 (aI qf (aQ aG (ak GN hr rfl mN kN bN .nil qD (aa (pv 0) (aa (pv 1) af))) aj (λ_ _=>rfl)) gK (aR _))))) gL bf),?_⟩
  by_cases h0:k=0
  ·subst h0;exact⟨_,rfl,rfl,_,rfl,cy (cy q)⟩
  ·obtain⟨z,hz,e,hs⟩:=hk.resolve_left h0;refine⟨_,rfl,rfl,_,rfl,?_⟩;rw[show(!decide (V.int k=V.int 0))=true by simp[h0]];refine iE ⟨_,rfl,_,rfl,d,k,zs,rfl,hd,hnd,k0,k1,λy hy ey=>?_,λhno=>absurd e (hno z hz)⟩;have:y=z:=sg (g:=λz:Addr×Nd=>z.2.num) (by unfold nds at hnd;rw[map_map]at hnd;exact hnd) hy hz (ey.trans e.symm);subst this;refine⟨y.1,_,_,_,rfl,rfl,SqT.of (hA y hy),at3 y.2,rfl,_,rfl,?_⟩;rw[hs];exact cy q
theorem yL{A:Around}{k:Nat}(hr:Room k A):A.units+8<cLine:=lt_of_le_of_lt (Nat.add_le_add_left (by decide:8≤64) _) hr.units
structure Wl(H:Hp)(zs:ZN)(cs:List Cp):Prop where
 at':∀c∈cs,rV H c
 up:cs.Pairwise (λa b=>HT.cL a.p b.p=true)
 mem:∀p n,(∃c∈cs,c.p=p∧c.n=n)↔∃z∈zs,z.2.num=n∧TW.PathTo (nds zs) n p
structure Cps(H:Hp)(zs:ZN)(cs:List Cp):Prop where
 at':∀c∈cs,rV H c
 nums:cs.map (·.n)=(nds zs).map (·.num)
 path:∀c∈cs,TW.PathTo (nds zs) c.n c.p
theorem yM{H:Hp}{p:Addr}{zs:ZN}{ys:List V}(hlen:ys.length=zs.length)(h:∀(i:Nat) y,ys[i]?=some y→∃q t z pa,zs[i]?=some z∧y=.ref q∧q≠p∧t≠p∧H q=some (.tup [.ref t,.int z.2.num])∧H t=some (.tup (pa.map V.str))∧TW.PathTo (nds zs) z.2.num pa):
  ∃cs:List Cp,ys=cs.map (λc=>V.ref c.a)∧Cps H zs cs∧∀c∈cs,c.a≠p∧c.t≠p:=by
 have main:∀(ys:List V)(xs:ZN),ys.length=xs.length→(∀(i:Nat) y,ys[i]?=some y→∃q t z pa,xs[i]?=some z∧y=.ref q∧q≠p∧t≠p∧H q=some (.tup [.ref t,.int z.2.num])∧H t=some (.tup (pa.map V.str))∧TW.PathTo (nds zs) z.2.num pa) →
   ∃cs:List Cp,ys=cs.map (λc=>V.ref c.a)∧(∀c∈cs,rV H c∧TW.PathTo (nds zs) c.n c.p∧c.a≠p∧c.t≠p)∧cs.map (·.n)=(nds xs).map (·.num):=by
  intro ys
  induction ys with
  |nil =>
   intro xs hl _;have:xs=[]:=length_eq_zero_iff.mp hl.symm;subst this;exact⟨[],rfl,by simp,rfl⟩
  |cons y ys ih =>
   intro xs hl h;cases xs with
   |nil=>simp at hl
   |cons x xs =>
    obtain⟨cs,e1,e2,e3⟩:=ih xs (by simpa using hl) λi y hy=>by simpa using h (i+1) y (by simpa using hy)
    obtain⟨q,t,z,pa,f1,f2,f3,f4,f5,f6,f7⟩:=h 0 y rfl;have:x=z:=by simpa using f1
    subst this;refine⟨⟨q,t,pa,x.2.num⟩::cs,by simp[e1,f2],λc hc=>?_,by simp[nds]at e3⊢;exact e3⟩;rcases mem_cons.mp hc with rfl|hc
    ·exact⟨⟨f5,f6⟩,f7,f3,f4⟩
    ·exact e2 c hc
 obtain⟨cs,e1,e2,e3⟩:=main ys zs hlen h;exact⟨cs,e1,⟨λc hc=>(e2 c hc).1,e3,λc hc=>(e2 c hc).2.1⟩,λc hc=>(e2 c hc).2.2⟩
theorem Cps.paths_nd{H:Hp}{zs:ZN}{cs:List Cp}(h:Cps H zs cs)(T:TW.Tree1 (nds zs)):(cs.map (·.p)).Nodup:=by
 have hn:(cs.map (·.n)).Nodup:=by rw[h.nums];exact bD T
 unfold Nodup at hn⊢;rw[pairwise_map]at hn⊢;have hp:=h.path;clear h
 induction cs with
 |nil=>exact .nil
 |cons c cs ih =>
  rw[pairwise_cons]at hn⊢;refine⟨λd hd e=>hn.1 d hd ?_,ih hn.2 λx hx=>hp x (by simp[hx])⟩;have h1:=hp c (by simp);have h2:=hp d (by simp[hd]);rw[←e]at h2;exact h1.key T h2
theorem Cps.wl{H:Hp}{zs:ZN}{cs cs':List Cp}(h:Cps H zs cs)(T:TW.Tree1 (nds zs))(hp:cs'.Perm cs)(hs:cs'.Pairwise (λa b=>HT.cL a.p b.p=true)):Wl H zs cs':=by
 refine⟨λc hc=>h.at' c (hp.mem_iff.mp hc),hs,λp n=>?_⟩;constructor
 ·rintro⟨c,hc,rfl,rfl⟩;have hc':=hp.mem_iff.mp hc;have:c.n∈(nds zs).map (·.num):=by rw[←h.nums];exact mem_map.mpr ⟨c,hc',rfl⟩
  obtain⟨n,hn,e⟩:=mem_map.mp this;obtain⟨z,hz,rfl⟩:=mem_map.mp hn;exact⟨z,hz,e,h.path c hc'⟩
 ·rintro⟨z,hz,rfl,hpa⟩;have:z.2.num∈cs.map (·.n):=by rw[h.nums];exact mem_map.mpr ⟨z.2,mem_map.mpr ⟨z,hz,rfl⟩,rfl⟩
  obtain⟨c,hc,e⟩:=mem_map.mp this;refine⟨c,hp.mem_iff.mpr hc,?_,e⟩;have:=h.path c hc;rw[e]at this;exact this.uniq T hpa
def qO:Sp:=λvs H Q _=>∃t zs,vs=[.ref t]∧Tre H t zs∧∀cs l H',Same H H'→Wl H' zs cs→cs.length=zs.length→H' l=some (.lst (cs.map λc=>V.ref c.a))→Q (.ref l) H'
theorem xv:FnScope ["tree","nodes"] ["tree"] (ai wy):=fsc
theorem yN{f:Addr}{fd:FuncData}(F:Fun K "walked" "walked" wy f fd)(T:Txt mg)(CB:Has P w K mg base 1 "by_number" ["tree"] eO)(CU:Has P w K mg base 1 "path_up" ["nodes","number"] qL):
  FnOk P w K mg base CX0 2 f fd ["tree"] qO:=by
 obtain⟨fB,fdB,GB,mB,kB,bB⟩:=CB;obtain⟨fU,fdU,GU,mU,kU,bU⟩:=CU;refine F.ok xv (λvs H Q E h=>?_) (λcdv A outer s H vs Q E hr h=>?_)
 ·obtain⟨t,zs,rfl,_⟩:=h;rfl
 ·obtain⟨t,zs,rfl,tr,k⟩:=h;have hnd:=bD tr.tr;have hl:=tr.len;refine⟨_,ag (aA (i:=1) xv.nd rfl (Or.inr rfl) (ak GB hr rfl mB kB bB .nil au (aa (pv 0) af)))
   (am (aF (aT (iJ (yL hr)) rfl T.sorted boot_sorted (aa (dj (N:=["number","nodes"]) (cl:=[("nodes",s.heap.objs.size+1)]) (k:=1) (js:=[1]) (g:=aJ 0) rfl
     (LcOk.mk' ["nodes"] rfl rfl (by decide +kernel) (by decide +kernel) ?hcl rfl (by decide +kernel)) rfl ?hj
    (zV (pv 1)) (λs H fp=>ap (i:=0) (show(["number","nodes"]:List Str).Nodup by decide +kernel) rfl (Or.inl rfl) (Or.inr rfl))
    (λs H fp=>bh (aa (ak (X:=bn _ _ _ _ _ _ _) GU hr rfl mU kU bU .nil au (aa (pv 1) (aa (pv 0) af))) (aa (pv 0) af)))) af)))),?_⟩
  case hcl =>
   intro y hy;rcases mem_cons.mp hy with e|hy
   ·rw[e];rfl
   ·cases hy
  case hj =>
   intro i j x h1 h2
   match i,h1,h2 with
   |0,h1,h2 =>
    cases h1;cases h2;exact⟨rfl,Or.inr (Or.inl rfl),(show((ai wy).names.lookup ("nodes":Str)≠some NameKind.local)by decide +kernel),by first|exact Or.inl rfl|exact Or.inr rfl⟩
   |i+1,h1,h2=>simp at h1
  refine⟨_,rfl,t,zs,rfl,tr.tup,tr.nod,by omega,hnd,λd H1 s1 nd1=>?_⟩;obtain⟨o,ho⟩:=id nd1;have tr1:=tr.same s1;refine⟨_,rfl,d,o,_,rfl,ho,λp hp=>?_⟩;refine ml (fr:=[some (.ref d)]) zs.length (by omega) hp rfl (λi y H'=>∃q t z pa,zs[i]?=some z∧y=.ref q∧q≠p∧t≠p∧H' q=some (.tup [.ref t,.int z.2.num])∧H' t=some (.tup (pa.map V.str))∧TW.PathTo (nds zs) z.2.num pa) (λi y H1 H2 h ex=>?_) (λi H' hi s2=>?_) (λH' s2=>?_) ?_ (λi H' x H2 hi s2 hpl hy=>?_) (λys H' s2 hp' hlen hys=>?_)
  ·obtain⟨q,t,z,pa,e1,e2,e3,e4,e5,e6,e7⟩:=h;exact⟨q,t,z,pa,e1,e2,e3,e4,ex q _ e3 e5,ex t _ e4 e6,e7⟩
  ·exact⟨s2 _ _ ho,by simpa [cN]using hi⟩
  ·exact⟨s2 _ _ ho,by simp[cN]⟩
  ·rintro _ _ _ _ m ⟨v1,b1,v2,b2,d',k',zs',pa,c1,c2,c3,c4,c5,c6,q⟩;refine⟨v1,b1,v2,b2,d',k',zs',pa,c1,c2,c3,c4,c5,c6,λt' H' st ht=>?_⟩;obtain⟨v3,b3,hz,q'⟩:=q t' H' st ht;exact⟨v3,b3,hz,λl hl=>m _ _ (q' l hl)⟩
  ·obtain⟨rfl,hx⟩:=hy;have gz:zs[i]?=some zs[i]:=getElem?_eq_getElem hi;have ex:x=.int zs[i].2.num:=by
    unfold cN at hx;rw[getElem?_map,getElem?_map,gz]at hx;exact(Option.some.inj hx).symm
   subst ex;have mz:=mem_of_getElem? gz;generalize zs[i]=z at gz mz⊢;obtain⟨pa,hpa⟩:=TW.PathTo.ex tr.tr (mem_map.mpr ⟨z,mz,rfl⟩:z.2∈nds zs);have s12:=s1.trans s2;refine⟨rfl,_,rfl,_,rfl,d,_,zs,pa,rfl,nd1.same s2,tr.nod.same s12,tr.tr,by omega,hpa,λt' H4 s4 ht'=>?_⟩;have hpl4:∃ys,H4 p=some (.lst ys):=let⟨ys,e⟩:=hpl;⟨ys,s4 _ _ e⟩;have htp:t'≠p:=λe=>by obtain⟨ys,e'⟩:=hpl4;rw[←e,ht']at e';cases e'
   refine⟨_,rfl,le2,λq hq=>⟨s4.trans (ae hq),q,t',z,pa,gz,rfl,ck hpl4 hq,htp,ac,ca hq ht',hpa⟩⟩
  ·obtain⟨cs,e1,e2,e3⟩:=yM (p:=p) hlen hys;subst e1;have hcl:cs.length=zs.length:=by rw[←hlen,length_map]
   refine⟨p,cs,rfl,hp',e2.at',e2.paths_nd tr.tr,by omega,λcs' hpm hup q hq=>?_⟩;have s3:=ae (o:=.lst (cs'.map λc=>V.ref c.a)) hq;have wl:=e2.wl tr.tr hpm hup;refine k cs' q _ ((s1.trans s2).trans s3) ⟨λc hc=>?_,wl.up,wl.mem⟩ (hpm.length_eq.trans hcl) ac;obtain⟨g1,g2⟩:=wl.at' c hc;exact⟨s3 _ _ g1,s3 _ _ g2⟩
end
end TK
namespace TW
end TW
namespace TK
open PySem L2
def isF(z:Addr×Nd):Bool:=z.2.st.isSome
def nums(zs:ZN):List Int:=zs.map λz=>z.2.num
theorem uP(zs:ZN):(nums zs).length=zs.length:=length_map _
theorem pU(zs:ZN):uO zs=(nums zs).map V.int:=by unfold uO nums;rw[map_map];rfl
theorem yO{z:Addr×Nd}(h:isF z=true):∃i,z.2.st=some i:=by
 unfold isF at h;cases e:z.2.st with
 |none=>rw[e]at h;cases h
 |some i=>exact⟨i,rfl⟩
theorem Af(ms:List Int):(ms.map V.int).all cQ=true:=by
 rw[all_eq_true];intro x hx;obtain⟨k,_,rfl⟩:=mem_map.mp hx;rfl
theorem yP{l m:List Int}(hl:l.Pairwise λa b:Int=>a<b)(hm:m.Pairwise λa b:Int=>a<b)(h:∀x,x∈l↔x∈m):l=m:=dO (R:=λa b:Int=>a<b) (λa=>Int.lt_irrefl a) (λa b h1 h2=>by omega) hl hm h
def isB(zs:ZN)(k:Int)(z:Addr×Nd):Bool:=@decide (TW.Reach (nds zs) k z.2) (Classical.propDecidable _)
theorem iU{zs:ZN}{k:Int}{z:Addr×Nd}:isB zs k z=true↔TW.Reach (nds zs) k z.2:=@decide_eq_true_iff _ (Classical.propDecidable _)
theorem uQ{zs:ZN}(T:TW.Tree1 (nds zs))(g:Addr×Nd→Bool):(nums (zs.filter g)).Pairwise λa b:Int=>a<b:=by
 have:=T.rise;unfold TW.br nds at this;unfold nums;rw[pairwise_map]at this⊢;exact this.sublist filter_sublist
def bel(zs:ZN)(k:Int):ZN:=zs.filter (isB zs k)
theorem mJ{zs:ZN}{k:Int}{z:Addr×Nd}(h:z∈bel zs k):z∈zs:=(mem_filter.mp h).1
theorem mM(zs:ZN)(k:Int):(bel zs k).length≤zs.length:=length_filter_le _ _
theorem wR{zs:ZN}(T:TW.Tree1 (nds zs)){k:Int}{ms:List Int}(hu:ms.Pairwise λa b:Int=>a<b)(hm:∀x,x∈ms↔∃n∈nds zs,n.num=x∧TW.Reach (nds zs) k n):ms=nums (bel zs k) :=
 yP hu (uQ T _) λx=>by
  rw[hm];unfold nums bel;rw[mem_map];constructor
  ·rintro⟨n,hn,e,hr⟩;obtain⟨z,hz,rfl⟩:=cm hn;exact⟨z,mem_filter.mpr ⟨hz,iU.mpr hr⟩,e⟩
  ·rintro⟨z,hz,e⟩;have:=mem_filter.mp hz;exact⟨z.2,aP this.1,e,iU.mp this.2⟩
def sts(zs:ZN)(k:Int):List Int:=((bel zs k).filter isF).map λz=>z.2.st.getD 0
def sh(zs:ZN)(k:Int):List V:=[.int (((bel zs k).length:Int)-((sts zs k).length:Int)),.int ((sts zs k).length:Int),.int (sts zs k).sum]
def ik(zs:ZN)(k:Int):Prop:=k=0∨∃z∈zs,z.2.num=k∧z.2.st=none
section
variable{P:Program}{w:World}{K:PySem.W.Frag}{mg:Str→Option Value}{base:Heap}{f:Addr}
def oJ:Sp:=λvs H Q _=>∃t k zs,vs=[.ref t,.int k]∧Tre H t zs∧0≤k∧k≤60∧ik zs k∧∀t' H',Same H H'→H' t'=some (.tup (sh zs k))→Q (.ref t') H'
theorem qP:FnScope ["tree","number","nodes","stamps","of_files"] ["tree","number"] (ai iT):=fsc
theorem yQ{CN0:Addr}{fd:FuncData}(F:Fun K "total" "total" iT f fd)(T:Txt mg)(CB:Has P w K mg base 1 "by_number" ["tree"] eO)(CF:Has P w K mg base 2 "check_folder" ["nodes","number"] oH)(CL:mv P w K mg base 2 "below" ["tree","number"] (qK CN0)):FnOk P w K mg base CX0 3 f fd ["tree","number"] oJ:=by
 obtain⟨fB,fdB,GB,mB,kB,bB⟩:=CB;obtain⟨fF,fdF,GF,mF,kF,bF⟩:=CF;obtain⟨fL,fdL,GL,mL,kL,bL⟩:=CL;refine F.ok qP (λvs H Q E h=>?_) (λcdv A outer s H vs Q E hr h=>?_)
 ·obtain⟨t,k,zs,rfl,_⟩:=h;rfl
 ·obtain⟨t,k,zs,rfl,tr,k0,k1,hk,q⟩:=h;have hr1:Room 1 _:=hr.mono (by decide);refine⟨_,ag (aA (i:=2) qP.nd rfl (Or.inr rfl) (ak GB hr1 rfl mB kB bB .nil au (aa (pv 0) af)))
   (ag (ci (ak GF hr rfl mF kF bF .nil au (aa (pv 2) (aa (pv 1) af))))
   (ag (nZ (ii:=3) (N:=["inner","nodes"]) (cl:=[("nodes",s.heap.objs.size+1)]) (k:=1) (js:=[2]) (g:=aJ 0) qP.nd rfl (Or.inl rfl) rfl
    (LcOk.mk' ["nodes"] rfl rfl (by decide +kernel) (by decide +kernel) ?hcl rfl (by decide +kernel)) rfl ?hj (bJ (ak GL hr rfl mL kL bL .nil qD (aa (pv 0) (aa (pv 1) af)))) (λs H fp=>ap (i:=0) (show(["inner","nodes"]:List Str).Nodup by decide +kernel) rfl (Or.inl rfl) (Or.inr rfl))
    (λs H fp=>aQ (r:=cw K) aG (cx (cr hr) (pv 1) (pv 0) (λ_ _=>rfl)) aj (λ_ _=>rfl)))
   (ag (lr (ii:=4) (N:=["stamp"]) (cl:=[]) (k:=1) (js:=[]) (g:=aJ 0) qP.nd rfl (Or.inl rfl) rfl (cj rfl (by decide +kernel) (by decide +kernel) (by decide +kernel)) rfl (λi j x h=>by simp at h)
    (bJ (pv 3)) (λs H fp=>ap (i:=0) (show(["stamp"]:List Str).Nodup by decide +kernel) rfl (Or.inl rfl) (Or.inr rfl))
    (λs H fp=>aI qf (pv 0) gK (aR _)) (λs H fp=>pv 0))
   (am (aF (bh (aa (aK xH (aT bj rfl T.len boot_len (aa (pv 3) af)) (aT bj rfl T.len boot_len (aa (pv 4) af))) (aa (aT bj rfl T.len boot_len (aa (pv 4) af)) (aa (aT (kx rfl) rfl T.sum boot_sum (aa (pv 4) af)) af))))))))),?_⟩
  case hcl =>
   intro y hy;rcases mem_cons.mp hy with e|hy
   ·rw[e];rfl
   ·cases hy
  case hj =>
   intro i j x h1 h2
   match i,h1,h2 with
   |0,h1,h2 =>
    cases h1;cases h2;exact⟨rfl,Or.inr (Or.inl rfl),(show((ai iT).names.lookup ("nodes":Str)≠some NameKind.local)by decide +kernel),by first|exact Or.inl rfl|exact Or.inr rfl⟩
   |i+1,h1,h2=>simp at h1
  have hl:=tr.len;have hnd:=bD tr.tr;refine⟨_,rfl,t,zs,rfl,tr.tup,tr.nod,by omega,hnd,λd H1 s1 nd1=>?_⟩;refine⟨_,rfl,_,rfl,d,k,zs,rfl,nd1,tr.nod.same s1,hnd,k0,k1,hk,?_⟩;have tr1:=tr.same s1;refine⟨_,rfl,_,rfl,t,k,zs,rfl,tr1,k0,k1,λ_ ms lb H2 s2 hup hml hmm hlb=>?_,λh0 hno=>?_⟩
  case refine_2 =>
   obtain⟨z',hz',e,_⟩:=hk.resolve_left h0;exact absurd e (hno z' hz')
  have em:=wR tr.tr hup hmm;subst em;have hbl:=mM zs k;refine⟨lb,rfl,⟨_,SqL.of hlb⟩,λp hp=>?_⟩;refine bM (fr:=[some (.ref d)]) (bel zs k) (λz=>V.int z.2.num) (by omega) hp (cI (by rw[show((bel zs k).map λz=>V.int z.2.num)=(nums (bel zs k)).map V.int from pU _];exact SqL.of hlb)) rfl (λz y _=>y=stV z.2.st) (λ_ _ _ _ h _=>h) (λz H' kk mz s3 _ hk=>?_) (λys H3 s3 hp3 hys=>?_)
  ·have hz:=mJ mz;exact⟨_,rfl,_,rfl,d,_,rfl,((nd1.same s2).same s3).get hnd hz,z.1,_,_,_,rfl,rfl,SqT.of (((tr1.same s2).same s3).nod z hz),at3 z.2,hk _ H' (Same.refl _) rfl⟩
  have ey:=aU (f:=λz:Addr×Nd=>stV z.2.st) hys (λz y _ h=>h);rw[ey]at hp3;refine⟨_,rfl,p,rfl,⟨_,SqL.of hp3⟩,λp4 hp4=>?_⟩;refine dJ (fr:=[]) (bel zs k) (λz=>stV z.2.st) (by omega) hp4 (cI (SqL.of hp3)) rfl isF (λz y _=>y=.int (z.2.st.getD 0)) (λ_ _ _ _ h _=>h) (λz H' kk mz s4 _ hk=>?_) (λz H' kk mz hf s4 _ hk=>?_) (λys4 H4 s4 hp4' hys4=>?_)
  ·refine⟨_,rfl,rfl,_,rfl,?_⟩;have e:(!decide (stV z.2.st=V.non))=isF z:=by
    unfold isF;cases z.2.st<;>simp[stV]
   rw[e];exact hk H' (Same.refl _)
  ·obtain⟨i,ei⟩:=yO hf;refine⟨_,rfl,hk _ H' (Same.refl _) ?_⟩;rw[ei];rfl
  have ey4:=aU (f:=λz:Addr×Nd=>V.int (z.2.st.getD 0)) hys4 (λz y _ h=>h);have e4:ys4=(sts zs k).map V.int:=by rw[ey4];unfold sts;rw[map_map];rfl
  rw[e4]at hp4';refine⟨_,rfl,p,_,rfl,.inl (SqL.of (s4 _ _ hp3)),_,rfl,p4,_,rfl,.inl (SqL.of hp4'),_,_,rfl,rfl,?_⟩;refine⟨_,rfl,p4,_,rfl,.inl (SqL.of hp4'),_,rfl,p4,_,rfl,hp4',(show 3≤sizeLine from aW (by decide)),λt' ht'=>?_⟩;refine q t' _ ((((s1.trans s2).trans s3).trans s4).trans (ae ht')) ?_;rw[ac];unfold sh;simp only[length_map]
def jV:Sp:=λvs H Q _=>∃t zs,vs=[.ref t]∧H t=some (.tup (av zs))∧At H zs∧zs.length≤60∧∀b H',(b=true↔TW.bx (nds zs))→Same H H'→Q (.bl b) H'
theorem Ag:FnScope ["nodes"] ["nodes"] (ai wv):=fsc
theorem qQ{f:Addr}{fd:FuncData}(F:Fun K "have_own_places" "have_own_places" wv f fd)(T:Txt mg):FnOkH P w K mg base CX0 1 f fd ["nodes"] jV:=by
 refine eW F Ag (λvs H Q E h=>?_) (λcdv A outer s H vs Q E hr hc h=>?_)
 ·obtain⟨t,zs,rfl,_⟩:=h;rfl
 ·obtain⟨t,zs,rfl,ht,hA,hl,k⟩:=h;refine⟨_,am (aF (dF sN (aT nP rfl T.len boot_len (aa (aD (jv hc.x (wO hr)) rfl T.set rfl (aa (jU (N:=["node"]) (k:=1) (js:=[]) (g:=aJ 0) hc (cj rfl (by decide +kernel) (by decide +kernel) (by decide +kernel)) rfl (λi j x h=>by simp at h)
   (gG (pv 0))
   (λs H fp=>ap (i:=0) (show(["node"]:List Str).Nodup by decide +kernel) rfl (Or.inl rfl) (Or.inr rfl))
   (λs H fp=>bh (aa (aQ (r:=cw K) aG (pv 0) aj (λ_ _=>rfl)) (aa (aQ (r:=cw K) aG (pv 0) aj (λ_ _=>rfl)) af)))) af)) af))
   (aT bj rfl T.len boot_len (aa (pv 0) af)) (aR _))),?_⟩
  refine⟨_,rfl,t,rfl,⟨_,SqT.of ht⟩,λp hp=>?_⟩;refine tV (k:=1) (js:=[]) (J:=Itt K t) (p:=p) zs.length (by omega) (λi ys σ' H'=>∃kss:List (Addr×List Key),ys=(kss.map (·.1)).map V.ref∧kss.map (·.2)=((nds zs).take i).map plK∧kss.length=i∧(∀z∈kss,H' z.1=some (.tup (z.2.map kV)))∧σ'.length=1∧Same H H'∧H' p=some (.lst ys))
    ⟨[],rfl,rfl,rfl,by simp,rfl,ae hp,ac⟩ (λi ys σ' H' h=>?_) (λi ys σ' H' hi h=>?_) (λys σ' H' h=>?_) (λi ys σ' H' hi h v H2 hy=>?_) ?_ ?_
  ·obtain⟨kss,rfl,_,e,_⟩:=h;rw[length_map,length_map];omega
  ·obtain⟨_,_,_,_,_,_,s2,_⟩:=h;exact⟨_,_,SqT.of (s2 _ _ ht),eJ (getElem?_eq_getElem hi)⟩
  ·obtain⟨kss,e1,e2,e3,e4,_,s2,e5⟩:=h;refine⟨⟨_,SqT.of (s2 _ _ ht),by rw[bd];exact le_refl _⟩,?_⟩;subst e1;refine⟨p,kss,rfl,SqL.of e5,e4,by omega,λn hn hiff q hq=>?_⟩;refine⟨q,n,rfl,ac,by omega,?_⟩;have s3:Same H (upd H' q (.ext (lW q n))):=s2.trans (ae hq);refine⟨_,rfl,t,_,rfl,.inr (SqT.of (s3 _ _ ht)),rfl,?_⟩;refine k _ _ ?_ s3;rw[take_of_length_le (by rw[ao];exact le_refl _)]at e2;rw[e2,rX,e3]at hiff;rw[←hiff,decide_eq_true_eq,bd];constructor
   ·intro z;injection z with z;omega
   ·intro z;rw[z]
  ·obtain⟨kss,e1,e2,e3,e4,e0,s2,e5⟩:=h;obtain⟨o1,rfl⟩:=um e0;obtain⟨rfl,hx⟩:=hy;have gx:=hx _ (SqT.of (s2 _ _ ht));obtain⟨z1,g1,rfl⟩:=cB gx;have m1:=mem_of_getElem? g1;refine⟨_,rfl,z1.1,_,_,_,rfl,rfl,SqT.of (s2 _ _ (hA z1 m1)),at1 z1.2,_,rfl,z1.1,_,_,_,rfl,rfl,SqT.of (s2 _ _ (hA z1 m1)),at2 z1.2,le2,λq hq=>?_⟩;refine⟨ca hq e5,kss++[(q,plK z1.2)],by rw[e1];simp,?_,by simp[e3],?_,rfl,aL hp (s2.trans (ae hq)),ac⟩
   ·rw[map_append,e2,take_succ,show(nds zs)[i]?=some z1.2 by unfold nds;rw[getElem?_map,g1];rfl];simp
   ·intro z hz;have hqp:q≠p:=λz=>by rw[z,e5]at hq;cases hq
    rcases mem_append.mp hz with hz|hz
    ·have:=ca (o:=.tup [.int z1.2.par,.str z1.2.nm]) hq (e4 z hz);rw[al]
     ·exact this
     ·intro e;rw[e,al (symm hqp),e5]at this;cases this
    ·have e:z=(q,plK z1.2):=by simpa using hz
     subst e;rw[al hqp];exact ac
  ·rintro _ _ _ _ _ m h;exact m _ _ h
  ·rintro _ _ _ _ m ⟨v1,b0,a1,x1,i1,w1,b1,b2,b3,b4,v2,c0,a2,x2,i2,w2,c1,c2,c3,c4,l,q⟩;exact⟨v1,b0,a1,x1,i1,w1,b1,b2,b3,b4,v2,c0,a2,x2,i2,w2,c1,c2,c3,c4,l,λp hp=>m _ _ (q p hp)⟩
theorem yR{f:Addr}{fd:FuncData}(F:Fun K "have_own_places" "have_own_places" wv f fd)(T:Txt mg):FnOk P w K mg base CX0 1 f fd ["nodes"] jV:=(qQ F T).ok
end
end TK
namespace L2
open PySem PySem.Spec PyProof.Rows
section
variable{X:Cx}
theorem oK(i:Int)(h0:-1≤i)(h1:i≤99):(ofString (toString i)).length≤100:=by
 have key:∀n:Fin 101,(ofString (toString (((n.val:Nat):Int)-1))).length≤100:=by decide +kernel
 have:=key ⟨(i+1).toNat,by omega⟩;have e:(((i+1).toNat:Nat):Int)-1=i:=by omega
 rw[e]at this;exact this
theorem wS{e:Expr}{te:TE}{b:Nat}{p:Pos}{ps:List Expr}{t:TJ}(he:PE X e te)(h:PJ X ps b t):PJ X (.FormattedValue e (-1) none p::ps) (100+b) (λσ H k=>te σ H λv H1=>∃i:Int,v=.int i∧-1≤i∧i≤99∧t σ H1 k):=by
 intro out pins s σ H Q I hb hq;refine joinParts_cons (FormattedValue_plain (thn (he pins _ σ H _ I hq) λv s1 hpt=>?_));obtain⟨y,H1,I1,r1,q1⟩:=hpt;obtain⟨i,rfl,h0,h1,q⟩:=q1;obtain⟨tk,rfl⟩:=r1;have h2:=oK i h0 h1;have hl:(out++ofString (toString i)).length=out.length+(ofString (toString i)).length:=strLen_append ..;refine formatField_int_small (lt_of_le_of_lt (Nat.log2_le_self _) (by omega)) ⟨le_of_lt (aE (by omega)),?_⟩;exact h _ pins _ σ H1 Q (I1.tok _) (by omega) q
end
theorem sm(a d:Value):argsOk "max" ⟨[a],[(ofString "default",d)]⟩:=by unfold argsOk;kernel_rfl
def GrI(ns:List Int)(n:Nat)(b:Int):Prop:=(∃i,i<n∧ns[i]?=some b)∧∀(j:Nat) x,j<n→ns[j]?=some x→x≤b
section
variable{P:Program}{w:World}{A:Around}{s:Shared}{l I S:Addr}{ns:List Int}{its:List Value}
theorem lB(hh:eA A s.heap)(hl:s.heap.IsList l its.toArray)(rv:ar (ns.map V.int) its)(hlI:l≠I)(hI:s.heap.objs.size≤I)(hS:s.heap.objs.size≤S)(hSI:S≠I){kw:List (Str×Value)}{R:Result→Shared→Prop}(hR:∀b t h tk,GrI ns ns.length b→(∀x o,s.heap.get? x=some o→h.get? x=some o)→R (.ok (.ret (.int b t))) {s with heap:=h,toks:=tk}):
  ∀(r j:Nat)(h:Heap)(tk:Nat)(b:Int)(tb:Tok)(c:Nat),ns.length-(j+1)=r→j+1≤ns.length→(∀x o,s.heap.get? x=some o→h.get? x=some o)→h.get? S=some (seqObj "list" #[.int b tb,.int b tb] c)→h.IsListIter I l (j+1)→GrI ns (j+1) b →
   codeAny (model P w) A (.builtin "max.loop" ⟨[.ref I,.none,.ref S],kw⟩) R {s with heap:=h,toks:=tk}:=by
 have hname:(toString "max"++toString ".loop":String)="max.loop":=by decide
 have hlen:its.length=ns.length:=by rw[←rv.length,length_map]
 have hsz:its.toArray.size=ns.length:=by rw[size_toArray];exact hlen
 have old:∀{h h':Heap},(∀x o,s.heap.get? x=some o→h.get? x=some o)→(∀b o,b∉[I]→h.get? b=some o→h'.get? b=some o)→∀x o,s.heap.get? x=some o→h'.get? x=some o:=λk k' x o e=>k' x o (by simpa using ne_of_lt (lt_of_lt_of_le (lt_size e) hI)) (k x o e)
 have oldS:∀{h:Heap}{g:Array Value→Array Value},(∀x o,s.heap.get? x=some o→h.get? x=some o)→∀x o,s.heap.get? x=some o→(h.update S (Obj.mapSeq g)).get? x=some o:=λ{h g} k x o e=>((SameBut.update h S (Obj.mapSeq g)).2 x (ne_of_lt (lt_of_lt_of_le (lt_size e) hS))).trans (k x o e);have hls:∀{h:Heap},(∀x o,s.heap.get? x=some o→h.get? x=some o)→h.IsList l its.toArray:=λk=>let⟨o,e,r⟩:=hl;⟨o,k _ _ e,r⟩;intro r
 induction r with
 |zero =>
  intro j h tk b tb c hr' hj kp nS hit hb;have hin:j+1=ns.length:=by omega
  obtain⟨fp,St,W,hfp,mkS,isS⟩:=cz (prog:=P) (w:=w) hh.in1 I l hlI hI its.toArray;refine codeAny_builtin entry_max_loop ?_;rw[Around.under_plainId plain_max_loop _];show wpAny _ A.in1 (seqItems? (.ref S) >>= _) _ _ _;refine wpAny_bind (wpAny_seqItems nS rfl ?_);show wpAny _ A.in1 (tryCatch (pyNext (.ref I)) _ >>= _) _ _ _;refine wpAny_bind (wpAny_tryCatch (W.done _ _ _ (by rw[hsz,←hin];exact mkS _ _ hit (hls kp) kp) λh' tk' hk'=>?_));have hS':=hk' S _ (by simpa using hSI) nS;show wpAny _ A.in1 (updateSeq S (λ_=>#[]) >>= _) _ _ _;refine wpAny_bind ?_;refine wpAny_updateSeq hS' rfl (wpAny_bind (wpAny_letGo (wpAny_pure ?_)));exact hR b tb _ _ (by rw[←hin];exact hb) (oldS (old kp hk'))
 |succ r ih =>
  intro j h tk b tb c hr' hj kp nS hit hb;have hlt:j+1<ns.length:=by omega
  obtain⟨fp,St,W,hfp,mkS,isS⟩:=cz (prog:=P) (w:=w) hh.in1 I l hlI hI its.toArray;refine codeAny_builtin entry_max_loop ?_;rw[Around.under_plainId plain_max_loop _];show wpAny _ A.in1 (seqItems? (.ref S) >>= _) _ _ _;refine wpAny_bind (wpAny_seqItems nS rfl ?_);show wpAny _ A.in1 (tryCatch (pyNext (.ref I)) _ >>= _) _ _ _;refine wpAny_bind (wpAny_tryCatch (W.item (j+1) _ _ _ (by rw[hsz];exact hlt) (mkS _ _ hit (hls kp) kp) λv h' tk' hP hst' hk'=>?_));have hv:its[j+1]?=some v:=by simpa using hP
  have hxj:ns[j+1]?=some ns[j+1]:=getElem?_eq_getElem hlt;obtain⟨v',hv',t2,ev'⟩:=rv.get (i:=j+1) (x:=.int ns[j+1]) (by rw[getElem?_map,hxj];rfl);have ev:v=.int ns[j+1] t2:=by rw[hv]at hv';rw[←ev'];exact Option.some.inj hv'
  subst ev;generalize ns[j+1]=x' at hxj;obtain⟨oI',hoI',hoc,hod⟩:=isS _ _ hst';have hS':=hk' S _ (by simpa using hSI) nS;have kp':=old kp hk';show wpAny _ A.in1 ((pure (Value.int x' t2):Sem Value) >>= _) _ _ _;refine wpAny_bind (wpAny_pure ?_);show wpAny _ A.in1 (tryCatch (holding [.int x' t2,.int x' t2] (richCompare .Gt (.int x' t2) (.int b tb) >>= _)) _ >>= _) _ _ _;refine wpAny_bind (wpAny_tryCatch (wpAny_holding (wpAny_bind (CmpOf.ints_gt (prog:=P) (w:=w) (A:=A.in1) (P:=λi v=>∃t,v=.int (if i=0 then x' else b) t) (λi=>if i=0 then x' else b) (λi v h=>h) 0 1 _ _ _ _ _ ⟨t2,rfl⟩ ⟨tb,rfl⟩ ?_))));refine wpAny_bind (wpAny_holding (wpAny_truthy_bool ?_));refine wpAny_bind (wpAny_letGo (wpAny_pure ?_))
  by_cases hb':x'>b
  ·have s1':=SameBut.update h' S (Obj.mapSeq λ_=>#[.int x' t2,.int x' t2]);obtain⟨c2,hc2⟩:∃c2,(h'.update S (Obj.mapSeq λ_=>#[.int x' t2,.int x' t2])).get? S=some (seqObj "list" #[.int x' t2,.int x' t2] c2):=⟨_,get?_update_seq hS' λ_=>#[.int x' t2,.int x' t2]⟩;have hif:((λi j:Nat=>decide ((if i=0 then x' else b)>(if j=0 then x' else b))) 0 1)=true:=decide_eq_true (by simpa using hb');rw[if_pos hif];refine wpAny_bind ?_;refine wpAny_updateSeq hS' rfl (wpAny_bind (wpAny_letGo ?_));rw[hname];refine wpAny_pure ⟨plainId_quiet plain_max_loop _,ih (j+1) _ _ x' t2 c2 (by omega) hlt (oldS kp') hc2 ⟨oI',(s1'.2 I hSI.symm).trans hoI',hoc,hod⟩ ⟨⟨j+1,by omega,hxj⟩,λj' x hj' hx=>?_⟩⟩
   by_cases e:j'=j+1
   ·subst e;rw[hxj]at hx;cases hx;exact Int.le_refl _
   ·have:=hb.2 j' x (by omega) hx;omega
  ·have hif:¬((λi j:Nat=>decide ((if i=0 then x' else b)>(if j=0 then x' else b))) 0 1)=true:=by
    rw[show((λi j:Nat=>decide ((if i=0 then x' else b)>(if j=0 then x' else b))) 0 1)=false from decide_eq_false (by simpa using hb')];simp
   rw[if_neg hif];refine wpAny_bind (wpAny_letGo ?_);rw[hname];obtain⟨⟨i,hi,hbi⟩,hmax⟩:=hb;refine wpAny_pure ⟨plainId_quiet plain_max_loop _,ih (j+1) _ _ b tb c (by omega) hlt kp' hS' ⟨oI',hoI',hoc,hod⟩ ⟨⟨i,by omega,hbi⟩,λj' x hj' hx=>?_⟩⟩
   by_cases e:j'=j+1
   ·subst e;rw[hxj]at hx;cases hx;omega
   ·exact hmax j' x (by omega) hx
end
def xw(td:TE)(σ:St)(Q:VK):List V→Hp→Prop
 |[v],H1=>∃l,∃ns:List Int,v=.ref l∧H1 l=some (.lst (ns.map V.int))∧td σ H1 λdv H2=>H2 l=some (.lst (ns.map V.int))∧(ns=[]→Q dv H2)∧∀b,GrI ns ns.length b→Q (.int b) H2
 |_,_=>False
def Ah(te td:TE):TE:=λσ H Q=>te σ H λv H1=>xw td σ Q [v] H1
section
variable{X:Cx}
theorem uR{p dpos pos:Pos}{e ed:Expr}{te td:TE}(hcm:HdX X)(hg:Gl X "max")(hm:X.mg "max"=none)(he:PE X e te)(hd:PE X ed td)(hse:starEach [e] X.env=(false,eval e X.env)::starEach [] X.env:=by rfl)(hpl:(backTo pos (starEach [e] X.env)).any (·.1)=false:=by rfl):
  PE X (.Call (.Name "max" p) [e] [⟨some "default",ed,dpos⟩] pos) (Ah te td):=by
 intro pins s σ H Q I h;refine wpAny_Call_Name_kw (fg I hg hm boot_max ?_ (by decide) (by decide));refine PyProof.Rows.callWith_kw ?_ (by rw[hse];rfl) hpl rfl rfl;refine thn (aa he af hse pos pins s σ H (xw td σ Q) I h) λus s1 hpt=>?_;obtain⟨vs,H1,I1,r,q0⟩:=hpt;obtain⟨v,rfl⟩:∃v,vs=[v]:=by
  match vs,q0 with
  |[v],_=>exact⟨v,rfl⟩
 obtain⟨l,ns,rfl,hl,q⟩:=q0;obtain⟨u,rfl,ru⟩:=cv r;cases ru;show wpAny _ _ (evalAll [(do let v ← eval ed X.env;standAt pos;pure v)]) _ _ s1;refine wpAny_evalAll_cons (wpAny_bind (thn (hd _ s1 σ H1 _ I1 q) λdu s3 ⟨dv,H2,J3,rd,hl2,q1,q2⟩=>wpAny_bind (wpAny_standAt (wpAny_pure (wpAny_evalAll_nil ?_)))));show wpAny _ _ (call (.builtin "max") [.ref l] [("default",du)]) _ _ s3;have hname:(toString "max"++toString ".loop":String)="max.loop":=by decide
 have hh:=hcm _ _ _ _ J3;obtain⟨_,its,n,rv,hol⟩:=J3.hok l _ hl2;have hls:s3.heap.IsList l its.toArray:=⟨_,hol,rfl,n,rfl⟩;have hll:l<s3.heap.objs.size:=lt_size hol;refine kmk_tree kind_max plain_max entry_max (sm _ _) ?_;show wpAny _ X.A.in1 (Builtin.Builtins.bindParams "max" ["key","default"] 0 ⟨[],[(ofString "default",du)]⟩ >>= _) _ _ s3;refine wpAny_bind (wpAny_of_eq (show Builtin.Builtins.bindParams "max" ["key","default"] 0 ⟨[],[(ofString "default",du)]⟩=pure [none,some du]from rfl) ?_);refine wpAny_bind (wpAny_pure ?_);refine wpAny_bind (wpAny_pyIter_list hls ?_);refine wpAny_bind (wpAny_newList ?_ (zero_le _));rw[hname];have hS:(s3.heap.push {cls:=.type "list_iterator",data:=.fields #[.ref l,.int 0 0]}).objs.size=s3.heap.objs.size+1:=size_push' ..;rw[hS];have gI:((s3.heap.push {cls:=.type "list_iterator",data:=.fields #[.ref l,.int 0 0]}).push (seqObj "list" #[] 0)).get? s3.heap.objs.size=some {cls:=.type "list_iterator",data:=.fields #[.ref l,.int 0 0]} :=
  get?_push_of_some _ (get?_push_size _ rfl)
 have gS:((s3.heap.push {cls:=.type "list_iterator",data:=.fields #[.ref l,.int 0 0]}).push (seqObj "list" #[] 0)).get? (s3.heap.objs.size+1)=some (seqObj "list" #[] 0):=by
  rw[←hS];exact get?_push_size _ rfl
 have kp0:∀b o,s3.heap.get? b=some o→((s3.heap.push {cls:=.type "list_iterator",data:=.fields #[.ref l,.int 0 0]}).push (seqObj "list" #[] 0)).get? b=some o:=λb o e=>get?_push_of_some _ (get?_push_of_some _ e);have hlI:l≠s3.heap.objs.size:=ne_of_lt hll;have hSI:s3.heap.objs.size+1≠s3.heap.objs.size:=ne_of_gt (Nat.lt_succ_self _);refine wpAny_pure ⟨plainId_quiet plain_max_loop _,?_⟩;obtain⟨fp,St,W,hfp,mkS,isS⟩:=cz (prog:=X.prog) (w:=X.w) hh.in1 s3.heap.objs.size l hlI (le_refl _) its.toArray;have hlen:its.length=ns.length:=by rw[←rv.length,length_map]
 have hsz':its.toArray.size=ns.length:=by rw[size_toArray];exact hlen
 refine codeAny_builtin entry_max_loop ?_;rw[Around.under_plainId plain_max_loop _];show wpAny _ X.A.in1 (seqItems? (.ref _) >>= _) _ _ _;refine wpAny_bind (wpAny_seqItems gS rfl ?_);show wpAny _ X.A.in1 (tryCatch (pyNext (.ref s3.heap.objs.size)) _ >>= _) _ _ _;have hst:St 0 ((s3.heap.push {cls:=.type "list_iterator",data:=.fields #[.ref l,.int 0 0]}).push (seqObj "list" #[] 0)):=mkS _ _ ⟨_,gI,rfl,rfl⟩ ((hls.push _).push _) kp0;have low:∀{h':Heap},(∀b o,b∉[s3.heap.objs.size]→((s3.heap.push {cls:=.type "list_iterator",data:=.fields #[.ref l,.int 0 0]}).push (seqObj "list" #[] 0)).get? b=some o→h'.get? b=some o)→∀b o,s3.heap.get? b=some o→h'.get? b=some o:=λk b o e=>k b o (by simpa using ne_of_lt (lt_size e)) (kp0 b o e)
 cases ns with
 |nil =>
  have hz:its.toArray.size=0:=hsz';refine wpAny_bind (wpAny_tryCatch (W.done _ _ _ (by rw[hz];exact hst) λh' tk' hk'=>?_));refine wpAny_bind (wpAny_rule (wpAny_pure ?_));exact⟨dv,H2,J3.kept (t':=tk') (low hk'),rd,q1 rfl⟩
 |cons x0 xr =>
  refine wpAny_bind (wpAny_tryCatch (W.item 0 _ _ _ (by rw[hsz'];simp) hst λv h' tk' hP hst' hk'=>?_));have hv:its[0]?=some v:=by simpa using hP
  obtain⟨v',hv',t2,ev'⟩:=rv.get (i:=0) (x:=.int x0) rfl;have ev:v=.int x0 t2:=by rw[hv]at hv';rw[←ev'];exact Option.some.inj hv'
  subst ev;obtain⟨oI',hoI',hoc,hod⟩:=isS _ _ hst';have hS':=hk' (s3.heap.objs.size+1) _ (by simpa using hSI) gS;show wpAny _ X.A.in1 ((pure (Value.int x0 t2):Sem Value) >>= _) _ _ _;refine wpAny_bind (wpAny_pure ?_);have s1':=SameBut.update h' (s3.heap.objs.size+1) (Obj.mapSeq λ_=>#[.int x0 t2,.int x0 t2]);obtain⟨c2,hc2⟩:∃c2,(h'.update (s3.heap.objs.size+1) (Obj.mapSeq λ_=>#[.int x0 t2,.int x0 t2])).get? (s3.heap.objs.size+1)=some (seqObj "list" #[.int x0 t2,.int x0 t2] c2):=⟨_,get?_update_seq hS' λ_=>#[.int x0 t2,.int x0 t2]⟩;show wpAny _ X.A.in1 (updateSeq (s3.heap.objs.size+1) (λ_=>#[.int x0 t2,.int x0 t2]) >>= _) _ _ _;refine wpAny_bind ?_;refine wpAny_updateSeq hS' rfl ?_;rw[hname];refine wpAny_pure ⟨plainId_quiet plain_max_loop _,lB (s:=s3) hh hls rv hlI (le_refl _) (le_succ _) hSI (λb t h tk hb kp=>⟨.int b,H2,J3.kept (t':=tk) kp,⟨t,rfl⟩,q2 b hb⟩) _ 0 _ _ x0 t2 c2 rfl (by simp) (λb o e=>(s1'.2 b (ne_of_lt (lt_succ_of_lt (lt_size e)))).trans (low hk' b o e)) hc2 ⟨oI',(s1'.2 _ hSI.symm).trans hoI',hoc,hod⟩ ⟨⟨0,Nat.zero_lt_succ _,rfl⟩,λj' x hj' hx=>?_⟩⟩;have e:j'=0:=by omega
  subst e;cases hx;exact Int.le_refl _
end
end L2
namespace TW
section
variable{S:Type}
def kept(q:S→Bool)(t:List (Nd S)):List (Nd S):=t.filter λn=>!q n.nm
theorem ay{q:S→Bool}{t:List (Nd S)}{n:Nd S}:n∈kept q t↔n∈t∧q n.nm=false:=by
 unfold kept;rw[mem_filter,Bool.not_eq_true']
open Classical in
def aB(q:S→Bool)(t:List (Nd S)):List (Nd S):=(kept q t).filter λn=>decide (Reach (kept q t) 0 n)
open Classical in
theorem aq{q:S→Bool}{t:List (Nd S)}{n:Nd S}:n∈aB q t↔Reach (kept q t) 0 n:=by
 unfold aB;rw[mem_filter,decide_eq_true_eq];exact⟨λh=>h.2,λh=>⟨h.mem,h⟩⟩
theorem cG(q:S→Bool)(t:List (Nd S)):(aB q t).Sublist t:=Sublist.trans filter_sublist filter_sublist
theorem dP{q:S→Bool}{t:List (Nd S)}(h:br t):br (aB q t):=h.sublist (cG q t)
theorem gH{t u:List (Nd S)}(ht:br t)(hu:br u)(h:∀n,n∈t↔n∈u):t=u:=by
 refine lA ht hu λk=>?_;cases e:aZ t k with
 |some m =>
  obtain⟨h1,h2⟩:=cX e;have:=jS hu ((h m).mp h1);rw[h2]at this;exact this.symm
 |none =>
  refine(jN λm hm e2=>?_).symm;have:=jS ht ((h m).mpr hm);rw[e2,e]at this;cases this
theorem cn{q:S→Bool}{t:List (Nd S)}(T:Tree1 t):Tree1 (aB q t):=by
 refine⟨⟨dP T.rise,?_,λn hn=>?_⟩,λn hn=>T.pos n ((cG q t).subset hn)⟩
 ·unfold bx;exact T.own.sublist ((cG q t).map _)
 ·have h:=aq.mp hn;clear hn
  induction h with
  |base hm hp=>exact .base (aq.mpr (.base hm hp)) hp
  |step hr hf hm hp ih=>exact .step ih hf (aq.mpr (.step hr hf hm hp)) hp
theorem lC{q:S→Bool}{t:List (Nd S)}(T:Tree1 t){n:Nd S}(hn:n∈t){p:List S}(hp:PathTo t n.num p):p.filter q=[]↔Reach (kept q t) 0 n:=by
 have h:=T.down n hn;rw[List.filter_eq_nil_iff]
 induction h generalizing p with
 |@base n hm h0 =>
  obtain⟨r,e,hr⟩:=hp.inv T hm rfl;have:=hr.zero T h0;subst this;subst e;constructor
  ·intro h;exact .base (ay.mpr ⟨hm,by simpa using h n.nm (by simp)⟩) h0
  ·intro h x hx;have:=(ay.mp h.mem).2;have e:x=n.nm:=by simpa using hx
   rw[e,this];simp
 |@step m n hr hf hm h0 ih =>
  obtain⟨r,e,hr'⟩:=hp.inv T hm rfl;subst e;rw[h0]at hr';constructor
  ·intro h;have:=(ih hr.mem hr').mp λx hx=>h x (by simp[hx]);exact .step this hf (ay.mpr ⟨hm,by simpa using h n.nm (by simp)⟩) h0
  ·intro h x hx;have hk:=(ay.mp h.mem).2;cases h with
   |base _ h1 =>
    have:=T.pos m hr.mem;omega
   |@step m' _ h1 h2 h3 h4 =>
    have e:m'=m:=T.inj (ay.mp h1.mem).1 hr.mem (h4.symm.trans h0);subst e;rcases mem_append.mp hx with hx|hx
    ·exact(ih hr.mem hr').mpr h1 x hx
    ·have e:x=n.nm:=by simpa using hx
     rw[e,hk];simp
theorem oM{t u:List (Nd S)}{rs:List (Row S)}(h:Chg t u rs)(ht:br t)(hu:br u):rs=[]↔t=u:=by
 constructor
 ·intro e;subst e;refine lA ht hu λk=>?_
  by_cases z:aZ t k=aZ u k
  ·exact z
  ·have:=(h.mem ⟨k,aZ t k,aZ u k⟩).mpr ⟨rfl,rfl,z⟩;cases this
 ·intro e;subst e;exact h.nil
end
end TW
namespace TW
section
variable{S:Type}
def wT(k:Int)(n:Nd S):Nd S:=⟨n.num,if n.par=k then 0 else n.par,n.nm,n.st⟩
open Classical in
def il(t:List (Nd S))(k:Int):List (Nd S):=t.filter λn=>decide (Reach t k n)
open Classical in
theorem db{t:List (Nd S)}{k:Int}{n:Nd S}:n∈il t k↔Reach t k n:=by
 unfold il;rw[mem_filter,decide_eq_true_eq];exact⟨λh=>h.2,λh=>⟨h.mem,h⟩⟩
def iK(t:List (Nd S))(k:Int):List (Nd S):=(il t k).map (wT k)
theorem cD{t:List (Nd S)}{k:Int}{n:Nd S}:n∈iK t k↔∃m,Reach t k m∧n=wT k m:=by
 unfold iK;rw[mem_map];constructor
 ·rintro⟨m,hm,e⟩;exact⟨m,db.mp hm,e.symm⟩
 ·rintro⟨m,hm,e⟩;exact⟨m,db.mpr hm,e.symm⟩
open Classical in
def woT(t:List (Nd S))(k:Int):List (Nd S):=t.filter λn=>!decide (Reach t k n)
open Classical in
theorem cS{t:List (Nd S)}{k:Int}{n:Nd S}:n∈woT t k↔n∈t∧¬Reach t k n:=by
 unfold woT;rw[mem_filter,Bool.not_eq_true',decide_eq_false_iff_not]
theorem so{t:List (Nd S)}(h:br t)(k:Int):br (il t k):=h.sublist filter_sublist
theorem eX{t:List (Nd S)}(h:br t)(k:Int):br (iK t k):=by
 have:=so h k;unfold br iK at *;rw[pairwise_map];exact this
theorem jW{t:List (Nd S)}(h:br t)(k:Int):br (woT t k):=h.sublist filter_sublist
theorem mR{t:List (Nd S)}(T:Tree1 t){k:Int}{n:Nd S}(h:Reach t k n)(e:n.par=0):k=0:=by
 cases h with
 |base _ e'=>rw[←e',e]
 |@step m _ hr _ _ e' =>
  have:=T.pos m hr.mem;omega
theorem sq{t:List (Nd S)}(T:Tree1 t)(k:Int):Tree1 (iK t k):=by
 have step:∀n,Reach t k n→Reach (iK t k) 0 (wT k n):=by
  intro n h
  induction h with
  |@base n hm hp=>exact .base (cD.mpr ⟨n,.base hm hp,rfl⟩) (by show(if n.par=k then 0 else n.par)=0;rw[if_pos hp])
  |@step m n hr hf hm hp ih =>
   refine .step ih hf (cD.mpr ⟨n,.step hr hf hm hp,rfl⟩) ?_;show(if n.par=k then 0 else n.par)=m.num;rw[if_neg (by rw[hp];exact eI T hr),hp]
 refine⟨⟨eX T.rise k,?_,λn hn=>?_⟩,λn hn=>?_⟩
 ·have own:=T.own;unfold bx Nodup at own;unfold bx iK Nodup;rw[map_map,pairwise_map];rw[pairwise_map]at own;refine(own.sublist (l₁:=il t k) (by unfold il;exact filter_sublist)).imp_of_mem λ{a b} ha hb hab e=>hab ?_;have ra:=db.mp ha;have rb:=db.mp hb;have e1:(if a.par=k then 0 else a.par)=(if b.par=k then (0:Int)else b.par):=congrArg Prod.fst e
  have e2:a.nm=b.nm:=congrArg Prod.snd e;have ep:a.par=b.par:=by
   by_cases z1:a.par=k<;>by_cases z2:b.par=k
   ·rw[z1,z2]
   ·rw[if_pos z1,if_neg z2]at e1;have:=mR T rb e1.symm;rw[z1,this];exact e1
   ·rw[if_neg z1,if_pos z2]at e1;have:=mR T ra e1;rw[z2,this];exact e1
   ·rw[if_neg z1,if_neg z2]at e1;exact e1
  show(a.par,a.nm)=(b.par,b.nm);rw[ep,e2]
 ·obtain⟨m,hm,rfl⟩:=cD.mp hn;exact step m hm
 ·obtain⟨m,hm,rfl⟩:=cD.mp hn;exact T.pos m hm.mem
theorem uS{t:List (Nd S)}(T:Tree1 t)(k:Int):Tree1 (woT t k):=by
 refine⟨⟨jW T.rise k,?_,λn hn=>?_⟩,λn hn=>T.pos n (cS.mp hn).1⟩
 ·have own:=T.own;unfold bx at own⊢;exact own.sublist ((filter_sublist (l:=t)).map _)
 ·have h:=T.down n (cS.mp hn).1;have hn':=(cS.mp hn).2;clear hn
  induction h with
  |base hm hp=>exact .base (cS.mpr ⟨hm,hn'⟩) hp
  |step hr hf hm hp ih=>exact .step (ih λh=>hn' (.step h hf hm hp)) hf (cS.mpr ⟨hm,hn'⟩) hp
section
variable{q:S→Bool}{t:List (Nd S)}
theorem cg{n:Nd S}(h:n∈kept q t):n∈t:=(ay.mp h).1
theorem dE{n:Nd S}(h:n∈aB q t):n∈t:=cg (aq.mp h).mem
theorem pV(T:Tree1 t){k:Int}{n:Nd S}(h:Reach t k n)(hs:n∈aB q t):Reach (aB q t) k n:=by
 induction h with
 |base hm hp=>exact .base hs hp
 |@step m n hr hf hm hp ih =>
  refine .step (ih ?_) hf hs hp;have h2:=aq.mp hs;cases h2 with
  |base _ e0 =>
   have:=T.pos m hr.mem;omega
  |@step m2 _ hr2 hf2 hm2 hp2 =>
   have:m2=m:=T.inj (cg hr2.mem) hr.mem (by rw[←hp2,hp]);rw[←this];exact aq.mpr hr2
def jX(q:S→Bool)(t:List (Nd S))(k:Int):Prop:=k=0∨∃m∈aB q t,m.num=k∧m.st=none
theorem uT(T:Tree1 t){k:Int}(hk:jX q t k):iK (aB q t) k=aB q (iK t k):=by
 have Ts:=cn (q:=q) T;refine gH (eX Ts.rise k) (dP (eX T.rise k)) λn'=>?_;rw[cD,aq];constructor
 ·rintro⟨n,hr,rfl⟩;have key:∀n,Reach (aB q t) k n→wT k n∈kept q (iK t k):=λn h=>by
   refine ay.mpr ⟨cD.mpr ⟨n,h.mono λx hx=>dE hx,rfl⟩,?_⟩;exact(ay.mp (aq.mp h.mem).mem).2
  induction hr with
  |@base n hm hp=>exact .base (key n (.base hm hp)) (by show(if n.par=k then 0 else n.par)=0;rw[if_pos hp])
  |@step m n hr hf hm hp ih =>
   refine .step ih hf (key n (.step hr hf hm hp)) ?_;show(if n.par=k then 0 else n.par)=m.num;rw[if_neg (by rw[hp];exact eI Ts hr),hp]
 ·intro h
  induction h with
  |@base n' hm hp =>
   obtain⟨hc,hq⟩:=ay.mp hm;obtain⟨n,hr,rfl⟩:=cD.mp hc;have hpar:n.par=k:=by
    by_cases z:n.par=k
    ·exact z
    ·have:n.par=0:=by
      have h':(if n.par=k then 0 else n.par)=(0:Int):=hp
      rwa [if_neg z]at h'
     rw[this,mR T hr this]
   have hkn:n∈kept q t:=ay.mpr ⟨hr.mem,hq⟩;have hs:n∈aB q t:=by
    refine aq.mpr ?_;rcases hk with e|⟨m,hm2,e1,e2⟩
    ·exact .base hkn (by rw[hpar,e])
    ·exact .step (aq.mp hm2) e2 hkn (by rw[hpar,e1])
   exact⟨n,.base hs hpar,rfl⟩
  |@step m' n' hr' hf hm hp ih =>
   obtain⟨m,hrm,rfl⟩:=ih;obtain⟨hc,hq⟩:=ay.mp hm;obtain⟨n,hr,rfl⟩:=cD.mp hc;have hkn:n∈kept q t:=ay.mpr ⟨hr.mem,hq⟩;have hm1:=Ts.pos m hrm.mem;have hpar:n.par=m.num:=by
    have h':(if n.par=k then 0 else n.par)=m.num:=hp
    by_cases z:n.par=k
    ·rw[if_pos z]at h';omega
    ·rwa [if_neg z]at h'
   have hs:n∈aB q t:=aq.mpr (.step (aq.mp hrm.mem) hf hkn hpar);exact⟨n,.step hrm hf hs hpar,rfl⟩
theorem wU(T:Tree1 t)(k:Int):aB q (woT t k)=woT (aB q t) k:=by
 have Ts:=cn (q:=q) T;refine gH (dP (jW T.rise k)) (jW Ts.rise k) λn=>?_;rw[cS,aq];constructor
 ·intro h;have sub:∀x∈kept q (woT t k),x∈kept q t:=λx hx=>ay.mpr ⟨(cS.mp (ay.mp hx).1).1,(ay.mp hx).2⟩;refine⟨aq.mpr (h.mono sub),λhr=>?_⟩;exact(cS.mp (ay.mp h.mem).1).2 (hr.mono λx hx=>dE hx)
 ·rintro⟨hs,hn⟩;have h:=aq.mp hs;clear hs;have key:∀n,Reach (kept q t) 0 n→¬Reach (aB q t) k n→n∈kept q (woT t k):=λn h hn =>
   ay.mpr ⟨cS.mpr ⟨cg h.mem,λhr=>hn (pV T hr (aq.mpr h))⟩,(ay.mp h.mem).2⟩
  induction h with
  |@base n hm hp=>exact .base (key n (.base hm hp) hn) hp
  |@step m n hr hf hm hp ih =>
   refine .step (ih λh=>hn (.step h hf (aq.mpr (.step hr hf hm hp)) hp)) hf (key n (.step hr hf hm hp) hn) hp
theorem pW(T:Tree1 t){n:Nd S}(hn:n∈aB q t){p:List S}(h:PathTo t n.num p):PathTo (aB q t) n.num p:=by
 have hr:=aq.mp hn;clear hn
 induction hr generalizing p with
 |@base n hm hp =>
  obtain⟨r,e,hr⟩:=h.inv T (cg hm) rfl;have e0:=hr.zero T hp;rw[e,e0];exact .node (n:=n) (aq.mpr (.base hm hp)) (by rw[hp];exact .top)
 |@step m n hr hf hm hp ih =>
  obtain⟨r,e,hr'⟩:=h.inv T (cg hm) rfl;rw[hp]at hr';rw[e];exact .node (n:=n) (aq.mpr (.step hr hf hm hp)) (by rw[hp];exact ih hr')
def shT(g:Int)(n:Nd S):Nd S:=⟨n.num+g,if n.par=0 then 0 else n.par+g,n.nm,n.st⟩
theorem uU{u:List (Nd S)}(T:Tree1 t)(U:Tree1 u){g:Int}(hg:∀n∈t,n.num≤g)(h0:0≤g):aB q (t++u.map (shT g))=aB q t++(aB q u).map (shT g):=by
 have rise2:∀{a b:List (Nd S)},br a→br b→(∀n∈a,n.num≤g)→(∀n∈b,1≤n.num)→br (a++b.map (shT g)):=λ{a b} ha hb h1 h2=>by
  unfold br at *;rw[List.pairwise_append];refine⟨ha,?_,λx hx y hy=>?_⟩
  ·rw[pairwise_map];exact hb.imp λh=>by show _+g<_+g;omega
  ·obtain⟨z,hz,rfl⟩:=mem_map.mp hy;have:=h1 x hx;have:=h2 z hz;show x.num<z.num+g;omega
 have Us:=cn (q:=q) U;refine gH (dP (rise2 T.rise U.rise hg U.pos)) (rise2 (cn T).rise Us.rise (λn hn=>hg n (dE hn)) Us.pos) λn=>?_;rw[aq,mem_append,aq];constructor
 ·intro h
  induction h with
  |@base n hm hp =>
   obtain⟨hc,hq⟩:=ay.mp hm;rcases mem_append.mp hc with h|h
   ·exact .inl (.base (ay.mpr ⟨h,hq⟩) hp)
   ·obtain⟨m,hm',rfl⟩:=mem_map.mp h;refine .inr (mem_map.mpr ⟨m,aq.mpr (.base (ay.mpr ⟨hm',hq⟩) ?_),rfl⟩);have h':(if m.par=0 then 0 else m.par+g)=0:=hp
    by_cases z:m.par=0
    ·exact z
    ·rw[if_neg z]at h';have:=U.down m hm';cases this with
     |base _ e=>exact absurd e z
     |@step p _ hr _ _ e=>have:=U.pos p hr.mem;omega
  |@step m n hr hf hm hp ih =>
   obtain⟨hc,hq⟩:=ay.mp hm;rcases mem_append.mp hc with h|h
   ·have hkn:n∈kept q t:=ay.mpr ⟨h,hq⟩;rcases ih with ih|ih
    ·exact .inl (.step ih hf hkn hp)
    ·obtain⟨m',hm',rfl⟩:=mem_map.mp ih;have h1:=Us.pos m' hm';have hp':n.par=m'.num+g:=hp;have:=T.down n h;cases this with
     |base _ e=>omega
     |@step p _ hr2 _ _ e=>have:=hg p hr2.mem;omega
   ·obtain⟨n',hn',rfl⟩:=mem_map.mp h;have hkn:n'∈kept q u:=ay.mpr ⟨hn',hq⟩;have hp':(if n'.par=0 then 0 else n'.par+g)=m.num:=hp;rcases ih with ih|ih
    ·have h1:=T.pos m (cg ih.mem);have h2:=hg m (cg ih.mem)
     by_cases z:n'.par=0
     ·rw[if_pos z]at hp';omega
     ·rw[if_neg z]at hp';have:=U.down n' hn';cases this with
      |base _ e=>exact absurd e z
      |@step p _ hr2 _ _ e=>have:=U.pos p hr2.mem;omega
    ·obtain⟨m',hm',rfl⟩:=mem_map.mp ih;refine .inr (mem_map.mpr ⟨n',aq.mpr (.step (aq.mp hm') hf hkn ?_),rfl⟩);have h1:=Us.pos m' hm';have hp2:(if n'.par=0 then 0 else n'.par+g)=m'.num+g:=hp'
     by_cases z:n'.par=0
     ·rw[if_pos z]at hp2;omega
     ·rw[if_neg z]at hp2;omega
 ·rintro(h|h)
  ·exact h.mono λx hx=>ay.mpr ⟨mem_append_left _ (cg hx),(ay.mp hx).2⟩
  ·obtain⟨m,hm,rfl⟩:=mem_map.mp h;have hr:=aq.mp hm;clear h hm;have key:∀n,n∈kept q u→shT g n∈kept q (t++u.map (shT g)):=λn h=>ay.mpr ⟨mem_append_right _ (mem_map.mpr ⟨n,cg h,rfl⟩),(ay.mp h).2⟩
   induction hr with
   |@base n hm hp=>exact .base (key n hm) (by show(if n.par=0 then 0 else n.par+g)=0;rw[if_pos hp])
   |@step m n hr hf hm hp ih =>
    refine .step ih hf (key n hm) ?_;have h1:=U.pos m (cg hr.mem);show(if n.par=0 then 0 else n.par+g)=m.num+g;rw[if_neg (by omega),hp]
theorem uV{u:List (Nd S)}(T:Tree1 t)(U:Tree1 u){g:Int}(hg:∀n∈t,n.num≤g)(h0:0≤g)(hp:bx (t++u.map (shT g))):Tree1 (t++u.map (shT g)):=by
 refine⟨⟨?_,hp,λn hn=>?_⟩,λn hn=>?_⟩
 ·unfold br;rw[List.pairwise_append];refine⟨T.rise,?_,λx hx y hy=>?_⟩
  ·rw[pairwise_map];exact U.rise.imp λh=>by show _+g<_+g;omega
  ·obtain⟨z,hz,rfl⟩:=mem_map.mp hy;have:=hg x hx;have:=U.pos z hz;show x.num<z.num+g;omega
 ·rcases mem_append.mp hn with h|h
  ·exact(T.down n h).mono λx hx=>mem_append_left _ hx
  ·obtain⟨m,hm,rfl⟩:=mem_map.mp h;have hr:=U.down m hm;clear hn h hm;have key:∀n,n∈u→shT g n∈t++u.map (shT g):=λn h=>mem_append_right _ (mem_map.mpr ⟨n,h,rfl⟩)
   induction hr with
   |@base n hm hp=>exact .base (key n hm) (by show(if n.par=0 then 0 else n.par+g)=0;rw[if_pos hp])
   |@step m n hr hf hm hp ih =>
    refine .step ih hf (key n hm) ?_;have h1:=U.pos m hr.mem;show(if n.par=0 then 0 else n.par+g)=m.num+g;rw[if_neg (by omega),hp]
 ·rcases mem_append.mp hn with h|h
  ·exact T.pos n h
  ·obtain⟨m,hm,rfl⟩:=mem_map.mp h;have:=U.pos m hm;show 1≤m.num+g;omega
end
end
end TW
namespace TK
open PySem L2
section
variable{P:Program}{w:World}{K:PySem.W.Frag}{mg:Str→Option Value}{base:Heap}
def lD:Sp:=λvs H Q _=>∃t zs,vs=[.ref t]∧H t=some (.tup (av zs))∧At H zs∧zs.length≤60∧∀b H',Same H H'→((zs=[]∧b=0)∨GrI (nums zs) (nums zs).length b)→Q (.int b) H'
theorem Ai:FnScope ["tree"] ["tree"] (ai bR):=fsc
theorem qR{f:Addr}{fd:FuncData}(F:Fun K "greatest_number" "greatest_number" bR f fd)(T:Txt mg):FnOkH P w K mg base CX0 1 f fd ["tree"] lD:=by
 refine eW F Ai (λvs H Q E h=>?_) (λcdv A outer s H vs Q E hr hc h=>?_)
 ·obtain⟨t,zs,rfl,_⟩:=h;rfl
 ·obtain⟨t,zs,rfl,ht,hA,hl,q⟩:=h;refine⟨_,am (aF (uR hc.x rfl T.max (jU (N:=["node"]) (cl:=[]) (k:=1) (js:=[]) (g:=aJ 0) hc (cj rfl (by decide +kernel) (by decide +kernel) (by decide +kernel)) rfl (λi j x h=>by simp at h) (gG (pv 0)) (λs H fp=>ap (i:=0) (show(["node"]:List Str).Nodup by decide +kernel) rfl (Or.inl rfl) (Or.inr rfl))
    (λs H fp=>aQ (r:=cw K) aG (pv 0) aj (λ_ _=>rfl))) aj)),?_⟩
  refine⟨_,rfl,t,rfl,⟨_,SqT.of ht⟩,λp hp=>?_⟩;refine bM (fr:=[]) zs (λz=>V.ref z.1) (by omega) hp (cb (by rw[aC];exact SqT.of ht)) rfl (λz y _=>y=.int z.2.num) (λ_ _ _ _ h _=>h) (λz H' kk mz s1 _ hk=>?_) (λys H1 s1 hp1 hys=>?_)
  ·exact⟨_,rfl,z.1,_,_,_,rfl,rfl,SqT.of (s1 _ _ (hA z mz)),at0 z.2,hk _ H' (Same.refl _) rfl⟩
  ·have ey:=aU (f:=λz:Addr×Nd=>V.int z.2.num) hys (λz y _ h=>h);have e:ys=(nums zs).map V.int:=by rw[ey];unfold nums;rw[map_map];rfl
   rw[e]at hp1;refine⟨p,nums zs,rfl,hp1,hp1,λh0=>q 0 H1 s1 (.inl ⟨map_eq_nil_iff.mp h0,rfl⟩),λb hb=>q b H1 s1 (.inr hb)⟩
theorem yS{f:Addr}{fd:FuncData}(F:Fun K "greatest_number" "greatest_number" bR f fd)(T:Txt mg):FnOk P w K mg base CX0 1 f fd ["tree"] lD:=(qR F T).ok
end
def reN(g:Int→Int)(n:Nd):Nd:=⟨g n.num,g n.par,n.nm,n.st⟩
section
variable{P:Program}{w:World}{K:PySem.W.Frag}{mg:Str→Option Value}{base:Heap}
def lE:Sp:=λvs H Q _=>∃t d zs kvs g,vs=[.ref t,.ref d]∧H t=some (.tup (av zs))∧At H zs∧zs.length≤60∧H d=some (.dK kvs)∧(∀z∈zs,bc kvs (Sum.inl z.2.num:Key)=some (.int (g z.2.num))∧bc kvs (Sum.inl z.2.par:Key)=some (.int (g z.2.par)))∧(zs.map λz=>g z.2.num).Nodup ∧
 ∀us t' H',Same H H'→H' t'=some (.tup (av us))→At H' us→(nds us).Perm ((nds zs).map (reN g))→TW.br (nds us)→Q (.ref t') H'
theorem Aj:FnScope ["tree","numbers"] ["tree","numbers"] (ai be):=fsc
theorem qS{f:Addr}{fd:FuncData}(F:Fun K "with_numbers" "with_numbers" be f fd)(T:Txt mg):FnOkH P w K mg base CX0 1 f fd ["tree","numbers"] lE:=by
 refine eW F Aj (λvs H Q E h=>?_) (λcdv A outer s H vs Q E hr hc h=>?_)
 ·obtain⟨t,d,zs,kvs,g,rfl,_⟩:=h;rfl
 ·obtain⟨t,d,zs,kvs,g,rfl,ht,hA,hl,hd,hg,hnd,q⟩:=h;refine⟨_,am (aF (aD bg rfl T.tuple rfl (aa (aT cA rfl T.sorted boot_sorted (aa (jU (N:=["node","numbers"]) (cl:=[("numbers",s.heap.objs.size+1)]) (k:=1) (js:=[1]) (g:=aJ 0) hc
    (LcOk.mk' ["numbers"] rfl rfl (by decide +kernel) (by decide +kernel) ?hcl rfl (by decide +kernel)) rfl ?hj (gG (pv 0)) (λs H fp=>ap (i:=0) (show(["node","numbers"]:List Str).Nodup by decide +kernel) rfl (Or.inl rfl) (Or.inr rfl))
    (λs H fp=>aK (r:=sU K) iL (bh (aa (cx (pS hr) (pv 1) (aQ (r:=cw K) aG (pv 0) aj (λ_ _=>rfl)) (λ_ _=>rfl)) (aa (cx (pS hr) (pv 1) (aQ (r:=cw K) aG (pv 0) aj (λ_ _=>rfl)) (λ_ _=>rfl)) af))) (cY (r:=rp K) jf (pv 0) (dh aj) eP))) af)) af))),?_⟩
  case hcl =>
   intro y hy;rcases mem_cons.mp hy with e|hy
   ·rw[e];rfl
   ·cases hy
  case hj =>
   intro i j x h1 h2
   match i,h1,h2 with
   |0,h1,h2 =>
    cases h1;cases h2;exact⟨rfl,Or.inr (Or.inl rfl),(show((ai be).names.lookup ("numbers":Str)≠some NameKind.local)by decide +kernel),by first|exact Or.inl rfl|exact Or.inr rfl⟩
   |i+1,h1,h2=>simp at h1
  refine⟨_,rfl,t,rfl,⟨_,SqT.of ht⟩,λp hp=>?_⟩;refine bM (fr:=[some (.ref d)]) zs (λz=>V.ref z.1) (by omega) hp (cb (by rw[aC];exact SqT.of ht)) rfl (λz y H'=>∃q,y=.ref q∧q≠p∧H' q=some (.tup (vals (reN g z.2)))) (λz y H H' ⟨q,e,ne,h⟩ ex=>⟨q,e,ne,ex q _ ne h⟩) (λz H' k mz s1 hpl hk=>?_) (λys H' s1 hp' hys=>?_)
  ·obtain⟨g1,g2⟩:=hg z mz;have hd1:=s1 _ _ hd;have hz1:=s1 _ _ (hA z mz);have d1:cK H' d (.int z.2.num) (some (.int (g z.2.num))):=by rw[←g1];exact cK.k (k:=Sum.inl z.2.num) hd1
   have d2:cK H' d (.int z.2.par) (some (.int (g z.2.par))):=by rw[←g2];exact cK.k (k:=Sum.inl z.2.par) hd1
   refine⟨_,rfl,_,rfl,z.1,_,_,_,rfl,rfl,SqT.of hz1,at0 z.2,d,_,rfl,d1,?_⟩;refine⟨_,rfl,_,rfl,z.1,_,_,_,rfl,rfl,SqT.of hz1,at1 z.2,d,_,rfl,d2,le2,λc hc=>?_⟩;have s2:=ae (o:=.tup [.int (g z.2.num),.int (g z.2.par)]) hc;have ecut:gR (vals z.2) (some 2) none=[.str z.2.nm,stV z.2.st]:=rfl;refine⟨_,rfl,_,rfl,z.1,_,rfl,SqT.of (s2 _ _ hz1),(by intro h;exact absurd h.1 (show ¬HT.sIx 4 0 (some 2)=0 by decide)),λt' ht'=>?_⟩;rw[ecut];have s3:=s2.trans (ae (o:=.tup [.str z.2.nm,stV z.2.st]) ht');refine⟨c,t',_,_,rfl,rfl,SqT.of (ca ht' ac),SqT.of ac,by simp,(show 4≤sizeLine from aW (by decide)),λh=>absurd h (List.cons_ne_nil _ _),λ_ q hq=>?_⟩;have hpl3:∃ys,upd (upd H' c (.tup [.int (g z.2.num),.int (g z.2.par)])) t' (.tup [.str z.2.nm,stV z.2.st]) p=some (.lst ys):=let⟨ys,e⟩:=hpl;⟨ys,s3 _ _ e⟩;exact hk _ _ (s3.trans (ae hq)) ⟨q,rfl,ck hpl3 hq,ac⟩
  ·obtain⟨cs,e1,e2,e3⟩:=bE (val:=V.ref) (S:=λ(z:Addr×Nd) (q:Addr)=>H' q=some (.tup (vals (reN g z.2)))) hys (λz y _ ⟨q,e,_,h⟩=>⟨q,e,h⟩);have er:ys=av (cs.map λx=>(x.2,reN g x.1.2)):=by rw[e2,←aC,map_map];rfl
   have en:nds (cs.map λx=>(x.2,reN g x.1.2))=(nds zs).map (reN g):=by rw[←e1];unfold nds;rw[map_map,map_map,map_map];rfl
   have hcl:cs.length=zs.length:=by rw[←e1,length_map]
   have hsq:SqL K H' p (av (cs.map λx=>(x.2,reN g x.1.2))):=SqL.of (by rw[hp',er]);refine iA (K:=K) (H:=H') (l:=p) (zs:=cs.map λx=>(x.2,reN g x.1.2)) (Q:=Q) (.inl hsq) (λz hz=>?_) ?_ (by rw[length_map];omega) (λus t' H2 s2 ht' hA' hpm hrise=>?_)
   ·obtain⟨x,hx,rfl⟩:=mem_map.mp hz;exact e3 x hx
   ·rw[en,map_map];unfold nds;rw[map_map];exact hnd
   ·refine q us t' H2 (s1.trans s2) ht' hA' ?_ hrise;have:(nds us).Perm (nds (cs.map λx=>(x.2,reN g x.1.2))):=hpm.map _;rw[en]at this;exact this
theorem yT{f:Addr}{fd:FuncData}(F:Fun K "with_numbers" "with_numbers" be f fd)(T:Txt mg):FnOk P w K mg base CX0 1 f fd ["tree","numbers"] lE:=(qS F T).ok
end
def inK(ms:List Int):List (Key×V):=ms.map λm=>((Sum.inl m:Key),V.bl true)
section
variable{P:Program}{w:World}{K:PySem.W.Frag}{mg:Str→Option Value}{base:Heap}
def pX:Sp:=λvs H Q _=>∃t d zs kvs g,vs=[.ref t,.ref d]∧H t=some (.lst (av zs))∧At H zs∧zs.length≤60∧H d=some (.dK kvs)∧(∀z∈zs,bc kvs (Sum.inl z.2.num:Key)=some (.int (g z.2.num))∧bc kvs (Sum.inl z.2.par:Key)=some (.int (g z.2.par)))∧(zs.map λz=>g z.2.num).Nodup ∧
 ∀us t' H',Same H H'→H' t'=some (.tup (av us))→At H' us→(nds us).Perm ((nds zs).map (reN g))→TW.br (nds us)→Q (.ref t') H'
theorem yU:FnScope ["tree","numbers"] ["tree","numbers"] (ai be):=fsc
theorem wV{f:Addr}{fd:FuncData}(F:Fun K "with_numbers" "with_numbers" be f fd)(T:Txt mg):FnOk P w K mg base CX0 1 f fd ["tree","numbers"] pX:=by
 refine F.ok yU (λvs H Q E h=>?_) (λcdv A outer s H vs Q E hr h=>?_)
 ·obtain⟨t,d,zs,kvs,g,rfl,_⟩:=h;rfl
 ·obtain⟨t,d,zs,kvs,g,rfl,ht,hA,hl,hd,hg,hnd,q⟩:=h;refine⟨_,am (aF (aD bg rfl T.tuple rfl (aa (aT cA rfl T.sorted boot_sorted (aa (dj (N:=["node","numbers"]) (cl:=[("numbers",s.heap.objs.size+1)]) (k:=1) (js:=[1]) (g:=aJ 0) rfl
    (LcOk.mk' ["numbers"] rfl rfl (by decide +kernel) (by decide +kernel) ?hcl rfl (by decide +kernel)) rfl ?hj (bJ (pv 0)) (λs H fp=>ap (i:=0) (show(["node","numbers"]:List Str).Nodup by decide +kernel) rfl (Or.inl rfl) (Or.inr rfl))
    (λs H fp=>aK (r:=sU K) iL (bh (aa (cx (cr hr) (pv 1) (aQ (r:=cw K) aG (pv 0) aj (λ_ _=>rfl)) (λ_ _=>rfl)) (aa (cx (cr hr) (pv 1) (aQ (r:=cw K) aG (pv 0) aj (λ_ _=>rfl)) (λ_ _=>rfl)) af))) (cY (r:=rp K) jf (pv 0) (dh aj) eP))) af)) af))),?_⟩
  case hcl =>
   intro y hy;rcases mem_cons.mp hy with e|hy
   ·rw[e];rfl
   ·cases hy
  case hj =>
   intro i j x h1 h2
   match i,h1,h2 with
   |0,h1,h2 =>
    cases h1;cases h2;exact⟨rfl,Or.inr (Or.inl rfl),(show((ai be).names.lookup ("numbers":Str)≠some NameKind.local)by decide +kernel),by first|exact Or.inl rfl|exact Or.inr rfl⟩
   |i+1,h1,h2=>simp at h1
  refine⟨_,rfl,t,rfl,⟨_,SqL.of ht⟩,λp hp=>?_⟩;refine bM (fr:=[some (.ref d)]) zs (λz=>V.ref z.1) (by omega) hp (cI (by rw[aC];exact SqL.of ht)) rfl (λz y H'=>∃q,y=.ref q∧q≠p∧H' q=some (.tup (vals (reN g z.2)))) (λz y H H' ⟨q,e,ne,h⟩ ex=>⟨q,e,ne,ex q _ ne h⟩) (λz H' k mz s1 hpl hk=>?_) (λys H' s1 hp' hys=>?_)
  ·obtain⟨g1,g2⟩:=hg z mz;have hd1:=s1 _ _ hd;have hz1:=s1 _ _ (hA z mz);have d1:cK H' d (.int z.2.num) (some (.int (g z.2.num))):=by rw[←g1];exact cK.k (k:=Sum.inl z.2.num) hd1
   have d2:cK H' d (.int z.2.par) (some (.int (g z.2.par))):=by rw[←g2];exact cK.k (k:=Sum.inl z.2.par) hd1
   refine⟨_,rfl,_,rfl,z.1,_,_,_,rfl,rfl,SqT.of hz1,at0 z.2,d,_,rfl,d1,?_⟩;refine⟨_,rfl,_,rfl,z.1,_,_,_,rfl,rfl,SqT.of hz1,at1 z.2,d,_,rfl,d2,le2,λc hc=>?_⟩;have s2:=ae (o:=.tup [.int (g z.2.num),.int (g z.2.par)]) hc;have ecut:gR (vals z.2) (some 2) none=[.str z.2.nm,stV z.2.st]:=rfl;refine⟨_,rfl,_,rfl,z.1,_,rfl,SqT.of (s2 _ _ hz1),(by intro h;exact absurd h.1 (show ¬HT.sIx 4 0 (some 2)=0 by decide)),λt' ht'=>?_⟩;rw[ecut];have s3:=s2.trans (ae (o:=.tup [.str z.2.nm,stV z.2.st]) ht');refine⟨c,t',_,_,rfl,rfl,SqT.of (ca ht' ac),SqT.of ac,by simp,(show 4≤sizeLine from aW (by decide)),λh=>absurd h (List.cons_ne_nil _ _),λ_ q hq=>?_⟩;have hpl3:∃ys,upd (upd H' c (.tup [.int (g z.2.num),.int (g z.2.par)])) t' (.tup [.str z.2.nm,stV z.2.st]) p=some (.lst ys):=let⟨ys,e⟩:=hpl;⟨ys,s3 _ _ e⟩;exact hk _ _ (s3.trans (ae hq)) ⟨q,rfl,ck hpl3 hq,ac⟩
  ·obtain⟨cs,e1,e2,e3⟩:=bE (val:=V.ref) (S:=λ(z:Addr×Nd) (q:Addr)=>H' q=some (.tup (vals (reN g z.2)))) hys (λz y _ ⟨q,e,_,h⟩=>⟨q,e,h⟩);have er:ys=av (cs.map λx=>(x.2,reN g x.1.2)):=by rw[e2,←aC,map_map];rfl
   have en:nds (cs.map λx=>(x.2,reN g x.1.2))=(nds zs).map (reN g):=by rw[←e1];unfold nds;rw[map_map,map_map,map_map];rfl
   have hcl:cs.length=zs.length:=by rw[←e1,length_map]
   have hsq:SqL K H' p (av (cs.map λx=>(x.2,reN g x.1.2))):=SqL.of (by rw[hp',er]);refine iA (K:=K) (H:=H') (l:=p) (zs:=cs.map λx=>(x.2,reN g x.1.2)) (Q:=Q) (.inl hsq) (λz hz=>?_) ?_ (by rw[length_map];omega) (λus t' H2 s2 ht' hA' hpm hrise=>?_)
   ·obtain⟨x,hx,rfl⟩:=mem_map.mp hz;exact e3 x hx
   ·rw[en,map_map];unfold nds;rw[map_map];exact hnd
   ·refine q us t' H2 (s1.trans s2) ht' hA' ?_ hrise;have:(nds us).Perm (nds (cs.map λx=>(x.2,reN g x.1.2))):=hpm.map _;rw[en]at this;exact this
def mV:Sp:=λvs H Q _=>∃t k zs,vs=[.ref t,.int k]∧Tre H t zs∧0≤k∧k≤60∧ik zs k ∧
 (∀(ms:List Int) d H',Same H H'→H d=none→H' d=some (.dK (inK ms))→ms.Pairwise (λa b=>a<b)→ms.length≤zs.length→(∀x,x∈ms↔∃n∈nds zs,n.num=x∧TW.Reach (nds zs) k n)→Q (.ref d) H')
theorem Ak:FnScope ["tree","number"] ["tree","number"] (ai cO):=fsc
theorem wW{f CN:Addr}{fd:FuncData}(F:Fun K "inner_numbers" "inner_numbers" cO f fd)(T:Txt mg)(CB:Has P w K mg base 1 "by_number" ["tree"] eO)(CFo:Has P w K mg base 2 "check_folder" ["nodes","number"] oH)(CL:mv P w K mg base 2 "below" ["tree","number"] (qK CN)):FnOk P w K mg base CX0 3 f fd ["tree","number"] mV:=by
 obtain⟨fB,fdB,GB,mB,kB,bB⟩:=CB;obtain⟨fF,fdF,GF,mF,kF,bF⟩:=CFo;obtain⟨fL,fdL,GL,mL,kL,bL⟩:=CL;refine F.ok Ak (λvs H Q E h=>?_) (λcdv A outer s H vs Q E hr h=>?_)
 ·obtain⟨t,k,zs,rfl,_⟩:=h;rfl
 ·obtain⟨t,k,zs,rfl,tr,k0,k1,hk,q⟩:=h;have hr1:Room 1 _:=hr.mono (by decide);have hl:=tr.len;have hnd:=bD tr.tr;refine⟨_,ag (ci (ak GF hr rfl mF kF bF .nil au (aa (ak GB hr1 rfl mB kB bB .nil au (aa (pv 0) af)) (aa (pv 1) af))))
   (am (aF (aD (cu rfl) rfl T.dict boot_dict (aa (dj (N:=["inner"]) (k:=1) (js:=[]) (g:=aJ 0) rfl (cj rfl (by decide +kernel) (by decide +kernel) (by decide +kernel)) rfl (λi j x h=>by simp at h)
    (bJ (ak GL hr rfl mL kL bL .nil qD (aa (pv 0) (aa (pv 1) af)))) (λs H fp=>ap (i:=0) (show(["inner"]:List Str).Nodup by decide +kernel) rfl (Or.inl rfl) (Or.inr rfl))
    (λs H fp=>bh (aa (pv 0) (aa fD af)))) af)))),?_⟩
  have hk':k=0∨∃z∈zs,z.2.num=k:=hk.imp id λ⟨z,hz,e,_⟩=>⟨z,hz,e⟩;refine⟨_,rfl,t,zs,rfl,tr.tup,tr.nod,by omega,hnd,λd H1 s1 nd1=>⟨_,rfl,d,k,zs,rfl,nd1,tr.nod.same s1,hnd,k0,k1,hk,?_⟩⟩;refine⟨_,rfl,_,rfl,t,k,zs,rfl,tr.same s1,k0,k1,λ_ ms l H2 s2 hms hml0 hm hl2=>?_,λh0 hno=>?_⟩
  case refine_2 =>
   rcases hk' with e|⟨z,hz,e⟩
   ·exact absurd e h0
   ·exact absurd e (hno z hz)
  have hml:ms.length≤1000:=by omega
  refine⟨l,rfl,⟨_,SqL.of hl2⟩,λp hp=>?_⟩;refine bM (fr:=[]) ms V.int hml hp (cI (SqL.of hl2)) rfl (λm y H'=>∃q,y=.ref q∧q≠p∧H' q=some (.tup [.int m,.bl true])) (λm y H H' ⟨q,e,ne,h⟩ ex=>⟨q,e,ne,ex q _ ne h⟩) (λm H' k _ s3 hpl hk=>?_) (λys H3 s3 hp3 hys=>?_)
  ·exact⟨_,rfl,le2,λq hq=>hk _ _ (ae hq) ⟨q,rfl,ck hpl hq,ac⟩⟩
  ·obtain⟨bs,e1,e2,e3⟩:=bE (val:=V.ref) (S:=λ(m:Int) (q:Addr)=>H3 q=some (.tup [.int m,.bl true])) hys (λm y _ ⟨q,e,_,h⟩=>⟨q,e,h⟩);have s123:=(s1.trans s2).trans s3;have hbl:bs.length=ms.length:=by rw[←e1,length_map]
   refine⟨p,bs.map λx=>(x.2,(Sum.inl x.1:Key),V.bl true),rfl,by rw[hp3,e2,map_map,map_map];rfl,λy hy=>?_,by rw[length_map];omega,?_,λg hg=>?_⟩
   ·obtain⟨x,hx,rfl⟩:=mem_map.mp hy;exact e3 x hx
   ·rw[map_map];have e4:bs.map ((λx:Addr×Key×V=>x.2.1)∘λx=>(x.2,(Sum.inl x.1:Key),V.bl true))=ms.map (Sum.inl:Int→Key):=by rw[←e1,map_map];rfl
    rw[e4];unfold Nodup;rw[pairwise_map];exact hms.imp λh e=>by injection e with e;omega
   ·refine q ms g _ (s123.trans (ae hg)) (s123.free hg) ?_ hms hml0 hm;rw[ac,map_map];have e5:bs.map ((λx:Addr×Key×V=>x.2)∘λx=>(x.2,(Sum.inl x.1:Key),V.bl true))=inK ms:=by unfold inK;rw[←e1,map_map];rfl
    exact congrArg (λx=>some (HO.dK x)) e5
end
def idK(ms:List Int):List (Key×V):=ms.map λm=>((Sum.inl m:Key),V.int m)
theorem oN(ms:List Int):(inK ms).map (λp=>kV p.1)=ms.map V.int:=by unfold inK;rw[map_map];rfl
theorem mX{ms:List Int}(h:ms.Nodup):(ms.map (Sum.inl:Int→Key)).Nodup:=by
 unfold Nodup at h⊢;rw[pairwise_map];exact h.imp λh e=>h (by injection e)
theorem qU{H:Hp}{d:Addr}{ms:List Int}(hd:Rd H d (.dK (inK ms)))(hn:ms.Nodup)(k:Int):∃o:Option V,cK H d (.int k) o∧o.isSome=decide (k∈ms):=by
 refine⟨bc (inK ms) (Sum.inl k:Key),.inl ⟨inK ms,Sum.inl k,hd,rfl,rfl⟩,?_⟩;have hk:(inK ms).map (·.1)=ms.map (Sum.inl:Int→Key):=by unfold inK;rw[map_map];rfl
 by_cases h:k∈ms
 ·rw[decide_eq_true h,eL (v:=.bl true) (by rw[hk];exact mX hn) (by unfold inK;exact mem_map.mpr ⟨k,h,rfl⟩)];rfl
 ·rw[decide_eq_false h,mr (by
   rw[hk];intro hm;obtain⟨j,hj,e⟩:=mem_map.mp hm;injection e with e
   exact h (by rw[←e];exact hj))]
  rfl
theorem jY{ms:List Int}(h:ms.Pairwise λa b=>a<b):ms.Nodup:=h.imp λh e=>by omega
theorem uW{zs:ZN}(T:TW.Tree1 (nds zs)){k:Int}{ms:List Int}(hm:∀x,x∈ms↔∃n∈nds zs,n.num=x∧TW.Reach (nds zs) k n){z:Addr×Nd}(hz:z∈zs):decide (z.2.num∈ms)=isB zs k z:=by
 rw[Bool.eq_iff_iff,decide_eq_true_iff,iU,hm];constructor
 ·rintro⟨n,hn,e,hr⟩;have:=T.inj hn (aP hz) e;rw[←this];exact hr
 ·exact λh=>⟨z.2,aP hz,rfl,h⟩
theorem mY(zs:ZN)(k:Int):nds (bel zs k)=TW.il (nds zs) k:=by
 unfold bel TW.il nds;rw[filter_map]
 congr 1
section
variable{P:Program}{w:World}{K:PySem.W.Frag}{mg:Str→Option Value}{base:Heap}
def oO:Sp:=λvs H Q _=>∃t k zs,vs=[.ref t,.int k]∧Tre H t zs∧0≤k∧k≤60∧ik zs k∧∀t' us H',Same H H'→Tre H' t' us→nds us=TW.iK (nds zs) k→Q (.ref t') H'
theorem uX:FnScope ["tree","number","inner","numbers"] ["tree","number"] (ai eU):=fsc
theorem yV{f:Addr}{fd:FuncData}(F:Fun K "cut_out" "cut_out" eU f fd)(T:Txt mg)(CI:Has P w K mg base 3 "inner_numbers" ["tree","number"] mV)(CW:Has P w K mg base 1 "with_numbers" ["tree","numbers"] pX):FnOk P w K mg base CX0 4 f fd ["tree","number"] oO:=by
 obtain⟨fI,fdI,GI,mI,kI,bI⟩:=CI;obtain⟨fW,fdW,GW,mW,kW,bW⟩:=CW;obtain⟨tt,hT⟩:=T.top;refine F.ok uX (λvs H Q E h=>?_) (λcdv A outer s H vs Q E hr h=>?_)
 ·obtain⟨t,k,zs,rfl,_⟩:=h;rfl
 ·obtain⟨t,k,zs,rfl,tr,k0,k1,hk,q⟩:=h;have hr1:Room 1 _:=hr.mono (by decide);have hl:=tr.len;refine⟨_,ag (aA (i:=2) uX.nd rfl (Or.inr rfl) (ak GI hr rfl mI kI bI .nil au (aa (pv 0) (aa (pv 1) af))))
   (ag (aA (i:=3) uX.nd rfl (Or.inl rfl) (aD (cu rfl) rfl T.dict boot_dict (aa (dj (N:=["one"]) (k:=1) (js:=[]) (g:=aJ 0) rfl (cj rfl (by decide +kernel) (by decide +kernel) (by decide +kernel)) rfl (λi j x h=>by simp at h)
    (zY (pv 2)) (λs H fp=>ap (i:=0) (show(["one"]:List Str).Nodup by decide +kernel) rfl (Or.inl rfl) (Or.inr rfl)) (λs H fp=>bh (aa (pv 0) (aa (pv 0) af)))) af)))
   (ag (lQ (cr hr) (pv 3) (pv 1) (de (v:=.int 0) rfl hT ⟨_,rfl⟩) rfl)
   (am (aF (ak GW hr1 rfl mW kW bW .nil au (aa (dZ (N:=["node","inner"]) (cl:=[("inner",s.heap.objs.size+1)]) (k:=1) (js:=[2]) (g:=aJ 0) rfl
    (LcOk.mk' ["inner"] rfl rfl (by decide +kernel) (by decide +kernel) ?hcl rfl (by decide +kernel)) rfl ?hj (cM (pv 0)) (λs H fp=>ap (i:=0) (show(["node","inner"]:List Str).Nodup by decide +kernel) rfl (Or.inl rfl) (Or.inr rfl))
    (λs H fp=>lH (sY (cr hr) (aQ (r:=cw K) aG (pv 0) aj (λ_ _=>rfl)) (pv 1))) (λs H fp=>pv 0)) (aa (pv 3) af))))))),?_⟩
  case hcl =>
   intro y hy;rcases mem_cons.mp hy with e|hy
   ·rw[e];rfl
   ·cases hy
  case hj =>
   intro i j x h1 h2
   match i,h1,h2 with
   |0,h1,h2 =>
    cases h1;cases h2;exact⟨rfl,Or.inr (Or.inl rfl),(show((ai eU).names.lookup ("inner":Str)≠some NameKind.local)by decide +kernel),by first|exact Or.inl rfl|exact Or.inr rfl⟩
   |i+1,h1,h2=>simp at h1
  refine⟨_,rfl,_,rfl,t,k,zs,rfl,tr,k0,k1,hk,λms d H1 s1 hd0 hd hup hml hm=>?_⟩;have hnd:=jY hup;refine⟨_,rfl,d,_,rfl,hd,λo p hp=>?_⟩;have s1':Same H (upd H1 d (.frz o (.dK (inK ms)))):=aL hd0 s1;have hd1:upd H1 d (.frz o (.dK (inK ms))) d=some (.frz o (.dK (inK ms))):=ac;generalize upd H1 d (.frz o (.dK (inK ms)))=H2 at s1' hd1 hp⊢;rw[oN];refine bM (fr:=[]) ms V.int (by omega) hp (by rw[←oN];exact ul hd1) rfl (λm y H'=>∃q,y=.ref q∧q≠p∧H' q=some (.tup [.int m,.int m])) (λm y H H' ⟨q,e,ne,h⟩ ex=>⟨q,e,ne,ex q _ ne h⟩) (λm H' kk _ s3 hpl hkk=>?_) (λys H3 s3 hp3 hys=>?_)
  ·exact⟨_,rfl,_,rfl,le2,λq hq=>hkk _ _ (ae hq) ⟨q,rfl,ck hpl hq,ac⟩⟩
  obtain⟨bs,e1,e2,e3⟩:=bE (val:=V.ref) (S:=λ(m:Int) (q:Addr)=>H3 q=some (.tup [.int m,.int m])) hys (λm y _ ⟨q,e,_,h⟩=>⟨q,e,h⟩);have hbl:bs.length=ms.length:=by rw[←e1,length_map]
  have s13:=s1'.trans s3;refine⟨p,bs.map λx=>(x.2,(Sum.inl x.1:Key),V.int x.1),rfl,by rw[hp3,e2,map_map,map_map];rfl,λy hy=>?_,by rw[length_map];omega,?_,λg hg=>?_⟩
  ·obtain⟨x,hx,rfl⟩:=mem_map.mp hy;exact e3 x hx
  ·rw[map_map];have e4:bs.map ((λx:Addr×Key×V=>x.2.1)∘λx=>(x.2,(Sum.inl x.1:Key),V.int x.1))=ms.map (Sum.inl:Int→Key):=by rw[←e1,map_map];rfl
   rw[e4];exact mX hnd
  have ekv:(bs.map λx=>(x.2,(Sum.inl x.1:Key),V.int x.1)).map (·.2)=idK ms:=by unfold idK;rw[←e1,map_map,map_map];rfl
  rw[ekv];have hgf:H g=none:=s13.free hg;have s4:=s13.trans (ae (o:=.dK (idK ms)) hg);have hd3:=s3 _ _ hd1;have hd4:=ae (o:=.dK (idK ms)) hg _ _ hd3;have ngd:d≠g:=λe=>by rw[←e,hd3]at hg;cases hg
  refine⟨_,rfl,_,rfl,g,_,rfl,pw.k (k:=Sum.inl k) (kvs:=idK ms) ac (aE (by unfold idK;rw[length_map];omega)),?_⟩;have s5:Same H (upd (upd H3 g (.dK (idK ms))) g (.dK (bY (idK ms) (Sum.inl k:Key) (.int 0)))):=aL hgf s4;have hg5:(upd (upd H3 g (.dK (idK ms))) g (.dK (bY (idK ms) (Sum.inl k:Key) (.int 0)))) g=some (.dK (bY (idK ms) (Sum.inl k:Key) (.int 0))):=ac;have hd5:(upd (upd H3 g (.dK (idK ms))) g (.dK (bY (idK ms) (Sum.inl k:Key) (.int 0)))) d=some (.frz o (.dK (inK ms))):=by rw[al ngd];exact hd4
  generalize upd (upd H3 g (.dK (idK ms))) g (.dK (bY (idK ms) (Sum.inl k:Key) (.int 0)))=H5 at s5 hg5 hd5⊢;have tr5:=tr.same s5;refine⟨_,rfl,t,rfl,⟨_,SqT.of tr5.tup⟩,λp2 hp2=>?_⟩;refine dJ (fr:=[some (.ref d)]) zs (λz=>V.ref z.1) (by omega) hp2 (cb (by rw[aC];exact SqT.of tr5.tup)) rfl (isB zs k) (λz y _=>y=.ref z.1) (λ_ _ _ _ h _=>h) (λz H' kk mz s6 _ hkk=>?_) (λz H' kk mz _ s6 _ hkk=>?_) (λys H6 s6 hp6 hys=>?_)
  ·obtain⟨ov,dg,ho⟩:=qU (H:=H') (d:=d) (ms:=ms) (.inr ⟨o,s6 _ _ hd5⟩) hnd z.2.num;refine⟨_,rfl,z.1,_,_,_,rfl,rfl,SqT.of (s6 _ _ (tr5.nod z mz)),at0 z.2,_,rfl,d,_,rfl,dg,_,rfl,?_⟩;rw[ho,uW tr.tr hm mz];exact hkk H' (Same.refl _)
  ·exact⟨_,rfl,hkk _ H' (Same.refl _) rfl⟩
  have ey:=aU (f:=λz:Addr×Nd=>V.ref z.1) hys (λz y _ h=>h);have hlst:H6 p2=some (.lst (av (bel zs k))):=by rw[hp6,ey,←aC];rfl
  have s56:=s5.trans s6;have hbn:((bel zs k).map λz=>z.2.num).Nodup:=jY (uQ tr.tr _);have hin:∀z∈bel zs k,TW.Reach (nds zs) k z.2:=λz hz=>iU.mp (mem_filter.mp hz).2;have hid:∀x,x∈ms→bc (bY (idK ms) (Sum.inl k:Key) (.int 0)) (Sum.inl x:Key)=some (.int (if x=k then 0 else x)):=λx hx=>by
   rw[dY]
   by_cases e:x=k
   ·rw[if_pos (by rw[e]),if_pos e]
   ·rw[if_neg (λh=>e (by injection h)),if_neg e];exact eL (by
     have:(idK ms).map (·.1)=ms.map (Sum.inl:Int→Key):=by unfold idK;rw[map_map];rfl
     rw[this];exact mX hnd) (by unfold idK;exact mem_map.mpr ⟨x,hx,rfl⟩)
  have hidk:bc (bY (idK ms) (Sum.inl k:Key) (.int 0)) (Sum.inl k:Key)=some (.int (if k=k then 0 else k)):=by rw[dY,if_pos rfl,if_pos rfl]
  refine⟨_,rfl,p2,g,bel zs k,_,λx=>if x=k then 0 else x,rfl,hlst,λz hz=>s56 _ _ (tr.nod z (mJ hz)),by have:=mM zs k;omega,s6 _ _ hg5,λz hz=>⟨hid _ ((hm _).mpr ⟨z.2,aP (mJ hz),rfl,hin z hz⟩),?_⟩,?_,λus t' H7 s7 ht' hA' hpm hri=>?_⟩
  ·have hr':=hin z hz;generalize z.2=n at hr';cases hr' with
   |base _ e=>rw[e];exact hidk
   |@step m _ hrm _ _ e=>rw[e];exact hid _ ((hm _).mpr ⟨m,hrm.mem,rfl,hrm⟩)
  ·have:((bel zs k).map λz=>if z.2.num=k then (0:Int)else z.2.num)=(bel zs k).map λz=>z.2.num:=map_congr_left λz hz=>if_neg (TW.eI tr.tr (hin z hz))
   rw[this];exact hbn
  ·have en:nds us=TW.iK (nds zs) k:=by
    refine TW.gH hri (TW.eX tr.tr.rise k) λn=>?_;rw[hpm.mem_iff,mY,mem_map,TW.cD];constructor
    ·rintro⟨m,hm',rfl⟩;have hrm:=TW.db.mp hm';refine⟨m,hrm,?_⟩;show(⟨if m.num=k then 0 else m.num,if m.par=k then 0 else m.par,m.nm,m.st⟩:Nd)=⟨m.num,if m.par=k then 0 else m.par,m.nm,m.st⟩
     rw[if_neg (TW.eI tr.tr hrm)]
    ·rintro⟨m,hrm,rfl⟩;refine⟨m,TW.db.mpr hrm,?_⟩;show(⟨if m.num=k then 0 else m.num,if m.par=k then 0 else m.par,m.nm,m.st⟩:Nd)=⟨m.num,if m.par=k then 0 else m.par,m.nm,m.st⟩
     rw[if_neg (TW.eI tr.tr hrm)]
   have hul:us.length≤30:=by
    have:=hpm.length_eq;rw[ao,length_map,ao]at this;have:=mM zs k;omega
   exact q t' us H7 (s56.trans s7) ⟨ht',hA',by rw[en];exact TW.sq tr.tr k,hul⟩ en
def uY:Sp:=λvs H Q _=>∃t k zs,vs=[.ref t,.int k]∧Tre H t zs∧0≤k∧k≤60∧ik zs k∧∀t' us H',Same H H'→Tre H' t' us→nds us=TW.woT (nds zs) k→Q (.ref t') H'
theorem Al:FnScope ["tree","number","inner"] ["tree","number"] (ai eV):=fsc
theorem yW(zs:ZN)(k:Int):nds (zs.filter λz=>!isB zs k z)=TW.woT (nds zs) k:=by
 unfold TW.woT nds;rw[filter_map]
 congr 1
theorem Am{f:Addr}{fd:FuncData}(F:Fun K "without" "without" eV f fd)(T:Txt mg)(CI:Has P w K mg base 3 "inner_numbers" ["tree","number"] mV):FnOk P w K mg base CX0 4 f fd ["tree","number"] uY:=by
 obtain⟨fI,fdI,GI,mI,kI,bI⟩:=CI;refine F.ok Al (λvs H Q E h=>?_) (λcdv A outer s H vs Q E hr h=>?_)
 ·obtain⟨t,k,zs,rfl,_⟩:=h;rfl
 ·obtain⟨t,k,zs,rfl,tr,k0,k1,hk,q⟩:=h;have hl:=tr.len;refine⟨_,ag (aA (i:=2) Al.nd rfl (Or.inr rfl) (ak GI hr rfl mI kI bI .nil au (aa (pv 0) (aa (pv 1) af))))
   (am (aF (aD bg rfl T.tuple rfl (aa (dZ (N:=["node","inner"]) (cl:=[("inner",s.heap.objs.size+1)]) (k:=1) (js:=[2]) (g:=aJ 0) rfl
    (LcOk.mk' ["inner"] rfl rfl (by decide +kernel) (by decide +kernel) ?hcl rfl (by decide +kernel)) rfl ?hj (cM (pv 0)) (λs H fp=>ap (i:=0) (show(["node","inner"]:List Str).Nodup by decide +kernel) rfl (Or.inl rfl) (Or.inr rfl))
    (λs H fp=>lH (kY (cr hr) (aQ (r:=cw K) aG (pv 0) aj (λ_ _=>rfl)) (pv 1))) (λs H fp=>pv 0)) af)))),?_⟩
  case hcl =>
   intro y hy;rcases mem_cons.mp hy with e|hy
   ·rw[e];rfl
   ·cases hy
  case hj =>
   intro i j x h1 h2
   match i,h1,h2 with
   |0,h1,h2 =>
    cases h1;cases h2;exact⟨rfl,Or.inr (Or.inl rfl),(show((ai eV).names.lookup ("inner":Str)≠some NameKind.local)by decide +kernel),by first|exact Or.inl rfl|exact Or.inr rfl⟩
   |i+1,h1,h2=>simp at h1
  refine⟨_,rfl,_,rfl,t,k,zs,rfl,tr,k0,k1,hk,λms d H1 s1 hd0 hd hup hml hm=>?_⟩;have hnd:=jY hup;have tr1:=tr.same s1;refine⟨_,rfl,t,rfl,⟨_,SqT.of tr1.tup⟩,λp2 hp2=>?_⟩;refine dJ (fr:=[some (.ref d)]) zs (λz=>V.ref z.1) (by omega) hp2 (cb (by rw[aC];exact SqT.of tr1.tup)) rfl (λz=>!isB zs k z) (λz y _=>y=.ref z.1) (λ_ _ _ _ h _=>h) (λz H' kk mz s6 _ hkk=>?_) (λz H' kk mz _ s6 _ hkk=>?_) (λys H6 s6 hp6 hys=>?_)
  ·obtain⟨ov,dg,ho⟩:=qU (H:=H') (d:=d) (ms:=ms) (.inl (s6 _ _ hd)) hnd z.2.num;refine⟨_,rfl,z.1,_,_,_,rfl,rfl,SqT.of (s6 _ _ (tr1.nod z mz)),at0 z.2,_,rfl,d,_,rfl,dg,_,rfl,?_⟩;rw[ho,uW tr.tr hm mz];exact hkk H' (Same.refl _)
  ·exact⟨_,rfl,hkk _ H' (Same.refl _) rfl⟩
  have ey:=aU (f:=λz:Addr×Nd=>V.ref z.1) hys (λz y _ h=>h);refine⟨p2,_,rfl,.inl ⟨SqL.of hp6,λt' ht'=>?_⟩⟩;have s7:=ae (o:=.tup ys) ht';have s17:=(s1.trans s6).trans s7;have en:=yW zs k;refine q t' (zs.filter λz=>!isB zs k z) _ s17 ⟨by rw[ac,ey,←aC],λz hz=>s17 _ _ (tr.nod z (mem_filter.mp hz).1),by rw[en];exact TW.uS tr.tr k,le_trans (length_filter_le _ _) hl⟩ en
end
def shf(k gr n:Int):Int:=if n=0 then k else n+gr
theorem oQ{l m:List Nd}(hl:TW.br l)(hm:TW.br m)(h:l.Perm m):l=m:=dO (R:=λa b:Nd=>a.num<b.num) (λa=>Int.lt_irrefl _) (λa b h1 h2=>by omega) hl hm λx=>h.mem_iff
def shK(os:ZN)(gr:Int):List (Key×V):=os.map λz=>((Sum.inl z.2.num:Key),V.int (z.2.num+gr))
theorem iV{os:ZN}{gr k:Int}(hn:(os.map λz=>z.2.num).Nodup){z:Addr×Nd}(hz:z∈os)(h1:1≤z.2.num):bc (bY (shK os gr) (Sum.inl 0:Key) (.int k)) (Sum.inl z.2.num:Key)=some (.int (shf k gr z.2.num)):=by
 have hne:¬(Sum.inl z.2.num:Key)=Sum.inl 0:=λh=>by injection h with h;omega
 rw[dY,if_neg hne];unfold shf;rw[if_neg (by omega)];refine eL ?_ (mem_map.mpr ⟨z,hz,rfl⟩);unfold shK;rw[map_map];unfold Nodup at hn⊢;rw[pairwise_map]at hn⊢;exact hn.imp λh e=>h (by injection e)
theorem qV{os:ZN}{gr k:Int}:bc (bY (shK os gr) (Sum.inl 0:Key) (.int k)) (Sum.inl 0:Key)=some (.int (shf k gr 0)):=by
 rw[dY,if_pos rfl];rfl
section
variable{P:Program}{w:World}{K:PySem.W.Frag}{mg:Str→Option Value}{base:Heap}
def GrS(zs:ZN)(gr:Int):Prop:=(zs=[]∧gr=0)∨GrI (nums zs) (nums zs).length gr
def qW(CT:Addr):Sp:=λvs H Q E=>∃t k o zs os,vs=[.ref t,.int k,.ref o]∧Tre H t zs∧Tre H o os∧0≤k∧k≤60∧ik zs k∧∀gr,GrS zs gr →
  (TW.bx (nds zs++(nds os).map (reN (shf k gr)))→∀us w H',Same H H'→H' w=some (.tup (av us))→At H' us→nds us=nds zs++(nds os).map (reN (shf k gr))→Q (.ref w) H')∧(¬TW.bx (nds zs++(nds os).map (reN (shf k gr)))→∀H',Same H H'→E (.ref CT) none H')
theorem iC:FnScope ["tree","number","other","greatest","numbers","whole"] ["tree","number","other"] (ai cc):=fsc
def grS(i:Nat):Stmt:=(bv cc).getD i (.Pass ⟨0,0,0,0⟩)
theorem yX{f CT:Addr}{cdv:Value}{A:Around}{outer:List Env}{s:Shared}{H:Hp}{E:XK}(O:qI "Taken" mg base CT)(CO:Has P w K mg base 1 "have_own_places" ["nodes"] jV)(hr:Room 1 (A.deeper (PyProof.Rows.envOfC "grafted" (ai cc) s.heap.objs.size f cdv))):
  ∃rd,PSs (fM (CX1 P w) P w K mg base ["tree","number","other","greatest","numbers","whole"] "grafted" (ai cc) f cdv A outer s H E) [grS 5,grS 6] rd∧∀(Q:VK)(H7:Hp)(t o g wh:Addr)(k gr:Int)(ws:ZN),H7 wh=some (.tup (av ws))→At H7 ws→ws.length≤60→0≤k→k≤60→(TW.bx (nds ws)→∀H',Same H7 H'→Q (.ref wh) H')→(¬TW.bx (nds ws)→∀H',Same H7 H'→E (.ref CT) none H') →
   rd {nx:=λ_ H'=>Q .non H',rt:=Q} [some (.ref t),some (.int k),some (.ref o),some (.int gr),some (.ref g),some (.ref wh)] H7:=by
 obtain⟨fO,fdO,GO,mO,kO,bO⟩:=CO;refine⟨_,(ag (cp (sG (sF (ak GO hr rfl mO kO bO .nil au (aa (pv 5) af)) (λ_=>rfl))) (am (nT tY O hr.hd rfl (wd (uk (c:=100) (by decide +kernel) (wS (pv 1) (uk (c:=100) (by decide +kernel) yo))) (by decide)))) bf)
   (am (aF (pv 5)))),?_⟩
 intro Q H7 t o g wh k gr ws hw hA hl k0 k1 q1 q2;refine⟨_,rfl,wh,ws,rfl,hw,hA,hl,λb H8 hb s8=>⟨b,rfl,?_⟩⟩;cases b with
 |true=>exact cy ⟨_,rfl,q1 (hb.mp rfl) H8 s8⟩
 |false=>exact iE ⟨_,rfl,k,rfl,by omega,by omega,λy=>⟨aW (show 1≤1000 by decide),q2 (λh=>absurd (hb.mpr h) (by simp)) H8 s8⟩⟩
theorem wX{f CT:Addr}{fd:FuncData}(F:Fun K "grafted" "grafted" cc f fd)(T:Txt mg)(O:qI "Taken" mg base CT)(CB:Has P w K mg base 1 "by_number" ["tree"] eO)(CFo:Has P w K mg base 2 "check_folder" ["nodes","number"] oH)(CG:Has P w K mg base 1 "greatest_number" ["tree"] lD)(CW:Has P w K mg base 1 "with_numbers" ["tree","numbers"] lE)(CO:Has P w K mg base 1 "have_own_places" ["nodes"] jV):FnOk P w K mg base (CX1 P w) 3 f fd ["tree","number","other"] (qW CT):=by
 obtain⟨fB,fdB,GB,mB,kB,bB⟩:=CB;obtain⟨fF,fdF,GF,mF,kF,bF⟩:=CFo;obtain⟨fG,fdG,GG,mG,kG,bG⟩:=CG;obtain⟨fW,fdW,GW,mW,kW,bW⟩:=CW;obtain⟨tt,hT⟩:=T.top;refine F.okX iC (λvs H Q E h=>?_) (λcdv A outer s H vs Q E hr h=>?_)
 ·obtain⟨t,k,o,zs,os,rfl,_⟩:=h;rfl
 ·obtain⟨t,k,o,zs,os,rfl,tr,tro,k0,k1,hk,qq⟩:=h;have hr1:Room 1 _:=hr.mono (by decide);have hl:=tr.len;have hnd:=bD tr.tr;have hol:=tro.len;obtain⟨re,pe,he⟩:=yX (f:=f) (cdv:=cdv) (A:=A) (outer:=outer) (s:=s) (H:=H) (E:=E) O CO hr1;have ho:=tro.tup;have hA:=tro.nod;refine⟨_,ag (ci (ak GF hr rfl mF kF bF .nil au (aa (ak GB hr1 rfl mB kB bB .nil au (aa (pv 0) af)) (aa (pv 1) af))))
   (ag (aA (i:=3) iC.nd rfl (Or.inr rfl) (ak GG hr1 rfl mG kG bG .nil au (aa (pv 0) af)))
   (ag (aA (i:=4) iC.nd rfl (Or.inl rfl) (aD (cu rfl) rfl T.dict boot_dict (aa (dj (N:=["node","greatest"]) (cl:=[("greatest",s.heap.objs.size+1)]) (k:=1) (js:=[3]) (g:=aJ 0) rfl
    (LcOk.mk' ["greatest"] rfl rfl (by decide +kernel) (by decide +kernel) ?hcl rfl (by decide +kernel)) rfl ?hj (cM (pv 2)) (λs H fp=>ap (i:=0) (show(["node","greatest"]:List Str).Nodup by decide +kernel) rfl (Or.inl rfl) (Or.inr rfl))
    (λs H fp=>bh (aa (aQ (r:=cw K) aG (pv 0) aj (λ_ _=>rfl)) (aa (aK bq (aQ (r:=cw K) aG (pv 0) aj (λ_ _=>rfl)) (pv 1)) af)))) af)))
   (ag (lQ (cr hr) (pv 4) (de (v:=.int 0) rfl hT ⟨_,rfl⟩) (pv 1) rfl)
   (ag (aA (i:=5) iC.nd rfl (Or.inl rfl) (aK (jw.or iL) (pv 0) (ak GW hr1 rfl mW kW bW .nil au (aa (pv 2) (aa (pv 4) af)))))
   pe)))),?_⟩
  case hcl =>
   intro y hy;rcases mem_cons.mp hy with e|hy
   ·rw[e];rfl
   ·cases hy
  case hj =>
   intro i j x h1 h2
   match i,h1,h2 with
   |0,h1,h2 =>
    cases h1;cases h2;exact⟨rfl,Or.inr (Or.inl rfl),(show((ai cc).names.lookup ("greatest":Str)≠some NameKind.local)by decide +kernel),by first|exact Or.inl rfl|exact Or.inr rfl⟩
   |i+1,h1,h2=>simp at h1
  have hpos:∀z∈os,1≤z.2.num:=λz hz=>tro.tr.pos z.2 (aP hz);have hpar:∀z∈os,z.2.par=0∨∃y∈os,y.2.num=z.2.par:=λz hz=>by
   have:=tro.tr.down z.2 (aP hz);generalize z.2=n at this;cases this with
   |base _ e=>exact .inl e
   |@step m _ hrm _ _ e =>
    obtain⟨y,hy,ey⟩:=cm hrm.mem;exact .inr ⟨y,hy,by rw[ey,e]⟩
  have hrise:=tro.tr.rise;refine⟨_,rfl,t,zs,rfl,tr.tup,tr.nod,by omega,hnd,λd H1 s1 nd1=>⟨_,rfl,d,k,zs,rfl,nd1,tr.nod.same s1,hnd,k0,k1,hk,?_⟩⟩;have tr1:=tr.same s1;refine⟨_,rfl,t,zs,rfl,tr1.tup,tr1.nod,by omega,λgr H2 s2 hgr=>?_⟩;obtain⟨qok,qno⟩:=qq gr hgr;have s12:=s1.trans s2;have ho2:=s12 _ _ ho;have hA2:=hA.same s12;have hon:(os.map λz=>z.2.num).Nodup:=by
   have:=hrise;unfold TW.br nds at this;unfold Nodup;rw[pairwise_map]at this⊢;exact this.imp λh=>by omega
  refine⟨_,rfl,o,rfl,⟨_,SqT.of ho2⟩,λp hp=>?_⟩;refine bM (fr:=[some (.int gr)]) os (λz=>V.ref z.1) (by omega) hp (cb (by rw[aC];exact SqT.of ho2)) rfl (λz y H'=>∃q,y=.ref q∧q≠p∧H' q=some (.tup [.int z.2.num,.int (z.2.num+gr)])) (λz y H H' ⟨q,e,ne,h⟩ ex=>⟨q,e,ne,ex q _ ne h⟩) (λz H' kk mz s3 hpl hk'=>?_) (λys H3 s3 hp3 hys=>?_)
  ·have hz3:=s3 _ _ (hA2 z mz);exact⟨_,rfl,z.1,_,_,_,rfl,rfl,SqT.of hz3,at0 z.2,_,rfl,z.1,_,_,_,rfl,rfl,SqT.of hz3,at0 z.2,_,rfl,_,_,rfl,rfl,le2,λq hq=>hk' _ _ (ae hq) ⟨q,rfl,ck hpl hq,ac⟩⟩
  ·obtain⟨bs,e1,e2,e3⟩:=bE (val:=V.ref) (S:=λ(z:Addr×Nd) (q:Addr)=>H3 q=some (.tup [.int z.2.num,.int (z.2.num+gr)])) hys (λz y _ ⟨q,e,_,h⟩=>⟨q,e,h⟩);have s123:=s12.trans s3;have hbl:bs.length=os.length:=by rw[←e1,length_map]
   refine⟨p,bs.map λx=>(x.2,(Sum.inl x.1.2.num:Key),V.int (x.1.2.num+gr)),rfl,by rw[hp3,e2,map_map,map_map];rfl,λy hy=>?_,by rw[length_map];omega,?_,λg hg=>?_⟩
   ·obtain⟨x,hx,rfl⟩:=mem_map.mp hy;exact e3 x hx
   ·rw[map_map];have e4:bs.map ((λx:Addr×Key×V=>x.2.1)∘λx=>(x.2,(Sum.inl x.1.2.num:Key),V.int (x.1.2.num+gr)))=(os.map λz=>z.2.num).map (Sum.inl:Int→Key):=by rw[←e1,map_map,map_map];rfl
    rw[e4];unfold Nodup at hon⊢;rw[pairwise_map];exact hon.imp λh e=>h (by injection e)
   ·have ekv:(bs.map λx=>(x.2,(Sum.inl x.1.2.num:Key),V.int (x.1.2.num+gr))).map (·.2)=shK os gr:=by unfold shK;rw[←e1,map_map,map_map];rfl
    rw[ekv];have hgfree:H g=none:=s123.free hg;have s4:=s123.trans (ae (o:=.dK (shK os gr)) hg);refine⟨_,rfl,_,rfl,g,_,rfl,pw.k (k:=Sum.inl 0) (kvs:=shK os gr) ac (aE (by unfold shK;rw[length_map];omega)),?_⟩;have s5:Same H (upd (upd H3 g (.dK (shK os gr))) g (.dK (bY (shK os gr) (Sum.inl 0:Key) (.int k)))):=aL hgfree s4;have hgo:(upd (upd H3 g (.dK (shK os gr))) g (.dK (bY (shK os gr) (Sum.inl 0:Key) (.int k)))) g=some (.dK (bY (shK os gr) (Sum.inl 0:Key) (.int k))):=ac;generalize upd (upd H3 g (.dK (shK os gr))) g (.dK (bY (shK os gr) (Sum.inl 0:Key) (.int k)))=H5 at s5 hgo⊢;have hgN:(os.map λz=>shf k gr z.2.num).Nodup:=by
     have:=hrise;unfold TW.br nds at this;unfold Nodup;rw[pairwise_map]at this⊢;refine this.imp_of_mem λ{a b} ha hb hab=>?_;have h1:=hpos a ha;have h2:=hpos b hb;unfold shf;rw[if_neg (by omega),if_neg (by omega)];omega
    refine⟨_,rfl,_,rfl,_,rfl,o,g,os,_,shf k gr,rfl,s5 _ _ ho,hA.same s5,by omega,hgo,λz hz=>⟨iV hon hz (hpos z hz),?_⟩,hgN,λus t6 H6 s6 ht6 hA6 hpm hr6=>?_⟩
    ·rcases hpar z hz with e|⟨y,hy,e⟩
     ·rw[e];exact qV
     ·rw[←e];exact iV hon hy (hpos y hy)
    have hrm:TW.br ((nds os).map (reN (shf k gr))):=by
     unfold TW.br at hrise⊢;rw[pairwise_map];refine hrise.imp_of_mem λ{a b} ha hb hab=>?_;obtain⟨za,hza,rfl⟩:=cm ha;obtain⟨zb,hzb,rfl⟩:=cm hb;have h1:=hpos za hza;have h2:=hpos zb hzb;show shf k gr za.2.num<shf k gr zb.2.num;unfold shf;rw[if_neg (by omega),if_neg (by omega)];omega
    have eu:=oQ hr6 hrm hpm;have hul:us.length=os.length:=by
     have:=congrArg length eu;rw[length_map,ao,ao]at this;exact this
    have s56:=s5.trans s6;have end_:nds (zs++us)=nds zs++(nds os).map (reN (shf k gr)):=by rw[←eu];unfold nds;rw[map_append]
    have hrf:av (zs++us)=av zs++av us:=by unfold av;rw[map_append,map_append]
    have fin:∀(wh:Addr)(H7:Hp),Same H H7→Same H6 H7→H7 wh=some (.tup (av (zs++us)))→re {nx:=λ_ H'=>Q .non H',rt:=Q} [some (.ref t),some (.int k),some (.ref o),some (.int gr),some (.ref g),some (.ref wh)] H7:=λwh H7 sA sB hwt=>by
     have hwA:At H7 (zs++us):=λz hz=>by
      rcases mem_append.mp hz with h|h
      ·exact sA _ _ (tr.nod z h)
      ·exact sB _ _ (hA6 z h)
     refine he Q H7 t o g wh k gr (zs++us) hwt hwA (by rw[length_append];omega) k0 k1 (λhp H8 s8=>?_) (λhp H8 s8=>?_)
     ·rw[end_]at hp;exact qok hp (zs++us) wh H8 (sA.trans s8) (s8 _ _ hwt) (λz hz=>s8 _ _ (hwA z hz)) end_
     ·rw[end_]at hp;exact qno hp H8 (sA.trans s8)
    by_cases hz0:zs=[]
    ·refine .inl ⟨t,t6,_,rfl,rfl,SqT.of ?_,SqT.of ht6,fin t6 H6 s56 (Same.refl _) ?_⟩
     ·have:=s56 _ _ tr.tup;rw[hz0]at this;exact this
     ·rw[ht6,hz0];rfl
    ·have hne1:av zs≠[]:=λh=>hz0 (length_eq_zero_iff.mp (by rw[←bd,h];rfl));refine .inr ⟨t,t6,_,_,rfl,rfl,SqT.of (s56 _ _ tr.tup),SqT.of ht6,hne1,aW (by rw[bd,bd];show _≤1000;omega),λh=>?_,λ_ wh hwh=>?_⟩
     ·refine fin t H6 s56 (Same.refl _) ?_;rw[s56 _ _ tr.tup,hrf,h,append_nil]
     ·have s7:=ae (o:=.tup (av zs++av us)) hwh;exact fin wh _ (s56.trans s7) s7 (by rw[ac,hrf])
def iW:Sp:=λvs H Q _=>∃t zs x,vs=[.ref t,.str x]∧H t=some (.tup (av zs))∧At H zs∧zs.length≤100∧∀l H',Same H H'→H l=none→H' l=some (.lst (uO (zs.filter λz=>decide (z.2.nm=x))))→Q (.ref l) H'
theorem wY:FnScope ["tree","name"] ["tree","name"] (ai iS):=fsc
theorem uZ{f:Addr}{fd:FuncData}(F:Fun K "named" "named" iS f fd):FnOk P w K mg base CX0 1 f fd ["tree","name"] iW:=by
 refine F.ok wY (λvs H Q E h=>?_) (λcdv A outer s H vs Q E hr h=>?_)
 ·obtain⟨t,zs,x,rfl,_⟩:=h;rfl
 ·obtain⟨t,zs,x,rfl,ht,hA,hl,q⟩:=h;refine⟨_,am (aF (dZ (N:=["node","name"]) (cl:=[("name",s.heap.objs.size+1)]) (k:=1) (js:=[1]) (g:=aJ 0) rfl
    (LcOk.mk' ["name"] rfl rfl (by decide +kernel) (by decide +kernel) ?hcl rfl (by decide +kernel)) rfl ?hj (cM (pv 0)) (λs H fp=>ap (i:=0) (show(["node","name"]:List Str).Nodup by decide +kernel) rfl (Or.inl rfl) (Or.inr rfl))
    (λs H fp=>aI sN (aQ (r:=cw K) aG (pv 0) aj (λ_ _=>rfl)) (pv 1) (aR _)) (λs H fp=>aQ (r:=cw K) aG (pv 0) aj (λ_ _=>rfl)))),?_⟩
  case hcl =>
   intro y hy;rcases mem_cons.mp hy with e|hy
   ·rw[e];rfl
   ·cases hy
  case hj =>
   intro i j x h1 h2
   match i,h1,h2 with
   |0,h1,h2 =>
    cases h1;cases h2;exact⟨rfl,Or.inr (Or.inl rfl),(show((ai iS).names.lookup ("name":Str)≠some NameKind.local)by decide +kernel),by first|exact Or.inl rfl|exact Or.inr rfl⟩
   |i+1,h1,h2=>simp at h1
  refine⟨_,rfl,t,rfl,⟨_,SqT.of ht⟩,λp hp=>?_⟩;refine dJ (fr:=[some (.str x)]) zs (λz=>V.ref z.1) (by omega) hp (cb (by rw[aC];exact SqT.of ht)) rfl (λz=>decide (z.2.nm=x)) (λz y _=>y=.int z.2.num) (λ_ _ _ _ h _=>h) (λz H' k mz s1 _ hk=>?_) (λz H' k mz _ s1 _ hk=>?_) (λys H' s1 hp' hys=>?_)
  ·refine⟨_,rfl,z.1,_,_,_,rfl,rfl,SqT.of (s1 _ _ (hA z mz)),at2 z.2,_,rfl,rfl,_,rfl,?_⟩;have e:decide (V.str z.2.nm=V.str x)=decide (z.2.nm=x):=by simp
   rw[e];exact hk H' (Same.refl _)
  ·exact⟨_,rfl,z.1,_,_,_,rfl,rfl,SqT.of (s1 _ _ (hA z mz)),at0 z.2,hk _ H' (Same.refl _) rfl⟩
  ·have ey:=aU (f:=λz:Addr×Nd=>V.int z.2.num) hys (λz y _ h=>h);exact q p H' s1 hp (by rw[hp',ey];rfl)
def nb:Sp:=λvs H Q _=>∃t k zs p,vs=[.ref t,.int k]∧Tre H t zs∧1≤k∧k≤60∧(∃z∈zs,z.2.num=k)∧TW.PathTo (nds zs) k p∧∀t' H',Same H H'→H' t'=some (.tup (p.map V.str))→Q (.ref t') H'
theorem va:FnScope ["tree","number","nodes"] ["tree","number"] (ai yx):=fsc
theorem wZ{f C:Addr}{fd:FuncData}(F:Fun K "path_of" "path_of" yx f fd)(CB:Has P w K mg base 1 "by_number" ["tree"] eO)(CN:mv P w K mg base 1 "node_of" ["nodes","number"] (oG C))(CU:Has P w K mg base 1 "path_up" ["nodes","number"] qL):
  FnOk P w K mg base CX0 2 f fd ["tree","number"] nb:=by
 obtain⟨fB,fdB,GB,mB,kB,bB⟩:=CB;obtain⟨fN,fdN,GN,mN,kN,bN⟩:=CN;obtain⟨fU,fdU,GU,mU,kU,bU⟩:=CU;refine F.ok va (λvs H Q E h=>?_) (λcdv A outer s H vs Q E hr h=>?_)
 ·obtain⟨t,k,zs,p,rfl,_⟩:=h;rfl
 ·obtain⟨t,k,zs,p,rfl,tr,h0,h1,⟨z,hz,e⟩,hp,q⟩:=h;have hnd:=bD tr.tr;have hl:=tr.len;refine⟨_,ag (aA (i:=2) va.nd rfl (Or.inl rfl) (ak GB hr rfl mB kB bB .nil au (aa (pv 0) af)))
   (ag (ci (ak GN hr rfl mN kN bN .nil qD (aa (pv 2) (aa (pv 1) af))))
   (am (aF (ak GU hr rfl mU kU bU .nil au (aa (pv 2) (aa (pv 1) af)))))),?_⟩
  refine⟨_,rfl,t,zs,rfl,tr.tup,tr.nod,by omega,hnd,λd H1 s1 nd1=>?_⟩;refine⟨_,rfl,_,rfl,d,k,zs,rfl,nd1,hnd,by omega,h1,λ_ _ _=>?_,λhk=>absurd e (hk z hz)⟩;exact⟨_,rfl,_,rfl,d,_,zs,p,rfl,nd1,tr.nod.same s1,tr.tr,by omega,hp,λt' H2 s2 ht'=>q t' H2 (s1.trans s2) ht'⟩
end
end TK
namespace L2
open PySem PySem.Spec PyProof.Rows
section
variable{X:Cx}{pins:List (Addr×Obj)}{σ:St}{H:Hp}{s:Shared}
theorem Inv.caughtP{H':Hp}{ea C:Addr}{s':Shared}{B h6:Heap}{a0:Value}(I:Inv X pins σ H s)(F:Fly X.prog X.w X.stack H s H' ea C s')(fl:Heap.FlyingN B X.stack ea (.ref C) a0 s'.heap)(hB:HOk X.prog X.w H' B)(kp:∀b o,s.heap.get? b=some o→H b=none→b∉frs X.stack→B.get? b=some o)(th:∀b o,s.heap.get? b=some o→b∉frs X.stack→∃o',B.get? b=some o')(f6:Heap.FlyingN B X.stack ea (.ref C) a0 h6)(hs:s'.heap.UpToSlots h6)(hst:X.stack=X.env::X.outer):
  ∃ob vs,ob.data=.fields vs∧vs[2]?=some .none∧Inv X pins σ H' {s' with heap:=h6}∧∀v,Inv (X.hnd ((ea,ob)::(X.pn++pins)) v) [] σ H' {s' with heap:=h6}:=by
 obtain⟨u,ok⟩:=jz F.un fl hB kp th f6.1 hs;obtain⟨oe,vs,g1,g2,g3,_,g5⟩:=f6.first;have J:Inv X pins σ H' {s' with heap:=h6}:=I.call' (s':={s' with heap:=h6}) F.os u ok F.bare λb z=>absurd z (by simp)
 refine⟨oe,vs,g3,g5,J,λv=>?_⟩;have J':=J.hnd (v:=v);have nf:ea∉frs X.stack:=λhb=>by
  obtain⟨_,o',ho',hd⟩:=f6.2.2.1.mem hb;rw[g1]at ho';cases ho';exact hd _ g3
 have pn:∀p∈((ea,oe)::(X.pn++pins))++[],h6.get? p.1=some p.2∧H' p.1=none∧p.1≠X.env.locals∧p.1∉X.fs∧∀v,p.2.data≠.cell v:=λp hp=>by
  rw[append_nil]at hp;rcases mem_cons.mp hp with e|hp
  ·subst e;refine⟨g1,F.new,λz=>?_,λz=>nf ?_,λv z=>by rw[g3]at z;cases z⟩
   ·obtain⟨m,⟨o',es,ep,q1,q2,_⟩,_⟩:=J.loc;have q1:h6.get? X.env.locals=some o':=q1;rw[←z,g1]at q1;cases q1;rw[g3]at q2;cases q2
   ·rw[hst];unfold frs;rw[filterMap_cons]
    split
    ·exact z
    ·exact mem_cons_of_mem _ z
  ·exact J.pin p hp
 exact⟨⟨J.ok.mod,J.ok.kind,J.ok.glob,J.ok.blt,J.ok.above,J.ok.inj,J.ok.has,J.ok.cab,λh=>absurd (show false=true from h) (by decide),J.ok.frames,J.ok.stk,J.ok.exf,J.ok.bs,J.ok.bsz,J.ok.noex,J.ok.exfs,J.ok.funs,J.ok.frf⟩,J'.os,J'.bare,J'.base,J'.loc,J'.cell,J'.free,J'.freeC,pn,J'.hok,J'.len⟩
theorem Inv.unhndP{pins':List (Addr×Obj)}{σ0:St}{H0:Hp}{s0:Shared}{v:Option Value}{q:Addr×Obj}(I:Inv (X.hnd (q::(X.pn++pins)) v) pins' σ H s)(I0:Inv X pins σ0 H0 s0):Inv X pins σ H s :=
 ⟨I0.ok,I.os,I.bare,I.base,I.loc,I.cell,I.free,I.freeC,λp hp=>I.pin p (mem_append_left _ (mem_cons_of_mem _ hp)),I.hok,I.len⟩
def An(i:Nat)(T:Addr)(K:PySem.W.Frag)(te:TX)(th:TS):TS:=λD σ H=>te σ H (λv H1=>D.nx (σ.set i (some v)) H1)
 (λcl _ H'=>∃C,cl=.ref C∧subIn K (.ref C) (.ref T)=some true∧th D σ H')
theorem xa(Y:TryOk X){i:Nat}{a x:Str}{T:Addr}{e:Expr}{te:TX}{b0:Stmt}{body2:List Stmt}{th:TS}{pa px p1 p3 p4:Pos}(hN:X.N.Nodup)(hi:X.N[i]?=some a)(la:Loc X.env.scope a)(he:PX X e te)(hb:∀ea ob pl vs,ob.data=.fields vs→vs[2]?=some .none→PSs (X.hnd ((ea,ob)::pl) (some (.ref ea))) (b0::body2) th)(hg:Gl X x)(hm:X.mg x=some (.ref T))(hT:ktsIn X.K T "BaseException"=true)(hs:swapsWith e (some (.Name a pa)) p1.line X.env=pure false:=by rfl)(hdx:(x==("__debug__":Str))=false:=by decide)(hf:X.fn a=true∨X.env.scope.names.lookup a=some .local:=by first|exact .inl rfl|exact .inr rfl):
  PS X (.Try [.Assign [.Name a pa] e p1] [.ExceptHandler (some (.Name x px)) none (b0::body2) p3] [] [] p4) (An i T X.K te th):=by
 intro pins s σ H D I h;refine wpAny_Try_except ?_;refine wpAny_execs_cons (wpAny_Assign_Name (wpAny_mono (he pins s σ H _ _ I h) (λv s1 ⟨y,H1,I1,r1,q1⟩=>?_) λev s1 hx=>?_) hs)
 ·exact dU I1 hN hi la r1 (λs2 I2=>wpAny_execs_nil (wpAny_execs_nil ⟨_,H1,I2,q1⟩)) hf
 ·obtain⟨ea,C,H',H1,s0,rfl,I1,F,⟨C',eC,hsub,hk⟩⟩:=hx;cases eC;obtain⟨B,a0,fl,hB,kp,th⟩:=id F.fly;have frm:X.A.frames=some (X.env::X.outer):=by rw[I1.ok.frames,Y.stk]
  have fl':=fl;rw[Y.stk]at fl';refine iI frm Y.fr fl' λh4 held4 hs4=>?_;refine lY held4 λh5 fl5 hs5=>?_;have sm5:s1.heap.UpToSlots h5:=hs4.trans hs5;have fl5':Heap.FlyingN B X.stack ea (.ref C) a0 h5:=by rw[Y.stk];exact fl5
  have J5:=I1.caught F fl hB kp th fl5' sm5;obtain⟨ob,hob,hobc⟩:=fl5.there;obtain⟨nm,q',N,bs,bm,hdct,sn,sub,ab,col,dd,k0,k1,k2,k3,k5,newId,hTo,hbase,_⟩:=PySem.W.kts_cls J5.kIn hT;obtain⟨hp1,g1,d1,t1,os1⟩:=s1;refine wpAny_handleBy_cons (codeAny_handlers_test ?_) (by intro q;cases q);refine Calls.Name_function_global J5.ok.kind hg (Calls.loadGlobal_global (by rw[J5.ok.glob];exact J5.mod.glob.keeps J5.bk) hm ?_) hdx;refine vV hTo hbase (PySem.W.looks_subIn J5.kIn hsub) hob hobc ?_;refine codeAny_handlers_suite ?_;refine lZ (s:=⟨h5,g1,d1,t1,os1⟩) fl5 λh6 fl6 hs6=>?_;have fl6':Heap.FlyingN B X.stack ea (.ref C) a0 h6:=by rw[Y.stk];exact fl6
  obtain⟨oP,vP,d1P,d2P,JP,J6⟩:=I1.caughtP F fl hB kp th fl6' (sm5.trans hs6) Y.stk;refine wpAny_mono (hb ea oP (X.pn++pins) vP d1P d2P [] _ _ _ _ (J6 _) hk) (λf s3 q=>?_) (λ_ _ z=>z.elim);cases f with
  |next=>obtain⟨σ',H8,I8,q'⟩:=q;exact⟨_,_,I8.unhndP JP,q'⟩
  |brk=>obtain⟨σ',H8,I8,q'⟩:=q;exact⟨_,_,I8.unhndP JP,q'⟩
  |cont=>obtain⟨σ',H8,I8,q'⟩:=q;exact⟨_,_,I8.unhndP JP,q'⟩
  |ret v=>obtain⟨x',σ',H8,I8,r',q'⟩:=q;exact⟨x',_,_,I8.unhndP JP,r',q'⟩
end
end L2
namespace TK
open PySem L2
theorem vb{X:Cx}{e:Expr}:PT X e (λ_ _ _=>False):=λ_ _ _ _ _ _ h=>h.elim
section
variable{P:Program}{w:World}{K:PySem.W.Frag}{mg:Str→Option Value}{base:Heap}
def vc:Sp:=λvs H Q _=>∃d,vs=[.ref d,.int 0]∧Q .non H
theorem yY{f:Addr}{fd:FuncData}(F:Fun K "check_folder" "check_folder" wx f fd)(T:Txt mg):FnOkH P w K mg base CX0 1 f fd ["nodes","number"] vc:=by
 obtain⟨tt,hT⟩:=T.top;refine eW F xu (λvs H Q E h=>?_) (λcdv A outer s H vs Q E hr hc h=>?_)
 ·obtain⟨d,rfl,_⟩:=h;rfl
 ·obtain⟨d,rfl,q⟩:=h;exact⟨_,am (cp (PW.pt (pw_and (aI iq (pv 1) (de (v:=.int 0) rfl hT ⟨_,rfl⟩) (aR _)) (pw_and1 vb))) gL bf),⟨_,rfl,rfl,_,rfl,cy (cy q)⟩⟩
theorem AZ(n:Nd):reN (shf 0 0) n=n:=by
 obtain⟨a,b,c,d⟩:=n;show(⟨if a=0 then 0 else a+0,if b=0 then 0 else b+0,c,d⟩:Nd)=_;have e:∀x:Int,(if x=0 then 0 else x+0)=x:=λx=>by split<;>omega
 rw[e,e]
def oR:Sp:=λvs H Q _=>∃t o os,vs=[.ref t,.int 0,.ref o]∧H t=some (.tup [])∧Tre H o os∧∀us w H',Same H H'→H' w=some (.tup (av us))→At H' us→nds us=nds os→Q (.ref w) H'
theorem yZ{f:Addr}{fd:FuncData}(F:Fun K "grafted" "grafted" cc f fd)(T:Txt mg)(CB:ku P w K mg base 1 "by_number" ["tree"] eO)(CFo:ku P w K mg base 1 "check_folder" ["nodes","number"] vc)(CG:ku P w K mg base 1 "greatest_number" ["tree"] lD)(CW:ku P w K mg base 1 "with_numbers" ["tree","numbers"] lE)(CO:ku P w K mg base 1 "have_own_places" ["nodes"] jV):FnOkH P w K mg base CX0 2 f fd ["tree","number","other"] oR:=by
 obtain⟨fB,fdB,GB,mB,kB,bB⟩:=CB;obtain⟨fF,fdF,GF,mF,kF,bF⟩:=CFo;obtain⟨fG,fdG,GG,mG,kG,bG⟩:=CG;obtain⟨fW,fdW,GW,mW,kW,bW⟩:=CW;obtain⟨fO,fdO,GO,mO,kO,bO⟩:=CO;obtain⟨tt,hT⟩:=T.top;refine eW F iC (λvs H Q E h=>?_) (λcdv A outer s H vs Q E hr hc h=>?_)
 ·obtain⟨t,o,os,rfl,_⟩:=h;rfl
 ·obtain⟨t,o,os,rfl,ht,tro,qq⟩:=h;have hol:=tro.len;have ho:=tro.tup;have hA:=tro.nod;refine⟨_,ag (ci (dD GF hr hc.y rfl mF kF bF .nil au (aa (dD GB hr hc.y rfl mB kB bB .nil au (aa (pv 0) af)) (aa (pv 1) af))))
   (ag (aA (i:=3) iC.nd rfl (Or.inr rfl) (dD GG hr hc.y rfl mG kG bG .nil au (aa (pv 0) af)))
   (ag (aA (i:=4) iC.nd rfl (Or.inl rfl) (aD (md hc.x) rfl T.dict boot_dict (aa (jU (N:=["node","greatest"]) (cl:=[("greatest",s.heap.objs.size+1)]) (k:=1) (js:=[3]) (g:=aJ 0) hc
    (LcOk.mk' ["greatest"] rfl rfl (by decide +kernel) (by decide +kernel) ?hcl rfl (by decide +kernel)) rfl ?hj (gG (pv 2)) (λs H fp=>ap (i:=0) (show(["node","greatest"]:List Str).Nodup by decide +kernel) rfl (Or.inl rfl) (Or.inr rfl))
    (λs H fp=>bh (aa (aQ (r:=cw K) aG (pv 0) aj (λ_ _=>rfl)) (aa (aK bq (aQ (r:=cw K) aG (pv 0) aj (λ_ _=>rfl)) (pv 1)) af)))) af)))
   (ag (lQ (pS hr) (pv 4) (de (v:=.int 0) rfl hT ⟨_,rfl⟩) (pv 1) rfl)
   (ag (aA (i:=5) iC.nd rfl (Or.inl rfl) (aK jw (pv 0) (dD GW hr hc.y rfl mW kW bW .nil au (aa (pv 2) (aa (pv 4) af)))))
   (ag (cp (sG (sF (dD GO hr hc.y rfl mO kO bO .nil au (aa (pv 5) af)) (λ_=>rfl))) gL bf)
   (am (aF (pv 5)))))))),?_⟩
  case hcl =>
   intro y hy;rcases mem_cons.mp hy with e|hy
   ·rw[e];rfl
   ·cases hy
  case hj =>
   intro i j x h1 h2
   match i,h1,h2 with
   |0,h1,h2 =>
    cases h1;cases h2;exact⟨rfl,Or.inr (Or.inl rfl),(show((ai cc).names.lookup ("greatest":Str)≠some NameKind.local)by decide +kernel),by first|exact Or.inl rfl|exact Or.inr rfl⟩
   |i+1,h1,h2=>simp at h1
  have hpos:∀z∈os,1≤z.2.num:=λz hz=>tro.tr.pos z.2 (aP hz);have hpar:∀z∈os,z.2.par=0∨∃y∈os,y.2.num=z.2.par:=λz hz=>by
   have:=tro.tr.down z.2 (aP hz);generalize z.2=n at this;cases this with
   |base _ e=>exact .inl e
   |@step m _ hrm _ _ e =>
    obtain⟨y,hy,ey⟩:=cm hrm.mem;exact .inr ⟨y,hy,by rw[ey,e]⟩
  have hrise:=tro.tr.rise;refine⟨_,rfl,t,[],rfl,ht,(λz hz=>nomatch hz),zero_le _,nodup_nil,λd H1 s1 nd1=>⟨_,rfl,d,rfl,?_⟩⟩;refine⟨_,rfl,t,[],rfl,s1 _ _ ht,(λz hz=>nomatch hz),zero_le _,λgr H2 s2 hgr=>?_⟩;have hg0:gr=0:=by
   rcases hgr with h|h
   ·exact h.2
   ·obtain⟨⟨i,hi,_⟩,_⟩:=h;exact absurd hi (Nat.not_lt_zero _)
  subst hg0;have s12:=s1.trans s2;have ho2:=s12 _ _ ho;have hA2:=hA.same s12;have hon:(os.map λz=>z.2.num).Nodup:=by
   have:=hrise;unfold TW.br nds at this;unfold Nodup;rw[pairwise_map]at this⊢;exact this.imp λh=>by omega
  refine⟨_,rfl,o,rfl,⟨_,SqT.of ho2⟩,λp hp=>?_⟩;refine bM (fr:=[some (.int 0)]) os (λz=>V.ref z.1) (by omega) hp (cb (by rw[aC];exact SqT.of ho2)) rfl (λz y H'=>∃q,y=.ref q∧q≠p∧H' q=some (.tup [.int z.2.num,.int (z.2.num+0)])) (λz y H H' ⟨q,e,ne,h⟩ ex=>⟨q,e,ne,ex q _ ne h⟩) (λz H' kk mz s3 hpl hk'=>?_) (λys H3 s3 hp3 hys=>?_)
  ·have hz3:=s3 _ _ (hA2 z mz);exact⟨_,rfl,z.1,_,_,_,rfl,rfl,SqT.of hz3,at0 z.2,_,rfl,z.1,_,_,_,rfl,rfl,SqT.of hz3,at0 z.2,_,rfl,_,_,rfl,rfl,le2,λq hq=>hk' _ _ (ae hq) ⟨q,rfl,ck hpl hq,ac⟩⟩
  obtain⟨bs,e1,e2,e3⟩:=bE (val:=V.ref) (S:=λ(z:Addr×Nd) (q:Addr)=>H3 q=some (.tup [.int z.2.num,.int (z.2.num+0)])) hys (λz y _ ⟨q,e,_,h⟩=>⟨q,e,h⟩);have s123:=s12.trans s3;have hbl:bs.length=os.length:=by rw[←e1,length_map]
  refine⟨p,bs.map λx=>(x.2,(Sum.inl x.1.2.num:Key),V.int (x.1.2.num+0)),rfl,by rw[hp3,e2,map_map,map_map];rfl,λy hy=>?_,by rw[length_map];omega,?_,λg hg=>?_⟩
  ·obtain⟨x,hx,rfl⟩:=mem_map.mp hy;exact e3 x hx
  ·rw[map_map];have e4:bs.map ((λx:Addr×Key×V=>x.2.1)∘λx=>(x.2,(Sum.inl x.1.2.num:Key),V.int (x.1.2.num+0)))=(os.map λz=>z.2.num).map (Sum.inl:Int→Key):=by rw[←e1,map_map,map_map];rfl
   rw[e4];exact mX hon
  have ekv:(bs.map λx=>(x.2,(Sum.inl x.1.2.num:Key),V.int (x.1.2.num+0))).map (·.2)=shK os 0:=by unfold shK;rw[←e1,map_map,map_map];rfl
  rw[ekv];have hgfree:H g=none:=s123.free hg;have s4:=s123.trans (ae (o:=.dK (shK os 0)) hg);refine⟨_,rfl,_,rfl,g,_,rfl,pw.k (k:=Sum.inl 0) (kvs:=shK os 0) ac (aE (by unfold shK;rw[length_map];omega)),?_⟩;have s5:Same H (upd (upd H3 g (.dK (shK os 0))) g (.dK (bY (shK os 0) (Sum.inl 0:Key) (.int 0)))):=aL hgfree s4;have hgo:(upd (upd H3 g (.dK (shK os 0))) g (.dK (bY (shK os 0) (Sum.inl 0:Key) (.int 0)))) g=some (.dK (bY (shK os 0) (Sum.inl 0:Key) (.int 0))):=ac;generalize upd (upd H3 g (.dK (shK os 0))) g (.dK (bY (shK os 0) (Sum.inl 0:Key) (.int 0)))=H5 at s5 hgo⊢;have hgN:(os.map λz=>shf 0 0 z.2.num).Nodup:=by
   have e:(os.map λz=>shf 0 0 z.2.num)=os.map λz=>z.2.num:=map_congr_left λz hz=>by
    have:=hpos z hz;unfold shf;rw[if_neg (by omega)];omega
   rw[e];exact hon
  refine⟨_,rfl,_,rfl,_,rfl,o,g,os,_,shf 0 0,rfl,s5 _ _ ho,hA.same s5,by omega,hgo,λz hz=>⟨iV hon hz (hpos z hz),?_⟩,hgN,λus t6 H6 s6 ht6 hA6 hpm hr6=>?_⟩
  ·rcases hpar z hz with e|⟨y,hy,e⟩
   ·rw[e];exact qV
   ·rw[←e];exact iV hon hy (hpos y hy)
  have eid:(nds os).map (reN (shf 0 0))=nds os:=by
   rw[map_congr_left (g:=id) λn _=>AZ n,map_id]
  rw[eid]at hpm;have eu:=oQ hr6 hrise hpm;have hul:us.length=os.length:=by
   have:=congrArg length eu;rw[ao,ao]at this;exact this
  have s56:=s5.trans s6;refine⟨t,t6,_,rfl,rfl,SqT.of (s56 _ _ ht),SqT.of ht6,?_⟩;refine⟨_,rfl,t6,us,rfl,ht6,hA6,by omega,λb H8 hb s8=>⟨b,rfl,?_⟩⟩;have hbt:b=true:=hb.mpr (by rw[eu];exact tro.tr.own);subst hbt;exact cy ⟨_,rfl,qq us t6 H8 (s56.trans s8) (s8 _ _ ht6) (λz hz=>s8 _ _ (hA6 z hz)) eu⟩
def pY:Sp:=λvs H Q _=>∃t zs,vs=[.ref t]∧Tre H t zs∧∀d as H',Same H H'→H d=none→Book H' d as zs→H' d=some (.dK (dC as))→Q (.ref d) H'
theorem zc:FnScope ["tree"] ["tree"] (ai cC):=fsc
theorem xb{f:Addr}{fd:FuncData}(F:Fun K "parts_by_number" "parts_by_number" cC f fd)(T:Txt mg):FnOk P w K mg base CX0 1 f fd ["tree"] pY:=by
 refine F.ok zc (λvs H Q E h=>?_) (λcdv A outer s H vs Q E hr h=>?_)
 ·obtain⟨t,zs,rfl,_⟩:=h;rfl
 ·obtain⟨t,zs,rfl,tr,k⟩:=h;have hnd:=bD tr.tr;have hl:=tr.len;have ht:=tr.tup;have hA:=tr.nod;refine⟨_,am (aF (aD (cu rfl) rfl T.dict boot_dict (aa (dj (N:=["node"]) (k:=1) (js:=[]) (g:=aJ 0) rfl (cj rfl (by decide +kernel) (by decide +kernel) (by decide +kernel)) rfl (λi j x h=>by simp at h)
   (cM (pv 0)) (λs H fp=>ap (i:=0) (show(["node"]:List Str).Nodup by decide +kernel) rfl (Or.inl rfl) (Or.inr rfl))
   (λs H fp=>bh (aa (aQ (r:=cw K) aG (pv 0) aj (λ_ _=>rfl)) (aa (cY (r:=rp K) jf (pv 0) (dh aj) eP) af)))) af))),?_⟩
  refine⟨_,rfl,t,rfl,⟨_,SqT.of ht⟩,λp hp=>?_⟩;refine ml (fr:=[]) zs.length (by omega) hp rfl (λi y H'=>∃q t' z,zs[i]?=some z∧y=.ref q∧q≠p∧t'≠p∧H' q=some (.tup [.int z.2.num,.ref t'])∧H' t'=some (.tup (aV z.2))) (λi y H1 H2 h ex=>?_) (λi H' hi s1=>?_) (λH' s1=>?_) ?_ (λi H' x H2 hi s1 hpl hy=>?_) (λys H' s1 hp' hlen hys=>?_)
  ·obtain⟨q,t',z,e1,e2,e3,e4,e5,e6⟩:=h;exact⟨q,t',z,e1,e2,e3,e4,ex q _ e3 e5,ex t' _ e4 e6⟩
  ·exact⟨_,_,SqT.of (s1 _ _ ht),eJ (getElem?_eq_getElem hi)⟩
  ·exact⟨_,SqT.of (s1 _ _ ht),by rw[bd];exact le_refl _⟩
  ·rintro _ _ _ _ m ⟨v1,b1,p1,xs,i1,v2,c1,c2,c3,c4,v3,b3,i3,d0,a3,xs3,d1,d2,d3,q⟩;refine⟨v1,b1,p1,xs,i1,v2,c1,c2,c3,c4,v3,b3,i3,d0,a3,xs3,d1,d2,d3,λl hl=>?_⟩;obtain⟨hz',q'⟩:=q l hl;exact⟨hz',λl' hl'=>m _ _ (q' l' hl')⟩
  ·obtain⟨rfl,hx⟩:=hy;obtain⟨z,gz,rfl⟩:=cB (hx _ (SqT.of (s1 _ _ ht)));have mz:=mem_of_getElem? gz;have hz1:=s1 _ _ (hA z mz);have ecut:gR (vals z.2) (some 1) none=aV z.2:=rfl;refine⟨rfl,_,rfl,z.1,_,_,_,rfl,rfl,SqT.of hz1,at0 z.2,_,rfl,_,rfl,z.1,_,rfl,SqT.of hz1,(by intro h;exact absurd h.1 (show ¬HT.sIx 4 0 (some 1)=0 by decide)),λt' ht'=>?_⟩;rw[ecut];have s2:=ae (o:=.tup (aV z.2)) ht';have hpl2:∃ys,upd H2 t' (.tup (aV z.2)) p=some (.lst ys):=let⟨ys,e⟩:=hpl;⟨ys,s2 _ _ e⟩;refine⟨le2,λq hq=>⟨s2.trans (ae hq),q,t',z,gz,rfl,ck hpl2 hq,ck hpl ht',ac,ca hq ac⟩⟩
  ·obtain⟨as,e1,e2,e3⟩:∃as:List ((Addr×Addr)×(Addr×Nd)),as.map (·.2)=zs∧ys=(as.map (·.1.1)).map V.ref∧∀a∈as,H' a.1.1=some (.tup [.int a.2.2.num,.ref a.1.2])∧H' a.1.2=some (.tup (aV a.2.2)):=by
    clear hp';have main:∀(ys:List V)(xs:ZN),ys.length=xs.length→(∀(i:Nat) y,ys[i]?=some y→∃q t' z,xs[i]?=some z∧y=.ref q∧q≠p∧t'≠p∧H' q=some (.tup [.int z.2.num,.ref t'])∧H' t'=some (.tup (aV z.2))) →
      ∃as:List ((Addr×Addr)×(Addr×Nd)),as.map (·.2)=xs∧ys=(as.map (·.1.1)).map V.ref∧∀a∈as,H' a.1.1=some (.tup [.int a.2.2.num,.ref a.1.2])∧H' a.1.2=some (.tup (aV a.2.2)):=by
     intro ys
     induction ys with
     |nil =>
      intro xs hl _;have:xs=[]:=length_eq_zero_iff.mp hl.symm;subst this;exact⟨[],rfl,rfl,by simp⟩
     |cons y ys ih =>
      intro xs hl h;cases xs with
      |nil=>simp at hl
      |cons x xs =>
       obtain⟨as,e1,e2,e3⟩:=ih xs (by simpa using hl) λi y hy=>by simpa using h (i+1) y (by simpa using hy)
       obtain⟨q,t',z,f1,f2,f3,f4,f5,f6⟩:=h 0 y rfl;have:x=z:=by simpa using f1
       subst this;refine⟨((q,t'),x)::as,by simp[e1],by simp[e2,f2],λa ha=>?_⟩;rcases mem_cons.mp ha with rfl|ha
       ·exact⟨f5,f6⟩
       ·exact e3 a ha
    exact main ys zs hlen hys
   have hal:as.length=zs.length:=by rw[←e1,length_map]
   refine⟨p,as.map λa=>(a.1.1,(Sum.inl a.2.2.num:Key),V.ref a.1.2),rfl,?_,?_,?_,?_,λd hd=>?_⟩
   ·rw[hp',e2,map_map,map_map,map_map];rfl
   ·intro z hz;obtain⟨a,ha,rfl⟩:=mem_map.mp hz;exact(e3 a ha).1
   ·rw[length_map];omega
   ·rw[map_map];have:(as.map ((λx:Addr×Key×V=>x.2.1)∘λa=>(a.1.1,(Sum.inl a.2.2.num:Key),V.ref a.1.2)))=((nds zs).map (·.num)).map (Sum.inl:Int→Key):=by
     rw[←e1];unfold nds;simp only[map_map];rfl
    rw[this];unfold Nodup at hnd⊢;rw[pairwise_map];exact hnd.imp λh e=>h (by injection e)
   ·have sd:=ae (o:=.dK ((as.map λa=>(a.1.1,(Sum.inl a.2.2.num:Key),V.ref a.1.2)).map (·.2))) hd;have ed:upd H' d (.dK ((as.map λa=>(a.1.1,(Sum.inl a.2.2.num:Key),V.ref a.1.2)).map (·.2))) d=some (.dK (dC (as.map λa=>(a.1.2,a.2)))):=by
     rw[ac];refine congrArg (λx=>some (HO.dK x)) ?_;unfold dC;simp only[map_map];rfl
    refine k d (as.map λa=>(a.1.2,a.2)) _ (s1.trans sd) (s1.free hd) ⟨.inl ed,by rw[map_map];exact e1,λa ha=>?_⟩ ed;obtain⟨b,hb,rfl⟩:=mem_map.mp ha;exact sd _ _ (e3 b hb).2
def unl(e:Addr×Row):Bool:=!decide (e.2.o=e.2.n)
def qX:Sp:=λvs H Q _=>∃l es,vs=[.ref l]∧H l=some (.lst (jP es))∧(∀e∈es,RowAt H e.1 e.2)∧es.length≤60∧∀c H',Same H H'→ChgAt H' c (es.filter unl)→Q (.ref c) H'
theorem Ao:FnScope ["entries"] ["entries"] (ai cF):=fsc
theorem zd{f:Addr}{fd:FuncData}(F:Fun K "unlike_entries" "unlike_entries" cF f fd)(T:Txt mg):FnOk P w K mg base CX0 1 f fd ["entries"] qX:=by
 refine F.ok Ao (λvs H Q E h=>?_) (λcdv A outer s H vs Q E hr h=>?_)
 ·obtain⟨l,es,rfl,_⟩:=h;rfl
 ·obtain⟨l,es,rfl,hl,he,hn,k⟩:=h;refine⟨_,am (aF (aD bg rfl T.tuple rfl (aa (dZ (N:=["entry"]) (cl:=[]) (k:=1) (js:=[]) (g:=aJ 0) rfl (cj rfl (by decide +kernel) (by decide +kernel) (by decide +kernel)) rfl (λi j x h=>by simp at h)
   (bJ (pv 0)) (λs H fp=>ap (i:=0) (show(["entry"]:List Str).Nodup by decide +kernel) rfl (Or.inl rfl) (Or.inr rfl))
   (λs H fp=>aI (yB (cr hr)) (aQ (r:=cw K) aG (pv 0) aj (λ_ _=>rfl)) (aQ (r:=cw K) aG (pv 0) aj (λ_ _=>rfl)) (aR _)) (λs H fp=>pv 0)) af))),?_⟩
  refine⟨_,rfl,l,rfl,⟨_,SqL.of hl⟩,λp hp=>?_⟩;refine dJ (fr:=[]) es (λe=>V.ref e.1) (by omega) hp (cI (SqL.of hl)) rfl unl (λe y _=>y=.ref e.1) (λe y H H' h _=>h) (λe H' k' me s1 _ hk=>?_) (λe H' k' me _ s1 _ hk=>⟨_,rfl,hk _ H' (Same.refl _) rfl⟩) (λys H' s1 hp' hys=>?_)
  ·obtain⟨⟨vo,vn,h1,h2,h3⟩,ok⟩:=(he e me).same s1;refine⟨_,rfl,e.1,_,_,_,rfl,rfl,SqT.of h1,rfl,_,rfl,e.1,_,_,_,rfl,rfl,SqT.of h1,rfl,_,_,h2.ot,h3.ot,_,rfl,?_⟩;have eb:(!decide (e.2.o.map aV=e.2.n.map aV))=unl e:=by
    unfold unl;have:=ok.eq
    by_cases z:e.2.o=e.2.n
    ·rw[decide_eq_true (this.mpr z),decide_eq_true z]
    ·rw[decide_eq_false (λq=>z (this.mp q)),decide_eq_false z]
   rw[eb];exact hk H' (Same.refl _)
  ·have ey:=aU (f:=λe:Addr×Row=>V.ref e.1) hys (λe y _ h=>h);refine⟨p,_,rfl,.inl ⟨SqL.of hp',λc hc=>?_⟩⟩;have s2:=s1.trans (ae (o:=.tup ys) hc);exact k c _ s2 ⟨by rw[ac,ey];rfl,λe me=>(he e (mem_filter.mp me).1).same s2,le_trans (length_filter_le _ _) hn⟩
end
def cbS(i:Nat):Stmt:=(bv aS).getD i (.Pass ⟨0,0,0,0⟩)
def CN:List Str:=["one","other","before","after","numbers"]
theorem xc:FnScope CN ["one","other"] (ai aS):=fsc
abbrev CbX(P:Program)(w:World)(K:PySem.W.Frag)(mg:Str→Option Value)(base:Heap)(f:Addr)(cdv:Value)(A:Around)(outer:List Env)(s:Shared)(H:Hp)(E:XK):Cx:=(fM CX0 P w K mg base CN "change_between" (ai aS) f cdv A outer s H E).nox
section
variable{P:Program}{w:World}{K:PySem.W.Frag}{mg:Str→Option Value}{base:Heap}{f:Addr}{cdv:Value}{A:Around}{outer:List Env}{s:Shared}{H0:Hp}{E:XK}
theorem cb2(T:Txt mg):∃t,PS (CbX P w K mg base f cdv A outer s H0 E) (cbS 2) t∧∀(D:Ends)(H:Hp)(x0 x1 x4:Option V)(d d2:Addr)(as bs:List (Addr×(Addr×Nd)))(zs us:ZN),Book H d as zs→Book H d2 bs us→zs.length≤30→us.length≤30 →
   (∀(l:Addr)(ns:List Int)(H':Hp),Same H H'→H' l=some (.lst (ns.map V.int))→ns.Pairwise (· < ·)→ns.length≤60→(∀k,k∈ns↔k∈(nds zs).map (·.num)∨k∈(nds us).map (·.num))→D.nx [x0,x1,some (.ref d),some (.ref d2),some (.ref l)] H')→t D [x0,x1,some (.ref d),some (.ref d2),x4] H:=by
 refine⟨_,aA (i:=4) xc.nd rfl (Or.inl rfl) (aT (jM rfl) rfl T.sorted boot_sorted (aa (aK uG (aD iB rfl T.set rfl (aa (pv 2) af)) (aD iB rfl T.set rfl (aa (pv 3) af))) af)),?_⟩;intro D H x0 x1 x4 d d2 as bs zs us bk bk2 hl1 hl2 q;refine⟨_,rfl,d,_,(nds zs).map (·.num),rfl,bk.dict,jQ bk.of,by rw[length_map,ao];omega,λm1 hn1 hm1 p1 hp1=>?_⟩;have s1:=ae (o:=dS (CbX P w K mg base f cdv A outer s H0 E).w p1 m1) hp1;have g1:upd H p1 (dS (CbX P w K mg base f cdv A outer s H0 E).w p1 m1) p1=some (dS (CbX P w K mg base f cdv A outer s H0 E).w p1 m1):=ac;generalize upd H p1 (dS (CbX P w K mg base f cdv A outer s H0 E).w p1 m1)=H1 at s1 g1⊢;refine⟨_,rfl,d2,_,(nds us).map (·.num),rfl,(bk2.same s1).dict,jQ bk2.of,by rw[length_map,ao];omega,λm2 hn2 hm2 p2 hp2=>?_⟩;have s2:=s1.trans (ae (o:=dS (CbX P w K mg base f cdv A outer s H0 E).w p2 m2) hp2);have g2:upd H1 p2 (dS (CbX P w K mg base f cdv A outer s H0 E).w p2 m2) p2=some (dS (CbX P w K mg base f cdv A outer s H0 E).w p2 m2):=ac;have g1':upd H1 p2 (dS (CbX P w K mg base f cdv A outer s H0 E).w p2 m2) p1=some (dS (CbX P w K mg base f cdv A outer s H0 E).w p1 m1):=ca hp2 g1;have hne:p1≠p2:=λe=>by rw[←e,g1]at hp2;cases hp2
 generalize upd H1 p2 (dS (CbX P w K mg base f cdv A outer s H0 E).w p2 m2)=H2 at s2 g2 g1'⊢;have k1:m1.length≤30:=by
  have:=gD hn1 λx hx=>(hm1 x).mp hx;rw[length_map,ao]at this;omega
 have k2:m2.length≤30:=by
  have:=gD hn2 λx hx=>(hm2 x).mp hx;rw[length_map,ao]at this;omega
 refine⟨p1,p2,m1,m2,rfl,rfl,hne,g1',g2,by omega,λm3 hn3 hm3 p3 hp3=>?_⟩;have k3:m3.length≤60:=by
  have:=gD (m:=m1++m2) hn3 λx hx=>mem_append.mpr ((hm3 x).mp hx);rw[length_append]at this;omega
 have s3:=s2.trans (ae (o:=dS (CbX P w K mg base f cdv A outer s H0 E).w p3 m3) hp3);refine⟨p3,m3,rfl,ac,k3,λns hns hup l hl=>?_⟩;have s4:=s3.trans (ae (o:=.lst (ns.map V.int)) hl);refine q l ns _ s4 ac hup (by rw[hns.length_eq];exact k3) λk=>?_;rw[hns.mem_iff,hm3 k,hm1 k,hm2 k]
theorem cb3(hr:Room 1 (A.deeper (PyProof.Rows.envOfC "change_between" (ai aS) s.heap.objs.size f cdv)))(CU:Has P w K mg base 1 "unlike_entries" ["entries"] qX):
  ∃t,PS (CbX P w K mg base f cdv A outer s H0 E) (cbS 3) t∧∀(D:Ends)(H:Hp)(x0 x1:Option V)(d d2 l:Addr)(as bs:List (Addr×(Addr×Nd)))(zs us:ZN)(ns:List Int),Book H d as zs→Book H d2 bs us→TW.Tree1 (nds zs)→TW.Tree1 (nds us)→H l=some (.lst (ns.map V.int))→ns.Pairwise (· < ·)→ns.length≤60→(∀k,k∈ns↔k∈(nds zs).map (·.num)∨k∈(nds us).map (·.num)) →
   (∀c es H',Same H H'→ChgAt H' c es→TW.Chg (nds zs) (nds us) (kr es)→D.rt (.ref c) H')→t D [x0,x1,some (.ref d),some (.ref d2),some (.ref l)] H:=by
 obtain⟨fU,fdU,GU,mU,kU,bU⟩:=CU;refine⟨_,aF (ak GU hr rfl mU kU bU .nil au (aa (dj (N:=["number","after","before"]) (cl:=[("before",s.heap.objs.size+1),("after",s.heap.objs.size+2)]) (k:=1) (js:=[3,2]) (g:=aJ 0) rfl
   (LcOk.mk' ["before","after"] rfl rfl (by decide +kernel) (by decide +kernel) ?hcl rfl (by decide +kernel)) rfl ?hj (bJ (pv 4)) (λs H fp=>ap (i:=0) (show(["number","after","before"]:List Str).Nodup by decide +kernel) rfl (Or.inl rfl) (Or.inr rfl))
   (λs H fp=>bh (aa (pv 0) (aa (ny (cr hr) (pv 2) (pv 0) ⟨rfl,rfl,rfl,rfl⟩) (aa (ny (cr hr) (pv 1) (pv 0) ⟨rfl,rfl,rfl,rfl⟩) af))))) af)),?_⟩
 case hcl =>
  intro y hy;rcases mem_cons.mp hy with e|hy
  ·rw[e];rfl
  ·rcases mem_cons.mp hy with e|hy
   ·rw[e];rfl
   ·cases hy
 case hj =>
  intro i j x h1 h2
  match i,h1,h2 with
  |0,h1,h2 =>
   cases h1;cases h2;exact⟨rfl,Or.inr (Or.inl rfl),(show((ai aS).names.lookup ("after":Str)≠some NameKind.local)by decide +kernel),by first|exact Or.inl rfl|exact Or.inr rfl⟩
  |1,h1,h2 =>
   cases h1;cases h2;exact⟨rfl,Or.inr (Or.inl rfl),(show((ai aS).names.lookup ("before":Str)≠some NameKind.local)by decide +kernel),by first|exact Or.inl rfl|exact Or.inr rfl⟩
  |i+2,h1,h2=>simp at h1
 intro D H x0 x1 d d2 l as bs zs us ns bk bk2 T1 T2 hl hup hn hm q;refine⟨_,rfl,l,rfl,⟨_,SqL.of hl⟩,λp hp=>?_⟩;refine bM (fr:=[some (.ref d2),some (.ref d)]) ns V.int (by omega) hp (cI (SqL.of hl)) rfl (λk y H'=>∃c vo vn,y=.ref c∧c≠p∧H' c=some (.tup [.int k,vo,vn])∧ig H' vo (TW.aZ (nds zs) k)∧ig H' vn (TW.aZ (nds us) k)∧vo≠.ref p∧vn≠.ref p) (λk y H H' h ex=>?_) (λk H' kk mk s1 hpl hk=>?_) (λys H' s1 hp' hys=>?_)
 ·obtain⟨c,vo,vn,e,ne,h1,h2,h3,n1,n2⟩:=h;have ov:∀{v:V}{o:Option Nd},v≠.ref p→ig H v o→ig H' v o:=λhv h=>by
   rcases h with h|⟨q,n,e,h,e2⟩
   ·exact .inl h
   ·exact .inr ⟨q,n,e,ex q _ (λz=>hv (by rw[e,z])) h,e2⟩
  exact⟨c,vo,vn,e,ne,ex c _ ne h1,ov n1 h2,ov n2 h3,n1,n2⟩
 ·obtain⟨r1,hr1,ho1⟩:=(bk.same s1).optV T1 k;obtain⟨r2,hr2,ho2⟩:=(bk2.same s1).optV T2 k;have np:∀{v:V}{o:Option Nd},ig H' v o→v≠.ref p:=λh e=>by
   rcases h with⟨h,_⟩|⟨q,n,e2,h,_⟩
   ·rw[h]at e;cases e
   ·rw[e2]at e;injection e with e
    obtain⟨ys,hy⟩:=hpl;rw[e,hy]at h;cases h
  refine⟨_,rfl,_,rfl,d,rfl,.inl ⟨_,(bk.same s1).dict⟩,_,rfl,r1,hr1,_,rfl,d2,rfl,.inl ⟨_,(bk2.same s1).dict⟩,_,rfl,r2,hr2,(show 3≤sizeLine from aW (by decide)),λc hc=>?_⟩;have s2:=ae (o:=.tup [.int k,r1.getD .non,r2.getD .non]) hc;exact hk _ _ s2 ⟨c,_,_,rfl,ck hpl hc,ac,ho1.same s2,ho2.same s2,np ho1,np ho2⟩
 ·obtain⟨cs,e1,e2,e3⟩:=bE (val:=V.ref) (S:=λ(k:Int) (c:Addr)=>RowAt H' c (TW.gE (nds zs) (nds us) k)) hys (λk y _ ⟨c,vo,vn,e,_,h1,h2,h3,_⟩=>⟨c,e,⟨vo,vn,h1,h2,h3⟩,uI k⟩);have hcl:cs.length=ns.length:=by rw[←e1,length_map]
  have er:kr (cs.map λx=>(x.2,TW.gE (nds zs) (nds us) x.1))=ns.map (TW.gE (nds zs) (nds us)):=by
   unfold kr;rw[map_map,←e1,map_map];rfl
  refine⟨p,cs.map λx=>(x.2,TW.gE (nds zs) (nds us) x.1),rfl,by rw[hp',e2];unfold jP;rw[map_map];rfl,λe he=>?_,by rw[length_map];omega,λc H2 s2 hc=>?_⟩
  ·obtain⟨x,hx,rfl⟩:=mem_map.mp he;exact e3 x hx
  ·refine q c _ H2 (s1.trans s2) hc ?_;have:kr ((cs.map λx=>(x.2,TW.gE (nds zs) (nds us) x.1)).filter unl)=_:=oE er;rw[this];refine TW.yC hup λk hk=>.inl ((hm k).mpr ?_);rcases hk with h|h
   ·exact .inl (lz h)
   ·exact .inr (lz h)
def vd:Sp:=λvs H Q _=>∃t u zs us,vs=[.ref t,.ref u]∧Tre H t zs∧Tre H u us∧∀c es H',Same H H'→ChgAt H' c es→TW.Chg (nds zs) (nds us) (kr es)→Q (.ref c) H'
theorem ze{f:Addr}{fd:FuncData}(F:Fun K "change_between" "change_between" aS f fd)(T:Txt mg)(CP:Has P w K mg base 1 "parts_by_number" ["tree"] pY)(CU:Has P w K mg base 1 "unlike_entries" ["entries"] qX):FnOk P w K mg base CX0 2 f fd ["one","other"] vd:=by
 obtain⟨fP,fdP,GP,mP,kP,bP⟩:=CP;refine F.ok xc (λvs H Q E h=>?_) (λcdv A outer s H vs Q E hr h=>?_)
 ·obtain⟨t,u,zs,us,rfl,_⟩:=h;rfl
 ·obtain⟨t,u,zs,us,rfl,tr,tr2,q⟩:=h;have hr1:Room 1 _:=hr.mono (by decide);obtain⟨t2,p2,h2⟩:=cb2 (P:=P) (w:=w) (K:=K) (base:=base) (f:=f) (cdv:=cdv) (A:=A) (outer:=outer) (s:=s) (H0:=H) (E:=E) T;obtain⟨t3,p3,h3⟩:=cb3 (P:=P) (w:=w) (base:=base) (f:=f) (cdv:=cdv) (A:=A) (outer:=outer) (s:=s) (H0:=H) (E:=E) hr1 CU;refine⟨_,ag (aA (i:=2) xc.nd rfl (Or.inr rfl) (ak GP hr1 rfl mP kP bP .nil au (aa (pv 0) af)))
   (ag (aA (i:=3) xc.nd rfl (Or.inr rfl) (ak GP hr1 rfl mP kP bP .nil au (aa (pv 1) af))) (ag p2 (am p3))),?_⟩
  refine⟨_,rfl,t,zs,rfl,tr,λd as H1 s1 _ bk _=>?_⟩;refine⟨_,rfl,u,us,rfl,tr2.same s1,λd2 bs H2 s2 _ bk2 _=>?_⟩;refine h2 _ H2 _ _ _ d d2 as bs zs us (bk.same s2) bk2 tr.len tr2.len λl ns H3 s3 hl hup hn hm=>?_;exact h3 _ H3 _ _ d d2 l as bs zs us ns ((bk.same s2).same s3) (bk2.same s3) tr.tr tr2.tr hl hup hn hm λc es H4 s4 hc hch=>q c es H4 (((s1.trans s2).trans s3).trans s4) hc hch
end
def qIn(ns:List Str)(x:Str):Bool:=decide (x∈ns)
theorem qY(ns:List Str)(x:Str):inV (.str x) (ns.map V.str)=qIn ns x:=by
 unfold inV qIn;rw[any_map];apply Bool.eq_iff_iff.mpr;rw[any_eq_true,decide_eq_true_eq];constructor
 ·rintro⟨y,hy,h⟩;have h':y=x:=by simpa [eqV]using h
  exact h' ▸ hy
 ·intro h;exact⟨x,h,by simp[eqV]⟩
theorem lF(ns:List Str):(ns.map V.str).all cQ=true:=by
 rw[all_eq_true];intro x hx;obtain⟨y,_,rfl⟩:=mem_map.mp hx;rfl
theorem jZ(f:Nd→Bool)(zs:ZN):nds (zs.filter λz=>f z.2)=(nds zs).filter f:=by
 unfold nds;rw[filter_map];rfl
def seS(i:Nat):Stmt:=(bv dM).getD i (.Pass ⟨0,0,0,0⟩)
def SEN:List Str:=["tree","names","named_otherwise","met"]
theorem zf:FnScope SEN ["tree","names"] (ai dM):=fsc
abbrev SeX(P:Program)(w:World)(K:PySem.W.Frag)(mg:Str→Option Value)(base:Heap)(f:Addr)(cdv:Value)(A:Around)(outer:List Env)(s:Shared)(H:Hp)(E:XK):Cx:=(fM CX0 P w K mg base SEN "seen" (ai dM) f cdv A outer s H E).nox
section
variable{P:Program}{w:World}{K:PySem.W.Frag}{mg:Str→Option Value}{base:Heap}{f:Addr}{cdv:Value}{A:Around}{outer:List Env}{s:Shared}{H0:Hp}{E:XK}
theorem se0:∃rd,PS (SeX P w K mg base f cdv A outer s H0 E) (seS 0) rd∧∀(D:Ends)(H:Hp)(t pn:Addr)(zs:ZN)(ns:List Str),Tre H t zs→H pn=some (.lst (ns.map V.str)) →
   (∀(l:Addr)(H':Hp),Same H H'→H' l=some (.lst (av (zs.filter λz=>!qIn ns z.2.nm)))→D.nx [some (.ref t),some (.ref pn),some (.ref l),none] H')→rd D [some (.ref t),some (.ref pn),none,none] H:=by
 refine⟨_,lr (ii:=2) (N:=["node","names"]) (cl:=[("names",s.heap.objs.size+1)]) (k:=1) (js:=[1]) (g:=aJ 0) zf.nd rfl (Or.inl rfl) rfl
   (LcOk.mk' ["names"] rfl rfl (by decide +kernel) (by decide +kernel) ?hcl rfl (by decide +kernel)) rfl ?hj
   (cM (pv 0)) (λs H fp=>ap (i:=0) (show(["node","names"]:List Str).Nodup by decide +kernel) rfl (Or.inl rfl) (Or.inr rfl))
   (λs H fp=>aI (r:=rIn K true) lO (aQ (r:=cw K) aG (pv 0) aj (λ_ _=>rfl)) (pv 1) rfl) (λs H fp=>pv 0),?_⟩
 case hcl =>
  intro y hy;rcases mem_cons.mp hy with e|hy
  ·rw[e];rfl
  ·cases hy
 case hj =>
  intro i j x h1 h2
  match i,h1,h2 with
  |0,h1,h2 =>
   cases h1;cases h2;exact⟨rfl,Or.inr (Or.inl rfl),(show((ai dM).names.lookup ("names":Str)≠some NameKind.local)by decide +kernel),by first|exact Or.inl rfl|exact Or.inr rfl⟩
  |i+1,h1,h2=>simp at h1
 intro D H t pn zs ns tr hn q;have hl:=tr.len;refine⟨_,rfl,t,rfl,⟨_,SqT.of tr.tup⟩,λp hp=>?_⟩;refine dJ (fr:=[some (.ref pn)]) zs (λz=>V.ref z.1) (by omega) hp (cb (by rw[aC];exact SqT.of tr.tup)) rfl (λz=>!qIn ns z.2.nm) (λz y _=>y=.ref z.1) (λz y H H' h _=>h) (λz H' k mz s1 _ hk=>?_) (λz H' k mz _ s1 _ hk=>?_) (λys H' s1 hp' hys=>?_)
 ·refine⟨_,rfl,z.1,_,2,_,rfl,rfl,SqT.of (s1 _ _ (tr.nod z mz)),at2 z.2,_,rfl,pn,_,rfl,.inl (SqL.of (s1 _ _ hn)),rfl,lF ns,_,rfl,?_⟩;rw[qY];exact hk H' (Same.refl _)
 ·exact⟨_,rfl,hk _ H' (Same.refl _) rfl⟩
 ·have ey:=aU (f:=λz:Addr×Nd=>V.ref z.1) hys (λz y _ h=>h);exact q p H' s1 (by rw[hp',ey,aC])
theorem sr(fd:List Nd)(hnd:(fd.map (·.num)).Nodup)(k:Int):(bc ((fd.map (·.num)).map λm=>((Sum.inl m:Key),V.bl true)) (Sum.inl k:Key)).isSome=decide (k∈fd.map (·.num)):=by
 by_cases hk:k∈fd.map (·.num)
 ·have:bc ((fd.map (·.num)).map λm=>((Sum.inl m:Key),V.bl true)) (Sum.inl k:Key)=some (.bl true):=by
   refine eL ?_ (mem_map.mpr ⟨k,hk,rfl⟩);rw[map_map];unfold Nodup at hnd⊢;rw[pairwise_map];exact hnd.imp λh e=>h (by injection e)
  rw[this];simp[hk]
 ·have:bc ((fd.map (·.num)).map λm=>((Sum.inl m:Key),V.bl true)) (Sum.inl k:Key)=none:=by
   refine mr λhx=>hk ?_;rw[map_map]at hx;obtain⟨m,hm',e⟩:=mem_map.mp hx;injection e with e
   rw[←e];exact hm'
  rw[this];simp[hk]
theorem se1(T:Txt mg)(hr:Room 1 (A.deeper (PyProof.Rows.envOfC "seen" (ai dM) s.heap.objs.size f cdv)))(CI:Has P w K mg base 1 "numbers_inside" ["nodes","folder"] jT):
  ∃rd,PS (SeX P w K mg base f cdv A outer s H0 E) (seS 1) rd∧∀(D:Ends)(H:Hp)(t pn l:Addr)(ks:ZN),H l=some (.lst (av ks))→At H ks→ks.length≤60→TW.br (nds ks) →
   (∀(d:Addr)(fd:List Nd)(H':Hp),Same H H'→(fd.map (·.num)).Nodup→(∀n,n∈fd↔TW.Reach (nds ks) 0 n)→H' d=some (.dK ((fd.map (·.num)).map λm=>((Sum.inl m:Key),V.bl true)))→D.nx [some (.ref t),some (.ref pn),some (.ref l),some (.ref d)] H')→rd D [some (.ref t),some (.ref pn),some (.ref l),none] H:=by
 obtain⟨fI,fdI,GI,mI,kI,bI⟩:=CI;obtain⟨tt,hT⟩:=T.top;refine⟨_,aA (i:=3) zf.nd rfl (Or.inr rfl) (aD (cu rfl) rfl T.dict boot_dict (aa (dj (N:=["number"]) (cl:=[]) (k:=1) (js:=[]) (g:=aJ 0) rfl (cj rfl (by decide +kernel) (by decide +kernel) (by decide +kernel)) rfl (λi j x h=>by simp at h)
   (bJ (ak GI hr rfl mI kI bI .nil au (aa (pv 2) (aa (de (v:=.int 0) rfl hT ⟨_,rfl⟩) af)))) (λs H fp=>ap (i:=0) (show(["number"]:List Str).Nodup by decide +kernel) rfl (Or.inl rfl) (Or.inr rfl))
   (λs H fp=>bh (aa (pv 0) (aa fD af)))) af)),?_⟩
 intro D H t pn l ks hl hA hlen hri q;refine⟨_,rfl,l,0,ks,rfl,.inl hl,hA,by omega,λfd dn l2 H1 wk hl2 s1=>?_⟩;have hsub:fd.length≤60:=by have:=wk.len;rw[ao]at this;omega
 have hnd:(fd.map (·.num)).Nodup:=by
  refine((wk.perm.map (·.num)).nodup_iff).mpr ?_;have:((nds ks).map (·.num)).Nodup:=by
   unfold Nodup;rw[pairwise_map];exact hri.imp λh e=>by omega
  exact this.sublist (filter_sublist.map _)
 refine⟨l2,rfl,⟨_,SqL.of hl2⟩,λp hp=>?_⟩;refine bM (fr:=[]) (fd.map λn:Nd=>n.num) V.int (by rw[length_map];omega) hp (cI (SqL.of hl2)) rfl (λm y H'=>∃q,y=.ref q∧q≠p∧H' q=some (.tup [.int m,.bl true])) (λm y H H' ⟨q,e,ne,h⟩ ex=>⟨q,e,ne,ex q _ ne h⟩) (λm H' k _ s3 hpl hk=>?_) (λys H3 s3 hp3 hys=>?_)
 ·exact⟨_,rfl,le2,λq hq=>hk _ _ (ae hq) ⟨q,rfl,ck hpl hq,ac⟩⟩
 ·obtain⟨bs,e1,e2,e3⟩:=bE (val:=V.ref) (S:=λ(m:Int) (q:Addr)=>H3 q=some (.tup [.int m,.bl true])) hys (λm y _ ⟨q,e,_,h⟩=>⟨q,e,h⟩);have hbl:bs.length=fd.length:=by have:=congrArg length e1;rw[length_map,length_map]at this;exact this
  refine⟨p,bs.map λx=>(x.2,(Sum.inl x.1:Key),V.bl true),rfl,by rw[hp3,e2,map_map,map_map];rfl,λy hy=>?_,by rw[length_map];omega,?_,λg hg=>?_⟩
  ·obtain⟨x,hx,rfl⟩:=mem_map.mp hy;exact e3 x hx
  ·rw[map_map];have:(bs.map ((λx:Addr×Key×V=>x.2.1)∘λx=>(x.2,(Sum.inl x.1:Key),V.bl true)))=(fd.map (·.num)).map (Sum.inl:Int→Key):=by rw[←e1,map_map];rfl
   rw[this];unfold Nodup at hnd⊢;rw[pairwise_map];exact hnd.imp λh e=>h (by injection e)
  ·have ekv:(bs.map λx=>(x.2,(Sum.inl x.1:Key),V.bl true)).map (·.2)=(fd.map (·.num)).map λm=>((Sum.inl m:Key),V.bl true):=by rw[←e1,map_map,map_map];rfl
   rw[ekv];exact q g fd _ ((s1.trans s3).trans (ae hg)) hnd wk.mem ac
theorem se2(T:Txt mg)(hr:Room 1 (A.deeper (PyProof.Rows.envOfC "seen" (ai dM) s.heap.objs.size f cdv))):
  ∃rd,PS (SeX P w K mg base f cdv A outer s H0 E) (seS 2) rd∧∀(D:Ends)(H:Hp)(t pn l d:Addr)(ks:ZN)(fd:List Nd),H l=some (.lst (av ks))→At H ks→ks.length≤60→(fd.map (·.num)).Nodup→H d=some (.dK ((fd.map (·.num)).map λm=>((Sum.inl m:Key),V.bl true))) →
   (∀(t':Addr)(H':Hp),Same H H'→H' t'=some (.tup (av (ks.filter λz=>decide (z.2.num∈fd.map (·.num)))))→D.rt (.ref t') H')→rd D [some (.ref t),some (.ref pn),some (.ref l),some (.ref d)] H:=by
 refine⟨_,aF (aD bg rfl T.tuple rfl (aa (dZ (N:=["node","met"]) (cl:=[("met",s.heap.objs.size+2)]) (k:=1) (js:=[3]) (g:=aJ 0) rfl
   (LcOk.mk' ["met"] rfl rfl (by decide +kernel) (by decide +kernel) ?hcl rfl (by decide +kernel)) rfl ?hj
   (bJ (pv 2)) (λs H fp=>ap (i:=0) (show(["node","met"]:List Str).Nodup by decide +kernel) rfl (Or.inl rfl) (Or.inr rfl))
   (λs H fp=>lH (sY (cr hr) (aQ (r:=cw K) aG (pv 0) aj (λ_ _=>rfl)) (pv 1))) (λs H fp=>pv 0)) af)),?_⟩
 case hcl =>
  intro y hy;rcases mem_cons.mp hy with e|hy
  ·rw[e];rfl
  ·cases hy
 case hj =>
  intro i j x h1 h2
  match i,h1,h2 with
  |0,h1,h2 =>
   cases h1;cases h2;exact⟨rfl,Or.inr (Or.inl rfl),(show((ai dM).names.lookup ("met":Str)≠some NameKind.local)by decide +kernel),by first|exact Or.inl rfl|exact Or.inr rfl⟩
  |i+1,h1,h2=>simp at h1
 intro D H t pn l d ks fd hl hA hlen hnd hd q;refine⟨_,rfl,l,rfl,⟨_,SqL.of hl⟩,λp hp=>?_⟩;refine dJ (fr:=[some (.ref d)]) ks (λz=>V.ref z.1) (by omega) hp (cI (by rw[aC];exact SqL.of hl)) rfl (λz=>decide (z.2.num∈fd.map (·.num))) (λz y _=>y=.ref z.1) (λz y H H' h _=>h) (λz H' k mz s6 _ hk=>?_) (λz H' k mz _ s6 _ hk=>?_) (λys H6 s6 hp6 hys=>?_)
 ·refine⟨_,rfl,z.1,_,_,_,rfl,rfl,SqT.of (s6 _ _ (hA z mz)),at0 z.2,_,rfl,d,_,rfl,cK.k (k:=Sum.inl z.2.num) (s6 _ _ hd),_,rfl,?_⟩;rw[sr fd hnd];exact hk H' (Same.refl _)
 ·exact⟨_,rfl,hk _ H' (Same.refl _) rfl⟩
 ·have ey:=aU (f:=λz:Addr×Nd=>V.ref z.1) hys (λz y _ h=>h);refine⟨p,_,rfl,.inl ⟨SqL.of hp6,λl6 hl6=>?_⟩⟩;exact q l6 _ (s6.trans (ae hl6)) (by rw[ac,ey,aC])
def dw:Sp:=λvs H Q _=>∃t pn zs ns,vs=[.ref t,.ref pn]∧Tre H t zs∧H pn=some (.lst (ns.map V.str))∧∀t' us H',Same H H'→Tre H' t' us→nds us=TW.aB (qIn ns) (nds zs)→Q (.ref t') H'
open Classical in
theorem xf{f:Addr}{fd:FuncData}(F:Fun K "seen" "seen" dM f fd)(T:Txt mg)(CI:Has P w K mg base 1 "numbers_inside" ["nodes","folder"] jT):FnOk P w K mg base CX0 2 f fd ["tree","names"] dw:=by
 refine F.ok zf (λvs H Q E h=>?_) (λcdv A outer s H vs Q E hr h=>?_)
 ·obtain⟨t,pn,zs,ns,rfl,_⟩:=h;rfl
 ·obtain⟨t,pn,zs,ns,rfl,tr,hn,q⟩:=h;obtain⟨t0,p0,h0⟩:=se0 (P:=P) (w:=w) (K:=K) (mg:=mg) (base:=base) (f:=f) (cdv:=cdv) (A:=A) (outer:=outer) (s:=s) (H0:=H) (E:=E);obtain⟨t1,p1,h1⟩:=se1 (outer:=outer) (H0:=H) (E:=E) T hr CI;obtain⟨t2,p2,h2⟩:=se2 (P:=P) (w:=w) (K:=K) (base:=base) (outer:=outer) (H0:=H) (E:=E) T hr;refine⟨_,ag p0 (ag p1 (am p2)),?_⟩;have hl:=tr.len;have hA:∀{H':Hp},Same H H'→At H' (zs.filter λz=>!qIn ns z.2.nm):=λs1 z hz=>s1 _ _ (tr.nod z (mem_filter.mp hz).1);have hks:nds (zs.filter λz=>!qIn ns z.2.nm)=TW.kept (qIn ns) (nds zs):=jZ (λn=>!qIn ns n.nm) zs;have hkl:(zs.filter λz=>!qIn ns z.2.nm).length≤60:=le_trans (length_filter_le _ _) (by omega);have hri:TW.br (nds (zs.filter λz=>!qIn ns z.2.nm)):=by rw[hks];exact tr.tr.rise.sublist filter_sublist
  refine h0 _ H t pn zs ns tr hn λl H1 s1 hl1=>?_;refine h1 _ H1 t pn l _ hl1 (hA s1) hkl hri λd fd H2 s2 hnd hm hd=>?_;refine h2 _ H2 t pn l d _ fd (s2 _ _ hl1) (hA (s1.trans s2)) hkl hnd hd λt' H3 s3 ht'=>?_;have s13:=(s1.trans s2).trans s3;have en:nds ((zs.filter λz=>!qIn ns z.2.nm).filter λz=>decide (z.2.num∈fd.map (·.num)))=TW.aB (qIn ns) (nds zs):=by
   rw[jZ (λn=>decide (n.num∈fd.map (·.num))),hks];unfold TW.aB;apply filter_congr;intro n hn';apply Bool.eq_iff_iff.mpr;rw[decide_eq_true_eq,decide_eq_true_eq];rw[hks]at hm hri;constructor
   ·intro h;obtain⟨m,hm1,hm2⟩:=mem_map.mp h;have hr':=(hm m).mp hm1;rw[←TW.jF hri hr'.mem hn' hm2];exact hr'
   ·intro h;exact mem_map.mpr ⟨n,(hm n).mpr h,rfl⟩
  refine q t' _ H3 s13 ⟨ht',λz hz=>hA s13 z (mem_filter.mp hz).1,by rw[en];exact TW.cn tr.tr,?_⟩ en;exact le_trans (length_filter_le _ _) (le_trans (length_filter_le _ _) hl)
def qZ:Sp:=λvs H Q _=>∃t u pn zs us ns,vs=[.ref t,.ref u,.ref pn]∧Tre H t zs∧Tre H u us∧H pn=some (.lst (ns.map V.str))∧∀c es H',Same H H'→ChgAt H' c es→TW.Chg (TW.aB (qIn ns) (nds zs)) (TW.aB (qIn ns) (nds us)) (kr es)→Q (.ref c) H'
theorem Ap:FnScope ["one","other","names"] ["one","other","names"] (ai dt):=fsc
theorem zg{f:Addr}{fd:FuncData}(F:Fun K "change_seen" "change_seen" dt f fd)(CS:Has P w K mg base 2 "seen" ["tree","names"] dw)(CC:Has P w K mg base 2 "change_between" ["one","other"] vd):FnOk P w K mg base CX0 3 f fd ["one","other","names"] qZ:=by
 obtain⟨fS,fdS,GS,mS,kS,bS⟩:=CS;obtain⟨fC,fdC,GC,mC,kC,bC⟩:=CC;refine F.ok Ap (λvs H Q E h=>?_) (λcdv A outer s H vs Q E hr h=>?_)
 ·obtain⟨t,u,pn,zs,us,ns,rfl,_⟩:=h;rfl
 ·obtain⟨t,u,pn,zs,us,ns,rfl,tr,ur,hn,q⟩:=h;refine⟨_,am (aF (ak GC hr rfl mC kC bC .nil au (aa (ak GS hr rfl mS kS bS .nil au (aa (pv 0) (aa (pv 2) af))) (aa (ak GS hr rfl mS kS bS .nil au (aa (pv 1) (aa (pv 2) af))) af)))),?_⟩;refine⟨_,rfl,_,rfl,t,pn,zs,ns,rfl,tr,hn,λt' zs' H1 s1 tr' e1=>?_⟩;refine⟨_,rfl,_,rfl,u,pn,us,ns,rfl,ur.same s1,s1 _ _ hn,λu' us' H2 s2 ur' e2=>?_⟩;refine⟨t',u',zs',us',rfl,tr'.same s2,ur',λc es H3 s3 hc hch=>?_⟩;rw[e1,e2]at hch;exact q c es H3 ((s1.trans s2).trans s3) hc hch
def rc:Sp:=λvs H Q _=>∃t u pn zs us ns,vs=[.ref t,.ref u,.ref pn]∧Tre H t zs∧Tre H u us∧H pn=some (.lst (ns.map V.str))∧∀b H',Same H H'→(b=true↔TW.aB (qIn ns) (nds zs)=TW.aB (qIn ns) (nds us))→Q (.bl b) H'
theorem Aq:FnScope ["one","other","names"] ["one","other","names"] (ai fu):=fsc
end
theorem ss(n:Nd):∀v∈vals n,dR v=true:=λv hv=>by
 rcases mem_cons.mp hv with e|hv
 ·rw[e];rfl
 ·exact jO n v hv
theorem vf{a b:Nd}(h:vals a=vals b):a=b:=by
 have h1:V.int a.num=V.int b.num∧aV a=aV b:=by
  have h':V.int a.num::aV a=V.int b.num::aV b:=h;exact⟨(List.cons.inj h').1,(List.cons.inj h').2⟩
 have h2:a.num=b.num:=by
  have:=h1.1;injection this
 exact ly h1.2 h2
def zvs(zs:ZN):List (Addr×List V):=zs.map λz=>(z.1,vals z.2)
theorem oS(zs:ZN):((zvs zs).map λp=>V.ref p.1)=av zs:=by unfold zvs;rw[map_map,←aC];rfl
theorem vg{H:Hp}{zs:ZN}(h:At H zs):∀p∈zvs zs,H p.1=some (.tup p.2)∧∀v∈p.2,dR v=true:=λp hp=>by
 obtain⟨z,hz,rfl⟩:=mem_map.mp hp;exact⟨h z hz,ss z.2⟩
theorem zh(zs us:ZN):((zvs zs).map (·.2)=(zvs us).map (·.2))↔nds zs=nds us:=by
 have e:∀xs:ZN,(zvs xs).map (·.2)=(nds xs).map vals:=λxs=>by unfold zvs nds;rw[map_map,map_map];rfl
 rw[e,e];constructor
 ·intro h;have inj:∀(a b:List Nd),a.map vals=b.map vals→a=b:=by
   intro a
   induction a with
   |nil=>intro b h;cases b with
    |nil=>rfl
    |cons y b=>cases h
   |cons x a ih=>intro b h;cases b with
    |nil=>cases h
    |cons y b =>
     rw[map_cons,map_cons]at h;obtain⟨h1,h2⟩:=List.cons.inj h;rw[vf h1,ih b h2]
  exact inj _ _ h
 ·intro h;rw[h]
section
variable{P:Program}{w:World}{K:PySem.W.Frag}{mg:Str→Option Value}{base:Heap}
theorem zk{f:Addr}{fd:FuncData}(F:Fun K "is_quiet" "is_quiet" fu f fd)(CS:Has P w K mg base 2 "seen" ["tree","names"] dw):FnOk P w K mg base CX0 3 f fd ["one","other","names"] rc:=by
 obtain⟨fS,fdS,GS,mS,kS,bS⟩:=CS;refine F.ok Aq (λvs H Q E h=>?_) (λcdv A outer s H vs Q E hr h=>?_)
 ·obtain⟨t,u,pn,zs,us,ns,rfl,_⟩:=h;rfl
 ·obtain⟨t,u,pn,zs,us,ns,rfl,tr,ur,hn,q⟩:=h;refine⟨_,am (aF (dF (wL (cr hr)) (ak GS hr rfl mS kS bS .nil au (aa (pv 0) (aa (pv 2) af))) (ak GS hr rfl mS kS bS .nil au (aa (pv 1) (aa (pv 2) af))) (aR _))),?_⟩;refine⟨_,rfl,_,rfl,t,pn,zs,ns,rfl,tr,hn,λt' zs' H1 s1 tr' e1=>?_⟩;refine⟨_,rfl,_,rfl,u,pn,us,ns,rfl,ur.same s1,s1 _ _ hn,λu' us' H2 s2 ur' e2=>?_⟩;have tr2:=tr'.same s2;refine⟨t',u',zvs zs',zvs us',rfl,rfl,by rw[oS];exact tr2.tup,by rw[oS];exact ur'.tup,vg tr2.nod,vg ur'.nod,q _ H2 (s1.trans s2) ?_⟩;rw[decide_eq_true_eq,zh,e1,e2]
def pZ(K:PySem.W.Frag):Sp:=λvs H Q _=>∃a k,vs=[.ref a,.int k]∧0≤k∧iz K H a∧∀r H',Same H H'→Q (.int r) H'
theorem zl:FnScope ["_law_script","_law_k"] ["_law_script","_law_k"] (ai uv):=fsc
theorem xg{f:Addr}{fd:FuncData}(F:Fun K "_law_cell" "_law_cell" uv f fd)(T:Txt mg):FnOk P w K mg base CX0 1 f fd ["_law_script","_law_k"] (pZ K):=by
 refine F.ok zl (λvs H Q E h=>?_) (λcdv A outer s H vs Q E hr h=>?_)
 ·obtain⟨a,k,rfl,_⟩:=h;rfl
 ·obtain⟨a,k,rfl,hk,⟨ns,ea⟩,q⟩:=h;refine⟨_,ag (cp (aI zF (pv 1) (aT bj rfl T.len boot_len (aa (pv 0) af)) (aR _)) (am (aF (aQ fX (pv 0) (pv 1) (λ_ _=>rfl)))) bf)
   (ag (cp (aI (fo hr.units0) (pv 0) (bw af) (aR _)) (am (aF aj)) bf)
   (am (aF (aK bq (aK dm (aQ fX (pv 0) (aK lK (pv 1) (aT bj rfl T.len boot_len (aa (pv 0) af))) (λ_ _=>rfl)) aj) (pv 1))))),?_⟩
  refine⟨_,rfl,_,rfl,a,_,rfl,.inl (ea),_,_,rfl,rfl,_,rfl,?_⟩;rw[length_map]
  by_cases h:k<(ns.length:Int)
  ·rw[decide_eq_true h];obtain⟨j,ej⟩:=og hk h;exact iE ⟨_,rfl,_,rfl,a,_,_,_,rfl,rfl,ea,ej,q _ _ (Same.refl _)⟩
  ·rw[decide_eq_false h];refine cy ⟨_,rfl,zero_le _,λp hp=>⟨a,p,_,rfl,rfl,((ae hp).seq ea),SqL.of ac,_,rfl,?_⟩⟩
   by_cases h0:ns=[]
   ·subst h0;exact iE (q _ _ (ae hp))
   ·have hne:¬ns.map V.int=[]:=by simpa using h0
    rw[decide_eq_false hne];have hpos:0<ns.length:=List.length_pos_iff.mpr h0;have hm1:0≤k % (ns.length:Int):=emod_nonneg _ (by omega);have hm2:k % (ns.length:Int)<ns.length:=Int.emod_lt_of_pos _ (by omega);obtain⟨j,ej⟩:=og hm1 hm2;have ej':atI (ns.map V.int) (k % ((ns.map V.int).length:Int))=some (.int j):=by rw[length_map];exact ej
    exact cy ⟨_,rfl,_,rfl,_,rfl,a,_,rfl,.inl (((ae hp).seq ea)),_,_,rfl,rfl,by rw[length_map];omega,a,_,_,_,rfl,rfl,((ae hp).seq ea),ej',_,_,rfl,rfl,.inr ⟨by decide,by decide⟩,_,rfl,_,_,rfl,rfl,q _ _ (ae hp)⟩
def ka(K:PySem.W.Frag):Sp:=λvs H Q _=>∃a k m,vs=[.ref a,.int k,.int m]∧0≤k∧0<m∧iz K H a∧∀r H',0≤r→r<m→Same H H'→Q (.int r) H'
theorem vh:FnScope ["_law_script","_law_k","_law_many","_law_drawn"] ["_law_script","_law_k","_law_many"] (ai uw):=fsc
theorem xh{f:Addr}{fd:FuncData}(F:Fun K "_law_pick" "_law_pick" uw f fd)(T:Txt mg)(C:Has P w K mg base 1 "_law_cell" ["_law_script","_law_k"] (pZ K)):FnOk P w K mg base CX0 2 f fd ["_law_script","_law_k","_law_many"] (ka K):=by
 obtain⟨fC,fdC,GC,mC,kC,bC⟩:=C;refine F.ok vh (λvs H Q E h=>?_) (λcdv A outer s H vs Q E hr h=>?_)
 ·obtain⟨a,k,m,rfl,_⟩:=h;rfl
 ·obtain⟨a,k,m,rfl,hk,hm,hS,q⟩:=h;refine⟨_,(ag (aA (i:=3) vh.nd rfl (Or.inl rfl) (aK lK (aK dm (aK bq (ak GC hr rfl mC kC bC .nil au (aa (pv 0) (aa (pv 1) af))) (aK dm aj (aK bq (pv 1) aj))) aj) aj))
   (am (aF (aK lK (aK lK (aK bq (aK dm (pv 3) (pv 3)) (aK vz (pv 3) aj)) aj) (pv 2))))),?_⟩
  refine⟨_,rfl,_,rfl,a,k,rfl,hk,hS,λr H1 s1=>?_⟩;refine⟨_,rfl,_,_,rfl,rfl,_,_,rfl,rfl,.inl ⟨by decide,by decide⟩,_,_,rfl,rfl,_,_,rfl,rfl,.inr ⟨by decide,by decide⟩,_,_,rfl,rfl,(by decide:(0:Int)<2147483399),?_⟩;generalize hd:(r+6151*(k+1))*40692 % 2147483399=dr;have d0:0≤dr:=by rw[←hd];exact emod_nonneg _ (by decide)
  have d1:dr<2147483399:=by rw[←hd];exact Int.emod_lt_of_pos _ (by decide)
  refine⟨_,rfl,_,rfl,_,_,rfl,rfl,.inl ⟨by omega,by omega⟩,_,rfl,_,_,rfl,rfl,⟨by decide,by decide⟩,_,_,rfl,rfl,_,_,rfl,rfl,(by decide:(0:Int)<2147483629),_,rfl,_,_,rfl,rfl,hm,?_⟩;exact q _ _ (emod_nonneg _ (by omega)) (Int.emod_lt_of_pos _ hm) s1
def nc(K:PySem.W.Frag):Sp:=λvs H Q _=>∃a at' m,vs=[.ref a,.int at',.int m]∧0≤at'∧0≤m∧m≤9∧iz K H a∧∀t zs H',H' t=some (.tup (av zs))→At H' zs→(zs.length:Int)≤m→TW.Tree (nds zs)→(∀z∈zs,uq z.2)→Same H H'→Q (.ref t) H'
theorem scB:FnScope ["_law_script","_law_at","_law_most","_law_left","_law_folders","_law_nodes","_law_k","_law_number","_law_parent","_law_name","_law_stamp"] ["_law_script","_law_at","_law_most"] (ai ic):=fsc
def buS(i:Nat):Stmt:=match (bv ic).getD 3 (.Pass ⟨0,0,0,0⟩)with
 |.For _ _ b _ _=>b.getD i (.Pass ⟨0,0,0,0⟩)
 |x=>x
abbrev BX(P:Program)(w:World)(K:PySem.W.Frag)(mg:Str→Option Value)(base:Heap)(f:Addr)(cdv:Value)(A:Around)(outer:List Env)(s:Shared)(H:Hp)(E:XK):Cx:=(fM CX0 P w K mg base ["_law_script","_law_at","_law_most","_law_left","_law_folders","_law_nodes","_law_k","_law_number","_law_parent","_law_name","_law_stamp"] "_law_tree" (ai ic) f cdv A outer s H E).nox
theorem Ar{f:Addr}{cdv:Value}{A:Around}{outer:List Env}{s:Shared}{H0:Hp}{E:XK}(hr:Room 2 (A.deeper (PyProof.Rows.envOfC "_law_tree" (ai ic) s.heap.objs.size f cdv))):
  ∃t,PS (BX P w K mg base f cdv A outer s H0 E) (buS 5) t∧∀(D:Ends)(H H6:Hp)(pl pf pn:Addr)(x0 x1 x2 x6:Option V)(lf:List Int)(zs:ZN)(num par:Int)(nm:Str)(st:Option Int),Sta H pl pf pn H6 lf (0::TW.aM (nds zs)) zs→zs.length≤20 →
   (∀H',Sta H pl pf pn H' lf (0::TW.aM (nds zs)) zs→D.nx [x0,x1,x2,some (.ref pl),some (.ref pf),some (.ref pn),x6,some (.int num),some (.int par),some (.str nm),some (stV st)] H') →
   (∀q H',(∀z∈zs,¬(z.2.par=par∧z.2.nm=nm))→Sta H pl pf pn H' lf (0::TW.aM (nds (zs++[(q,⟨num,par,nm,st⟩)]))) (zs++[(q,⟨num,par,nm,st⟩)])→D.nx [x0,x1,x2,some (.ref pl),some (.ref pf),some (.ref pn),x6,some (.int num),some (.int par),some (.str nm),some (stV st)] H') →
   t D [x0,x1,x2,some (.ref pl),some (.ref pf),some (.ref pn),x6,some (.int num),some (.int par),some (.str nm),some (stV st)] H6:=by
 refine⟨_,cp (aI (ke (cr hr)) (bh (aa (pv 8) (aa (pv 9) af))) (dj (N:=["_law_node"]) (k:=1) (js:=[]) (g:=aJ 0) rfl (cj rfl (by decide +kernel) (by decide +kernel) (by decide +kernel)) rfl (λi j x h=>by simp at h)
     (bJ (pv 5)) (λs H fp=>ap (i:=0) (show(["_law_node"]:List Str).Nodup by decide +kernel) rfl (Or.inl rfl) (Or.inr rfl))
     (λs H fp=>cY (r:=rp K) jf (pv 0) (dh aj) (dh aj))) rfl) (ag (ci (iw plainAttrs_list PySem.F.slot_list_append PySem.F.type_list_append cq (pv 5) (aa (bh (aa (pv 7) (aa (pv 8) (aa (pv 9) (aa (pv 10) af))))) af))) (am (cp (aI oY (pv 10) gK (aR _)) (am (ci (iw plainAttrs_list PySem.F.slot_list_append PySem.F.type_list_append cq (pv 4) (aa (pv 7) af)))) bf))) bf,?_⟩
 intro D H H6 pl pf pn x0 x1 x2 x6 lf zs num par nm st A6 hzl qs qa;refine⟨_,rfl,_,rfl,le2,λq0 hq0=>?_⟩;have A7:=A6.grow (ae (o:=.tup [.int par,.str nm]) hq0);have eq0:(upd H6 q0 (.tup [.int par,.str nm])) q0=some (.tup ([Sum.inl par,Sum.inr nm].map kV)):=ac;refine⟨_,rfl,pn,rfl,⟨_,SqL.of A7.n⟩,λp hp=>?_⟩;generalize upd H6 q0 (.tup [.int par,.str nm])=H7 at A7 eq0 hp⊢;refine tV (k:=1) (js:=[]) (J:=Itl K pn) (p:=p) zs.length (by omega) (λi ys σ' H'=>∃kss:List (Addr×List Key),ys=(kss.map (·.1)).map V.ref∧kss.map (·.2)=((nds zs).take i).map plK∧kss.length=i∧(∀z∈kss,H' z.1=some (.tup (z.2.map kV)))∧σ'.length=1∧Same H7 H'∧H' p=some (.lst ys))
  ⟨[],rfl,rfl,rfl,by simp,rfl,ae hp,ac⟩ (λi ys σ' H' h=>?_) (λi ys σ' H' hi h=>?_) (λys σ' H' h=>?_) (λi ys σ' H' hi h v H2 hy=>?_) ?_ ?_
 ·obtain⟨kss,rfl,_,e,_⟩:=h;rw[length_map,length_map];omega
 ·obtain⟨_,_,_,_,_,_,s2,_⟩:=h;exact⟨_,_,SqL.of (s2 _ _ A7.n),eJ (getElem?_eq_getElem hi)⟩
 ·obtain⟨kss,e1,e2,e3,e4,_,s2,e5⟩:=h;refine⟨⟨_,SqL.of (s2 _ _ A7.n),by rw[bd];exact le_refl _⟩,?_⟩;subst e1;refine⟨q0,p,_,kss,rfl,s2 _ _ eq0,rfl,SqL.of e5,e4,_,rfl,?_⟩;rw[take_of_length_le (by rw[ao];exact le_refl _)]at e2;have A8:=A7.grow s2;cases ea:(kss.any λz=>decide (z.2=[Sum.inl par,Sum.inr nm]))with
  |true=>exact cy (qs _ A8)
  |false =>
   have ho:∀z∈zs,¬(z.2.par=par∧z.2.nm=nm):=λz hz ⟨h1,h2⟩=>by
    have m1:plK z.2∈kss.map (·.2):=by rw[e2];exact mem_map.mpr ⟨z.2,mem_map.mpr ⟨z,hz,rfl⟩,rfl⟩
    obtain⟨y,hy,ey⟩:=mem_map.mp m1;have:(kss.any λz=>decide (z.2=[Sum.inl par,Sum.inr nm]))=true:=any_eq_true.mpr ⟨y,hy,by rw[decide_eq_true_eq,ey];unfold plK;rw[h1,h2]⟩;rw[ea]at this;cases this
   refine iE ⟨_,rfl,.inl ⟨rfl,_,SqL.of A8.n⟩,_,rfl,_,rfl,_,rfl,_,rfl,(show 4≤sizeLine from aW (by decide)),λq hq=>⟨pn,_,_,rfl,rfl,ca hq A8.n,aE (by rw[bd];omega),?_⟩⟩;have A9:=(A8.grow (ae (o:=.tup (vals ⟨num,par,nm,st⟩)) hq)).node (n:=⟨num,par,nm,st⟩) ac;refine⟨_,rfl,rfl,_,rfl,?_⟩;cases st with
   |some i5 =>
    have ef:(0::TW.aM (nds zs))=(0:Int)::TW.aM (nds (zs++[(q,⟨num,par,nm,some i5⟩)])):=by simp[TW.aM,nds]
    rw[ef]at A9;exact cy (qa q _ ho A9)
   |none =>
    refine iE ⟨_,rfl,.inl ⟨rfl,_,SqL.of A9.f⟩,_,rfl,pf,_,_,rfl,rfl,A9.f,aE ?_,?_⟩
    ·have:=TW.dk (nds zs);rw[ao]at this;rw[length_map,length_cons];omega
    ·have A10:=A9.fold num;have ef:(0::TW.aM (nds zs))++[num]=(0:Int)::TW.aM (nds (zs++[(q,⟨num,par,nm,none⟩)])):=by simp[TW.aM,nds]
     rw[ef]at A10;exact qa q _ ho A10
 ·obtain⟨kss,e1,e2,e3,e4,e0,s2,e5⟩:=h;obtain⟨o1,rfl⟩:=um e0;obtain⟨rfl,hx⟩:=hy;have gx:=hx _ (SqL.of (s2 _ _ A7.n));obtain⟨z1,g1,rfl⟩:=cB gx;have m1:=mem_of_getElem? g1;have ecut:gR (vals z1.2) (some 1) (some 3)=[.int z1.2.par,.str z1.2.nm]:=rfl;refine⟨_,rfl,_,rfl,_,rfl,z1.1,_,rfl,SqT.of (s2 _ _ (A7.nd z1 m1)),(λh=>by have h1:(1:Nat)=0:=h.1;cases h1),λq hq=>?_⟩;rw[ecut];refine⟨ca hq e5,kss++[(q,plK z1.2)],by rw[e1];simp,?_,by simp[e3],?_,rfl,aL hp (s2.trans (ae hq)),ac⟩
  ·rw[map_append,e2,take_succ,show(nds zs)[i]?=some z1.2 by unfold nds;rw[getElem?_map,g1];rfl,map_append];rfl
  ·intro z hz;have hqp:q≠p:=λz=>by rw[z,e5]at hq;cases hq
   rcases mem_append.mp hz with hz|hz
   ·have:=ca (o:=.tup [.int z1.2.par,.str z1.2.nm]) hq (e4 z hz);rw[al]
    ·exact this
    ·intro e;rw[e,al (symm hqp),e5]at this;cases this
   ·have e:z=(q,plK z1.2):=by simpa using hz
    subst e;rw[al hqp];exact ac
 ·rintro _ _ _ _ _ m h;exact m _ _ h
 ·rintro _ _ _ _ m ⟨v1,b0,i1,b1,i2,b2,a2,x2,c1,c2,c3,q⟩;exact⟨v1,b0,i1,b1,i2,b2,a2,x2,c1,c2,c3,λp hp=>m _ _ (q p hp)⟩
theorem vi{f:Addr}{fd:FuncData}(F:Fun K "_law_tree" "_law_tree" ic f fd)(T:Txt mg)(C:Has P w K mg base 2 "_law_pick" ["_law_script","_law_k","_law_many"] (ka K)):FnOk P w K mg base CX0 3 f fd ["_law_script","_law_at","_law_most"] (nc K):=by
 obtain⟨fP,fdP,GP,mP,kP,bP⟩:=C;refine F.ok scB (λvs H Q E h=>?_) (λcdv A outer s H vs Q E hr h=>?_)
 ·obtain⟨a,at',m,rfl,_⟩:=h;rfl
 ·obtain⟨a,at',m,rfl,ha0,hm0,hm9,hS,k⟩:=h;obtain⟨t5,p5,h5⟩:=Ar (P:=P) (w:=w) (mg:=mg) (base:=base) (f:=f) (cdv:=cdv) (A:=A) (outer:=outer) (s:=s) (H0:=H) (E:=E) hr;refine⟨_,(ag (aA (i:=3) scB.nd rfl (Or.inl rfl) (aD (kh rfl) rfl T.list rfl (aa (aD rL rfl T.range rfl (aa aj (aa (aK bq (pv 2) aj) af))) af)))
    (ag (aA (i:=4) scB.nd rfl (Or.inl rfl) (bw (aa aj af)))
    (ag (aA (i:=5) scB.nd rfl (Or.inl rfl) (bw af))
    (ag (jb PassesOwn.never rfl (rk rfl T.range (aa (ak GP hr rfl mP kP bP .nil au (aa (pv 0) (aa (pv 1) (aa (aK bq (pv 2) aj) af)))) af)) (ap (i:=6) scB.nd rfl (Or.inl rfl))
    (ag (aA (i:=7) scB.nd rfl (Or.inl rfl) (iw plainAttrs_list slot_list_pop type_list_pop sX (pv 3) (aa (ak GP hr rfl mP kP bP .nil au (aa (pv 0) (aa (aK bq (aK bq (pv 1) aj) (aK dm aj (pv 6))) (aa (aT bj rfl T.len boot_len (aa (pv 3) af)) af)))) af)))
    (ag (aA (i:=8) scB.nd rfl (Or.inl rfl) (aQ fX (pv 4) (ak GP hr rfl mP kP bP .nil au (aa (pv 0) (aa (aK bq (aK bq (pv 1) aj) (aK dm aj (pv 6))) (aa (aT bj rfl T.len boot_len (aa (pv 4) af)) af)))) (λ_ _=>rfl)))
    (ag (aA (i:=9) scB.nd rfl (Or.inl rfl) (aQ fX (bw (aa dW (aa dW (aa dW (aa dW af))))) (ak GP hr rfl mP kP bP .nil au (aa (pv 0) (aa (aK bq (aK bq (pv 1) aj) (aK dm aj (pv 6))) (aa aj af)))) (λ_ _=>rfl)))
    (ag (aA (i:=10) scB.nd rfl (Or.inl rfl) gK)
    (ag (cp (aI sO (ak GP hr rfl mP kP bP .nil au (aa (pv 0) (aa (aK bq (aK bq (pv 1) aj) (aK dm aj (pv 6))) (aa aj af)))) aj (aR _)) (am (aA (i:=10) scB.nd rfl (Or.inl rfl) (aQ fX (bw (aa aj (aa aj (aa aj (aa aj af))))) (ak GP hr rfl mP kP bP .nil au (aa (pv 0) (aa (aK bq (aK bq (pv 1) aj) (aK dm aj (pv 6))) (aa aj af)))) (λ_ _=>rfl)))) bf)
    (am p5)))))))
    (am (aF (aD bg rfl T.tuple rfl (aa (aT hV rfl T.sorted boot_sorted (aa (pv 5) af)) af)))))))),?_⟩
  refine⟨_,rfl,_,_,rfl,rfl,_,_,rfl,λp1 hp1=>⟨p1,_,_,rfl,ac,⟨by decide,by decide,by omega,by omega⟩,by omega,λpl hpl=>?_⟩⟩;refine⟨aW (by decide),λpf hpf=>⟨zero_le _,λpn hpn=>?_⟩⟩;have s0:Same H (upd (upd (upd (upd H p1 (.rng 1 (m+4))) pl (.lst ((List.range (m+4-1:Int).toNat).map λk=>V.int (1+(k:Nat))))) pf (.lst [.int 0])) pn (.lst [])):=(((ae hp1).trans (ae hpl)).trans (ae hpf)).trans (ae hpn);have hfl:pl≠pf:=λe=>by rw[←e,ac]at hpf;cases hpf
  have hln:pl≠pn:=λe=>by rw[←e,al hfl,ac]at hpn;cases hpn
  have hfn:pf≠pn:=λe=>by rw[←e,ac]at hpn;cases hpn
  have A0:Sta H pl pf pn (upd (upd (upd (upd H p1 (.rng 1 (m+4))) pl (.lst ((List.range (m+4-1:Int).toNat).map λk=>V.int (1+(k:Nat))))) pf (.lst [.int 0])) pn (.lst [])) (lf0 m) [0] [] :=
   ⟨s0,by rw[al hln,al hfl,ac,lf0,map_map];rfl,by rw[al hfn,ac];rfl,ac,λz hz=>by simp at hz,(ae hp1).free hpl,((ae hp1).trans (ae hpl)).free hpf,(((ae hp1).trans (ae hpl)).trans (ae hpf)).free hpn,hfl,hln,hfn⟩
  have B0:Bd [] (lf0 m):=Bd.zero hm9;refine⟨_,rfl,_,rfl,_,rfl,_,_,rfl,rfl,a,_,_,rfl,ha0,by omega,hS.same s0,λr H1 r0 r1 s1=>⟨r,rfl,by omega,by omega,?_⟩⟩;refine rm (n:=r.toNat) (λi σ H'=>∃lf zs o6 o7 o8 o9 o10,σ=[some (.ref a),some (.int at'),some (.int m),some (.ref pl),some (.ref pf),some (.ref pn),o6,o7,o8,o9,o10]∧Sta H pl pf pn H' lf (0::TW.aM (nds zs)) zs∧Bd zs lf∧(lf.length:Int)+i=m+3∧zs.length≤i)
   ⟨_,[],_,_,_,_,_,rfl,A0.grow s1,B0,by rw[wq hm0];omega,le_refl _⟩ (λi σ H' hi h=>?_) (λσ H' h=>?_)
  ·obtain⟨lf,zs,o6,o7,o8,o9,o10,rfl,A1,B,hlf,hzl⟩:=h;have hi8:i<10:=by omega
   have z0:(0:Int)≤at'+1+6*(0+(i:Int)):=by omega
   refine⟨_,rfl,.inl ⟨rfl,_,SqL.of A1.l⟩,_,rfl,_,rfl,_,_,rfl,rfl,_,rfl,_,_,rfl,rfl,.inl ⟨by decide,by decide⟩,_,_,rfl,rfl,_,rfl,pl,_,rfl,.inl (SqL.of A1.l),a,_,_,rfl,by omega,by rw[length_map];omega,hS.same A1.same,λj H2 j0 j1 s2=>?_⟩;rw[length_map]at j1;have A2:=A1.grow s2;obtain⟨num,gnum⟩:∃num,lf[j.toNat]?=some num:=⟨_,getElem?_eq_getElem (by omega)⟩;refine⟨pl,_,j,j.toNat,.int num,rfl,rfl,A2.l,by omega,by omega,by rw[length_map];exact yr j0 j1,by rw[getElem?_map,gnum];rfl,?_⟩;rw[lu];have A3:=A2.pop (lf.eraseIdx j.toNat);have elen:(lf.eraseIdx j.toNat).length=lf.length-1:=List.length_eraseIdx_of_lt (by omega);generalize upd H2 pl (.lst ((lf.eraseIdx j.toNat).map V.int))=H3 at A3⊢;refine⟨_,rfl,_,rfl,_,rfl,_,_,rfl,rfl,_,rfl,_,_,rfl,rfl,.inl ⟨by decide,by decide⟩,_,_,rfl,rfl,_,rfl,pf,_,rfl,.inl (SqL.of A3.f),a,_,_,rfl,by omega,by rw[length_map,length_cons];omega,hS.same A3.same,λj2 H4 j20 j21 s4=>?_⟩;rw[length_map]at j21;obtain⟨par,mpar,gpar⟩:=wm j20 j21;have A4:=A3.grow s4;refine⟨pf,_,_,_,rfl,rfl,SqL.of A4.f,gpar,?_⟩;refine⟨aW (by decide),λp3 hp3=>?_⟩;have A5:=A4.grow (ae (o:=.lst [.str "a",.str "b",.str "c",.str "abcde"]) hp3);refine⟨_,rfl,_,rfl,_,_,rfl,rfl,_,rfl,_,_,rfl,rfl,.inl ⟨by decide,by decide⟩,_,_,rfl,rfl,a,_,_,rfl,by omega,by decide,hS.same A5.same,λj3 H5 j30 j31 s5=>?_⟩;obtain⟨nm,hnm,gnm⟩:=wn j30 j31;refine⟨p3,_,_,_,rfl,rfl,SqL.of (s5 _ _ ac),gnm,?_⟩;have A6:=A5.grow s5;refine⟨_,rfl,_,rfl,_,_,rfl,rfl,_,rfl,_,_,rfl,rfl,.inl ⟨by decide,by decide⟩,_,_,rfl,rfl,a,_,_,rfl,by omega,by decide,hS.same A6.same,λj4 H6 j40 j41 s6=>⟨_,_,rfl,rfl,_,rfl,?_⟩⟩;have A6':=A6.grow s6;refine AR (λhgt=>?_) (λhgt=>?_)
   ·refine⟨aW (by decide),λp5 hp5=>?_⟩;have A65:=A6'.grow (ae (o:=.lst [.int 0,.int 1,.int 2,.int 999]) hp5);refine⟨_,rfl,_,rfl,_,_,rfl,rfl,_,rfl,_,_,rfl,rfl,.inl ⟨by decide,by decide⟩,_,_,rfl,rfl,a,_,_,rfl,by omega,by decide,hS.same A65.same,λj5 H65 j50 j51 s65=>?_⟩;obtain⟨i5,hst5,gst⟩:=wo j50 j51;refine⟨p5,_,_,_,rfl,rfl,SqL.of (s65 _ _ ac),gst,?_⟩;have A66:=A65.grow s65;exact h5 _ H H65 pl pf pn _ _ _ _ (lf.eraseIdx j.toNat) zs num par nm (some i5) A66 (by omega) (λH' A8=>⟨_,zs,_,_,_,_,_,rfl,A8,B.skip _,by rw[elen];omega,by omega⟩)
     (λq H' ho A9=>⟨_,_,_,_,_,_,_,rfl,A9,B.add (q:=q) (n:=⟨num,par,nm,(some i5)⟩) gnum mpar ho hnm hst5,by rw[elen];omega,by rw[length_append,length_singleton];omega⟩)
   ·exact h5 _ H H6 pl pf pn _ _ _ _ (lf.eraseIdx j.toNat) zs num par nm none A6' (by omega) (λH' A8=>⟨_,zs,_,_,_,_,_,rfl,A8,B.skip _,by rw[elen];omega,by omega⟩)
     (λq H' ho A9=>⟨_,_,_,_,_,_,_,rfl,A9,B.add (q:=q) (n:=⟨num,par,nm,none⟩) gnum mpar ho hnm (.inl rfl),by rw[elen];omega,by rw[length_append,length_singleton];omega⟩)
  ·obtain⟨lf,zs,o6,o7,o8,o9,o10,rfl,A1,B,hlf,hzl⟩:=h;have hzl8:(zs.length:Int)≤m:=by omega
   have hnum:(zs.map tp).map (·.2.1)=(nds zs).map (·.num):=by
    unfold nds;simp only[map_map];rfl
   have hnd:((nds zs).map (·.num)).Nodup:=(List.nodup_append.mp B.nd).1;refine⟨_,rfl,pn,zs.map tp,rfl,SqL.of (by rw[A1.n,iR]),λz hz=>?_,by rw[hnum];exact hnd,by rw[length_map];omega,λts pm up p hp=>?_⟩
   ·obtain⟨y,hy,rfl⟩:=mem_map.mp hz;exact A1.nd y hy
   ·obtain⟨pm2,eb⟩:=back pm;have er:(ts.map (·.1)).map V.ref=av (ts.map un):=by rw[←iR,eb]
    rw[er];refine⟨p,_,rfl,.inl ⟨SqL.of ac,λl hl=>?_⟩⟩;have mem:∀z,z∈ts.map un→z∈zs:=λz hz=>pm2.mem_iff.mp hz;refine k l (ts.map un) _ ac ?_ (by rw[pm2.length_eq];exact hzl8) ?_ (λz hz=>B.ok z (mem z hz)) ((A1.same.trans (ae hp)).trans (ae hl))
    ·intro z hz;exact((ae hp).trans (ae hl)) _ _ (A1.nd z (mem z hz))
    ·refine TW.wf B.built (pm2.map _) ?_ hnd B.own;unfold nds;rw[pairwise_map];have up2:((ts.map un).map tp).Pairwise (λa b=>a.2.1<b.2.1):=by rw[eb];exact up
     rw[pairwise_map]at up2;exact up2.imp λh=>Int.le_of_lt h
end
end TK
namespace L2
open PySem PyProof PyProof.Rows
section
variable{prog:Program}{w:World}{A:Around}{E:Value→Shared→Prop}{s:Shared}
theorem vj{t:Addr}{xs:Array Value}{Q:List Value→Shared→Prop}(hh:eA A s.heap)(ht:IsTup s.heap t xs)(q:∀h',(∀b o,s.heap.get? b=some o→h'.get? b=some o)→Q xs.toList {s with heap:=h'}):wpAny (model prog w) A (unpackItems (.ref t) xs.size none) Q E s:=by
 have up:∀{b:Addr}{o:Obj},s.heap.get? b=some o→b≠s.heap.objs.size:=λe=>ne_of_lt (lt_size e);rcases hh with hh|⟨ea,hh,he⟩
 ·exact unpackItems_tuple hh ht λh' x=>q h' λb o e=>x b o (up e) e
 have nt:t≠s.heap.objs.size:=let⟨_,e,_⟩:=ht;up e;have na:ea≠s.heap.objs.size:=let⟨_,_,e,_⟩:=he;up e;have all:List.take xs.size (List.drop 0 xs.toList)=xs.toList:=take_of_length_le (le_of_eq xs.length_toList);unfold unpackItems notIterableAtAll;refine wpAny_bind (wpAny_bind (wpAny_specialOf ht.typeIs slot_tuple_iter.lookup (wpAny_pure ?_)));show wpAny _ _ (holding [Value.ref t] (pyIter (.ref t)) >>= _) _ _ s;refine wpAny_bind (wpAny_holding (iter_tuple ht (wpAny_bind (wpAny_holding (draw_tuple nt xs.size 0 _ _ ⟨_,get?_push_size _ rfl,rfl,rfl⟩ (ht.push _) (le_of_eq (zero_add _)) λh1 i1 k1=>?_)))));rw[all,if_neg (show ¬xs.toList.length<xs.size by rw[length_toList];exact lt_irrefl _)];have k1':∀b o,s.heap.get? b=some o→h1.get? b=some o:=λb o e=>k1.extBut b o (up e) (get?_push_of_some _ e);refine wpAny_bind (wpAny_holding (gf hh (he.keep λo e=>k1' ea o e) na i1 ((ht.push _).extBut k1.extBut nt) (by simp) λh2 k2=>?_));exact wpAny_pure (q h2 λb o e=>k2 b o (up e) (k1' b o e))
end
section
variable{X:Cx}{pos:Pos}
theorem HdY.x{X:Cx}(h:HdY X):HdX X:=λ_ _ _ _ I=>(h _ _ _ _ I).imp id λ⟨ea,o,vs,a,b,c,d,_⟩=>⟨ea,a,o,vs,b,c,d⟩
theorem xi{es:List Expr}{k:Nat}{t:TGs}{n:Nat}(hc:HdX X)(h:PGs X es t)(hn:(assignEach es X.env).length=n:=by rfl)(hst:(assignEach es X.env).findIdx? (·.1)=none:=by rfl):PG X (.Tuple es k pos) (sH X.K n t):=by
 intro pins s σ H v u Q I r hw;obtain⟨a,xs,e1,hq,hl,hw⟩:=hw;subst e1;cases r;obtain⟨its,rv,ht,hz⟩:=I.tuple hq;rw[assign_Tuple];refine wpAny_bind (wpAny_standAt ?_);unfold unpack;rw[hst,show(assignEach es X.env).length=its.toArray.size by simp[hn,←hl,rv.length]];refine wpAny_bind (wpAny_holding (vj (hc _ _ _ _ I) ht λh' hx=>?_));have I1:Inv X pins σ H {s with heap:=h'}:=I.kept (t':=s.toks) hx
 exact h pins _ σ H xs _ Q I1 (by simpa using rv) hw
end
end L2
namespace L2
open PySem PySem.Spec PyProof.Rows
section
variable{X:Cx}
end
theorem oT{prog:Program}{w:World}{A:Around}{s:Shared}{Q:Bool→Shared→Prop}:∀{ps qs:List Str}{us vs:List Value}(i:Nat)(fin:Bool),StrsAre us ps→StrsAre vs qs→fin=decide (us.length<vs.length)→Q (HT.cL ps qs) s→KatLex prog w A true fin Q (us.zip vs) i s
 |[],[],_,_,i,fin,.nil,.nil,e,h=>by
  subst e;exact kat_nil h
 |[],y::qs,_,_,i,fin,.nil,.cons _ _ r,e,h=>by
  subst e;exact kat_nil h
 |x::ps,[],_,_,i,fin,.cons _ _ r,.nil,e,h=>by
  subst e;exact kat_nil h
 |x::ps,y::qs,_,_,i,fin,.cons _ t r,.cons _ u r',e,h=>by
  refine kat_cons (wpAny_eqBool_str ?_);rw[HT.cV]at h
  by_cases hxy:x=y
  ·rw[if_pos hxy]at h;rw[decide_eq_true hxy];refine kat_yes (oT (i+1) fin r r' ?_ h);rw[e];simp
  ·rw[if_neg hxy]at h;rw[decide_eq_false hxy];refine kat_no ?_;cases i with
   |zero=>exact PySem.W.kas_lt_str h
   |succ i =>
    rw[show(true&&i+1==0)=false by simp];exact kat_one _ _ (lt_str h)
section
variable{X:Cx}
theorem gJ:bX X (.builtin "sorted") (λxs H Q=>∃l,∃zs:List (Addr×List Str),xs=[.ref l]∧H l=some (.lst (zs.map λz=>V.ref z.1))∧(∀z∈zs,H z.1=some (.tup (z.2.map V.str))∧z.2≠[])∧(zs.map (·.2)).Nodup∧zs.length<64 ∧
  ∀zs':List (Addr×List Str),zs'.Perm zs→zs'.Pairwise (λa b=>HT.cL a.2 b.2=true)→∀p,H p=none→Q (.ref p) (upd H p (.lst (zs'.map λz=>V.ref z.1)))):=by
 intro pins s σ H xs us Q I r h;obtain⟨l,zs,rfl,hl,hk,hnd,h64,q⟩:=h;obtain⟨u,rfl,ru⟩:=cv r;cases ru;obtain⟨_,its,n,rv,ho⟩:=I.hok l _ hl
 let d:Addr×List Str:=(0,[])
 have hlen:its.length=zs.length:=by rw[←rv.length,length_map]
 have gi:∀i,i<zs.length→its.getD i Value.none=.ref (zs.getD i d).1:=λi hi=>by
  obtain⟨v,hv,r⟩:=rv.get (i:=i) (x:=.ref (zs.getD i d).1) (by rw[getElem?_map,(aY (d:=d) hi).2];rfl);cases r;rw[getD_eq_getElem?_getD,hv];rfl
 have eits:its=zs.map λz=>Value.ref z.1:=by
  have:=cU (as:=zs.map (·.1)) (us:=its) (by rw[map_map];exact rv);rw[this,map_map];rfl
 have htup:∀z∈zs,∃ws:List Value,StrsAre ws z.2∧IsTup s.heap z.1 ws.toArray:=λz hz=>by
  obtain⟨_,ws,r1,ht⟩:=I.hok z.1 _ (hk z hz).1;exact⟨ws,mh r1,ht⟩
 refine eF (val:=λz:Addr×List Str=>V.ref z.1) (d:=d) (f:=λa b=>HT.cL a.2 b.2) (κ:=tuples' true) I rv ⟨λi _=>HT.dz _,λi j k _ _ _ h1 h2=>HT.iP h1 h2,λi j hi hj hij=>HT.jD ?_⟩ ⟨_,ho,rfl,n,rfl⟩ h64 (λA' s' _ kp Q' h2 hQ=>?_) (λA' s' hA kp i j C hi hj hC=>?_) q
 ·intro e;have e':(zs.map (·.2))[i]'(by simpa using hi)=(zs.map (·.2))[j]'(by simpa using hj):=by
   have h1:=(aY (d:=d) hi).2;have h2:=(aY (d:=d) hj).2;rw[getElem_map,getElem_map,(List.getElem?_eq_some_iff.mp h1).2,(List.getElem?_eq_some_iff.mp h2).2];exact e
  exact hij ((getElem_inj hnd).mp e')
 ·have key:∀ys:List (Addr×List Str),(∀z∈ys,z∈zs)→∃fs:List Value,KatTups s'.heap (ys.map λz=>Value.ref z.1) fs∧fs.length=ys.length∧∀v∈fs,∃i t,v=Value.str i t:=by
   intro ys
   induction ys with
   |nil=>intro _;exact⟨[],KatTups.nil,rfl,λv hv=>by simp at hv⟩
   |cons z ys ih =>
    intro hm;obtain⟨fs,h1,h2',h3⟩:=ih λy hy=>hm y (by simp[hy]);obtain⟨ws,sw,o,e1,e2,n',e3⟩:=htup z (hm z (by simp));have hne:=(hk z (hm z (by simp))).2;obtain⟨a,p⟩:=z;cases sw with
    |nil=>exact absurd rfl hne
    |cons y t r =>
     refine⟨.str y t::fs,KatTups.cons (kp _ _ e1) e2 e3 rfl h1,by simp[h2'],λv hv=>?_⟩;rcases mem_cons.mp hv with rfl|hv
     ·exact⟨_,_,rfl⟩
     ·exact h3 v hv
  obtain⟨fs,h1,h2',h3⟩:=key zs λz hz'=>hz';rw[eits];refine kat_kind (T:=.type "str") h1 (by rw[h2'];omega) (λv hv=>?_) (by rfl) hQ;obtain⟨i,t,rfl⟩:=h3 v hv;exact .now
 ·rw[gi i hi,gi j hj];have mi:=(aY (d:=d) hi).1;have mj:=(aY (d:=d) hj).1;generalize zs.getD i d=zi at mi hC⊢;generalize zs.getD j d=zj at mj hC⊢;obtain⟨wi,si,oi,a1,a2,ni,a3⟩:=htup zi mi;obtain⟨wj,sj,oj,b1,b2,nj,b3⟩:=htup zj mj;refine kat_lt (kp _ _ a1) a3 (kp _ _ b1) b3 ?_;exact oT 0 _ si sj (by simp) hC
end
theorem su(a:Value):argsOk "max" ⟨[a],[]⟩:=by unfold argsOk;kernel_rfl
section
variable{X:Cx}
theorem sv(hcm:X.calm=true):bX X (.builtin "max") (λxs H Q=>∃l,∃ns:List Int,xs=[.ref l]∧H l=some (.lst (ns.map V.int))∧ns≠[]∧∀b,GrI ns ns.length b→Q (.int b) H):=by
 intro pins s3 σ H2 xs us Q J3 r h;obtain⟨l,ns,rfl,hl2,hne,q2⟩:=h;obtain⟨u,rfl,ru⟩:=cv r;cases ru;have hname:(toString "max"++toString ".loop":String)="max.loop":=by decide
 have hh:=J3.ok.hd hcm;obtain⟨_,its,n,rv,hol⟩:=J3.hok l _ hl2;have hls:s3.heap.IsList l its.toArray:=⟨_,hol,rfl,n,rfl⟩;have hll:l<s3.heap.objs.size:=lt_size hol;refine kmk_tree kind_max plain_max entry_max (su _) ?_;show wpAny _ X.A.in1 (Builtin.Builtins.bindParams "max" ["key","default"] 0 ⟨[],[]⟩ >>= _) _ _ s3;refine wpAny_bind (wpAny_of_eq (show Builtin.Builtins.bindParams "max" ["key","default"] 0 ⟨[],[]⟩=pure [none,none]from rfl) ?_);refine wpAny_bind (wpAny_pure ?_);refine wpAny_bind (wpAny_pyIter_list hls ?_);refine wpAny_bind (wpAny_newList ?_ (zero_le _));rw[hname];have hS:(s3.heap.push {cls:=.type "list_iterator",data:=.fields #[.ref l,.int 0 0]}).objs.size=s3.heap.objs.size+1:=size_push' ..;rw[hS];have gI:((s3.heap.push {cls:=.type "list_iterator",data:=.fields #[.ref l,.int 0 0]}).push (seqObj "list" #[] 0)).get? s3.heap.objs.size=some {cls:=.type "list_iterator",data:=.fields #[.ref l,.int 0 0]} :=
  get?_push_of_some _ (get?_push_size _ rfl)
 have gS:((s3.heap.push {cls:=.type "list_iterator",data:=.fields #[.ref l,.int 0 0]}).push (seqObj "list" #[] 0)).get? (s3.heap.objs.size+1)=some (seqObj "list" #[] 0):=by
  rw[←hS];exact get?_push_size _ rfl
 have kp0:∀b o,s3.heap.get? b=some o→((s3.heap.push {cls:=.type "list_iterator",data:=.fields #[.ref l,.int 0 0]}).push (seqObj "list" #[] 0)).get? b=some o:=λb o e=>get?_push_of_some _ (get?_push_of_some _ e);have hlI:l≠s3.heap.objs.size:=ne_of_lt hll;have hSI:s3.heap.objs.size+1≠s3.heap.objs.size:=ne_of_gt (Nat.lt_succ_self _);refine wpAny_pure ⟨plainId_quiet plain_max_loop _,?_⟩;have W:=Walks.list (prog:=X.prog) (w:=X.w) (A:=X.A.in1) hh s3.heap.objs.size l hlI its.toArray;have hlen:its.length=ns.length:=by rw[←rv.length,length_map]
 have hsz':its.toArray.size=ns.length:=by rw[size_toArray];exact hlen
 refine codeAny_builtin entry_max_loop ?_;rw[Around.under_plainId plain_max_loop _];show wpAny _ X.A.in1 (seqItems? (.ref _) >>= _) _ _ _;refine wpAny_bind (wpAny_seqItems gS rfl ?_);show wpAny _ X.A.in1 (tryCatch (pyNext (.ref s3.heap.objs.size)) _ >>= _) _ _ _;have hst:((s3.heap.push {cls:=.type "list_iterator",data:=.fields #[.ref l,.int 0 0]}).push (seqObj "list" #[] 0)).IsListIter s3.heap.objs.size l 0∧((s3.heap.push {cls:=.type "list_iterator",data:=.fields #[.ref l,.int 0 0]}).push (seqObj "list" #[] 0)).IsList l its.toArray:=⟨⟨_,gI,rfl,rfl⟩,(hls.push _).push _⟩;have low:∀{h':Heap},(∀b o,b∉[s3.heap.objs.size]→((s3.heap.push {cls:=.type "list_iterator",data:=.fields #[.ref l,.int 0 0]}).push (seqObj "list" #[] 0)).get? b=some o→h'.get? b=some o)→∀b o,s3.heap.get? b=some o→h'.get? b=some o:=λk b o e=>k b o (by simpa using ne_of_lt (lt_size e)) (kp0 b o e)
 cases ns with
 |nil=>exact absurd rfl hne
 |cons x0 xr =>
  refine wpAny_bind (wpAny_tryCatch (W.item 0 _ _ _ (by rw[hsz'];simp) hst λv h' tk' hP hst' hk'=>?_));have hv:its[0]?=some v:=by simpa using hP
  obtain⟨v',hv',t2,ev'⟩:=rv.get (i:=0) (x:=.int x0) rfl;have ev:v=.int x0 t2:=by rw[hv]at hv';rw[←ev'];exact Option.some.inj hv'
  subst ev;obtain⟨oI',hoI',hoc,hod⟩:=id hst'.1;have hS':=hk' (s3.heap.objs.size+1) _ (by simpa using hSI) gS;show wpAny _ X.A.in1 ((pure (Value.int x0 t2):Sem Value) >>= _) _ _ _;refine wpAny_bind (wpAny_pure ?_);have s1':=SameBut.update h' (s3.heap.objs.size+1) (Obj.mapSeq λ_=>#[.int x0 t2,.int x0 t2]);obtain⟨c2,hc2⟩:∃c2,(h'.update (s3.heap.objs.size+1) (Obj.mapSeq λ_=>#[.int x0 t2,.int x0 t2])).get? (s3.heap.objs.size+1)=some (seqObj "list" #[.int x0 t2,.int x0 t2] c2):=⟨_,get?_update_seq hS' λ_=>#[.int x0 t2,.int x0 t2]⟩;show wpAny _ X.A.in1 (updateSeq (s3.heap.objs.size+1) (λ_=>#[.int x0 t2,.int x0 t2]) >>= _) _ _ _;refine wpAny_bind ?_;refine wpAny_updateSeq hS' rfl ?_;rw[hname];refine wpAny_pure ⟨plainId_quiet plain_max_loop _,lB (s:=s3) (.inl hh) hls rv hlI (le_refl _) (le_succ _) hSI (λb t h tk hb kp=>⟨.int b,H2,J3.kept (t':=tk) kp,⟨t,rfl⟩,q2 b hb⟩) _ 0 _ _ x0 t2 c2 rfl (by simp) (λb o e=>(s1'.2 b (ne_of_lt (lt_succ_of_lt (lt_size e)))).trans (low hk' b o e)) hc2 ⟨oI',(s1'.2 _ hSI.symm).trans hoI',hoc,hod⟩ ⟨⟨0,Nat.zero_lt_succ _,rfl⟩,λj' x hj' hx=>?_⟩⟩;have e:j'=0:=by omega
  subst e;cases hx;exact Int.le_refl _
end
end L2
namespace TK
open PySem L2
def SN:List Str:=["_law_script","_law_tree_here","_law_other","_law_book_here","_law_names","_law_made","_law_name","_law_folder","_law_ahead","_law_whole","_law_by","_law_due","_law_told"]
theorem scS:FnScope SN ["_law_script"] (ai jI):=fsc
abbrev SX(P:Program)(w:World)(K:PySem.W.Frag)(mg:Str→Option Value)(base:Heap)(f:Addr)(cdv:Value)(A:Around)(outer:List Env)(s:Shared)(H:Hp)(E:XK):Cx:=(fM CX0 P w K mg base SN "law" (ai jI) f cdv A outer s H E).nox
def sS(i:Nat):Stmt:=(bv jI).getD i (.Pass ⟨0,0,0,0⟩)
def sB(i:Nat):Stmt:=match sS 5 with
 |.For _ _ b _ _=>b.getD i (.Pass ⟨0,0,0,0⟩)
 |_=>.Pass ⟨0,0,0,0⟩
abbrev sσ(a t o d:Addr)(x4 x5 x6 x7 x8 x9 x10 x11 x12:Option V):St:=[some (.ref a),some (.ref t),some (.ref o),some (.ref d),x4,x5,x6,x7,x8,x9,x10,x11,x12]
abbrev R4(A:Around)(s:Shared)(f:Addr)(cdv:Value):=Room 4 (A.deeper (PyProof.Rows.envOfC "law" (ai jI) s.heap.objs.size f cdv))
structure Sn(H:Hp)(t o d pn m:Addr)(zs os us:ZN)(as:List (Addr×(Addr×Nd)))(ns:List Str):Prop where
 T:Tre H t zs
 O:Tre H o os
 B:Book H d as zs
 N:H pn=some (.lst (ns.map V.str))
 M:Tre H m us
 okz:∀n∈nds zs,om n
 oko:∀n∈nds os,om n
 em:nds us=TW.aB (qIn ns) (nds zs)
 bz:zs.length≤8
 bo:os.length≤5
 z12:∀n∈nds zs,n.num≤12
 o12:∀n∈nds os,n.num≤12
theorem Sn.same{H H':Hp}{t o d pn m:Addr}{zs os us:ZN}{as:List (Addr×(Addr×Nd))}{ns:List Str}(h:Sn H t o d pn m zs os us as ns)(s:Same H H'):Sn H' t o d pn m zs os us as ns :=
 ⟨h.T.same s,h.O.same s,h.B.same s,s _ _ h.N,h.M.same s,h.okz,h.oko,h.em,h.bz,h.bo,h.z12,h.o12⟩
theorem oU(q:Str→Bool)(t:List Nd):(TW.aB q t).length≤t.length:=(TW.cG q t).length_le
theorem Sn.bu{H:Hp}{t o d pn m:Addr}{zs os us:ZN}{as:List (Addr×(Addr×Nd))}{ns:List Str}(h:Sn H t o d pn m zs os us as ns):us.length≤8:=by
 have:=oU (qIn ns) (nds zs);rw[←h.em,ao,ao]at this;have:=h.bz;omega
def ns4:List Str:=["a","b","c","abcde"]
theorem oV(ns:List Str)(lo hi:Option Int):∃ms:List Str,gR (ns.map V.str) lo hi=ms.map V.str:=by
 unfold gR;rw[←map_drop,←map_take];exact⟨_,rfl⟩
section
variable{P:Program}{w:World}{K:PySem.W.Frag}{mg:Str→Option Value}{base:Heap}{f:Addr}{cdv:Value}{A:Around}{outer:List Env}{s:Shared}{H0:Hp}{E:XK}
theorem k2(hr:R4 A s f cdv)(CP:Has P w K mg base 2 "_law_pick" ["_law_script","_law_k","_law_many"] (ka K)):
  ∃rd,PS (SX P w K mg base f cdv A outer s H0 E) (sS 2) rd∧∀(D:Ends)(H:Hp)(a t o d:Addr)(x4 x5 x6 x7 x8 x9 x10 x11 x12:Option V),iz K H a →
   (∀(l:Addr)(ns:List Str)(H':Hp),Same H H'→H' l=some (.lst (ns.map V.str))→D.nx (sσ a t o d (some (.ref l)) x5 x6 x7 x8 x9 x10 x11 x12) H')→rd D (sσ a t o d x4 x5 x6 x7 x8 x9 x10 x11 x12) H:=by
 obtain⟨fP,fdP,GP,mP,kP,bP⟩:=CP;have hr2:Room 2 _:=hr.mono (by decide);refine⟨_,aA (i:=4) scS.nd rfl (Or.inr rfl) (cY qj (cY qj (bw (aa dW (aa dW (aa dW (aa dW af))))) (dh (ak GP hr2 rfl mP kP bP .nil au (aa (pv 0) (aa aj (aa aj af))))) eP) eP
  (dh (aK bq aj (ak GP hr2 rfl mP kP bP .nil au (aa (pv 0) (aa aj (aa aj af))))))),?_⟩
 intro D H a t o d x4 x5 x6 x7 x8 x9 x10 x11 x12 hS q;refine⟨aW (show 4≤1000 by decide),λl0 hl0=>?_⟩;have s1:=ae (o:=.lst [.str "a",.str "b",.str "c",.str "abcde"]) hl0;have g1:upd H l0 (.lst [.str "a",.str "b",.str "c",.str "abcde"]) l0=some (.lst (ns4.map V.str)):=ac;generalize upd H l0 (.lst [.str "a",.str "b",.str "c",.str "abcde"])=H1 at s1 g1⊢;refine⟨_,rfl,a,_,_,rfl,by decide,by decide,hS.same s1,λr H2 r0 r1 s2=>?_⟩;refine⟨r,rfl,l0,_,rfl,SqL.of (s2 _ _ g1),λp hp=>?_⟩;obtain⟨ms,em⟩:=oV ns4 (some r) none;rw[em];have s3:=ae (o:=.lst (ms.map V.str)) hp;have g3:upd H2 p (.lst (ms.map V.str)) p=some (.lst (ms.map V.str)):=ac;generalize upd H2 p (.lst (ms.map V.str))=H3 at s3 g3⊢;have s13:=(s1.trans s2).trans s3;refine⟨_,rfl,a,_,_,rfl,by decide,by decide,hS.same s13,λr' H4 r0' r1' s4=>?_⟩;refine⟨_,_,rfl,rfl,_,rfl,p,_,rfl,SqL.of (s4 _ _ g3),λp' hp'=>?_⟩;obtain⟨ns,en⟩:=oV ms none (some (1+r'));rw[en];exact q p' ns _ ((s13.trans s4).trans (ae hp')) ac
theorem sx{ns:List Str}{t:List Nd}{n:Nd}(h:n∈TW.aB (qIn ns) t):n.nm∉ns:=λhm=>by
 have:=(TW.ay.mp (TW.aq.mp h).mem).2;unfold qIn at this;exact of_decide_eq_false this hm
theorem k4(hr:R4 A s f cdv)(CN:Has P w K mg base 1 "named" ["tree","name"] iW):
  ∃rd,PS (SX P w K mg base f cdv A outer s H0 E) (sS 4) rd∧∀(D:Ends)(H:Hp)(a t o d pn m:Addr)(zs os us:ZN)(as:List (Addr×(Addr×Nd)))(ns:List Str)(x6 x7 x8 x9 x10 x11 x12:Option V),Sn H t o d pn m zs os us as ns →
   (∀(x6:Option V)(H':Hp),Same H H'→D.nx (sσ a t o d (some (.ref pn)) (some (.ref m)) x6 x7 x8 x9 x10 x11 x12) H')→rd D (sσ a t o d (some (.ref pn)) (some (.ref m)) x6 x7 x8 x9 x10 x11 x12) H:=by
 obtain⟨fN,fdN,GN,mN,kN,bN⟩:=CN;have hr1:Room 1 _:=hr.mono (by decide);refine⟨_,jb PassesOwn.never rfl (bJ (pv 4)) (ap (i:=6) scS.nd rfl (Or.inl rfl)) (am (cp (aI (fw hr.units0) (ak GN hr1 rfl mN kN bN .nil au (aa (pv 5) (aa (pv 6) af))) (bw af) (aR _)) (am (aF fD)) bf)),?_⟩;intro D H a t o d pn m zs os us as ns x6 x7 x8 x9 x10 x11 x12 L q;refine⟨_,rfl,pn,rfl,⟨_,SqL.of L.N⟩,fJ (xs:=ns.map V.str) (λi σ H'=>∃x6,σ=sσ a t o d (some (.ref pn)) (some (.ref m)) x6 x7 x8 x9 x10 x11 x12∧Same H H') ⟨_,rfl,Same.refl _⟩ (λi σ H' _ h=>?_) (λi x σ H' hx h=>?_) (λσ H' h=>?_)⟩
 ·obtain⟨_,_,s4⟩:=h;exact SqL.of (s4 _ _ L.N)
 ·obtain⟨x6,rfl,s4⟩:=h;obtain⟨x,hm,rfl⟩:=mem_map.mp (mem_of_getElem? hx);have L4:=L.same s4;have hb:=L.bu;refine⟨_,rfl,_,rfl,m,us,x,rfl,L4.M.tup,L4.M.nod,by omega,λl H5 s5 _ hl=>?_⟩;have e0:us.filter (λz=>decide (z.2.nm=x))=[]:=List.filter_eq_nil_iff.mpr λz hz h=>by
   have hz':=aP hz;rw[L.em]at hz';exact sx hz' (by rw[of_decide_eq_true h];exact hm)
  rw[e0]at hl;refine⟨zero_le _,λl6 hl6=>?_⟩;have s6:=ae (o:=.lst []) hl6;exact⟨l,l6,_,rfl,rfl,SqL.of (s6 _ _ hl),SqL.of ac,_,rfl,cy ⟨_,rfl,(s4.trans s5).trans s6⟩⟩
 ·obtain⟨x6,rfl,s4⟩:=h;exact q x6 H' s4
end
theorem As{zs:ZN}{ns:List Str}{k:Int}{pk:List Str}(T:TW.Tree1 (nds zs))(hk:ik zs k)(hp:TW.PathTo (nds zs) k pk)(h:pk.filter (qIn ns)=[]):TW.jX (qIn ns) (nds zs) k:=by
 rcases hk with e|⟨z,hz,e,hs⟩
 ·exact .inl e
 ·subst e;exact .inr ⟨z.2,TW.aq.mpr ((TW.lC T (aP hz) hp).mp h),rfl,hs⟩
theorem fA{zs us:ZN}{ns:List Str}{k:Int}(e:nds us=TW.aB (qIn ns) (nds zs))(h:TW.jX (qIn ns) (nds zs) k):ik us k:=by
 rcases h with h|⟨m,hm,e1,e2⟩
 ·exact .inl h
 ·rw[←e]at hm;obtain⟨z,hz,rfl⟩:=cm hm;exact .inr ⟨z,hz,e1,e2⟩
theorem vk{zs us:ZN}{ns:List Str}{k:Int}{pk:List Str}(T:TW.Tree1 (nds zs))(e:nds us=TW.aB (qIn ns) (nds zs))(hk:ik zs k)(hp:TW.PathTo (nds zs) k pk)(h:pk.filter (qIn ns)≠[]):k∉nums us:=λhm=>by
 rcases hk with e0|⟨z,hz,e0,hs⟩
 ·exact h (by rw[hp.zero T e0];rfl)
 ·subst e0;obtain⟨y,hy,ey⟩:=mem_map.mp hm;have hy':=aP hy;rw[e]at hy';have:y.2=z.2:=T.inj (TW.dE hy') (aP hz) ey;rw[this]at hy';exact h ((TW.lC T (aP hz) hp).mpr (TW.aq.mp hy'))
abbrev sk(a t o d pn m:Addr)(x6:Option V)(k:Int)(x8 x9 x10 x11 x12:Option V):St:=sσ a t o d (some (.ref pn)) (some (.ref m)) x6 (some (.int k)) x8 x9 x10 x11 x12
section
variable{P:Program}{w:World}{K:PySem.W.Frag}{mg:Str→Option Value}{base:Heap}{f:Addr}{cdv:Value}{A:Around}{outer:List Env}{s:Shared}{H0:Hp}{E:XK}
theorem kb0(hr:R4 A s f cdv)(CL:Has P w K mg base 1 "_law_path" ["_law_book_here","_law_number"] uN):
  ∃rd,PS (SX P w K mg base f cdv A outer s H0 E) (sB 0) rd∧∀(D:Ends)(H:Hp)(a t o d pn m:Addr)(zs os us:ZN)(as:List (Addr×(Addr×Nd)))(ns:List Str)(k:Int)(pk:List Str)(x6 x8 x9 x10 x11 x12:Option V),Sn H t o d pn m zs os us as ns→TW.PathTo (nds zs) k pk →
   (∀(ah:Addr)(H':Hp),Same H H'→H' ah=some (.tup (pk.map V.str))→D.nx (sk a t o d pn m x6 k (some (.ref ah)) x9 x10 x11 x12) H')→rd D (sk a t o d pn m x6 k x8 x9 x10 x11 x12) H:=by
 obtain⟨fL,fdL,GL,mL,kL,bL⟩:=CL;have hr1:Room 1 _:=hr.mono (by decide);refine⟨_,aA (i:=8) scS.nd rfl (Or.inl rfl) (ak GL hr1 rfl mL kL bL .nil au (aa (pv 3) (aa (pv 7) af))),?_⟩;intro D H a t o d pn m zs os us as ns k pk x6 x8 x9 x10 x11 x12 L hp q;exact⟨_,rfl,_,rfl,d,k,as,zs,pk,rfl,L.B,L.T.tr,L.T.len,hp,λah H' s1 ha=>q ah H' s1 ha⟩
theorem kb1(hr:R4 A s f cdv):
  ∃rd,PS (SX P w K mg base f cdv A outer s H0 E) (sB 1) rd∧∀(D:Ends)(H:Hp)(a t o d pn m ah:Addr)(zs os us:ZN)(as:List (Addr×(Addr×Nd)))(ns:List Str)(k:Int)(pk:List Str)(x6 x9 x10 x11 x12:Option V),Sn H t o d pn m zs os us as ns→ik zs k→TW.PathTo (nds zs) k pk→H ah=some (.tup (pk.map V.str))→pk.length≤60 →
   (∀(H':Hp),Same H H'→D.ct (sk a t o d pn m x6 k (some (.ref ah)) x9 x10 x11 x12) H')→(∀(H':Hp),Same H H'→TW.jX (qIn ns) (nds zs) k→D.nx (sk a t o d pn m x6 k (some (.ref ah)) x9 x10 x11 x12) H')→rd D (sk a t o d pn m x6 k (some (.ref ah)) x9 x10 x11 x12) H:=by
 refine⟨_,cp (aI (fw hr.units0) (dZ (N:=["_law_name","_law_names"]) (cl:=[("_law_names",s.heap.objs.size+2)]) (k:=1) (js:=[4]) (g:=aJ 0) rfl
   (LcOk.mk' ["_law_names"] rfl rfl (by decide +kernel) (by decide +kernel) ?hcl rfl (by decide +kernel)) rfl ?hj (cM (pv 8)) (λs H fp=>ap (i:=0) (show(["_law_name","_law_names"]:List Str).Nodup by decide +kernel) rfl (Or.inl rfl) (Or.inr rfl))
   (λs H fp=>aI (r:=rIn K false) kM (pv 0) (pv 1) rfl) (λs H fp=>pv 0)) (bw af) (aR _))
  (ag (cp (aI kM (pv 7) (dj (N:=["_law_node"]) (cl:=[]) (k:=1) (js:=[]) (g:=aJ 0) rfl (cj rfl (by decide +kernel) (by decide +kernel) (by decide +kernel)) rfl (λi j x h=>by simp at h) (cM (pv 5)) (λs H fp=>ap (i:=0) (show(["_law_node"]:List Str).Nodup by decide +kernel) rfl (Or.inl rfl) (Or.inr rfl))
    (λs H fp=>aQ (r:=cw K) aG (pv 0) aj (λ_ _=>rfl))) rfl) (am (aF fD)) bf) (am nq)) bf,?_⟩
 case hcl =>
  intro y hy;rcases mem_cons.mp hy with e|hy
  ·rw[e];rfl
  ·cases hy
 case hj =>
  intro i j x h1 h2
  match i,h1,h2 with
  |0,h1,h2 =>
   cases h1;cases h2;exact⟨rfl,Or.inr (Or.inl rfl),(show((ai jI).names.lookup ("_law_names":Str)≠some NameKind.local)by decide +kernel),by first|exact Or.inl rfl|exact Or.inr rfl⟩
  |i+1,h1,h2=>simp at h1
 intro D H a t o d pn m ah zs os us as ns k pk x6 x9 x10 x11 x12 L hk hpk hah hpl qc qn;refine⟨_,rfl,ah,rfl,⟨_,SqT.of hah⟩,λp hp=>?_⟩;refine dJ (fr:=[some (.ref pn)]) pk V.str (by omega) hp (cb (SqT.of hah)) rfl (qIn ns) (λz y _=>y=.str z) (λz y H H' h _=>h) (λz H' kk mz s1 _ hkk=>?_) (λz H' kk mz _ s1 _ hkk=>?_) (λys H1 s1 hp1 hys=>?_)
 ·refine⟨_,rfl,_,rfl,pn,_,rfl,.inl (SqL.of (s1 _ _ L.N)),rfl,lF ns,_,rfl,?_⟩;rw[qY];exact hkk H' (Same.refl _)
 ·exact⟨_,rfl,hkk _ H' (Same.refl _) rfl⟩
 have ey:=aU (f:=V.str) hys (λz y _ h=>h);refine⟨zero_le _,λl2 hl2=>?_⟩;have s2:=ae (o:=.lst []) hl2;have g2:upd H1 l2 (.lst []) l2=some (.lst []):=ac;generalize upd H1 l2 (.lst [])=H2 at s2 g2⊢;have s12:=s1.trans s2;have L2:=L.same s12;refine⟨p,l2,_,rfl,rfl,SqL.of (s2 _ _ hp1),SqL.of g2,_,rfl,?_⟩
 by_cases hf:pk.filter (qIn ns)=[]
 ·rw[show(!decide (ys=[]))=false by rw[ey,hf];rfl];exact cy (qn H2 s12 (As L.T.tr hk hpk hf))
 ·rw[show(!decide (ys=[]))=true by rw[decide_eq_false (λe=>hf (map_eq_nil_iff.mp (by rw[←ey];exact e)))];rfl];refine iE ⟨_,rfl,_,rfl,m,rfl,⟨_,SqT.of L2.M.tup⟩,λp3 hp3=>?_⟩;have hb:=L.bu;refine bM (fr:=[]) us (λz=>V.ref z.1) (by omega) hp3 (cb (by rw[aC];exact SqT.of L2.M.tup)) rfl (λz y _=>y=.int z.2.num) (λz y H H' h _=>h) (λz H' kk mz s3 _ hkk=>?_) (λys3 H3 s3 hp4 hys3=>?_)
  ·exact⟨_,rfl,z.1,_,_,_,rfl,rfl,SqT.of (s3 _ _ (L2.M.nod z mz)),at0 z.2,hkk _ H' (Same.refl _) rfl⟩
  have ey3:=aU (f:=λz:Addr×Nd=>V.int z.2.num) hys3 (λz y _ h=>h);have e3:ys3=(nums us).map V.int:=by rw[ey3];unfold nums;rw[map_map];rfl
  rw[e3]at hp4;refine⟨p3,_,rfl,.inl (SqL.of hp4),rfl,Af _,_,rfl,?_⟩;rw[show(if false=true then !inV (.int k) ((nums us).map V.int)else inV (.int k) ((nums us).map V.int))=false by rw[if_neg (by decide),we,decide_eq_false (vk L.T.tr L.em hk hpk hf)]]
  exact cy (qc H3 (s12.trans s3))
theorem kb2(hr:R4 A s f cdv)(CS:Has P w K mg base 2 "seen" ["tree","names"] dw)(CC:Has P w K mg base 4 "cut_out" ["tree","number"] oO):
  ∃rd,PS (SX P w K mg base f cdv A outer s H0 E) (sB 2) rd∧∀(D:Ends)(H:Hp)(a t o d pn m:Addr)(zs os us:ZN)(as:List (Addr×(Addr×Nd)))(ns:List Str)(k:Int)(x6 x8 x9 x10 x11 x12:Option V),Sn H t o d pn m zs os us as ns→ik zs k→TW.jX (qIn ns) (nds zs) k→0≤k→k≤60 →
   (∀(H':Hp),Same H H'→D.nx (sk a t o d pn m x6 k x8 x9 x10 x11 x12) H')→rd D (sk a t o d pn m x6 k x8 x9 x10 x11 x12) H:=by
 obtain⟨fS,fdS,GS,mS,kS,bS⟩:=CS;obtain⟨fC,fdC,GC,mC,kC,bC⟩:=CC;have hr2:Room 2 _:=hr.mono (by decide);have hu4:=mn hr;refine⟨_,cp (aI (pL hu4) (ak GC hr rfl mC kC bC .nil au (aa (pv 5) (aa (pv 7) af))) (ak GS hr2 rfl mS kS bS .nil au (aa (ak GC hr rfl mC kC bC .nil au (aa (pv 1) (aa (pv 7) af))) (aa (pv 4) af))) (aR _)) (am (aF fD)) bf,?_⟩;intro D H a t o d pn m zs os us as ns k x6 x8 x9 x10 x11 x12 L hk hs k0 k1 q;refine⟨_,rfl,_,rfl,m,k,us,rfl,L.M,k0,k1,fA L.em hs,λc1 v1 H1 s1 V1 e1=>?_⟩;have L1:=L.same s1;refine⟨_,rfl,_,rfl,t,k,zs,rfl,L1.T,k0,k1,hk,λc2 v2 H2 s2 V2 e2=>?_⟩;have L2:=L1.same s2;refine⟨_,rfl,c2,pn,v2,ns,rfl,V2,L2.N,λc3 v3 H3 s3 V3 e3=>?_⟩;refine .inr ⟨c1,c3,_,_,rfl,rfl,eN ?_ (V1.same (s2.trans s3)).nod V3.nod,.inr ⟨(V1.same (s2.trans s3)).tup,V3.tup⟩,_,rfl,cy (q H3 ((s1.trans s2).trans s3))⟩;rw[e1,e3,e2,L.em];exact TW.uT L.T.tr hs
theorem kb4(hr:R4 A s f cdv)(CS:Has P w K mg base 2 "seen" ["tree","names"] dw)(CW:Has P w K mg base 4 "without" ["tree","number"] uY):
  ∃rd,PS (SX P w K mg base f cdv A outer s H0 E) (sB 4) rd∧∀(D:Ends)(H:Hp)(a t o d pn m:Addr)(zs os us:ZN)(as:List (Addr×(Addr×Nd)))(ns:List Str)(k:Int)(x6 x8 x9 x10 x11 x12:Option V),Sn H t o d pn m zs os us as ns→ik zs k→TW.jX (qIn ns) (nds zs) k→0≤k→k≤60 →
   (∀(H':Hp),Same H H'→D.nx (sk a t o d pn m x6 k x8 x9 x10 x11 x12) H')→rd D (sk a t o d pn m x6 k x8 x9 x10 x11 x12) H:=by
 obtain⟨fS,fdS,GS,mS,kS,bS⟩:=CS;obtain⟨fC,fdC,GC,mC,kC,bC⟩:=CW;have hr2:Room 2 _:=hr.mono (by decide);have hu4:=mn hr;refine⟨_,cp (aI (pL hu4) (ak GS hr2 rfl mS kS bS .nil au (aa (ak GC hr rfl mC kC bC .nil au (aa (pv 1) (aa (pv 7) af))) (aa (pv 4) af))) (ak GC hr rfl mC kC bC .nil au (aa (pv 5) (aa (pv 7) af))) (aR _)) (am (aF fD)) bf,?_⟩;intro D H a t o d pn m zs os us as ns k x6 x8 x9 x10 x11 x12 L hk hs k0 k1 q;refine⟨_,rfl,_,rfl,t,k,zs,rfl,L.T,k0,k1,hk,λc2 v2 H2 s2 V2 e2=>?_⟩;have L2:=L.same s2;refine⟨_,rfl,c2,pn,v2,ns,rfl,V2,L2.N,λc3 v3 H3 s3 V3 e3=>?_⟩;have L3:=L2.same s3;refine⟨_,rfl,_,rfl,m,k,us,rfl,L3.M,k0,k1,fA L.em hs,λc1 v1 H1 s1 V1 e1=>?_⟩;refine .inr ⟨c3,c1,_,_,rfl,rfl,eN ?_ (V3.same s1).nod V1.nod,.inr ⟨(V3.same s1).tup,V1.tup⟩,_,rfl,cy (q H1 ((s2.trans s3).trans s1))⟩;rw[e1,e3,e2,L.em];exact TW.wU L.T.tr k
end
def io(l:List Nd):List Int:=(l.filter λn=>n.st.isSome).map λn=>n.st.getD 0
def Au(l:List Nd):List V:=[.int ((l.length:Int)-((io l).length:Int)),.int ((io l).length:Int),.int (io l).sum]
theorem oW(zs:ZN)(k:Int):sh zs k=Au (TW.il (nds zs) k):=by
 have e:sts zs k=io (TW.il (nds zs) k):=by
  unfold sts io;rw[←mY];unfold nds;rw[filter_map,map_map];rfl
 unfold sh Au;rw[e,←mY,ao]
theorem zm{l l':List Nd}(h:l.Sublist l')(hs:∀n∈l',zZ n.st):(l.length:Int)-((io l).length:Int)≤(l'.length:Int)-((io l').length:Int)∧(io l).length≤(io l').length∧(io l).sum≤(io l').sum:=by
 induction h with
 |slnil=>exact⟨Int.le_refl _,le_refl _,Int.le_refl _⟩
 |@cons l1 l2 a h ih =>
  obtain⟨h1,h2,h3⟩:=ih λn hn=>hs n (mem_cons_of_mem _ hn);have ha:=hs a mem_cons_self;unfold io at h1 h2 h3⊢;cases e:a.st with
  |none =>
   rw[filter_cons_of_neg (by rw[e];decide),length_cons];exact⟨by push_cast;omega,h2,h3⟩
  |some i =>
   have:=(ha i e).1;rw[filter_cons_of_pos (by rw[e];rfl),map_cons,length_cons,length_cons,sum_cons,e];refine⟨by push_cast;omega,by omega,?_⟩;show _≤i+_;omega
 |@cons_cons l1 l2 a h ih =>
  obtain⟨h1,h2,h3⟩:=ih λn hn=>hs n (mem_cons_of_mem _ hn);unfold io at h1 h2 h3⊢;cases e:a.st with
  |none =>
   rw[filter_cons_of_neg (by rw[e];decide),filter_cons_of_neg (by rw[e];decide),length_cons,length_cons];exact⟨by push_cast;omega,h2,h3⟩
  |some i =>
   rw[filter_cons_of_pos (by rw[e];rfl),filter_cons_of_pos (by rw[e];rfl),map_cons,map_cons,length_cons,length_cons,length_cons,length_cons,sum_cons,sum_cons];exact⟨by push_cast;omega,by omega,by omega⟩
theorem xj{q:Str→Bool}{t:List Nd}(k:Int):(TW.il (TW.aB q t) k).Sublist (TW.il t k):=by
 have hr:∀n,TW.Reach (TW.aB q t) k n→TW.Reach t k n:=λn h=>by
  induction h with
  |base hm e=>exact .base ((TW.cG q t).subset hm) e
  |step _ hs hm e ih=>exact .step ih hs ((TW.cG q t).subset hm) e
 classical
 unfold TW.il;refine Sublist.trans ?_ ((TW.cG q t).filter _);have e:(TW.aB q t).filter (λn=>decide (TW.Reach (TW.aB q t) k n))=((TW.aB q t).filter λn=>decide (TW.Reach t k n)).filter λn=>decide (TW.Reach (TW.aB q t) k n):=by
  rw[List.filter_filter];refine filter_congr λn _=>?_
  by_cases h:TW.Reach (TW.aB q t) k n
  ·rw[decide_eq_true h,decide_eq_true (hr n h)];rfl
  ·rw[decide_eq_false h];rfl
 have h2:=filter_sublist (p:=λn=>decide (TW.Reach (TW.aB q t) k n)) (l:=(TW.aB q t).filter λn=>decide (TW.Reach t k n));rw[←e]at h2;exact h2
theorem zn{zs us:ZN}{ns:List Str}{k:Int}(e:nds us=TW.aB (qIn ns) (nds zs))(hz:∀n∈nds zs,om n):∃a b c a' b' c':Int,sh us k=[.int a,.int b,.int c]∧sh zs k=[.int a',.int b',.int c']∧a≤a'∧b≤b'∧c≤c':=by
 rw[oW,oW,e];obtain⟨h1,h2,h3⟩:=zm (xj (q:=qIn ns) (t:=nds zs) k) λn hn=>(hz n (TW.db.mp hn).mem).2.2.2;exact⟨_,_,_,_,_,_,rfl,rfl,h1,by omega,h3⟩
section
variable{P:Program}{w:World}{K:PySem.W.Frag}{mg:Str→Option Value}{base:Heap}{f:Addr}{cdv:Value}{A:Around}{outer:List Env}{s:Shared}{H0:Hp}{E:XK}
theorem kb3(T:Txt mg)(hr:R4 A s f cdv)(CT:Has P w K mg base 3 "total" ["tree","number"] oJ):
  ∃rd,PS (SX P w K mg base f cdv A outer s H0 E) (sB 3) rd∧∀(D:Ends)(H:Hp)(a t o d pn m:Addr)(zs os us:ZN)(as:List (Addr×(Addr×Nd)))(ns:List Str)(k:Int)(x6 x8 x9 x10 x11 x12:Option V),Sn H t o d pn m zs os us as ns→ik zs k→TW.jX (qIn ns) (nds zs) k→0≤k→k≤60 →
   (∀(H':Hp),Same H H'→D.nx (sk a t o d pn m x6 k x8 x9 x10 x11 x12) H')→rd D (sk a t o d pn m x6 k x8 x9 x10 x11 x12) H:=by
 obtain⟨fT,fdT,GT,mT,kT,bT⟩:=CT;have hr3:Room 3 _:=hr.mono (by decide);refine⟨_,cp (aI (fw hr.units0) (dZ (N:=["_law_few","_law_more_of"]) (cl:=[]) (k:=2) (js:=[]) (g:=sH K 2 _) rfl (cj rfl (by decide +kernel) (by decide +kernel) (by decide +kernel)) rfl (λi j x h=>by simp at h)
   (yi rfl T.zip (aa (ak GT hr3 rfl mT kT bT .nil au (aa (pv 5) (aa (pv 7) af))) (aa (ak GT hr3 rfl mT kT bT .nil au (aa (pv 1) (aa (pv 7) af))) af)))
   (λs H fp=>sI (n:=2) rfl (cJ (ap (i:=0) (show(["_law_few","_law_more_of"]:List Str).Nodup by decide +kernel) rfl (Or.inl rfl) (Or.inr rfl)) (cJ (ap (i:=1) (show(["_law_few","_law_more_of"]:List Str).Nodup by decide +kernel) rfl (Or.inl rfl) (Or.inr rfl)) lI)))
   (λs H fp=>aI sO (pv 0) (pv 1) (aR _)) (λs H fp=>aj)) (bw af) (aR _)) (am (aF fD)) bf,?_⟩
 intro D H a t o d pn m zs os us as ns k x6 x8 x9 x10 x11 x12 L hk hs k0 k1 q;refine⟨_,rfl,_,rfl,m,k,us,rfl,L.M,k0,k1,fA L.em hs,λt1 H1 s1 ht1=>?_⟩;have L1:=L.same s1;refine⟨_,rfl,_,rfl,t,k,zs,rfl,L1.T,k0,k1,hk,λt2 H2 s2 ht2=>?_⟩;have ht1':=s2 _ _ ht1;obtain⟨a1,b1,c1,a2,b2,c2,e1,e2,la,lb,lc⟩:=zn (k:=k) L.em L.okz;rw[e1]at ht1';rw[e2]at ht2;have s12:=s1.trans s2;refine⟨t1,t2,_,_,rfl,ht1',ht2,λp hp=>?_⟩;refine⟨λi mm ys σ' H'=>mm=3-i∧i≤3∧ys=[]∧σ'.length=2∧Same H2 H'∧H' p=some (.lst []),⟨3,rfl,by omega,rfl,rfl,ae hp,ac⟩,?_⟩;rintro i mm ys σ' H' ⟨rfl,hi,rfl,hσ,s3,hp3⟩;have g1:=s3 _ _ ht1';have g2:=s3 _ _ ht2
 by_cases h3:i<3
 ·have hxy:∃x y:Int,[V.int a1,.int b1,.int c1][i]?=some (.int x)∧[V.int a2,.int b2,.int c2][i]?=some (.int y)∧x≤y:=by
   have:i=0∨i=1∨i=2:=by omega
   rcases this with rfl|rfl|rfl
   ·exact⟨_,_,rfl,rfl,la⟩
   ·exact⟨_,_,rfl,rfl,lb⟩
   ·exact⟨_,_,rfl,rfl,lc⟩
  obtain⟨x,y,ex,ey,le⟩:=hxy;refine .inr ⟨⟨_,_,_,_,SqT.of g1,SqT.of g2,ex,ey⟩,lt_of_le_of_lt (zero_le _) (aE (by decide:0≤1000)),λv H4 hy=>?_⟩;obtain⟨q4,x',y',hq4,rfl,hx',hy',rfl⟩:=hy;have ex':x'=.int x:=Option.some.inj ((hx' _ (SqT.of g1)).symm.trans ex);have ey':y'=.int y:=Option.some.inj ((hy' _ (SqT.of g2)).symm.trans ey);subst ex' ey';obtain⟨z0,z1,rfl⟩:=yq hσ;have s4:=ae (o:=.tup [.int x,.int y]) hq4;refine⟨q4,_,rfl,SqT.of ac,rfl,_,_,rfl,_,_,rfl,rfl,?_⟩;refine⟨_,rfl,_,rfl,_,_,rfl,rfl,_,rfl,?_⟩;rw[decide_eq_false (show ¬y<x by omega)];exact cy ⟨3-(i+1),by omega,rfl,by omega,rfl,rfl,s3.trans s4,s4 _ _ hp3⟩
 ·refine .inl ⟨⟨_,_,SqT.of g1,SqT.of g2,.inl (by show 3≤i;omega)⟩,?_⟩;refine⟨zero_le _,λl5 hl5=>?_⟩;have s5:=ae (o:=.lst []) hl5;exact⟨p,l5,_,rfl,rfl,SqL.of (s5 _ _ hp3),SqL.of ac,_,rfl,cy (q _ ((s12.trans s3).trans s5))⟩
end
open Classical in
def ky(zs:ZN)(k:Int):Bool:=decide (∃z∈zs,z.2.num=k∧z.2.st=none)
theorem xk{zs:ZN}(T:TW.Tree1 (nds zs)){z:Addr×Nd}(hz:z∈zs):decide (stV z.2.st=V.non)=ky zs z.2.num:=by
 unfold ky;rw[Bool.eq_iff_iff,decide_eq_true_iff,decide_eq_true_iff];constructor
 ·intro h;refine⟨z,hz,rfl,?_⟩;cases e:z.2.st with
  |none=>rfl
  |some i=>rw[e]at h;cases h
 ·rintro⟨y,hy,e,hs⟩;rw[←T.inj (aP hy) (aP hz) e,hs];rfl
section
variable{P:Program}{w:World}{K:PySem.W.Frag}{mg:Str→Option Value}{base:Heap}{f:Addr}{cdv:Value}{A:Around}{outer:List Env}{s:Shared}{H0:Hp}{E:XK}
theorem k5(T:Txt mg)(hr:R4 A s f cdv)(CL:Has P w K mg base 1 "_law_path" ["_law_book_here","_law_number"] uN)(CS:Has P w K mg base 2 "seen" ["tree","names"] dw)(CC:Has P w K mg base 4 "cut_out" ["tree","number"] oO)(CT:Has P w K mg base 3 "total" ["tree","number"] oJ)(CW:Has P w K mg base 4 "without" ["tree","number"] uY):
  ∃rd,PS (SX P w K mg base f cdv A outer s H0 E) (sS 5) rd∧∀(D:Ends)(H:Hp)(a t o d pn m:Addr)(zs os us:ZN)(as:List (Addr×(Addr×Nd)))(ns:List Str)(x6 x7 x8 x9 x10 x11 x12:Option V),Sn H t o d pn m zs os us as ns →
   (∀(x7 x8:Option V)(H':Hp),Same H H'→D.nx (sσ a t o d (some (.ref pn)) (some (.ref m)) x6 x7 x8 x9 x10 x11 x12) H')→rd D (sσ a t o d (some (.ref pn)) (some (.ref m)) x6 x7 x8 x9 x10 x11 x12) H:=by
 obtain⟨r0,p0,h0⟩:=kb0 (outer:=outer) (H0:=H0) (E:=E) hr CL;obtain⟨r1,p1,h1⟩:=kb1 (P:=P) (w:=w) (K:=K) (mg:=mg) (base:=base) (outer:=outer) (H0:=H0) (E:=E) hr;obtain⟨r2,p2,h2⟩:=kb2 (outer:=outer) (H0:=H0) (E:=E) hr CS CC;obtain⟨r3,p3,h3⟩:=kb3 (outer:=outer) (H0:=H0) (E:=E) T hr CT;obtain⟨r4,p4,h4⟩:=kb4 (outer:=outer) (H0:=H0) (E:=E) hr CS CW;refine⟨_,jb PassesOwn.never rfl (bJ (aK pr (bw (aa aj af)) (dZ (N:=["_law_one","_law_book_here"]) (cl:=[("_law_book_here",s.heap.objs.size+1)]) (k:=1) (js:=[3]) (g:=aJ 0) rfl
   (LcOk.mk' ["_law_book_here"] rfl rfl (by decide +kernel) (by decide +kernel) ?hcl rfl (by decide +kernel)) rfl ?hj (bJ (aT (jR rfl) rfl T.sorted boot_sorted (aa (pv 3) af))) (λs H fp=>ap (i:=0) (show(["_law_one","_law_book_here"]:List Str).Nodup by decide +kernel) rfl (Or.inl rfl) (Or.inr rfl))
   (λs H fp=>aI oY (aQ (r:=cw K) aG (cx (cr hr) (pv 1) (pv 0) (λ_ _=>rfl)) aj (λ_ _=>rfl)) gK (aR _)) (λs H fp=>pv 0)))) (ap (i:=7) scS.nd rfl (Or.inl rfl)) (ag p0 (ag p1 (ag p2 (ag p3 (am p4))))),?_⟩
 case hcl =>
  intro y hy;rcases mem_cons.mp hy with e|hy
  ·rw[e];rfl
  ·cases hy
 case hj =>
  intro i j x h1 h2
  match i,h1,h2 with
  |0,h1,h2 =>
   cases h1;cases h2;exact⟨rfl,Or.inr (Or.inl rfl),(show((ai jI).names.lookup ("_law_book_here":Str)≠some NameKind.local)by decide +kernel),by first|exact Or.inl rfl|exact Or.inr rfl⟩
  |i+1,h1,h2=>simp at h1
 intro D H a t o d pn m zs os us as ns x6 x7 x8 x9 x10 x11 x12 L q;have hb:=L.bz;have hnd:=bD L.T.tr;refine⟨aW (show 1≤1000 by decide),λc1 hc1=>?_⟩;have s1:=ae (o:=.lst [.int 0]) hc1;have g1:upd H c1 (.lst [.int 0]) c1=some (.lst [.int 0]):=ac;generalize upd H c1 (.lst [.int 0])=H1 at s1 g1⊢;have L1:=L.same s1;refine⟨_,rfl,d,_,_,rfl,L1.B.dict,dL L1.B.of,hnd,by rw[length_map,ao];omega,λms hpm hup l2 hl2=>?_⟩;have hmm:∀k,k∈ms→∃z∈zs,z.2.num=k:=λk hk=>by
  obtain⟨n,hn,e⟩:=mem_map.mp (hpm.mem_iff.mp hk);obtain⟨z,hz,rfl⟩:=cm hn;exact⟨z,hz,e⟩
 have hml:ms.length≤8:=by rw[hpm.length_eq,length_map,ao];omega
 have s2:=ae (o:=.lst (ms.map V.int)) hl2;have g2:upd H1 l2 (.lst (ms.map V.int)) l2=some (.lst (ms.map V.int)):=ac;generalize upd H1 l2 (.lst (ms.map V.int))=H2 at s2 g2⊢;have L2:=L1.same s2;refine⟨l2,rfl,⟨_,SqL.of g2⟩,λp hp=>?_⟩;refine dJ (fr:=[some (.ref d)]) ms V.int (by omega) hp (cI (SqL.of g2)) rfl (ky zs) (λz y _=>y=.int z) (λ_ _ _ _ h _=>h) (λk H' kk mk s3 _ hk=>?_) (λk H' kk mk _ s3 _ hk=>?_) (λys H3 s3 hp3 hys=>?_)
 ·obtain⟨z,hz,rfl⟩:=hmm k mk;obtain⟨c,dg,hc⟩:=(L2.same s3).B.get hnd hz;refine⟨_,rfl,_,rfl,d,_,rfl,dg,c,_,_,_,rfl,rfl,SqT.of hc,AU z.2,rfl,_,rfl,?_⟩;rw[xk L.T.tr hz];exact hk H' (Same.refl _)
 ·exact⟨_,rfl,hk _ H' (Same.refl _) rfl⟩
 have ey:=aU (f:=V.int) hys (λz y _ h=>h);rw[ey]at hp3;have hfl:=length_filter_le (ky zs) ms;refine⟨c1,p,_,_,rfl,rfl,s3 _ _ (s2 _ _ g1),hp3,aW (by rw[length_map];show 1+_≤1000;omega),λl hl0=>?_⟩;have s4:=((s1.trans s2).trans s3).trans (ae (o:=.lst ([.int 0]++(ms.filter (ky zs)).map V.int)) hl0);have gl:upd H3 l (.lst ([.int 0]++(ms.filter (ky zs)).map V.int)) l=some (.lst ((0::ms.filter (ky zs)).map V.int)):=ac;generalize upd H3 l (.lst ([.int 0]++(ms.filter (ky zs)).map V.int))=H4 at s4 gl⊢;have L4:=L.same s4;refine⟨l,rfl,⟨_,SqL.of gl⟩,fJ (xs:=(0::ms.filter (ky zs)).map V.int) (λi σ H'=>∃x7 x8,σ=sσ a t o d (some (.ref pn)) (some (.ref m)) x6 x7 x8 x9 x10 x11 x12∧Same H4 H') ⟨_,_,rfl,Same.refl _⟩ (λi σ H' _ h=>?_) (λi x σ H' hx h=>?_) (λσ H' h=>?_)⟩
 ·obtain⟨_,_,_,s5⟩:=h;exact SqL.of (s5 _ _ gl)
 ·obtain⟨x7,x8,rfl,s5⟩:=h;obtain⟨k,hk,rfl⟩:=mem_map.mp (mem_of_getElem? hx);have L5:=L4.same s5;have hk':ik zs k:=by
   rcases mem_cons.mp hk with e|hk
   ·exact .inl e
   ·have:=(mem_filter.mp hk).2;unfold ky at this;exact .inr (of_decide_eq_true this)
  have kb:0≤k∧k≤60:=by
   rcases hk' with e|⟨z,hz,e,_⟩
   ·omega
   ·have g:=L.okz z.2 (aP hz);have g1:=g.1;have g2:=g.2.1;omega
  obtain⟨pk,hpk⟩:∃pk,TW.PathTo (nds zs) k pk:=by
   rcases hk' with e|⟨z,hz,e,_⟩
   ·subst e;exact⟨[],.top⟩
   ·obtain⟨pz,hpz⟩:=TW.PathTo.ex L.T.tr (aP hz);exact⟨pz,by rw[←e];exact hpz⟩
  have hpl:=hpk.len L.T.tr;rw[ao]at hpl;refine h0 _ H' a t o d pn m zs os us as ns k pk x6 x8 x9 x10 x11 x12 L5 hpk λah H6 s6 hah=>?_;have L6:=L5.same s6;refine h1 _ H6 a t o d pn m ah zs os us as ns k pk x6 x9 x10 x11 x12 L6 hk' hpk hah (by omega) (λH7 s7=>⟨_,_,rfl,(s5.trans s6).trans s7⟩) λH7 s7 hs=>?_;have L7:=L6.same s7;refine h2 _ H7 a t o d pn m zs os us as ns k x6 _ x9 x10 x11 x12 L7 hk' hs kb.1 kb.2 λH8 s8=>?_;have L8:=L7.same s8;refine h3 _ H8 a t o d pn m zs os us as ns k x6 _ x9 x10 x11 x12 L8 hk' hs kb.1 kb.2 λH9 s9=>?_;have L9:=L8.same s9;refine h4 _ H9 a t o d pn m zs os us as ns k x6 _ x9 x10 x11 x12 L9 hk' hs kb.1 kb.2 λH10 s10=>?_;exact⟨_,_,rfl,((((s5.trans s6).trans s7).trans s8).trans s9).trans s10⟩
 ·obtain⟨x7,x8,rfl,s5⟩:=h;exact q x7 x8 H' (s4.trans s5)
end
structure Sg(H:Hp)(t o pn m wh:Addr)(zs os us ws:ZN)(ns:List Str)(g:Int):Prop where
 T:Tre H t zs
 O:Tre H o os
 N:H pn=some (.lst (ns.map V.str))
 M:Tre H m us
 W:Tre H wh ws
 okz:∀n∈nds zs,om n
 oko:∀n∈nds os,om n
 em:nds us=TW.aB (qIn ns) (nds zs)
 ew:nds ws=nds zs++(nds os).map (TW.shT g)
 gr:GrS zs g
 bz:zs.length≤8
 bo:os.length≤5
 z12:∀n∈nds zs,n.num≤12
 o12:∀n∈nds os,n.num≤12
theorem Sg.same{H H':Hp}{t o pn m wh:Addr}{zs os us ws:ZN}{ns:List Str}{g:Int}(h:Sg H t o pn m wh zs os us ws ns g)(s:Same H H'):Sg H' t o pn m wh zs os us ws ns g :=
 ⟨h.T.same s,h.O.same s,s _ _ h.N,h.M.same s,h.W.same s,h.okz,h.oko,h.em,h.ew,h.gr,h.bz,h.bo,h.z12,h.o12⟩
theorem GrS.le{zs:ZN}{g:Int}(T:TW.Tree1 (nds zs))(h:GrS zs g):(∀n∈nds zs,n.num≤g)∧0≤g:=by
 rcases h with⟨rfl,rfl⟩|⟨⟨i,hi,e⟩,hall⟩
 ·exact⟨(λn hn=>nomatch hn),by decide⟩
 ·have hm:∀n∈nds zs,n.num≤g:=λn hn=>by
   obtain⟨z,hz,rfl⟩:=cm hn;have:z.2.num∈nums zs:=mem_map.mpr ⟨z,hz,rfl⟩;obtain⟨j,hj,ej⟩:=mem_iff_getElem.mp this;exact hall j _ hj (by rw[getElem?_eq_getElem hj,ej])
  refine⟨hm,?_⟩;have:=mem_of_getElem? e;obtain⟨z,hz,ez⟩:=mem_map.mp this;have h1:=T.pos z.2 (aP hz);have ez':z.2.num=g:=ez;omega
theorem Av{g:Int}{l:List Nd}(h:∀n∈l,1≤n.num):l.map (reN (shf 0 g))=l.map (TW.shT g):=map_congr_left λn hn=>by
 have:=h n hn;show(⟨if n.num=0 then 0 else n.num+g,if n.par=0 then 0 else n.par+g,n.nm,n.st⟩:Nd)=⟨n.num+g,if n.par=0 then 0 else n.par+g,n.nm,n.st⟩
 rw[if_neg (by omega)]
theorem sh0(n:Nd):TW.shT 0 n=n:=by
 obtain⟨a,b,c,d⟩:=n;show(⟨a+0,if b=0 then 0 else b+0,c,d⟩:Nd)=_;have e:(if b=0 then 0 else b+0)=b:=by split<;>omega
 rw[e,Int.add_zero]
theorem Sg.le{H:Hp}{t o pn m wh:Addr}{zs os us ws:ZN}{ns:List Str}{g:Int}(h:Sg H t o pn m wh zs os us ws ns g):g≤12:=by
 rcases h.gr with⟨_,e⟩|⟨⟨i,_,e⟩,_⟩
 ·omega
 ·obtain⟨z,hz,ez⟩:=mem_map.mp (mem_of_getElem? e);have:=h.z12 z.2 (aP hz);have ez':z.2.num=g:=ez;omega
theorem sy{k:Nat}{A:Around}{v:Option Value}(r:Room k A):RoomM k (A.mark v):=⟨r.dp,r.un⟩
theorem rf{H:Hp}{t:Addr}(h:H t=some (.tup [])):Tre H t []:=⟨h,(λz hz=>nomatch hz),⟨⟨Pairwise.nil,by unfold TW.bx;exact Pairwise.nil,(λn hn=>nomatch hn)⟩,(λn hn=>nomatch hn)⟩,zero_le _⟩
def hS(i:Nat):Stmt:=match sS 6 with
 |.Try _ [.ExceptHandler _ _ b _] _ _ _=>b.getD i (.Pass ⟨0,0,0,0⟩)
 |_=>.Pass ⟨0,0,0,0⟩
section
variable{P:Program}{w:World}{K:PySem.W.Frag}{mg:Str→Option Value}{base:Heap}{f:Addr}{cdv:Value}{A:Around}{outer:List Env}{s:Shared}{H0:Hp}{E:XK}
theorem k6h(hr:R4 A s f cdv)(C0:ku P w K mg base 2 "grafted" ["tree","number","other"] oR):
  ∃th,(∀ea ob pl vs,ob.data=.fields vs→vs[2]?=some .none→PSs ((SX P w K mg base f cdv A outer s H0 E).hnd ((ea,ob)::pl) (some (.ref ea))) [hS 0,hS 1] th)∧∀(D:Ends)(H:Hp)(a t o d pn m:Addr)(zs os us:ZN)(as:List (Addr×(Addr×Nd)))(ns:List Str)(x6 x7 x8 x9 x10 x11 x12:Option V),Sn H t o d pn m zs os us as ns →
   (∀(t m wh:Addr)(zs us ws:ZN)(g:Int)(H':Hp),Same H H'→Sg H' t o pn m wh zs os us ws ns g→D.nx (sσ a t o d (some (.ref pn)) (some (.ref m)) x6 x7 x8 (some (.ref wh)) x10 x11 x12) H')→th D (sσ a t o d (some (.ref pn)) (some (.ref m)) x6 x7 x8 x9 x10 x11 x12) H:=by
 obtain⟨fZ,fdZ,GZ,mZ,kZ,bZ⟩:=C0;have hr2:Room 2 _:=hr.mono (by decide);refine⟨_,λea ob pl vs d1 d2=>ag (aA (i:=9) scS.nd rfl (Or.inr rfl) (dD GZ (sy hr2) (HdY.pin (o:=ob) rfl mem_cons_self d1 d2) rfl mZ kZ bZ .nil au (aa (bh af) (aa aj (aa (pv 2) af)))))
   (am (xF (g:=sH K 2 (iY (aJ 1) (iY (aJ 5) xE))) (bh (aa (bh af) (aa (bh af) af))) (xi (n:=2) (HdY.x (HdY.pin (o:=ob) rfl mem_cons_self d1 d2)) (cJ (ap (i:=1) scS.nd rfl (Or.inl rfl) (Or.inr rfl)) (cJ (ap (i:=5) scS.nd rfl (Or.inl rfl) (Or.inr rfl)) lI))))),?_⟩
 intro D H1 a t o d pn m zs os us as ns x6 x7 x8 x9 x10 x11 x12 L1 q;have hbo:=L1.bo;refine⟨zero_le _,λc1 hc1=>?_⟩;have s2:=ae (o:=.tup []) hc1;have g2:upd H1 c1 (.tup []) c1=some (.tup []):=ac;generalize upd H1 c1 (.tup [])=H2 at s2 g2⊢;have L2:=L1.same s2;refine⟨_,rfl,c1,o,os,rfl,g2,L2.O,λws wh H3 s3 hw hA ew=>?_⟩;have L3:=L2.same s3;refine⟨zero_le _,λc4 hc4=>?_⟩;have s4:=ae (o:=.tup []) hc4;have g4:upd H3 c4 (.tup []) c4=some (.tup []):=ac;generalize upd H3 c4 (.tup [])=H4 at s4 g4⊢;refine⟨zero_le _,λc5 hc5=>?_⟩;have s5:=ae (o:=.tup []) hc5;have g5:upd H4 c5 (.tup []) c5=some (.tup []):=ac;generalize upd H4 c5 (.tup [])=H5 at s5 g5⊢;refine⟨le2,λc6 hc6=>?_⟩;have s6:=ae (o:=.tup [.ref c4,.ref c5]) hc6;have g6:upd H5 c6 (.tup [.ref c4,.ref c5]) c6=some (.tup [.ref c4,.ref c5]):=ac;generalize upd H5 c6 (.tup [.ref c4,.ref c5])=H6 at s6 g6⊢;refine⟨c6,_,rfl,SqT.of g6,rfl,_,_,rfl,_,_,rfl,rfl,?_⟩;have s36:=(s4.trans s5).trans s6;have sAll:=(s2.trans s3).trans s36;have L6:=L1.same sAll;have ew':nds ws=nds []++(nds os).map (TW.shT 0):=by
  rw[ew,map_congr_left (g:=id) λn _=>sh0 n,map_id];rfl
 have hwl:ws.length≤5:=by
  have:=congrArg length ew;rw[ao,ao]at this;omega
 exact q c4 c5 wh [] [] ws 0 H6 sAll ⟨rf (s6 _ _ (s5 _ _ g4)),L6.O,L6.N,rf (s6 _ _ g5),⟨s36 _ _ hw,λz hz=>s36 _ _ (hA z hz),by rw[ew];exact L1.O.tr,by omega⟩,(λn hn=>nomatch hn),L1.oko,rfl,ew',.inl ⟨rfl,rfl⟩,zero_le _,L1.bo,(λn hn=>nomatch hn),L1.o12⟩
theorem k6{CT:Addr}(hr:R4 A s f cdv)(mT:mg "Taken"=some (.ref CT))(hT:ktsIn K CT "BaseException"=true)(hsub:subIn K (.ref CT) (.ref CT)=some true)(CG:mv P w K mg base 3 "grafted" ["tree","number","other"] (qW CT))(C0:ku P w K mg base 2 "grafted" ["tree","number","other"] oR):
  ∃rd,PS (SX P w K mg base f cdv A outer s H0 E) (sS 6) rd∧∀(D:Ends)(H:Hp)(a t o d pn m:Addr)(zs os us:ZN)(as:List (Addr×(Addr×Nd)))(ns:List Str)(x6 x7 x8 x9 x10 x11 x12:Option V),Sn H t o d pn m zs os us as ns →
   (∀(t m wh:Addr)(zs us ws:ZN)(g:Int)(H':Hp),Same H H'→Sg H' t o pn m wh zs os us ws ns g→D.nx (sσ a t o d (some (.ref pn)) (some (.ref m)) x6 x7 x8 (some (.ref wh)) x10 x11 x12) H')→rd D (sσ a t o d (some (.ref pn)) (some (.ref m)) x6 x7 x8 x9 x10 x11 x12) H:=by
 obtain⟨th,ph,hh⟩:=k6h (outer:=outer) (H0:=H0) (E:=E) hr C0;obtain⟨fG,fdG,GG,mG,kG,bG⟩:=CG;have hr3:Room 3 _:=hr.mono (by decide);refine⟨_,xa (i:=9) (T:=CT) ⟨λ_ _ h=>h,rfl,rfl⟩ scS.nd rfl (Or.inr rfl) (vU (λ_ _ h=>h) GG hr3 rfl mG kG bG (aa (pv 1) (aa aj (aa (pv 2) af)))) ph rfl mT hT,?_⟩;intro D H a t o d pn m zs os us as ns x6 x7 x8 x9 x10 x11 x12 L q;have hbz:=L.bz;have hbo:=L.bo;refine⟨_,rfl,_,rfl,t,0,o,zs,os,rfl,L.T,L.O,by decide,by decide,.inl rfl,λgr hg=>?_⟩;obtain⟨h1,h0⟩:=hg.le L.T.tr;have epos:∀n∈nds os,1≤n.num:=L.O.tr.pos;rw[Av epos];refine⟨λhp ws wh H1 s1 hw hA ew=>?_,λhp H1 s1=>⟨CT,rfl,hsub,?_⟩⟩
 ·have L1:=L.same s1;have hwl:ws.length≤13:=by
   have:=congrArg length ew;rw[ao,length_append,length_map,ao,ao]at this;omega
  exact q t m wh zs us ws gr H1 s1 ⟨L1.T,L1.O,L1.N,L1.M,⟨hw,hA,by rw[ew];exact TW.uV L.T.tr L.O.tr h1 h0 hp,by omega⟩,L.okz,L.oko,L.em,ew,hg,L.bz,L.bo,L.z12,L.o12⟩
 ·exact hh _ H1 a t o d pn m zs os us as ns x6 x7 x8 x9 x10 x11 x12 (L.same s1) λt m wh zs us ws g H' s' S=>q t m wh zs us ws g H' (s1.trans s') S
end
theorem zo{zs:ZN}{g b:Int}(T:TW.Tree1 (nds zs))(h:GrS zs g)(hb:GrI (0::nums zs) (0::nums zs).length b):b=g:=by
 obtain⟨h1,h0⟩:=h.le T;obtain⟨⟨i,hi,ei⟩,hall⟩:=hb;have hmem:∀x∈(0:Int)::nums zs,x≤b:=λx hx=>by
  obtain⟨j,hj,ej⟩:=mem_iff_getElem.mp hx;exact hall j x hj (by rw[getElem?_eq_getElem hj,ej])
 have b1:b≤g:=by
  rcases mem_cons.mp (mem_of_getElem? ei)with e|h
  ·omega
  ·obtain⟨z,hz,e⟩:=mem_map.mp h;have:=h1 z.2 (aP hz);have e':z.2.num=b:=e;omega
 have b2:g≤b:=by
  rcases h with⟨_,rfl⟩|⟨⟨j,_,ej⟩,_⟩
  ·exact hmem 0 mem_cons_self
  ·exact hmem g (mem_cons_of_mem _ (mem_of_getElem? ej))
 omega
theorem xl{t:List Nd}(T:TW.Tree1 t){n:Nd}(hn:n∈t):n.par=0∨1≤n.par:=by
 cases T.down n hn with
 |base _ e=>exact .inl e
 |@step m _ hm _ _ e=>exact .inr (by rw[e];exact T.pos m hm.mem)
theorem xm{σ:St}(h:σ.length=4):∃a b c d,σ=[a,b,c,d]:=by
 match σ,h with
 |[a,b,c,d],_=>exact⟨a,b,c,d,rfl⟩
section
variable{P:Program}{w:World}{K:PySem.W.Frag}{mg:Str→Option Value}{base:Heap}{f:Addr}{cdv:Value}{A:Around}{outer:List Env}{s:Shared}{H0:Hp}{E:XK}
theorem k7(T:Txt mg)(hr:R4 A s f cdv):
  ∃rd,PS (SX P w K mg base f cdv A outer s H0 E) (sS 7) rd∧∀(D:Ends)(H:Hp)(a t o d pn m wh:Addr)(zs os us ws:ZN)(ns:List Str)(g:Int)(x6 x7 x8 x10 x11 x12:Option V),Sg H t o pn m wh zs os us ws ns g →
   (∀H',Same H H'→D.nx (sσ a t o d (some (.ref pn)) (some (.ref m)) x6 x7 x8 (some (.ref wh)) (some (.int g)) x11 x12) H')→rd D (sσ a t o d (some (.ref pn)) (some (.ref m)) x6 x7 x8 (some (.ref wh)) x10 x11 x12) H:=by
 refine⟨_,aA (i:=10) scS.nd rfl (Or.inr rfl) (aT (sv rfl) rfl T.max boot_max (aa (aK pr (bw (aa aj af)) (dj (N:=["_law_node"]) (cl:=[]) (k:=1) (js:=[]) (g:=aJ 0) rfl (cj rfl (by decide +kernel) (by decide +kernel) (by decide +kernel)) rfl (λi j x h=>by simp at h) (cM (pv 1)) (λs H fp=>ap (i:=0) (show(["_law_node"]:List Str).Nodup by decide +kernel) rfl (Or.inl rfl) (Or.inr rfl))
    (λs H fp=>aQ (r:=cw K) aG (pv 0) aj (λ_ _=>rfl)))) af)),?_⟩
 intro D H a t o d pn m wh zs os us ws ns g x6 x7 x8 x10 x11 x12 Z q;have hl:=Z.bz;refine⟨aW (show 1≤1000 by decide),λl0 hl0=>?_⟩;have s1:=ae (o:=.lst [.int 0]) hl0;have g1:upd H l0 (.lst [.int 0]) l0=some (.lst [.int 0]):=ac;generalize upd H l0 (.lst [.int 0])=H1 at s1 g1⊢;have Z1:=(Z.same s1).T;refine⟨_,rfl,t,rfl,⟨_,SqT.of Z1.tup⟩,λp hp=>?_⟩;refine bM (fr:=[]) zs (λz=>V.ref z.1) (by omega) hp (cb (by rw[aC];exact SqT.of Z1.tup)) rfl (λz y _=>y=.int z.2.num) (λ_ _ _ _ h _=>h) (λz H' kk mz s2 _ hk=>?_) (λys H2 s2 hp2 hys=>?_)
 ·exact⟨_,rfl,z.1,_,_,_,rfl,rfl,SqT.of (s2 _ _ (Z1.nod z mz)),at0 z.2,hk _ H' (Same.refl _) rfl⟩
 have ey:=aU (f:=λz:Addr×Nd=>V.int z.2.num) hys (λz y _ h=>h);have e:ys=(nums zs).map V.int:=by rw[ey];unfold nums;rw[map_map];rfl
 rw[e]at hp2;refine⟨l0,p,[.int 0],_,rfl,rfl,s2 _ _ g1,hp2,aW (by rw[length_map,uP];show 1+_≤1000;omega),λl hll=>?_⟩;have s3:=ae (o:=.lst ([.int 0]++(nums zs).map V.int)) hll;refine⟨l,0::nums zs,rfl,ac,(λh=>by cases h),λb hb=>?_⟩;rw[zo Z.T.tr Z.gr hb];exact q _ ((s1.trans s2).trans s3)
theorem k8(T:Txt mg)(hr:R4 A s f cdv)(CS:Has P w K mg base 2 "seen" ["tree","names"] dw):
  ∃rd,PS (SX P w K mg base f cdv A outer s H0 E) (sS 8) rd∧∀(D:Ends)(H:Hp)(a t o d pn m wh:Addr)(zs os us ws:ZN)(ns:List Str)(g:Int)(x6 x7 x8 x11 x12:Option V),Sg H t o pn m wh zs os us ws ns g →
   (∀(l:Addr) (dn:ZN) H',Same H H'→H' l=some (.lst (av dn))→At H' dn→nds dn=(TW.aB (qIn ns) (nds os)).map (TW.shT g)→D.nx (sσ a t o d (some (.ref pn)) (some (.ref m)) x6 x7 x8 (some (.ref wh)) (some (.int g)) (some (.ref l)) x12) H')→rd D (sσ a t o d (some (.ref pn)) (some (.ref m)) x6 x7 x8 (some (.ref wh)) (some (.int g)) x11 x12) H:=by
 obtain⟨fS,fdS,GS,mS,kS,bS⟩:=CS;have hr2:Room 2 _:=hr.mono (by decide);refine⟨_,nZ (ii:=11) (N:=["_law_one","_law_parent","_law_name","_law_stamp","_law_by"]) (cl:=[("_law_by",s.heap.objs.size+4)]) (k:=4) (js:=[10]) (g:=sH K 4 (iY (aJ 0) (iY (aJ 1) (iY (aJ 2) (iY (aJ 3) xE))))) scS.nd rfl (Or.inl rfl) rfl
   (LcOk.mk' ["_law_by"] rfl rfl (by decide +kernel) (by decide +kernel) ?hcl rfl (by decide +kernel)) rfl ?hj (cM (ak GS hr2 rfl mS kS bS .nil au (aa (pv 2) (aa (pv 4) af))))
   (λs H fp=>sI (n:=4) rfl (cJ (ap (i:=0) (show(["_law_one","_law_parent","_law_name","_law_stamp","_law_by"]:List Str).Nodup by decide +kernel) rfl (Or.inl rfl) (Or.inr rfl)) (cJ (ap (i:=1) (show(["_law_one","_law_parent","_law_name","_law_stamp","_law_by"]:List Str).Nodup by decide +kernel) rfl (Or.inl rfl) (Or.inr rfl)) (cJ (ap (i:=2) (show(["_law_one","_law_parent","_law_name","_law_stamp","_law_by"]:List Str).Nodup by decide +kernel) rfl (Or.inl rfl) (Or.inr rfl)) (cJ (ap (i:=3) (show(["_law_one","_law_parent","_law_name","_law_stamp","_law_by"]:List Str).Nodup by decide +kernel) rfl (Or.inl rfl) (Or.inr rfl)) lI)))))
   (λs H fp=>bh (aa (aK bq (pv 0) (pv 4)) (aa (aK bq (pv 1) (aK dm (pv 4) (aD rn rfl T.int boot_int (aa (dF sO (pv 1) aj (aR _)) af)))) (aa (pv 2) (aa (pv 3) af))))),?_⟩
 case hcl =>
  intro y hy;rcases mem_cons.mp hy with e|hy
  ·rw[e];rfl
  ·cases hy
 case hj =>
  intro i j x h1 h2
  match i,h1,h2 with
  |0,h1,h2 =>
   cases h1;cases h2;exact⟨rfl,Or.inr (Or.inl rfl),(show((ai jI).names.lookup ("_law_by":Str)≠some NameKind.local)by decide +kernel),by first|exact Or.inl rfl|exact Or.inr rfl⟩
  |i+1,h1,h2=>simp at h1
 intro D H a t o d pn m wh zs os us ws ns g x6 x7 x8 x11 x12 Z q;refine⟨_,rfl,_,rfl,o,pn,os,ns,rfl,Z.O,Z.N,λv vs H1 s1 V1 ev=>?_⟩;have hvl:vs.length≤5:=by
  have:=oU (qIn ns) (nds os);rw[←ev,ao,ao]at this;have:=Z.bo;omega
 refine⟨v,rfl,⟨_,SqT.of V1.tup⟩,λp hp=>?_⟩;refine uH (fr:=[some (.int g)]) vs (λz=>V.ref z.1) (by omega) hp (cb (by rw[aC];exact SqT.of V1.tup)) ⟨[none,none,none,none],rfl,rfl⟩ (λz y H'=>∃c,y=.ref c∧c≠p∧H' c=some (.tup (vals (TW.shT g z.2)))) (λz y H H' ⟨c,e,ne,h⟩ ex=>⟨c,e,ne,ex c _ ne h⟩) (λz σ0 H' kk hσ mz s2 hpl hk=>?_) (λys H2 s2 hp2 hys=>?_)
 ·obtain⟨y0,y1,y2,y3,rfl⟩:=xm hσ;refine⟨z.1,_,rfl,SqT.of (s2 _ _ (V1.nod z mz)),rfl,_,_,rfl,_,_,rfl,_,_,rfl,_,_,rfl,rfl,?_⟩;refine⟨_,rfl,_,rfl,_,_,rfl,rfl,?_⟩;refine⟨_,rfl,_,rfl,_,rfl,_,_,rfl,rfl,.inr ⟨_,rfl,?_⟩⟩;have hcm:vx g (if decide (0<z.2.par)=true then 1 else 0):=.inr (by split<;>constructor<;>decide)
  refine⟨_,_,rfl,rfl,hcm,_,_,rfl,rfl,_,rfl,_,rfl,(show 4≤sizeLine from aW (by decide)),λc hc=>?_⟩;have hn:z.2∈nds os:=by
   have:=aP mz;rw[ev]at this;exact TW.dE this
  have ep:z.2.par+g*(if decide (0<z.2.par)=true then 1 else 0)=if z.2.par=0 then 0 else z.2.par+g:=by
   rcases xl Z.O.tr hn with e|e
   ·rw[e];simp
   ·rw[if_pos (decide_eq_true (by omega)),if_neg (by omega),mul_one]
  have et:(HO.tup [.int (z.2.num+g),.int (z.2.par+g*(if decide (0<z.2.par)=true then 1 else 0)),.str z.2.nm,stV z.2.st])=.tup (vals (TW.shT g z.2)):=by rw[ep];rfl
  exact hk _ _ _ ⟨[some (.int z.2.num),some (.int z.2.par),some (.str z.2.nm),some (stV z.2.st)],rfl,rfl⟩ (ae hc) ⟨c,rfl,ck hpl hc,by rw[ac,et]⟩
 ·obtain⟨cs,e1,e2,e3⟩:=bE (val:=V.ref) (S:=λ(z:Addr×Nd) (c:Addr)=>H2 c=some (.tup (vals (TW.shT g z.2)))) hys (λz y _ ⟨c,e,_,h⟩=>⟨c,e,h⟩);refine q p (cs.map λx=>(x.2,TW.shT g x.1.2)) H2 (s1.trans s2) ?_ (λz hz=>?_) ?_
  ·rw[hp2,e2,←aC,map_map];rfl
  ·obtain⟨x,hx,rfl⟩:=mem_map.mp hz;exact e3 x hx
  ·rw[←ev,←e1];unfold nds;rw[map_map,map_map,map_map];rfl
end
theorem ip{xs:ZN}(h:av xs=[]):xs=[]:=by
 rw[←aC]at h;exact map_eq_nil_iff.mp h
theorem sC(us vs:ZN):av us++av vs=av (us++vs):=by rw[←aC,←aC,←aC,map_append]
theorem Sg.seen{H:Hp}{t o pn m wh:Addr}{zs os us ws:ZN}{ns:List Str}{g:Int}(h:Sg H t o pn m wh zs os us ws ns g):TW.aB (qIn ns) (nds ws)=nds us++(TW.aB (qIn ns) (nds os)).map (TW.shT g):=by
 obtain⟨h1,h0⟩:=h.gr.le h.T.tr;rw[h.ew,h.em];exact TW.uU h.T.tr h.O.tr h1 h0
section
variable{P:Program}{w:World}{K:PySem.W.Frag}{mg:Str→Option Value}{base:Heap}{f:Addr}{cdv:Value}{A:Around}{outer:List Env}{s:Shared}{H0:Hp}{E:XK}
theorem k9(T:Txt mg)(hr:R4 A s f cdv)(CS:Has P w K mg base 2 "seen" ["tree","names"] dw):
  ∃rd,PS (SX P w K mg base f cdv A outer s H0 E) (sS 9) rd∧∀(D:Ends)(H:Hp)(a t o d pn m wh l:Addr)(zs os us ws dn:ZN)(ns:List Str)(g:Int)(x6 x7 x8 x12:Option V),Sg H t o pn m wh zs os us ws ns g→H l=some (.lst (av dn))→At H dn→nds dn=(TW.aB (qIn ns) (nds os)).map (TW.shT g) →
   (∀H',Same H H'→D.nx (sσ a t o d (some (.ref pn)) (some (.ref m)) x6 x7 x8 (some (.ref wh)) (some (.int g)) (some (.ref l)) x12) H')→rd D (sσ a t o d (some (.ref pn)) (some (.ref m)) x6 x7 x8 (some (.ref wh)) (some (.int g)) (some (.ref l)) x12) H:=by
 obtain⟨fS,fdS,GS,mS,kS,bS⟩:=CS;have hr2:Room 2 _:=hr.mono (by decide);have hu4:=mn hr;refine⟨_,cp (aI (pL hu4) (ak GS hr2 rfl mS kS bS .nil au (aa (pv 9) (aa (pv 4) af))) (aK (iL.or jw) (pv 5) (aD bg rfl T.tuple rfl (aa (pv 11) af))) (aR _)) (am (aF fD)) bf,?_⟩;intro D H a t o d pn m wh l zs os us ws dn ns g x6 x7 x8 x12 Z hl hA ed q;refine⟨_,rfl,_,rfl,wh,pn,ws,ns,rfl,Z.W,Z.N,λv vs H1 s1 V1 ev=>?_⟩;have Z1:=Z.same s1;rw[Z.seen,←ed]at ev;have ev':nds vs=nds (us++dn):=by rw[ev];unfold nds;rw[map_append]
 have hbu:us.length≤30:=Z.M.len;have hdn:dn.length≤30:=by
  have:=V1.len;have h2:=congrArg length ev;rw[ao,length_append,ao,ao]at h2;omega
 refine⟨_,rfl,_,rfl,l,_,rfl,.inl ⟨SqL.of (s1 _ _ hl),λt2 ht2=>?_⟩⟩;have s2:=ae (o:=.tup (av dn)) ht2;have g2:upd H1 t2 (.tup (av dn)) t2=some (.tup (av dn)):=ac;generalize upd H1 t2 (.tup (av dn))=H2 at s2 g2⊢;have Z2:=Z1.same s2;have fin:∀(ta:Addr)(H3:Hp),Same H2 H3→H3 ta=some (.tup (av (us++dn)))→dA H3 (av vs) (av (us++dn))∧((H3 v=some (.lst (av vs))∧H3 ta=some (.lst (av (us++dn))))∨(H3 v=some (.tup (av vs))∧H3 ta=some (.tup (av (us++dn))))):=λta H3 s3 hta=>by
  have V3:=(V1.same s2).same s3;refine⟨eN ev' V3.nod λz hz=>?_,.inr ⟨V3.tup,hta⟩⟩;rcases mem_append.mp hz with hz|hz
  ·exact(Z2.same s3).M.nod z hz
  ·exact s3 _ _ (s2 _ _ (s1 _ _ (hA z hz)))
 by_cases h1:us=[]
 ·subst h1;obtain⟨f1,f2⟩:=fin t2 H2 (Same.refl _) g2;exact .inr ⟨m,t2,_,rfl,rfl,SqT.of Z2.M.tup,SqT.of g2,.inr ⟨v,t2,_,_,rfl,rfl,f1,f2,_,rfl,cy (q H2 (s1.trans s2))⟩⟩
 ·refine .inl ⟨m,t2,_,_,rfl,rfl,SqT.of Z2.M.tup,SqT.of g2,λe=>h1 (ip e),aW (by rw[bd,bd];omega),λe=>?_,λ_ p hp=>?_⟩
  ·have e2:=ip e;subst e2;obtain⟨f1,f2⟩:=fin m H2 (Same.refl _) (by rw[append_nil];exact Z2.M.tup);exact .inr ⟨v,m,_,_,rfl,rfl,f1,f2,_,rfl,cy (q H2 (s1.trans s2))⟩
  ·have s3:=ae (o:=.tup (av us++av dn)) hp;obtain⟨f1,f2⟩:=fin p _ s3 (by rw[ac,sC]);exact .inr ⟨v,p,_,_,rfl,rfl,f1,f2,_,rfl,cy (q _ ((s1.trans s2).trans s3))⟩
theorem k10(hr:R4 A s f cdv)(CQ:Has P w K mg base 3 "is_quiet" ["one","other","names"] rc)(CH:Has P w K mg base 3 "change_seen" ["one","other","names"] qZ):
  ∃rd,PS (SX P w K mg base f cdv A outer s H0 E) (sS 10) rd∧∀(D:Ends)(H:Hp)(a t o d pn m wh l:Addr)(zs os us ws dn:ZN)(ns:List Str)(g:Int)(x6 x7 x8 x12:Option V),Sg H t o pn m wh zs os us ws ns g→H l=some (.lst (av dn))→nds dn=(TW.aB (qIn ns) (nds os)).map (TW.shT g) →
   (∀H',Same H H'→D.nx (sσ a t o d (some (.ref pn)) (some (.ref m)) x6 x7 x8 (some (.ref wh)) (some (.int g)) (some (.ref l)) x12) H')→rd D (sσ a t o d (some (.ref pn)) (some (.ref m)) x6 x7 x8 (some (.ref wh)) (some (.int g)) (some (.ref l)) x12) H:=by
 obtain⟨fQ,fdQ,GQ,mQ,kQ,bQ⟩:=CQ;obtain⟨fH,fdH,GH,mH,kH,bH⟩:=CH;have hr3:Room 3 _:=hr.mono (by decide);refine⟨_,cp (PW.pt (pw_or (aI iq (ak GQ hr3 rfl mQ kQ bQ .nil au (aa (pv 1) (aa (pv 9) (aa (pv 4) af)))) (dF (fo hr.units0) (pv 11) (bw af) (aR _)) (aR _))
  (pw_or1 (aI iq (dF (pE hr.units0) (ak GH hr3 rfl mH kH bH .nil au (aa (pv 1) (aa (pv 9) (aa (pv 4) af)))) (bh af) (aR _)) (dF (fo hr.units0) (pv 11) (bw af) (aR _)) (aR _))))) (am (aF fD)) bf,?_⟩
 intro D H a t o d pn m wh l zs os us ws dn ns g x6 x7 x8 x12 Z hl ed q;have key:(TW.aB (qIn ns) (nds zs)=TW.aB (qIn ns) (nds ws))↔av dn=[]:=by
  rw[Z.seen,←Z.em,←ed];constructor
  ·intro h;have:=congrArg length h;rw[length_append,ao dn]at this;have h0:dn.length=0:=by omega
   rw[length_eq_zero_iff.mp h0];rfl
  ·intro h;rw[ip h];exact(append_nil _).symm
 refine⟨_,rfl,_,rfl,_,rfl,t,wh,pn,zs,ws,ns,rfl,Z.T,Z.W,Z.N,λb H1 s1 hb=>?_⟩;have eb:b=decide (av dn=[]):=by
  apply Bool.eq_iff_iff.mpr;rw[hb,decide_eq_true_eq,key]
 refine⟨_,rfl,zero_le _,λc2 hc2=>?_⟩;have s2:=ae (o:=.lst []) hc2;have g2:upd H1 c2 (.lst []) c2=some (.lst []):=ac;generalize upd H1 c2 (.lst [])=H2 at s2 g2⊢;have s12:=s1.trans s2;have Z2:=Z.same s12;refine⟨l,c2,av dn,rfl,rfl,SqL.of (s12 _ _ hl),SqL.of g2,rfl,_,rfl,?_⟩;rw[show(!decide (V.bl b=V.bl (decide (av dn=[]))))=false by rw[eb];simp];refine cy ?_;refine⟨_,rfl,_,rfl,_,rfl,t,wh,pn,zs,ws,ns,rfl,Z2.T,Z2.W,Z2.N,λc es H3 s3 hc hch=>?_⟩;refine⟨zero_le _,λc4 hc4=>?_⟩;have s4:=ae (o:=.tup []) hc4;have g4:upd H3 c4 (.tup []) c4=some (.tup []):=ac;generalize upd H3 c4 (.tup [])=H4 at s4 g4⊢;refine⟨c,c4,jP es,rfl,rfl,SqT.of (s4 _ _ hc.tup),SqT.of g4,?_⟩;refine⟨_,rfl,zero_le _,λc5 hc5=>?_⟩;have s5:=ae (o:=.lst []) hc5;have g5:upd H4 c5 (.lst []) c5=some (.lst []):=ac;generalize upd H4 c5 (.lst [])=H5 at s5 g5⊢;have s15:=((s12.trans s3).trans s4).trans s5;refine⟨l,c5,av dn,rfl,rfl,SqL.of (s15 _ _ hl),SqL.of g5,rfl,_,rfl,?_⟩;have ec:decide (jP es=[])=decide (av dn=[]):=by
  apply Bool.eq_iff_iff.mpr;rw[decide_eq_true_eq,decide_eq_true_eq,←key,←TW.oM hch (TW.cn Z.T.tr).rise (TW.cn Z.W.tr).rise];unfold kr jP;rw[map_eq_nil_iff,map_eq_nil_iff]
 rw[show(!decide (V.bl (decide (jP es=[]))=V.bl (decide (av dn=[]))))=false by rw[ec];simp];exact cy (q H5 s15)
end
end TK
namespace TW
section
variable{S:Type}
theorem PathTo.mono{t u:List (Nd S)}{k:Int}{p:List S}(h:PathTo t k p)(hs:∀x∈t,x∈u):PathTo u k p:=by
 induction h with
 |top=>exact .top
 |node hm _ ih=>exact .node (hs _ hm) ih
section
variable{t u:List (Nd S)}{k g:Int}
end
section
variable{t u:List (Nd S)}{g:Int→Int}
end
end
end TW
namespace TK
open PySem L2
theorem sD{H:Hp}{cs:List Cp}{ds:List (Addr×List Str)}(e:cs.map (·.p)=ds.map (·.2))(hc:∀c∈cs,rV H c)(hd:∀c∈ds,H c.1=some (.tup (c.2.map V.str))):dA H (cs.map λc=>V.ref c.t) (ds.map λc=>V.ref c.1):=by
 have el:cs.length=ds.length:=by have:=congrArg length e;rw[length_map,length_map]at this;exact this
 refine⟨by rw[length_map,length_map];exact el,λi x y hx hy=>?_⟩;rw[getElem?_map]at hx hy;cases g1:cs[i]? with
 |none=>rw[g1]at hx;cases hx
 |some c =>
  cases g2:ds[i]? with
  |none=>rw[g2]at hy;cases hy
  |some d =>
   rw[g1]at hx;rw[g2]at hy;cases hx;cases hy;have e2:c.p=d.2:=by
    have:=congrArg (λl=>l[i]?) e;simp only[getElem?_map,g1,g2]at this;exact Option.some.inj this
   have h1:=(hc c (mem_of_getElem? g1)).2;have h2:=hd d (mem_of_getElem? g2);rw[←e2]at h2;refine .inr ⟨c.t,d.1,_,_,rfl,rfl,h1,h2,rfl,λj x y gx gy=>?_⟩;rw[gx]at gy;cases gy;obtain⟨z,_,rfl⟩:=mem_map.mp (mem_of_getElem? gx);exact .inl ⟨rfl,rfl⟩
theorem Sg.num{H:Hp}{t o pn m wh:Addr}{zs os us ws:ZN}{ns:List Str}{g:Int}(h:Sg H t o pn m wh zs os us ws ns g){n:Nd}(hn:n∈nds ws):1≤n.num∧n.num≤60:=by
 refine⟨h.W.tr.pos n hn,?_⟩;have hg:=h.le;rw[h.ew]at hn;rcases mem_append.mp hn with hn|hn
 ·exact(h.okz n hn).2.1
 ·obtain⟨k,hk,rfl⟩:=mem_map.mp hn;have:=h.o12 k hk;show k.num+g≤60;omega
section
variable{P:Program}{w:World}{K:PySem.W.Frag}{mg:Str→Option Value}{base:Heap}{f:Addr}{cdv:Value}{A:Around}{outer:List Env}{s:Shared}{H0:Hp}{E:XK}
theorem k12(T:Txt mg)(hr:R4 A s f cdv)(CW:Has P w K mg base 2 "walked" ["tree"] qO)(CP:Has P w K mg base 2 "path_of" ["tree","number"] nb):
  ∃rd,PS (SX P w K mg base f cdv A outer s H0 E) (sS 12) rd∧∀(D:Ends)(H:Hp)(a t o d pn m wh v:Addr)(zs os us ws vs:ZN)(ns:List Str)(g:Int)(x6 x7 x8 x10 x11:Option V),Sg H t o pn m wh zs os us ws ns g→Tre H v vs→nds vs=TW.aB (qIn ns) (nds ws) →
   (∀H',D.rt (.bl true) H')→rd D (sσ a t o d (some (.ref pn)) (some (.ref m)) x6 x7 x8 (some (.ref wh)) x10 x11 (some (.ref v))) H:=by
 obtain⟨fW,fdW,GW,mW,kW,bW⟩:=CW;obtain⟨fP,fdP,GP,mP,kP,bP⟩:=CP;have hr2:Room 2 _:=hr.mono (by decide);have hu4:=mn hr;refine⟨_,aF (dF (yp hu4) (dj (N:=["_law_row"]) (cl:=[]) (k:=1) (js:=[]) (g:=aJ 0) rfl (cj rfl (by decide +kernel) (by decide +kernel) (by decide +kernel)) rfl (λi j x h=>by simp at h) (bJ (ak GW hr2 rfl mW kW bW .nil au (aa (pv 12) af))) (λs H fp=>ap (i:=0) (show(["_law_row"]:List Str).Nodup by decide +kernel) rfl (Or.inl rfl) (Or.inr rfl))
    (λs H fp=>aQ (r:=cw K) aG (pv 0) aj (λ_ _=>rfl)))
   (aT gJ rfl T.sorted boot_sorted (aa (dj (N:=["_law_node","_law_whole"]) (cl:=[("_law_whole",s.heap.objs.size+3)]) (k:=1) (js:=[9]) (g:=aJ 0) rfl
    (LcOk.mk' ["_law_whole"] rfl rfl (by decide +kernel) (by decide +kernel) ?hcl rfl (by decide +kernel)) rfl ?hj (cM (pv 12)) (λs H fp=>ap (i:=0) (show(["_law_node","_law_whole"]:List Str).Nodup by decide +kernel) rfl (Or.inl rfl) (Or.inr rfl))
    (λs H fp=>ak (X:=bn _ _ _ _ _ _ _) GP hr2 rfl mP kP bP .nil au (aa (pv 1) (aa (aQ (r:=cw K) aG (pv 0) aj (λ_ _=>rfl)) af)))) af)) (aR _)),?_⟩
 case hcl =>
  intro y hy;rcases mem_cons.mp hy with e|hy
  ·rw[e];rfl
  ·cases hy
 case hj =>
  intro i j x h1 h2
  match i,h1,h2 with
  |0,h1,h2 =>
   cases h1;cases h2;exact⟨rfl,Or.inr (Or.inl rfl),(show((ai jI).names.lookup ("_law_whole":Str)≠some NameKind.local)by decide +kernel),by first|exact Or.inl rfl|exact Or.inr rfl⟩
  |i+1,h1,h2=>simp at h1
 intro D H a t o d pn m wh v zs os us ws vs ns g x6 x7 x8 x10 x11 Z Vt ev q;have hvl:=Vt.len;have hsub:∀n∈nds vs,n∈nds ws:=λn hn=>by rw[ev]at hn;exact TW.dE hn
 refine⟨_,rfl,v,vs,rfl,Vt,λcs l1 H1 s1 wl hcl hl1=>?_⟩;refine⟨l1,rfl,⟨_,SqL.of hl1⟩,λp2 hp2=>?_⟩;refine bM (fr:=[]) cs (λc=>V.ref c.a) (by omega) hp2 (cI (SqL.of hl1)) rfl (λc y _=>y=.ref c.t) (λ_ _ _ _ h _=>h) (λc H' kk mc s2 _ hk=>?_) (λys H2 s2 hl2 hys=>?_)
 ·exact⟨_,rfl,c.a,_,_,_,rfl,rfl,SqT.of (s2 _ _ (wl.at' c mc).1),lM (j:=0) rfl,hk _ H' (Same.refl _) rfl⟩
 have ey:=aU (f:=λc:Cp=>V.ref c.t) hys (λz y _ h=>h);rw[ey]at hl2;have s12:=s1.trans s2;have Z2:=Z.same s12;have V2:=Vt.same s12;refine⟨_,rfl,v,rfl,⟨_,SqT.of V2.tup⟩,λp3 hp3=>?_⟩;refine bM (fr:=[some (.ref wh)]) vs (λz=>V.ref z.1) (by omega) hp3 (cb (by rw[aC];exact SqT.of V2.tup)) rfl (λz y H'=>∃x:Addr×List Str,y=.ref x.1∧x.1≠p3∧H' x.1=some (.tup (x.2.map V.str))∧TW.PathTo (nds ws) z.2.num x.2) (λz y H H' ⟨x,e,ne,h,hp⟩ ex=>⟨x,e,ne,ex x.1 _ ne h,hp⟩) (λz H' kk mz s3 hpl hk=>?_) (λys3 H3 s3 hl3 hys3=>?_)
 ·have hz:=hsub z.2 (aP mz);obtain⟨pz,hpz⟩:=TW.PathTo.ex Z.W.tr hz;obtain⟨b1,b2⟩:=Z.num hz;obtain⟨y,hy,ey⟩:=cm hz;refine⟨_,rfl,_,rfl,z.1,_,_,_,rfl,rfl,SqT.of (s3 _ _ (V2.nod z mz)),at0 z.2,wh,z.2.num,ws,pz,rfl,(Z2.same s3).W,b1,b2,⟨y,hy,by rw[ey]⟩,hpz,λc H4 s4 hc=>?_⟩;refine hk _ H4 s4 ⟨(c,pz),rfl,λe=>?_,hc,hpz⟩;obtain⟨zs',hz'⟩:=hpl;have:=s4 _ _ hz';have e':c=p3:=e;rw[←e',hc]at this;cases this
 obtain⟨bs,e1,e2,e3⟩:=bE (val:=λx:Addr×List Str=>V.ref x.1) (S:=λ(z:Addr×Nd) (x:Addr×List Str)=>H3 x.1=some (.tup (x.2.map V.str))∧TW.PathTo (nds ws) z.2.num x.2) hys3 (λz y _ ⟨x,e,_,h,hp⟩=>⟨x,e,h,hp⟩);have hbm:∀b∈bs,b.1∈vs:=λb hb=>by rw[←e1];exact mem_map.mpr ⟨b,hb,rfl⟩
 have hbl:bs.length=vs.length:=by rw[←e1,length_map]
 have hnd:((bs.map (·.2)).map (·.2)).Nodup:=by
  have hn:(vs.map λz=>z.2.num).Nodup:=by have:=bD Vt.tr;unfold nds at this;rw[map_map]at this;exact this
  rw[←e1,map_map]at hn;unfold Nodup at hn⊢;rw[map_map];rw[pairwise_map]at hn⊢;refine hn.imp_of_mem λ{x y} hx hy h e=>h ?_;have h1:=(e3 x hx).2;have h2:=(e3 y hy).2;have e':x.2.2=y.2.2:=e;rw[←e']at h2;exact h1.key Z.W.tr h2
 refine⟨p3,bs.map (·.2),rfl,by rw[hl3,e2,map_map];rfl,λx hx=>?_,hnd,by rw[length_map];omega,λzs' hpm hup l4 hl4=>?_⟩
 ·obtain⟨b,hb,rfl⟩:=mem_map.mp hx;obtain⟨h1,h2⟩:=e3 b hb;refine⟨h1,λe=>?_⟩;obtain⟨q',eq,_⟩:=h2.inv Z.W.tr (hsub b.1.2 (aP (hbm b hb))) rfl;rw[e]at eq;exact absurd eq.symm (by simp)
 have s4:=ae (o:=.lst (zs'.map λz=>V.ref z.1)) hl4;have g4:upd H3 l4 (.lst (zs'.map λz=>V.ref z.1)) l4=some (.lst (zs'.map λz=>V.ref z.1)):=ac;generalize upd H3 l4 (.lst (zs'.map λz=>V.ref z.1))=H4 at s4 g4⊢;have hmem:∀x,x∈cs.map (·.p)↔x∈zs'.map (·.2):=λx=>by
  constructor
  ·intro h;obtain⟨c,hc,rfl⟩:=mem_map.mp h;obtain⟨z,hz,ez,hp⟩:=(wl.mem c.p c.n).mp ⟨c,hc,rfl,rfl⟩;have hz2:=hz;rw[←e1]at hz2;obtain⟨b,hb,eb⟩:=mem_map.mp hz2;have h2:=(e3 b hb).2;rw[eb,ez]at h2;have h3:TW.PathTo (nds ws) c.n c.p:=hp.mono hsub;rw[h3.uniq Z.W.tr h2];exact mem_map.mpr ⟨b.2,hpm.mem_iff.mpr (mem_map.mpr ⟨b,hb,rfl⟩),rfl⟩
  ·intro h;obtain⟨y,hy,rfl⟩:=mem_map.mp h;obtain⟨b,hb,rfl⟩:=mem_map.mp (hpm.mem_iff.mp hy);have h2:=(e3 b hb).2;have hn:=aP (hbm b hb);have hn':=hn;rw[ev]at hn';have h3:=TW.pW Z.W.tr hn' h2;rw[←ev]at h3;obtain⟨c,hc,ec,_⟩:=(wl.mem b.2.2 b.1.2.num).mpr ⟨b.1,hbm b hb,rfl,h3⟩;exact mem_map.mpr ⟨c,hc,ec⟩
 have ep:cs.map (·.p)=zs'.map (·.2):=by
  refine dO (R:=λa b:List Str=>HT.cL a b=true) (λa h=>by rw[HT.dz]at h;cases h) (λa b h1 h2=>by have:=HT.iP h1 h2;rw[HT.dz]at this;cases this) ?_ ?_ hmem
  ·rw[pairwise_map];exact wl.up
  ·rw[pairwise_map];exact hup
 have hc4:∀c∈cs,rV H4 c:=λc hc=>⟨s4 _ _ (s3 _ _ (s2 _ _ (wl.at' c hc).1)),s4 _ _ (s3 _ _ (s2 _ _ (wl.at' c hc).2))⟩;have hd4:∀x∈zs',H4 x.1=some (.tup (x.2.map V.str)):=λx hx=>by
  obtain⟨b,hb,rfl⟩:=mem_map.mp (hpm.mem_iff.mp hx);exact s4 _ _ (e3 b hb).1
 exact .inr ⟨p2,l4,_,_,rfl,rfl,sD ep hc4 hd4,.inl ⟨s4 _ _ (s3 _ _ hl2),g4⟩,q H4⟩
def rg(K:PySem.W.Frag):Sp:=λvs H Q _=>∃(a:Addr) (ns:List Int),vs=[.ref a]∧SqL K H a (ns.map V.int)∧ns.length≤63∧∀H',Q (.bl true) H'
theorem zp:bv jI=[sS 0,sS 1,sS 2,sS 3,sS 4,sS 5,sS 6,sS 7,sS 8,sS 9,sS 10,sS 11,sS 12]:=rfl
theorem zq{f CT:Addr}{fd:FuncData}(F:Fun K "law" "law" jI f fd)(T:Txt mg)(mT:mg "Taken"=some (.ref CT))(hT:ktsIn K CT "BaseException"=true)(hsub:subIn K (.ref CT) (.ref CT)=some true)(CB:Has P w K mg base 3 "_law_tree" ["_law_script","_law_at","_law_most"] (nc K))(CK:Has P w K mg base 1 "_law_book" ["_law_tree_here"] pT)(CP:Has P w K mg base 2 "_law_pick" ["_law_script","_law_k","_law_many"] (ka K))(CS:Has P w K mg base 2 "seen" ["tree","names"] dw)(CN:Has P w K mg base 1 "named" ["tree","name"] iW)(CL:Has P w K mg base 1 "_law_path" ["_law_book_here","_law_number"] uN)(CC:Has P w K mg base 4 "cut_out" ["tree","number"] oO)(CTo:Has P w K mg base 3 "total" ["tree","number"] oJ)(CWo:Has P w K mg base 4 "without" ["tree","number"] uY)(CG:mv P w K mg base 3 "grafted" ["tree","number","other"] (qW CT))(C0:ku P w K mg base 2 "grafted" ["tree","number","other"] oR)(CQ:Has P w K mg base 3 "is_quiet" ["one","other","names"] rc)(CH:Has P w K mg base 3 "change_seen" ["one","other","names"] qZ)(CW:Has P w K mg base 2 "walked" ["tree"] qO)(CPo:Has P w K mg base 2 "path_of" ["tree","number"] nb):FnOk P w K mg base CX0 5 f fd ["_law_script"] (rg K):=by
 have CS':=CS;obtain⟨fB,fdB,GB,mB,kB,bB⟩:=CB;obtain⟨fK,fdK,GK,mK,kK,bK⟩:=CK;obtain⟨fS,fdS,GS,mS,kS,bS⟩:=CS;refine F.ok scS (λvs H Q E h=>?_) (λcdv A outer s H vs Q E hr h=>?_)
 ·obtain⟨a,ns,rfl,_⟩:=h;rfl
 ·obtain⟨a,ns0,rfl,hS0,hn,q⟩:=h;have hS:iz K H a:=⟨ns0,hS0⟩;have hr1:Room 1 _:=hr.mono (by decide);have hr2:Room 2 _:=hr.mono (by decide);have hr3:Room 3 _:=hr.mono (by decide);obtain⟨r0,p0,h0⟩:∃rd,PS (SX P w K mg base f cdv A outer s H E) (sS 0) rd∧∀(D:Ends)(x1 x2 x3 x4 x5 x6 x7 x8 x9 x10 x11 x12:Option V),(∀t o zs os H',Same H H'→Tre H' t zs→Tre H' o os→(∀n∈nds zs,om n)→(∀n∈nds os,om n)→zs.length≤8→os.length≤5→(∀n∈nds zs,n.num≤12)→(∀n∈nds os,n.num≤12) →
    D.nx [some (.ref a),some (.ref t),some (.ref o),x3,x4,x5,x6,x7,x8,x9,x10,x11,x12] H')→rd D [some (.ref a),x1,x2,x3,x4,x5,x6,x7,x8,x9,x10,x11,x12] H:=by
   refine⟨_,uM (i:=1) (j:=2) rfl scS.nd rfl rfl (Or.inl rfl) (Or.inl rfl) rfl rfl (bh (aa (ak GB hr3 rfl mB kB bB .nil au (aa (pv 0) (aa aj (aa aj af)))) (aa (ak GB hr3 rfl mB kB bB .nil au (aa (pv 0) (aa aj (aa aj af)))) af))),?_⟩;intro D x1 x2 x3 x4 x5 x6 x7 x8 x9 x10 x11 x12 q;refine⟨_,rfl,a,0,8,rfl,by decide,by decide,by decide,hS,λt zs H1 ht hA hl hTr hG s1=>?_⟩;refine⟨_,rfl,a,200,5,rfl,by decide,by decide,by decide,hS.same s1,λo os H2 ho hB hl2 hTr2 hG2 s2=>?_⟩;refine⟨le2,λc hc=>?_⟩;have s3:=ae (o:=.tup [.ref t,.ref o]) hc;have pos:∀{xs:ZN},(∀z∈xs,uq z.2)→∀n∈nds xs,1≤n.num:=λh n hn=>by obtain⟨z,hz,rfl⟩:=cm hn;exact(h z hz).1
   have t1:Tre H1 t zs:=⟨ht,hA,⟨hTr,pos hG⟩,by omega⟩;have t2:Tre H2 o os:=⟨ho,hB,⟨hTr2,pos hG2⟩,by omega⟩;refine⟨c,_,_,rfl,SqT.of ac,q t o zs os _ ((s1.trans s2).trans s3) ((t1.same s2).same s3) (t2.same s3) ?_ ?_ (by omega) (by omega) ?_ ?_⟩
   ·exact λn hn=>by obtain⟨z,hz,rfl⟩:=cm hn;exact(hG z hz).ok
   ·exact λn hn=>by obtain⟨z,hz,rfl⟩:=cm hn;exact(hG2 z hz).ok
   ·exact λn hn=>by obtain⟨z,hz,rfl⟩:=cm hn;exact(hG z hz).2.1
   ·exact λn hn=>by obtain⟨z,hz,rfl⟩:=cm hn;exact(hG2 z hz).2.1
  obtain⟨r2,p2,h2⟩:=k2 (outer:=outer) (H0:=H) (E:=E) hr CP;obtain⟨r4,p4,h4⟩:=k4 (outer:=outer) (H0:=H) (E:=E) hr CN;obtain⟨r5,p5,h5⟩:=k5 (outer:=outer) (H0:=H) (E:=E) T hr CL CS' CC CTo CWo;obtain⟨r6,p6,h6⟩:=k6 (outer:=outer) (H0:=H) (E:=E) hr mT hT hsub CG C0;obtain⟨r7,p7,h7⟩:=k7 (P:=P) (w:=w) (K:=K) (base:=base) (outer:=outer) (H0:=H) (E:=E) T hr;obtain⟨r8,p8,h8⟩:=k8 (outer:=outer) (H0:=H) (E:=E) T hr CS';obtain⟨r9,p9,h9⟩:=k9 (outer:=outer) (H0:=H) (E:=E) T hr CS';obtain⟨r10,p10,h10⟩:=k10 (outer:=outer) (H0:=H) (E:=E) hr CQ CH;obtain⟨r12,p12,h12⟩:=k12 (outer:=outer) (H0:=H) (E:=E) T hr CW CPo;obtain⟨r1,p1,h1⟩:∃rd,PS (SX P w K mg base f cdv A outer s H E) (sS 1) rd∧∀(D:Ends)(H1:Hp)(t o:Addr)(zs:ZN)(x3 x4 x5 x6 x7 x8 x9 x10 x11 x12:Option V),Tre H1 t zs→(∀d as H',Same H1 H'→Book H' d as zs→D.nx (sσ a t o d x4 x5 x6 x7 x8 x9 x10 x11 x12) H') →
    rd D [some (.ref a),some (.ref t),some (.ref o),x3,x4,x5,x6,x7,x8,x9,x10,x11,x12] H1 :=
   ⟨_,aA (i:=3) scS.nd rfl (Or.inr rfl) (ak GK hr1 rfl mK kK bK .nil au (aa (pv 1) af)),λD H1 t o zs x3 x4 x5 x6 x7 x8 x9 x10 x11 x12 tr q=>⟨_,rfl,t,zs,rfl,tr,λd as H2 s2 _ bk _=>q d as H2 s2 bk⟩⟩
  obtain⟨r3,p3,h3⟩:∃rd,PS (SX P w K mg base f cdv A outer s H E) (sS 3) rd∧∀(D:Ends)(H1:Hp)(t o d pn:Addr)(zs:ZN)(ns:List Str)(x5 x6 x7 x8 x9 x10 x11 x12:Option V),Tre H1 t zs→H1 pn=some (.lst (ns.map V.str))→(∀m us H',Same H1 H'→Tre H' m us→nds us=TW.aB (qIn ns) (nds zs)→D.nx (sσ a t o d (some (.ref pn)) (some (.ref m)) x6 x7 x8 x9 x10 x11 x12) H') →
    rd D (sσ a t o d (some (.ref pn)) x5 x6 x7 x8 x9 x10 x11 x12) H1 :=
   ⟨_,aA (i:=5) scS.nd rfl (Or.inl rfl) (ak GS hr2 rfl mS kS bS .nil au (aa (pv 1) (aa (pv 4) af))),λD H1 t o d pn zs ns x5 x6 x7 x8 x9 x10 x11 x12 tr hp q=>⟨_,rfl,_,rfl,t,pn,zs,ns,rfl,tr,hp,λm us H2 s2 M e=>q m us H2 s2 M e⟩⟩
  obtain⟨r11,p11,h11⟩:∃rd,PS (SX P w K mg base f cdv A outer s H E) (sS 11) rd∧∀(D:Ends)(H1:Hp)(t o d pn m wh:Addr)(zs:ZN)(ns:List Str)(x6 x7 x8 x10 x11 x12:Option V),Tre H1 wh zs→H1 pn=some (.lst (ns.map V.str))→(∀v us H',Same H1 H'→Tre H' v us→nds us=TW.aB (qIn ns) (nds zs)→D.nx (sσ a t o d (some (.ref pn)) (some (.ref m)) x6 x7 x8 (some (.ref wh)) x10 x11 (some (.ref v))) H') →
    rd D (sσ a t o d (some (.ref pn)) (some (.ref m)) x6 x7 x8 (some (.ref wh)) x10 x11 x12) H1 :=
   ⟨_,aA (i:=12) scS.nd rfl (Or.inl rfl) (ak GS hr2 rfl mS kS bS .nil au (aa (pv 9) (aa (pv 4) af))),λD H1 t o d pn m wh zs ns x6 x7 x8 x10 x11 x12 tr hp q=>⟨_,rfl,_,rfl,wh,pn,zs,ns,rfl,tr,hp,λv us H2 s2 M e=>q v us H2 s2 M e⟩⟩
  rw[zp];generalize sS=st at p0 p1 p2 p3 p4 p5 p6 p7 p8 p9 p10 p11 p12⊢;refine⟨_,ag p0 (ag p1 (ag p2 (ag p3 (ag p4 (ag p5 (ag p6 (ag p7 (ag p8 (ag p9 (ag p10 (ag p11 (am p12)))))))))))),?_⟩;refine h0 _ none none none none none none none none none none none none λt o zs os H1 s1 Tt Oo okz oko bz bo z12 o12=>?_;refine h1 _ H1 t o zs _ _ _ _ _ _ _ _ _ _ Tt λd as H2 s2 bk=>?_;refine h2 _ H2 a t o d _ _ _ _ _ _ _ _ _ ((hS.same s1).same s2) λpn ns H3 s3 hpn=>?_;refine h3 _ H3 t o d pn zs ns _ _ _ _ _ _ _ _ ((Tt.same s2).same s3) hpn λm us H4 s4 M em=>?_;have L:Sn H4 t o d pn m zs os us as ns:=⟨((Tt.same s2).same s3).same s4,((Oo.same s2).same s3).same s4,(bk.same s3).same s4,s4 _ _ hpn,M,okz,oko,em,bz,bo,z12,o12⟩;refine h4 _ H4 a t o d pn m zs os us as ns _ _ _ _ _ _ _ L λx6 H5 s5=>?_;have L5:=L.same s5;refine h5 _ H5 a t o d pn m zs os us as ns _ _ _ _ _ _ _ L5 λx7 x8 H6 s6=>?_;have L6:=L5.same s6;refine h6 _ H6 a t o d pn m zs os us as ns _ _ _ _ _ _ _ L6 λt m wh zs us ws g H7 s7 Z=>?_;refine h7 _ H7 a t o d pn m wh zs os us ws ns g _ _ _ _ _ _ Z λH8 s8=>?_;have Z8:=Z.same s8;refine h8 _ H8 a t o d pn m wh zs os us ws ns g _ _ _ _ _ Z8 λl dn H9 s9 hl hA ed=>?_;have Z9:=Z8.same s9;refine h9 _ H9 a t o d pn m wh l zs os us ws dn ns g _ _ _ _ Z9 hl hA ed λH10 s10=>?_;have Z10:=Z9.same s10;refine h10 _ H10 a t o d pn m wh l zs os us ws dn ns g _ _ _ _ Z10 (s10 _ _ hl) ed λH11 s11=>?_;have Z11:=Z10.same s11;refine h11 _ H11 t o d pn m wh ws ns _ _ _ _ _ _ Z11.W Z11.N λv vs H12 s12 Vt ev=>?_;exact h12 _ H12 a t o d pn m wh v zs os us ws vs ns g _ _ _ _ _ (Z11.same s12) Vt ev λH'=>q H'
end
end TK
namespace TK
open PySem PySem.W PyProof.Rows L2
theorem vm{K:PySem.W.Frag}{h:Heap}{mg:Str→Option Value}{x:Str}{C:Addr}{bB:List Value}{nid:String}(X:K.In h)(hb:mg x=some (.ref C))(q:excIn K C bB nid=true):OwnCls x C bB nid mg h:=by
 have hobj:∃bm N nm q' bs hdct sn sub ab col dd k0 k1 k2 k3 k5 mN,h.get? C=some (excClassObj nm q' C N bs bm hdct sn sub ab col dd k0 k1 k2 k3 k5 nid)∧h.Ns N mN∧mN "__init__"=none∧OwnTail h bB bm:=by
  unfold excIn at q
  split at q
  case h_2=>exact absurd q (by simp)
  case h_1 d0 c0 s0 hK =>
   split at q
   case h_2=>exact absurd q (by simp)
   case h_1 C1 b1 u0 u1 u2 u3 u4 u5 e1 e2 =>
    rw[and_eq_true,and_eq_true,and_eq_true,and_eq_true,and_eq_true]at q;obtain⟨⟨⟨⟨⟨y1,y2⟩,y3⟩,g4⟩,g5⟩,y6⟩:=q;have g1:C1=C:=beq_iff_eq.mp y1;have g2:u4=nid:=beq_iff_eq.mp y2;have g3:c0.hasDel=false:=by simpa using y3
    have g6:nsIn K c0.ns "__init__"=some none:=beq_iff_eq.mp y6;clear y1 y2 y3 y6;cases c0;cases s0;dsimp only at e1 e2 g3 g5 g6;subst g1 g2 g3 e1 e2;exact⟨_,_,_,_,_,_,_,_,_,_,_,_,_,_,_,_,_,X _ _ hK,Heap.Ns.of_isNs (PySem.W.isNs_of_in X g5),PySem.W.nsMap_none_of_in X g5 g6,PySem.W.tail_of_in X g4⟩
 exact⟨hb,hobj⟩
theorem Ba{α:Type}{P:List α→Prop}{us:List α}(hl:us.length=0)(h:P []):P us:=by cases us with|nil=>exact h|cons a r=>cases hl
theorem Aw{α:Type}{P:List α→Prop}{us:List α}(hl:us.length=1)(h:∀a0,P [a0]):P us:=by cases us with|nil=>cases hl|cons a r=>exact Ba (P:=λr=>P (a::r)) (Nat.succ.inj hl) (h a)
theorem Ax{α:Type}{P:List α→Prop}{us:List α}(hl:us.length=2)(h:∀a0 a1,P [a0,a1]):P us:=by cases us with|nil=>cases hl|cons a r=>exact Aw (P:=λr=>P (a::r)) (Nat.succ.inj hl) (h a)
theorem Bb{α:Type}{P:List α→Prop}{us:List α}(hl:us.length=3)(h:∀a0 a1 a2,P [a0,a1,a2]):P us:=by cases us with|nil=>cases hl|cons a r=>exact Ax (P:=λr=>P (a::r)) (Nat.succ.inj hl) (h a)
abbrev gA(K:PySem.W.Frag)(x:Str)(f:Addr):Prop:=nsIn K mainGlobals x=some (some (.ref f))
abbrev gN(K:PySem.W.Frag)(x:Str):Prop:=nsIn K mainGlobals x=some none
theorem fh{P:Program}{w:World}{K:PySem.W.Frag}{mg:Str→Option Value}{base h:Heap}{k:Nat}{x q:Str}{st:Stmt}{f:Addr}{fd:FuncData}{ps:List Str}{sp:Sp}(X:K.In h)(G:h.Ns mainGlobals mg)(F:Fun K x q st f fd)(a:gA K x f)(b:cP K fd ps [])(O:FnOk P w K mg base CX0 k f fd ps sp):Has P w K mg base k x ps sp:=⟨f,fd,O,mg_of X G a,F.kp,b⟩
theorem fhX{P:Program}{w:World}{K:PySem.W.Frag}{mg:Str→Option Value}{base h:Heap}{k:Nat}{x q:Str}{st:Stmt}{f:Addr}{fd:FuncData}{ps:List Str}{sp:Sp}(X:K.In h)(G:h.Ns mainGlobals mg)(F:Fun K x q st f fd)(a:gA K x f)(b:cP K fd ps [])(O:FnOk P w K mg base (CX1 P w) k f fd ps sp):mv P w K mg base k x ps sp:=⟨f,fd,O,mg_of X G a,F.kp,b⟩
theorem fhH{P:Program}{w:World}{K:PySem.W.Frag}{mg:Str→Option Value}{base h:Heap}{k:Nat}{x q:Str}{st:Stmt}{f:Addr}{fd:FuncData}{ps:List Str}{sp:Sp}(X:K.In h)(G:h.Ns mainGlobals mg)(F:Fun K x q st f fd)(a:gA K x f)(b:cP K fd ps [])(O:FnOkH P w K mg base CX0 k f fd ps sp):ku P w K mg base k x ps sp:=⟨f,fd,O,mg_of X G a,F.kp,b⟩
theorem fb1{K:PySem.W.Frag}{x q a0:Str}{st:Stmt}{f:Addr}{fd:FuncData}(F:Fun K x q st f fd)(h:∀(kV doc pm:Value) (an:Option Addr) (cdv ct v0:Value),bindArgs (fnOf x q (dG st) (bv st) (ai st) .none kV doc pm an cdv ct) ⟨[v0],[]⟩=pure (List.zip [a0] [v0]):=by intros;rfl):cP K fd [a0] []:=F.binds λkV doc pm an cdv ct us hl=>Aw (P:=λus=>bindArgs _ ⟨us,[]⟩=pure (List.zip _ us)) hl (h kV doc pm an cdv ct)
theorem fb2{K:PySem.W.Frag}{x q a0 a1:Str}{st:Stmt}{f:Addr}{fd:FuncData}(F:Fun K x q st f fd)(h:∀(kV doc pm:Value) (an:Option Addr) (cdv ct v0 v1:Value),bindArgs (fnOf x q (dG st) (bv st) (ai st) .none kV doc pm an cdv ct) ⟨[v0,v1],[]⟩=pure (List.zip [a0,a1] [v0,v1]):=by intros;rfl):cP K fd [a0,a1] []:=F.binds λkV doc pm an cdv ct us hl=>Ax (P:=λus=>bindArgs _ ⟨us,[]⟩=pure (List.zip _ us)) hl (h kV doc pm an cdv ct)
theorem fb3{K:PySem.W.Frag}{x q a0 a1 a2:Str}{st:Stmt}{f:Addr}{fd:FuncData}(F:Fun K x q st f fd)(h:∀(kV doc pm:Value) (an:Option Addr) (cdv ct v0 v1 v2:Value),bindArgs (fnOf x q (dG st) (bv st) (ai st) .none kV doc pm an cdv ct) ⟨[v0,v1,v2],[]⟩=pure (List.zip [a0,a1,a2] [v0,v1,v2]):=by intros;rfl):cP K fd [a0,a1,a2] []:=F.binds λkV doc pm an cdv ct us hl=>Bb (P:=λus=>bindArgs _ ⟨us,[]⟩=pure (List.zip _ us)) hl (h kV doc pm an cdv ct)
theorem zr{l:PySem.W.OpenLaw}{w:World}{K:PySem.W.Frag}{h:Heap}{mg:Str→Option Value}{fa f1 f2 f3 f4 f5 f6 f7 f8 f9 f10 f11 f12 f13 f14 f15 f16 f17 f18 f19 f20 f21 f22 f23 f24 f25 f26 f27 f28 f29:Addr}(X:K.In h)(G:h.Ns mainGlobals mg)(hfa:mg "law"=some (.ref fa)){d1 d2 d3 d4 d5 d6 d7 d8 d9 d10 d11 d12 d13 d14 d15 d16 d17 d18 d19 d20 d21 d22 d23 d24 d25 d26 d27 d28 d29:FuncData}{t1:Tok}(a1:gA K "have_own_places" f1)(F1:Fun K "have_own_places" "have_own_places" wv f1 d1)(a2:gA K "numbers_inside" f2)(F2:Fun K "numbers_inside" "numbers_inside" yu f2 d2)(a3:gA K "by_number" f3)(F3:Fun K "by_number" "by_number" ww f3 d3)(a4:gA K "node_of" f4)(F4:Fun K "node_of" "node_of" yv f4 d4)(a5:gA K "check_folder" f5)(F5:Fun K "check_folder" "check_folder" wx f5 d5)(a6:gA K "path_up" f6)(F6:Fun K "path_up" "path_up" yw f6 d6)(a7:gA K "path_of" f7)(F7:Fun K "path_of" "path_of" yx f7 d7)(a8:gA K "below" f8)(F8:Fun K "below" "below" yy f8 d8)(a9:gA K "walked" f9)(F9:Fun K "walked" "walked" wy f9 d9)(a10:gA K "greatest_number" f10)(F10:Fun K "greatest_number" "greatest_number" bR f10 d10)(a11:gA K "with_numbers" f11)(F11:Fun K "with_numbers" "with_numbers" be f11 d11)(a12:gA K "parts_by_number" f12)(F12:Fun K "parts_by_number" "parts_by_number" cC f12 d12)(a13:gA K "unlike_entries" f13)(F13:Fun K "unlike_entries" "unlike_entries" cF f13 d13)(a14:gA K "change_between" f14)(F14:Fun K "change_between" "change_between" aS f14 d14)(a15:gA K "seen" f15)(F15:Fun K "seen" "seen" dM f15 d15)(a16:gA K "change_seen" f16)(F16:Fun K "change_seen" "change_seen" dt f16 d16)(a17:gA K "is_quiet" f17)(F17:Fun K "is_quiet" "is_quiet" fu f17 d17)(a18:gA K "inner_numbers" f18)(F18:Fun K "inner_numbers" "inner_numbers" cO f18 d18)(a19:gA K "cut_out" f19)(F19:Fun K "cut_out" "cut_out" eU f19 d19)(a20:gA K "without" f20)(F20:Fun K "without" "without" eV f20 d20)(a21:gA K "grafted" f21)(F21:Fun K "grafted" "grafted" cc f21 d21)(a22:gA K "named" f22)(F22:Fun K "named" "named" iS f22 d22)(a23:gA K "total" f23)(F23:Fun K "total" "total" iT f23 d23)(a24:gA K "_law_cell" f24)(F24:Fun K "_law_cell" "_law_cell" uv f24 d24)(a25:gA K "_law_pick" f25)(F25:Fun K "_law_pick" "_law_pick" uw f25 d25)(a26:gA K "_law_tree" f26)(F26:Fun K "_law_tree" "_law_tree" ic f26 d26)(a27:gA K "_law_book" f27)(F27:Fun K "_law_book" "_law_book" ux f27 d27)(a28:gA K "_law_path" f28)(F28:Fun K "_law_path" "_law_path" pN f28 d28)(a29:gA K "law" f29)(F29:Fun K "law" "law" jI f29 d29)(z1:gN K "isinstance")(z2:gN K "dict")(z3:gN K "len")(z4:gN K "tuple")(z5:gN K "list")(z6:gN K "range")(z7:gN K "sorted")(z8:gN K "reversed")(z9:gN K "ValueError")(z10:gN K "str")(z11:gN K "set")(z12:gN K "max")(z13:gN K "min")(z14:gN K "sum")(z15:gN K "zip")(z16:gN K "enumerate")(z17:gN K "all")(z18:gN K "int")(z19:gN K "bool")(v1t:nsIn K mainGlobals "TOP"=some (some (.int 0 t1))){CN CT:Addr}(xN:nsIn K mainGlobals "NoNode"=some (some (.ref CN)))(qN:excIn K CN bmV "ValueError.__new__"=true)(xT:nsIn K mainGlobals "Taken"=some (some (.ref CT)))(qT:excIn K CT bmV "ValueError.__new__"=true)(gT:ktsIn K CT "BaseException"=true)(sT:subIn K (.ref CT) (.ref CT)=some true):
  ∃fd:FuncData,(∀(s:Shared)(v:Value),BindsTo s fd ⟨[v],[]⟩ [("_law_script",v)])∧∀base:Heap,K.In base→base.Ns mainGlobals mg→FnOk l.prog w K mg base CX0 5 fa fd ["_law_script"] (rg K):=by
 have e:=hfa.symm.trans (mg_of X G a29);cases e;have T:Txt mg:=⟨mg_none_of X G z1,mg_none_of X G z2,mg_none_of X G z3,mg_none_of X G z4,mg_none_of X G z5,mg_none_of X G z6,mg_none_of X G z7,mg_none_of X G z8,mg_none_of X G z9,mg_none_of X G z10,mg_none_of X G z11,mg_none_of X G z12,mg_none_of X G z13,mg_none_of X G z14,mg_none_of X G z15,mg_none_of X G z16,mg_none_of X G z17,mg_none_of X G z18,mg_none_of X G z19,⟨_,mg_of X G v1t⟩⟩;have MT:mg "Taken"=some (.ref CT):=mg_of X G xT;have hb:∀(s:Shared)(v:Value),BindsTo s d29 ⟨[v],[]⟩ [("_law_script",v)]:=by
  obtain⟨_,_,_,_,_,_,_,_,_,e,_,_⟩:=F29.ex;subst e;exact λs v=>.of_eq rfl
 refine⟨d29,hb,λbase KB _=>?_⟩
 let H:=Has l.prog w K mg base
 let HX:=mv l.prog w K mg base
 let HH:=ku l.prog w K mg base
 have ON:qI "NoNode" mg base CN:=vm KB (mg_of X G xN) qN;have OT:qI "Taken" mg base CT:=vm KB MT qT;have C_have_own_places:H 1 "have_own_places" ["nodes"] jV:=fh X G F1 a1 (fb1 F1) (yR F1 T);have C_have_own_places_H:HH 1 "have_own_places" ["nodes"] jV:=fhH X G F1 a1 (fb1 F1) (qQ F1 T);have C_numbers_inside:H 1 "numbers_inside" ["nodes","folder"] jT:=fh X G F2 a2 (fb2 F2) (wM F2 T);have C_by_number:H 1 "by_number" ["tree"] eO:=fh X G F3 a3 (fb1 F3) (yF F3 T);have C_by_number_H:HH 1 "by_number" ["tree"] eO:=fhH X G F3 a3 (fb1 F3) (qJ F3 T);have C_node_of:HX 1 "node_of" ["nodes","number"] (oG CN):=fhX X G F4 a4 (fb2 F4) (yG F4 ON);have C_check_folder:H 2 "check_folder" ["nodes","number"] oH:=fh X G F5 a5 (fb2 F5) (yK F5 T C_node_of);have C_check_folder_H:HH 1 "check_folder" ["nodes","number"] vc:=fhH X G F5 a5 (fb2 F5) (yY F5 T);have C_path_up:H 1 "path_up" ["nodes","number"] qL:=fh X G F6 a6 (fb2 F6) (yJ F6 T);have C_path_of:H 2 "path_of" ["tree","number"] nb:=fh X G F7 a7 (fb2 F7) (wZ F7 C_by_number C_node_of C_path_up);have C_below:HX 2 "below" ["tree","number"] (qK CN):=fhX X G F8 a8 (fb2 F8) (yH F8 T C_by_number C_node_of (AX C_numbers_inside));have C_walked:H 2 "walked" ["tree"] qO:=fh X G F9 a9 (fb1 F9) (yN F9 T C_by_number C_path_up);have C_greatest_number:H 1 "greatest_number" ["tree"] lD:=fh X G F10 a10 (fb1 F10) (yS F10 T);have C_greatest_number_H:HH 1 "greatest_number" ["tree"] lD:=fhH X G F10 a10 (fb1 F10) (qR F10 T);have C_with_numbers:H 1 "with_numbers" ["tree","numbers"] lE:=fh X G F11 a11 (fb2 F11) (yT F11 T);have C_with_numbers_L:H 1 "with_numbers" ["tree","numbers"] pX:=fh X G F11 a11 (fb2 F11) (wV F11 T);have C_with_numbers_H:HH 1 "with_numbers" ["tree","numbers"] lE:=fhH X G F11 a11 (fb2 F11) (qS F11 T);have C_parts_by_number:H 1 "parts_by_number" ["tree"] pY:=fh X G F12 a12 (fb1 F12) (xb F12 T);have C_unlike_entries:H 1 "unlike_entries" ["entries"] qX:=fh X G F13 a13 (fb1 F13) (zd F13 T);have C_change_between:H 2 "change_between" ["one","other"] vd:=fh X G F14 a14 (fb2 F14) (ze F14 T C_parts_by_number C_unlike_entries);have C_seen:H 2 "seen" ["tree","names"] dw:=fh X G F15 a15 (fb2 F15) (xf F15 T C_numbers_inside);have C_change_seen:H 3 "change_seen" ["one","other","names"] qZ:=fh X G F16 a16 (fb3 F16) (zg F16 C_seen C_change_between);have C_is_quiet:H 3 "is_quiet" ["one","other","names"] rc:=fh X G F17 a17 (fb3 F17) (zk F17 C_seen);have C_inner_numbers:H 3 "inner_numbers" ["tree","number"] mV:=fh X G F18 a18 (fb2 F18) (wW F18 T C_by_number C_check_folder C_below);have C_cut_out:H 4 "cut_out" ["tree","number"] oO:=fh X G F19 a19 (fb2 F19) (yV F19 T C_inner_numbers C_with_numbers_L);have C_without:H 4 "without" ["tree","number"] uY:=fh X G F20 a20 (fb2 F20) (Am F20 T C_inner_numbers);have C_grafted:HX 3 "grafted" ["tree","number","other"] (qW CT):=fhX X G F21 a21 (fb3 F21) (wX F21 T OT C_by_number C_check_folder C_greatest_number C_with_numbers C_have_own_places);have C_grafted_H:HH 2 "grafted" ["tree","number","other"] oR:=fhH X G F21 a21 (fb3 F21) (yZ F21 T C_by_number_H C_check_folder_H C_greatest_number_H C_with_numbers_H C_have_own_places_H);have C_named:H 1 "named" ["tree","name"] iW:=fh X G F22 a22 (fb2 F22) (uZ F22);have C_total:H 3 "total" ["tree","number"] oJ:=fh X G F23 a23 (fb2 F23) (yQ F23 T C_by_number C_check_folder C_below);have C__law_cell:H 1 "_law_cell" ["_law_script","_law_k"] (pZ K):=fh X G F24 a24 (fb2 F24) (xg F24 T);have C__law_pick:H 2 "_law_pick" ["_law_script","_law_k","_law_many"] (ka K):=fh X G F25 a25 (fb3 F25) (xh F25 T C__law_cell);have C__law_tree:H 3 "_law_tree" ["_law_script","_law_at","_law_most"] (nc K):=fh X G F26 a26 (fb3 F26) (vi F26 T C__law_pick);have C__law_book:H 1 "_law_book" ["_law_tree_here"] pT:=fh X G F27 a27 (fb1 F27) (wP F27 T);have C__law_path:H 1 "_law_path" ["_law_book_here","_law_number"] uN:=fh X G F28 a28 (fb2 F28) (Ae F28 T);exact zq F29 T MT gT sT C__law_tree C__law_book C__law_pick C_seen C_named C__law_path C_cut_out C_total C_without C_grafted C_grafted_H C_is_quiet C_change_seen C_walked C_path_of
theorem walk{l:PySem.W.OpenLaw}{q:Program}{loose:List Str}{XP:(Str→Option Value)→Heap→Prop}{YP:World→Heap→Prop}{d:DefRec}{K:Params→PySem.W.Frag}(hn:l.most=some 63)(hdf:d.params.defaults=[])(hY:∀(w:World) (h:Heap),YP w h→(K w.params).In h)(F:∀(w:World) (mg:Str→Option Value) (fa:Addr) (h:Heap),(K w.params).In h→h.Ns mainGlobals mg→mg d.name=some (.ref fa) →
   ∃fd:FuncData,(∀(s:Shared) (u:Value),BindsTo s fd ⟨[u],[]⟩ [("_law_script",u)])∧∀base:Heap,(K w.params).In base→base.Ns mainGlobals mg→FnOk l.prog w (K w.params) mg base CX0 5 fa fd ["_law_script"] (rg (K w.params))):
  PySem.W.WalkO q loose XP YP l.row.toRowW d [] (λf vs=>PySem.call f vs) :=
 L2.vH (n:=63) (k:=5) (x:="_law_script") (CX:=λ_=>CX0) (sp:=λw=>rg (K w.params)) hn (by decide) hdf ⟨rfl,by decide,by decide,rfl⟩ hY F (λ_ _ a ns hl _ hS=>⟨a,ns,rfl,hS,hl,λ_=>rfl⟩) λ_ _ _ _ _ z=>z
end TK
end
open PySem PySem.W PyProof.Rows
def PySem.W.Fast.tw5030623527579028319:Unit:=()
def PySem.W.Fast.tw4837266300233181905:Unit:=()
def PySem.W.Fast.tw15526067282867089243:Unit:=()
def PySem.W.Fast.tw7253353509224521302:Unit:=()
def PySem.W.Fast.tw8481447008820707207:Unit:=()
def PySem.W.Fast.tw10464348200869622275:Unit:=()
def PySem.W.Fast.tw16623033835585551108:Unit:=()
def PySem.W.Fast.tw13968324759579698883:Unit:=()
def PySem.W.Fast.tw14181205869642655451:Unit:=()
def PySem.W.Fast.tw2237267921960194614:Unit:=()
def PySem.W.Fast.tw5602452859496889822:Unit:=()
def PySem.W.Fast.tw13394259175751641281:Unit:=()
def PySem.W.Fast.tw2212407111575594365:Unit:=()
def PySem.W.Fast.tw11699722527186683631:Unit:=()
def PySem.W.Fast.tw4138989966163666494:Unit:=()
def PySem.W.Fast.tw6558631404027771143:Unit:=()
def PySem.W.Fast.tw1327231368374422604:Unit:=()
def PySem.W.Fast.tw9087643718399541086:Unit:=()
def PySem.W.Fast.tw13163063350895519128:Unit:=()
def PySem.W.Fast.tw12072548868818751587:Unit:=()
def PySem.W.Fast.tw11996691512671472095:Unit:=()
def PySem.W.Fast.tw9736558774525173658:Unit:=()
def PySem.W.Fast.tw10855641926862181135:Unit:=()
def PySem.W.Fast.tw12542369143275292380:Unit:=()
def PySem.W.Fast.tw11252598637591228893:Unit:=()
def PySem.W.Fast.tw11437148365177440122:Unit:=()
def PySem.W.Fast.tw10438684580296844808:Unit:=()
def PySem.W.Fast.tw12528513340853537034:Unit:=()
def PySem.W.Fast.tw7477256093373143916:Unit:=()
def PySem.W.Fast.tw8594166993386169879:Unit:=()
def PySem.W.Fast.tw5631949130277497043:Unit:=()
def PySem.W.Fast.tw9217611031377354825:Unit:=()
def PySem.W.Fast.tw7128731776815227728:Unit:=()
def PySem.W.Fast.tw14599965712655718290:Unit:=()
def PySem.W.Fast.tw15995532581175122203:Unit:=()
def PySem.W.Fast.tw13634904351692614440:Unit:=()
def PySem.W.Fast.tw3112815964821643411:Unit:=()
def PySem.W.Fast.tw16798393047064413513:Unit:=()
def PySem.W.Fast.tw232813436447516867:Unit:=()
def PySem.W.Fast.tw2232054744399012003:Unit:=()
def PySem.W.Fast.tw7065602248036716905:Unit:=()
def PySem.W.Fast.tw8958760233472058618:Unit:=()
def PySem.W.Fast.tw9493947056077389790:Unit:=()
def PySem.W.Fast.tw5883976703981076852:Unit:=()
def PySem.W.Fast.tw8693493913270016323:Unit:=()
def PySem.W.Fast.tw8360911581877880096:Unit:=()
def PySem.W.Fast.tw12373965963689658469:Unit:=()
def PySem.W.Fast.tw9563575042265220888:Unit:=()
set_option maxRecDepth 100000 in
set_option maxHeartbeats 0 in
theorem PySem.Challenge.cw_treewatch_k14_whole_seen_and_cut_holds : PySem.Challenge.rw_treewatch_k14_whole_seen_and_cut.Holds := by
 w_on; o_law; k_head; (case hw=>w_witness2)
 k_fill
 refine TK.walk (l:=PySem.Challenge.rw_treewatch_k14_whole_seen_and_cut) rfl rfl (λw h Y=>PySem.W.kIn_of Y) ?F
 case F =>
  intro w mg fa h KX G hmg
  refine' TK.zr KX G hmg ?a1 ?F1 ?a2 ?F2 ?a3 ?F3 ?a4 ?F4 ?a5 ?F5 ?a6 ?F6 ?a7 ?F7 ?a8 ?F8 ?a9 ?F9 ?a10 ?F10 ?a11 ?F11 ?a12 ?F12 ?a13 ?F13 ?a14 ?F14 ?a15 ?F15 ?a16 ?F16 ?a17 ?F17 ?a18 ?F18 ?a19 ?F19 ?a20 ?F20 ?a21 ?F21 ?a22 ?F22 ?a23 ?F23 ?a24 ?F24 ?a25 ?F25 ?a26 ?F26 ?a27 ?F27 ?a28 ?F28 ?a29 ?F29 ?z1 ?z2 ?z3 ?z4 ?z5 ?z6 ?z7 ?z8 ?z9 ?z10 ?z11 ?z12 ?z13 ?z14 ?z15 ?z16 ?z17 ?z18 ?z19 ?v1t ?xN ?qN ?xT ?qT ?gT ?sT
  (case a1|a2|a3|a4|a5|a6|a7|a8|a9|a10|a11|a12|a13|a14|a15|a16|a17|a18|a19|a20|a21|a22|a23|a24|a25|a26|a27|a28|a29=>unfold TK.gA; k_is)
  (case F1|F2|F3|F4|F5|F6|F7|F8|F9|F10|F11|F12|F13|F14|F15|F16|F17|F18|F19|F20|F21|F22|F23|F24|F25|F26|F27|F28|F29=>apply L2.xX <;> k_is)
  (case z1|z2|z3|z4|z5|z6|z7|z8|z9|z10|z11|z12|z13|z14|z15|z16|z17|z18|z19=>unfold TK.gN; k_is)
  (case v1t|xN=>k_is)
  (case qN=>k_exc)
  (case xT=>k_is)
  (case qT=>k_exc)
  (case gT=>kts_isx)
  (case sT=>k_is)
