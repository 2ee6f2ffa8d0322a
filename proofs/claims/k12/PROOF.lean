import PyProof.Rows.All
import Wide.All
import OpenK.AllK
import Wide.FinOn
import Lean
import PyProof.EqAt
import PyProof.EqKinds
import PyProof.TupleCall
import PyProof.CompFree
import PySem.SetTable
import PyProof.SetScanFacts
import PyProof.TupleKey
import PyProof.SetKind
import PyProof.IsRules
import PyProof.SetRoads
import PyProof.InstSpecial
import PyProof.Rows.SetFrom
import KE.KSortTup
import PyProof.StrWalks
import PyProof.EnumMake
import PyProof.ConsumeWalk
import PyProof.ListRange
import PyProof.NeKinds
import PyProof.ZipIter
import KE.KTryDeep
import OpenK.KOwn
import PyProof.RulesAs
import PyProof.NsDelKeeps
import PyProof.ExcArgsOwn
import PyProof.ExcAttrAll.ValueError
import KE.KIsAll
import OpenK.KNot
import PyProof.IsiH_list
import PyProof.Rows.FStr
import KE.KDictOf
import PyProof.AttrMissHeap
import PyProof.DictIter
import PyProof.DictWalks
import PyProof.Rows.DictUnroll
import KE.KRevIter
import KE.KDictList
import PyProof.CollectIter
import PyProof.TupleOfGen
import KE.KSortKey
import PyProof.FactsAll.NoneType_1
import PyProof.CompUse
import PyProof.Rows.FStrParts
import KE.KLam
import KE.KMinKey
import KE.KNestM
import PyProof.CallType
import PyProof.WalksEnum
import PyProof.Rows.EnumRows
import PySem.Challenge.RW_treewatch_k12_whole_cut_and_put
set_option Elab.async false
set_option linter.all false
set_option maxRecDepth 100000
set_option maxHeartbeats 8000000
open PySem.W (instObj methodObj hideAll hideAll_size hideAll_get of_hideAll hideAll_none lookIn plainGet mroIn kitOne kia_one kitx_list kitx_dict keepIn callWith_K cellsFrom_some fnOf codeIn codeRec_of kat_cons kat_yes KatTups kat_kind kat_lt kat_no kat_lt_int kat_nil kat_one envX CodeHd kla_obj tabObj codeHdIn codeHd_of_K subIn excIn nsIn mg_of mg_none_of)
open PyProof.Rows (boot_tuple lt_str boot_dict boot_sorted boot_sum boot_isinstance boot_int boot_bool boot_str boot_all boot_max)
open PySem.F (slot_tuple_add entry_tuple_add args_tuple_add_2 slot_dict_pop slot_dict_keyiterator_next called_tuple plainAttrs_list slot_list_pop type_list_pop entry_max_loop plain_max_loop kind_max plain_max entry_max)
open List (mem_filter mem_range filterMap_cons mem_cons_self mem_cons_of_mem mem_cons mem_append mem_append_left getElem_inj getElem?_set_self mem_filterMap mem_append_right size_toArray append_nil nodup_cons of_mem_zip length length_take getElem?_append_right getElem?_append_left getElem?_map take_sublist mem_of_getElem? length_append length_map length_replicate length_drop map_nil map_cons any_cons length_singleton find?_cons length_cons length_nil filter_cons length_filter_le Pairwise forIn_cons forIn_nil all_eq_true pairwise_iff_getElem pairwise_cons mem_iff_getElem mem_map filterMap_cons_none filterMap_cons_some length_range nodup_range append_assoc filter_cons_of_neg filter_cons_of_pos filter_sublist map_map getElem?_eq_getElem getElem_map map_take map_drop getD_eq_getElem?_getD ext_getElem? getElem?_range getElem?_eq_none getElem_mem map_congr_left nodup_nil Nodup mem_singleton not_mem_nil toArray any_map any_eq_true length_eq_zero_iff take_succ map_append take_length not_lt pairwise_map filter_map Sublist nodup_append nil_append lookup_cons take_of_length_le all_map map_eq_nil_iff)
open Nat (lt_of_lt_of_le lt_irrefl ne_of_lt le_trans le_of_lt ne_of_gt le_refl zero_le le_succ lt_trans lt_of_le_of_lt lt_succ_of_lt zero_add mod_lt lt_or_ge le_add_right min_eq_left)
open Array (length_toList toList getElem?_toList getD_eq_getD_getElem? toList_inj replicate)
open Option (map_some isSome_map)
open Bool (and_eq_true or_eq_true false_eq_true)
open Int (toNat_natCast emod_nonneg)
open PySem.Heap (lt_size SameBut get?_push_of_some get?_push_size size_push ExtBut IsTuple FlyingW)
open PySem.Calls (Constant_str spliced_nil spliced_cons evalArgs_plain)
open PySem.SeqAt (EqAt eq_listAt RcNeAt)
open PySem.Value (float type builtin)
open PySem (boot_len)
open PySem.Str (empty ofString)
open Ne (symm)
noncomputable section
namespace L2
open PySem PySem.Spec PyProof.Rows
abbrev Key:=Sum Int Str
def jB:Key→Value→Bool
 |.inl k,v=>Value.isInt k v
 |.inr x,v=>Value.isStrOf x v
def zo(w:World):Key→Int
 |.inl k=>hashInt k
 |.inr x=>hashStr w x
theorem aX:∀{k:Key}{v:Value},jB k v=true→(∃i t,k=Sum.inl i∧v=Value.int i t)∨(∃x t,k=Sum.inr x∧v=Value.str x t)
 |.inl i,v,h=>by
  obtain⟨t,e⟩:=Value.isInt_shape (k:=i) (v:=v) h;exact .inl ⟨i,t,rfl,e⟩
 |.inr x,v,h=>by
  obtain⟨t,e⟩:=Value.isStrOf_shape (x:=x) (v:=v) h;exact .inr ⟨x,t,rfl,e⟩
theorem pR(i:Int)(t:Tok):jB (.inl i) (.int i t)=true:=by simp[jB,Value.isInt]
theorem pS(x:Str)(t:Tok):jB (.inr x) (.str x t)=true:=by simp[jB,Value.isStrOf]
theorem wt(a b:Int):decide ((Sum.inl a:Key)=Sum.inl b)=(a==b):=by
 by_cases e:a=b
 ·subst e;simp
 ·have h:¬(Sum.inl a:Key)=Sum.inl b:=λq=>e (Sum.inl.inj q);rw[decide_eq_false h];exact(beq_eq_false_iff_ne.mpr e).symm
theorem wu(a b:Str):decide ((Sum.inr a:Key)=Sum.inr b)=decide (a=b):=by
 by_cases e:a=b
 ·subst e;simp
 ·have h:¬(Sum.inr a:Key)=Sum.inr b:=λq=>e (Sum.inr.inj q);rw[decide_eq_false h,decide_eq_false e]
theorem wv(a:Int)(b:Str):decide ((Sum.inl a:Key)=Sum.inr b)=false:=decide_eq_false (λq=>nomatch q)
theorem ww(a:Str)(b:Int):decide ((Sum.inr a:Key)=Sum.inl b)=false:=decide_eq_false (λq=>nomatch q)
def aE(prog:Program)(w:World):PySem.KeyKind prog w Key where
 is:=jB
 hash:=zo w
 inj:=λv a b ha hb=>by
  rcases aX ha with⟨i,t,rfl,rfl⟩|⟨x,t,rfl,rfl⟩
  ·rcases aX hb with⟨j,u,rfl,e⟩|⟨y,u,rfl,e⟩
   ·injection e with e1 _;rw[e1]
   ·exact nomatch e
  ·rcases aX hb with⟨j,u,rfl,e⟩|⟨y,u,rfl,e⟩
   ·exact nomatch e
   ·injection e with e1 _;rw[e1]
 byValue:=λk v h=>by
  rcases aX h with⟨i,t,rfl,rfl⟩|⟨x,t,rfl,rfl⟩<;>rfl
 pyHash:=λhv h=>by
  rcases aX hv with⟨i,t,rfl,rfl⟩|⟨x,t,rfl,rfl⟩
  ·exact wpAny_pyHash_int h
  ·exact wpAny_pyHash_str h
 eqBool:=λhu hv h=>by
  rcases aX hu with⟨i,t,rfl,rfl⟩|⟨x,t,rfl,rfl⟩
  ·rcases aX hv with⟨j,u,rfl,rfl⟩|⟨y,u,rfl,rfl⟩
   ·rw[wt]at h;exact wpAny_eqBool_int h
   ·rw[wv]at h;exact EqAt.int_str i t y u _ _ _ _ h
  ·rcases aX hv with⟨j,u,rfl,rfl⟩|⟨y,u,rfl,rfl⟩
   ·rw[ww]at h;exact EqAt.str_int x t j u _ _ _ _ h
   ·rw[wu]at h;exact wpAny_eqBool_str h
 «strs»:=λk x t v h=>by
  rcases aX h with⟨i,u,rfl,e⟩|⟨y,u,rfl,e⟩
  ·exact nomatch e
  ·injection e with e1 _
   subst e1;cases v<;>rfl
theorem lr(prog:Program)(w:World)(i:Int)(t:Tok):(aE prog w).is (.inl i) (.int i t)=true:=pR i t
theorem ls(prog:Program)(w:World)(x:Str)(t:Tok):(aE prog w).is (.inr x) (.str x t)=true:=pS x t
inductive V where
 |non|bl (b:Bool)|int (i:Int)|str (x:Str)|byt (b:Array UInt8)|flt (b:UInt64)|ref (a:Addr)|ty (n:String)
 deriving DecidableEq
def aJ:V→Value→Prop
 |.non,u=>u=Value.none
 |.bl b,u=>u=Value.bool b
 |.int i,u=>∃t,u=Value.int i t
 |.str x,u=>∃t,u=Value.str x t
 |.byt b,u=>∃t,u=Value.bytes b t
 |.flt b,u=>∃t,u=float b t
 |.ref a,u=>u=Value.ref a
 |.ty n,u=>u=type n
abbrev ax:List V→List Value→Prop:=Paired aJ
theorem ax.length{xs:List V}{us:List Value}(r:ax xs us):xs.length=us.length:=Paired.length r
theorem ax.get:∀{xs:List V}{us:List Value}{i:Nat}{x:V},ax xs us→xs[i]?=some x→∃u,us[i]?=some u∧aJ x u
 |_,_,_,_,.nil,e=>by simp at e
 |_,_,0,_,.cons r _,e=>by simp at e;subst e;exact⟨_,rfl,r⟩
 |_,_,i+1,x,.cons _ t,e=>by
  obtain⟨u,h1,h2⟩:=ax.get (i:=i) (x:=x) t (by simpa using e);exact⟨u,by simpa using h1,h2⟩
theorem ax.append:∀{xs ys:List V}{us ws:List Value},ax xs us→ax ys ws→ax (xs++ys) (us++ws)
 |_,_,_,_,.nil,s=>s
 |_,_,_,_,.cons r t,s=>.cons r (ax.append t s)
theorem ax.take:∀{xs:List V}{us:List Value}(n:Nat),ax xs us→ax (xs.take n) (us.take n)
 |_,_,0,_=>.nil
 |_,_,_+1,.nil=>.nil
 |_,_,n+1,.cons r t=>.cons r (ax.take n t)
theorem ax.drop:∀{xs:List V}{us:List Value}(n:Nat),ax xs us→ax (xs.drop n) (us.drop n)
 |_,_,0,r=>r
 |_,_,_+1,.nil=>.nil
 |_,_,n+1,.cons _ t=>ax.drop n t
def fu:Option V→Option Value→Prop
 |some v,some u=>aJ v u
 |none,none=>True
 |_,_=>False
def KV{κ:Type}:List (κ×V)→List (κ×Value)→Prop:=Paired λ(p:κ×V) (q:κ×Value)=>p.1=q.1∧aJ p.2 q.2
def kV:Key→V
 |.inl i=>.int i
 |.inr x=>.str x
inductive HO where
 |lst (xs:List V)
 |tup (xs:List V)
 |dK (kvs:List (Key×V))|dT (kvs:List (List Key×V))
 |set (S:Int→Bool) (n:Nat)
 |ins (C dx:Addr) (fs:List (Str×V))
 |own (x:Addr)
 |xd (fs:List (Str×V))
 |met (f x:Addr)
 |rng (lo hi:Int)
 |frz (o:Obj) (u:HO)
 |tbl (ps:Array Value)
 |ext (φ:Heap→Prop)
abbrev Hp:=Addr→Option HO
def upd(H:Hp)(a:Addr)(o:HO):Hp:=λb=>if b=a then some o else H b
theorem ac{H:Hp}{a:Addr}{o:HO}:upd H a o a=some o:=by unfold upd;rw[if_pos rfl]
theorem ai{H:Hp}{a b:Addr}{o:HO}(h:b≠a):upd H a o b=H b:=by unfold upd;rw[if_neg h]
theorem yg{H:Hp}{a b:Addr}{o u:HO}(h:H a=some o)(h':H b=some u)(d:o≠u):a≠b:=by
 intro e;subst e;rw[h]at h';exact d (Option.some.inj h')
theorem aT{H:Hp}{a b:Addr}{o:HO}(h:H a=some o)(h':H b=none):a≠b:=by
 intro e;subst e;rw[h]at h';cases h'
section
variable(P:Program)(w:World)
def bd(H:Hp)(h:Heap)(a:Addr):HO→Prop
 |.lst xs=>xs.length≤sizeLine∧∃(its:List Value) (n:Nat),ax xs its∧h.get? a=some {cls:=.type "list",data:=.seq its.toArray n}
 |.tup xs=>xs.length≤sizeLine∧∃its:List Value,ax xs its∧IsTup h a its.toArray
 |.dK kvs=>kvs.length≤sizeLine∧(a==sysModules)=false∧∃vs,KV kvs vs∧h.DictOf (aE P w) a vs
 |.dT kvs=>kvs.length≤sizeLine∧(a==sysModules)=false∧∃xs:List (List Key×Addr×Value),
   Paired (λ(p:List Key×V) (q:List Key×Addr×Value)=>p.1=q.1∧H q.2.1=some (.tup (p.1.map kV))∧aJ p.2 q.2.2) kvs xs ∧
   ∃o es ep,h.get? a=some o∧o.ExactDict∧o.data=.dict es ep∧es.toList=xs.map (entryOfKey (tupleKind (aE P w)))∧(xs.map (·.1)).Nodup
 |.set S n=>h.SetOf (intKind P w) a S n
 |.ins C dx fs=>H dx=some (.own a)∧fs.length≤1000∧dx≠a∧h.get? a=some (instObj C dx) ∧
   ∃mA,h.Ns1 dx mA∧(∀f,fu (fs.lookup f) (mA f))∧PySem.Within mA (fs.map (·.1))
 |.own _=>∃o,h.get? a=some o
 |.xd fs=>∃mA,h.Ns1 a mA∧∀f,fu (fs.lookup f) (mA f)
 |.rng lo hi=>∃t u v,h.get? a=some {cls:=.type "range",data:=.fields #[.int lo t,.int hi u,.int 1 v]}
 |.frz o u=>h.get? a=some o∧bd H h a u
 |.tbl ps=>h.get? a=some {cls:=.none,data:=.fields ps}
 |.met f x=>h.get? a=some (methodObj (.ref f) (.ref x))
 |.ext φ=>φ h∧(∃o,h.get? a=some o)∧∀h1 h2:Heap,φ h1→(∀o,h1.get? a=some o→h2.get? a=some o)→φ h2
def HOk(H:Hp)(h:Heap):Prop:=∀a o,H a=some o→bd P w H h a o
end
section
variable{P:Program}{w:World}{H H':Hp}{h h':Heap}{a:Addr}{o:HO}
theorem bd.lt(x:bd P w H h a o):a<h.objs.size:=by
 cases o with
 |lst xs=>obtain⟨_,_,_,_,e⟩:=x;exact lt_size e
 |tup xs=>obtain⟨_,_,_,p⟩:=x;exact p.lt
 |dK kvs=>obtain⟨_,_,_,_,o,_,_,e,_⟩:=x;exact lt_size e
 |dT kvs=>obtain⟨_,_,_,_,o,_,_,e,_⟩:=x;exact lt_size e
 |set S n=>obtain⟨o,_,_,_,e,_⟩:=x;exact lt_size e
 |ins C dx fs=>obtain⟨_,_,_,e,_⟩:=x;exact lt_size e
 |own y=>obtain⟨_,e⟩:=x;exact lt_size e
 |xd fs=>obtain⟨_,⟨_,_,_,e,_⟩,_⟩:=x;exact lt_size e
 |rng lo hi=>obtain⟨_,_,_,e⟩:=x;exact lt_size e
 |frz ob u=>obtain⟨e,_⟩:=x;exact lt_size e
 |tbl ps=>exact lt_size (show h.get? a=some _ from x)
 |met f y=>exact lt_size (show h.get? a=some _ from x)
 |ext φ=>obtain⟨_,⟨_,e⟩,_⟩:=x;exact lt_size e
theorem Paired.mapP{α β:Type}{F G:α→β→Prop}:∀{l₁:List α}{l₂:List β},Paired F l₁ l₂→(∀a b,F a b→G a b)→Paired G l₁ l₂
 |_,_,.nil,_=>.nil
 |_,_,.cons r t,f=>.cons (f _ _ r) (Paired.mapP t f)
theorem bd.stay(x:bd P w H h a o)(k:∀b u,(b=a∨H b=some (.own a))→h.get? b=some u→h'.get? b=some u)(ho:∀b,H b=some (.own a)→H' b=some (.own a))(ht:∀b xs,H b=some (.tup xs)→H' b=some (.tup xs)):bd P w H' h' a o:=by
 induction o with
 |lst xs=>obtain⟨z,its,n,r,e⟩:=x;exact⟨z,its,n,r,k _ _ (.inl rfl) e⟩
 |tup xs=>obtain⟨z,its,r,ob,e,c⟩:=x;exact⟨z,its,r,ob,k _ _ (.inl rfl) e,c⟩
 |dK kvs=>obtain⟨z,y,vs,r,ob,es,ep,e,c⟩:=x;exact⟨z,y,vs,r,ob,es,ep,k _ _ (.inl rfl) e,c⟩
 |dT kvs =>
  obtain⟨z,y,xs,r,ob,es,ep,e,c⟩:=x;exact⟨z,y,xs,Paired.mapP r λp q z=>⟨z.1,ht _ _ z.2.1,z.2.2⟩,ob,es,ep,k _ _ (.inl rfl) e,c⟩
 |set S n=>obtain⟨ob,es,ep,t,e,c⟩:=x;exact⟨ob,es,ep,t,k _ _ (.inl rfl) e,c⟩
 |ins C dx fs =>
  obtain⟨d,z,ne,e,mA,⟨od,es,ep,e2,c⟩,r⟩:=x;exact⟨ho _ d,z,ne,k _ _ (.inl rfl) e,mA,⟨od,es,ep,k _ _ (.inr d) e2,c⟩,r⟩
 |own y=>obtain⟨ob,e⟩:=x;exact⟨ob,k _ _ (.inl rfl) e⟩
 |xd fs=>obtain⟨mA,⟨od,es,ep,e,c⟩,r⟩:=x;exact⟨mA,⟨od,es,ep,k _ _ (.inl rfl) e,c⟩,r⟩
 |rng lo hi=>obtain⟨t,u,v,e⟩:=x;exact⟨t,u,v,k _ _ (.inl rfl) e⟩
 |frz ob u ih=>obtain⟨e,q⟩:=x;exact⟨k _ _ (.inl rfl) e,ih q⟩
 |tbl ps =>
  have e:h.get? a=some {cls:=.none,data:=.fields ps}:=x;show h'.get? a=some {cls:=.none,data:=.fields ps};exact k a _ (.inl rfl) e
 |met f y =>
  have e:h.get? a=some (methodObj (.ref f) (.ref y)):=x;show h'.get? a=some (methodObj (.ref f) (.ref y));exact k a _ (.inl rfl) e
 |ext φ=>obtain⟨p,⟨o,e⟩,st⟩:=x;exact⟨st _ _ p λo q=>k _ _ (.inl rfl) q,⟨o,k _ _ (.inl rfl) e⟩,st⟩
theorem HOk.lt(x:HOk P w H h)(e:H a=some o):a<h.objs.size:=(x a o e).lt
theorem HOk.fresh(x:HOk P w H h)(e:h.objs.size≤a):H a=none:=by
 cases q:H a with
 |none=>rfl
 |some u=>exact absurd (lt_of_lt_of_le (x.lt q) e) (lt_irrefl _)
theorem HOk.kept(x:HOk P w H h)(k:∀b u,h.get? b=some u→h'.get? b=some u):HOk P w H h':=λa o e =>
 (x a o e).stay (λb u _ q=>k b u q) (λ_ q=>q) λ_ _ q=>q
theorem HOk.laid(x:HOk P w H h)(k:∀b u,h.get? b=some u→h'.get? b=some u)(hp:h.objs.size≤a)(new:bd P w (upd H a o) h' a o):HOk P w (upd H a o) h':=λb u e=>by
 have hn:=x.fresh hp
 by_cases hb:b=a
 ·subst hb;rw[ac]at e;cases e;exact new
 ·rw[ai hb]at e;exact(x b u e).stay (λc v _ q=>k c v q) (λc q=>by rw[ai (aT q hn)];exact q) λc xs q=>by rw[ai (aT q hn)];exact q
end
def Rd(H:Hp)(a:Addr)(u:HO):Prop:=H a=some u∨∃o,H a=some (.frz o u)
theorem Rd.of{H:Hp}{a:Addr}{u:HO}(h:H a=some u):Rd H a u:=.inl h
theorem Rd.ok{P:Program}{w:World}{H:Hp}{h:Heap}{a:Addr}{u:HO}(r:Rd H a u)(x:HOk P w H h):bd P w H h a u:=by
 rcases r with r|⟨o,r⟩
 ·exact x a u r
 ·obtain⟨_,q⟩:=x a _ r;exact q
def Mut:Option HO→Prop
 |some (.lst _)=>True
 |some (.dK _)=>True
 |some (.dT _)=>True
 |some (.set _ _)=>True
 |some (.ins _ _ _)=>True
 |some (.ext _)=>True
 |_=>False
section
variable{P:Program}{w:World}{H:Hp}{h h':Heap}{x e:Addr}{o':HO}
theorem HOk.write(ok:HOk P w H h)(mu:Mut (H x))(he:e=x∨H e=some (.own x))(k:∀b u,b≠e→h.get? b=some u→h'.get? b=some u)(heo:∃u,h'.get? e=some u)(new:bd P w (upd H x o') h' x o'):HOk P w (upd H x o') h':=λb u q=>by
 have nown:∀c y,H c=some (.own y)→c≠x:=λc y r z=>by subst z;rw[r]at mu;exact mu
 have ntup:∀c xs,H c=some (.tup xs)→c≠x:=λc xs r z=>by subst z;rw[r]at mu;exact mu
 by_cases hb:b=x
 ·subst hb;rw[ac]at q;cases q;exact new
 ·rw[ai hb]at q
  by_cases hbe:b=e
  ·have q':H b=some (.own x):=by
    rcases he with z|z
    ·exact absurd (hbe.trans z) hb
    ·rw[hbe];exact z
   rw[q]at q';cases q';obtain⟨v,hv⟩:=heo;exact⟨v,by rw[hbe];exact hv⟩
  ·refine(ok b u q).stay (λc v hc r=>k c v ?_ r) (λc r=>by rw[ai (nown c b r)];exact r) λc xs r=>by rw[ai (ntup c xs r)];exact r
   rcases hc with rfl|hc
   ·exact hbe
   ·rintro rfl;rcases he with z|z
    ·exact nown c b hc z
    ·rw[hc]at z;cases z;exact hb rfl
end
structure Un(fs ex:List Addr)(H H':Hp)(h h':Heap):Prop where
 keep:∀b o,h.get? b=some o→H b=none→b∉fs→b∉ex→h'.get? b=some o
 slot:∀b o,h.get? b=some o→H b=none→b∈fs→b∉ex→∃sl,h'.get? b=some {o with slots:=sl}
 free:∀b o,h.get? b=some o→H b=none→b∉ex→H' b=none
 there:∀b o,h.get? b=some o→b∉ex→∃o',h'.get? b=some o'
 tups:∀b xs,H b=some (.tup xs)→H' b=some (.tup xs)
 frzs:∀b o u,H b=some (.frz o u)→H' b=some (.frz o u)
 tbls:∀b ps,H b=some (.tbl ps)→∃more,H' b=some (.tbl (ps++more))
section
variable{fs fs' ex ex':List Addr}{H H1 H2:Hp}{h h1 h2 h':Heap}{a x e:Addr}{o:HO}
theorem Un.any(u:Un fs ex H H1 h h1){b:Addr}{ob:Obj}(q:h.get? b=some ob)(n:H b=none)(hx:b∉ex):∃sl,h1.get? b=some {ob with slots:=sl}:=by
 by_cases hb:b∈fs
 ·exact u.slot b ob q n hb hx
 ·exact⟨ob.slots,u.keep b ob q n hb hx⟩
theorem Un.kept(k:∀b u,h.get? b=some u→h'.get? b=some u):Un fs ex H H h h' :=
 ⟨λb ob q _ _ _=>k b ob q,λb ob q _ _ _=>⟨ob.slots,k b ob q⟩,λ_ _ _ n _=>n,λb ob q _=>⟨ob,k b ob q⟩,λ_ _ q=>q,λ_ _ _ q=>q,λ_ ps q=>⟨#[],by rw[q];simp⟩⟩
theorem Un.refl:Un fs ex H H h h:=Un.kept λ_ _ q=>q
theorem Un.laid(k:∀b u,h.get? b=some u→h'.get? b=some u)(hp:h.objs.size≤a)(hn:H a=none):Un fs ex H (upd H a o) h h' where
 keep:=λb u q _ _ _=>k b u q
 slot:=λb u q _ _ _=>⟨u.slots,k b u q⟩
 free:=λb u q n _=>by rw[ai (ne_of_lt (lt_of_lt_of_le (lt_size q) hp))];exact n
 there:=λb u q _=>⟨u,k b u q⟩
 tups:=λb xs q=>by rw[ai (aT q hn)];exact q
 frzs:=λb u xs q=>by rw[ai (aT q hn)];exact q
 tbls:=λb ps q=>⟨#[],by rw[ai (aT q hn),q];simp⟩
theorem Un.write(mu:Mut (H x))(he:e=x∨H e=some (.own x))(k:∀b u,b≠e→h.get? b=some u→h'.get? b=some u)(heo:∃u,h'.get? e=some u):Un fs ex H (upd H x o) h h':=by
 have hx:∀b,H b=none→b≠x:=λb n z=>by subst z;rw[n]at mu;exact mu
 have hb:∀b,H b=none→b≠e:=λb n z=>by
  subst z;rcases he with r|r
  ·exact hx b n r
  ·rw[n]at r;cases r
 have hm:∀b u,H b=some u→¬Mut (some u)→b≠x:=λb u q nm z=>by subst z;rw[q]at mu;exact nm mu
 refine⟨λb u q n _ _=>k b u (hb b n) q,λb u q n _ _=>⟨u.slots,k b u (hb b n) q⟩,λb u q n _=>by rw[ai (hx b n)];exact n,λb u q _=>?_,
  λb xs q=>by rw[ai (hm b _ q λz=>z)];exact q,λb u xs q=>by rw[ai (hm b _ q λz=>z)];exact q,λb ps q=>⟨#[],by rw[ai (hm b _ q λz=>z),q];simp⟩⟩
 by_cases hbe:b=e
 ·subst hbe;exact heo
 ·exact⟨u,k b u hbe q⟩
end
def trk(h:Heap)(H:Hp):List Addr:=(List.range h.objs.size).filter λa=>(H a).isSome
def jt(h:Heap)(H:Hp):Heap:=hideAll h (trk h H)
theorem pT(h:Heap)(H:Hp):(jt h H).objs.size=h.objs.size:=hideAll_size _ _
theorem qZ{h:Heap}{H:Hp}{b:Addr}{o:Obj}(e:h.get? b=some o)(n:H b=none):(jt h H).get? b=some o :=
 hideAll_get _ e λhm=>by
  have q:(H b).isSome=true:=(mem_filter.mp hm).2;rw[n]at q;simp at q
theorem uo{h:Heap}{H:Hp}{b:Addr}{o:Obj}(e:(jt h H).get? b=some o):h.get? b=some o∧H b=none:=by
 have e':h.get? b=some o:=of_hideAll (trk h H) e;refine⟨e',?_⟩;cases q:H b with
 |none=>rfl
 |some x =>
  have hm:b∈trk h H:=mem_filter.mpr ⟨mem_range.mpr (lt_size e'),by simp[q]⟩;have z:(jt h H).get? b=none:=hideAll_none (trk h H) hm;rw[z]at e;cases e
structure Mod(K:PySem.W.Frag)(mg:Str→Option Value)(base:Heap):Prop where
 kin:K.In base
 glob:base.Ns mainGlobals mg
 blt:∃mb,base.Ns builtinsNs mb∧∀x:Str,x≠"__name__"→mb x=bootBuiltins x
 nolimit:base.NoLimit
structure Cx where
 prog:Program
 w:World
 K:PySem.W.Frag
 mg:Str→Option Value
 base:Heap
 A:Around
 N:List Str
 s₀:Shared
 H₀:Hp
 env:Env
 outer:List Env
 stack:List Env
 ex:List Addr
 fn:Str→Bool
 calm:Bool
 pn:List (Addr×Obj)
 xe:Value→Shared→Prop
def frs(l:List Env):List Addr:=l.filterMap (·.frame)
abbrev Cx.fs(X:Cx):List Addr:=frs X.outer
def Vis(sc:Scope)(x:Str):Prop:=sc.names.lookup x=some .local∨sc.names.lookup x=some .cell∨sc.names.lookup x=some .free
def Loc(sc:Scope)(x:Str):Prop:=sc.names.lookup x=some .local∨sc.names.lookup x=some .cell
def zp(env:Env)(h:Heap)(m:Str→Option Value)(x:Str)(u:Value):Prop :=
 (env.kindOf x=some .local∧m x=some u)∨((env.kindOf x=some .cell∨env.kindOf x=some .free)∧∃c,env.cells.lookup x=some c∧h.IsCell c (some u))
structure Cx.Ok(X:Cx):Prop where
 mod:Mod X.K X.mg X.base
 kind:X.env.scope.kind=.function
 glob:X.env.globals=mainGlobals
 blt:X.env.builtins=builtinsNs
 above:X.s₀.heap.objs.size≤X.env.locals
 inj:∀x y c,X.env.cells.lookup x=some c→X.env.cells.lookup y=some c→x=y
 has:∀x,(X.env.kindOf x=some .cell∨X.env.kindOf x=some .free)→∃c,X.env.cells.lookup x=some c
 cab:∀x c,X.fn x=true→X.env.cells.lookup x=some c→X.s₀.heap.objs.size≤c
 hd:X.calm=true→X.A.handled=none
 frames:X.A.frames=some X.stack
 stk:X.stack=X.outer∨(X.stack=X.env::X.outer∧X.env.frame=some X.env.locals)
 exf:∀b∈X.ex,b≠X.env.locals∧∀x c,X.env.cells.lookup x=some c→c≠b
 bs:∀b o,X.base.get? b=some o→X.s₀.heap.get? b=some o∧X.H₀ b=none
 bsz:X.base.objs.size≤X.s₀.heap.objs.size
 noex:∀b o,X.base.get? b=some o→b∉X.ex
 exfs:∀b∈X.ex,b∉X.fs
 funs:X.s₀.heap.FunFrames X.base X.outer
 frf:∀b∈X.fs,X.H₀ b=none
structure Inv(X:Cx)(pins:List (Addr×Obj))(σ:List (Option V))(H:Hp)(s:Shared):Prop where
 ok:X.Ok
 os:s.os=X.s₀.os
 bare:AllBare s.gens
 base:Un X.fs X.ex X.H₀ H X.s₀.heap s.heap
 loc:∃m,s.heap.Ns X.env.locals m∧∀(i:Nat)(x:Str)(v:V),X.N[i]?=some x→σ[i]?=some (some v)→Vis X.env.scope x→∃u,aJ v u∧zp X.env s.heap m x u
 cell:∀x c,X.env.cells.lookup x=some c→∃v,s.heap.IsCell c v
 free:H X.env.locals=none
 freeC:∀x c,X.env.cells.lookup x=some c→H c=none
 pin:∀p∈X.pn++pins,s.heap.get? p.1=some p.2∧H p.1=none∧p.1≠X.env.locals∧p.1∉X.fs∧∀v,p.2.data≠.cell v
 hok:HOk X.prog X.w H s.heap
 len:σ.length=X.N.length
section
variable{X:Cx}{pins:List (Addr×Obj)}{σ:List (Option V)}{H H':Hp}{s:Shared}{h':Heap}
theorem Cx.Ok.nofr(ok:X.Ok){b:Addr}{o:Obj}(e:X.base.get? b=some o):b∉X.fs:=λhb=>by
 have:=(ok.funs.mem hb).1;rw[e]at this;cases this
theorem Inv.bs(I:Inv X pins σ H s):∀b o,X.base.get? b=some o→s.heap.get? b=some o∧H b=none:=λb o e =>
 ⟨I.base.keep b o (I.ok.bs b o e).1 (I.ok.bs b o e).2 (I.ok.nofr e) (I.ok.noex b o e),I.base.free b o (I.ok.bs b o e).1 (I.ok.bs b o e).2 (I.ok.noex b o e)⟩
theorem Inv.bk(I:Inv X pins σ H s):∀b o,X.base.get? b=some o→s.heap.get? b=some o:=λb o e=>(I.bs b o e).1
theorem Inv.mod(I:Inv X pins σ H s):Mod X.K X.mg X.base:=I.ok.mod
theorem Inv.kIn(I:Inv X pins σ H s):X.K.In s.heap:=I.ok.mod.kin.keeps I.bk
theorem Inv.lt(I:Inv X pins σ H s):X.env.locals<s.heap.objs.size:=let⟨_,hn,_⟩:=I.loc;hn.lt
theorem Inv.sz(I:Inv X pins σ H s):X.s₀.heap.objs.size≤s.heap.objs.size:=le_trans I.ok.above (le_of_lt I.lt)
theorem Inv.nofs(I:Inv X pins σ H s){a:Addr}(h:s.heap.objs.size≤a):a∉X.fs:=λhb=>by
 obtain⟨_,o,ho,_⟩:=I.ok.funs.mem hb;exact absurd (lt_of_lt_of_le (lt_size ho) (le_trans I.sz h)) (lt_irrefl _)
theorem Inv.cne(I:Inv X pins σ H s):∀x c,X.env.cells.lookup x=some c→c≠X.env.locals:=λx c e z=>by
 obtain⟨v,o,ho,hd⟩:=I.cell x c e;obtain⟨m,⟨o',es,ep,ho',hd',_⟩,_⟩:=I.loc;rw[z,ho']at ho;cases ho;rw[hd']at hd;cases hd
theorem Inv.funs(I:Inv X pins σ H s):s.heap.FunFrames X.base X.outer:=by
 have all:∀(l:List Env),(∀b∈frs l,b∈X.fs)→X.s₀.heap.FunFrames X.base l→s.heap.FunFrames X.base l:=by
  intro l
  induction l with
  |nil=>intro _ _;trivial
  |cons env r ih =>
   intro hs hl;obtain⟨hk,⟨L,o,hf,hn,ho,hd⟩,hr⟩:=hl;have hL:L∈X.fs:=hs L (by unfold frs;rw[filterMap_cons,hf];exact mem_cons_self);obtain⟨sl,e⟩:=I.base.slot L o ho (I.ok.frf L hL) hL λz=>I.ok.exfs L z hL;exact⟨hk,⟨L,_,hf,hn,e,hd⟩,ih (λb hb=>hs b (by unfold frs;rw[filterMap_cons,hf];exact mem_cons_of_mem _ hb)) hr⟩
 exact all X.outer (λ_ hb=>hb) I.ok.funs
theorem Inv.stack(I:Inv X pins σ H s):s.heap.FunFrames X.base X.stack:=by
 rcases I.ok.stk with e|⟨e,hf⟩
 ·rw[e];exact I.funs
 ·rw[e];obtain⟨m,hn,_⟩:=I.loc;refine .cons (by rw[I.ok.kind];decide) hf hn ?_ I.funs;exact Heap.get?_none_of_le (le_trans I.ok.bsz I.ok.above)
theorem Inv.stkSub(I:Inv X pins σ H s):∀b∈frs X.stack,b∈X.env.locals::X.fs:=λb hb=>by
 rcases I.ok.stk with e|⟨e,hf⟩
 ·rw[e]at hb;exact mem_cons_of_mem _ hb
 ·rw[e]at hb;unfold frs at hb;rw[filterMap_cons,hf]at hb;exact hb
theorem Inv.stkFree(I:Inv X pins σ H s):∀b∈frs X.stack,H b=none:=λb hb=>by
 rcases mem_cons.mp (I.stkSub b hb)with e|hb
 ·rw[e];exact I.free
 ·obtain⟨_,o,ho,_⟩:=I.ok.funs.mem hb;exact I.base.free b o ho (I.ok.frf b hb) λz=>I.ok.exfs b z hb
theorem Inv.step{g':Array GenState}{t':Nat}{d':Drawn}{ch:List Addr}(I:Inv X pins σ H s)(hch:∀b∈ch,(b∈X.ex∨X.s₀.heap.objs.size≤b)∧b≠X.env.locals∧(∀x c,X.env.cells.lookup x=some c→c≠b)∧∀p∈X.pn++pins,p.1≠b)(keep:∀b o,b≠X.env.locals→b∉X.fs→b∉ch→s.heap.get? b=some o→H b=none→h'.get? b=some o)(slot:∀b o,b≠X.env.locals→b∈X.fs→b∉ch→s.heap.get? b=some o→H b=none→∃sl,h'.get? b=some {o with slots:=sl})(free:∀b o,b∉ch→s.heap.get? b=some o→H b=none→H' b=none)(there:∀b o,b∉ch→s.heap.get? b=some o→∃o',h'.get? b=some o')(tups:∀b xs,H b=some (.tup xs)→H' b=some (.tup xs))(frzs:∀b o u,H b=some (.frz o u)→H' b=some (.frz o u))(tbls:∀b ps,H b=some (.tbl ps)→∃more,H' b=some (.tbl (ps++more)))(ns:∀m,s.heap.Ns X.env.locals m→h'.Ns X.env.locals m)(hok:HOk X.prog X.w H' h')(hg:AllBare g'):
  Inv X pins σ H' {s with heap:=h',gens:=g',drawn:=d',toks:=t'}:=by
 have neL:∀b o,X.s₀.heap.get? b=some o→b≠X.env.locals:=λb o e=>ne_of_lt (lt_of_lt_of_le (lt_size e) I.ok.above);have neC:∀b o,X.s₀.heap.get? b=some o→b∉X.ex→b∉ch:=λb o e hx hb=>by
  rcases (hch b hb).1 with z|z
  ·exact hx z
  ·exact absurd (lt_of_lt_of_le (lt_size e) z) (lt_irrefl _)
 have cellK:∀x c,X.env.cells.lookup x=some c→∀v,s.heap.IsCell c v→h'.IsCell c v:=λx c e v ⟨o,ho,hd⟩=>by
  have nch:c∉ch:=λz=>(hch c z).2.2.1 x c e rfl
  by_cases hc:c∈X.fs
  ·obtain⟨sl,q⟩:=slot c o (I.cne x c e) hc nch ho (I.freeC x c e);exact⟨_,q,hd⟩
  ·exact⟨o,keep c o (I.cne x c e) hc nch ho (I.freeC x c e),hd⟩
 refine⟨I.ok,I.os,hg,⟨λb o e n hb hx=>?_,λb o e n hb hx=>?_,λb o e n hx=>?_,λb o e hx=>?_,λb xs e=>tups b xs (I.base.tups b xs e),λb o xs e=>frzs b o xs (I.base.frzs b o xs e),λb ps e=>?_⟩,?_,λx c e=>?_,?_,λx c e=>?_,λp hp=>?_,hok,I.len⟩
 ·exact keep b o (neL b o e) hb (neC b o e hx) (I.base.keep b o e n hb hx) (I.base.free b o e n hx)
 ·obtain⟨sl,e1⟩:=I.base.slot b o e n hb hx;obtain⟨sl',e2⟩:=slot b _ (neL b o e) hb (neC b o e hx) e1 (I.base.free b o e n hx);exact⟨sl',e2⟩
 ·obtain⟨o',e1⟩:=I.base.there b o e hx;exact free b o' (neC b o e hx) e1 (I.base.free b o e n hx)
 ·obtain⟨o',e1⟩:=I.base.there b o e hx;exact there b o' (neC b o e hx) e1
 ·obtain⟨m1,e1⟩:=I.base.tbls b ps e;obtain⟨m2,e2⟩:=tbls b _ e1;exact⟨m1++m2,by rw[e2,Array.append_assoc]⟩
 ·obtain⟨m,hn,hl⟩:=I.loc;refine⟨m,ns m hn,λi x v e1 e2 e3=>?_⟩;obtain⟨u,r,l⟩:=hl i x v e1 e2 e3;refine⟨u,r,?_⟩;rcases l with l|⟨k,c,e,z⟩
  ·exact .inl l
  ·exact .inr ⟨k,c,e,cellK x c e _ z⟩
 ·obtain⟨v,z⟩:=I.cell x c e;exact⟨v,cellK x c e v z⟩
 ·obtain⟨m,⟨o,_,_,ho,_⟩,_⟩:=I.loc;exact free _ o (λz=>(hch _ z).2.1 rfl) ho I.free
 ·obtain⟨v,o,ho,hd⟩:=I.cell x c e;exact free c o (λz=>(hch c z).2.2.1 x c e rfl) ho (I.freeC x c e)
 ·obtain⟨e,n,ne,nf,d⟩:=I.pin p hp;have nch:p.1∉ch:=λz=>(hch p.1 z).2.2.2 p hp rfl;exact⟨keep p.1 p.2 ne nf nch e n,free p.1 p.2 nch e n,ne,nf,d⟩
theorem Inv.un{t':Nat}(I:Inv X pins σ H s)(u:Un X.fs [] H H' s.heap h')(hok:HOk X.prog X.w H' h'):Inv X pins σ H' {s with heap:=h',toks:=t'}:=by
 obtain⟨m,⟨o,es,ep,ho,r⟩,_⟩:=id I.loc;obtain⟨sl,hL⟩:=u.any ho I.free (by simp);exact I.step (g':=s.gens) (d':=s.drawn) (ch:=[]) (λ_ z=>nomatch z) (λb o _ hb _ e n=>u.keep b o e n hb (by simp)) (λb o _ hb _ e n=>u.slot b o e n hb (by simp)) (λb o _ e n=>u.free b o e n (by simp)) (λb o _ e=>u.there b o e (by simp)) u.tups u.frzs u.tbls (λm' hm=>by
  obtain⟨o',es',ep',ho',r'⟩:=hm;rw[ho]at ho';cases ho';exact⟨_,es',ep',hL,r'⟩) hok I.bare
theorem Inv.call{g':Array GenState}{t':Nat}{d':Drawn}{ch:List Addr}(I:Inv X pins σ H s)(u:Un (frs X.stack) ch H H' s.heap h')(hok:HOk X.prog X.w H' h')(hg:AllBare g')(hch:∀b∈ch,(b∈X.ex∨X.s₀.heap.objs.size≤b)∧b≠X.env.locals∧(∀x c,X.env.cells.lookup x=some c→c≠b)∧∀p∈X.pn++pins,p.1≠b):
  Inv X pins σ H' {s with heap:=h',gens:=g',drawn:=d',toks:=t'}:=by
 obtain⟨m,⟨o,es,ep,ho,r⟩,_⟩:=id I.loc;obtain⟨sl,hL⟩:=u.any ho I.free λz=>(hch _ z).2.1 rfl;exact I.step (ch:=ch) hch (λb o hL hb hc e n=>u.keep b o e n (λz=>(mem_cons.mp (I.stkSub b z)).elim hL hb) hc) (λb o _ _ hc e n=>u.any e n hc) (λb o hc e n=>u.free b o e n hc) (λb o hc e=>u.there b o e hc) u.tups u.frzs u.tbls (λm' hm=>by
  obtain⟨o',es',ep',ho',r'⟩:=hm;rw[ho]at ho';cases ho';exact⟨_,es',ep',hL,r'⟩) hok hg
theorem Inv.turned{t':Nat}{it:Addr}(I:Inv X pins σ H s)(k:∀b o,b≠it→s.heap.get? b=some o→h'.get? b=some o)(hn:H it=none)(hL:it≠X.env.locals)(h1:it∈X.ex∨X.s₀.heap.objs.size≤it)(h2:∀x c,X.env.cells.lookup x=some c→c≠it)(h3:∀p∈X.pn++pins,p.1≠it):Inv X pins σ H {s with heap:=h',toks:=t'}:=by
 have nit:∀b u,H b=some u→b≠it:=λb u e z=>by rw[z,hn]at e;cases e
 refine I.step (g':=s.gens) (d':=s.drawn) (ch:=[it]) (λb hb=>?_) (λb o _ _ hc e _=>k b o (λz=>hc (by simp[z])) e) (λb o _ _ hc e _=>⟨o.slots,k b o (λz=>hc (by simp[z])) e⟩) (λ_ _ _ _ n=>n)
  (λb o hc e=>⟨o,k b o (λz=>hc (by simp[z])) e⟩) (λ_ _ e=>e) (λ_ _ _ e=>e) (λb ps e=>⟨#[],by rw[e];simp⟩) (λm hm=>?_) (λb u e=>?_) I.bare
 ·have e:b=it:=by simpa using hb
  subst e;exact⟨h1,hL,h2,h3⟩
 ·obtain⟨o,es,ep,ho,r⟩:=hm;exact⟨o,es,ep,k _ o (symm hL) ho,r⟩
 ·refine(I.hok b u e).stay (λc v hc q=>k c v ?_ q) (λ_ q=>q) λ_ _ q=>q;rcases hc with z|z
  ·rw[z];exact nit b u e
  ·exact nit c _ z
theorem Inv.tok(I:Inv X pins σ H s)(t:Nat):Inv X pins σ H {s with toks:=t}:=I.un (h':=s.heap) (t':=t) Un.refl I.hok
theorem Inv.kept{t':Nat}(I:Inv X pins σ H s)(k:∀b u,s.heap.get? b=some u→h'.get? b=some u):Inv X pins σ H {s with heap:=h',toks:=t'}:=I.un (Un.kept k) (I.hok.kept k)
theorem Inv.laid{a:Addr}{o:HO}{t':Nat}(I:Inv X pins σ H s)(k:∀b u,s.heap.get? b=some u→h'.get? b=some u)(hp:s.heap.objs.size≤a)(new:bd X.prog X.w (upd H a o) h' a o):
  Inv X pins σ (upd H a o) {s with heap:=h',toks:=t'}:=I.un (Un.laid k hp (I.hok.fresh hp)) (I.hok.laid k hp new)
theorem Inv.write{x e:Addr}{o:HO}{t':Nat}(I:Inv X pins σ H s)(mu:Mut (H x))(he:e=x∨H e=some (.own x))(k:∀b u,b≠e→s.heap.get? b=some u→h'.get? b=some u)(heo:∃u,h'.get? e=some u)(new:bd X.prog X.w (upd H x o) h' x o):Inv X pins σ (upd H x o) {s with heap:=h',toks:=t'}:=I.un (Un.write mu he k heo) (I.hok.write mu he k heo new)
theorem Inv.pins_of{pins':List (Addr×Obj)}(I:Inv X pins σ H s)(h:∀p∈pins',s.heap.get? p.1=some p.2∧H p.1=none∧p.1≠X.env.locals∧p.1∉X.fs∧∀v,p.2.data≠.cell v):Inv X pins' σ H s :=
 ⟨I.ok,I.os,I.bare,I.base,I.loc,I.cell,I.free,I.freeC,λp hp=>(mem_append.mp hp).elim (λz=>I.pin p (mem_append_left _ z)) (h p),I.hok,I.len⟩
theorem iF{N:List Str}(hN:N.Nodup){i j:Nat}{x:Str}(a:N[i]?=some x)(b:N[j]?=some x):i=j:=by
 obtain⟨h1,e1⟩:=List.getElem?_eq_some_iff.mp a;obtain⟨h2,e2⟩:=List.getElem?_eq_some_iff.mp b;exact(getElem_inj hN).mp (e1.trans e2.symm)
theorem gQ{M:Model}{A:Around}{E:Value→Shared→Prop}{i:Nat}{x:Str}{v:V}{u:Value}{Q:Unit→Shared→Prop}(I:Inv X pins σ H s)(hN:X.N.Nodup)(hi:X.N[i]?=some x)(hx:Loc X.env.scope x)(r:aJ v u)(h:∀s',Inv X pins (σ.set i (some v)) H s'→(∃a,SameBut a s.heap s'.heap∧(a=X.env.locals∨X.env.cells.lookup x=some a))→Q () s')(hf:X.fn x=true∨X.env.scope.names.lookup x=some .local:=by first|exact .inl rfl|exact .inr rfl|assumption):wpAny M A (storeName X.env x u) Q E s:=by
 obtain⟨m,hn,hl⟩:=id I.loc;have hcls:(X.env.scope.kind==.class||(X.env.scope.kind==.module&&X.env.locals != X.env.globals))=false:=by rw[I.ok.kind];rfl
 have hiσ:i<σ.length:=by rw[I.len];exact(List.getElem?_eq_some_iff.mp hi).1
 have cne:=I.cne;have tracked:∀{a:Addr}{h':Heap},(∃o,s.heap.get? a=some o∧H a=none)→SameBut a s.heap h'→HOk X.prog X.w H h':=λ{a h'} ha hs b ob e=>by
  obtain⟨_,_,hfree⟩:=ha;refine(I.hok b ob e).stay (λc w' hc q=>(hs.2 c ?_).trans q) (λ_ q=>q) λ_ _ q=>q;rintro rfl;rcases hc with rfl|hc
  ·rw[hfree]at e;cases e
  ·rw[hfree]at hc;cases hc
 rcases hx with hk|hk
 ·refine wpAny_storeName_local hk hn (λh' hn' hs=>?_) hcls;obtain⟨oL,_,_,hoL,_⟩:=id hn;refine h _ ⟨I.ok,I.os,I.bare,⟨λb o e n hb hx=>?_,λb o e n hb hx=>?_,I.base.free,λb o e hx=>?_,I.base.tups,I.base.frzs,I.base.tbls⟩,⟨_,hn',λj y v' e1 e2 e3=>?_⟩,λy c e=>?_,I.free,I.freeC,λp hp=>?_,tracked ⟨oL,hoL,I.free⟩ hs,by simpa using I.len⟩ ⟨_,hs,.inl rfl⟩
  ·exact(hs.2 b (ne_of_lt (lt_of_lt_of_le (lt_size e) I.ok.above))).trans (I.base.keep b o e n hb hx)
  ·obtain⟨sl,e1⟩:=I.base.slot b o e n hb hx;exact⟨sl,(hs.2 b (ne_of_lt (lt_of_lt_of_le (lt_size e) I.ok.above))).trans e1⟩
  ·obtain⟨o',e1⟩:=I.base.there b o e hx;exact⟨o',(hs.2 b (ne_of_lt (lt_of_lt_of_le (lt_size e) I.ok.above))).trans e1⟩
  ·by_cases hj:j=i
   ·subst hj;rw[hi]at e1;cases e1;rw[getElem?_set_self hiσ]at e2;cases e2;exact⟨u,r,.inl ⟨hk,by simp⟩⟩
   ·rw[List.getElem?_set_ne (symm hj)]at e2;obtain⟨u',r',q⟩:=hl j y v' e1 e2 e3;refine⟨u',r',?_⟩;rcases q with⟨k,e⟩|⟨k,c,e,z⟩
    ·refine .inl ⟨k,?_⟩;have:y≠x:=λe=>hj (iF hN e1 (e ▸ hi));simp[this,e]
    ·exact .inr ⟨k,c,e,z.sameBut hs (cne y c e)⟩
  ·obtain⟨w',z⟩:=I.cell y c e;exact⟨w',z.sameBut hs (cne y c e)⟩
  ·obtain⟨e,n,ne,nf,d⟩:=I.pin p hp;exact⟨(hs.2 p.1 ne).trans e,n,ne,nf,d⟩
 ·have hfn:X.fn x=true:=by
   rcases hf with z|z
   ·exact z
   ·rw[z]at hk;cases hk
  obtain⟨c,hc⟩:=I.ok.has x (.inl hk);obtain⟨w',z⟩:=I.cell x c hc;refine wpAny_storeName_cell I.ok.kind hk hc z (λh' hc' hs=>?_);obtain⟨oc,hoc,hocd⟩:=id z;refine h {s with heap:=h'} ⟨I.ok,I.os,I.bare,⟨λb o e n hb hx=>?_,λb o e n hb hx=>?_,I.base.free,λb o e hx=>?_,I.base.tups,I.base.frzs,I.base.tbls⟩,⟨m,hn.sameBut hs (symm (cne x c hc)),λj y v' e1 e2 e3=>?_⟩,λy c' e=>?_,I.free,I.freeC,λp hp=>?_,tracked ⟨oc,hoc,I.freeC x c hc⟩ hs,by simpa using I.len⟩ ⟨c,hs,.inr hc⟩
  ·exact(hs.2 b (ne_of_lt (lt_of_lt_of_le (lt_size e) (I.ok.cab x c hfn hc)))).trans (I.base.keep b o e n hb hx)
  ·obtain⟨sl,e1⟩:=I.base.slot b o e n hb hx;exact⟨sl,(hs.2 b (ne_of_lt (lt_of_lt_of_le (lt_size e) (I.ok.cab x c hfn hc)))).trans e1⟩
  ·obtain⟨o',e1⟩:=I.base.there b o e hx;exact⟨o',(hs.2 b (ne_of_lt (lt_of_lt_of_le (lt_size e) (I.ok.cab x c hfn hc)))).trans e1⟩
  ·by_cases hj:j=i
   ·subst hj;rw[hi]at e1;cases e1;rw[getElem?_set_self hiσ]at e2;cases e2;exact⟨u,r,.inr ⟨.inl hk,c,hc,hc'⟩⟩
   ·rw[List.getElem?_set_ne (symm hj)]at e2;obtain⟨u',r',q⟩:=hl j y v' e1 e2 e3;refine⟨u',r',?_⟩;rcases q with q|⟨k,c',e,z'⟩
    ·exact .inl q
    ·refine .inr ⟨k,c',e,z'.sameBut hs ?_⟩;rintro rfl;exact hj (iF hN e1 (I.ok.inj _ _ _ e hc ▸ hi))
  ·by_cases hcc:c'=c
   ·subst hcc;exact⟨_,hc'⟩
   ·obtain⟨w2,z2⟩:=I.cell y c' e;exact⟨w2,z2.sameBut hs hcc⟩
  ·obtain⟨e,n,ne,nf,d⟩:=I.pin p hp;refine⟨(hs.2 p.1 ?_).trans e,n,ne,nf,d⟩;intro q;rw[q,hoc]at e;have q':oc=p.2:=Option.some.inj e;exact d w' (by rw[←q'];exact hocd)
theorem iG{M:Model}{A:Around}{E:Value→Shared→Prop}{i:Nat}{x:Str}{v:V}{u:Value}{Q:Unit→Shared→Prop}(I:Inv X pins σ H s)(hN:X.N.Nodup)(hi:X.N[i]?=some x)(hx:Loc X.env.scope x)(r:aJ v u)(h:∀s',Inv X pins (σ.set i (some v)) H s'→Q () s')(hf:X.fn x=true∨X.env.scope.names.lookup x=some .local:=by first|exact .inl rfl|exact .inr rfl|assumption):wpAny M A (storeName X.env x u) Q E s :=
 gQ I hN hi hx r (λs' I' _=>h s' I') hf
theorem Inv.call'{s':Shared}{ch:List Addr}(I:Inv X pins σ H s)(ho:s'.os=s.os)(u:Un (frs X.stack) ch H H' s.heap s'.heap)(hok:HOk X.prog X.w H' s'.heap)(hg:AllBare s'.gens)(hch:∀b∈ch,(b∈X.ex∨X.s₀.heap.objs.size≤b)∧b≠X.env.locals∧(∀x c,X.env.cells.lookup x=some c→c≠b)∧∀p∈X.pn++pins,p.1≠b):Inv X pins σ H' s':=by
 obtain⟨h',g',d',t',o'⟩:=s';have e:o'=s.os:=ho;subst e;exact I.call (g':=g') (t':=t') (d':=d') u hok hg hch
end
abbrev XK:=Value→Option Addr→Hp→Prop
abbrev St:=List (Option V)
abbrev VK:=V→Hp→Prop
abbrev TE:=St→Hp→VK→Prop
abbrev TT:=St→Hp→(Bool→Hp→Prop)→Prop
abbrev TA:=St→Hp→(List V→Hp→Prop)→Prop
structure Ends where
 nx:St→Hp→Prop
 rt:VK
 bk:St→Hp→Prop:=λ_ _=>False
 ct:St→Hp→Prop:=λ_ _=>False
abbrev TS:=Ends→St→Hp→Prop
def EP(X:Cx)(pins:List (Addr×Obj))(σ:St)(Q:VK)(u:Value)(s':Shared):Prop:=∃v H',Inv X pins σ H' s'∧aJ v u∧Q v H'
def TP(X:Cx)(pins:List (Addr×Obj))(σ:St)(Q:Bool→Hp→Prop)(b:Bool)(s':Shared):Prop:=∃H',Inv X pins σ H' s'∧Q b H'
def AP(X:Cx)(pins:List (Addr×Obj))(σ:St)(Q:List V→Hp→Prop)(us:List Value)(s':Shared):Prop:=∃vs H',Inv X pins σ H' s'∧ax vs us∧Q vs H'
def SP(X:Cx)(pins:List (Addr×Obj))(D:Ends)(f:Flow)(s':Shared):Prop :=
 match f with
 |.next=>∃σ' H',Inv X pins σ' H' s'∧D.nx σ' H'
 |.brk=>∃σ' H',Inv X pins σ' H' s'∧D.bk σ' H'
 |.cont=>∃σ' H',Inv X pins σ' H' s'∧D.ct σ' H'
 |.ret u=>∃v σ' H',Inv X pins σ' H' s'∧aJ v u∧D.rt v H'
def PE(X:Cx)(e:Expr)(t:TE):Prop :=
 ∀(pins:List (Addr×Obj))(s:Shared)(σ:St)(H:Hp)(Q:VK),Inv X pins σ H s→t σ H Q→wpAny (model X.prog X.w) X.A (eval e X.env) (EP X pins σ Q) X.xe s
def PT(X:Cx)(e:Expr)(t:TT):Prop :=
 ∀(pins:List (Addr×Obj))(s:Shared)(σ:St)(H:Hp)(Q:Bool→Hp→Prop),Inv X pins σ H s→t σ H Q→wpAny (model X.prog X.w) X.A (isTrue e X.env (eval e X.env)) (TP X pins σ Q) X.xe s
def PW(X:Cx)(e:Expr)(t:TT):Prop :=
 ∀(whole:Sem Value)(pins:List (Addr×Obj))(s:Shared)(σ:St)(H:Hp)(Q:Bool→Hp→Prop),Inv X pins σ H s→t σ H Q→wpAny (model X.prog X.w) X.A (isTrue e X.env whole) (TP X pins σ Q) X.xe s
theorem PW.pt{X:Cx}{e:Expr}{t:TT}(h:PW X e t):PT X e t:=h _
def PA(X:Cx)(es:List Expr)(t:TA):Prop :=
 ∀(pos:Pos)(pins:List (Addr×Obj))(s:Shared)(σ:St)(H:Hp)(Q:List V→Hp→Prop),Inv X pins σ H s→t σ H Q→wpAny (model X.prog X.w) X.A (spliced (backTo pos (starEach es X.env))) (AP X pins σ Q) X.xe s
def PS(X:Cx)(st:Stmt)(t:TS):Prop :=
 ∀(pins:List (Addr×Obj))(s:Shared)(σ:St)(H:Hp)(D:Ends),Inv X pins σ H s→t D σ H→wpAny (model X.prog X.w) X.A (exec st X.env) (SP X pins D) X.xe s
def PSs(X:Cx)(st:List Stmt)(t:TS):Prop :=
 ∀(pins:List (Addr×Obj))(s:Shared)(σ:St)(H:Hp)(D:Ends),Inv X pins σ H s→t D σ H→wpAny (model X.prog X.w) X.A (execs st X.env) (SP X pins D) X.xe s
theorem thn{α:Type}{t:Sem α}{Q Q':α→Shared→Prop}{M:Model}{A:Around}{E:Value→Shared→Prop}{s:Shared}(h:wpAny M A t Q E s)(hQ:∀a s,Q a s→Q' a s):wpAny M A t Q' E s:=wpAny_mono h hQ λ_ _ x=>x
section
variable{X:Cx}
def pU(i:Nat):TE:=λσ H Q=>∃v,σ[i]?=some (some v)∧Q v H
def tC(v:V):TE:=λ_ H Q=>Q v H
theorem wx{i:Nat}{x:Str}{pos:Pos}(hN:X.N[i]?=some x)(hv:Vis X.env.scope x)(hd:(x==("__debug__":Str))=false:=by decide)(hcd:(x==("__classdict__":Str))=false:=by decide):PE X (.Name x pos) (pU i):=by
 intro pins s σ H Q I h;obtain⟨v,e,h⟩:=h;obtain⟨m,hn,hl⟩:=I.loc;obtain⟨u,r,l⟩:=hl i x v hN e hv;have fin:EP X pins σ Q u s:=⟨v,H,I,r,h⟩;rcases l with⟨hk,hm⟩|⟨hk,c,hc,hcell⟩
 ·exact wpAny_Name (wpAny_loadName_local I.ok.kind hk hn hm fin) hd
 ·rcases hk with hk|hk
  ·exact wpAny_Name (wpAny_loadName_cell I.ok.kind hk hc hcell fin) hd
  ·exact wpAny_Name (wpAny_loadName_free I.ok.kind hk hc hcell fin hcd) hd
theorem aj{i j pos}:PE X (.Constant (.int i) j pos) (tC (.int i)):=λ_ _ _ H _ I h=>wpAny_Constant_int ⟨.int i,H,I.tok _,⟨_,rfl⟩,h⟩
theorem cq{b j pos}:PE X (.Constant (.bool b) j pos) (tC (.bl b)):=λ_ _ _ H _ I h=>Constant_bool ⟨.bl b,H,I,rfl,h⟩
theorem fw{j pos}:PE X (.Constant .none j pos) (tC .non):=λ_ _ _ H _ I h=>Constant_none ⟨.non,H,I,rfl,h⟩
theorem bA{x j pos}:PE X (.Constant (.str x) j pos) (tC (.str x)):=λ_ _ _ H _ I h=>Constant_str ⟨.str x,H,I.tok _,⟨_,rfl⟩,h⟩
def Gl(X:Cx)(x:Str):Prop:=X.env.kindOf x=some .globalImplicit
theorem fX{E:Value→Shared→Prop}{pins:List (Addr×Obj)}{s:Shared}{σ:St}{H:Hp}{x:Str}{u:Value}{pos:Pos}{Q:Value→Shared→Prop}(I:Inv X pins σ H s)(hg:Gl X x)(hm:X.mg x=some u)(h:Q u s)(hd:(x==("__debug__":Str))=false:=by decide):wpAny (model X.prog X.w) X.A (eval (.Name x pos) X.env) Q E s :=
 Calls.Name_function_global I.ok.kind hg (Calls.loadGlobal_global (by rw[I.ok.glob];exact I.mod.glob.keeps I.bk) hm h) hd
theorem dJ{E:Value→Shared→Prop}{pins:List (Addr×Obj)}{s:Shared}{σ:St}{H:Hp}{x:Str}{u:Value}{pos:Pos}{Q:Value→Shared→Prop}(I:Inv X pins σ H s)(hg:Gl X x)(hm:X.mg x=none)(hv:bootBuiltins x=some u)(h:Q u s)(hn:x≠"__name__":=by decide)(hd:(x==("__debug__":Str))=false:=by decide):wpAny (model X.prog X.w) X.A (eval (.Name x pos) X.env) Q E s:=by
 obtain⟨mb,h1,h2⟩:=I.mod.blt;exact Calls.Name_function_global I.ok.kind hg (Calls.loadGlobal_builtin (by rw[I.ok.glob];exact I.mod.glob.keeps I.bk) hm (by rw[I.ok.blt];exact h1.keeps I.bk) ((h2 x hn).trans hv) h) hd
theorem aU{x:Str}{v:V}{u:Value}{pos:Pos}(hg:Gl X x)(hm:X.mg x=some u)(r:aJ v u)(hd:(x==("__debug__":Str))=false:=by decide):PE X (.Name x pos) (tC v) :=
 λ_ _ _ H _ I h=>fX I hg hm ⟨v,H,I,r,h⟩ hd
theorem eT{x:Str}{v:V}{u:Value}{pos:Pos}(hg:Gl X x)(hm:X.mg x=none)(hv:bootBuiltins x=some u)(r:aJ v u)(hn:x≠"__name__":=by decide)(hd:(x==("__debug__":Str))=false:=by decide):PE X (.Name x pos) (tC v) :=
 λ_ _ _ H _ I h=>dJ I hg hm hv ⟨v,H,I,r,h⟩ hn hd
variable{a b:Expr}{ta tb:TE}{pos:Pos}
def PC(X:Cx)(op:CmpOp)(a b:Expr)(t:TE):Prop :=
 ∀(pins:List (Addr×Obj))(s:Shared)(σ:St)(H:Hp)(Q:VK),Inv X pins σ H s→t σ H Q →
  wpAny (model X.prog X.w) X.A (eval a X.env) (λv s₁=>wpAny (model X.prog X.w) X.A (eval b X.env) (λu s₂=>wpAny (model X.prog X.w) X.A (compareOp op v u) (EP X pins σ Q) X.xe s₂) X.xe s₁) X.xe s
def tB(t:TE):TT:=λσ H Q=>t σ H λx H1=>∃c,x=.bl c∧Q c H1
theorem mZ{op:CmpOp}{t:TE}(h:PC X op a b t)(h1:behindInMarks op b=false:=by first|exact nobehind _ (by decide) (by decide)|rfl):PT X (.Compare a [op] [b] pos) (tB t):=by
 intro pins s σ H Q I hw;refine wpAny_isTrue_Compare1 (thn (h pins s σ H _ I hw) λv s1 h1=>thn h1 λu s2 h2=>thn h2 λc s3 ⟨x,H1,I1,r1,q1⟩=>?_) h1;obtain⟨d,rfl,q⟩:=q1;cases r1;exact wpAny_truthy_bool ⟨H1,I1,q⟩
theorem cW{e:Expr}{t:TE}(h:PE X e t)(he:∀whole,isTrue e X.env whole=(do let v ← whole;standAt e.pos;holding [v] (truthy v)):=by intro _;rfl):PT X e (tB t):=by
 intro pins s σ H Q I hw;refine isTrue_plain (thn (h pins s σ H _ I hw) λv s1 ⟨x,H1,I1,r1,q1⟩=>?_) (he _);obtain⟨d,rfl,q⟩:=q1;cases r1;exact wpAny_truthy_bool ⟨H1,I1,q⟩
variable{tA tB':TT}{rest:List Expr}
def zq(t u:TT):TT:=λσ H Q=>t σ H λc H1=>if c=true then u σ H1 Q else Q false H1
def tOr(t u:TT):TT:=λσ H Q=>t σ H λc H1=>if c=true then Q true H1 else u σ H1 Q
def zr(t:TT):TT:=λσ H Q=>t σ H λc H1=>Q (!c) H1
theorem pw_and1(ha:PT X a tA):PW X (.BoolOp .And [a] pos) tA:=by
 intro wh pins s σ H Q I h;refine isTrue_and (thn (ha pins s σ H Q I h) λc s1 e=>?_);cases c with
 |true=>exact isTrue_and_nil e
 |false=>exact e
theorem pw_or1(ha:PT X a tA):PW X (.BoolOp .Or [a] pos) tA:=by
 intro wh pins s σ H Q I h;refine isTrue_or (thn (ha pins s σ H Q I h) λc s1 e=>?_);cases c with
 |false=>exact isTrue_or_nil e
 |true=>exact e
theorem pw_and(ha:PT X a tA)(hb:PW X (.BoolOp .And (b::rest) pos) tB'):PW X (.BoolOp .And (a::b::rest) pos) (zq tA tB'):=by
 intro wh pins s σ H Q I h;refine isTrue_and (thn (ha pins s σ H _ I h) λc s1 hpt=>?_);obtain⟨H1,I1,q1⟩:=hpt;cases c with
 |true=>exact hb wh pins s1 σ H1 Q I1 q1
 |false=>exact⟨H1,I1,q1⟩
theorem pw_or(ha:PT X a tA)(hb:PW X (.BoolOp .Or (b::rest) pos) tB'):PW X (.BoolOp .Or (a::b::rest) pos) (tOr tA tB'):=by
 intro wh pins s σ H Q I h;refine isTrue_or (thn (ha pins s σ H _ I h) λc s1 hpt=>?_);obtain⟨H1,I1,q1⟩:=hpt;cases c with
 |true=>exact⟨H1,I1,q1⟩
 |false=>exact hb wh pins s1 σ H1 Q I1 q1
theorem cX(ha:PT X a tA):PT X (.UnaryOp .Not a pos) (zr tA):=by
 intro pins s σ H Q I h;exact isTrue_not (ha pins s σ H (λc H1=>Q (!c) H1) I h)
def yh(ta tb:TE):TE:=λσ H Q=>ta σ H λx H1=>∃c,x=.bl c∧if c=true then tb σ H1 Q else Q (.bl false) H1
def zt(ta tb:TE):TE:=λσ H Q=>ta σ H λx H1=>∃c,x=.bl c∧if c=true then Q (.bl true) H1 else tb σ H1 Q
def yi(ta:TE):TE:=λσ H Q=>ta σ H λx H1=>∃c,x=.bl c∧Q (.bl (!c)) H1
theorem iH{op}{t:TE}(h:PE X a t):PE X (.BoolOp op [a] pos) t:=λpins s σ H Q I hw=>BoolOp_one (h pins s σ H Q I hw)
theorem iI(ha:PE X a ta)(hb:PE X (.BoolOp .And (b::rest) pos) tb):PE X (.BoolOp .And (a::b::rest) pos) (yh ta tb):=by
 intro pins s σ H Q I h;refine BoolOp_and (thn (ha pins s σ H _ I h) λv s1 hpt=>?_);obtain⟨x,H1,I1,r1,q1⟩:=hpt;obtain⟨c,rfl,q1⟩:=q1;cases r1;refine wpAny_truthy_bool ?_;cases c with
 |true=>exact hb pins s1 σ H1 Q I1 q1
 |false=>exact⟨.bl false,H1,I1,rfl,q1⟩
theorem yj(ha:PE X a ta)(hb:PE X (.BoolOp .Or (b::rest) pos) tb):PE X (.BoolOp .Or (a::b::rest) pos) (zt ta tb):=by
 intro pins s σ H Q I h;refine BoolOp_or (thn (ha pins s σ H _ I h) λv s1 hpt=>?_);obtain⟨x,H1,I1,r1,q1⟩:=hpt;obtain⟨c,rfl,q1⟩:=q1;cases r1;refine wpAny_truthy_bool ?_;cases c with
 |false=>exact hb pins s1 σ H1 Q I1 q1
 |true=>exact⟨.bl true,H1,I1,rfl,q1⟩
theorem wy(ha:PE X a ta):PE X (.UnaryOp .Not a pos) (yi ta):=by
 intro pins s σ H Q I h;refine UnaryOp_ (thn (ha pins s σ H _ I h) λv s1 hpt=>?_);obtain⟨x,H1,I1,r1,q1⟩:=hpt;obtain⟨c,rfl,q1⟩:=q1;cases r1;exact not_of (wpAny_truthy_bool ⟨.bl (!c),H1,I1,rfl,q1⟩)
def tIf(t:TT)(ta tb:TE):TE:=λσ H Q=>t σ H λc H1=>if c=true then ta σ H1 Q else tb σ H1 Q
theorem rc{c:Expr}(hc:PT X c tA)(ha:PE X a ta)(hb:PE X b tb):PE X (.IfExp c a b pos) (tIf tA ta tb):=by
 intro pins s σ H Q I h;refine wpAny_IfExp (thn (hc pins s σ H _ I h) λd s1 hpt=>?_);obtain⟨H1,I1,q1⟩:=hpt;cases d with
 |true=>exact ha pins s1 σ H1 Q I1 q1
 |false=>exact hb pins s1 σ H1 Q I1 q1
end
def SqL(K:PySem.W.Frag)(H:Hp)(a:Addr)(xs:List V):Prop :=
 Rd H a (.lst xs) ∨
  ∃(o:Obj) (its:Array Value) (n:Nat),K.lookup a=some o∧o.cls=.type "list"∧o.dict=none∧o.data=.seq its n∧its.size≤sizeLine∧ax xs its.toList
def SqT(K:PySem.W.Frag)(H:Hp)(a:Addr)(xs:List V):Prop :=
 Rd H a (.tup xs) ∨
  ∃(o:Obj) (its:Array Value) (n:Nat),K.lookup a=some o∧o.cls=.type "tuple"∧o.data=.seq its n∧its.size≤sizeLine∧ax xs its.toList
def zu:Value→Option V
 |.none=>some .non
 |.bool b=>some (.bl b)
 |.int i _=>some (.int i)
 |.str x _=>some (.str x)
 |.bytes b _=>some (.byt b)
 |.float b _=>some (.flt b)
 |.ref a=>some (.ref a)
 |.type n=>some (.ty n)
 |_=>none
theorem aJ.abs{x:V}{u:Value}(r:aJ x u):zu u=some x:=by
 cases x with
 |non=>cases r;rfl
 |bl _=>cases r;rfl
 |int _=>obtain⟨t,rfl⟩:=r;rfl
 |str _=>obtain⟨t,rfl⟩:=r;rfl
 |byt _=>obtain⟨t,rfl⟩:=r;rfl
 |flt _=>obtain⟨t,rfl⟩:=r;rfl
 |ref _=>cases r;rfl
 |ty _=>cases r;rfl
theorem aJ.inj{x y:V}{u:Value}(r:aJ x u)(q:aJ y u):x=y:=Option.some.inj (r.abs.symm.trans q.abs)
theorem ax.inj:∀{xs ys:List V}{us:List Value},ax xs us→ax ys us→xs=ys
 |_,_,_,.nil,.nil=>rfl
 |_,_,_,.cons r t,.cons r' t'=>by rw[r.inj r',ax.inj t t']
section
variable{X:Cx}{pins:List (Addr×Obj)}{σ:St}{H:Hp}{s:Shared}{a:Addr}{xs ys:List V}
theorem SqL.of{K:PySem.W.Frag}(h:H a=some (.lst xs)):SqL K H a xs:=.inl (.inl h)
theorem SqT.of{K:PySem.W.Frag}(h:H a=some (.tup xs)):SqT K H a xs:=.inl (.inl h)
theorem Inv.list(I:Inv X pins σ H s)(h:SqL X.K H a xs):∃its:List Value,ax xs its∧PlainL s.heap a its.toArray∧xs.length≤sizeLine:=by
 rcases h with h|⟨o,its,n,hk,hc,hd,hs,hz,r⟩
 ·obtain⟨z,its,n,r,e⟩:=h.ok I.hok;exact⟨its,r,⟨_,n,e,rfl,rfl,rfl⟩,z⟩
 ·refine⟨its.toList,r,⟨o,n,I.kIn a o hk,hc,hd,by simpa using hs⟩,?_⟩
  have e:=r.length;simp only[length_toList]at e;omega
theorem Inv.tuple(I:Inv X pins σ H s)(h:SqT X.K H a xs):∃its:List Value,ax xs its∧IsTup s.heap a its.toArray∧xs.length≤sizeLine:=by
 rcases h with h|⟨o,its,n,hk,hc,hs,hz,r⟩
 ·obtain⟨z,its,r,p⟩:=h.ok I.hok;exact⟨its,r,p,z⟩
 ·refine⟨its.toList,r,⟨o,I.kIn a o hk,hc,n,by simpa using hs⟩,?_⟩
  have e:=r.length;simp only[length_toList]at e;omega
theorem Inv.list_inj(I:Inv X pins σ H s)(h:SqL X.K H a xs)(h':SqL X.K H a ys):xs=ys:=by
 obtain⟨its,r,⟨o,n,e,_,_,d⟩,_⟩:=I.list h;obtain⟨its',r',⟨o',n',e',_,_,d'⟩,_⟩:=I.list h';rw[e]at e';cases e';rw[d]at d';injection d' with d1 _
 have:its=its':=by simpa using congrArg toList d1
 subst this;exact r.inj r'
theorem Inv.tuple_inj(I:Inv X pins σ H s)(h:SqT X.K H a xs)(h':SqT X.K H a ys):xs=ys:=by
 obtain⟨its,r,⟨o,e,_,n,d⟩,_⟩:=I.tuple h;obtain⟨its',r',⟨o',e',_,n',d'⟩,_⟩:=I.tuple h';rw[e]at e';cases e';rw[d]at d';injection d' with d1 _
 have:its=its':=by simpa using congrArg toList d1
 subst this;exact r.inj r'
end
abbrev Cx.wish(X:Cx)(E:Value→Shared→Prop):Cx:={X with xe:=E}
abbrev Cx.nox(X:Cx):Cx:=X.wish λ_ _=>False
theorem Cx.Ok.wish{X:Cx}(ok:X.Ok)(E:Value→Shared→Prop):(X.wish E).Ok :=
 ⟨ok.mod,ok.kind,ok.glob,ok.blt,ok.above,ok.inj,ok.has,ok.cab,ok.hd,ok.frames,ok.stk,ok.exf,ok.bs,ok.bsz,ok.noex,ok.exfs,ok.funs,ok.frf⟩
theorem Cx.Ok.unwish{X:Cx}{E:Value→Shared→Prop}(ok:(X.wish E).Ok):X.Ok :=
 ⟨ok.mod,ok.kind,ok.glob,ok.blt,ok.above,ok.inj,ok.has,ok.cab,ok.hd,ok.frames,ok.stk,ok.exf,ok.bs,ok.bsz,ok.noex,ok.exfs,ok.funs,ok.frf⟩
section
variable{X:Cx}{pins:List (Addr×Obj)}{σ:St}{H:Hp}{s:Shared}{E:Value→Shared→Prop}
theorem Inv.wish(I:Inv X pins σ H s)(E:Value→Shared→Prop):Inv (X.wish E) pins σ H s:=⟨I.ok.wish E,I.os,I.bare,I.base,I.loc,I.cell,I.free,I.freeC,I.pin,I.hok,I.len⟩
theorem Inv.unwish(I:Inv (X.wish E) pins σ H s):Inv X pins σ H s:=⟨I.ok.unwish,I.os,I.bare,I.base,I.loc,I.cell,I.free,I.freeC,I.pin,I.hok,I.len⟩
theorem SP.unwish{D:Ends}{f:Flow}{s':Shared}(h:SP (X.wish E) pins D f s'):SP X pins D f s':=by
 cases f with
 |next=>obtain⟨σ',H',I,q⟩:=h;exact⟨σ',H',I.unwish,q⟩
 |brk=>obtain⟨σ',H',I,q⟩:=h;exact⟨σ',H',I.unwish,q⟩
 |cont=>obtain⟨σ',H',I,q⟩:=h;exact⟨σ',H',I.unwish,q⟩
 |ret u=>obtain⟨v,σ',H',I,r,q⟩:=h;exact⟨v,σ',H',I.unwish,r,q⟩
theorem PSs.nox{st:List Stmt}{t:TS}(h:PSs X.nox st t):PSs X st t:=λpins s σ H D I hw =>
 wpAny_mono (h pins s σ H D (I.wish _) hw) (λ_ _ q=>q.unwish) λ_ _ z=>False.elim z
end
section
variable{X:Cx}{st:Stmt}{rest:List Stmt}{t u:TS}{e:Expr}{te:TE}{pos:Pos}
def yk:TS:=λD σ H=>D.nx σ H
def uq(t u:TS):TS:=λD σ H=>t {D with nx:=u D} σ H
theorem aR:PSs X [] yk:=λ_ _ σ H _ I h=>wpAny_execs_nil ⟨σ,H,I,h⟩
theorem ah(h1:PS X st t)(h2:PSs X rest u):PSs X (st::rest) (uq t u):=by
 intro pins s σ H D I h;refine wpAny_execs_cons (thn (h1 pins s σ H {D with nx:=u D} I h) λf s1 q=>?_);cases f with
 |next =>
  obtain⟨σ',H',I',q⟩:=q;exact h2 pins s1 σ' H' D I' q
 |ret v=>exact q
 |brk=>exact q
 |cont=>exact q
theorem al(h1:PS X st t):PSs X [st] t:=by
 intro pins s σ H D I h;refine wpAny_execs_cons (thn (h1 pins s σ H D I h) λf s1 q=>?_);cases f with
 |next=>exact wpAny_execs_nil q
 |ret v=>exact q
 |brk=>exact q
 |cont=>exact q
theorem Inv.quiet{pins:List (Addr×Obj)}{σ:St}{H:Hp}{s:Shared}(I:Inv X pins σ H s):interactive X.env=false:=by simp[interactive,I.ok.kind]
def ym(te:TE):TS:=λD σ H=>te σ H λ_ H1=>D.nx σ H1
theorem cp(he:PE X e te)(hs:swapsWith e none pos.line X.env=pure false:=by rfl):PS X (.Expr e pos) (ym te):=by
 intro pins s σ H D I h;exact wpAny_Expr_any (thn (he pins s σ H _ I h) λv s1 ⟨x,H1,I1,r1,q1⟩=>⟨σ,H1,I1,q1⟩) I.quiet hs
def yn(te:TE):TS:=λD σ H=>te σ H D.rt
theorem ar(he:PE X e te):PS X (.Return (some e) pos) (yn te):=by
 intro pins s σ H D I h;exact wpAny_Return_some (thn (he pins s σ H _ I h) λv s1 ⟨x,H1,I1,r1,q1⟩=>⟨x,σ,H1,I1,r1,q1⟩)
def zv(c:TT)(t u:TS):TS:=λD σ H=>c σ H λb H1=>if b=true then t D σ H1 else u D σ H1
theorem bu{c:Expr}{a b:List Stmt}{tc:TT}(hc:PT X c tc)(ha:PSs X a t)(hb:PSs X b u):PS X (.If c a b pos) (zv tc t u):=by
 intro pins s σ H D I h;refine wpAny_If (thn (hc pins s σ H _ I h) λd s1 hpt=>?_);obtain⟨H1,I1,q1⟩:=hpt;cases d with
 |true=>exact ha pins s1 σ H1 D I1 q1
 |false=>exact hb pins s1 σ H1 D I1 q1
def wz:TS:=λ_ _ _=>False
theorem pV{sts:List Stmt}:PSs X sts wz:=λ_ _ _ _ _ _ h=>h.elim
end
abbrev TG:=V→St→Hp→(St→Hp→Prop)→Prop
abbrev TGs:=List V→St→Hp→(St→Hp→Prop)→Prop
def PG(X:Cx)(target:Expr)(t:TG):Prop :=
 ∀(pins:List (Addr×Obj))(s:Shared)(σ:St)(H:Hp)(v:V)(u:Value)(Q:St→Hp→Prop),Inv X pins σ H s→aJ v u→t v σ H Q →
  wpAny (model X.prog X.w) X.A (assign target X.env u) (λ_ s'=>∃σ' H',Inv X pins σ' H' s'∧Q σ' H') X.xe s
def PGs(X:Cx)(ts:List Expr)(t:TGs):Prop :=
 ∀(pins:List (Addr×Obj))(s:Shared)(σ:St)(H:Hp)(vs:List V)(us:List Value)(Q:St→Hp→Prop),Inv X pins σ H s→ax vs us→t vs σ H Q →
  wpAny (model X.prog X.w) X.A (assignInOrder ((assignEach ts X.env).map (·.2)) us) (λ_ s'=>∃σ' H',Inv X pins σ' H' s'∧Q σ' H') X.xe s
section
variable{X:Cx}{pos:Pos}
def aO(i:Nat):TG:=λv σ H Q=>Q (σ.set i (some v)) H
theorem ao{i:Nat}{x:Str}(hN:X.N.Nodup)(hi:X.N[i]?=some x)(hx:Loc X.env.scope x)(hf:X.fn x=true∨X.env.scope.names.lookup x=some .local:=by first|exact .inl rfl|exact .inr rfl|assumption):PG X (.Name x pos) (aO i):=by
 intro pins s σ H v u Q I r h;exact wpAny_assign_Name (iG I hN hi hx r (λs' I'=>⟨_,H,I',h⟩) hf)
def rf:TGs:=λvs σ H Q=>vs=[]∧Q σ H
def fY(t:TG)(u:TGs):TGs:=λvs σ H Q=>∃v r,vs=v::r∧t v σ H λσ' H'=>u r σ' H' Q
theorem eU:PGs X [] rf:=by
 intro pins s σ H vs us Q I r h;obtain⟨e,h⟩:=h;subst e;cases r;exact assignInOrder_nil ⟨σ,H,I,h⟩
theorem bo{e:Expr}{es:List Expr}{t:TG}{u:TGs}(h1:PG X e t)(h2:PGs X es u)(hs:(assignEach (e::es) X.env).map (·.2)=assign e X.env::(assignEach es X.env).map (·.2):=by rfl):PGs X (e::es) (fY t u):=by
 intro pins s σ H vs us Q I r h;obtain⟨v,vr,e1,h⟩:=h;subst e1;cases r with
 |cons r rr =>
  rw[hs];refine assignInOrder_cons (thn (h1 pins s σ H _ _ _ I r h) λ_ s1 hpt=>?_);obtain⟨σ1,H1,I1,q1⟩:=hpt;exact h2 pins s1 σ1 H1 _ _ Q I1 rr q1
def rh(K:PySem.W.Frag)(n:Nat)(t:TGs):TG:=λv σ H Q=>∃a xs,v=.ref a∧SqT K H a xs∧xs.length=n∧t xs σ H Q
theorem gR{es:List Expr}{k:Nat}{t:TGs}{n:Nat}(hc:X.calm=true)(h:PGs X es t)(hn:(assignEach es X.env).length=n:=by rfl)(hst:(assignEach es X.env).findIdx? (·.1)=none:=by rfl):PG X (.Tuple es k pos) (rh X.K n t):=by
 intro pins s σ H v u Q I r hw;obtain⟨a,xs,e1,hq,hl,hw⟩:=hw;subst e1;cases r;obtain⟨its,rv,ht,hz⟩:=I.tuple hq;refine assign_Tuple_tuple (I.ok.hd hc) ht (by simp[hn,←hl,rv.length]) hst λh' hx=>?_;have I1:Inv X pins σ H {s with heap:=h'}:=I.kept (t':=s.toks) λb o e=>hx b o (ne_of_lt (lt_size e)) e
 exact h pins _ σ H xs _ Q I1 (by simpa using rv) hw
def ut(te:TE)(g:TG):TS:=λD σ H=>te σ H λx H1=>g x σ H1 D.nx
theorem rl{tg e:Expr}{te:TE}{g:TG}(he:PE X e te)(hg:PG X tg g)(hs:swapsWithSole [tg] e pos.line X.env=pure false:=by rfl)(hw:swappedStores [tg] e X.env=pure none:=by rfl)(h1:(assignEach [tg] X.env).map (·.2)=[assign tg X.env]:=by rfl):PS X (.Assign [tg] e pos) (ut te g):=by
 intro pins s σ H D I h;refine wpAny_Assign_stores (thn (he pins s σ H _ I h) λv s1 ⟨x,H1,I1,r1,q1⟩=>?_) hs hw;rw[h1];exact thn (hg pins s1 σ H1 x v _ I1 r1 q1) λ_ s2 q=>q
theorem au{i:Nat}{x:Str}{e:Expr}{te:TE}{pos':Pos}(hN:X.N.Nodup)(hi:X.N[i]?=some x)(hx:Loc X.env.scope x)(he:PE X e te)(hs:swapsWith e (some (.Name x pos')) pos.line X.env=pure false:=by rfl)(hf:X.fn x=true∨X.env.scope.names.lookup x=some .local:=by first|exact .inl rfl|exact .inr rfl|assumption):
  PS X (.Assign [.Name x pos'] e pos) (ut te (aO i)):=by
 intro pins s σ H D I h;refine wpAny_Assign_Name (thn (he pins s σ H _ I h) λv s1 ⟨y,H1,I1,r1,q1⟩=>?_) hs;exact iG I1 hN hi hx r1 (λs2 I2=>⟨_,H1,I2,q1⟩) hf
def rm(c:TT)(tb:TS):TS:=λD σ H=>∃W:Nat→St→Hp→Prop,(∃m,W m σ H)∧∀m σ H,W m σ H →
 c σ H λb H1=>if b=true then ∃N:St→Hp→Prop,(∀σ' H',N σ' H'→∃m',m'<m∧W m' σ' H')∧tb {D with nx:=N,ct:=N,bk:=D.nx} σ H1 else D.nx σ H1
theorem fZ{c:Expr}{body:List Stmt}{tc:TT}{tb:TS}(hp:PassesOwn (model X.prog X.w) X.A X.env X.xe)(hc:PT X c tc)(hb:PSs X body tb):PS X (.While c body [] pos) (rm tc tb):=by
 intro pins s σ H D I h;obtain⟨W,⟨m0,w0⟩,turn⟩:=h;refine wpAny_While (codeAny_whileLoop (λn s'=>∃σ' H',Inv X pins σ' H' s'∧W n σ' H') ?_ m0 ⟨σ,H,I,w0⟩);rintro n s1 ⟨σ1,H1,I1,w1⟩;refine wpAny_passesOwn hp (thn (hc pins s1 σ1 H1 _ I1 (turn n σ1 H1 w1)) λb s2 hpt=>?_);obtain⟨H2,I2,q2⟩:=hpt;cases b with
 |true =>
  obtain⟨N,hN,q2⟩:=q2;rw[if_pos rfl];refine wpAny_passesOwn hp (thn (hb pins s2 σ1 H2 _ I2 q2) λf s3 q3=>?_);cases f with
  |next =>
   obtain⟨σ3,H3,I3,n3⟩:=q3;obtain⟨m',hm,w3⟩:=hN σ3 H3 n3;exact⟨m',hm,σ3,H3,I3,w3⟩
  |cont =>
   obtain⟨σ3,H3,I3,n3⟩:=q3;obtain⟨m',hm,w3⟩:=hN σ3 H3 n3;exact⟨m',hm,σ3,H3,I3,w3⟩
  |brk=>exact q3
  |ret v=>exact q3
 |false =>
  rw[if_neg Bool.false_ne_true];exact wpAny_execs_nil ⟨σ1,H2,I2,q2⟩
end
structure It where
 go:Nat→Hp→Prop
 yld:Nat→Hp→V→Hp→Prop
 stop:Nat→Hp→Prop
def eB(X:Cx)(pins:List (Addr×Obj))(H:Hp)(b:Addr):Prop :=
 H b=none∧b≠X.env.locals∧b∉X.fs∧(b∈X.ex∨X.s₀.heap.objs.size≤b)∧(∀x c,X.env.cells.lookup x=some c→c≠b)∧∀p∈X.pn++pins,p.1≠b
theorem Inv.fpOk{X:Cx}{pins:List (Addr×Obj)}{σ:St}{H H':Hp}{s:Shared}{b:Addr}(I:Inv X pins σ H s)(hb:s.heap.objs.size≤b)(hn:H' b=none):eB X pins H' b:=by
 refine⟨hn,ne_of_gt (lt_of_lt_of_le I.lt hb),I.nofs hb,.inr (le_trans I.sz hb),λx c e z=>?_,λp hp z=>?_⟩
 ·obtain⟨v,q⟩:=I.cell x c e;exact absurd (lt_of_lt_of_le q.lt (by rw[z];exact hb)) (lt_irrefl _)
 ·exact absurd (lt_of_lt_of_le (lt_size (I.pin p hp).1) (by rw[z];exact hb)) (lt_irrefl _)
structure Turn(P:Program)(w:World)(K:PySem.W.Frag)(tg:Expr)(J:It)(fp:List Addr)(it:Addr)(tn:Nat→Heap→Prop):Prop where
 mem:it∈fp
 obj:∀i h,tn i h→∀b∈fp,∃o,h.get? b=some o∧∀v,o.data≠.cell v
 keep:∀i h h',tn i h→(∀b∈fp,∀o,h.get? b=some o→h'.get? b=some o)→tn i h'
 item:∀(X:Cx),X.prog=P→X.w=w→X.K=K→X.calm=true→∀(i:Nat)(pins:List (Addr×Obj))(s:Shared)(σ:St)(H:Hp)(E:Value→Shared→Prop),Inv X pins σ H s→(∀b∈fp,eB X pins H b)→tn i s.heap→J.go i H →
  wpAny (model P w) X.A (pyNext (.ref it)) (λr s1=>∃u,r=some u ∧
   wpAny (model P w) X.A (letOwnedTupleGo tg (.ref it) u) (λ_ s2=>∃x H',Inv X pins σ H' s2∧aJ x u∧J.yld i H x H'∧tn (i+1) s2.heap∧∀b∈fp,H' b=none) E s1) E s
 done:∀(X:Cx),X.prog=P→X.w=w→X.K=K→X.calm=true→∀(i:Nat)(pins:List (Addr×Obj))(s:Shared)(σ:St)(H:Hp)(E:Value→Shared→Prop),Inv X pins σ H s→(∀b∈fp,eB X pins H b)→tn i s.heap→J.stop i H →
  wpAny (model P w) X.A (pyNext (.ref it)) (λr s1=>r=none∧Inv X pins σ H s1) E s
 self:∀(A:Around)(i:Nat)(s:Shared)(Q:Value→Shared→Prop)(E:Value→Shared→Prop),tn i s.heap→Q (.ref it) s→wpAny (model P w) A (pyIter (.ref it)) Q E s
abbrev TI:=St→Hp→(It→Hp→Prop)→Prop
def PIE(X:Cx)(pins:List (Addr×Obj))(σ:St)(tg:Expr)(R:It→Hp→Prop)(itv:Value)(s2:Shared):Prop :=
 ∃(it:Addr) (fp:List Addr) (tn:Nat→Heap→Prop) (J:It) (H':Hp),itv=.ref it∧Inv X pins σ H' s2∧Turn X.prog X.w X.K tg J fp it tn∧tn 0 s2.heap∧(∀b∈fp,eB X pins H' b)∧R J H'
def PI(X:Cx)(tg iter:Expr)(wi:TI):Prop :=
 ∀(pins:List (Addr×Obj))(s:Shared)(σ:St)(H:Hp)(R:It→Hp→Prop),Inv X pins σ H s→wi σ H R →
  wpAny (model X.prog X.w) X.A (eval iter X.env) (λv s1=>wpAny (model X.prog X.w) X.A (pyIter v) (PIE X pins σ tg R) X.xe s1) X.xe s
theorem lu{M:Model}{A:Around}{E:Value→Shared→Prop}{s:Shared}{tg:Expr}{it:Addr}{u:Value}{o:Obj}{n:String}{vs:Array Value}{Q:Unit→Shared→Prop}(ho:s.heap.get? it=some o)(hc:o.cls=.type n)(hd:o.data=.fields vs)(hn:["enumerate","zip","dict_itemiterator","dict_reverseitemiterator","odict_iterator","itertools.zip_longest","itertools.pairwise"].contains n=false)(hQ:Q () s):wpAny M A (letOwnedTupleGo tg (.ref it) u) Q E s:=by
 unfold letOwnedTupleGo;cases tg<;>first
  |exact wpAny_pure hQ
  | (cases u<;>first
    |exact wpAny_pure hQ
    | (refine wpAny_bind (wpAny_load ho ?_)
       rw[hc,hd];show wpAny M A (if (["enumerate","zip","dict_itemiterator","dict_reverseitemiterator","odict_iterator","itertools.zip_longest","itertools.pairwise"].contains n&&vs[0]?==some (rawInt _))=true then _ else _) Q E s
       rw[if_neg (by intro h;rw[hn,Bool.false_and]at h;cases h)];exact wpAny_pure hQ))
def Itl(K:PySem.W.Frag)(a:Addr):It :=
 ⟨λi H=>∃xs x,SqL K H a xs∧xs[i]?=some x,λi H x H'=>H'=H∧∀xs,SqL K H a xs→xs[i]?=some x,λi H=>∃xs,SqL K H a xs∧xs.length≤i⟩
def Itt(K:PySem.W.Frag)(a:Addr):It :=
 ⟨λi H=>∃xs x,SqT K H a xs∧xs[i]?=some x,λi H x H'=>H'=H∧∀xs,SqT K H a xs→xs[i]?=some x,λi H=>∃xs,SqT K H a xs∧xs.length≤i⟩
def Itr(lo:Int)(n:Nat):It:=⟨λi _=>i<n,λi H x H'=>H'=H∧x=.int (lo+i),λi _=>n≤i⟩
theorem pW{P:Program}{w:World}{K:PySem.W.Frag}{tg:Expr}(a it:Addr):Turn P w K tg (Itl K a) [it] it (λi h=>h.IsListIter it a i) where
 mem:=by simp
 obj:=λi h st b hb=>by
  have e:b=it:=by simpa using hb
  subst e;obtain⟨o,e,c,d⟩:=st;exact⟨o,e,λv z=>by rw[d]at z;cases z⟩
 keep:=λi h h' st k=>st.at λo e=>k it (by simp) o e
 item:=by
  intro X hP hw hK hc i pins s σ H E I hf st hg;subst hP hw hK;obtain⟨xs,x,hq,hx⟩:=hg;obtain⟨its,rv,p,hz⟩:=I.list hq;obtain⟨u,hu,ru⟩:=rv.get hx;obtain⟨f0,f1,f2,f3,f4,f5⟩:=hf it (by simp);refine wpAny_pyNext_list_item st p.isList (x:=u) (by simpa using hu) λh' st' sb=>?_;have I1:Inv X pins σ H {s with heap:=h'}:=I.turned (t':=s.toks) (λb o hb e=>(sb.2 b hb).trans e) f0 f1 f3 f4 f5
  obtain⟨o,e,c,d⟩:=id st';exact⟨u,rfl,lu (s:={s with heap:=h'}) e c d (by decide) ⟨x,H,I1,ru,⟨rfl,λys hy=>by rw[I.list_inj hy hq];exact hx⟩,st',λb hb=>(hf b hb).1⟩⟩
 done:=by
  intro X hP hw hK hc i pins s σ H E I hf st hg;subst hP hw hK;obtain⟨xs,hq,hx⟩:=hg;obtain⟨its,rv,p,hz⟩:=I.list hq;obtain⟨f0,f1,f2,f3,f4,f5⟩:=hf it (by simp);have hl:=rv.length;exact wpAny_pyNext_list_end (I.ok.hd hc) st p.isList (by simp;omega) λh' eb=>⟨rfl,I.turned (t':=s.toks) (λb o hb e=>eb b o hb e) f0 f1 f3 f4 f5⟩
 self:=λ_ _ _ _ _ st h=>wpAny_pyIter_listiter st h
theorem na{P:Program}{w:World}{K:PySem.W.Frag}{tg:Expr}(a it:Addr):Turn P w K tg (Itt K a) [it] it (λi h=>h.IsTupleIter it a i) where
 mem:=by simp
 obj:=λi h st b hb=>by
  have e:b=it:=by simpa using hb
  subst e;obtain⟨o,e,c,d⟩:=st;exact⟨o,e,λv z=>by rw[d]at z;cases z⟩
 keep:=λi h h' st k=>st.at λo e=>k it (by simp) o e
 item:=by
  intro X hP hw hK hc i pins s σ H E I hf st hg;subst hP hw hK;obtain⟨xs,x,hq,hx⟩:=hg;obtain⟨its,rv,p,hz⟩:=I.tuple hq;obtain⟨u,hu,ru⟩:=rv.get hx;obtain⟨f0,f1,f2,f3,f4,f5⟩:=hf it (by simp);refine wpAny_pyNext_tuple_item st (show s.heap.IsTuple a its.toArray from p) (x:=u) (by simpa using hu) λh' st' sb=>?_;have I1:Inv X pins σ H {s with heap:=h'}:=I.turned (t':=s.toks) (λb o hb e=>(sb.2 b hb).trans e) f0 f1 f3 f4 f5
  obtain⟨o,e,c,d⟩:=id st';exact⟨u,rfl,lu (s:={s with heap:=h'}) e c d (by decide) ⟨x,H,I1,ru,⟨rfl,λys hy=>by rw[I.tuple_inj hy hq];exact hx⟩,st',λb hb=>(hf b hb).1⟩⟩
 done:=by
  intro X hP hw hK hc i pins s σ H E I hf st hg;subst hP hw hK;obtain⟨xs,hq,hx⟩:=hg;obtain⟨its,rv,p,hz⟩:=I.tuple hq;obtain⟨f0,f1,f2,f3,f4,f5⟩:=hf it (by simp);have hl:=rv.length;exact wpAny_pyNext_tuple_end (I.ok.hd hc) st (show s.heap.IsTuple a its.toArray from p) (by simp;omega) λh' eb=>⟨rfl,I.turned (t':=s.toks) (λb o hb e=>eb b o hb e) f0 f1 f3 f4 f5⟩
 self:=λ_ _ _ _ _ st h=>wpAny_pyIter_tupleiter st h
theorem nb{P:Program}{w:World}{K:PySem.W.Frag}{tg:Expr}(it:Addr)(lo:Int)(n:Nat):Turn P w K tg (Itr lo n) [it] it (λi h=>IsRangeIter h it (lo+(i:Nat)*1) ((n:Int)-(i:Nat)) 1) where
 mem:=by simp
 obj:=λi h st b hb=>by
  have e:b=it:=by simpa using hb
  subst e;exact⟨_,st,λv z=>by
   have z':Data.fields _=Data.cell v:=z;cases z'⟩
 keep:=λi h h' st k=>k it (by simp) _ st
 item:=by
  intro X hP hw hK hc i pins s σ H E I hf st hg;subst hP hw hK;obtain⟨f0,f1,f2,f3,f4,f5⟩:=hf it (by simp);have W:=Walks.range (prog:=X.prog) (w:=X.w) (I.ok.hd hc) it lo 1 n;refine W.item i s _ _ hg st λv h' tk hv st' kk=>?_;obtain⟨t,rfl⟩:=hv;have I1:Inv X pins σ H {s with heap:=h',toks:=tk}:=I.turned (λb o hb e=>kk b o (by simpa using hb) e) f0 f1 f3 f4 f5
  refine⟨_,rfl,lu (s:={s with heap:=h',toks:=tk}) (n:="range_iterator") st' rfl rfl (by decide) ⟨.int (lo+i),H,I1,⟨t,?_⟩,⟨rfl,rfl⟩,st',λb hb=>(hf b hb).1⟩⟩;rw[Int.mul_one]
 done:=by
  intro X hP hw hK hc i pins s σ H E I hf st hg;subst hP hw hK;obtain⟨f0,f1,f2,f3,f4,f5⟩:=hf it (by simp);exact wpAny_pyNext_range_end (I.ok.hd hc) st (by have:n≤i:=hg;omega) λh' eb=>⟨rfl,I.turned (t':=s.toks) (λb o hb e=>eb b o hb e) f0 f1 f3 f4 f5⟩
 self:=λ_ _ _ _ _ st h=>wpAny_pyIter_rangeiter st h
section
variable{X:Cx}{tg:Expr}
def yo(K:PySem.W.Frag)(tl:TE):TI:=λσ H R=>tl σ H λx H1=>∃a,x=.ref a∧(∃xs,SqL K H1 a xs)∧R (Itl K a) H1
def zw(K:PySem.W.Frag)(tl:TE):TI:=λσ H R=>tl σ H λx H1=>∃a,x=.ref a∧(∃xs,SqT K H1 a xs)∧R (Itt K a) H1
theorem cP{l:Expr}{tl:TE}(hl:PE X l tl):PI X tg l (yo X.K tl):=by
 intro pins s σ H R I h;refine thn (hl pins s σ H _ I h) λv s1 hpt=>?_;obtain⟨x,H1,I1,r1,q1⟩:=hpt;obtain⟨a,e,⟨xs,hq⟩,q⟩:=q1;subst e;cases r1;obtain⟨its,rv,p,hz⟩:=I1.list hq;refine wpAny_pyIter_list p.isList ?_;refine⟨s1.heap.objs.size,[s1.heap.objs.size],_,_,H1,rfl,I1.kept (t':=s1.toks) λb o e=>get?_push_of_some _ e,pW a _,⟨_,get?_push_size _ rfl,rfl,rfl⟩,λb hb=>?_,q⟩;have e:b=s1.heap.objs.size:=by simpa using hb
 subst e;exact I1.fpOk (le_refl _) (I1.hok.fresh (le_refl _))
theorem bD{l:Expr}{tl:TE}(hl:PE X l tl):PI X tg l (zw X.K tl):=by
 intro pins s σ H R I h;refine thn (hl pins s σ H _ I h) λv s1 hpt=>?_;obtain⟨x,H1,I1,r1,q1⟩:=hpt;obtain⟨a,e,⟨xs,hq⟩,q⟩:=q1;subst e;cases r1;obtain⟨its,rv,p,hz⟩:=I1.tuple hq;refine wpAny_pyIter_tuple (show s1.heap.IsTuple a its.toArray from p) ?_;refine⟨s1.heap.objs.size,[s1.heap.objs.size],_,_,H1,rfl,I1.kept (t':=s1.toks) λb o e=>get?_push_of_some _ e,na a _,⟨_,get?_push_size _ rfl,rfl,rfl⟩,λb hb=>?_,q⟩;have e:b=s1.heap.objs.size:=by simpa using hb
 subst e;exact I1.fpOk (le_refl _) (I1.hok.fresh (le_refl _))
theorem rn{pins:List (Addr×Obj)}{σ:St}{H:Hp}{s:Shared}{R:It→Hp→Prop}{E:Value→Shared→Prop}{lo hi:Int}{t u v:Tok}{tk:Nat}(I:Inv X pins σ H s)(h1:-(2 ^ 62)≤lo)(h2:lo<2 ^ 62)(h3:-(2 ^ 62)≤hi)(h4:hi<2 ^ 62)(q:R (Itr lo (hi-lo).toNat) H):wpAny (model X.prog X.w) X.A (pyIter (.ref s.heap.objs.size)) (PIE X pins σ tg R) E {s with heap:=s.heap.push {cls:=.type "range",data:=.fields #[.int lo t,.int hi u,.int 1 v]},toks:=tk}:=by
 refine wpAny_pyIter_range (IsRange.new ..) (small_one h1 h2 h3 h4) ?_;have I1:Inv X pins σ H {s with heap:=s.heap.push {cls:=.type "range",data:=.fields #[.int lo t,.int hi u,.int 1 v]},toks:=tk}:=I.kept λb o e=>get?_push_of_some _ e
 refine⟨(s.heap.push {cls:=.type "range",data:=.fields #[.int lo t,.int hi u,.int 1 v]}).objs.size,[(s.heap.push {cls:=.type "range",data:=.fields #[.int lo t,.int hi u,.int 1 v]}).objs.size],_,_,H,rfl,
  I1.kept (t':=tk) λb o e=>get?_push_of_some _ e,nb _ lo (hi-lo).toNat,?_,λb hb=>?_,q⟩
 ·have e1:lo+((0:Nat):Int)*1=lo:=by simp
  have e2:(((hi-lo).toNat:Nat):Int)-((0:Nat):Int)=Builtin.Range.rangeSize lo hi 1:=by rw[rangeSize_one];split<;>omega
  show IsRangeIter _ _ (lo+((0:Nat):Int)*1) ((((hi-lo).toNat:Nat):Int)-((0:Nat):Int)) 1;rw[e1,e2];exact get?_push_size _ rfl
 ·have e:b=(s.heap.push {cls:=.type "range",data:=.fields #[.int lo t,.int hi u,.int 1 v]}).objs.size:=by simpa using hb
  subst e;exact I1.fpOk (le_refl _) (I1.hok.fresh (le_refl _))
def yp(ta:TA):TI:=λσ H R=>ta σ H λvs H1=>∃j:Int,vs=[.int j]∧-(2 ^ 62)≤j∧j<2 ^ 62∧R (Itr 0 j.toNat) H1
theorem pX{a:Expr}{ta:TA}{p pos:Pos}(hg:Gl X "range")(hm:X.mg "range"=none)(ha:PA X [a] ta)(hs:starEach [a] X.env=[(false,eval a X.env)]:=by rfl):PI X tg (.Call (.Name "range" p) [a] [] pos) (yp ta):=by
 intro pins s σ H R I h;refine Call_ (dJ I hg hm boot_range (PyProof.Rows.callWith_type1 (thn (ha pos pins s σ H _ I h) λus s1 ⟨vs,H1,I1,r1,q1⟩=>?_) hs rfl));obtain⟨j,e,q1,q2,q⟩:=q1;subst e;cases r1 with
 |cons r rr =>
  cases rr;obtain⟨t,rfl⟩:=r;exact call_range_1 (rn I1 (by omega) (by omega) q1 q2 (by simpa using q))
def zx(wi:TI)(g:TG)(tb:TS):TS:=λD σ H=>wi σ H λJ H1=>∃W:Nat→Nat→St→Hp→Prop,(∃m,W 0 m σ H1)∧∀i m σ H,W i m σ H →
 (J.stop i H∧D.nx σ H)∨(J.go i H∧∃N:St→Hp→Prop,(∀σ' H',N σ' H'→∃m',m'<m∧W (i+1) m' σ' H')∧∀x H',J.yld i H x H'→g x σ H' λσ2 H2=>tb {D with nx:=N,ct:=N,bk:=D.nx} σ2 H2)
def kg(fp:List Addr)(h:Heap):List (Addr×Obj):=fp.filterMap λb=>(h.get? b).map λo=>(b,o)
theorem aV{fp:List Addr}{h:Heap}{b:Addr}{o:Obj}(hb:b∈fp)(e:h.get? b=some o):(b,o)∈kg fp h:=mem_filterMap.mpr ⟨b,hb,by rw[e];rfl⟩
theorem pY{fp:List Addr}{h:Heap}{p:Addr×Obj}(hp:p∈kg fp h):p.1∈fp∧h.get? p.1=some p.2:=by
 obtain⟨b,hb,e⟩:=mem_filterMap.mp hp;cases q:h.get? b with
 |none=>rw[q]at e;cases e
 |some o =>
  rw[q]at e;have e':(b,o)=p:=Option.some.inj e;subst e';exact⟨hb,q⟩
theorem Inv.pinned{pins:List (Addr×Obj)}{σ:St}{H:Hp}{s:Shared}{fp:List Addr}(I:Inv X pins σ H s)(hf:∀b∈fp,eB X pins H b)(ho:∀b∈fp,∃o,s.heap.get? b=some o∧∀v,o.data≠.cell v):Inv X (pins++kg fp s.heap) σ H s :=
 I.pins_of λp hp=>(mem_append.mp hp).elim (λz=>I.pin p (mem_append_right _ z)) λz=>by
  obtain⟨hb,e⟩:=pY z;obtain⟨f0,f1,f2,_⟩:=hf p.1 hb;obtain⟨o,e',d⟩:=ho p.1 hb;rw[e]at e';cases e';exact⟨e,f0,f1,f2,d⟩
theorem Inv.unpinned{pins pl:List (Addr×Obj)}{σ:St}{H:Hp}{s:Shared}(I:Inv X (pins++pl) σ H s):Inv X pins σ H s:=I.pins_of λp hp=>I.pin p (mem_append_right _ (mem_append_left _ hp))
theorem kh{iter:Expr}{body:List Stmt}{wi:TI}{g:TG}{tb:TS}{pos:Pos}(hp:PassesOwn (model X.prog X.w) X.A X.env X.xe)(hc:X.calm=true)(hi:PI X tg iter wi)(hg:PG X tg g)(hb:PSs X body tb)(hs:∀x,foldedSetIterable iter X.env x=pure x:=by intro _;rfl):PS X (.For tg iter body [] pos) (zx wi g tb):=by
 intro pins s σ H D I h;refine wpAny_For (thn (hi pins s σ H _ I h) λv s1 h1=>thn h1 λitv s2 h2=>?_) hs;obtain⟨it,fp,tn,J,H2,e,I2,T,st2,f2,W,⟨m0,w0⟩,turn⟩:=h2;subst e;have stat:∀{H':Hp},(∀b∈fp,H' b=none)→∀b∈fp,eB X pins H' b:=λhn b hb=>⟨hn b hb,(f2 b hb).2⟩;refine codeAny_forLoop_any (λn s'=>∃i σ' H',Inv X pins σ' H' s'∧tn i s'.heap∧(∀b∈fp,H' b=none)∧W i n σ' H') ?_ m0 ⟨0,σ,H2,I2,st2,λb hb=>(f2 b hb).1,w0⟩;rintro n s3 ⟨i,σ3,H3,I3,st3,fr3,w3⟩;rcases turn i n σ3 H3 w3 with⟨stop,qn⟩|⟨go,N,hN,step⟩
 ·refine wpAny_passesOwn hp (thn (T.done X rfl rfl rfl hc i pins s3 σ3 H3 X.xe I3 (stat fr3) st3 stop) λr s4 hpt=>?_);obtain⟨hr,I4⟩:=hpt;subst hr;exact wpAny_execs_nil ⟨σ3,H3,I4,qn⟩
 ·refine wpAny_passesOwn hp (thn (T.item X rfl rfl rfl hc i pins s3 σ3 H3 X.xe I3 (stat fr3) st3 go) λr s4 hpt=>?_);obtain⟨u,hr,h4⟩:=hpt;subst hr;refine wpAny_passesOwn hp (thn h4 λ_ s5 hpt=>?_);obtain⟨x,H5,I5,r5,y5,st5,fr5⟩:=hpt;have I5':=I5.pinned (stat fr5) (T.obj _ _ st5);refine wpAny_passesOwn hp (thn (hg _ s5 σ3 H5 x u _ I5' r5 (step x H5 y5)) λ_ s6 hpt=>?_);obtain⟨σ6,H6,I6,q6⟩:=hpt;refine wpAny_passesOwn hp (thn (hb _ s6 σ6 H6 _ I6 q6) λf s7 q7=>?_);have again:∀{σ7:St}{H7:Hp},Inv X (pins++kg fp s5.heap) σ7 H7 s7→N σ7 H7→∃m,m<n∧∃i σ' H',Inv X pins σ' H' s7∧tn i s7.heap∧(∀b∈fp,H' b=none)∧W i m σ' H':=λ{σ7 H7} I7 n7=>by
   obtain⟨m',hm,w7⟩:=hN σ7 H7 n7;refine⟨m',hm,i+1,σ7,H7,I7.unpinned,T.keep _ _ _ st5 λb hb o e=>(I7.pin (b,o) (mem_append_right _ (mem_append_right _ (aV hb e)))).1,λb hb=>?_,w7⟩;obtain⟨o,e,d⟩:=T.obj _ _ st5 b hb;exact(I7.pin (b,o) (mem_append_right _ (mem_append_right _ (aV hb e)))).2.1
  cases f with
  |next=>obtain⟨σ7,H7,I7,n7⟩:=q7;exact again I7 n7
  |cont=>obtain⟨σ7,H7,I7,n7⟩:=q7;exact again I7 n7
  |brk=>obtain⟨σ7,H7,I7,q7⟩:=q7;exact⟨σ7,H7,I7.unpinned,q7⟩
  |ret v=>obtain⟨x7,σ7,H7,I7,r7,q7⟩:=q7;exact⟨x7,σ7,H7,I7.unpinned,r7,q7⟩
end
theorem ro{K:PySem.W.Frag}{a:Addr}{xs:List V}{g:TG}{tb:TS}{D:Ends}{σ:St}{H:Hp}(Pv:Nat→St→Hp→Prop)(h0:Pv 0 σ H)(hl:∀i σ H,i≤xs.length→Pv i σ H→SqL K H a xs)(hs:∀i x σ H,xs[i]?=some x→Pv i σ H→g x σ H λσ2 H2=>tb {D with nx:=Pv (i+1),ct:=Pv (i+1),bk:=D.nx} σ2 H2)(hd:∀σ H,Pv xs.length σ H→D.nx σ H):
  ∃W:Nat→Nat→St→Hp→Prop,(∃m,W 0 m σ H)∧∀i m σ H,W i m σ H →
   ((Itl K a).stop i H∧D.nx σ H)∨((Itl K a).go i H∧∃N:St→Hp→Prop,(∀σ' H',N σ' H'→∃m',m'<m∧W (i+1) m' σ' H')∧∀x H',(Itl K a).yld i H x H'→g x σ H' λσ2 H2=>tb {D with nx:=N,ct:=N,bk:=D.nx} σ2 H2):=by
 refine⟨λi m σ H=>m=xs.length-i∧i≤xs.length∧Pv i σ H,⟨xs.length,by simp,zero_le _,h0⟩,?_⟩;rintro i m σ H ⟨rfl,hi,p⟩;have q:=hl i σ H hi p
 by_cases hlt:i<xs.length
 ·refine .inr ⟨⟨xs,xs[i],q,by simp[hlt]⟩,Pv (i+1),λσ' H' p'=>⟨xs.length-(i+1),by omega,rfl,hlt,p'⟩,λx H' y=>?_⟩;obtain⟨e,y⟩:=y;subst e;exact hs i x σ _ (y xs q) p
 ·have e:i=xs.length:=by omega
  subst e;exact .inl ⟨⟨xs,q,le_refl _⟩,hd σ H p⟩
theorem uu{K:PySem.W.Frag}{a:Addr}{xs:List V}{g:TG}{tb:TS}{D:Ends}{σ:St}{H:Hp}(Pv:Nat→St→Hp→Prop)(h0:Pv 0 σ H)(hl:∀i σ H,i≤xs.length→Pv i σ H→SqT K H a xs)(hs:∀i x σ H,xs[i]?=some x→Pv i σ H→g x σ H λσ2 H2=>tb {D with nx:=Pv (i+1),ct:=Pv (i+1),bk:=D.nx} σ2 H2)(hd:∀σ H,Pv xs.length σ H→D.nx σ H):
  ∃W:Nat→Nat→St→Hp→Prop,(∃m,W 0 m σ H)∧∀i m σ H,W i m σ H →
   ((Itt K a).stop i H∧D.nx σ H)∨((Itt K a).go i H∧∃N:St→Hp→Prop,(∀σ' H',N σ' H'→∃m',m'<m∧W (i+1) m' σ' H')∧∀x H',(Itt K a).yld i H x H'→g x σ H' λσ2 H2=>tb {D with nx:=N,ct:=N,bk:=D.nx} σ2 H2):=by
 refine⟨λi m σ H=>m=xs.length-i∧i≤xs.length∧Pv i σ H,⟨xs.length,by simp,zero_le _,h0⟩,?_⟩;rintro i m σ H ⟨rfl,hi,p⟩;have q:=hl i σ H hi p
 by_cases hlt:i<xs.length
 ·refine .inr ⟨⟨xs,xs[i],q,by simp[hlt]⟩,Pv (i+1),λσ' H' p'=>⟨xs.length-(i+1),by omega,rfl,hlt,p'⟩,λx H' y=>?_⟩;obtain⟨e,y⟩:=y;subst e;exact hs i x σ _ (y xs q) p
 ·have e:i=xs.length:=by omega
  subst e;exact .inl ⟨⟨xs,q,le_refl _⟩,hd σ H p⟩
theorem pZ{lo:Int}{n:Nat}{g:TG}{tb:TS}{D:Ends}{σ:St}{H:Hp}(Pv:Nat→St→Hp→Prop)(h0:Pv 0 σ H)(hs:∀i σ H,i<n→Pv i σ H→g (.int (lo+i)) σ H λσ2 H2=>tb {D with nx:=Pv (i+1),ct:=Pv (i+1),bk:=D.nx} σ2 H2)(hd:∀σ H,Pv n σ H→D.nx σ H):
  ∃W:Nat→Nat→St→Hp→Prop,(∃m,W 0 m σ H)∧∀i m σ H,W i m σ H →
   ((Itr lo n).stop i H∧D.nx σ H)∨((Itr lo n).go i H∧∃N:St→Hp→Prop,(∀σ' H',N σ' H'→∃m',m'<m∧W (i+1) m' σ' H')∧∀x H',(Itr lo n).yld i H x H'→g x σ H' λσ2 H2=>tb {D with nx:=N,ct:=N,bk:=D.nx} σ2 H2):=by
 refine⟨λi m σ H=>m=n-i∧i≤n∧Pv i σ H,⟨n,by simp,zero_le _,h0⟩,?_⟩;rintro i m σ H ⟨rfl,hi,p⟩
 by_cases hlt:i<n
 ·refine .inr ⟨hlt,Pv (i+1),λσ' H' p'=>⟨n-(i+1),by omega,rfl,hlt,p'⟩,λx H' y=>?_⟩;obtain⟨e,y⟩:=y;subst e y;exact hs i σ _ hlt p
 ·have e:i=n:=by omega
  subst e;exact .inl ⟨le_refl _,hd σ H p⟩
theorem gc{c:TT}{tb:TS}{D:Ends}{σ:St}{H:Hp}(Pv:St→Hp→Prop)(μ:St→Hp→Nat)(h0:Pv σ H)(hs:∀σ H,Pv σ H→c σ H λb H1=>if b=true then tb {D with nx:=λσ' H'=>Pv σ' H'∧μ σ' H'<μ σ H,ct:=λσ' H'=>Pv σ' H'∧μ σ' H'<μ σ H,bk:=D.nx} σ H1 else D.nx σ H1)(mono:∀σ H Q Q',(∀b H1,Q b H1→Q' b H1)→c σ H Q→c σ H Q'):rm c tb D σ H:=by
 refine⟨λm σ H=>m=μ σ H∧Pv σ H,⟨_,rfl,h0⟩,?_⟩;rintro m σ H ⟨rfl,p⟩;refine mono σ H _ _ (λb H1 q=>?_) (hs σ H p);cases b with
 |true=>exact⟨_,λσ' H' ⟨p',l⟩=>⟨_,l,rfl,p'⟩,q⟩
 |false=>exact q
abbrev R2:=V→V→Hp→VK→Prop
def OpR(X:Cx)(f:Value→Value→Sem Value)(r:R2):Prop :=
 ∀(pins:List (Addr×Obj))(s:Shared)(σ:St)(H:Hp)(x y:V)(v u:Value)(Q:VK),Inv X pins σ H s→aJ x v→aJ y u→r x y H Q →
  wpAny (model X.prog X.w) X.A (f v u) (EP X pins σ Q) X.xe s
def bM(X:Cx)(f:Value)(r:List V→Hp→VK→Prop):Prop :=
 ∀(pins:List (Addr×Obj))(s:Shared)(σ:St)(H:Hp)(xs:List V)(us:List Value)(Q:VK),Inv X pins σ H s→ax xs us→r xs H Q →
  wpAny (model X.prog X.w) X.A (call f us) (EP X pins σ Q) X.xe s
def zy(X:Cx)(r:V→Hp→(Bool→Hp→Prop)→Prop):Prop :=
 ∀(pins:List (Addr×Obj))(s:Shared)(σ:St)(H:Hp)(x:V)(v:Value)(Q:Bool→Hp→Prop),Inv X pins σ H s→aJ x v→r x H Q →
  wpAny (model X.prog X.w) X.A (truthy v) (TP X pins σ Q) X.xe s
def tOp(r:R2)(ta tb:TE):TE:=λσ H Q=>ta σ H λx H1=>tb σ H1 λy H2=>r x y H2 Q
def rI(C:Int→Int→Prop)(g:Int→Int→V):R2:=λx y H Q=>∃i j,x=.int i∧y=.int j∧C i j∧Q (g i j) H
def rI0(g:Int→Int→V):R2:=λx y H Q=>∃i j,x=.int i∧y=.int j∧Q (g i j) H
section
variable{X:Cx}{a b c:Expr}{ta tb tc:TE}{pos:Pos}
theorem wA(ha:PE X a ta)(hb:PE X b tb){pins:List (Addr×Obj)}{s:Shared}{σ:St}{H:Hp}{R:V→V→Hp→Prop}(I:Inv X pins σ H s)(h:ta σ H λx H1=>tb σ H1 λy H2=>R x y H2){Q:Value→Shared→Prop}{f:Value→Value→Sem Value}(hf:∀v u s2 x y H2,Inv X pins σ H2 s2→aJ x v→aJ y u→R x y H2→wpAny (model X.prog X.w) X.A (f v u) Q X.xe s2):
  wpAny (model X.prog X.w) X.A (eval a X.env) (λv s₁=>wpAny (model X.prog X.w) X.A (eval b X.env) (λu s₂=>wpAny (model X.prog X.w) X.A (f v u) Q X.xe s₂) X.xe s₁) X.xe s:=by
 refine thn (ha pins s σ H _ I h) λv s1 hpt=>?_;obtain⟨x,H1,I1,r1,q1⟩:=hpt;refine thn (hb pins s1 σ H1 _ I1 q1) λu s2 hpt=>?_;obtain⟨y,H2,I2,r2,q2⟩:=hpt;exact hf v u s2 x y H2 I2 r1 r2 q2
theorem aM{op:Operator}{r:R2}(ho:OpR X (binaryOp op) r)(ha:PE X a ta)(hb:PE X b tb):PE X (.BinOp a op b pos) (tOp r ta tb):=by
 intro pins s σ H Q I h;exact wpAny_BinOp (wA ha hb I h λv u s2 x y H2 I2 rx ry q=>ho pins s2 σ H2 x y v u Q I2 rx ry q)
theorem opI{f:Value→Value→Sem Value}{C:Int→Int→Prop}{g:Int→Int→Int}(rule:∀(i j:Int) (t u:Tok) (s:Shared) (Q:Value→Shared→Prop) (E:Value→Shared→Prop),C i j→Q (.int (g i j) s.toks) {s with toks:=s.toks+1}→wpAny (model X.prog X.w) X.A (f (.int i t) (.int j u)) Q E s):
  OpR X f (rI C λi j=>.int (g i j)):=by
 intro pins s σ H x y v u Q I rx ry h;obtain⟨i,j,rfl,rfl,hc,q⟩:=h;obtain⟨t,rfl⟩:=rx;obtain⟨t',rfl⟩:=ry;exact rule i j t t' s _ _ hc ⟨.int (g i j),H,I.tok _,⟨_,rfl⟩,q⟩
theorem yq{f:Value→Value→Sem Value}{g:Int→Int→Int}(rule:∀(i j:Int) (t u:Tok) (s:Shared) (Q:Value→Shared→Prop) (E:Value→Shared→Prop),Q (.int (g i j) s.toks) {s with toks:=s.toks+1}→wpAny (model X.prog X.w) X.A (f (.int i t) (.int j u)) Q E s):
  OpR X f (rI0 λi j=>.int (g i j)):=by
 intro pins s σ H x y v u Q I rx ry h;obtain⟨i,j,rfl,rfl,q⟩:=h;obtain⟨t,rfl⟩:=rx;obtain⟨t',rfl⟩:=ry;exact rule i j t t' s _ _ ⟨.int (g i j),H,I.tok _,⟨_,rfl⟩,q⟩
theorem wB{f:Value→Value→Sem Value}{g:Int→Int→Bool}(rule:∀(i j:Int) (t u:Tok) (s:Shared) (Q:Value→Shared→Prop) (E:Value→Shared→Prop),Q (.bool (g i j)) s→wpAny (model X.prog X.w) X.A (f (.int i t) (.int j u)) Q E s):
  OpR X f (rI0 λi j=>.bl (g i j)):=by
 intro pins s σ H x y v u Q I rx ry h;obtain⟨i,j,rfl,rfl,q⟩:=h;obtain⟨t,rfl⟩:=rx;obtain⟨t',rfl⟩:=ry;exact rule i j t t' s _ _ ⟨.bl (g i j),H,I,rfl,q⟩
def zA(i j:Int):Prop:=0<j∧j<1073741824
def wC(i j:Int):Prop:=(-(2 ^ 64)<i∧i<2 ^ 64)∨(-(2 ^ 64)<j∧j<2 ^ 64)
theorem wC.ok{i j:Int}(h:wC i j):IntMulOk i j:=by
 rcases h with⟨h1,h2⟩|⟨h1,h2⟩
 ·exact .of_left (intBits_le_64 h1 h2)
 ·exact .of_right (intBits_le_64 h1 h2)
theorem bp:OpR X (binaryOp .Add) (rI0 λi j=>.int (i+j)):=yq λ_ _ _ _ _ _ _ q=>add_int q
theorem wD:OpR X (binaryOp .Sub) (rI0 λi j=>.int (i-j)):=yq λ_ _ _ _ _ _ _ q=>sub_int q
theorem dL:OpR X (binaryOp .Mult) (rI wC λi j=>.int (i*j)):=opI λ_ _ _ _ _ _ _ hc q=>mul_int q hc.ok
theorem uv:OpR X (binaryOp .FloorDiv) (rI zA λi j=>.int (i / j)):=opI λi j _ _ _ _ _ hc q=>by
 have h1:(0:Int)<j:=hc.1;have h2:j<1073741824:=hc.2;exact floordiv_int (by omega) (by rw[Int.fdiv_eq_ediv_of_nonneg i (by omega)];exact q) (.inl (PyProof.noPylong_small (by omega)))
theorem kl:OpR X (binaryOp .Mod) (rI (λ_ j=>0<j) λi j=>.int (i % j)):=opI λi j _ _ _ _ _ hc q=>by
 have h1:(0:Int)<j:=hc;exact mod_int' (by omega) (by rw[Int.fmod_eq_emod_of_nonneg i (by omega)];exact q)
end
def yr:V→V→Bool
 |.non,.non=>true | .non,.int _=>true | .int _,.non=>true | .non,.bl _=>true | .bl _,.non=>true | .non,.str _=>true | .str _,.non=>true
 |.int _,.int _=>true | .bl _,.bl _=>true | .str _,.str _=>true | .byt _,.byt _=>true
 |.int _,.str _=>true | .str _,.int _=>true | .bl _,.str _=>true | .str _,.bl _=>true
 |_,_=>false
def rEq:R2:=λx y H Q=>yr x y=true∧Q (.bl (decide (x=y))) H
def rNe:R2:=λx y H Q=>yr x y=true∧Q (.bl (!decide (x=y))) H
theorem oB{i j:Int}:decide (V.int i=V.int j)=(i==j):=by
 rw[Bool.eq_iff_iff];simp
theorem rp{i j:Bool}:decide (V.bl i=V.bl j)=(i==j):=by
 rw[Bool.eq_iff_iff];simp
theorem oC{i j:Str}:decide (V.str i=V.str j)=(i==j):=by
 rw[Bool.eq_iff_iff];simp
theorem oD{i j:Array UInt8}:decide (V.byt i=V.byt j)=(i.toList==j.toList):=by
 rw[Bool.eq_iff_iff];cases i;cases j;simp
section
variable{X:Cx}{a b c:Expr}{ta tb tc:TE}{pos:Pos}
theorem aP{pins:List (Addr×Obj)}{σ:St}{H:Hp}{s:Shared}{Q:VK}{k k':Bool}(I:Inv X pins σ H s)(q:Q (.bl k) H)(e:k=k'):EP X pins σ Q (.bool k') s:=by
 subst e;exact⟨.bl k,H,I,rfl,q⟩
theorem jC:OpR X (compareOp .Eq) rEq:=by
 intro pins s σ H x y v u Q I rx ry h;obtain⟨hs,q⟩:=h;cases x with
 |non =>
  cases rx;cases y with
  |non=>cases ry;exact PySem.EqNone.eq_none_none (aP I q (by simp))
  |bl j=>cases ry;exact PySem.EqNone.eq_none_bool (aP I q (by simp))
  |int j=>obtain⟨t',rfl⟩:=ry;exact PySem.EqNone.eq_none_int (aP I q (by simp))
  |str j=>obtain⟨t',rfl⟩:=ry;exact PySem.EqNone.eq_none_str (aP I q (by simp))
  |_=>exact absurd (show false=true from hs) Bool.false_ne_true
 |bl i =>
  cases rx;cases y with
  |non=>cases ry;exact PySem.EqNone.eq_bool_none (aP I q (by simp))
  |bl j=>cases ry;exact eq_bool (aP I q rp)
  |str j=>obtain⟨t',rfl⟩:=ry;exact PySem.EqMixed.eq_bool_str (aP I q (by simp))
  |_=>exact absurd (show false=true from hs) Bool.false_ne_true
 |int i =>
  obtain⟨t,rfl⟩:=rx;cases y with
  |non=>cases ry;exact PySem.EqNone.eq_int_none (aP I q (by simp))
  |int j=>obtain⟨t',rfl⟩:=ry;exact eq_int (aP I q oB)
  |str j=>obtain⟨t',rfl⟩:=ry;exact PySem.EqMixed.eq_int_str (aP I q (by simp))
  |_=>exact absurd (show false=true from hs) Bool.false_ne_true
 |str i =>
  obtain⟨t,rfl⟩:=rx;cases y with
  |non=>cases ry;exact PySem.EqNone.eq_str_none (aP I q (by simp))
  |bl j=>cases ry;exact PySem.EqMixed.eq_str_bool (aP I q (by simp))
  |int j=>obtain⟨t',rfl⟩:=ry;exact PySem.EqMixed.eq_str_int (aP I q (by simp))
  |str j=>obtain⟨t',rfl⟩:=ry;exact eq_str (aP I q oC)
  |_=>exact absurd (show false=true from hs) Bool.false_ne_true
 |byt i =>
  obtain⟨t,rfl⟩:=rx;cases y with
  |byt j=>obtain⟨t',rfl⟩:=ry;exact PySem.W.eq_bytes (aP I q oD)
  |_=>exact absurd (show false=true from hs) Bool.false_ne_true
 |_=>cases y<;>exact absurd (show false=true from hs) Bool.false_ne_true
theorem eD:OpR X (compareOp .NotEq) rNe:=by
 intro pins s σ H x y v u Q I rx ry h;obtain⟨hs,q⟩:=h;cases x with
 |non =>
  cases rx;cases y with
  |non=>cases ry;exact PySem.EqNone.ne_none_none (aP I q (by simp))
  |bl j=>cases ry;exact PySem.EqNone.ne_none_bool (aP I q (by simp))
  |int j=>obtain⟨t',rfl⟩:=ry;exact PySem.EqNone.ne_none_int (aP I q (by simp))
  |str j=>obtain⟨t',rfl⟩:=ry;exact PySem.EqNone.ne_none_str (aP I q (by simp))
  |_=>exact absurd (show false=true from hs) Bool.false_ne_true
 |bl i =>
  cases rx;cases y with
  |non=>cases ry;exact PySem.EqNone.ne_bool_none (aP I q (by simp))
  |bl j=>cases ry;exact ne_bool (aP I q (congrArg not rp))
  |str j=>obtain⟨t',rfl⟩:=ry;exact PySem.EqMixed.ne_bool_str (aP I q (by simp))
  |_=>exact absurd (show false=true from hs) Bool.false_ne_true
 |int i =>
  obtain⟨t,rfl⟩:=rx;cases y with
  |non=>cases ry;exact PySem.EqNone.ne_int_none (aP I q (by simp))
  |int j=>obtain⟨t',rfl⟩:=ry;exact ne_int (aP I q (congrArg not oB))
  |str j=>obtain⟨t',rfl⟩:=ry;exact PySem.EqMixed.ne_int_str (aP I q (by simp))
  |_=>exact absurd (show false=true from hs) Bool.false_ne_true
 |str i =>
  obtain⟨t,rfl⟩:=rx;cases y with
  |non=>cases ry;exact PySem.EqNone.ne_str_none (aP I q (by simp))
  |bl j=>cases ry;exact PySem.EqMixed.ne_str_bool (aP I q (by simp))
  |int j=>obtain⟨t',rfl⟩:=ry;exact PySem.EqMixed.ne_str_int (aP I q (by simp))
  |str j=>obtain⟨t',rfl⟩:=ry;exact ne_str (aP I q (congrArg not oC))
  |_=>exact absurd (show false=true from hs) Bool.false_ne_true
 |byt i =>
  obtain⟨t,rfl⟩:=rx;cases y with
  |byt j=>obtain⟨t',rfl⟩:=ry;exact PySem.W.ne_bytes (aP I q (congrArg not oD))
  |_=>exact absurd (show false=true from hs) Bool.false_ne_true
 |_=>cases y<;>exact absurd (show false=true from hs) Bool.false_ne_true
theorem rq:OpR X (compareOp .Lt) (rI0 λi j=>.bl (decide (i<j))):=wB λ_ _ _ _ _ _ _ q=>lt_int q
theorem oE:OpR X (compareOp .LtE) (rI0 λi j=>.bl (decide (i≤j))):=wB λ_ _ _ _ _ _ _ q=>le_int q
theorem yt:OpR X (compareOp .Gt) (rI0 λi j=>.bl (decide (j<i))):=wB λ_ _ _ _ _ _ _ q=>gt_int q
theorem qb:OpR X (compareOp .In) (λx y H Q=>∃i j,x=.str i∧y=.str j∧Q (.bl (!(Builtin.Str.occurrences j i 0 j.length 1).isEmpty)) H):=by
 intro pins s σ H x y v u Q I rx ry h;obtain⟨i,j,rfl,rfl,q⟩:=h;obtain⟨t,rfl⟩:=rx;obtain⟨t',rfl⟩:=ry;exact in_str (aP I q rfl)
theorem km:OpR X (compareOp .Is) (λx y H Q=>y=.non∧Q (.bl (decide (x=.non))) H):=by
 intro pins s σ H x y v u Q I rx ry h;obtain⟨rfl,q⟩:=h;cases ry;refine is_none_gen (aP I q ?_);cases x<;>first
  |(cases rx;rfl)
  |(obtain⟨t,rfl⟩:=rx;rfl)
theorem oF:OpR X (compareOp .IsNot) (λx y H Q=>y=.non∧Q (.bl (!decide (x=.non))) H):=by
 intro pins s σ H x y v u Q I rx ry h;obtain⟨rfl,q⟩:=h;cases ry;refine isnot_none_gen (aP I q ?_);cases x<;>first
  |(cases rx;rfl)
  |(obtain⟨t,rfl⟩:=rx;rfl)
theorem OpR.or{f:Value→Value→Sem Value}{r r':R2}(h:OpR X f r)(h':OpR X f r'):OpR X f (λx y H Q=>r x y H Q∨r' x y H Q):=by
 intro pins s σ H x y v u Q I rx ry q;rcases q with q|q
 ·exact h pins s σ H x y v u Q I rx ry q
 ·exact h' pins s σ H x y v u Q I rx ry q
theorem aB(b:Expr){op:CmpOp}(h:op≠.In:=by decide)(h2:op≠.NotIn:=by decide):behindInMarks op b=false:=by
 have e1:(op==CmpOp.In)=false:=by cases op<;>first|rfl|exact absurd rfl h
 have e2:(op==CmpOp.NotIn)=false:=by cases op<;>first|rfl|exact absurd rfl h2
 cases b<;>simp[behindInMarks,e1,e2]
theorem cQ{op:CmpOp}{r:R2}(ho:OpR X (compareOp op) r)(ha:PE X a ta)(hb:PE X b tb)(hm:behindInMarks op b=false):PE X (.Compare a [op] [b] pos) (tOp r ta tb):=by
 intro pins s σ H Q I h;exact wpAny_Compare1 (wA ha hb I h λv u s2 x y H2 I2 rx ry q=>ho pins s2 σ H2 x y v u Q I2 rx ry q) hm
def vW(t:TE):TT:=λσ H Q=>t σ H λx H'=>∃k,x=.bl k∧Q k H'
theorem av{op:CmpOp}{r:R2}(ho:OpR X (compareOp op) r)(ha:PE X a ta)(hb:PE X b tb)(hm:behindInMarks op b=false):PT X (.Compare a [op] [b] pos) (vW (tOp r ta tb)):=by
 intro pins s σ H Q I h;refine wpAny_isTrue_Compare1 (thn (ha pins s σ H _ I h) λv s1 ⟨x,H1,I1,r1,q1⟩=>thn (hb pins s1 σ H1 _ I1 q1) λu s2 ⟨y,H2,I2,r2,q2⟩ =>
  thn (ho pins s2 σ H2 x y v u _ I2 r1 r2 q2) λc s3 ⟨z,H3,I3,r3,k,e,q3⟩=>?_) hm
 subst e;cases r3;exact wpAny_truthy_bool ⟨H3,I3,q3⟩
def rA(r r':R2)(ta tb tc:TE):TE:=λσ H Q=>ta σ H λx H1=>tb σ H1 λy H2=>r x y H2 λz H3=>∃k,z=.bl k ∧
 (if k=true then tc σ H3 λw' H4=>r' y w' H4 Q else Q (.bl false) H3)
theorem rB{op op':CmpOp}{r r':R2}(ho:OpR X (compareOp op) r)(ho':OpR X (compareOp op') r')(ha:PE X a ta)(hb:PE X b tb)(hc:PE X c tc)(hm:lastMarks [op,op'] [b,c]=false:=by with_unfolding_all rfl):PE X (.Compare a [op,op'] [b,c] pos) (rA r r' ta tb tc):=by
 intro pins s σ H Q I h;refine Compare_chain (thn (ha pins s σ H _ I h) λv s1 ⟨x,H1,I1,r1,q1⟩=>chain_link (thn (hb pins s1 σ H1 _ I1 q1) λu s2 ⟨y,H2,I2,r2,q2⟩ =>
  thn (ho pins s2 σ H2 x y v u _ I2 r1 r2 q2) λd s3 ⟨z,H3,I3,r3,k,e,q3⟩=>?_)) hm
 subst e;cases r3;refine wpAny_truthy_bool ?_;cases k with
 |false=>exact ite_ff ⟨.bl false,H3,I3,rfl,q3⟩
 |true=>exact ite_tt (chain_last (thn (hc pins s3 σ H3 _ I3 q3) λw' s4 ⟨z',H4,I4,r4,q4⟩=>ho' pins s4 σ H4 y z' u w' Q I4 r2 r4 q4))
theorem rC{op op':CmpOp}{r r':R2}(ho:OpR X (compareOp op) r)(ho':OpR X (compareOp op') r')(ha:PE X a ta)(hb:PE X b tb)(hc:PE X c tc)(hm:lastMarks [op,op'] [b,c]=false:=by with_unfolding_all rfl):PT X (.Compare a [op,op'] [b,c] pos) (vW (rA r r' ta tb tc)):=by
 intro pins s σ H Q I h;refine isTrue_chain (thn (ha pins s σ H _ I h) λv s1 ⟨x,H1,I1,r1,q1⟩=>test_link (thn (hb pins s1 σ H1 _ I1 q1) λu s2 ⟨y,H2,I2,r2,q2⟩ =>
  thn (ho pins s2 σ H2 x y v u _ I2 r1 r2 q2) λd s3 ⟨z,H3,I3,r3,k,e,q3⟩=>?_)) hm
 subst e;cases r3;refine wpAny_truthy_bool ?_;cases k with
 |false =>
  obtain⟨k',e',q'⟩:=q3;cases e';exact ite_ff ⟨H3,I3,q'⟩
 |true =>
  refine ite_tt (test_last (thn (hc pins s3 σ H3 _ I3 q3) λw' s4 ⟨z',H4,I4,r4,q4⟩=>thn (ho' pins s4 σ H4 y z' u w' _ I4 r2 r4 q4) λd' s5 hpt=>?_));obtain⟨z2,H5,I5,r5,k2,e2,q5⟩:=hpt;subst e2;cases r5;exact wpAny_truthy_bool ⟨H5,I5,q5⟩
def yu(K:PySem.W.Frag)(x:V)(H:Hp)(k:Bool):Prop :=
 match x with
 |.non=>k=false
 |.bl b=>k=b
 |.int i=>k=(i != 0)
 |.str y=>y.length≤sizeLine∧k=((y.length:Int) != 0)
 |.byt y=>y.size≤sizeLine∧k=((y.size:Int) != 0)
 |.ref p=>(∃xs,SqL K H p xs∧k = !xs.isEmpty)∨(∃xs,SqT K H p xs∧k = !xs.isEmpty)∨∃kvs,H p=some (.dK kvs)∧k = !kvs.isEmpty
 |_=>False
theorem nc{κ:Type}{kvs:List (κ×V)}{vs:List (κ×Value)}(r:KV kvs vs):(!vs.isEmpty) = !kvs.isEmpty:=by
 cases r<;>rfl
theorem iJ{xs:List V}{its:List Value}(r:ax xs its):(!its.toArray.isEmpty) = !xs.isEmpty:=by
 cases r<;>simp
theorem iK:(sizeLine:Nat)<2 ^ 63:=by rw[sizeLine_eq];decide
theorem wE:zy X (λx H Q=>∃k,yu X.K x H k∧Q k H):=by
 intro pins s σ H x v Q I rx h;obtain⟨k,e,q⟩:=h;have hl:=iK;have hs:sizeLine=16777216:=sizeLine_eq;cases x with
 |non =>
  cases rx;have e':k=false:=e;subst e';exact truthy_none ⟨H,I,q⟩
 |bl b =>
  cases rx;have e':k=b:=e;subst e';exact wpAny_truthy_bool ⟨H,I,q⟩
 |int i =>
  obtain⟨t,rfl⟩:=rx;have e':k=(i != 0):=e;subst e';exact PySem.P.truthy_int ⟨H,I,q⟩
 |str y =>
  obtain⟨t,rfl⟩:=rx;obtain⟨hy,e'⟩:y.length≤sizeLine∧k=((y.length:Int) != 0):=e;subst e';exact PySem.P.truthy_str (by omega) ⟨H,I.tok _,q⟩
 |byt y =>
  obtain⟨t,rfl⟩:=rx;obtain⟨hy,e'⟩:y.size≤sizeLine∧k=((y.size:Int) != 0):=e;subst e';exact PySem.W.truthy_bytes (by omega) ⟨H,I.tok _,q⟩
 |ref p =>
  cases rx;have e':(∃xs,SqL X.K H p xs∧k = !xs.isEmpty)∨(∃xs,SqT X.K H p xs∧k = !xs.isEmpty)∨∃kvs,H p=some (.dK kvs)∧k = !kvs.isEmpty:=e;rcases e' with⟨xs,hx,e'⟩|⟨xs,hx,e'⟩|⟨kvs,hx,e'⟩
  ·subst e';obtain⟨its,r,pl,hz⟩:=I.list hx;have hlen:=r.length;exact wpAny_truthy_list pl.isList (by simp only[size_toArray];omega) ⟨H,I.tok _,by rw[iJ r];exact q⟩
  ·subst e';obtain⟨its,r,pl,hz⟩:=I.tuple hx;have hlen:=r.length;exact truthy_tuple pl (by simp only[size_toArray];omega) ⟨H,I.tok _,by rw[iJ r];exact q⟩
  ·subst e';obtain⟨hz,hS,vs,r,m⟩:kvs.length≤sizeLine∧(p==sysModules)=false∧∃vs,KV kvs vs∧s.heap.DictOf (aE X.prog X.w) p vs:=I.hok p _ hx;have hlen:kvs.length=vs.length:=Paired.length r;exact wpAny_truthy_dict hS m (by omega) ⟨H,I.tok _,by rw[nc r];exact q⟩
 |_=>exact(show False from e).elim
theorem rD(ha:PE X a ta)(he:∀whole,isTrue a X.env whole=(do let v ← whole;standAt a.pos;holding [v] (truthy v))):
  PT X a (λσ H Q=>ta σ H λx H'=>∃k,yu X.K x H' k∧Q k H'):=by
 intro pins s σ H Q I h;exact isTrue_plain (thn (ha pins s σ H _ I h) λv s1 ⟨x,H1,I1,r1,q1⟩=>wE pins s1 σ H1 x v Q I1 r1 q1) (he _)
theorem ci{x:V}{us:List Value}(r:ax [x] us):∃u,us=[u]∧aJ x u:=by
 cases r with
 |cons r1 r2=>cases r2;exact⟨_,rfl,r1⟩
theorem oG{x y:V}{us:List Value}(r:ax [x,y] us):∃u w',us=[u,w']∧aJ x u∧aJ y w':=by
 cases r with
 |cons r1 r2 =>
  cases r2 with
  |cons r3 r4=>cases r4;exact⟨_,_,rfl,r1,r3⟩
end
structure ObjM(h:Heap)(x dx C:Addr)(mA:Str→Option Value):Prop where
 obj:h.get? x=some (instObj C dx)
 ns:h.Ns1 dx mA
 ne:dx≠x
theorem qc{h:Heap}{dx:Addr}{mA:Str→Option Value}(n:h.Ns1 dx mA):∃od,h.get? dx=some od∧∀name,lookIn name od=some (mA name):=by
 obtain⟨o,es,ep,ho,hd,hk,_,hm⟩:=n;refine⟨o,ho,λname=>?_⟩;have e:=hm name;unfold nsFind findBy at e;rw[←Array.find?_toList]at e;unfold lookIn;rw[hd];dsimp only
 split
 ·rename_i y q
  rw[q]at e;exact congrArg some e
 ·rename_i q
  rw[q]at e;have a:es.toList.any (·.refKey)=false:=by
   rw[List.any_eq_false];intro y hy;obtain⟨z,t,hkey⟩:=hk y (Array.mem_toList_iff.mp hy);simp[DictEntry.refKey,hkey]
  have a':¬es.toList.any (·.refKey)=true:=by rw[a];exact Bool.false_ne_true
  rw[if_neg a'];exact congrArg some e
theorem ObjM.look{h:Heap}{x dx C:Addr}{mA:Str→Option Value}(I:ObjM h x dx C mA):∃od,PySem.W.InstAt h x (instObj C dx) C (some od)∧∀name,lookIn name od=some (mA name) :=
 let⟨od,ho,hl⟩:=qc I.ns
 ⟨od,⟨I.obj,rfl,rfl,ho⟩,hl⟩
section
variable{prog:Program}{w:World}{A:Around}{E:Value→Shared→Prop}{s:Shared}{K:PySem.W.Frag}{x dx C f:Addr}{mA:Str→Option Value}{name:Str}{v:Value}
end
theorem fu.some_of{v:V}{o:Option Value}(r:fu (some v) o):∃u,o=some u∧aJ v u:=by
 cases o with
 |none=>exact(show False from r).elim
 |some u=>exact⟨u,rfl,r⟩
theorem fu.none_of{o:Option Value}(r:fu none o):o=none:=by
 cases o with
 |none=>rfl
 |some u=>exact(show False from r).elim
section
variable{P:Program}{w:World}{H H':Hp}{h h':Heap}{a C dx:Addr}{fs fs':List (Str×V)}
theorem uw(hok:HOk P w H h)(e:H a=some (.ins C dx fs)):∃mA,ObjM h a dx C mA∧(∀f,fu (fs.lookup f) (mA f))∧PySem.Within mA (fs.map (·.1))∧fs.length≤1000∧H dx=some (.own a):=by
 obtain⟨d,z,ne,ob,mA,n,r,q⟩:=(show bd P w H h a (.ins C dx fs)from hok a _ e);exact⟨mA,⟨ob,n,ne⟩,r,q,z,d⟩
end
structure Cls(K:PySem.W.Frag)(C:Addr):Prop where
 pg:plainGet K C empty=true
 hd:PySem.W.hasDictIn K C=true
 po:PySem.W.plainOver K C=true
 sa:PySem.W.findIn K (.ref C) "__setattr__"=some (some (.builtin "object.__setattr__"))
theorem Cls.get{K:PySem.W.Frag}{C:Addr}(c:Cls K C)(f:Str):plainGet K C f=true:=c.pg
section
variable{X:Cx}{pins:List (Addr×Obj)}{σ:St}{H:Hp}{s:Shared}{a C dx:Addr}{fs:List (Str×V)}{f:Str}{v:V}{A:Around}{E:Value→Shared→Prop}
end
section
variable{X:Cx}{o e value:Expr}{f:Str}{pos pos' tpos:Pos}{ta tv:TE}
end
section
variable{X:Cx}{pins:List (Addr×Obj)}{σ:St}{H:Hp}{s:Shared}{A:Around}{E:Value→Shared→Prop}{Q:Value→Shared→Prop}{c:Value}{b:Bool}
inductive TyOf(K:PySem.W.Frag)(H:Hp):V→Value→Prop where
 |non:TyOf K H .non (.type "NoneType")
 |bl (x:Bool):TyOf K H (.bl x) (.type "bool")
 |int (i:Int):TyOf K H (.int i) (.type "int")
 |str (x:Str):TyOf K H (.str x) (.type "str")
 |flt (x:UInt64):TyOf K H (.flt x) (.type "float")
 |lst {a:Addr} {xs:List V} (e:H a=some (.lst xs)):TyOf K H (.ref a) (.type "list")
 |frz {a:Addr} {o:Obj} {xs:List V} (e:H a=some (.frz o (.lst xs))):TyOf K H (.ref a) (.type "list")
 |tup {a:Addr} {xs:List V} (e:H a=some (.tup xs)):TyOf K H (.ref a) (.type "tuple")
 |dK {a:Addr} {kvs:List (Key×V)} (e:H a=some (.dK kvs)):TyOf K H (.ref a) (.type "dict")
 |dT {a:Addr} {kvs:List (List Key×V)} (e:H a=some (.dT kvs)):TyOf K H (.ref a) (.type "dict")
 |ins {a C dx:Addr} {fs:List (Str×V)} (e:H a=some (.ins C dx fs)) (cl:Cls K C) (ha:PySem.W.findIn K (.ref C) "__class__"=some (some (.builtin "object.__class__")))
   (hn:PySem.W.specialIn K (.builtin "object.__class__") "__get__"=some (some (.builtin "getset_descriptor.__get__"))) (htk:PySem.W.takesIn K (.builtin "object.__class__")=some true)
   (hm:mroIn K C (.type "object")=some true):TyOf K H (.ref a) (.ref C)
theorem qd{x:V}{u t:Value}(I:Inv X pins σ H s)(rx:aJ x u)(ty:TyOf X.K H x t)(e:kitOne X.K t c=some b)(h:∀tk,Q (.bool b) {s with toks:=tk}):
  wpAny (model X.prog X.w) A (call (.builtin "isinstance") [u,c]) Q E s:=by
 cases ty with
 |non=>cases (show u=Value.none from rx);exact kia_one PySem.W.kitx_none I.kIn True.intro e (λz=>nomatch z) h
 |bl y=>cases (show u=Value.bool y from rx);exact kia_one PySem.W.kitx_bool I.kIn True.intro e (λz=>nomatch z) h
 |int i=>obtain⟨t,q⟩:=(show ∃t,u=Value.int i t from rx);cases q;exact kia_one PySem.W.kitx_int I.kIn True.intro e (λz=>nomatch z) h
 |str y=>obtain⟨t,q⟩:=(show ∃t,u=Value.str y t from rx);cases q;exact kia_one PySem.W.kitx_str I.kIn True.intro e (λz=>nomatch z) h
 |flt y=>obtain⟨t,q⟩:=(show ∃t,u=float y t from rx);cases q;exact kia_one PySem.W.kitx_float I.kIn True.intro e (λz=>nomatch z) h
 |@lst a xs ea =>
  cases (show u=Value.ref a from rx);obtain⟨_,_,n,_,h1⟩:=(show bd X.prog X.w H s.heap a (.lst xs)from I.hok a _ ea);exact kia_one kitx_list I.kIn ⟨_,h1,rfl⟩ e (λz=>nomatch z) h
 |@frz a ob xs ea =>
  cases (show u=Value.ref a from rx);obtain⟨_,_,_,n,_,h1⟩:=(show bd X.prog X.w H s.heap a (.frz ob (.lst xs))from I.hok a _ ea);exact kia_one kitx_list I.kIn ⟨_,h1,rfl⟩ e (λz=>nomatch z) h
 |@tup a xs ea =>
  cases (show u=Value.ref a from rx);obtain⟨_,_,_,p⟩:=(show bd X.prog X.w H s.heap a (.tup xs)from I.hok a _ ea);obtain⟨o,h1,h2,_⟩:=p;exact kia_one PySem.W.kitx_tuple I.kIn ⟨o,h1,h2⟩ e (λz=>nomatch z) h
 |@dK a kvs ea =>
  cases (show u=Value.ref a from rx);obtain⟨_,_,vs,_,p⟩:=(show bd X.prog X.w H s.heap a (.dK kvs)from I.hok a _ ea);obtain⟨o,es,ep,h1,h2,_⟩:=p;exact kia_one kitx_dict I.kIn ⟨o,h1,h2.1⟩ e (λz=>nomatch z) h
 |@dT a kvs ea =>
  cases (show u=Value.ref a from rx);obtain⟨_,_,xs,_,o,es,ep,h1,h2,_⟩:=(show bd X.prog X.w H s.heap a (.dT kvs)from I.hok a _ ea);exact kia_one kitx_dict I.kIn ⟨o,h1,h2.1⟩ e (λz=>nomatch z) h
 |@ins a C dx fs ea cl ha hn htk hm =>
  cases (show u=Value.ref a from rx);obtain⟨mA,O,_⟩:=uw I.hok ea;obtain⟨od,J,_⟩:=O.look;exact kia_one (PySem.W.kitx_own (cl.get _) cl.hd ha hn htk hm) I.kIn J e (λz=>nomatch z) h
end
structure Room(k:Nat)(A:Around):Prop where
 hd:A.handled=none
 dp:A.depth+3*k+5<recursionLimit
 un:A.units+16*k+200<cLine
theorem Room.mono{j k:Nat}{A:Around}(r:Room k A)(h:j≤k):Room j A:=⟨r.hd,by have:=r.dp;omega,by have:=r.un;omega⟩
theorem Room.deeper{k:Nat}{A:Around}(r:Room (k+1) A)(env:Env):Room k (A.deeper env) :=
 ⟨r.hd,by have:=r.dp;show A.depth+1+3*k+5<_;omega,by have:=r.un;show A.units+3+16*k+200<_;omega⟩
theorem Room.depth{k:Nat}{A:Around}(r:Room k A):A.depth<recursionLimit:=by have:=r.dp;omega
theorem Room.units{k:Nat}{A:Around}(r:Room k A):A.units+64<cLine:=by have:=r.un;omega
theorem Room.units0{k:Nat}{A:Around}(r:Room k A):A.units<cLine:=by have:=r.un;omega
def ng:TA:=λ_ H Q=>Q [] H
def hX(ta:TE)(tr:TA):TA:=λσ H Q=>ta σ H λx H1=>tr σ H1 λxs H2=>Q (x::xs) H2
section
variable{X:Cx}{e:Expr}{es:List Expr}{te:TE}{t:TA}{pos:Pos}
theorem ae:PA X [] ng:=λ_ _ _ _ H Q I h=>spliced_nil ⟨[],H,I,.nil,h⟩
theorem aa(ha:PE X e te)(hr:PA X es t)(hs:starEach (e::es) X.env=(false,eval e X.env)::starEach es X.env:=by rfl):PA X (e::es) (hX te t):=by
 intro pos pins s σ H Q I h;rw[hs];show wpAny _ _ (spliced ((false,eval e X.env)::backTo pos (starEach es X.env))) _ _ s;refine spliced_cons (thn (ha pins s σ H _ I h) λu s1 hpt=>?_);obtain⟨x,H1,I1,r1,q1⟩:=hpt;exact thn (hr pos pins s1 σ H1 _ I1 q1) λus s2 ⟨xs,H2,I2,r2,q2⟩=>⟨x::xs,H2,I2,.cons r1 r2,q2⟩
def zB(t:TA):TE:=λσ H Q=>t σ H λxs H1=>xs.length≤sizeLine∧∀p,H1 p=none→Q (.ref p) (upd H1 p (.tup xs))
def zC(t:TA):TE:=λσ H Q=>t σ H λxs H1=>xs.length≤sizeLine∧∀p,H1 p=none→Q (.ref p) (upd H1 p (.lst xs))
theorem bq{x1}(h:PA X es t):PE X (.Tuple es x1 pos) (zB t):=by
 intro pins s σ H Q I hq;refine wpAny_Tuple_spliced (thn (h pos pins s σ H _ I hq) λus s1 ⟨xs,H1,I1,r,z,q⟩=>⟨by rw[←r.length];exact z,?_⟩);have hf:H1 s1.heap.objs.size=none:=I1.hok.fresh (le_refl _);refine⟨.ref s1.heap.objs.size,upd H1 s1.heap.objs.size (.tup xs),I1.laid (t':=s1.toks) (λb u e=>get?_push_of_some _ e) (le_refl _) ?_,rfl,q _ hf⟩;exact⟨z,us,r,⟨_,get?_push_size _ rfl,rfl,_,rfl⟩⟩
theorem bj(h:PA X es t):PE X (.List es pos) (zC t):=by
 intro pins s σ H Q I hq;refine wpAny_List_spliced (thn (h pos pins s σ H _ I hq) λus s1 ⟨xs,H1,I1,r,z,q⟩=>⟨by rw[←r.length];exact z,?_⟩);have hf:H1 s1.heap.objs.size=none:=I1.hok.fresh (le_refl _);refine⟨.ref s1.heap.objs.size,upd H1 s1.heap.objs.size (.lst xs),I1.laid (t':=s1.toks) (λb u e=>get?_push_of_some _ e) (le_refl _) ?_,rfl,q _ hf⟩;exact⟨z,us,0,r,get?_push_size _ rfl⟩
end
abbrev Sp:=List V→Hp→VK→XK→Prop
abbrev CXT:=List Env→Hp→Shared→XK→Value→Shared→Prop
structure Env0(P:Program)(w:World)(K:PySem.W.Frag)(mg:Str→Option Value)(base:Heap)(A:Around)(outer:List Env)(s:Shared)(H:Hp):Prop where
 frames:A.frames=some outer
 mod:Mod K mg base
 bs:∀b o,base.get? b=some o→s.heap.get? b=some o∧H b=none
 bsz:base.objs.size≤s.heap.objs.size
 funs:s.heap.FunFrames base outer
 frf:∀b∈frs outer,H b=none
 hok:HOk P w H s.heap
 bare:AllBare s.gens
def CE(outer:List Env)(P:Program)(w:World)(H:Hp)(s:Shared)(Q:VK)(u:Value)(s':Shared):Prop :=
 ∃v H',s'.os=s.os∧AllBare s'.gens∧Un (frs outer) [] H H' s.heap s'.heap∧HOk P w H' s'.heap∧aJ v u∧Q v H'
def CR(CX:CXT)(outer:List Env)(P:Program)(w:World)(H:Hp)(s:Shared)(Q:VK)(E:XK)(r:Result)(s':Shared):Prop :=
 match r with
 |.ok (.ret u)=>CE outer P w H s Q u s'
 |.ok _=>False
 |.error e=>CX outer H s E e s'
structure FnOk(P:Program)(w:World)(K:PySem.W.Frag)(mg:Str→Option Value)(base:Heap)(CX:CXT)(k:Nat)(f:Addr)(fd:FuncData)(ps:List Str)(sp:Sp):Prop where
 len:∀vs H Q E,sp vs H Q E→vs.length=ps.length
 run:∀(A:Around)(outer:List Env)(s:Shared)(H:Hp)(args:Args)(us:List Value)(vs:List V)(Q:VK)(E:XK),Room k A→Env0 P w K mg base A outer s H→BindsTo s fd args (ps.zip us)→ax vs us→sp vs H Q E →
  codeAny (model P w) A (.call (.ref f) args) (CR CX outer P w H s Q E) s
section
variable{X:Cx}{pins:List (Addr×Obj)}{σ:St}{H:Hp}{s s':Shared}
theorem Inv.env0(I:Inv X pins σ H s):Env0 X.prog X.w X.K X.mg X.base X.A X.stack s H :=
 ⟨I.ok.frames,I.ok.mod,I.bs,le_trans I.ok.bsz I.sz,I.stack,I.stkFree,I.hok,I.bare⟩
theorem Inv.after{Q:VK}{u:Value}(I:Inv X pins σ H s)(h:CE X.stack X.prog X.w H s Q u s'):EP X pins σ Q u s':=by
 obtain⟨v,H',os,bare,un,hok,r,q⟩:=h;obtain⟨hh,g,d,t,os'⟩:=s';obtain rfl:os'=s.os:=os;exact⟨v,H',I.call (h':=hh) (g':=g) (d':=d) (t':=t) (ch:=[]) un hok bare (λb z=>absurd z (by simp)),r,q⟩
end
def rE(sp:Sp)(dvs:List V)(E:XK)(t:TA):TE:=λσ H Q=>t σ H λvs H1=>sp (vs++dvs) H1 Q E
def cj(K:PySem.W.Frag)(fd:FuncData)(ps:List Str)(ds:List Value):Prop :=
 ∀(s:Shared)(us:List Value),K.In s.heap→(us++ds).length=ps.length→BindsTo s fd ⟨us,[]⟩ (ps.zip (us++ds))
theorem cj.all{K:PySem.W.Frag}{fd:FuncData}{ps:List Str}(h:∀us:List Value,us.length=ps.length→bindArgs fd ⟨us,[]⟩=pure (ps.zip us)):cj K fd ps []:=λs us _ hl=>by
 rw[append_nil]at hl⊢;exact .of_eq (h us hl)
def dw(CX:CXT)(X:Cx)(E:XK):Prop:=∀(pins:List (Addr×Obj))(σ:St)(H:Hp)(s:Shared)(e:Value)(s':Shared),Inv X pins σ H s→CX X.stack H s E e s'→X.xe e s'
section
variable{X:Cx}{CX:CXT}{k:Nat}{f C:Addr}{fd:FuncData}{ps:List Str}{sp:Sp}{dvs:List V}{ds:List Value}{E:XK}{x m:Str}{p pos apos:Pos}{e o:Expr}{es:List Expr}{ta:TE}{t:TA}
theorem rF{pins:List (Addr×Obj)}{σ:St}{H:Hp}{s:Shared}{Q:VK}{us:List Value}{vs:List V}(F:FnOk X.prog X.w X.K X.mg X.base CX k f fd ps sp)(hr:Room k X.A)(hb:cj X.K fd ps ds)(hd:ax dvs ds)(hx:dw CX X E)(I:Inv X pins σ H s)(r:ax vs us)(h:sp (vs++dvs) H Q E):wpAny (model X.prog X.w) X.A (call (.ref f) us) (EP X pins σ Q) X.xe s:=by
 have r2:ax (vs++dvs) (us++ds):=r.append hd;have hl:(us++ds).length=ps.length:=by rw[←r2.length];exact F.len _ _ _ _ h
 refine wpAny_call (codeAny_mono (F.run X.A X.stack s H ⟨us,[]⟩ (us++ds) (vs++dvs) Q E hr I.env0 (hb s us I.kIn hl) r2 h) λr s' hq=>?_);cases r with
 |error e=>exact hx pins σ H s e s' I hq
 |ok fl =>
  cases fl with
  |ret u=>exact I.after hq
  |next=>exact False.elim hq
  |brk=>exact False.elim hq
  |cont=>exact False.elim hq
theorem ak(F:FnOk X.prog X.w X.K X.mg X.base CX k f fd ps sp)(hr:Room k X.A)(hg:Gl X x)(hm:X.mg x=some (.ref f))(hk:keepIn X.K (.ref f)=true)(hb:cj X.K fd ps ds)(hd:ax dvs ds)(hx:dw CX X E)(ha:PA X (e::es) t)(hdb:(x==("__debug__":Str))=false:=by decide)(he:starEach (e::es) X.env=(false,eval e X.env)::starEach es X.env:=by rfl)(hpl:(backTo pos (starEach es X.env)).any (·.1)=false:=by rfl):
  PE X (.Call (.Name x p) (e::es) [] pos) (rE sp dvs E t):=by
 intro pins s σ H Q I h;refine wpAny_Call_Name_kw (fX I hg hm ?_ hdb);refine callWith_K (h₀:=X.base) I.ok.mod.kin hk (thn (ha pos pins s σ H _ I h) λus s1 ⟨vs,H1,I1,r,q⟩=>⟨I1.kIn,?_⟩) he hpl;exact rF F hr hb hd hx I1 r q
end
section
variable{X:Cx}{CX:CXT}{k:Nat}{f C:Addr}{fd:FuncData}{ps ks:List Str}{sp:Sp}{E:XK}{x m:Str}{p pos apos kpos:Pos}{e o:Expr}{es:List Expr}{kws:List Keyword}{te ta:TE}{t tk:TA}{nm:Option Str}
variable{g:List Value→List Value→List Value}{gV:List V→List V→List V}
end
structure FnScope(N P:List Str)(sc:Scope):Prop where
 kind:sc.kind=.function
 co:sc.isCoroutine=false
 gen:sc.isGenerator=false
 nd:N.Nodup
 pre:N.take P.length=P
 par:∀x∈P,sc.names.lookup x=some .local∨sc.names.lookup x=some .cell
 nofree:∀y∈sc.names,y.2≠.free
theorem fsc{N P:List Str}{c:Scope}(a:c.kind=.function:=by rfl)(b:c.isCoroutine=false:=by rfl)(d:c.isGenerator=false:=by rfl)(e:N.Nodup:=by decide +kernel)(f:N.take P.length=P:=by rfl)(g:∀x∈P,c.names.lookup x=some .local∨c.names.lookup x=some .cell:=by decide +kernel)(h:∀y∈c.names,y.2≠.free:=by decide +kernel):FnScope N P c:=⟨a,b,d,e,f,g,h⟩
theorem jD{kindOf:Str→Option NameKind}{x:Str}:∀{binds:List (Str×Value)}{m:Str→Option Value},(∀v,(x,v)∉binds)→bindL kindOf binds m x=m x
 |[],_,_=>rfl
 |(n,v)::r,m,h=>by
  unfold bindL;rw[jD λw hw=>h w (mem_cons_of_mem _ hw)]
  split
  ·have:x≠n:=by rintro rfl;exact h v mem_cons_self
   simp[this]
  ·rfl
theorem jE{kindOf:Str→Option NameKind}{x:Str}:∀{binds:List (Str×Value)}{m:Str→Option Value},(∀v,(x,v)∉binds)→bindC kindOf binds m x=m x
 |[],_,_=>rfl
 |(n,v)::r,m,h=>by
  unfold bindC;rw[jE λw hw=>h w (mem_cons_of_mem _ hw)]
  split
  ·rfl
  ·have:x≠n:=by rintro rfl;exact h v mem_cons_self
   simp[this]
theorem gT{kindOf:Str→Option NameKind}{x:Str}{v:Value}:∀{P:List Str}{vs:List Value}{i:Nat}{m:Str→Option Value},P.Nodup→P[i]?=some x→vs[i]?=some v→kindOf x=some .local →
  bindL kindOf (P.zip vs) m x=some v
 |[],_,_,_,_,h,_,_=>by simp at h
 |_::_,[],_,_,_,_,h,_=>by simp at h
 |p::P,w::vs,0,m,nd,h1,h2,hk=>by
  simp at h1 h2;subst h1;subst h2;show bindL kindOf ((p,w)::P.zip vs) m p=_;unfold bindL;rw[jD λv hv=>(nodup_cons.mp nd).1 (of_mem_zip hv).1,if_pos hk];simp
 |p::P,w::vs,i+1,m,nd,h1,h2,hk=>by
  show bindL kindOf ((p,w)::P.zip vs) m x=_;unfold bindL;exact gT (i:=i) (nodup_cons.mp nd).2 (by simpa using h1) (by simpa using h2) hk
theorem gU{kindOf:Str→Option NameKind}{x:Str}{v:Value}:∀{P:List Str}{vs:List Value}{i:Nat}{m:Str→Option Value},P.Nodup→P[i]?=some x→vs[i]?=some v→kindOf x≠some .local →
  bindC kindOf (P.zip vs) m x=some v
 |[],_,_,_,_,h,_,_=>by simp at h
 |_::_,[],_,_,_,_,h,_=>by simp at h
 |p::P,w::vs,0,m,nd,h1,h2,hk=>by
  simp at h1 h2;subst h1;subst h2;show bindC kindOf ((p,w)::P.zip vs) m p=_;unfold bindC;rw[jE λv hv=>(nodup_cons.mp nd).1 (of_mem_zip hv).1,if_neg hk];simp
 |p::P,w::vs,i+1,m,nd,h1,h2,hk=>by
  show bindC kindOf ((p,w)::P.zip vs) m x=_;unfold bindC;exact gU (i:=i) (nodup_cons.mp nd).2 (by simpa using h1) (by simpa using h2) hk
def start(N:List Str)(vs:List V):St:=vs.map some++List.replicate (N.length-vs.length) none
def gd(CX:CXT)(P:Program)(w:World)(K:PySem.W.Frag)(mg:Str→Option Value)(base:Heap)(N:List Str)(qual:Str)(scope:Scope)(f:Addr)(cd:Value)(A:Around)(outer:List Env)(s:Shared)(H:Hp)(E:XK):Cx where
 prog:=P
 w:=w
 K:=K
 mg:=mg
 base:=base
 A:=A.deeper (envOfC qual scope s.heap.objs.size f cd)
 N:=N
 s₀:=s
 H₀:=H
 env:=envOfC qual scope s.heap.objs.size f cd
 outer:=outer
 stack:=envOfC qual scope s.heap.objs.size f cd::outer
 ex:=[]
 calm:=true
 fn:=λ_=>true
 pn:=[]
 xe:=λe s'=>wpAny (model P w) (A.deeper (envOfC qual scope s.heap.objs.size f cd)) (leaving (envOfC qual scope s.heap.objs.size f cd) e) (λ_ s''=>CX outer H s E e s'') (λe' s''=>CX outer H s E e' s'') s'
theorem gf{sc:Scope}{n:Nat}{x:Str}(h:sc.names.lookup x=some .cell):∃c,(cellsFrom n sc.names []).lookup x=some c:=by
 have q:=cellsFrom_some sc.names n [] (.inl h);exact Option.isSome_iff_exists.mp q
theorem qe{CX:CXT}{P:Program}{w:World}{K:PySem.W.Frag}{mg:Str→Option Value}{base:Heap}{N ps:List Str}{qual:Str}{scope:Scope}{f:Addr}{cd:Value}{A:Around}{outer:List Env}{s s1:Shared}{H:Hp}{E:XK}{us:List Value}{vs:List V}(S:FnScope N ps scope)(hd:A.handled=none)(e0:Env0 P w K mg base A outer s H)(hl:vs.length=ps.length)(r:ax vs us)(x:InCallC s s.heap.objs.size (bindL (envOfC qual scope s.heap.objs.size f cd).kindOf (ps.zip us) λ_=>none) (cellsFrom (s.heap.objs.size+1) scope.names []) (bindC (envOfC qual scope s.heap.objs.size f cd).kindOf (ps.zip us) λ_=>none) s1):
  Inv (gd CX P w K mg base N qual scope f cd A outer s H E) [] (start N vs) H s1:=by
 have hpl:ps.length≤N.length:=by have:=congrArg length S.pre;rw[length_take]at this;omega
 obtain⟨h1,tk,rfl,hk⟩:=x.done;have noA:∀b:Addr,b∉(gd CX P w K mg base N qual scope f cd A outer s H E).ex:=λb z=>absurd (show b∈([]:List Addr)from z) (by simp);refine⟨⟨e0.mod,S.kind,rfl,rfl,le_refl _,λy z c h1 h2=>?_,λy hy=>?_,λy c _ h=>?_,λ_=>hd,Around.frames_deeper e0.frames,.inr ⟨rfl,rfl⟩,λb z=>absurd z (noA b),e0.bs,e0.bsz,λb _ _=>noA b,λb z=>absurd z (noA b),e0.funs,e0.frf⟩,
  rfl,e0.bare,Un.kept hk,⟨_,x.toInCall.ns,λi y v h1 h2 h3=>?_⟩,λy c h=>⟨_,x.cell y c h⟩,e0.hok.fresh (le_refl _),λy c h=>?_,λp hp=>absurd (show p∈([]:List (Addr×Obj))from hp) (by simp),e0.hok.kept hk,?_⟩
 ·exact name_of_addr x.apart (PySem.mem_of_lookup h1) (PySem.mem_of_lookup h2)
 ·have hy:scope.names.lookup y=some .cell∨scope.names.lookup y=some .free:=hy;rcases hy with hy|hy
  ·exact gf hy
  ·exact absurd rfl (S.nofree _ (PySem.mem_of_lookup hy))
 ·exact le_of_lt (x.above y c (PySem.mem_of_lookup h))
 ·have hi:i<vs.length:=by
   unfold start at h2
   by_cases hi:i<vs.length
   ·exact hi
   ·rw[getElem?_append_right (by simpa using hi)]at h2;rw[List.getElem?_replicate]at h2
    split at h2<;>cases h2
  have ha:vs[i]?=some v:=by
   unfold start at h2;rw[getElem?_append_left (by simpa using hi),getElem?_map]at h2;cases e:vs[i]? with
   |none=>rw[e]at h2;cases h2
   |some a=>rw[e]at h2;cases h2;rfl
  obtain⟨u,hu,rv⟩:=r.get ha;have hp:ps[i]?=some y:=by
   rw[←S.pre,List.getElem?_take_of_lt (by omega)];exact h1
  have ndP:ps.Nodup:=by rw[←S.pre];exact S.nd.sublist (take_sublist _ _)
  refine⟨u,rv,?_⟩;rcases S.par y (mem_of_getElem? hp)with k|k
  ·exact .inl ⟨k,gT ndP hp hu k⟩
  ·obtain⟨c,e⟩:=gf (n:=s.heap.objs.size+1) k;refine .inr ⟨.inl k,c,e,?_⟩;have q:=x.cell y c e;rw[gU ndP hp hu (by show scope.names.lookup y≠_;rw[k];decide)]at q;exact q
 ·exact e0.hok.fresh (le_of_lt (x.above y c (PySem.mem_of_lookup h)))
 ·unfold start;show _=N.length;rw[length_append,length_map,length_replicate];omega
theorem rG{CX:CXT}{P:Program}{w:World}{K:PySem.W.Frag}{mg:Str→Option Value}{base:Heap}{k:Nat}{f:Addr}{name qual:Str}{params:Arguments}{body:List Stmt}{scope:Scope}{dV kV doc pm cdv ct oc:Value}{an od:Option Addr}{osl:Array (Option Value)}{N ps:List Str}{sp:Sp}(lk:K.lookup f=some ⟨oc,od,.func (fnOf name qual params body scope dV kV doc pm an cdv ct),osl⟩)(hcd:codeIn K cdv qual=true)(S:FnScope N ps scope)(len:∀vs H Q E,sp vs H Q E→vs.length=ps.length)(hbody:∀(A:Around) (outer:List Env) (s:Shared) (H:Hp) (vs:List V) (Q:VK) (E:XK),Room k (A.deeper (envOfC qual scope s.heap.objs.size f cdv))→sp vs H Q E →
   ∃t,PSs (gd CX P w K mg base N qual scope f cdv A outer s H E) body t∧t {nx:=λ_ H'=>Q .non H',rt:=Q} (start N vs) H):
  FnOk P w K mg base CX (k+1) f (fnOf name qual params body scope dV kV doc pm an cdv ct) ps sp:=by
 refine⟨len,λA outer s H args us vs Q E hr e0 hb r hsp=>?_⟩;have hl:=len _ _ _ _ hsp;have KX:K.In s.heap:=e0.mod.kin.keeps λb o e=>(e0.bs b o e).1;have lim:s.heap.NoLimit:=e0.mod.nolimit.keeps λb o e=>(e0.bs b o e).1;have hkind:∀y∈ps.zip us,scope.names.lookup y.1=some .local∨(scope.names.lookup y.1=some .cell∧((cellsFrom (s.heap.objs.size+1) scope.names []).lookup y.1).isSome=true):=λ⟨n,v⟩ hy=>by
  rcases S.par n (of_mem_zip hy).1 with q|q
  ·exact .inl q
  ·exact .inr ⟨q,cellsFrom_some _ _ _ (.inl q)⟩
 refine codeAny_call_function hr.depth (KX _ _ lk) rfl S.co S.gen rfl (codeRec_of KX hcd) (hb _ _ _ _ ?_);refine wpAny_newFunctionEnv_cells S.kind hkind λenv he s1 x=>?_;subst he;refine⟨lim.keeps x.toInCall.keep,codeAny_func ?_⟩;obtain⟨t,ht,hq⟩:=hbody A outer s H vs Q E (hr.deeper _) hsp;have I:Inv (gd CX P w K mg base N qual scope f cdv A outer s H E) [] (start N vs) H s1:=qe S hr.hd e0 hl r x;refine wpAny_mono (ht [] s1 (start N vs) H _ I hq) (λfl s' hs=>?_) λe s' hs=>hs;have fin:∀{σ':St}{H':Hp}{v:V}{u:Value},Inv (gd CX P w K mg base N qual scope f cdv A outer s H E) [] σ' H' s'→aJ v u→Q v H'→CE outer P w H s Q u s' :=
  λ{σ' H' v u} J rv q=>⟨v,H',J.os,J.bare,J.base,J.hok,rv,q⟩
 cases fl with
 |ret u =>
  obtain⟨v,σ',H',J,rv,q⟩:=hs;exact fin J rv q
 |next =>
  obtain⟨σ',H',J,q⟩:=hs;exact fin (v:=V.non) (u:=Value.none) J rfl q
 |brk =>
  obtain⟨_,_,_,q⟩:=hs;exact False.elim q
 |cont =>
  obtain⟨_,_,_,q⟩:=hs;exact False.elim q
section
variable{X:Cx}{x:Str}{p pos:Pos}{e:Expr}{es:List Expr}{t:TA}{id T:String}{r:List V→Hp→VK→Prop}
def tCB(r:List V→Hp→VK→Prop)(t:TA):TE:=λσ H Q=>t σ H λvs H1=>r vs H1 Q
theorem am(hc:bM X (.builtin id) r)(hg:Gl X x)(hm:X.mg x=none)(hv:bootBuiltins x=some (.builtin id))(ha:PA X (e::es) t)(hn:x≠"__name__":=by decide)(hdb:(x==("__debug__":Str))=false:=by decide)(he:starEach (e::es) X.env=(false,eval e X.env)::starEach es X.env:=by rfl)(hpl:(backTo pos (starEach es X.env)).any (·.1)=false:=by rfl):PE X (.Call (.Name x p) (e::es) [] pos) (tCB r t):=by
 intro pins s σ H Q I h;refine wpAny_Call_Name_kw (dJ I hg hm hv ?_ hn hdb);exact PyProof.Rows.callWith_builtin1 (thn (ha pos pins s σ H _ I h) λus s1 ⟨vs,H1,I1,r1,q1⟩=>hc pins s1 σ H1 vs us Q I1 r1 q1) he hpl
theorem aS(hc:bM X (.type T) r)(hg:Gl X x)(hm:X.mg x=none)(hv:bootBuiltins x=some (.type T))(ha:PA X (e::es) t)(hn:x≠"__name__":=by decide)(hdb:(x==("__debug__":Str))=false:=by decide)(he:starEach (e::es) X.env=(false,eval e X.env)::starEach es X.env:=by rfl)(hpl:(backTo pos (starEach es X.env)).any (·.1)=false:=by rfl):PE X (.Call (.Name x p) (e::es) [] pos) (tCB r t):=by
 intro pins s σ H Q I h;refine wpAny_Call_Name_kw (dJ I hg hm hv ?_ hn hdb);exact PyProof.Rows.callWith_type1 (thn (ha pos pins s σ H _ I h) λus s1 ⟨vs,H1,I1,r1,q1⟩=>hc pins s1 σ H1 vs us Q I1 r1 q1) he hpl
end
end L2
namespace HT
open PySem PyProof.Rows
section
open PySem.SeqAt
open PySem.AutoSeq1 (wpAny_loadPart')
open PySem.MeetsSeq PySem.MeetsSeq2 PySem.MeetsSeq3
end
section
variable{prog:Program}{w:World}{A:Around}{E:Value→Shared→Prop}{s:Shared}
theorem ux{t b:Addr}{vs ws:List Value}{Q:Value→Shared→Prop}(ht:IsTup s.heap t vs.toArray)(hb:IsTup s.heap b ws.toArray)(hv:vs≠[])(h1:ws=[]→Q (.ref t) s)(h2:ws≠[]→Q (.ref s.heap.objs.size) {s with heap:=s.heap.push {cls:=.type "tuple",data:=.seq (vs++ws).toArray}})(hsz:vs.length+ws.length≤sizeLine):wpAny (model prog w) A (binaryOp .Add (.ref t) (.ref b)) Q E s:=by
 obtain⟨⟨cls,dd,data,sl⟩,ho,hc,n,hd⟩:=id ht;obtain⟨⟨cls2,dd2,data2,sl2⟩,ho2,hc2,n2,hd2⟩:=id hb;simp only at hc hd hc2 hd2;subst hc hd hc2 hd2;have e:vs.toArray++ws.toArray=(vs++ws).toArray:=by simp
 by_cases hw:ws=[]
 ·exact concat_meets ⟨_,ho,rfl⟩ ⟨_,ho2,rfl⟩ noFill_tuple_add seq_tuple_add slot_tuple_add entry_tuple_add (args_tuple_add_2 _ _)
   (tuple_addW1 t b vs.toArray ws.toArray n n2 dd dd2 sl sl2 (by simpa using hv) (by simp[hw])) ⟨ho,ho2,h1 hw⟩
 ·refine concat_meets ⟨_,ho,rfl⟩ ⟨_,ho2,rfl⟩ noFill_tuple_add seq_tuple_add slot_tuple_add entry_tuple_add (args_tuple_add_2 _ _)
   (tuple_addW2 t b vs.toArray ws.toArray n n2 dd dd2 sl sl2 (by simpa using hv) (by simpa using hw) (by rw[size_toArray,size_toArray];exact hsz)) ⟨ho,ho2,?_⟩
  rw[e];exact h2 hw
def sIx(n d:Nat):Option Int→Nat
 |none=>d
 |some v=>if v<0 then (v+(n:Int)).toNat else min v.toNat n
theorem cY(n d:Nat):sIx n d none=d:=rfl
theorem cx(n d k:Nat):sIx n d (some (k:Int))=min k n:=by
 show(if (k:Int)<0 then ((k:Int)+(n:Int)).toNat else min (k:Int).toNat n)=min k n
 rw[if_neg (by omega),toNat_natCast]
theorem wF(n d:Nat)(hd:d≤n)(o:Option Int):sIx n d o≤n:=by
 cases o with
 |none=>exact hd
 |some v =>
  show(if v<0 then (v+(n:Int)).toNat else min v.toNat n)≤n
  by_cases hv:v<0
  ·rw[if_pos hv];omega
  ·rw[if_neg hv];exact Nat.min_le_right _ _
theorem oH(v:Int)(n d:Nat):(if v<0 then max (v+(n:Int)) 0 else min v (n:Int))=((sIx n d (some v):Nat):Int):=by
 show(if v<0 then max (v+(n:Int)) 0 else min v (n:Int))=(((if v<0 then (v+(n:Int)).toNat else min v.toNat n):Nat):Int)
 by_cases hv:v<0
 ·simp only[if_pos hv];omega
 ·simp only[if_neg hv];omega
theorem nh(lo hi:Option Int)(n:Nat):Builtin.Slice.sliceAdjust lo hi 1 (n:Int)=(((sIx n 0 lo:Nat):Int),((sIx n n hi:Nat):Int)):=by
 have h1:¬((1:Int)<0):=by omega
 unfold Builtin.Slice.sliceAdjust;simp only[h1,if_false];refine Prod.ext ?_ ?_
 ·cases lo with
  |none=>rfl
  |some v=>exact oH v n 0
 ·cases hi with
  |none=>rfl
  |some v=>exact oH v n n
theorem nk(i j:Nat):Builtin.Slice.slicePlaces (i:Int) (j:Int) 1=j-i:=by
 unfold Builtin.Slice.slicePlaces;have h1:(1:Int)>0:=by omega
 simp only[h1,if_true,Int.ediv_one]
 split<;>omega
theorem iL{v:Value}{o:Option Int}{Q:Option Int→Shared→Prop}(p:IsPart v o)(h:Q o s):wpAny (model prog w) A (Builtin.Slice.slicePartIndex v) Q E s:=by
 cases p with
 |none=>exact slicePart_none h
 |int i t=>exact slicePart_int h
theorem dA{sl:Addr}{vl vu:Value}{lo hi:Option Int}{n:Nat}{Q:Int×Int×Nat→Shared→Prop}(hs:s.heap.IsSliceOf sl vl vu .none)(pl:IsPart vl lo)(pu:IsPart vu hi)(h:Q (((sIx n 0 lo:Nat):Int),1,sIx n n hi-sIx n 0 lo) s):wpAny (model prog w) A (Builtin.Slice.sliceApplied (.ref sl) (pure (n:Int))) Q E s:=by
 obtain⟨os,hos,hcs,hds⟩:=id hs;unfold Builtin.Slice.sliceApplied Builtin.Slice.sliceFields;refine wpAny_bind (wpAny_bind (wpAny_field hos hds (x:=vl) rfl (wpAny_bind (wpAny_field hos hds (x:=vu) rfl (wpAny_bind (wpAny_field hos hds (x:=.none) rfl (wpAny_pure ?_)))))));refine wpAny_bind (slicePart_none ?_);show wpAny _ _ (if ((1:Int)==0)=true then _ else _) _ _ s
 rw[if_neg (by decide)];refine wpAny_bind (iL pl (wpAny_bind (iL pu (wpAny_bind (wpAny_pure ?_)))));show wpAny _ _ (match Builtin.Slice.sliceAdjust lo hi 1 (n:Int)with|(lo,hi)=>pure (lo,(1:Int),Builtin.Slice.slicePlaces lo hi 1)) _ _ s
 rw[nh lo hi n];show wpAny _ _ (pure (((sIx n 0 lo:Nat):Int),(1:Int),Builtin.Slice.slicePlaces ((sIx n 0 lo:Nat):Int) ((sIx n n hi:Nat):Int) 1)) _ _ s;rw[nk];exact wpAny_pure h
theorem rH(xs:Array Value)(i k:Nat):((List.range k).filterMap λ(m:Nat)=>xs[((i:Int)+(m:Int)*1).toNat]?).toArray=((xs.toList.drop i).take k).toArray:=by
 have e:(λ(m:Nat)=>xs[((i:Int)+(m:Int)*1).toNat]?)=λm=>xs[i+m]?:=by
  funext m
  have:((i:Int)+(m:Int)*1).toNat=i+m:=by omega
  rw[this]
 rw[e];have:=pick_run xs i k;rw[List.filterMap_map]at this;have e2:((λx=>xs[x]?)∘λx=>i+x)=λm=>xs[i+m]?:=rfl;rw[e2]at this;rw[this]
theorem gg{t sl:Addr}{items:Array Value}{vl vu:Value}{lo hi:Option Int}{Q:Value→Shared→Prop}(ht:IsTup s.heap t items)(hs:s.heap.IsSliceOf sl vl vu .none)(pl:IsPart vl lo)(pu:IsPart vu hi)(hw:¬(sIx items.size 0 lo=0∧sIx items.size items.size hi=items.size))(h:Q (.ref s.heap.objs.size) {s with heap:=s.heap.push {cls:=.type "tuple",data:=.seq ((items.toList.drop (sIx items.size 0 lo)).take (sIx items.size items.size hi-sIx items.size 0 lo)).toArray}})(hsz:items.size≤sizeLine):wpAny (model prog w) A (getItem (.ref t) (.ref sl)) Q E s:=by
 have htake:sizeOk (.seq ((items.toList.drop (sIx items.size 0 lo)).take (sIx items.size items.size hi-sIx items.size 0 lo)).toArray):=by
  show((items.toList.drop (sIx items.size 0 lo)).take (sIx items.size items.size hi-sIx items.size 0 lo)).toArray.size≤sizeLine;rw[size_toArray,length_take,length_drop,length_toList];omega
 have hj:sIx items.size items.size hi≤items.size:=wF _ _ (le_refl _) hi;obtain⟨os,hos,hcs,hds⟩:=id hs;have hTs:s.TypeIs (.ref sl) "slice":=⟨os,hos,hcs⟩;unfold getItem
 try with_reducible refine wpAny_holding ?_
 first|refine wpAny_bind (wpAny_pure ?_)|skip
 refine wpAny_bind (wpAny_sequenceKey ht.typeIs (by decide) ?_);refine wpAny_bind (wpAny_callSpecial?_slot (name:=ofString "__getitem__") ht.typeIs PyProof.Rows.slot_tuple_getitem
  (wpAny_call_entry PyProof.Rows.slot_tuple_getitem ht.typeIs entry_tuple_getitem ?_ (args_tuple_getitem _ _)))
 show wpAny _ _ (Builtin.Tuple.tupleItemsOf (.ref t) >>= _) _ _ s;refine wpAny_bind (tupleItemsOf_ ht ?_);refine wpAny_bind (wpAny_typeOf hTs ?_);rw[if_pos (by decide)];refine wpAny_bind (dA hs pl pu ?_);have hno:¬((((sIx items.size 0 lo:Nat):Int)==0&&(1:Int)==1&&(sIx items.size items.size hi-sIx items.size 0 lo)==items.size)=true):=by
  intro q;rw[and_eq_true,and_eq_true]at q;have q1:((sIx items.size 0 lo:Nat):Int)=0:=eq_of_beq q.1.1;have q2:sIx items.size items.size hi-sIx items.size 0 lo=items.size:=eq_of_beq q.2;exact hw ⟨by omega,by omega⟩
 show wpAny _ _ (if (((sIx items.size 0 lo:Nat):Int)==0&&(1:Int)==1&&(sIx items.size items.size hi-sIx items.size 0 lo)==items.size)=true then _ else _) _ _ s
 rw[if_neg hno,rH]
 first
  |exact wpAny_bind (m:=Builtin.Tuple.tupleExact _) (wpAny_newObj_type (wpAny_pure ⟨_,rfl,wpAny_pure h⟩) htake)
  |exact wpAny_bind (m:=Builtin.Tuple.tupleExact _) (wpAny_newObj_type (wpAny_bind (wpAny_pure (wpAny_pure ⟨_,rfl,wpAny_pure h⟩))) htake)
  |exact wpAny_bind (wpAny_bind (m:=Builtin.Tuple.tupleExact _) (wpAny_newObj_type (wpAny_pure (wpAny_pure ⟨_,rfl,wpAny_pure h⟩)) htake))
  |exact wpAny_bind (wpAny_bind (m:=Builtin.Tuple.tupleExact _) (wpAny_newObj_type (wpAny_pure ⟨_,rfl,wpAny_pure h⟩) htake))
end
end HT
namespace L2
open PySem PySem.Spec PyProof.Rows
abbrev TO:=St→Hp→(Option Int→Hp→Prop)→Prop
def PO(X:Cx)(e:Option Expr)(t:TO):Prop :=
 ∀(pins:List (Addr×Obj))(s:Shared)(σ:St)(H:Hp)(Q:Option Int→Hp→Prop),Inv X pins σ H s→t σ H Q →
  wpAny (model X.prog X.w) X.A (evalPart e X.env) (λu s'=>∃o H',Inv X pins σ H' s'∧IsPart u o∧Q o H') X.xe s
def uy:TO:=λ_ H Q=>Q none H
def yv(t:TE):TO:=λσ H Q=>t σ H λx H1=>∃i,x=.int i∧Q (some i) H1
theorem nq{ns:List Int}:∀{us:List Value},ax (ns.map V.int) us→IntsAre us ns:=by
 induction ns with
 |nil=>intro us r;rw[map_nil]at r;cases r;exact .nil
 |cons n ns ih =>
  intro us r;rw[map_cons]at r;cases r with
  |cons r1 r2 =>
   obtain⟨t,e⟩:=r1;subst e;exact .cons n t (ih r2)
section
variable{X:Cx}{e:Expr}{te:TE}{lo hi:Option Expr}{tl th:TO}{pos p2:Pos}
theorem dM:PO X none uy:=by
 intro pins s σ H Q I h;rw[evalPart_none];exact wpAny_pure ⟨none,H,I,.none,h⟩
theorem cR(h:PE X e te):PO X (some e) (yv te):=by
 intro pins s σ H Q I hw;rw[evalPart_some];refine thn (h pins s σ H _ I hw) λu s1 hpt=>?_;obtain⟨x,H1,I1,r1,q1⟩:=hpt;obtain⟨i,rfl,q⟩:=q1;obtain⟨t,rfl⟩:=r1;exact⟨some i,H1,I1,.int i t,q⟩
def SlR(X:Cx)(r:V→Option Int→Option Int→Hp→VK→Prop):Prop :=
 ∀(pins:List (Addr×Obj))(s:Shared)(σ:St)(H:Hp)(x:V)(v vl vu:Value)(lo hi:Option Int)(sl:Addr)(Q:VK),Inv X pins σ H s→aJ x v→s.heap.IsSliceOf sl vl vu .none→IsPart vl lo→IsPart vu hi→r x lo hi H Q →
  ∃T id,typeLookup (.type T) "__getitem__"=pure (some (.builtin id))∧s.TypeIs v T∧wpAny (model X.prog X.w) X.A (getItem v (.ref sl)) (EP X pins σ Q) X.xe s
theorem SlR.or{r r':V→Option Int→Option Int→Hp→VK→Prop}(h:SlR X r)(h':SlR X r'):SlR X (λx lo hi H Q=>r x lo hi H Q∨r' x lo hi H Q):=by
 intro pins s σ H x v vl vu lo hi sl Q I rx hs pl pu q;rcases q with q|q
 ·exact h pins s σ H x v vl vu lo hi sl Q I rx hs pl pu q
 ·exact h' pins s σ H x v vl vu lo hi sl Q I rx hs pl pu q
def tSl(r:V→Option Int→Option Int→Hp→VK→Prop)(te:TE)(tl th:TO):TE:=λσ H Q=>te σ H λx H1=>tl σ H1 λl H2=>th σ H2 λu H3=>r x l u H3 Q
theorem cG{r:V→Option Int→Option Int→Hp→VK→Prop}(hr:SlR X r)(he:PE X e te)(hl:PO X lo tl)(hu:PO X hi th):PE X (.Subscript e (.Slice lo hi none p2) pos) (tSl r te tl th):=by
 intro pins s σ H Q I h;refine Subscript_ (thn (he pins s σ H _ I h) λv s1 hpt=>?_);obtain⟨x,H1,I1,r1,q1⟩:=hpt;refine wpAny_Slice (thn (hl pins s1 σ H1 _ I1 q1) λvl s2 ⟨l,H2,I2,pl,q2⟩=>thn (hu pins s2 σ H2 _ I2 q2) λvu s3 hpt=>?_);obtain⟨u,H3,I3,pu,q3⟩:=hpt;rw[evalPart_none];refine wpAny_pure ?_;have I4:Inv X pins σ H3 {s3 with heap:=s3.heap.push {cls:=.type "slice",data:=.fields #[vl,vu,.none]}}:=I3.kept (t':=s3.toks) λb ob q=>get?_push_of_some _ q
 obtain⟨T,id,hT,ht,hg⟩:=hr pins {s3 with heap:=s3.heap.push {cls:=.type "slice",data:=.fields #[vl,vu,.none]}} σ H3 x v vl vu l u s3.heap.objs.size Q I4 r1 (Heap.IsSliceOf.new ..) pl pu q3
 show wpAny (model X.prog X.w) X.A (subscriptTail e (.Slice lo hi none p2) v (.ref s3.heap.objs.size)) (EP X pins σ Q) X.xe {s3 with heap:=s3.heap.push {cls:=.type "slice",data:=.fields #[vl,vu,.none]}}
 exact tail_any (ops:=[.ref s3.heap.objs.size,v]) ht hT hg (by with_unfolding_all rfl)
def gh(xs:List V)(lo hi:Option Int):List V:=(xs.drop (HT.sIx xs.length 0 lo)).take (HT.sIx xs.length xs.length hi-HT.sIx xs.length 0 lo)
theorem lw(xs:List V)(lo hi:Option Int):(gh xs lo hi).length≤xs.length:=by
 unfold gh;rw[length_take,length_drop];omega
def nr(K:PySem.W.Frag):V→Option Int→Option Int→Hp→VK→Prop:=λx lo hi H Q=>∃a xs,x=.ref a∧SqT K H a xs ∧
 ¬(HT.sIx xs.length 0 lo=0∧HT.sIx xs.length xs.length hi=xs.length)∧∀p,H p=none→Q (.ref p) (upd H p (.tup (gh xs lo hi)))
theorem eE:SlR X (nr X.K):=by
 intro pins s σ H x v vl vu lo hi sl Q I rx hs pl pu h;obtain⟨a,xs,rfl,hx,hw,q⟩:=h;cases rx;obtain⟨its,r,ht,hz⟩:=I.tuple hx;have hlen:its.toArray.size=xs.length:=by rw[size_toArray];exact r.length.symm
 refine⟨"tuple",_,PyProof.Rows.slot_tuple_getitem.lookup,ht.typeIs,?_⟩;refine HT.gg ht hs pl pu (by rw[hlen];exact hw) ?_ (by rw[hlen];exact hz);rw[hlen];refine⟨.ref s.heap.objs.size,_,I.laid (t':=s.toks) (o:=.tup (gh xs lo hi)) (λb ob q=>get?_push_of_some _ q) (le_refl _) ?_,rfl,q _ (I.hok.fresh (le_refl _))⟩;exact⟨le_trans (lw xs lo hi) hz,_,(r.drop (HT.sIx xs.length 0 lo)).take (HT.sIx xs.length xs.length hi-HT.sIx xs.length 0 lo),IsTup.new _ _⟩
def oJ(K:PySem.W.Frag):R2:=λx y H Q=>∃a b xs ys,x=.ref a∧y=.ref b∧SqT K H a xs∧SqT K H b ys∧xs≠[]∧xs.length+ys.length≤sizeLine ∧
 (ys=[]→Q (.ref a) H)∧(ys≠[]→∀p,H p=none→Q (.ref p) (upd H p (.tup (xs++ys))))
theorem ax.nil_iff{xs:List V}{us:List Value}(r:ax xs us):us=[]↔xs=[]:=by
 cases r with
 |nil=>simp
 |cons _ _=>simp
theorem iw:OpR X (binaryOp .Add) (oJ X.K):=by
 intro pins s σ H x y v u Q I rx ry h;obtain⟨a,b,xs,ys,rfl,rfl,ha,hb,hx,hz,q1,q2⟩:=h;cases rx;cases ry;obtain⟨its,r1,p1,_⟩:=I.tuple ha;obtain⟨its2,r2,p2,_⟩:=I.tuple hb;refine HT.ux p1 p2 (λz=>hx (r1.nil_iff.mp z)) (λz=>⟨.ref a,H,I,rfl,q1 (r2.nil_iff.mp z)⟩) (λz=>?_) (by rw[←r1.length,←r2.length];exact hz);refine⟨.ref s.heap.objs.size,_,I.laid (t':=s.toks) (o:=.tup (xs++ys)) (λb ob q=>get?_push_of_some _ q) (le_refl _) ?_,rfl,q2 (λw=>z (r2.nil_iff.mpr w)) _ (I.hok.fresh (le_refl _))⟩;exact⟨by rw[length_append];exact hz,_,r1.append r2,IsTup.new _ _⟩
end
def ixN(n:Nat)(i:Int):Option Nat:=if 0≤i then (if i<n then some i.toNat else none)else if -(n:Int)≤i then some (i+n).toNat else none
def atI{α:Type}(xs:List α)(i:Int):Option α:=(ixN xs.length i).bind λj=>xs[j]?
theorem oK{n:Nat}{i:Int}{j:Nat}(h:ixN n i=some j):seqIndex? i n=some j∧j<n∧-(n:Int)≤i∧i<n:=by
 unfold ixN at h
 by_cases h0:0≤i
 ·rw[if_pos h0]at h
  by_cases h1:i<n
  ·rw[if_pos h1]at h;have e:i.toNat=j:=Option.some.inj h;exact⟨by rw[seqIndex_of h0 h1,e],by omega,by omega,h1⟩
  ·rw[if_neg h1]at h;cases h
 ·rw[if_neg h0]at h
  by_cases h1:-(n:Int)≤i
  ·rw[if_pos h1]at h;have e:(i+n).toNat=j:=Option.some.inj h;exact⟨by rw[seqIndex_neg (by omega) h1,e],by omega,h1,by omega⟩
  ·rw[if_neg h1]at h;cases h
theorem oM{α:Type}{xs:List α}{i:Int}{v:α}(h:atI xs i=some v):∃j,seqIndex? i xs.length=some j∧xs[j]?=some v∧j<xs.length∧-(xs.length:Int)≤i∧i<xs.length:=by
 unfold atI at h;cases e:ixN xs.length i with
 |none=>rw[e]at h;cases h
 |some j =>
  rw[e]at h;obtain⟨h1,h2,h3,h4⟩:=oK e;exact⟨j,h1,h,h2,h3,h4⟩
theorem ix{α:Type}{xs:List α}{j:Nat}{v:α}(h:xs[j]?=some v):atI xs (j:Int)=some v:=by
 have hj:j<xs.length:=(List.getElem?_eq_some_iff.mp h).1;have e:ixN xs.length (j:Int)=some j:=by
  unfold ixN;rw[if_pos (by omega),if_pos (by omega)];simp
 unfold atI;rw[e];exact h
def uz(b:Expr):Prop:=∀o i,subscripted b false o i=operate [o,i] (getItem o i)
def IxR(X:Cx)(r:R2):Prop :=
 ∀(value slice:Expr)(pins:List (Addr×Obj))(s:Shared)(σ:St)(H:Hp)(x y:V)(v u:Value)(Q:VK),Inv X pins σ H s→aJ x v→aJ y u→r x y H Q →
  subscripted slice false v u=operate [v,u] (getItem v u)→wpAny (model X.prog X.w) X.A (subscriptTail value slice v u) (EP X pins σ Q) X.xe s
def MtR(X:Cx)(id:String)(r:V→List V→Hp→VK→Prop):Prop :=
 ∀(pins:List (Addr×Obj))(s:Shared)(σ:St)(H:Hp)(x:V)(xs:List V)(v:Value)(us:List Value)(Q:VK),Inv X pins σ H s→aJ x v→ax xs us→r x xs H Q →
  wpAny (model X.prog X.w) X.A (call (.builtin id) (v::us)) (EP X pins σ Q) X.xe s
section
variable{X:Cx}{a b:Expr}{ta tb:TE}{pos:Pos}
theorem aH{r:R2}(hr:IxR X r)(ha:PE X a ta)(hb:PE X b tb)(hs:uz b):PE X (.Subscript a b pos) (tOp r ta tb):=by
 intro pins s σ H Q I h;exact Subscript_ (wA ha hb I h λv u s2 x y H2 I2 rx ry q=>hr a b pins s2 σ H2 x y v u Q I2 rx ry q (hs _ _))
def zD(K:PySem.W.Frag):R2:=λx y H Q=>∃p xs i v,x=.ref p∧y=.int i∧SqL K H p xs∧atI xs i=some v∧Q v H
def ck(K:PySem.W.Frag):R2:=λx y H Q=>∃p xs i v,x=.ref p∧y=.int i∧SqT K H p xs∧atI xs i=some v∧Q v H
theorem dN:IxR X (zD X.K):=by
 intro value slice pins s σ H x y v u Q I rx ry h hs;obtain⟨p,xs,i,z,rfl,rfl,hq,he,q⟩:=h;cases rx;obtain⟨t,rfl⟩:=ry;obtain⟨its,r,pl,hz⟩:=I.list hq;obtain⟨j,h1,h2,h3,h4,h5⟩:=oM he;obtain⟨w,ew,rw'⟩:=r.get h2;have hl:=r.length;have hn:=iK;have fin:EP X pins σ Q w s:=⟨z,H,I,rw',q⟩
 by_cases h0:0≤i
 ·have hj:i.toNat=j:=by
   rw[seqIndex_of h0 h5]at h1;exact Option.some.inj h1
  exact item_listR pl.isList h0 (by omega) (by rw[hj];simpa using ew) fin hs
 ·have hj:(i+(its.toArray.size:Int)).toNat=j:=by
   rw[seqIndex_neg (by omega) h4]at h1;rw[size_toArray,←hl];exact Option.some.inj h1
  exact subscriptTail_builtinR (x:=w) pl.isList.typeIs slot_list_getitem.lookup
   (wpAny_getItem_list_neg (Q:=λr s'=>r=w∧EP X pins σ Q r s') pl.isList (by omega) (by rw[size_toArray]<;>omega) (by omega) (by rw[hj];simpa using ew) ⟨rfl,fin⟩) hs
theorem ay:IxR X (ck X.K):=by
 intro value slice pins s σ H x y v u Q I rx ry h hs;obtain⟨p,xs,i,z,rfl,rfl,hq,he,q⟩:=h;cases rx;obtain⟨t,rfl⟩:=ry;obtain⟨its,r,pl,hz⟩:=I.tuple hq;obtain⟨j,h1,h2,h3,h4,h5⟩:=oM he;obtain⟨w,ew,rw'⟩:=r.get h2;have hl:=r.length;have hn:=iK;have fin:EP X pins σ Q w s:=⟨z,H,I,rw',q⟩;exact subscriptTail_builtinR (x:=w) pl.typeIs slot_tuple_getitem.lookup
  (getItem_tuple (j:=j) (Q:=λr s'=>r=w∧EP X pins σ Q r s') pl (by omega) (by omega) (by rw[size_toArray,←hl];exact h1) (by simpa using ew) ⟨rfl,fin⟩) hs
def cm:V→Bool
 |.non=>true
 |.bl _=>true
 |.int _=>true
 |.str _=>true
 |_=>false
def eqV:V→V→Bool
 |.non,.non=>true
 |.bl a,.bl b=>a==b
 |.bl a,.int b=>(if a then 1 else 0)==b
 |.int a,.bl b=>a==(if b then 1 else 0)
 |.int a,.int b=>a==b
 |.str a,.str b=>a==b
 |_,_=>false
theorem kn{A:Around}{s:Shared}{y x:V}{u v:Value}(ry:aJ y u)(rx:aJ x v)(fy:cm y=true)(fx:cm x=true):EqAt A s u v (eqV y x):=by
 cases y with
 |non =>
  cases ry;cases x with
  |non=>cases rx;exact EqAt.same _
  |bl b=>cases rx;exact EqAt.none_bool b
  |int b=>obtain⟨t,rfl⟩:=rx;exact EqAt.none_int b t
  |str b=>obtain⟨t,rfl⟩:=rx;exact EqAt.none_str b t
  |_=>exact absurd (show false=true from fx) Bool.false_ne_true
 |bl a =>
  cases ry;cases x with
  |non=>cases rx;exact EqAt.bool_none a
  |bl b=>cases rx;exact EqAt.bool_bool a b
  |int b=>obtain⟨t,rfl⟩:=rx;exact EqAt.bool_int a b t
  |str b=>obtain⟨t,rfl⟩:=rx;exact EqAt.bool_str a b t
  |_=>exact absurd (show false=true from fx) Bool.false_ne_true
 |int a =>
  obtain⟨t',rfl⟩:=ry;cases x with
  |non=>cases rx;exact EqAt.int_none a t'
  |bl b=>cases rx;exact EqAt.int_bool a t' b
  |int b=>obtain⟨t,rfl⟩:=rx;exact EqAt.int_int a t' b t
  |str b=>obtain⟨t,rfl⟩:=rx;exact EqAt.int_str a t' b t
  |_=>exact absurd (show false=true from fx) Bool.false_ne_true
 |str a =>
  obtain⟨t',rfl⟩:=ry;cases x with
  |non=>cases rx;exact EqAt.str_none a t'
  |bl b=>cases rx;exact EqAt.str_bool a t' b
  |int b=>obtain⟨t,rfl⟩:=rx;exact EqAt.str_int a t' b t
  |str b=>obtain⟨t,rfl⟩:=rx;exact EqAt.str_str a t' b t
  |_=>exact absurd (show false=true from fx) Bool.false_ne_true
 |_=>exact absurd (show false=true from fy) Bool.false_ne_true
def eqU(x:V)(u:Value):Bool:=match u with
 |.none=>eqV .non x
 |.bool b=>eqV (.bl b) x
 |.int i _=>eqV (.int i) x
 |.str z _=>eqV (.str z) x
 |_=>false
theorem rJ{x y:V}{u:Value}(r:aJ y u)(f:cm y=true):eqU x u=eqV y x:=by
 cases y with
 |non=>cases r;rfl
 |bl b=>cases r;rfl
 |int i=>obtain⟨t,rfl⟩:=r;rfl
 |str z=>obtain⟨t,rfl⟩:=r;rfl
 |_=>exact absurd (show false=true from f) Bool.false_ne_true
theorem gk{x:V}:∀{xs:List V}{us:List Value},ax xs us→xs.all cm=true→us.any (eqU x)=xs.any λy=>eqV y x
 |_,_,.nil,_=>rfl
 |y::xs,u::us,.cons r t,f=>by
  rw[List.all_cons,and_eq_true]at f;rw[any_cons,any_cons,rJ r f.1,gk t f.2]
theorem eF{A:Around}{s:Shared}{x:V}{v:Value}(rx:aJ x v)(fx:cm x=true):∀{xs:List V}{us:List Value},ax xs us→xs.all cm=true→∀u∈us,EqAt A s u v (eqU x u)
 |_,_,.nil,_=>λu hu=>by cases hu
 |y::xs,u::us,.cons r t,f=>λu' hu=>by
  rw[List.all_cons,and_eq_true]at f;rcases mem_cons.mp hu with rfl|hu
  ·rw[rJ r f.1];exact kn r rx f.1 fx
  ·exact eF rx fx t f.2 u' hu
def inV(x:V)(xs:List V):Bool:=xs.any λy=>eqV y x
def rIn(K:PySem.W.Frag)(neg:Bool):R2:=λx y H Q=>∃p xs,y=.ref p∧(SqL K H p xs∨SqT K H p xs)∧cm x=true∧xs.all cm=true∧Q (.bl (if neg then !inV x xs else inV x xs)) H
theorem qf:OpR X (compareOp .In) (rIn X.K false):=by
 intro pins s σ H x y v u Q I rx ry h;obtain⟨p,xs,rfl,hq,fx,fs,q⟩:=h;cases ry;rcases hq with hq|hq
 ·obtain⟨its,r,pl,hz⟩:=I.list hq;refine SeqAt.in_listAt (eqU x) pl.isList (λw hw=>eF rx fx r fs w (by simpa using hw)) ⟨.bl _,H,I,rfl,?_⟩;rw[show its.toArray.any (eqU x)=its.any (eqU x)by simp,gk r fs];exact q
 ·obtain⟨its,r,pl,hz⟩:=I.tuple hq;refine SeqAt.in_tupleAt (eqU x) pl (λw hw=>eF rx fx r fs w (by simpa using hw)) ⟨.bl _,H,I,rfl,?_⟩;rw[show its.toArray.any (eqU x)=its.any (eqU x)by simp,gk r fs];exact q
theorem ko:OpR X (compareOp .NotIn) (rIn X.K true):=by
 intro pins s σ H x y v u Q I rx ry h;obtain⟨p,xs,rfl,hq,fx,fs,q⟩:=h;cases ry;rcases hq with hq|hq
 ·obtain⟨its,r,pl,hz⟩:=I.list hq;refine SeqAt.notIn_listAt (eqU x) pl.isList (λw hw=>eF rx fx r fs w (by simpa using hw)) ⟨.bl _,H,I,rfl,?_⟩;rw[show its.toArray.any (eqU x)=its.any (eqU x)by simp,gk r fs];exact q
 ·obtain⟨its,r,pl,hz⟩:=I.tuple hq;refine SeqAt.notIn_tupleAt (eqU x) pl (λw hw=>eF rx fx r fs w (by simpa using hw)) ⟨.bl _,H,I,rfl,?_⟩;rw[show its.toArray.any (eqU x)=its.any (eqU x)by simp,gk r fs];exact q
theorem aC:bM X (.builtin "len") (λxs H Q=>∃p ys,xs=[.ref p]∧(SqL X.K H p ys∨SqT X.K H p ys)∧Q (.int ys.length) H):=by
 intro pins s σ H xs us Q I r h;obtain⟨p,ys,rfl,hq,q⟩:=h;obtain⟨u,rfl,rx⟩:=ci r;cases rx;have hn:=iK;rcases hq with hq|hq
 ·obtain⟨its,r',pl,hz⟩:=I.list hq;have hlen:=r'.length;exact Calls.call_len_list pl.isList (by simp only[size_toArray]<;>omega) ⟨.int ys.length,H,I.tok _,⟨s.toks+1,by rw[size_toArray,hlen]⟩,q⟩
 ·obtain⟨its,r',pl,hz⟩:=I.tuple hq;have hlen:=r'.length;exact len_tuple pl (by simp only[size_toArray]<;>omega) ⟨.int ys.length,H,I.tok _,⟨s.toks+1,by rw[size_toArray,hlen]⟩,q⟩
theorem kq:bM X (.builtin "len") (λxs H Q=>∃z,xs=[.str z]∧z.length≤sizeLine∧Q (.int z.length) H):=by
 intro pins s σ H xs us Q I r h;obtain⟨z,rfl,hz,q⟩:=h;obtain⟨u,rfl,t,rfl⟩:=ci r;have hn:=iK;exact len_str (by omega) ⟨.int z.length,H,I.tok _,⟨_,rfl⟩,q⟩
theorem bw:bM X (.type "tuple") (λxs H Q=>∃p ys,xs=[.ref p]∧((SqL X.K H p ys∧∀l,H l=none→Q (.ref l) (upd H l (.tup ys)))∨(SqT X.K H p ys∧Q (.ref p) H))):=by
 intro pins s σ H xs us Q I r h;obtain⟨p,ys,rfl,h⟩:=h;obtain⟨u,rfl,rx⟩:=ci r;cases rx;rcases h with⟨hq,q⟩|⟨hq,q⟩
 ·obtain⟨its,r',pl,hz⟩:=I.list hq;have hlen:=r'.length;refine call_tuple_list pl.isList (λh' kp=>?_) (by simp only[size_toArray]<;>omega);have I1:Inv X pins σ H {s with heap:=h'}:=I.kept (t':=s.toks) kp
  have I2:Inv X pins σ (upd H h'.objs.size (.tup ys)) {s with heap:=h'.push {cls:=.type "tuple",data:=.seq its.toArray}} :=
   I1.laid (t':=s.toks) (λb o e=>get?_push_of_some _ e) (le_refl _) (show bd X.prog X.w _ _ _ (.tup ys)from⟨hz,its,r',IsTup.new _ _⟩)
  exact⟨.ref h'.objs.size,_,I2,rfl,q _ (I1.hok.fresh (le_refl _))⟩
 ·obtain⟨its,r',pl,hz⟩:=I.tuple hq;exact call_tuple_same pl ⟨.ref p,H,I,rfl,q⟩
def tyV(K:PySem.W.Frag)(T:String)(x:V)(H:Hp):Prop:=match x with
 |.str _=>T="str"
 |.int _=>T="int"
 |.ref p=>(T="list"∧∃xs,SqL K H p xs)∨(T="tuple"∧∃o,K.lookup p=some o∧o.cls=.type "tuple"∧o.dict=none) ∨
   (T="dict"∧((∃kvs,H p=some (.dK kvs))∨∃kvs,H p=some (.dT kvs)))∨(T="set"∧∃S n,H p=some (.set S n))
 |_=>False
theorem rK{pins:List (Addr×Obj)}{σ:St}{H:Hp}{s:Shared}{T:String}{x:V}{v:Value}(I:Inv X pins σ H s)(r:aJ x v)(ty:tyV X.K T x H):
  s.TypeIs v T∧∀a,v=.ref a→∃ob,s.heap.get? a=some ob∧ob.dict=none:=by
 cases x with
 |str z =>
  obtain⟨t,rfl⟩:=r;cases (show T="str" from ty);exact⟨typeIs_str s z t,λ_ e=>nomatch e⟩
 |int i =>
  obtain⟨t,rfl⟩:=r;cases (show T="int" from ty);exact⟨typeIs_int s i t,λ_ e=>nomatch e⟩
 |ref p =>
  cases r;rcases ty with⟨rfl,xs,hq⟩|⟨rfl,o,hk,hc,hd⟩|⟨rfl,hk⟩|⟨rfl,S,n,hk⟩
  ·obtain⟨its,_,pl,_⟩:=I.list hq;refine⟨pl.isList.typeIs,λa e=>?_⟩;cases e;obtain⟨o,n,e,c,hd,_⟩:=pl;exact⟨o,e,hd⟩
  ·refine⟨⟨o,I.kIn p o hk,hc⟩,λa e=>?_⟩;cases e;exact⟨o,I.kIn _ o hk,hd⟩
  ·have z:∃o,s.heap.get? p=some o∧o.ExactDict:=by
    rcases hk with⟨kvs,hk⟩|⟨kvs,hk⟩
    ·obtain⟨_,_,_,_,o,_,_,e,ex,_⟩:=I.hok p _ hk;exact⟨o,e,ex⟩
    ·obtain⟨_,_,_,_,o,_,_,e,ex,_⟩:=I.hok p _ hk;exact⟨o,e,ex⟩
   obtain⟨o,e,ex⟩:=z;refine⟨⟨o,e,ex.1⟩,λa e2=>?_⟩;cases e2;exact⟨o,e,ex.2.1⟩
  ·obtain⟨o,_,_,_,e,ex,_⟩:=I.hok p _ hk;refine⟨⟨o,e,ex.1⟩,λa e2=>?_⟩;cases e2;exact⟨o,e,ex.2.1⟩
 |_=>exact False.elim ty
def zE(K:PySem.W.Frag)(T:String)(r:V→List V→Hp→VK→Prop)(to:TE):TE:=λσ H Q=>to σ H λx H1=>tyV K T x H1∧r x [] H1 Q
def tBM(K:PySem.W.Frag)(T:String)(r:V→List V→Hp→VK→Prop)(to:TE)(t:TA):TE:=λσ H Q=>to σ H λx H1=>tyV K T x H1∧t σ H1 λxs H2=>r x xs H2 Q
variable{o e:Expr}{es:List Expr}{to:TE}{t:TA}{name:Str}{apos cpos:Pos}{T id:String}{r:V→List V→Hp→VK→Prop}
theorem wG(pa:PlainAttrs T)(slot:Slot T name id)(hty:typeOf (.builtin id)=pure (.type "method_descriptor"))(hm:MtR X id r)(ho:PE X o to)(hbase:attributeBase o name X.env (eval o X.env)=eval o X.env:=by rfl)(hline:(apos.endLine==cpos.line)=true:=by rfl):PE X (.Call (.Attribute o name apos) [] [] cpos) (zE X.K T r to):=by
 intro pins s σ H Q I h;refine wpAny_Call_method0_late hbase hline (thn (ho pins s σ H _ I h) λv s1 hpt=>?_);obtain⟨x,H1,I1,r1,ty,q1⟩:=hpt;obtain⟨h1,h2⟩:=rK I1 r1 ty;exact⟨T,id,pa,slot,hty,h1,h2,Calls.callWith_builtin rfl (PySem.evalArgs_none (hm pins s1 σ H1 x [] v [] Q I1 r1 .nil q1))⟩
theorem ff(pa:PlainAttrs T)(slot:Slot T name id)(hty:typeOf (.builtin id)=pure (.type "method_descriptor"))(hm:MtR X id r)(ho:PE X o to)(ha:PA X (e::es) t)(hbase:attributeBase o name X.env (eval o X.env)=eval o X.env:=by rfl)(hfew:((backTo cpos (starEach (e::es) X.env)).all (λx=>!x.1)&&(backToKw cpos (keywordEach [] X.env)).all (λx=>x.1.isSome)
   && decide ((e::es).length+([]:List Keyword).length+(if ([]:List Keyword).isEmpty then 0 else 1)<30))=true:=by rfl)(hline:(apos.endLine==cpos.line)=true:=by rfl)(hs:starEach (e::es) X.env=(false,eval e X.env)::starEach es X.env:=by rfl)(hplain:(backTo cpos (starEach es X.env)).any (·.1)=false:=by rfl):
  PE X (.Call (.Attribute o name apos) (e::es) [] cpos) (tBM X.K T r to t):=by
 intro pins s σ H Q I h;refine wpAny_Call_method_late hbase hfew hline rfl (thn (ho pins s σ H _ I h) λv s1 hpt=>?_);obtain⟨x,H1,I1,r1,ty,q1⟩:=hpt;obtain⟨h1,h2⟩:=rK I1 r1 ty;refine⟨T,id,pa,slot,hty,h1,h2,?_⟩;have hA:=ha cpos pins s1 σ H1 _ I1 q1;rw[hs]at hA⊢;refine Calls.callWith_builtin (by show(false||(backTo cpos (starEach es X.env)).any (·.1))=false;rw[hplain]<;>rfl) (evalArgs_plain ?_);exact thn hA λus s2 ⟨vs,H2,I2,r2,q2⟩=>hm pins s2 σ H2 x vs v us Q I2 r1 r2 q2
end
def MtM(X:Cx)(id:String)(r:V→List V→Hp→VK→Prop):Prop :=
 ∀(pins:List (Addr×Obj))(s:Shared)(σ:St)(H:Hp)(x:V)(xs:List V)(v:Value)(us:List Value)(Q:VK),Inv X pins σ H s→aJ x v→ax xs us→r x xs H Q →
  wpAny (model X.prog X.w) X.A (call (.builtin id) (v::us)) (EP X pins σ Q) X.xe s
theorem ax.one:∀{x:V}{us:List Value},ax [x] us→∃u,us=[u]∧aJ x u
 |_,_,.cons r .nil=>⟨_,rfl,r⟩
theorem ax.two:∀{x y:V}{us:List Value},ax [x,y] us→∃u v,us=[u,v]∧aJ x u∧aJ y v
 |_,_,_,.cons r (.cons q .nil)=>⟨_,_,rfl,r,q⟩
theorem ax.zero:∀{us:List Value},ax [] us→us=[]
 |_,.nil=>rfl
theorem ax.dropLast{xs:List V}{us:List Value}(h:ax xs us):ax xs.dropLast us.dropLast:=by
 induction h with
 |nil=>exact .nil
 |cons r t ih =>
  cases t with
  |nil=>exact .nil
  |cons q t'=>exact .cons r ih
theorem ax.eraseIdx:∀{xs:List V}{us:List Value}(i:Nat),ax xs us→ax (xs.eraseIdx i) (us.eraseIdx i)
 |_,_,_,.nil=>.nil
 |_,_,0,.cons _ t=>t
 |_,_,i+1,.cons r t=>.cons r (ax.eraseIdx i t)
theorem ax.reverse{xs:List V}{us:List Value}(h:ax xs us):ax xs.reverse us.reverse:=by
 induction h with
 |nil=>exact .nil
 |cons r t ih=>rw[List.reverse_cons,List.reverse_cons];exact ax.append ih (.cons r .nil)
theorem nu{α:Type}(l:List α):l.eraseIdx (l.length-1)=l.dropLast:=by
 induction l with
 |nil=>rfl
 |cons a r ih =>
  cases r with
  |nil=>rfl
  |cons b r =>
   have e:(a::b::r).length-1=((b::r).length-1)+1:=by
    have h1:(a::b::r).length=r.length+2:=rfl;have h2:(b::r).length=r.length+1:=rfl;omega
   rw[e,List.eraseIdx_cons_succ,ih]
   all_goals rfl
theorem jF{α:Type}:∀(l:List α)(i:Nat),(l.eraseIdx i).length≤l.length
 |[],_=>le_refl _
 |_::_,0=>le_succ _
 |_::r,i+1=>Nat.succ_le_succ (jF r i)
section
variable{X:Cx}{pins:List (Addr×Obj)}{σ:St}{H:Hp}{s:Shared}{l b:Addr}{xs ys zs:List V}
theorem Inv.lset{its its':List Value}{n:Nat}{f:Array Value→Array Value}{t':Nat}(I:Inv X pins σ H s)(hH:H l=some (.lst xs))(e:s.heap.get? l=some {cls:=.type "list",data:=.seq its.toArray n})(hf:f its.toArray=its'.toArray)(hv:ax ys its')(hz:ys.length≤sizeLine):
  Inv X pins σ (upd H l (.lst ys)) {s with heap:=s.heap.update l (Obj.mapSeq f),toks:=t'}:=by
 have q:=PySem.IsL.update e f;rw[hf]at q;refine I.write (x:=l) (e:=l) (by rw[hH];exact trivial) (.inl rfl) (λb' u hb hu=>(Heap.get?_update_other s.heap (Obj.mapSeq f) (symm hb)).trans hu) ⟨_,q⟩ ?_;exact⟨hz,its',_,hv,q⟩
theorem Inv.lnew{its:List Value}{t':Nat}(I:Inv X pins σ H s)(hv:ax ys its)(hz:ys.length≤sizeLine):
  Inv X pins σ (upd H s.heap.objs.size (.lst ys)) {s with heap:=s.heap.push {cls:=.type "list",data:=.seq its.toArray},toks:=t'} :=
 I.laid (λ_ _ q=>get?_push_of_some _ q) (le_refl _) ⟨hz,its,0,hv,get?_push_size _ rfl⟩
theorem Inv.fresh(I:Inv X pins σ H s):H s.heap.objs.size=none:=I.hok.fresh (le_refl _)
theorem Inv.lstM(I:Inv X pins σ H s)(hH:H l=some (.lst xs)):xs.length≤sizeLine∧∃(its:List Value) (n:Nat),ax xs its∧xs.length=its.length∧s.heap.get? l=some {cls:=.type "list",data:=.seq its.toArray n}:=by
 obtain⟨z,its,n,r,e⟩:=I.hok l _ hH;exact⟨z,its,n,r,r.length,e⟩
def uA:V→List V→Hp→VK→Prop:=λx vs H Q=>∃l xs y,x=.ref l∧vs=[y]∧H l=some (.lst xs)∧xs.length<sizeLine∧Q .non (upd H l (.lst (xs++[y])))
theorem bx:MtM X "list.append" uA:=by
 intro pins s σ H x vs v us Q I rx rv h;obtain⟨l,xs,y,rfl,rfl,hH,hz,q⟩:=h;cases rx;obtain⟨u,rfl,ru⟩:=rv.one;obtain⟨z,its,n,r,hl,e⟩:=I.lstM hH;refine call_meets F.slot_list_append ⟨_,e,rfl⟩ F.entry_list_append (F.args_list_append_2 _ _) (PySem.list_append l its.toArray n u (by rw[size_toArray];omega)) ⟨e,?_⟩;refine⟨.non,_,I.lset (its':=its++[u]) hH e (by simp) (r.append (.cons ru .nil)) ?_,rfl,q⟩;rw[length_append,length_singleton];omega
def zF:V→List V→Hp→VK→Prop:=λx vs H Q=>∃l xs y,x=.ref l∧vs=[]∧H l=some (.lst xs)∧xs[xs.length-1]?=some y∧Q y (upd H l (.lst xs.dropLast))
theorem wH:MtM X "list.pop" zF:=by
 intro pins s σ H x vs v us Q I rx rv h;obtain⟨l,xs,y,rfl,rfl,hH,hy,q⟩:=h;cases rx;have hus:=rv.zero;subst hus;obtain⟨z,its,n,r,hl,e⟩:=I.lstM hH;obtain⟨u,hu,ru⟩:=r.get hy;have hy':its.toArray[its.toArray.size-1]?=some u:=by
  show its.toArray[its.length-1]?=some u;rw[←getElem?_toList,←hl];exact hu
 refine call_meets F.slot_list_pop ⟨_,e,rfl⟩ F.entry_list_pop (F.args_list_pop_1 _) (MeetsSeq.list_pop_last l its.toArray n u hy' (by rw[size_toArray];omega)) ⟨e,?_⟩;refine⟨y,_,I.lset (its':=its.dropLast) hH e ?_ r.dropLast ?_,ru,q⟩
 ·show its.toArray.eraseIdxIfInBounds (its.toArray.size-1)=its.dropLast.toArray;rw[size_toArray,List.eraseIdxIfInBounds_toArray,nu]
 ·rw[List.length_dropLast];omega
def wI:V→List V→Hp→VK→Prop:=λx vs H Q=>∃l xs i k y,x=.ref l∧vs=[.int i]∧H l=some (.lst xs)∧-(2 ^ 63)≤i∧i<2 ^ 63∧seqIndex? i xs.length=some k∧xs[k]?=some y∧Q y (upd H l (.lst (xs.eraseIdx k)))
theorem rL:MtM X "list.pop" wI:=by
 intro pins s σ H x vs v us Q I rx rv h;obtain⟨l,xs,i,k,y,rfl,rfl,hH,h1,h2,hk,hy,q⟩:=h;cases rx;obtain⟨u,rfl,ru⟩:=rv.one;obtain⟨t,rfl⟩:=ru;obtain⟨z,its,n,r,hl,e⟩:=I.lstM hH;obtain⟨w,hw,rw'⟩:=r.get hy;refine call_meets F.slot_list_pop ⟨_,e,rfl⟩ F.entry_list_pop (F.args_list_pop_2 _ _)
  (MeetsSeq.list_pop_at l its.toArray n i t k w (fitsIndex_both h1 h2) (by rw[size_toArray,←hl];exact hk) (by rw[←getElem?_toList];exact hw) (by rw[size_toArray];omega)) ⟨e,?_⟩
 refine⟨y,_,I.lset (its':=its.eraseIdx k) hH e ?_ (r.eraseIdx k) ?_,rw',q⟩
 ·show its.toArray.eraseIdxIfInBounds k=(its.eraseIdx k).toArray;rw[List.eraseIdxIfInBounds_toArray]
 ·have:=jF xs k;omega
def zG:R2:=λx y H Q=>∃l b xs zs,x=.ref l∧y=.ref b∧H l=some (.lst xs)∧H b=some (.lst zs)∧xs.length+zs.length≤sizeLine∧∀p,H p=none→Q (.ref p) (upd H p (.lst (xs++zs)))
theorem eG:OpR X (binaryOp .Add) zG:=by
 intro pins s σ H x y v u Q I rx ry h;obtain⟨l,b,xs,zs,rfl,rfl,hH,hB,hz,q⟩:=h;cases rx;cases ry;obtain⟨z,its,n,r,hl,e⟩:=I.lstM hH;obtain⟨z2,its2,n2,r2,hl2,e2⟩:=I.lstM hB;refine PySem.P.add_list e e2 ?_ (by rw[size_toArray,size_toArray];omega);have ea:its.toArray++its2.toArray=(its++its2).toArray:=by simp
 rw[ea];exact⟨.ref _,_,I.lnew (t':=s.toks) (r.append r2) (by rw[length_append];omega),rfl,q _ I.fresh⟩
end
section
variable{prog:Program}{w:World}{A:Around}{E:Value→Shared→Prop}{s:Shared}
end
section
variable{X:Cx}
end
section
variable{κ:Type}[DecidableEq κ]
def bc(kvs:List (κ×V))(k:κ):Option V:=(kvs.find? λkv=>decide (kv.1=k)).map (·.2)
def bQ(kvs:List (κ×V))(k:κ)(v:V):List (κ×V) :=
 if (kvs.any λkv=>decide (kv.1=k))=true then kvs.map (λkv=>if kv.1=k then (kv.1,v)else kv)else kvs++[(k,v)]
def cO(kvs:List (κ×V))(k:κ):List (κ×V):=kvs.filter λkv=>decide (kv.1≠k)
theorem bf{p:κ×V}{r:List (κ×V)}{k:κ}(e:p.1=k):bc (p::r) k=some p.2:=by simp[bc,find?_cons,e]
theorem aZ{p:κ×V}{r:List (κ×V)}{k:κ}(e:¬p.1=k):bc (p::r) k=bc r k:=by simp[bc,find?_cons,e]
theorem gl(k:κ):∀kvs:List (κ×V),(kvs.any λkv=>decide (kv.1=k))=(bc kvs k).isSome
 |[]=>rfl
 |p::r=>by
  rw[any_cons]
  by_cases e:p.1=k
  ·simp only[bf e,decide_eq_true e,Bool.true_or,Option.isSome_some]
  ·rw[aZ e,decide_eq_false e,Bool.false_or];exact gl k r
theorem lx(k j:κ)(y:V):∀kvs:List (κ×V),bc (kvs.map λkv=>if kv.1=k then (kv.1,y)else kv) j=(bc kvs j).map λx=>if j=k then y else x
 |[]=>rfl
 |p::r=>by
  have ih:=lx k j y r;rw[map_cons]
  by_cases h:p.1=k
  ·rw[if_pos h]
   by_cases e:p.1=j
   ·rw[bf (p:=(p.1,y)) e,bf e,map_some,if_pos (e.symm.trans h)]
   ·rw[aZ (p:=(p.1,y)) e,aZ e,ih]
  ·rw[if_neg h]
   by_cases e:p.1=j
   ·rw[bf (p:=p) e,bf e,map_some,if_neg (λz=>h (e.trans z))]
   ·rw[aZ (p:=p) e,aZ e,ih]
theorem jG(k j:κ)(y:V):∀kvs:List (κ×V),bc kvs k=none→bc (kvs++[(k,y)]) j=if j=k then some y else bc kvs j
 |[],_=>by
  by_cases e:k=j
  ·rw[if_pos e.symm];exact bf (p:=(k,y)) e
  ·rw[if_neg (λz=>e z.symm)];exact aZ (p:=(k,y)) e
 |p::r,hn=>by
  rw[List.cons_append];have hk:¬p.1=k:=λz=>by rw[bf z]at hn;cases hn
  rw[aZ hk]at hn;have ih:=jG k j y r hn
  by_cases e:p.1=j
  ·rw[bf e,bf e,if_neg (λz=>hk (e.trans z))]
  ·rw[aZ e,aZ e,ih]
theorem cZ(kvs:List (κ×V))(k j:κ)(y:V):bc (bQ kvs k y) j=if j=k then some y else bc kvs j:=by
 unfold bQ
 by_cases a:(kvs.any λkv=>decide (kv.1=k))=true
 ·rw[if_pos a,lx];rw[gl]at a
  by_cases e:j=k
  ·obtain⟨x,hx⟩:=Option.isSome_iff_exists.mp a;rw[if_pos e,e,hx,map_some,if_pos rfl]
  ·rw[if_neg e];cases bc kvs j with
   |none=>rfl
   |some x=>rw[map_some,if_neg e]
 ·rw[if_neg a];refine jG k j y kvs ?_;rw[gl]at a;cases q:bc kvs k with
  |none=>rfl
  |some x=>rw[q]at a;exact(a rfl).elim
theorem cr(kvs:List (κ×V))(k:κ)(v:V):(bQ kvs k v).length≤kvs.length+1:=by
 unfold bQ
 split
 ·rw[length_map];omega
 ·rw[length_append,length_cons,length_nil];omega
theorem fu.isSome_eq{o:Option V}{u:Option Value}(r:fu o u):o.isSome=u.isSome:=by
 cases o with
 |none=>cases u with
  |none=>rfl
  |some _=>exact(show False from r).elim
 |some _=>cases u with
  |none=>exact(show False from r).elim
  |some _=>rfl
theorem KV.val{kvs:List (κ×V)}{vs:List (κ×Value)}(r:KV kvs vs)(k:κ):fu (bc kvs k) (valueAt vs k):=by
 unfold KV at r
 induction r with
 |nil=>exact True.intro
 |@cons p q ps qs h t ih =>
  obtain⟨h1,h2⟩:=h
  by_cases e:p.1=k
  ·have e':q.1=k:=h1.symm.trans e;have b:valueAt (q::qs) k=some q.2:=by simp[valueAt,find?_cons,e']
   rw[bf e,b];exact h2
  ·have e':¬q.1=k:=λz=>e (h1.trans z);have b:valueAt (q::qs) k=valueAt qs k:=by simp[valueAt,find?_cons,e']
   rw[aZ e,b];exact ih
theorem KV.any{kvs:List (κ×V)}{vs:List (κ×Value)}(r:KV kvs vs)(k:κ):(kvs.any λkv=>decide (kv.1=k))=vs.any λkv=>decide (kv.1=k):=by
 unfold KV at r
 induction r with
 |nil=>rfl
 |cons h t ih=>rw[any_cons,any_cons,ih,h.1]
theorem KV.repl{kvs:List (κ×V)}{vs:List (κ×Value)}(r:KV kvs vs)(k:κ){y:V}{u:Value}(ry:aJ y u):
  KV (kvs.map λkv=>if kv.1=k then (kv.1,y)else kv) (vs.map λkv=>if kv.1=k then (kv.1,u)else kv):=by
 unfold KV at r⊢
 induction r with
 |nil=>exact .nil
 |@cons p q ps qs h t ih =>
  rw[map_cons,map_cons];refine .cons ?_ ih;obtain⟨h1,h2⟩:=h
  by_cases e:p.1=k
  ·rw[if_pos e,if_pos (h1.symm.trans e)];exact⟨h1,ry⟩
  ·rw[if_neg e,if_neg (λz=>e (h1.trans z))];exact⟨h1,h2⟩
theorem KV.put{kvs:List (κ×V)}{vs:List (κ×Value)}(r:KV kvs vs)(k:κ){y:V}{u:Value}(ry:aJ y u):KV (bQ kvs k y) (stored vs k u):=by
 unfold bQ stored;rw[r.any k]
 by_cases e:(vs.any λkv=>decide (kv.1=k))=true
 ·rw[if_pos e,if_pos e];exact r.repl k ry
 ·rw[if_neg e,if_neg e];exact Paired.snoc r ⟨rfl,ry⟩
theorem KV.drop{kvs:List (κ×V)}{vs:List (κ×Value)}(r:KV kvs vs)(k:κ):KV (cO kvs k) (without vs k):=by
 unfold KV at r⊢;unfold cO without
 induction r with
 |nil=>exact .nil
 |@cons p q ps qs h t ih =>
  obtain⟨h1,h2⟩:=h;rw[filter_cons,filter_cons]
  by_cases e:p.1=k
  ·have a:¬decide (p.1≠k)=true:=by simp[e]
   have b:¬decide (q.1≠k)=true:=by simp[h1.symm.trans e]
   rw[if_neg a,if_neg b];exact ih
  ·have e':¬q.1=k:=λz=>e (h1.trans z);have a:decide (p.1≠k)=true:=by simp[e]
   have b:decide (q.1≠k)=true:=by simp[e']
   rw[if_pos a,if_pos b];exact .cons ⟨h1,h2⟩ ih
theorem KV.length{kvs:List (κ×V)}{vs:List (κ×Value)}(r:KV kvs vs):kvs.length=vs.length:=Paired.length r
theorem ly(kvs:List (κ×V))(k:κ):(cO kvs k).length≤kvs.length:=length_filter_le _ _
end
theorem fg{P:Program}{w:World}{k:Key}{u:Value}(r:aJ (kV k) u):(aE P w).is k u=true:=by
 cases k with
 |inl i=>obtain⟨t,e⟩:=(show ∃t,u=Value.int i t from r);subst e;exact lr P w i t
 |inr x=>obtain⟨t,e⟩:=(show ∃t,u=Value.str x t from r);subst e;exact ls P w x t
theorem wJ{a b:Key}(e:kV a=kV b):a=b:=by
 cases a with
 |inl i=>cases b with
  |inl j=>have e':V.int i=V.int j:=e;injection e' with e';rw[e']
  |inr y=>exact nomatch (show V.int i=V.str y from e)
 |inr x=>cases b with
  |inl j=>exact nomatch (show V.str x=V.int j from e)
  |inr y=>have e':V.str x=V.str y:=e;injection e' with e';rw[e']
theorem oN:∀{a b:List Key},a.map kV=b.map kV→a=b
 |[],[],_=>rfl
 |[],_::_,e=>by simp at e
 |_::_,[],e=>by simp at e
 |x::xs,y::ys,e=>by
  rw[map_cons,map_cons]at e;injection e with e1 e2
  rw[wJ e1,oN e2]
theorem gW{P:Program}{w:World}:∀{ks:List Key}{us:List Value},ax (ks.map kV) us→ItemsAre (aE P w) ks us
 |[],_,r=>by rw[map_nil]at r;cases r;exact .nil
 |k::ks,_,r=>by
  rw[map_cons]at r;cases r with
  |cons h t=>exact .cons (fg h) (gW t)
abbrev KT(H:Hp):List (List Key×V)→List (List Key×Addr×Value)→Prop:=Paired λp q=>p.1=q.1∧H q.2.1=some (.tup (p.1.map kV))∧aJ p.2 q.2.2
theorem KT.val{H:Hp}{kvs:List (List Key×V)}{xs:List (List Key×Addr×Value)}(r:KT H kvs xs)(k:List Key):fu (bc kvs k) ((atKey xs k).map (·.2)):=by
 induction r with
 |nil=>exact True.intro
 |@cons p q ps qs h t ih =>
  obtain⟨h1,_,h2⟩:=h
  by_cases e:p.1=k
  ·have e':q.1=k:=h1.symm.trans e;have b:atKey (q::qs) k=some q.2:=by simp[atKey,find?_cons,e']
   rw[bf e,b];exact h2
  ·have e':¬q.1=k:=λz=>e (h1.trans z);have b:atKey (q::qs) k=atKey qs k:=by simp[atKey,find?_cons,e']
   rw[aZ e,b];exact ih
theorem KT.repl{H:Hp}{kvs:List (List Key×V)}{xs:List (List Key×Addr×Value)}(r:KT H kvs xs)(k:List Key){y:V}{u:Value}(ry:aJ y u):
  KT H (kvs.map λkv=>if kv.1=k then (kv.1,y)else kv) (xs.map (putAt k u)):=by
 induction r with
 |nil=>exact .nil
 |@cons p q ps qs h t ih =>
  rw[map_cons,map_cons];refine .cons ?_ ih;obtain⟨h1,h2,h3⟩:=h;unfold putAt
  by_cases e:p.1=k
  ·rw[if_pos e,if_pos (h1.symm.trans e)];exact⟨h1,h2,ry⟩
  ·rw[if_neg e,if_neg (λz=>e (h1.trans z))];exact⟨h1,h2,h3⟩
theorem KT.put{H:Hp}{kvs:List (List Key×V)}{xs:List (List Key×Addr×Value)}(r:KT H kvs xs)(k:List Key){b:Addr}{y:V}{u:Value}(hb:H b=some (.tup (k.map kV)))(ry:aJ y u):
  KT H (bQ kvs k y) (storedH xs k b u):=by
 have e:(kvs.any λkv=>decide (kv.1=k))=(atKey xs k).isSome:=by
  rw[gl,(r.val k).isSome_eq,isSome_map]
 unfold bQ storedH;rw[e]
 by_cases q:(atKey xs k).isSome=true
 ·rw[if_pos q,if_pos q];exact r.repl k ry
 ·rw[if_neg q,if_neg q];exact Paired.snoc r ⟨rfl,hb,ry⟩
theorem KT.keeps{H H':Hp}{kvs:List (List Key×V)}{xs:List (List Key×Addr×Value)}(r:KT H kvs xs)(ht:∀b ys,H b=some (.tup ys)→H' b=some (.tup ys)):KT H' kvs xs :=
 Paired.mapP r λ_ _ z=>⟨z.1,ht _ _ z.2.1,z.2.2⟩
section
variable{P:Program}{w:World}{H:Hp}{h:Heap}{a:Addr}
theorem vX{u:HO}(ok:HOk P w H h)(e:Rd H a u):bd P w H h a u:=e.ok ok
theorem jH{kvs:List (Key×V)}(ok:HOk P w H h)(e:Rd H a (.dK kvs)):kvs.length≤sizeLine∧(a==sysModules)=false∧∃vs,KV kvs vs∧h.DictOf (aE P w) a vs :=
 show bd P w H h a (.dK kvs)from vX ok e
theorem lz{kvs:List (Key×V)}(ok:HOk P w H h)(e:H a=some (.dK kvs)):kvs.length≤sizeLine∧(a==sysModules)=false∧∃vs,KV kvs vs∧h.DictOf (aE P w) a vs:=jH ok (.inl e)
theorem iM{ks:List Key}(ok:HOk P w H h)(e:H a=some (.tup (ks.map kV))):(tupleKind (aE P w)).is h ks a:=by
 obtain⟨_,its,r,o,h1,h2,n,h3⟩:=(show bd P w H h a (.tup (ks.map kV))from ok a _ e);exact⟨o,its.toArray,n,h1,h2,h3,by simpa using gW r⟩
theorem jI{kvs:List (List Key×V)}(ok:HOk P w H h)(e:Rd H a (.dT kvs)):kvs.length≤sizeLine∧(a==sysModules)=false ∧
  ∃xs,KT H kvs xs∧h.DictOfH (tupleKind (aE P w)) a xs:=by
 obtain⟨z,y,xs,r,o,es,ep,h1,h2,h3,h4,h5⟩:=(show bd P w H h a (.dT kvs)from vX ok e);refine⟨z,y,xs,r,o,es,ep,h1,h2,h3,h4,λx hx=>?_,h5⟩;have all:∀{l:List (List Key×V)}{m:List (List Key×Addr×Value)},KT H l m→∀x∈m,(tupleKind (aE P w)).is h x.1 x.2.1:=by
  intro l m q
  induction q with
  |nil=>intro x hx;exact nomatch hx
  |@cons p q ps qs hq t ih =>
   intro x hx;rcases mem_cons.mp hx with e|hx
   ·subst e;exact iM ok (by rw[←hq.1];exact hq.2.1)
   ·exact ih x hx
 exact all r x hx
theorem yw{kvs:List (List Key×V)}(ok:HOk P w H h)(e:H a=some (.dT kvs)):kvs.length≤sizeLine∧(a==sysModules)=false ∧
  ∃xs,KT H kvs xs∧h.DictOfH (tupleKind (aE P w)) a xs:=jI ok (.inl e)
end
def dy(H:Hp)(a:Addr)(y:V)(r:Option V):Prop :=
 (∃kvs k,Rd H a (.dK kvs)∧y=kV k∧r=bc kvs k)∨∃kvs k b,Rd H a (.dT kvs)∧y=.ref b∧H b=some (.tup (k.map kV))∧r=bc kvs k
def nv(H:Hp)(a:Addr)(y v:V)(H':Hp):Prop :=
 (∃kvs k,H a=some (.dK kvs)∧y=kV k∧kvs.length<sizeLine∧H'=upd H a (.dK (bQ kvs k v))) ∨
 ∃kvs k b,H a=some (.dT kvs)∧y=.ref b∧H b=some (.tup (k.map kV))∧kvs.length<sizeLine∧H'=upd H a (.dT (bQ kvs k v))
theorem dy.k{H:Hp}{a:Addr}{kvs:List (Key×V)}{k:Key}(e:H a=some (.dK kvs)):dy H a (kV k) (bc kvs k):=.inl ⟨kvs,k,.inl e,rfl,rfl⟩
theorem nv.k{H:Hp}{a:Addr}{kvs:List (Key×V)}{k:Key}{v:V}(e:H a=some (.dK kvs))(hl:kvs.length<sizeLine):nv H a (kV k) v (upd H a (.dK (bQ kvs k v))):=.inl ⟨kvs,k,e,rfl,hl,rfl⟩
section
variable{X:Cx}{pins:List (Addr×Obj)}{σ:St}{H:Hp}{s:Shared}{a:Addr}{y v:V}{u r:Value}{o:Option V}{A:Around}{E:Value→Shared→Prop}
theorem Inv.big(I:Inv X pins σ H s):sysModules<s.heap.objs.size:=by
 have h:mainGlobals<s.heap.objs.size:=(I.mod.glob.keeps I.bk).lt;exact lt_trans (by decide) h
theorem qg{Q:Value→Shared→Prop}(hu:A.units+1<cLine)(I:Inv X pins σ H s)(g:dy H a y (some v))(ry:aJ y u)(h:∀w' s',Inv X pins σ H s'→aJ v w'→Q w' s'):
  wpAny (model X.prog X.w) A (getItem (.ref a) u) Q E s:=by
 rcases g with⟨kvs,k,e,ey,l⟩|⟨kvs,k,b,e,ey,eb,l⟩
 ·subst ey;obtain⟨z,hd,vs,rel,dd⟩:=jH I.hok e;obtain⟨w',hw,rw'⟩:=fu.some_of (v:=v) (o:=valueAt vs k) (by rw[l];exact rel.val k);exact wpAny_getItem_of (fg ry) dd.mapOf hw (h w' _ (I.tok _) rw')
 ·subst ey;cases (show u=Value.ref b from ry);obtain⟨z,hd,xs,rel,dd⟩:=jI I.hok e;obtain⟨w',hw,rw'⟩:=fu.some_of (v:=v) (o:=(atKey xs k).map (·.2)) (by rw[l];exact rel.val k);obtain⟨p,hp,hp2⟩:=Option.map_eq_some_iff.mp hw;refine wpAny_getItem_heap (tupleKind_room_in1 hu) (iM I.hok eb) dd hp ?_;rw[hp2];exact h w' _ (I.tok _) rw'
theorem zH{Q:Value→Shared→Prop}(hu:A.units+1<cLine)(I:Inv X pins σ H s)(g:dy H a y o)(ry:aJ y u)(h:∀s',Inv X pins σ H s'→Q (.bool o.isSome) s'):
  wpAny (model X.prog X.w) A (compareOp .In u (.ref a)) Q E s:=by
 rcases g with⟨kvs,k,e,ey,l⟩|⟨kvs,k,b,e,ey,eb,l⟩
 ·subst ey;obtain⟨z,hd,vs,rel,dd⟩:=jH I.hok e;refine wpAny_in_of (fg ry) hd dd.mapOf ?_;rw[←(rel.val k).isSome_eq,←l];exact h _ (I.tok _)
 ·subst ey;cases (show u=Value.ref b from ry);obtain⟨z,hd,xs,rel,dd⟩:=jI I.hok e;refine wpAny_in_heap (tupleKind_room_in1 hu) (iM I.hok eb) hd dd ?_;have q:=(rel.val k).isSome_eq;rw[isSome_map]at q;rw[←q,←l];exact h _ (I.tok _)
theorem uB{Q:Value→Shared→Prop}(hu:A.units+1<cLine)(I:Inv X pins σ H s)(g:dy H a y o)(ry:aJ y u)(h:∀s',Inv X pins σ H s'→Q (.bool (!o.isSome)) s'):
  wpAny (model X.prog X.w) A (compareOp .NotIn u (.ref a)) Q E s:=by
 rcases g with⟨kvs,k,e,ey,l⟩|⟨kvs,k,b,e,ey,eb,l⟩
 ·subst ey;obtain⟨z,hd,vs,rel,dd⟩:=jH I.hok e;refine wpAny_notIn_of (fg ry) hd dd.mapOf ?_;rw[←(rel.val k).isSome_eq,←l];exact h _ (I.tok _)
 ·subst ey;cases (show u=Value.ref b from ry);obtain⟨z,hd,xs,rel,dd⟩:=jI I.hok e;refine wpAny_notIn_heap (tupleKind_room_in1 hu) (iM I.hok eb) hd dd ?_;have q:=(rel.val k).isSome_eq;rw[isSome_map]at q;rw[←q,←l];exact h _ (I.tok _)
theorem gm{h':Heap}{t':Nat}{ob:HO}(I:Inv X pins σ H s)(mu:Mut (H a))(hs:SameBut a s.heap h')(he:∃q,h'.get? a=some q)(new:bd X.prog X.w (upd H a ob) h' a ob):
  Inv X pins σ (upd H a ob) {s with heap:=h',toks:=t'} :=
 I.write (x:=a) (e:=a) mu (.inl rfl) (λb q hb z=>(hs.2 b hb).trans z) he new
theorem iN{P:Program}{w:World}{H':Hp}{h':Heap}{kvs:List (Key×V)}{vs:List (Key×Value)}(z:kvs.length≤sizeLine)(hd:(a==sysModules)=false)(rel:KV kvs vs)(dd:h'.DictOf (aE P w) a vs):
  bd P w H' h' a (.dK kvs):=⟨z,hd,vs,rel,dd⟩
theorem qh{H':Hp}{Q:Unit→Shared→Prop}(hu:A.units+1<cLine)(I:Inv X pins σ H s)(g:nv H a y v H')(ry:aJ y u)(rv:aJ v r)(h:∀s',Inv X pins σ H' s'→Q () s'):
  wpAny (model X.prog X.w) A (setItem (.ref a) u r) Q E s:=by
 rcases g with⟨kvs,k,e,ey,l,eH⟩|⟨kvs,k,b,e,ey,eb,l,eH⟩
 ·subst ey eH;obtain⟨z,hd,vs,rel,dd⟩:=lz I.hok e;have hz:vs.length≤sizeLine:=by rw[←rel.length];exact z
  have hl:(bQ kvs k v).length≤sizeLine:=by have:=cr kvs k v;omega
  refine wpAny_setItem_pairs (hsz:=hz) (fg ry) dd λh' dd' hs=>h _ ?_;have he:∃q,h'.get? a=some q:=let⟨q,_,_,hq,_⟩:=dd';⟨q,hq⟩;exact gm I (by rw[e];exact True.intro) hs he (iN hl hd (rel.put k rv) dd')
 ·subst ey eH;cases (show u=Value.ref b from ry);obtain⟨z,hd,xs,rel,dd⟩:=yw I.hok e;have hz:xs.length≤sizeLine:=by rw[←Paired.length rel];exact z
  have hl:(bQ kvs k v).length≤sizeLine:=by have:=cr kvs k v;omega
  refine wpAny_setItem_heap (hsz:=hz) (tupleKind_room_in1 hu) (iM I.hok eb) dd λh' dd' hs=>h _ ?_;obtain⟨q,es,ep,hq,h2,h3,h4,_,h5⟩:=dd';refine gm I (by rw[e];exact True.intro) hs ⟨q,hq⟩ ⟨hl,hd,_,(rel.put k eb rv).keeps λc ys ec=>?_,q,es,ep,hq,h2,h3,h4,h5⟩;rw[ai (yg ec e (λz=>nomatch z))];exact ec
end
section
variable{X:Cx}{pins:List (Addr×Obj)}{σ:St}{H:Hp}{s:Shared}{a:Addr}{kvs:List (Key×V)}{k:Key}{u:Value}{A:Around}{E:Value→Shared→Prop}
theorem yx{v:V}{more:List Value}{Q:Value→Shared→Prop}(I:Inv X pins σ H s)(e:H a=some (.dK kvs))(ry:aJ (kV k) u)(l:bc kvs k=some v)(hm:more=[]∨∃x,more=[x])(h:∀w' s',Inv X pins σ (upd H a (.dK (cO kvs k))) s'→aJ v w'→Q w' s'):wpAny (model X.prog X.w) A (call (.builtin "dict.pop") (.ref a::u::more)) Q E s:=by
 obtain⟨z,hd,vs,rel,dd⟩:=lz I.hok e;obtain⟨w',hw,rw'⟩:=fu.some_of (v:=v) (o:=valueAt vs k) (by rw[←l];exact rel.val k);have hp:(keyPart u).isSome=true:=by
  cases k with
  |inl i=>obtain⟨t,q⟩:=(show ∃t,u=Value.int i t from ry);subst q;rfl
  |inr x=>obtain⟨t,q⟩:=(show ∃t,u=Value.str x t from ry);subst q;rfl
 have ha:argsOk "dict.pop" ⟨.ref a::u::more,[]⟩:=by
  rcases hm with q|⟨x,q⟩
  ·subst q;exact PySem.F.args_dict_pop_2 _ _
  ·subst q;exact PySem.F.args_dict_pop_3 _ _ _
 refine call_meetsIn slot_dict_pop dd.typeIs PySem.F.entry_dict_pop ha (meets_dict_pop_there (aE X.prog X.w) a (fg ry) more hm hp)
  ⟨vs,w',dd,by rw[←rel.length];exact z,hw,λh' dd' hs=>h w' _ ?_ rw'⟩
 have he:∃q,h'.get? a=some q:=let⟨q,_,_,hq,_⟩:=dd';⟨q,hq⟩;exact gm I (by rw[e];exact True.intro) hs he (iN (le_trans (ly kvs k) z) hd (rel.drop k) dd')
theorem wK{r:Value}{Q:Value→Shared→Prop}(I:Inv X pins σ H s)(e:H a=some (.dK kvs))(ry:aJ (kV k) u)(l:bc kvs k=none)(h:∀s',Inv X pins σ H s'→Q r s'):
  wpAny (model X.prog X.w) A (call (.builtin "dict.pop") [.ref a,u,r]) Q E s:=by
 obtain⟨z,hd,vs,rel,dd⟩:=lz I.hok e;have hn:valueAt vs k=none:=fu.none_of (by rw[←l];exact rel.val k);have hp:(keyPart u).isSome=true:=by
  cases k with
  |inl i=>obtain⟨t,q⟩:=(show ∃t,u=Value.int i t from ry);subst q;rfl
  |inr x=>obtain⟨t,q⟩:=(show ∃t,u=Value.str x t from ry);subst q;rfl
 exact call_meetsIn slot_dict_pop dd.typeIs PySem.F.entry_dict_pop (PySem.F.args_dict_pop_3 _ _ _) (meets_dict_pop_default (aE X.prog X.w) a (fg ry) hd hp r) ⟨vs,dd,hn,h _ (I.tok _)⟩
end
def yy(i:Expr):Prop:=∀ov iv,subscripted i false ov iv=operate [ov,iv] (getItem ov iv)
theorem uC{prog:Program}{w:World}{A:Around}{E:Value→Shared→Prop}{s:Shared}{env:Env}{value slice:Expr}{pos:Pos}{T id:String}{Q:Value→Shared→Prop}(hl:typeLookup (.type T) "__getitem__"=pure (some (.builtin id)))(hs:yy slice)(h:wpAny (model prog w) A (eval value env) (λo s₁=>wpAny (model prog w) A (eval slice env) (λi s₂=>s₂.TypeIs o T∧wpAny (model prog w) A (getItem o i) Q E s₂) E s₁) E s):
  wpAny (model prog w) A (eval (.Subscript value slice pos) env) Q E s:=by
 refine Subscript_ (wpAny_mono h (λo s₁ h₁=>wpAny_mono h₁ (λi s₂ h₂=>?_) λ_ _ x=>x) λ_ _ x=>x);obtain⟨hT,h₂⟩:=h₂;unfold subscriptTail;refine wpAny_bind ?_;rw[getitemInPython_of_ne hT.not_modules];refine wpAny_bind (wpAny_specialOf hT hl ?_);have fin:wpAny (model prog w) A (subscripted slice false o i) (λr s₃=>wpAny (model prog w) A (letTemporaryGo value o r >>= λ_=>pure r) Q E s₃) E s₂:=by
  rw[hs o i];exact wpAny_operating (wpAny_mono h₂ (λr s₃ h₃=>wpAny_bind (wpAny_letTemporaryGo (wpAny_pure h₃))) λ_ _ x=>x)
 first
  |exact wpAny_pure (wpAny_bind fin)
  |exact wpAny_bind (wpAny_pure (wpAny_bind fin))
  |exact wpAny_bind fin
theorem lA{X:Cx}{pins:List (Addr×Obj)}{σ:St}{H:Hp}{s:Shared}{a:Addr}{y:V}{o:Option V}(I:Inv X pins σ H s)(g:dy H a y o):s.TypeIs (.ref a) "dict":=by
 rcases g with⟨kvs,k,e,_,_⟩|⟨kvs,k,b,e,_,_,_⟩
 ·obtain⟨_,_,vs,_,dd⟩:=jH I.hok e;exact dd.typeIs
 ·obtain⟨_,_,xs,_,dd⟩:=jI I.hok e;exact dd.typeIs
def yz(td ty:TE):TE:=λσ H Q=>td σ H λx H1=>ty σ H1 λy H2=>∃a v,x=.ref a∧dy H2 a y (some v)∧Q v H2
def zI(ty td:TE):TE:=λσ H Q=>ty σ H λy H1=>td σ H1 λx H2=>∃a o,x=.ref a∧dy H2 a y o∧Q (.bl o.isSome) H2
def uD(ty td:TE):TE:=λσ H Q=>ty σ H λy H1=>td σ H1 λx H2=>∃a o,x=.ref a∧dy H2 a y o∧Q (.bl (!o.isSome)) H2
def yA(td ty tv:TE):TS:=λD σ H=>tv σ H λv H1=>td σ H1 λx H2=>ty σ H2 λy H3=>∃a H4,x=.ref a∧nv H3 a y v H4∧D.nx σ H4
section
variable{X:Cx}{o i e value:Expr}{pos pos' tpos:Pos}{td ty tv:TE}
theorem bY(hu:X.A.units+1<cLine)(ho:PE X o td)(hi:PE X i ty)(hs:yy i):PE X (.Subscript o i pos) (yz td ty):=by
 intro pins s σ H Q I h;refine uC PySem.F.slot_dict_getitem.lookup hs (thn (ho pins s σ H _ I h) λu s1 ⟨x,H1,I1,rx,q1⟩=>thn (hi pins s1 σ H1 _ I1 q1) λiv s2 hpt=>?_);obtain⟨y,H2,I2,ry,a,v,ex,g,q2⟩:=hpt;subst ex;obtain rfl:u=Value.ref a:=rx;exact⟨lA I2 g,qg hu I2 g ry λw' s3 I3 rw'=>⟨v,H2,I3,rw',q2⟩⟩
theorem wL(hu:X.A.units+1<cLine)(hi:PE X i ty)(ho:PE X o td):PC X .In i o (zI ty td):=by
 intro pins s σ H Q I h;refine thn (hi pins s σ H _ I h) λiv s1 ⟨y,H1,I1,ry,q1⟩=>thn (ho pins s1 σ H1 _ I1 q1) λu s2 hpt=>?_;obtain⟨x,H2,I2,rx,a,ov,ex,g,q2⟩:=hpt;subst ex;obtain rfl:u=Value.ref a:=rx;exact zH hu I2 g ry λs3 I3=>⟨.bl ov.isSome,H2,I3,rfl,q2⟩
theorem jJ(hu:X.A.units+1<cLine)(hi:PE X i ty)(ho:PE X o td):PC X .NotIn i o (uD ty td):=by
 intro pins s σ H Q I h;refine thn (hi pins s σ H _ I h) λiv s1 ⟨y,H1,I1,ry,q1⟩=>thn (ho pins s1 σ H1 _ I1 q1) λu s2 hpt=>?_;obtain⟨x,H2,I2,rx,a,ov,ex,g,q2⟩:=hpt;subst ex;obtain rfl:u=Value.ref a:=rx;exact uB hu I2 g ry λs3 I3=>⟨.bl (!ov.isSome),H2,I3,rfl,q2⟩
theorem kr(hu:X.A.units+1<cLine)(ho:PE X o td)(hi:PE X i ty)(hv:PE X value tv)(hs:swapsWith value (some (.Subscript o i pos')) pos.line X.env=pure false):
  PS X (.Assign [.Subscript o i pos'] value pos) (yA td ty tv):=by
 intro pins s σ H D I h;refine wpAny_Assign_Subscript (thn (hv pins s σ H _ I h) λr s1 ⟨v,H1,I1,rv,q1⟩=>thn (ho pins s1 σ H1 _ I1 q1) λu s2 ⟨x,H2,I2,rx,q2⟩=>thn (hi pins s2 σ H2 _ I2 q2) λiv s3 ⟨y,H3,I3,ry,a,H4,ex,g,q3⟩=>?_) hs;subst ex;obtain rfl:u=Value.ref a:=rx;exact qh hu I3 g ry rv λs4 I4=>⟨σ,H4,I4,q3⟩
end
theorem lB{P:Program}{w:World}{H:Hp}(h:Heap)(hb:sysModules<h.objs.size):bd P w H (h.push {cls:=.type "dict",data:=.dict #[]}) h.objs.size (.dK []) :=
 ⟨zero_le _,beq_eq_false_iff_ne.mpr (symm (ne_of_lt hb)),[],.nil,Heap.DictOf.new h⟩
def wM:TE:=λ_ H Q=>∀p,H p=none→Q (.ref p) (upd H p (.dK []))
section
variable{X:Cx}{pos:Pos}
theorem rM:PE X (.Dict [] [] pos) wM:=λpins s σ H Q I h =>
 wpAny_Dict_empty ⟨.ref s.heap.objs.size,_,I.laid (a:=s.heap.objs.size) (o:=.dK []) (t':=s.toks) (λ_ _ q=>get?_push_of_some _ q) (le_refl _) (lB s.heap I.big),rfl,h _ (I.hok.fresh (le_refl _))⟩
end
def nw:List (TE×TE)→St→Hp→(List (V×V)→Hp→Prop)→Prop
 |[],_,H,Q=>Q [] H
 |(tk,tv)::r,σ,H,Q=>tk σ H λx H1=>tv σ H1 λy H2=>nw r σ H2 λps H3=>Q ((x,y)::ps) H3
abbrev VV:List (V×V)→List (Value×Value)→Prop:=Paired λp q=>aJ p.1 q.1∧aJ p.2 q.2
def PPs(X:Cx)(pos:Pos)(keys:List (Option Expr))(values:List Expr)(trs:List (TE×TE)):Prop :=
 ∀(pins:List (Addr×Obj))(s:Shared)(σ:St)(H:Hp)(Q:List (V×V)→Hp→Prop),Inv X pins σ H s→nw trs σ H Q →
  wpAny (model X.prog X.w) X.A (evalPairs (pairTrees keys values X.env pos)) (λvs s'=>∃ps H',Inv X pins σ H' s'∧VV ps vs∧Q ps H') X.xe s
theorem uE{X:Cx}{pos:Pos}:PPs X pos [] [] []:=λpins s σ H Q I h=>pairTrees_nil_walk ⟨[],H,I,.nil,h⟩
theorem rN{X:Cx}{pos:Pos}{k v:Expr}{ks:List (Option Expr)}{vs:List Expr}{tk tv:TE}{trs:List (TE×TE)}(hk:PE X k tk)(hv:PE X v tv)(hr:PPs X pos ks vs trs):
  PPs X pos (some k::ks) (v::vs) ((tk,tv)::trs):=λpins s σ H Q I h =>
 pairTrees_cons_walk (thn (hk pins s σ H _ I h) λu s1 ⟨x,H1,I1,rx,q1⟩=>thn (hv pins s1 σ H1 _ I1 q1) λw2 s2 ⟨y,H2,I2,ry,q2⟩ =>
  thn (hr pins s2 σ H2 _ I2 q2) λws s3 ⟨ps,H3,I3,rel,q3⟩=>⟨(x,y)::ps,H3,I3,.cons ⟨rx,ry⟩ rel,q3⟩)
def eI(kvs more:List (Key×V)):List (Key×V):=more.foldl (λacc kv=>bQ acc kv.1 kv.2) kvs
theorem KV.merge:∀{more:List (Key×V)}{rs:List (Key×Value)}{kvs:List (Key×V)}{vs:List (Key×Value)},KV more rs→KV kvs vs→KV (eI kvs more) (merged vs rs):=by
 intro more rs kvs vs r;unfold KV at r
 induction r generalizing kvs vs with
 |nil=>intro q;exact q
 |@cons p q ps qs h t ih =>
  intro r0;have e:KV (bQ kvs p.1 p.2) (stored vs q.1 q.2):=by
   have:=r0.put p.1 h.2;rw[←h.1];exact this
  exact ih e
theorem fi:∀(more kvs:List (Key×V)),(eI kvs more).length≤kvs.length+more.length
 |[],kvs=>by show kvs.length≤kvs.length+0;omega
 |p::r,kvs=>by
  have h1:=fi r (bQ kvs p.1 p.2);have h2:=cr kvs p.1 p.2;show(eI (bQ kvs p.1 p.2) r).length≤_;rw[length_cons];omega
theorem iO{P:Program}{w:World}:∀{kvs:List (Key×V)}{ws:List (Value×Value)},VV (kvs.map λkv=>(kV kv.1,kv.2)) ws→∃rs,Carries (aE P w) ws rs∧KV kvs rs
 |[],_,r=>by rw[map_nil]at r;cases r;exact⟨[],True.intro,.nil⟩
 |p::kvs,_,r=>by
  rw[map_cons]at r;cases r with
  |@cons a b as bs h t =>
   obtain⟨rs,c,q⟩:=iO (P:=P) (w:=w) t;obtain⟨b1,b2⟩:=b;exact⟨(p.1,b2)::rs,⟨fg h.1,rfl,c⟩,.cons ⟨rfl,h.2⟩ q⟩
def yB(trs:List (TE×TE)):TE:=λσ H Q=>∀p,H p=none→nw trs σ (upd H p (.dK [])) λps H2=>H2 p=some (.dK [])∧∃kvs:List (Key×V),ps=kvs.map (λkv=>(kV kv.1,kv.2))∧kvs.length≤15∧Q (.ref p) (upd H2 p (.dK (eI [] kvs)))
theorem uF{X:Cx}{pos:Pos}{keys:List (Option Expr)}{values:List Expr}{trs:List (TE×TE)}(h:PPs X pos keys values trs)(hall:keys.all (·.isSome)=true)(hl:keys.length=values.length)(h0:keys≠[])(h15:keys.length≤15):PE X (.Dict keys values pos) (yB trs):=by
 intro pins s σ H Q I q;have hn:=I.hok.fresh (le_refl s.heap.objs.size);have I1:=I.laid (a:=s.heap.objs.size) (o:=.dK []) (h':=s.heap.push {cls:=.type "dict",data:=.dict #[]}) (t':=s.toks) (λ_ _ q=>get?_push_of_some _ q) (le_refl _) (lB s.heap I.big);refine wpAny_Dict_walk (knd:=aE X.prog X.w) hall hl h0 h15 (thn (h pins _ σ _ _ I1 (q _ hn)) λws s2 hpt=>?_);obtain⟨ps,H2,I2,rel,e,kvs,ep,lk,q2⟩:=hpt;subst ep;obtain⟨rs,c,rk⟩:=iO (P:=X.prog) (w:=X.w) rel;obtain⟨z,hd,vs0,r0,dd⟩:=lz I2.hok e;cases r0;refine⟨rs,c,dd,λh' dd' hs=>⟨.ref s.heap.objs.size,_,?_,rfl,q2⟩⟩;have hz:(eI [] kvs).length≤sizeLine:=by
  have h1:=fi kvs [];rw[length_nil]at h1;rw[sizeLine_eq];omega
 have he:∃q,h'.get? s.heap.objs.size=some q:=let⟨q,_,_,hq,_⟩:=dd';⟨q,hq⟩;exact gm I2 (by rw[e];exact True.intro) hs he (iN hz hd (rk.merge .nil) dd')
structure M2(X:Cx)(o:Expr)(m:Str)(apos:Pos)(e f:Expr)(cpos:Pos):Prop where
 base:attributeBase o m X.env (eval o X.env)=eval o X.env
 few:((backTo cpos (starEach [e,f] X.env)).all (λx=>!x.1)&&(backToKw cpos (keywordEach [] X.env)).all (λx=>x.1.isSome)
  && decide (([e,f]:List Expr).length+([]:List Keyword).length+(if ([]:List Keyword).isEmpty then 0 else 1)<30))=true
 line:(apos.endLine==cpos.line)=true
 trees:backTo cpos (starEach [e,f] X.env)=[(false,eval e X.env),(false,eval f X.env)]
def IsD(H:Hp)(a:Addr):Prop:=(∃kvs,Rd H a (.dK kvs))∨∃kvs,Rd H a (.dT kvs)
theorem wN{X:Cx}{pins:List (Addr×Obj)}{σ:St}{H:Hp}{s:Shared}{a:Addr}(I:Inv X pins σ H s)(d:IsD H a):
  s.TypeIs (.ref a) "dict"∧(∀b,Value.ref a=.ref b→∃ob,s.heap.get? b=some ob∧ob.dict=none)∧(a==sysModules)=false:=by
 rcases d with⟨kvs,e⟩|⟨kvs,e⟩
 ·obtain⟨_,hd,vs,_,dd⟩:=jH I.hok e;refine⟨dd.typeIs,λb q=>?_,hd⟩;cases q;obtain⟨ob,_,_,h1,h2,_⟩:=dd;exact⟨ob,h1,h2.2.1⟩
 ·obtain⟨_,hd,xs,_,dd⟩:=jI I.hok e;refine⟨dd.typeIs,λb q=>?_,hd⟩;cases q;obtain⟨ob,_,_,h1,h2,_⟩:=dd;exact⟨ob,h1,h2.2.1⟩
section
variable{X:Cx}{pins:List (Addr×Obj)}{σ:St}{H:Hp}{s:Shared}{a:Addr}{y d:V}{u r:Value}{o:Option V}{A:Around}{E:Value→Shared→Prop}
end
def wO(td ty tx:TE):TE:=λσ H Q=>td σ H λx H1=>∃a,x=.ref a∧IsD H1 a∧ty σ H1 λy H2=>tx σ H2 λz H3=>∃kvs k,H3 a=some (.dK kvs)∧y=kV k ∧
 (∀v,bc kvs k=some v→Q v (upd H3 a (.dK (cO kvs k))))∧(bc kvs k=none→Q z H3)
section
variable{X:Cx}{o e f:Expr}{apos cpos:Pos}{td ty tx:TE}
theorem rO(ho:PE X o td)(he:PE X e ty)(hf:PE X f tx)(m:M2 X o "pop" apos e f cpos):PE X (.Call (.Attribute o "pop" apos) [e,f] [] cpos) (wO td ty tx):=by
 intro pins s σ H Q I h;refine wpAny_Call_method m.base m.few m.line PySem.F.plainAttrs_dict slot_dict_pop PySem.F.type_dict_pop (thn (ho pins s σ H _ I h) λu s1 hpt=>?_);obtain⟨x,H1,I1,rx,a,ex,d,q1⟩:=hpt;subst ex;obtain rfl:u=Value.ref a:=rx;obtain⟨t1,t2,_⟩:=wN I1 d;refine⟨t1,t2,?_⟩;rw[m.trees];refine Calls.callWith_builtin rfl (evalArgs_plain (spliced_cons (thn (he pins s1 σ H1 _ I1 q1) λiv s2 ⟨y,H2,I2,ry,q2⟩ =>
  spliced_cons (thn (hf pins s2 σ H2 _ I2 q2) λfv s3 ⟨z,H3,I3,rz,kvs,k,ea,ey,q3,q4⟩=>spliced_nil ?_))))
 subst ey;cases l:bc kvs k with
 |some v=>exact yx I3 ea ry l (.inr ⟨fv,rfl⟩) λw' s4 I4 rw'=>⟨v,_,I4,rw',q3 v l⟩
 |none=>exact wK I3 ea ry l λs4 I4=>⟨z,H3,I4,rz,q4 l⟩
end
section
variable{X:Cx}{pins:List (Addr×Obj)}{σ:St}{H:Hp}{s:Shared}{a:Addr}{kvs:List (Key×V)}{A:Around}{E:Value→Shared→Prop}
end
section
variable{X:Cx}{pins:List (Addr×Obj)}{σ:St}{H:Hp}{s:Shared}{a:Addr}{y:V}{u:Value}{A:Around}{E:Value→Shared→Prop}
end
end L2
namespace Att
open PySem PySem.W PySem.Calls PyProof.Rows
theorem ig{P:Params}{h:Heap}:∀(ns:List Int)(vs:List Value),WellAll P h vs (ns.map WData.int)→IntsAre vs ns:=by
 intro ns
 induction ns with
 |nil =>
  intro vs w;rw[map_nil]at w;cases w;exact .nil
 |cons n ns ih =>
  intro vs w;rw[map_cons]at w;cases w with
  |cons a b =>
   cases a;exact .cons _ _ (ih _ b)
theorem qi{l:OpenLaw}{n:Nat}(hn:l.most=some n){P:Params}{h:Heap}{args:List WData}{vals:List Value}(hpre:l.row.toRowW.claim.pre args=true)(hwl:WellAll P h vals args):
  ∃a vs ns,vals=[Value.ref a]∧args=[WData.list (ns.map WData.int)]∧h.get? a=some {cls:=.type "list",data:=.seq vs.toArray}∧IntsAre vs ns∧ns.length≤n:=by
 have hsh:WShape.hasAll [] args [.list .int]=true:=(pre_splitW hpre).1;have hc:l.pre.holds [] {args:=args}=true:=(pre_splitW hpre).2;obtain⟨d,r,rfl,h1,h2⟩:=hasAllW_cons hsh;obtain rfl:=hasAllW_nil h2;obtain⟨xs,rfl,h3⟩:=hasW_list h1;obtain⟨ns,rfl⟩:=items_int h3;have hlen:ns.length≤n:=by
  unfold OpenLaw.pre at hc;have h4:(WTm.not (.lt (.lit (.int (n:Int))) (.len (.arg 0)))).holds [] {args:=[.list (ns.map .int)]}=true:=by
   have h4:=(holds_andW hc).1;rw[hn]at h4;exact h4
  have h5:=condW_of h4 (w_not (w_lt w_lit (w_len_list (w_arg rfl))));rw[length_map]at h5;refine Nat.le_of_not_lt λq=>?_;have q':(n:Int)<((ns.length:Nat):Int):=by omega
  first
   |(rw[decide_eq_true q']at h5;exact absurd h5 (by decide))
   |(simp at h5;omega)
 cases hwl with
 |cons w1 w2 =>
  cases w2;cases w1 with
  |list ho hall=>exact⟨_,_,ns,rfl,rfl,ho,ig ns _ hall,hlen⟩
theorem qj(l:OpenLaw)(args:List WData):l.row.toRowW.claim.post args (.bool true) args=true :=
 postW_of (r:=l.row.toRowW) (X:=(true==true))
  (show WShape.has [] (.bool true) .bool=true by first|rfl|decide|simp[WShape.has,WShape.arms,WShape.armsAll])
  (show(WTm.eq .res (.lit (.bool true))).value [] {args:=args,res:=some (.bool true),after:=args}=some (.bool (true==true))from w_eq_bool (w_res rfl) w_lit) rfl
theorem lC{l:OpenLaw}{n:Nat}{q:Program}{loose:List Str}{XP:(Str→Option Value)→Heap→Prop}{YP:World→Heap→Prop}{d:DefRec}(hn:l.most=some n)(hdf:d.params.defaults=[])(call:∀(w:World) (s₀ s₁:Shared) (mg mb:Str→Option Value) (fa:Addr) (o:Obj) (pm cd doc:Value) (a:Addr) (vs:List Value) (ns:List Int),
   Ground q loose [] XP w s₀ mg mb s₁.heap→YP w s₁.heap →
   s₁.heap.get? fa=some o→o.data=.func (docDef d.name d.params d.body d.scope pm cd doc)→s₁.heap.CodeRec cd d.name→mg d.name=some (.ref fa) →
   s₁.heap.get? a=some {cls:=.type "list",data:=.seq vs.toArray}→IntsAre vs ns→ns.length≤n→s₁.gens=#[] →
   codeAny (model l.prog w) callerA (.call (.ref fa) ⟨[.ref a],[]⟩) (λr s'=>r=.ok (.ret (.bool true))∧OldK s₁.heap s'.heap∧s'.os=s₁.os∧AllBare s'.gens) s₁):
  WalkO q loose XP YP l.row.toRowW d [] (λf vs=>PySem.call f vs):=by
 intro w s₀ s₁ mg mb G Y fa o pm cd doc dV kV ho hd hcd hD hmg hg args vals as hpre hlay hrd hwl hlo;obtain rfl:dV=.none:=Dflts.none hD hdf;obtain rfl:kV=.none:=Dflts.noKw hD;obtain⟨a,vs,ns,rfl,rfl,hobj,hints,hlen⟩:=qi hn hpre hwl;refine enter_call (codeAny_mono (call w s₀ s₁ mg mb fa o pm cd doc a vs ns G Y ho (fd_plain hd) hcd hmg hobj hints hlen hg) λr s' hq=>?_);obtain⟨rfl,h2,h3,h4⟩:=hq;exact⟨.inl ⟨.bool true,.bool true,[],rfl,λ_=>rfl,.bool true,qj l _,λ_=>⟨Pairwise.nil,λ_ hm=>(nomatch hm)⟩⟩,h2,h3,h4⟩
section
variable{prog:Program}{w:World}{A:Around}{E:Value→Shared→Prop}{s:Shared}{K:Frag}
end
end Att
namespace L2
open PySem PySem.Spec PyProof.Rows
theorem jK:∀{vs:List Value}{ns:List Int},IntsAre vs ns→ax (ns.map V.int) vs
 |_,_,.nil=>.nil
 |_,_,.cons n t h=>.cons ⟨t,rfl⟩ (jK h)
def dO(s:Stmt):Arguments:=match s with
 |.FunctionDef _ a _ _ _ _ _ _ _ _=>a
 |_=>{posonlyargs:=[],args:=[],vararg:=none,kwonlyargs:=[],kw_defaults:=[],kwarg:=none,defaults:=[]}
def br(s:Stmt):List Stmt:=match s with
 |.FunctionDef _ _ b _ _ _ _ _ _ _=>b
 |_=>[]
def ag(s:Stmt):Scope:=match s with
 |.FunctionDef _ _ _ _ _ _ sc _ _ _=>sc
 |_=>{kind:=.function,names:=[],isGenerator:=false,isCoroutine:=false}
abbrev CX0:CXT:=λ_ _ _ _ _ _=>False
abbrev E0:XK:=λ_ _ _=>False
theorem ap{X:Cx}:dw CX0 X E0:=λ_ _ _ _ _ _ _ h=>h.elim
structure Fun(K:PySem.W.Frag)(x qual:Str)(st:Stmt)(f:Addr)(fd:FuncData):Prop where
 ex:∃(oc:Value) (od:Option Addr) (kV doc pm:Value) (an:Option Addr) (cdv ct:Value) (osl:Array (Option Value)),
  fd=fnOf x qual (dO st) (br st) (ag st) .none kV doc pm an cdv ct∧K.lookup f=some ⟨oc,od,.func fd,osl⟩∧codeIn K cdv qual=true
 kp:keepIn K (.ref f)=true
section
variable{P:Program}{w:World}{K:PySem.W.Frag}{mg:Str→Option Value}{base:Heap}
theorem Fun.ok{x qual:Str}{st:Stmt}{f:Addr}{fd:FuncData}{N ps:List Str}{k:Nat}{sp:Sp}(F:Fun K x qual st f fd)(S:FnScope N ps (ag st))(len:∀vs H Q E,sp vs H Q E→vs.length=ps.length)(hbody:∀(cdv:Value) (A:Around) (outer:List Env) (s:Shared) (H:Hp) (vs:List V) (Q:VK) (E:XK),Room k (A.deeper (envOfC qual (ag st) s.heap.objs.size f cdv))→sp vs H Q E →
   ∃t,PSs (gd CX0 P w K mg base N qual (ag st) f cdv A outer s H E).nox (br st) t∧t {nx:=λ_ H'=>Q .non H',rt:=Q} (start N vs) H):FnOk P w K mg base CX0 (k+1) f fd ps sp:=by
 obtain⟨oc,od,kV,doc,pm,an,cdv,ct,osl,rfl,lk,hcd⟩:=F.ex;refine rG lk hcd S len λA outer s H vs Q E hr hsp=>?_;obtain⟨t,h,q⟩:=hbody cdv A outer s H vs Q E hr hsp;exact⟨t,h.nox,q⟩
theorem Fun.binds{x qual:Str}{st:Stmt}{f:Addr}{fd:FuncData}{ps:List Str}(F:Fun K x qual st f fd)(h:∀(kV doc pm:Value) (an:Option Addr) (cdv ct:Value) (us:List Value),us.length=ps.length→bindArgs (fnOf x qual (dO st) (br st) (ag st) .none kV doc pm an cdv ct) ⟨us,[]⟩=pure (ps.zip us)):cj K fd ps []:=by
 obtain⟨oc,od,kV,doc,pm,an,cdv,ct,osl,rfl,lk,hcd⟩:=F.ex;exact .all (h kV doc pm an cdv ct)
theorem wP{x qual:Str}{st:Stmt}{f:Addr}{oc:Value}{od an:Option Addr}{osl:Array (Option Value)}{kV doc pm cdv ct:Value}(l:K.lookup f=some ⟨oc,od,.func (fnOf x qual (dO st) (br st) (ag st) .none kV doc pm an cdv ct),osl⟩)(c:codeIn K cdv qual=true)(k:keepIn K (.ref f)=true):Fun K x qual st f (fnOf x qual (dO st) (br st) (ag st) .none kV doc pm an cdv ct):=⟨⟨oc,od,kV,doc,pm,an,cdv,ct,osl,rfl,l,c⟩,k⟩
end
theorem cu{A:Around}{k:Nat}(hr:Room k A):A.units+1<cLine:=lt_of_le_of_lt (Nat.add_le_add_left (by decide:1≤64) _) hr.units
theorem aF{n:Nat}(h:n≤1000):n<sizeLine:=lt_of_le_of_lt h (by decide)
section
variable{X:Cx}
theorem pv(i:Nat){x:Str}{pos:Pos}(hN:X.N[i]?=some x:=by rfl)(hv:Vis X.env.scope x:=by first|exact Or.inl rfl|exact Or.inr (Or.inl rfl)|exact Or.inr (Or.inr rfl))(hd:(x==("__debug__":Str))=false:=by decide)(hcd:(x==("__classdict__":Str))=false:=by decide):PE X (.Name x pos) (pU i):=wx hN hv hd hcd
end
theorem be{A B:Prop}(h:B):if false=true then A else B:=by
 rw[if_neg Bool.false_ne_true];exact h
theorem cC{A B:Prop}(h:A):if true=true then A else B:=by
 rw[if_pos rfl];exact h
theorem zJ{c A B:Prop}[Decidable c](h1:c→A)(h2:¬c→B):if c then A else B:=by
 by_cases h:c
 ·rw[if_pos h];exact h1 h
 ·rw[if_neg h];exact h2 h
theorem yC{c A B:Prop}[Decidable c](hc:c)(h:B):if (!decide c)=true then A else B:=by
 rw[decide_eq_true hc];exact be h
def Same(H H':Hp):Prop:=∀b o,H b=some o→H' b=some o
theorem Same.refl(H:Hp):Same H H:=λ_ _ h=>h
theorem Same.trans{H H1 H2:Hp}(a:Same H H1)(b:Same H1 H2):Same H H2:=λc o h=>b c o (a c o h)
theorem Same.free{H H':Hp}(e:Same H H'){l:Addr}(h:H' l=Option.none):H l=Option.none:=by
 cases q:H l with
 |none=>rfl
 |some o =>
  rw[e l o q]at h;cases h
theorem Same.seq{K:PySem.W.Frag}{H H':Hp}{a:Addr}{xs:List V}(e:Same H H')(h:SqL K H a xs):SqL K H' a xs:=by
 rcases h with (h|⟨o,h⟩)|h
 ·exact .inl (.inl (e _ _ h))
 ·exact .inl (.inr ⟨o,e _ _ h⟩)
 ·exact .inr h
section
variable{κ:Type}[DecidableEq κ]
theorem qk{p:κ×V}{r:List (κ×V)}{k:κ}(e:p.1=k):cO (p::r) k=cO r k:=by
 unfold cO;rw[filter_cons,if_neg (by simp[e])]
theorem ql{p:κ×V}{r:List (κ×V)}{k:κ}(e:¬p.1=k):cO (p::r) k=p::cO r k:=by
 unfold cO;rw[filter_cons,if_pos (by simp[e])]
end
structure LcOk(X:Cx)(scope:Scope)(cl:List (Str×Addr)):Prop where
 kind:scope.kind=.function
 clos:closureFor scope X.env=pure cl
 names:∀x∈scope.names,x.2=.local→scope.names.lookup x.1=some .local
 nocell:∀x∈scope.names,x.2≠.cell
 cells:∀x c,cl.lookup x=some c→X.env.cells.lookup x=some c
 has:∀x,((relabel scope X.env).names.lookup x=some .cell∨(relabel scope X.env).names.lookup x=some .free)→∃c,cl.lookup x=some c
abbrev bV(X:Cx)(N:List Str)(scope:Scope)(cl:List (Str×Addr))(s:Shared)(H:Hp)(ex:List Addr):Cx :=
 {X with N:=N,s₀:=s,H₀:=H,env:=compEnvC scope cl s.heap.objs.size X.env,outer:=X.stack,stack:=X.stack,ex:=ex,fn:=λ_=>false,pn:=[],xe:=λ_ _=>False}
section
variable{X:Cx}{pins:List (Addr×Obj)}{σ:St}{H:Hp}{s:Shared}{N:List Str}{scope:Scope}{cl:List (Str×Addr)}{fp:List Addr}
theorem lD(I:Inv X pins σ H s)(L:LcOk X scope cl)(hf:∀b∈fp,eB X pins H b)(ho:∀b∈fp,b<s.heap.objs.size):(bV X N scope cl s H fp).Ok where
 mod:=I.ok.mod
 kind:=L.kind
 glob:=I.ok.glob
 blt:=I.ok.blt
 above:=le_refl _
 inj:=λx y c h1 h2=>I.ok.inj x y c (L.cells x c h1) (L.cells y c h2)
 has:=λx hx=>L.has x hx
 cab:=λx c h _=>absurd h (by simp)
 hd:=I.ok.hd
 frames:=I.ok.frames
 stk:=.inl rfl
 exf:=λb hb=>⟨ne_of_lt (ho b hb),λx c h=>(hf b hb).2.2.2.2.1 x c (L.cells x c h)⟩
 bs:=I.bs
 bsz:=le_trans I.ok.bsz I.sz
 noex:=λb o e hb=>by
  rcases (hf b hb).2.2.2.1 with z|z
  ·exact I.ok.noex b o e z
  ·exact absurd (lt_of_lt_of_le (lt_size e) (le_trans I.ok.bsz z)) (lt_irrefl _)
 exfs:=λb hb hs=>by
  rcases mem_cons.mp (I.stkSub b hs)with z|z
  ·exact(hf b hb).2.1 z
  ·exact(hf b hb).2.2.1 z
 funs:=I.stack
 frf:=I.stkFree
def cF(k:Nat)(js:List Nat)(σ:St):St:=List.replicate k none++js.map λj=>(σ[j]?).getD none
theorem gn{h₁:Heap}{tk:Nat}{k:Nat}{js:List Nat}(I:Inv X pins σ H s)(L:LcOk X scope cl)(hf:∀b∈fp,eB X pins H b)(ho:∀b∈fp,b<s.heap.objs.size)(hns:∃m,h₁.Ns s.heap.objs.size m)(hk:∀b o,s.heap.get? b=some o→h₁.get? b=some o)(hN:N.length=k+js.length)(hj:∀(i j:Nat) x,js[i]?=some j→N[k+i]?=some x→X.N[j]?=some x∧Vis X.env.scope x∧X.env.scope.names.lookup x≠some .local∧((relabel scope X.env).names.lookup x=some .cell∨(relabel scope X.env).names.lookup x=some .free)):
  Inv (bV X N scope cl s H fp) [] (cF k js σ) H {s with heap:=h₁,toks:=tk}:=by
 obtain⟨m,hm⟩:=hns;have cellK:∀c v,s.heap.IsCell c v→h₁.IsCell c v:=λc v ⟨o,e,d⟩=>⟨o,hk c o e,d⟩;refine⟨lD I L hf ho,rfl,I.bare,Un.kept hk,⟨m,hm,λi x v e1 e2 e3=>?_⟩,λx c e=>?_,I.hok.fresh (le_refl _),λx c e=>I.freeC x c (L.cells x c e),λp hp=>absurd (show p∈([]:List (Addr×Obj))from hp) (by simp),I.hok.kept hk,?_⟩
 ·unfold cF at e2
  by_cases hi:i<k
  ·rw[getElem?_append_left (by simpa using hi),List.getElem?_replicate]at e2
   split at e2<;>cases e2
  ·obtain⟨i',rfl⟩:∃i',i=k+i':=⟨i-k,by omega⟩;rw[getElem?_append_right (by simp),length_replicate,Nat.add_sub_cancel_left,getElem?_map]at e2;cases ej:js[i']? with
   |none=>rw[ej]at e2;cases e2
   |some j =>
    rw[ej]at e2;have e2':(σ[j]?).getD none=some v:=Option.some.inj e2;obtain⟨h1,h2,h3,h4⟩:=hj i' j x ej e1;have e4:σ[j]?=some (some v):=by
     cases q:σ[j]? with
     |none=>rw[q]at e2';cases e2'
     |some y=>rw[q]at e2';exact congrArg some e2'
    obtain⟨m0,_,hl⟩:=I.loc;obtain⟨u,r,lk⟩:=hl j x v h1 e4 h2;refine⟨u,r,.inr ⟨h4,?_⟩⟩;rcases lk with⟨q,_⟩|⟨_,c,e5,e6⟩
    ·exact absurd q h3
    ·obtain⟨c',e7⟩:=L.has x h4;have:c'=c:=Option.some.inj ((L.cells x c' e7).symm.trans e5);subst this;exact⟨c',e7,cellK c' _ e6⟩
 ·obtain⟨v,e1⟩:=I.cell x c (L.cells x c e);exact⟨v,cellK c v e1⟩
 ·unfold cF;rw[length_append,length_replicate,length_map];exact hN.symm
theorem kt{H':Hp}{σ':St}{s':Shared}{h':Heap}(I:Inv X pins σ H s)(hf:∀b∈fp,eB X pins H b)(J:Inv (bV X N scope cl s H fp) [] σ' H' s')(hs:SameBut s.heap.objs.size s'.heap h'):Inv X pins σ H' {s' with heap:=h'}:=by
 have ne:∀b o,s.heap.get? b=some o→b≠s.heap.objs.size:=λb o e=>ne_of_lt (lt_size e);have u:=J.base;have u':Un (frs X.stack) fp H H' s.heap h' :=
  ⟨λb o e n hb hx=>(hs.2 b (ne b o e)).trans (u.keep b o e n hb hx),λb o e n hb hx=>by
   obtain⟨sl,q⟩:=u.slot b o e n hb hx;exact⟨sl,(hs.2 b (ne b o e)).trans q⟩,u.free,λb o e hx=>by
   obtain⟨o',q⟩:=u.there b o e hx;exact⟨o',(hs.2 b (ne b o e)).trans q⟩,u.tups,u.frzs,u.tbls⟩
 have nt:∀b o,H' b=some o→b≠s.heap.objs.size:=λb o e z=>by
  have:=J.free;rw[show(bV X N scope cl s H fp).env.locals=s.heap.objs.size from rfl,←z,e]at this;cases this
 refine I.call' (s':={s' with heap:=h'}) J.os u' (λb o e=>?_) J.bare λb hb=>?_
 ·refine(J.hok b o e).stay (λc v hc q=>(hs.2 c ?_).trans q) (λ_ q=>q) λ_ _ q=>q;rcases hc with z|z
  ·rw[z];exact nt b o e
  ·exact nt c _ z
 ·obtain⟨f0,f1,f2,f3,f4,f5⟩:=hf b hb;exact⟨f3,f1,f4,f5⟩
end
section
variable{prog:Program}{w:World}{A:Around}{R:Result→Shared→Prop}{s:Shared}
theorem oO{elt target iter:Expr}{scope:Scope}{pos:Pos}{it acc:Value}{env:Env}(I:Nat→Shared→Prop)(turn:∀n s,I n s→wpAny (model prog w) A (pyNext it) (λr s₁=>match r with
   |none=>R (.ok .next) s₁
   | some v=>wpAny (model prog w) A (letOwnedTupleGo target it v) (λ_ s₂=>wpAny (model prog w) A (assign target env v) (λ_ s₃=>wpAny (model prog w) A (eval elt env) (λx s₄ =>
     wpAny (model prog w) A (call (.builtin "list.append") [acc,x]) (λ_ s₅=>∃m,m<n∧I m s₅) (λ_ _=>False) s₄) (λ_ _=>False) s₃) (λ_ _=>False) s₂) (λ_ _=>False) s₁) (λ_ _=>False) s)(n:Nat)(h:I n s):codeAny (model prog w) A (.compLoop (.ListComp elt [⟨target,iter,[],0⟩] scope pos) 0 it acc env) R s:=by
 refine codeAny_loop rfl I (λn s hI=>?_) n h;show wpAny _ _ ((compTurn (.ListComp elt [⟨target,iter,[],0⟩] scope pos) 0 it acc env).onRaise (λx=>do noteFrame x env;theTreesLotGoes x)) _ _ s;refine wpAny_noted ?_;rw[compTurn_list1];refine wpAny_bind (wpAny_standAt (wpAny_bind (wpAny_mono (turn n s hI) (λr s₁ h₁=>?_) λ_ _ h'=>h'.elim)));cases r with
 |none=>exact wpAny_pure h₁
 |some v =>
  refine wpAny_bind (wpAny_mono h₁ (λ_ s₂ h₂=>?_) λ_ _ h'=>h'.elim);exact wpAny_bind (wpAny_mono h₂ (λ_ s₂ h₂=>wpAny_bind (wpAny_bind (wpAny_mono h₂ (λx s₃ h₃=>wpAny_bind (wpAny_mono h₃
   (λ_ s₄ h₄=>wpAny_pure (wpAny_pure ⟨rfl,h₄⟩)) λ_ _ h'=>h'.elim)) λ_ _ h'=>h'.elim))) λ_ _ h'=>h'.elim)
theorem iP(elt target iter c:Expr)(scope:Scope)(pos:Pos)(it acc:Value)(env:Env):
  compTurn (.ListComp elt [⟨target,iter,[c],0⟩] scope pos) 0 it acc env=(standAt iter.pos >>= λ_=>pyNext it >>= λr=>match r with
   |none=>pure (.done .next)
   |some v=>letOwnedTupleGo target it v >>= λ_=>assign target env v >>= λ_ =>
    (forIn [c] true λc r=>if r=true then do let ok ← isTrue c env (eval c env);pure (ForInStep.yield ok)else pure (ForInStep.yield r)) >>= λok =>
    if ok=true then (eval elt env >>= λx=>call (.builtin "list.append") [acc,x] >>= λ_=>pure ()) >>= λ_ =>
     again (.compLoop (.ListComp elt [⟨target,iter,[c],0⟩] scope pos) 0 it acc env)
    else again (.compLoop (.ListComp elt [⟨target,iter,[c],0⟩] scope pos) 0 it acc env)):=by rfl
theorem lE{elt target iter c:Expr}{scope:Scope}{pos:Pos}{it acc:Value}{env:Env}(I:Nat→Shared→Prop)(turn:∀n s,I n s→wpAny (model prog w) A (pyNext it) (λr s₁=>match r with
   |none=>R (.ok .next) s₁
   | some v=>wpAny (model prog w) A (letOwnedTupleGo target it v) (λ_ s₂=>wpAny (model prog w) A (assign target env v) (λ_ s₃=>wpAny (model prog w) A (isTrue c env (eval c env)) (λok s₃ =>
     if ok=true then wpAny (model prog w) A (eval elt env) (λx s₄ =>
      wpAny (model prog w) A (call (.builtin "list.append") [acc,x]) (λ_ s₅=>∃m,m<n∧I m s₅) (λ_ _=>False) s₄) (λ_ _=>False) s₃
     else ∃m,m<n∧I m s₃) (λ_ _=>False) s₃) (λ_ _=>False) s₂) (λ_ _=>False) s₁) (λ_ _=>False) s)(n:Nat)(h:I n s):codeAny (model prog w) A (.compLoop (.ListComp elt [⟨target,iter,[c],0⟩] scope pos) 0 it acc env) R s:=by
 refine codeAny_loop rfl I (λn s hI=>?_) n h;show wpAny _ _ ((compTurn (.ListComp elt [⟨target,iter,[c],0⟩] scope pos) 0 it acc env).onRaise (λx=>do noteFrame x env;theTreesLotGoes x)) _ _ s;refine wpAny_noted ?_;rw[iP];refine wpAny_bind (wpAny_standAt (wpAny_bind (wpAny_mono (turn n s hI) (λr s₁ h₁=>?_) λ_ _ h'=>h'.elim)));cases r with
 |none=>exact wpAny_pure h₁
 |some v =>
  refine wpAny_bind (wpAny_mono h₁ (λ_ s₂ h₂=>?_) λ_ _ h'=>h'.elim);refine wpAny_bind (wpAny_mono h₂ (λ_ s₃ h₃=>?_) λ_ _ h'=>h'.elim);rw[forIn_cons];simp only[if_true];refine wpAny_bind (wpAny_bind (wpAny_bind (wpAny_mono h₃ (λok s₄ h₄=>wpAny_pure ?_) λ_ _ h'=>h'.elim)));simp only[forIn_nil];refine wpAny_pure ?_;cases ok with
  |true =>
   rw[if_pos rfl]at h₄⊢;exact wpAny_bind (wpAny_bind (wpAny_mono h₄ (λx s₃ h₃=>wpAny_bind (wpAny_mono h₃ (λ_ s₄ h₄=>wpAny_pure (wpAny_pure ⟨rfl,h₄⟩)) λ_ _ h'=>h'.elim)) λ_ _ h'=>h'.elim))
  |false =>
   rw[if_neg (by simp)]at h₄⊢;exact wpAny_pure ⟨rfl,h₄⟩
end
def LcW(k:Nat)(js:List Nat)(g:TG)(te:TE)(σ:St)(Q:VK)(J:It)(H1:Hp)(p:Addr):Prop:=∃W:Nat→Nat→List V→St→Hp→Prop,
 (∃m,W 0 m [] (cF k js σ) (upd H1 p (.lst [])))∧∀i m ys σ' H',W i m ys σ' H'→(J.stop i H'∧Q (.ref p) H') ∨
  (J.go i H'∧ys.length<sizeLine∧∀x H2,J.yld i H' x H2→g x σ' H2 λσ2 H3=>te σ2 H3 λy H4=>H4 p=some (.lst ys)∧∃m',m'<m∧W (i+1) m' (ys++[y]) σ2 (upd H4 p (.lst (ys++[y]))))
def tLc(k:Nat)(js:List Nat)(wi:TI)(g:TG)(te:TE):TE:=λσ H Q=>wi σ H λJ H1=>∀p,H1 p=none→LcW k js g te σ Q J H1 p
def yD(k:Nat)(js:List Nat)(g:TG)(tc:TT)(te:TE)(σ:St)(Q:VK)(J:It)(H1:Hp)(p:Addr):Prop:=∃W:Nat→Nat→List V→St→Hp→Prop,
 (∃m,W 0 m [] (cF k js σ) (upd H1 p (.lst [])))∧∀i m ys σ' H',W i m ys σ' H'→(J.stop i H'∧Q (.ref p) H') ∨
  (J.go i H'∧ys.length<sizeLine∧∀x H2,J.yld i H' x H2→g x σ' H2 λσ2 H3=>tc σ2 H3 λb H4=>if b=true then te σ2 H4 λy H5=>H5 p=some (.lst ys)∧∃m',m'<m∧W (i+1) m' (ys++[y]) σ2 (upd H5 p (.lst (ys++[y])))
   else ∃m',m'<m∧W (i+1) m' ys σ2 H4)
def yE(k:Nat)(js:List Nat)(wi:TI)(g:TG)(tc:TT)(te:TE):TE:=λσ H Q=>wi σ H λJ H1=>∀p,H1 p=none→yD k js g tc te σ Q J H1 p
section
variable{X:Cx}{N:List Str}{scope:Scope}{cl:List (Str×Addr)}{k:Nat}{js:List Nat}
theorem ce{elt tg iter:Expr}{pos:Pos}{wi:TI}{g:TG}{te:TE}(hc:X.calm=true)(L:LcOk X scope cl)(hN:N.length=k+js.length)(hj:∀(i j:Nat) x,js[i]?=some j→N[k+i]?=some x→X.N[j]?=some x∧Vis X.env.scope x∧X.env.scope.names.lookup x≠some .local∧((relabel scope X.env).names.lookup x=some .cell∨(relabel scope X.env).names.lookup x=some .free))(hi:PI X tg iter wi)(hg:∀s H fp,PG (bV X N scope cl s H fp) tg g)(he:∀s H fp,PE (bV X N scope cl s H fp) elt te)(hs:∀x,foldedSetIterable iter X.env x=pure x:=by intro _;rfl):PE X (.ListComp elt [⟨tg,iter,[],0⟩] scope pos) (tLc k js wi g te):=by
 intro pins s σ H Q I h;rw[eval_ListComp];refine wpAny_comprehension_free (use:=none) rfl hs L.clos L.kind L.names ?_;refine thn (hi pins s σ H _ I h) λv s1 h1=>thn h1 λitv s2 h2=>?_;obtain⟨it,fp,tn,J,H2,e,I2,T,st2,f2,hW⟩:=h2;subst e;have hfp:∀b∈fp,b<s2.heap.objs.size:=λb hb=>by
  obtain⟨o,e,_⟩:=T.obj _ _ st2 b hb;exact lt_size e
 refine wpAny_newObj_type (wpAny_newFunctionEnv L.nocell (by intro y hy;simp at hy) (λh₁ hns hsb=>?_) L.kind);dsimp only at hns hsb⊢;obtain⟨W,⟨m0,w0⟩,turn⟩:=hW s2.heap.objs.size (I2.hok.fresh (le_refl _));have I3:Inv X pins σ (upd H2 s2.heap.objs.size (.lst [])) {s2 with heap:=s2.heap.push {cls:=.type "list",dict:=none,data:=.seq ([]:List Value).toArray}}:=I2.lnew (t':=s2.toks) .nil (zero_le _)
 generalize hA:s2.heap.push {cls:=.type "list",dict:=none,data:=.seq ([]:List Value).toArray}=hpA at hns hsb I3⊢;have hszA:hpA.objs.size=s2.heap.objs.size+1:=by rw[←hA,size_push]
 have keepA:∀b o,s2.heap.get? b=some o→hpA.get? b=some o:=λb o e=>by rw[←hA];exact get?_push_of_some _ e
 have f3:∀b∈fp,eB X pins (upd H2 s2.heap.objs.size (.lst [])) b:=λb hb=>⟨by rw[ai (ne_of_lt (hfp b hb))];exact(f2 b hb).1,(f2 b hb).2⟩;have hfp3:∀b∈fp,b<hpA.objs.size:=λb hb=>by rw[hszA];exact lt_succ_of_lt (hfp b hb)
 have keep1:∀b o,hpA.get? b=some o→h₁.get? b=some o:=λb o e=>hsb.extBut b o (ne_of_lt (lt_size e)) (get?_push_of_some _ e);have J0:=gn (N:=N) (k:=k) (js:=js) (tk:=s2.toks+([]:List (Str×Value)).length) I3 L f3 hfp3 ⟨_,hns⟩ keep1 hN hj;have st1:tn 0 h₁:=T.keep _ _ _ st2 λb hb o e=>keep1 b o (keepA b o e);have stat:∀{H':Hp},(∀b∈fp,H' b=none)→∀b∈fp,eB (bV X N scope cl {s2 with heap:=hpA} (upd H2 s2.heap.objs.size (.lst [])) fp) [] H' b:=λhn b hb =>
  ⟨hn b hb,ne_of_lt (hfp3 b hb),(lD (N:=N) I3 L f3 hfp3).exfs b hb,.inl hb,λx c h=>(f3 b hb).2.2.2.2.1 x c (L.cells x c h),λp hp=>absurd (show p∈([]:List (Addr×Obj))from hp) (by simp)⟩
 have loop:codeAny (model X.prog X.w) X.A (.compLoop (.ListComp elt [⟨tg,iter,[],0⟩] scope pos) 0 (.ref it) (.ref s2.heap.objs.size) (compEnvC scope cl hpA.objs.size X.env))
   (compPost (model X.prog X.w) X.A X.xe none (EP X pins σ Q) (.ref s2.heap.objs.size) hpA.objs.size) {s2 with heap:=h₁,toks:=s2.toks+([]:List (Str×Value)).length}:=by
  refine oO (λn s'=>∃i ys σ' H',Inv (bV X N scope cl {s2 with heap:=hpA} (upd H2 s2.heap.objs.size (.lst [])) fp) [] σ' H' s'∧tn i s'.heap∧(∀b∈fp,H' b=none)∧W i n ys σ' H') ?_ m0 ⟨0,[],_,_,J0,st1,λb hb=>(f3 b hb).1,w0⟩
  rintro n s3 ⟨i,ys,σ3,H3,J3,st3,fr3,w3⟩;rcases turn i n ys σ3 H3 w3 with⟨stop,qn⟩|⟨go,hlen,step⟩
  ·refine thn (T.done (bV X N scope cl {s2 with heap:=hpA} (upd H2 s2.heap.objs.size (.lst [])) fp) rfl rfl rfl hc i [] s3 σ3 H3 (λ_ _=>False) J3 (stat fr3) st3 stop) λr s4 hpt=>?_
   obtain⟨hr,J4⟩:=hpt;subst hr;obtain⟨m,hm,_⟩:=J4.loc;exact⟨m,hm,λh' hs'=>⟨.ref s2.heap.objs.size,H3,kt I3 f3 J4 hs',rfl,qn⟩⟩
  ·refine thn (T.item (bV X N scope cl {s2 with heap:=hpA} (upd H2 s2.heap.objs.size (.lst [])) fp) rfl rfl rfl hc i [] s3 σ3 H3 (λ_ _=>False) J3 (stat fr3) st3 go) λr s4 hpt=>?_
   obtain⟨u,hr,h4⟩:=hpt;subst hr;refine thn h4 λ_ s5 hpt=>?_;obtain⟨x,H5,J5,r5,y5,st5,fr5⟩:=hpt;have J5':=J5.pinned (stat fr5) (T.obj _ _ st5);refine thn (hg _ _ _ _ s5 σ3 H5 x u _ J5' r5 (step x H5 y5)) λ_ s6 hpt=>?_;obtain⟨σ6,H6,J6,q6⟩:=hpt;refine thn (he _ _ _ _ s6 σ6 H6 _ J6 q6) λy s7 hpt=>?_;obtain⟨vy,H7,J7,r7,q7,m',hm',w7⟩:=hpt;refine thn (bx _ s7 σ6 H7 (.ref s2.heap.objs.size) [vy] _ _ (λ_ H8=>H8=upd H7 s2.heap.objs.size (.lst (ys++[vy]))) J7 rfl (.cons r7 .nil) ⟨_,ys,vy,rfl,rfl,q7,hlen,rfl⟩) λ_ s8 hpt=>?_;obtain⟨_,H8,J8,_,e8⟩:=hpt;subst e8;refine⟨m',hm',i+1,ys++[vy],σ6,_,J8.unpinned,T.keep _ _ _ st5 λb hb o e=>(J8.pin (b,o) (mem_append_right _ (mem_append_right _ (aV hb e)))).1,λb hb=>?_,w7⟩;obtain⟨o,e,d⟩:=T.obj _ _ st5 b hb;exact(J8.pin (b,o) (mem_append_right _ (mem_append_right _ (aV hb e)))).2.1
 exact codeAny_compStart_list loop (T.self _ 0 _ _ _ st1 loop)
theorem fz{elt tg iter c:Expr}{pos:Pos}{wi:TI}{g:TG}{tc:TT}{te:TE}(hc:X.calm=true)(L:LcOk X scope cl)(hN:N.length=k+js.length)(hj:∀(i j:Nat) x,js[i]?=some j→N[k+i]?=some x→X.N[j]?=some x∧Vis X.env.scope x∧X.env.scope.names.lookup x≠some .local∧((relabel scope X.env).names.lookup x=some .cell∨(relabel scope X.env).names.lookup x=some .free))(hi:PI X tg iter wi)(hg:∀s H fp,PG (bV X N scope cl s H fp) tg g)(ht:∀s H fp,PT (bV X N scope cl s H fp) c tc)(he:∀s H fp,PE (bV X N scope cl s H fp) elt te)(hs:∀x,foldedSetIterable iter X.env x=pure x:=by intro _;rfl):PE X (.ListComp elt [⟨tg,iter,[c],0⟩] scope pos) (yE k js wi g tc te):=by
 intro pins s σ H Q I h;rw[eval_ListComp];refine wpAny_comprehension_free (use:=none) rfl hs L.clos L.kind L.names ?_;refine thn (hi pins s σ H _ I h) λv s1 h1=>thn h1 λitv s2 h2=>?_;obtain⟨it,fp,tn,J,H2,e,I2,T,st2,f2,hW⟩:=h2;subst e;have hfp:∀b∈fp,b<s2.heap.objs.size:=λb hb=>by
  obtain⟨o,e,_⟩:=T.obj _ _ st2 b hb;exact lt_size e
 refine wpAny_newObj_type (wpAny_newFunctionEnv L.nocell (by intro y hy;simp at hy) (λh₁ hns hsb=>?_) L.kind);dsimp only at hns hsb⊢;obtain⟨W,⟨m0,w0⟩,turn⟩:=hW s2.heap.objs.size (I2.hok.fresh (le_refl _));have I3:Inv X pins σ (upd H2 s2.heap.objs.size (.lst [])) {s2 with heap:=s2.heap.push {cls:=.type "list",dict:=none,data:=.seq ([]:List Value).toArray}}:=I2.lnew (t':=s2.toks) .nil (zero_le _)
 generalize hA:s2.heap.push {cls:=.type "list",dict:=none,data:=.seq ([]:List Value).toArray}=hpA at hns hsb I3⊢;have hszA:hpA.objs.size=s2.heap.objs.size+1:=by rw[←hA,size_push]
 have keepA:∀b o,s2.heap.get? b=some o→hpA.get? b=some o:=λb o e=>by rw[←hA];exact get?_push_of_some _ e
 have f3:∀b∈fp,eB X pins (upd H2 s2.heap.objs.size (.lst [])) b:=λb hb=>⟨by rw[ai (ne_of_lt (hfp b hb))];exact(f2 b hb).1,(f2 b hb).2⟩;have hfp3:∀b∈fp,b<hpA.objs.size:=λb hb=>by rw[hszA];exact lt_succ_of_lt (hfp b hb)
 have keep1:∀b o,hpA.get? b=some o→h₁.get? b=some o:=λb o e=>hsb.extBut b o (ne_of_lt (lt_size e)) (get?_push_of_some _ e);have J0:=gn (N:=N) (k:=k) (js:=js) (tk:=s2.toks+([]:List (Str×Value)).length) I3 L f3 hfp3 ⟨_,hns⟩ keep1 hN hj;have st1:tn 0 h₁:=T.keep _ _ _ st2 λb hb o e=>keep1 b o (keepA b o e);have stat:∀{H':Hp},(∀b∈fp,H' b=none)→∀b∈fp,eB (bV X N scope cl {s2 with heap:=hpA} (upd H2 s2.heap.objs.size (.lst [])) fp) [] H' b:=λhn b hb =>
  ⟨hn b hb,ne_of_lt (hfp3 b hb),(lD (N:=N) I3 L f3 hfp3).exfs b hb,.inl hb,λx c h=>(f3 b hb).2.2.2.2.1 x c (L.cells x c h),λp hp=>absurd (show p∈([]:List (Addr×Obj))from hp) (by simp)⟩
 have loop:codeAny (model X.prog X.w) X.A (.compLoop (.ListComp elt [⟨tg,iter,[c],0⟩] scope pos) 0 (.ref it) (.ref s2.heap.objs.size) (compEnvC scope cl hpA.objs.size X.env))
   (compPost (model X.prog X.w) X.A X.xe none (EP X pins σ Q) (.ref s2.heap.objs.size) hpA.objs.size) {s2 with heap:=h₁,toks:=s2.toks+([]:List (Str×Value)).length}:=by
  refine lE (λn s'=>∃i ys σ' H',Inv (bV X N scope cl {s2 with heap:=hpA} (upd H2 s2.heap.objs.size (.lst [])) fp) [] σ' H' s'∧tn i s'.heap∧(∀b∈fp,H' b=none)∧W i n ys σ' H') ?_ m0 ⟨0,[],_,_,J0,st1,λb hb=>(f3 b hb).1,w0⟩
  rintro n s3 ⟨i,ys,σ3,H3,J3,st3,fr3,w3⟩;rcases turn i n ys σ3 H3 w3 with⟨stop,qn⟩|⟨go,hlen,step⟩
  ·refine thn (T.done (bV X N scope cl {s2 with heap:=hpA} (upd H2 s2.heap.objs.size (.lst [])) fp) rfl rfl rfl hc i [] s3 σ3 H3 (λ_ _=>False) J3 (stat fr3) st3 stop) λr s4 hpt=>?_
   obtain⟨hr,J4⟩:=hpt;subst hr;obtain⟨m,hm,_⟩:=J4.loc;exact⟨m,hm,λh' hs'=>⟨.ref s2.heap.objs.size,H3,kt I3 f3 J4 hs',rfl,qn⟩⟩
  ·refine thn (T.item (bV X N scope cl {s2 with heap:=hpA} (upd H2 s2.heap.objs.size (.lst [])) fp) rfl rfl rfl hc i [] s3 σ3 H3 (λ_ _=>False) J3 (stat fr3) st3 go) λr s4 hpt=>?_
   obtain⟨u,hr,h4⟩:=hpt;subst hr;refine thn h4 λ_ s5 hpt=>?_;obtain⟨x,H5,J5,r5,y5,st5,fr5⟩:=hpt;have J5':=J5.pinned (stat fr5) (T.obj _ _ st5);refine thn (hg _ _ _ _ s5 σ3 H5 x u _ J5' r5 (step x H5 y5)) λ_ s6 hpt=>?_;obtain⟨σ6,H6,J6,q6⟩:=hpt;refine thn (ht _ _ _ _ s6 σ6 H6 _ J6 q6) λb s6 hpt=>?_;obtain⟨H6,J6,q6⟩:=hpt;cases b with
   |true =>
    rw[if_pos rfl]at q6⊢;refine thn (he _ _ _ _ s6 σ6 H6 _ J6 q6) λy s7 hpt=>?_;obtain⟨vy,H7,J7,r7,q7,m',hm',w7⟩:=hpt;refine thn (bx _ s7 σ6 H7 (.ref s2.heap.objs.size) [vy] _ _ (λ_ H8=>H8=upd H7 s2.heap.objs.size (.lst (ys++[vy]))) J7 rfl (.cons r7 .nil) ⟨_,ys,vy,rfl,rfl,q7,hlen,rfl⟩) λ_ s8 hpt=>?_;obtain⟨_,H8,J8,_,e8⟩:=hpt;subst e8;refine⟨m',hm',i+1,ys++[vy],σ6,_,J8.unpinned,T.keep _ _ _ st5 λb hb o e=>(J8.pin (b,o) (mem_append_right _ (mem_append_right _ (aV hb e)))).1,λb hb=>?_,w7⟩;obtain⟨o,e,d⟩:=T.obj _ _ st5 b hb;exact(J8.pin (b,o) (mem_append_right _ (mem_append_right _ (aV hb e)))).2.1
   |false =>
    rw[if_neg (by simp)]at q6⊢;obtain⟨m',hm',w7⟩:=q6;refine⟨m',hm',i+1,ys,σ6,_,J6.unpinned,T.keep _ _ _ st5 λb hb o e=>(J6.pin (b,o) (mem_append_right _ (mem_append_right _ (aV hb e)))).1,λb hb=>?_,w7⟩;obtain⟨o,e,d⟩:=T.obj _ _ st5 b hb;exact(J6.pin (b,o) (mem_append_right _ (mem_append_right _ (aV hb e)))).2.1
 exact codeAny_compStart_list loop (T.self _ 0 _ _ _ st1 loop)
end
end L2
namespace TB
open PySem PySem.SetTable
def adv(mask:Nat)(p:Probe):Probe :=
 if p.more>0 then {p with j:=p.j+1,more:=p.more-1} else
 {p with j:=(leap mask p.i p.perturb).1,more:=runEnd mask (leap mask p.i p.perturb).1-(leap mask p.i p.perturb).1,i:=(leap mask p.i p.perturb).1,perturb:=(leap mask p.i p.perturb).2}
theorem fA(t:SetTable)(p:Probe):advance t p=adv t.mask p:=rfl
def lvP(mask:Nat)(x:Nat×Nat):Probe:={j:=x.1,more:=runEnd mask x.1-x.1,i:=x.1,perturb:=x.2,dummy:=none}
def st(mask:Nat)(h:Int):Probe:=lvP mask (bits h % (mask+1),bits h)
def nth(mask:Nat):Probe→Nat→Probe
 |p,0=>p
 |p,n+1=>nth mask (adv mask p) n
theorem dP(mask:Nat):∀(a b:Nat)(p:Probe),nth mask p (a+b)=nth mask (nth mask p a) b
 |0,b,p=>by rw[zero_add];rfl
 |a+1,b,p=>by
  rw[show a+1+b=(a+b)+1 by omega];show nth mask (adv mask p) (a+b)=nth mask (nth mask (adv mask p) a) b;exact dP mask a b _
theorem rP(mask:Nat)(p:Probe)(n:Nat):nth mask p (n+1)=adv mask (nth mask p n):=by
 rw[dP];rfl
def pos(mask:Nat)(h:Int)(n:Nat):Nat:=(nth mask (st mask h) n).j
theorem jL(mask:Nat):∀(m:Nat)(p:Probe),p.more=m→nth mask p m={p with j:=p.j+m,more:=0}
 |0,p,h=>by
  show p=_;cases p;simp at h;subst h;rfl
 |m+1,p,h=>by
  show nth mask (adv mask p) m=_;have e:adv mask p={p with j:=p.j+1,more:=m}:=by
   unfold adv;rw[if_pos (by omega),h];rfl
  rw[e,jL mask m _ rfl];simp only[Probe.mk.injEq,and_true];omega
theorem lF(mask:Nat):∀(m:Nat)(p:Probe),m≤p.more→nth mask p m={p with j:=p.j+m,more:=p.more-m}
 |0,p,h=>by
  show p=_;cases p;rfl
 |m+1,p,h=>by
  show nth mask (adv mask p) m=_;have e:adv mask p={p with j:=p.j+1,more:=p.more-1}:=by
   unfold adv;rw[if_pos (by omega)]
  rw[e,lF mask m _ (by show m≤p.more-1;omega)];simp only[Probe.mk.injEq,and_true];omega
theorem fD(mask:Nat)(x:Nat×Nat):nth mask (lvP mask x) (runEnd mask x.1-x.1+1)=lvP mask (leap mask x.1 x.2):=by
 have e:=jL mask (runEnd mask x.1-x.1) (lvP mask x) rfl;rw[rP,e];unfold adv;rw[if_neg (by simp)];rfl
theorem wQ(mask i:Nat):runEnd mask i-i≤9:=by unfold runEnd;split<;>omega
def lv(mask:Nat):Nat→Nat×Nat→Nat×Nat
 |0,x=>x
 |k+1,x=>lv mask k (leap mask x.1 x.2)
theorem ny(mask:Nat):∀(a b:Nat)(x:Nat×Nat),lv mask (a+b) x=lv mask b (lv mask a x)
 |0,b,x=>by rw[zero_add];rfl
 |a+1,b,x=>by
  rw[show a+1+b=(a+b)+1 by omega];exact ny mask a b _
theorem lG(mask:Nat):∀(k:Nat)(x:Nat×Nat),∃n,n≤10*k∧nth mask (lvP mask x) n=lvP mask (lv mask k x)
 |0,x=>⟨0,by omega,rfl⟩
 |k+1,x=>by
  obtain⟨n,hn,e⟩:=lG mask k (leap mask x.1 x.2);refine⟨(runEnd mask x.1-x.1+1)+n,?_,?_⟩
  ·have:=wQ mask x.1;omega
  ·rw[dP,fD];exact e
theorem fE(mask:Nat):∀(k:Nat)(x:Nat×Nat),(lv mask k x).2=x.2 / 32 ^ k
 |0,x=>by simp[lv]
 |k+1,x=>by
  show(lv mask k (leap mask x.1 x.2)).2=_;rw[fE mask k];show x.2 / 32 / 32 ^ k=_;rw[Nat.div_div_eq_div_mul,Nat.pow_succ,Nat.mul_comm 32]
theorem oP(mask:Nat):∀(k:Nat)(x:Nat×Nat),x.1≤mask→(lv mask k x).1≤mask
 |0,x,h=>h
 |k+1,x,h=>oP mask k _ (by show(x.1*5+1+x.2 / 32) % (mask+1)≤mask;have:=mod_lt (x.1*5+1+x.2 / 32) (show 0<mask+1 by omega);omega)
theorem oQ(h:Int):bits h<2 ^ 64:=by
 unfold bits;have h1:=emod_nonneg h (b:=2 ^ 64) (by decide);have h2:=Int.emod_lt_of_pos h (b:=2 ^ 64) (by decide);omega
def gp(mask:Nat):Nat→Nat→Nat
 |0,i=>i
 |k+1,i=>gp mask k ((i*5+1) % (mask+1))
theorem iQ(mask:Nat):∀(k i:Nat),lv mask k (i,0)=(gp mask k i,0)
 |0,i=>rfl
 |k+1,i=>by
  show lv mask k ((i*5+1+0 / 32) % (mask+1),0 / 32)=_;simp only[Nat.zero_div,Nat.add_zero];exact iQ mask k _
def Cyc(mask:Nat):Prop:=∀i,i≤mask→∀j,j≤mask→∃k,k≤mask∧gp mask k i=j
theorem eV(mask:Nat):∀(a b i:Nat),gp mask (a+b) i=gp mask b (gp mask a i)
 |0,b,i=>by rw[zero_add];rfl
 |a+1,b,i=>by
  rw[show a+1+b=(a+b)+1 by omega];exact eV mask a b _
def uG(mask:Nat):Nat→Nat→List Nat
 |0,_=>[]
 |n+1,i=>i::uG mask n ((i*5+1) % (mask+1))
theorem lH{mask j:Nat}:∀{n i:Nat},j∈uG mask n i→∃k,k<n∧gp mask k i=j
 |0,_,h=>by simp[uG]at h
 |n+1,i,h=>by
  rcases mem_cons.mp h with e|e
  ·exact⟨0,by omega,e.symm⟩
  ·obtain⟨k,hk,e'⟩:=lH e;exact⟨k+1,by omega,e'⟩
theorem rQ{mask:Nat}(h0:gp mask (mask+1) 0=0)(h:(List.range (mask+1)).all (λj=>(uG mask (mask+1) 0).contains j)=true):Cyc mask:=by
 have all:∀j,j≤mask→∃k,k≤mask∧gp mask k 0=j:=λj hj=>by
  rw[all_eq_true]at h;have h1:=h j (mem_range.mpr (by omega));rw[List.contains_iff_mem]at h1;obtain⟨k,hk,e⟩:=lH h1;exact⟨k,by omega,e⟩
 intro i hi j hj;obtain⟨a,ha,ea⟩:=all i hi;obtain⟨b,hb,eb⟩:=all j hj
 by_cases hab:a≤b
 ·refine⟨b-a,by omega,?_⟩;rw[←ea,←eV,show a+(b-a)=b by omega];exact eb
 ·refine⟨mask+1-a+b,by omega,?_⟩;rw[←ea,←eV,show a+(mask+1-a+b)=(mask+1)+b by omega,eV,h0];exact eb
def Mk(m:Nat):Prop:=m=7∨m=15∨m=31∨m=63∨m=127∨m=255
theorem Mk.cyc{m:Nat}(h:Mk m):Cyc m:=by
 rcases h with e|e|e|e|e|e<;>subst e<;>exact rQ (by decide +kernel) (by decide +kernel)
theorem Mk.ge{m:Nat}(h:Mk m):7≤m∧m≤255:=by rcases h with e|e|e|e|e|e<;>subst e<;>omega
theorem Mk.odd{m:Nat}(h:Mk m):m % 2=1:=by rcases h with e|e|e|e|e|e<;>subst e<;>rfl
def mkB(m:Nat):Bool:=m==7||m==15||m==31||m==63||m==127||m==255
theorem wR:(List.range 256).all (λw=>mkB (sizeAbove w-1)&&decide (w≤sizeAbove w-1)&&decide (sizeAbove w≤256))=true:=by decide +kernel
theorem rR{w:Nat}(h:w≤255):Mk (sizeAbove w-1)∧w≤sizeAbove w-1∧sizeAbove w≤256:=by
 have h1:=(all_eq_true.mp wR) w (mem_range.mpr (by omega));rw[and_eq_true,and_eq_true,decide_eq_true_eq,decide_eq_true_eq]at h1;refine⟨?_,h1.1.2,h1.2⟩;have h2:=h1.1.1;unfold mkB at h2;rw[or_eq_true,or_eq_true,or_eq_true,or_eq_true,or_eq_true,beq_iff_eq,beq_iff_eq,beq_iff_eq,beq_iff_eq,beq_iff_eq,beq_iff_eq]at h2;rcases h2 with ((((h|h)|h)|h)|h)|h
 ·exact .inl h
 ·exact .inr (.inl h)
 ·exact .inr (.inr (.inl h))
 ·exact .inr (.inr (.inr (.inl h)))
 ·exact .inr (.inr (.inr (.inr (.inl h))))
 ·exact .inr (.inr (.inr (.inr (.inr h))))
theorem cover{mask:Nat}(c:Cyc mask)(h:Int){j:Nat}(hj:j≤mask):∃n,n<10*turns mask∧pos mask h n=j:=by
 have h0:(lv mask 13 (bits h % (mask+1),bits h)).2=0:=by
  rw[fE];have:=oQ h;exact Nat.div_eq_of_lt (by have e:(32:Nat) ^ 13=36893488147419103232:=(by decide);rw[e];show bits h<_;omega)
 have h1:(lv mask 13 (bits h % (mask+1),bits h)).1≤mask:=oP mask _ _ (by have:=mod_lt (bits h) (show 0<mask+1 by omega);show bits h % (mask+1)≤mask;omega);obtain⟨k,hk,e⟩:=c _ h1 j hj;obtain⟨n,hn,en⟩:=lG mask (13+k) (bits h % (mask+1),bits h);refine⟨n,by unfold turns;omega,?_⟩;unfold pos st;rw[en,ny];have ex:lv mask 13 (bits h % (mask+1),bits h)=((lv mask 13 (bits h % (mask+1),bits h)).1,0):=by rw[←h0]
 rw[ex,iQ];exact e
def InT(mask:Nat)(p:Probe):Prop:=p.j+p.more≤mask
theorem gX{mask i:Nat}(h:i≤mask):runEnd mask i≤mask∧i≤runEnd mask i:=by unfold runEnd;split<;>omega
theorem uH{mask:Nat}{p:Probe}(h:InT mask p):InT mask (adv mask p):=by
 unfold adv InT at *
 split
 ·show p.j+1+(p.more-1)≤mask;omega
 ·have hl:(leap mask p.i p.perturb).1≤mask:=by
   show(p.i*5+1+p.perturb / 32) % (mask+1)≤mask;have:=mod_lt (p.i*5+1+p.perturb / 32) (show 0<mask+1 by omega);omega
  have:=gX hl;show(leap mask p.i p.perturb).1+(runEnd mask (leap mask p.i p.perturb).1-(leap mask p.i p.perturb).1)≤mask;omega
theorem oR{mask:Nat}:∀(n:Nat){p:Probe},InT mask p→InT mask (nth mask p n)
 |0,_,h=>h
 |n+1,_,h=>oR n (uH h)
theorem wS{mask:Nat}{x:Nat×Nat}(h:x.1≤mask):InT mask (lvP mask x):=by
 have:=gX h;show x.1+(runEnd mask x.1-x.1)≤mask;omega
theorem iR(mask:Nat)(h:Int)(n:Nat):pos mask h n≤mask:=by
 have:InT mask (nth mask (st mask h) n):=oR n (wS (by have:=mod_lt (bits h) (show 0<mask+1 by omega);show bits h % (mask+1)≤mask;omega));unfold InT at this;unfold pos;omega
theorem lI(E:Nat→Prop):∀N,E N→∃n,n≤N∧E n∧∀m,m<n→¬E m
 |N,h=>by
  induction N using Nat.strongRecOn with
  |_ N ih =>
   by_cases z:∃m,m<N∧E m
   ·obtain⟨m,hm,e⟩:=z;obtain⟨n,hn,e',no⟩:=ih m hm e;exact⟨n,by omega,e',no⟩
   ·exact⟨N,le_refl _,h,λm hm e=>z ⟨m,hm,e⟩⟩
theorem gY(mask:Nat):∀(n:Nat)(p:Probe),(nth mask p n).dummy=p.dummy
 |0,_=>rfl
 |n+1,p=>by
  show(nth mask (adv mask p) n).dummy=_;rw[gY mask n];unfold adv
  split<;>rfl
theorem lJ(t:SetTable)(ha:Nat→Int)(h:Int):∀(n:Nat)(p:Probe)(fuel:Nat),n<fuel →
  (∀m,m<n→∃i,t.slot (nth t.mask p m).j=.live i∧(ha i==h)=false)→t.slot (nth t.mask p n).j=.empty →
  probe.go t ha h fuel p=some (.empty (nth t.mask p n).j p.dummy)
 |0,p,fuel+1,_,_,e=>by
  have e':t.slot p.j=.empty:=e;unfold probe.go;rw[e'];rfl
 |n+1,p,fuel+1,hf,hl,e=>by
  obtain⟨i,h1,h2⟩:=hl 0 (by omega);have h1':t.slot p.j=.live i:=h1;unfold probe.go;rw[h1'];simp only[h2,false_eq_true,if_false,fA];rw[lJ t ha h n (adv t.mask p) fuel (by omega) (λm hm=>hl (m+1) (by omega)) e]
  congr 2
  exact gY t.mask 1 p
theorem oS(t:SetTable)(ha:Nat→Int)(h:Int)(i:Nat):∀(n:Nat)(p:Probe)(fuel:Nat),n<fuel →
  (∀m,m<n→∃i,t.slot (nth t.mask p m).j=.live i∧(ha i==h)=false)→t.slot (nth t.mask p n).j=.live i→(ha i==h)=true →
  probe.go t ha h fuel p=some (.candidate (nth t.mask p n).j i (nth t.mask p (n+1)))
 |0,p,fuel+1,_,_,e,hh=>by
  have e':t.slot p.j=.live i:=e;unfold probe.go;rw[e'];simp only[hh,if_true,fA];rfl
 |n+1,p,fuel+1,hf,hl,e,hh=>by
  obtain⟨i',h1,h2⟩:=hl 0 (by omega);have h1':t.slot p.j=.live i':=h1;unfold probe.go;rw[h1'];simp only[h2,false_eq_true,if_false,fA];rw[oS t ha h i n (adv t.mask p) fuel (by omega) (λm hm=>hl (m+1) (by omega)) e hh];rfl
theorem iS(xs:Array Nat)(j:Nat)(hs:∀a b,a<b→b<xs.size→xs.getD a 0<xs.getD b 0):∀(fuel lo hi:Nat),hi-lo≤fuel→lo≤hi→hi≤xs.size →
  (∀k,k<lo→xs.getD k 0<j)→(∀k,hi≤k→k<xs.size→j≤xs.getD k 0) →
  below.go xs j fuel lo hi≤xs.size∧(∀k,k<below.go xs j fuel lo hi→xs.getD k 0<j)∧(∀k,below.go xs j fuel lo hi≤k→k<xs.size→j≤xs.getD k 0)
 |0,lo,hi,hf,hl,hh,h1,h2=>by
  have e:lo=hi:=by omega
  subst e;exact⟨hh,h1,h2⟩
 |fuel+1,lo,hi,hf,hl,hh,h1,h2=>by
  unfold below.go
  by_cases hlt:lo<hi
  ·rw[if_pos hlt];have hm:(lo+hi) / 2<hi:=by omega
   have hm2:lo≤(lo+hi) / 2:=by omega
   have eg:xs.getD ((lo+hi) / 2) j=xs.getD ((lo+hi) / 2) 0:=by
    rw[getD_eq_getD_getElem?,getD_eq_getD_getElem?,Array.getElem?_eq_getElem (by omega)];rfl
   simp only[eg]
   split
   ·rename_i hc
    refine iS xs j hs fuel _ hi (by omega) (by omega) hh (λk hk=>?_) h2
    by_cases e:k=(lo+hi) / 2
    ·rw[e];exact hc
    ·have:=hs k ((lo+hi) / 2) (by omega) (by omega);omega
   ·rename_i hc
    refine iS xs j hs fuel lo _ (by omega) (by omega) (by omega) h1 (λk hk hk2=>?_)
    by_cases e:k=(lo+hi) / 2
    ·rw[e];omega
    ·have:=hs ((lo+hi) / 2) k (by omega) hk2;omega
  ·rw[if_neg hlt];have e:lo=hi:=by omega
   subst e;exact⟨hh,h1,h2⟩
def Up(l:List Nat):Prop:=l.Pairwise (· < ·)
theorem wT{l:List Nat}(h:Up l){a b:Nat}(hab:a<b)(hb:b<l.length):l.toArray.getD a 0<l.toArray.getD b 0:=by
 unfold Up at h;have:=pairwise_iff_getElem.mp h a b (by omega) hb hab;simp[getD_eq_getD_getElem?,show a<l.length by omega,hb];exact this
theorem iT{l:List Nat}(h:Up l)(j:Nat):below l.toArray j≤l.length∧(∀k (hk:k<l.length),k<below l.toArray j→l[k]<j)∧(∀k (hk:k<l.length),below l.toArray j≤k→j≤l[k]):=by
 have:=iS l.toArray j (λa b hab hb=>wT h hab (by simpa using hb)) l.toArray.size 0 l.toArray.size (by omega) (by omega) (le_refl _) (by intro k hk;omega) (by intro k hk hk2;omega);unfold below;refine⟨by simpa using this.1,λk hk h1=>?_,λk hk h1=>?_⟩
 ·have:=this.2.1 k h1;simpa [getD_eq_getD_getElem?,hk]using this
 ·have:=this.2.2 k h1 (by simpa using hk);simpa [getD_eq_getD_getElem?,hk]using this
structure Tb(t:SetTable)(l:List Nat):Prop where
 pl:t.place=l.toArray
 nd:t.dummies=#[]
 up:Up l
 le:∀j∈l,j≤t.mask
theorem oT(j:Nat):has #[] j=false:=by
 unfold has;simp
theorem ku{t:SetTable}{l:List Nat}(T:Tb t l){i j:Nat}(h:l[i]?=some j):t.slot j=.live i:=by
 obtain⟨hi,e⟩:=List.getElem?_eq_some_iff.mp h;obtain⟨b1,b2,b3⟩:=iT T.up j;have eb:below l.toArray j=i:=by
  rcases Nat.lt_trichotomy (below l.toArray j) i with z|z|z
  ·have:=b3 (below l.toArray j) (by omega) (le_refl _);have:=pairwise_iff_getElem.mp T.up (below l.toArray j) i (by omega) hi z;omega
  ·exact z
  ·have:=b2 i hi z;omega
 unfold SetTable.slot;rw[T.pl,eb];simp[h]
theorem rS{t:SetTable}{l:List Nat}(T:Tb t l){j:Nat}(h:j∉l):t.slot j=.empty:=by
 unfold SetTable.slot;rw[T.pl,T.nd,oT];have:¬(l.toArray[below l.toArray j]?==some j)=true:=by
  intro z;have z':l[below l.toArray j]?=some j:=by simpa using z
  exact h (mem_of_getElem? z')
 simp only[this,false_eq_true,if_false]
theorem qm{l:List Nat}(h:Up l){j:Nat}(hj:j∉l):Up (l.take (below l.toArray j)++j::l.drop (below l.toArray j)):=by
 obtain⟨b1,b2,b3⟩:=iT h j;unfold Up;rw[List.pairwise_append,pairwise_cons];have hsub1:(l.take (below l.toArray j)).Pairwise (· < ·):=Pairwise.sublist (take_sublist _ _) h;have hsub2:(l.drop (below l.toArray j)).Pairwise (· < ·):=Pairwise.sublist (List.drop_sublist _ _) h;have h1:∀a∈l.take (below l.toArray j),a<j:=by
  intro a ha;obtain⟨k,hk,e⟩:=mem_iff_getElem.mp ha;rw[length_take]at hk;rw[List.getElem_take]at e;rw[←e];exact b2 k (by omega) (by omega)
 have h2:∀a∈l.drop (below l.toArray j),j<a:=by
  intro a ha;have hne:a≠j:=λe=>hj (e ▸ List.mem_of_mem_drop ha);obtain⟨k,hk,e⟩:=mem_iff_getElem.mp ha;rw[length_drop]at hk;rw[List.getElem_drop]at e;have:=b3 (below l.toArray j+k) (by omega) (by omega);omega
 refine⟨hsub1,⟨h2,hsub2⟩,λa ha b hb=>?_⟩;rcases mem_cons.mp hb with rfl|hb
 ·exact h1 a ha
 ·have:=h1 a ha;have:=h2 b hb;omega
theorem wU{t:SetTable}{l:List Nat}(T:Tb t l){j:Nat}(hj:j∉l)(hm:j≤t.mask):Tb (t.put j).1 (l.take (below l.toArray j)++j::l.drop (below l.toArray j))∧(t.put j).2=below l.toArray j∧(t.put j).1.mask=t.mask:=by
 refine⟨⟨?_,?_,qm T.up hj,?_⟩,?_,rfl⟩
 ·show insertAt t.place (below t.place j) j=_;rw[T.pl];apply toList_inj.mp;rw[SetTable.toList_insertAt]
 ·show(if has t.dummies j=true then _ else t.dummies)=#[];rw[T.nd,oT];rfl
 ·intro a ha;rcases mem_append.mp ha with h|h
  ·exact T.le a (List.mem_of_mem_take h)
  ·rcases mem_cons.mp h with rfl|h
   ·exact hm
   ·exact T.le a (List.mem_of_mem_drop h)
 ·show below t.place j=_;rw[T.pl]
def fj(mask:Nat)(zs:List (Nat×Int)):Prop:=∀z∈zs,∃n,pos mask z.2 n=z.1∧∀m,m<n→pos mask z.2 m∈zs.map (·.1)
theorem fj.nil(mask:Nat):fj mask []:=by intro z hz;simp at hz
theorem fj.mono{mask:Nat}{zs ys:List (Nat×Int)}(h:fj mask zs)(new:Nat×Int)(hm:∀z∈ys,z∈zs∨z=new)(hs:∀z∈zs,z∈ys)(hn:∃n,pos mask new.2 n=new.1∧∀m,m<n→pos mask new.2 m∈zs.map (·.1)):fj mask ys:=by
 intro z hz;have up:∀j,j∈zs.map (·.1)→j∈ys.map (·.1):=λj hj=>by
  obtain⟨y,hy,e⟩:=mem_map.mp hj;exact mem_map.mpr ⟨y,hs y hy,e⟩
 rcases hm z hz with h1|h1
 ·obtain⟨n,e,p⟩:=h z h1;exact⟨n,e,λm hm=>up _ (p m hm)⟩
 ·subst h1;obtain⟨n,e,p⟩:=hn;exact⟨n,e,λm hm=>up _ (p m hm)⟩
def emp(owner:Array (Option Nat))(j:Nat):Bool:=(owner.getD j (some 0)).isNone
theorem jM(mask:Nat)(owner:Array (Option Nat)):∀(fuel:Nat)(x:Nat×Nat),x.1≤mask→(∃k,k<fuel∧emp owner (lv mask k x).1=true) →
  ∃j n,layClean.free mask owner fuel x.1 x.2=some j∧(nth mask (lvP mask x) n).j=j∧emp owner j=true∧∀m,m<n→emp owner (nth mask (lvP mask x) m).j=false
 |0,x,_,h=>by obtain⟨k,hk,_⟩:=h;omega
 |fuel+1,x,hx,h=>by
  unfold layClean.free;have hr:=gX hx;have hpart:∀m,m≤runEnd mask x.1-x.1→(nth mask (lvP mask x) m).j=x.1+m:=λm hm=>by
   rw[lF mask m (lvP mask x) hm];rfl
  cases e:(List.range (runEnd mask x.1+1-x.1)).find? (λk=>(owner.getD (x.1+k) (some 0)).isNone)with
  |some k =>
   rw[List.find?_range_eq_some]at e;obtain⟨e1,e2,e3⟩:=e;have hk:k≤runEnd mask x.1-x.1:=by have:=mem_range.mp e2;omega
   refine⟨x.1+k,k,rfl,hpart k hk,e1,λm hm=>?_⟩;rw[hpart m (by omega)];have:=e3 m hm;simpa [emp]using this
  |none =>
   rw[List.find?_range_eq_none]at e;obtain⟨k,hk,h1⟩:=h;have hk0:k≠0:=by
    rintro rfl;have:=e 0 (by omega);have h1':(owner.getD x.1 (some 0)).isNone=true:=h1;rw[Nat.add_zero,h1']at this;simp at this
   obtain⟨k',rfl⟩:∃k',k=k'+1:=⟨k-1,by omega⟩;have hl:(leap mask x.1 x.2).1≤mask:=oP mask 1 x hx;obtain⟨j,n,f1,f2,f3,f4⟩:=jM mask owner fuel (leap mask x.1 x.2) hl ⟨k',by omega,h1⟩;refine⟨j,(runEnd mask x.1-x.1+1)+n,f1,?_,f3,λm hm=>?_⟩
   ·rw[dP,fD];exact f2
   ·by_cases hm2:m≤runEnd mask x.1-x.1
    ·rw[hpart m hm2];have:=e m (by omega);simpa [emp]using this
    ·obtain⟨m',rfl⟩:∃m',m=(runEnd mask x.1-x.1+1)+m':=⟨m-(runEnd mask x.1-x.1+1),by omega⟩;rw[dP,fD];exact f4 m' (by omega)
theorem uI{mask:Nat}(c:Cyc mask)(owner:Array (Option Nat))(h:Int){j₀:Nat}(hj:j₀≤mask)(he:emp owner j₀=true):
  ∃j n,layClean.free mask owner (turns mask) (bits h % (mask+1)) (bits h)=some j∧pos mask h n=j∧emp owner j=true∧∀m,m<n→emp owner (pos mask h m)=false:=by
 have h0:(lv mask 13 (bits h % (mask+1),bits h)).2=0:=by
  rw[fE];have:=oQ h;exact Nat.div_eq_of_lt (by have e:(32:Nat) ^ 13=36893488147419103232:=(by decide);rw[e];show bits h<_;omega)
 have hx:bits h % (mask+1)≤mask:=by have:=mod_lt (bits h) (show 0<mask+1 by omega);omega
 have h1:(lv mask 13 (bits h % (mask+1),bits h)).1≤mask:=oP mask _ _ hx;obtain⟨k,hk,e⟩:=c _ h1 j₀ hj;refine jM mask owner (turns mask) (bits h % (mask+1),bits h) hx ⟨13+k,by unfold turns;omega,?_⟩;rw[ny];have ex:lv mask 13 (bits h % (mask+1),bits h)=((lv mask 13 (bits h % (mask+1),bits h)).1,0):=by rw[←h0]
 rw[ex,iQ,e];exact he
def live(mask:Nat)(owner:Array (Option Nat)):List (Nat×Nat):=(List.range (mask+1)).filterMap λj=>(owner.getD j none).map (j,·)
theorem eJ{α β:Type}{f g:α→Option β}:∀{l:List α},(∀x∈l,g x=f x)→l.filterMap g=l.filterMap f
 |[],_=>rfl
 |x::l,h=>by
  have ih:=eJ (l:=l) λy hy=>h y (mem_cons_of_mem _ hy);have hx:=h x mem_cons_self;cases e:f x with
  |none=>rw[filterMap_cons_none e,filterMap_cons_none (hx.trans e),ih]
  |some b=>rw[filterMap_cons_some e,filterMap_cons_some (hx.trans e),ih]
theorem fk{α β:Type}(f g:α→Option β)(a:α)(v:β)(hf:f a=none)(hg:g a=some v)(hne:∀x,x≠a→g x=f x):∀(l:List α),l.Nodup→a∈l →
  (l.filterMap g).Perm (v::l.filterMap f)
 |[],_,h=>by simp at h
 |x::l,hn,h=>by
  obtain⟨h1,h2⟩:=nodup_cons.mp hn
  by_cases e:x=a
  ·subst e;rw[filterMap_cons_some hg,filterMap_cons_none hf];have:l.filterMap g=l.filterMap f:=eJ λy hy=>hne y (λe=>h1 (e ▸ hy));rw[this]
  ·have ha:a∈l:=by
    rcases mem_cons.mp h with z|z
    ·exact absurd z.symm e
    ·exact z
   have ih:=fk f g a v hf hg hne l h2 ha;cases ef:f x with
   |none =>
    rw[filterMap_cons_none ef,filterMap_cons_none (by rw[hne x e,ef])];exact ih
   |some b =>
    rw[filterMap_cons_some ef,filterMap_cons_some (by rw[hne x e,ef])];exact(ih.cons b).trans (List.Perm.swap _ _ _)
structure Lay(mask:Nat)(owner:Array (Option Nat))(hs:List Int):Prop where
 size:owner.size=mask+1
 perm:((live mask owner).map (·.2)).Perm (List.range hs.length)
 path:∀j i,owner.getD j none=some i→∃h,hs[i]?=some h∧∃n,pos mask h n=j∧∀m,m<n→emp owner (pos mask h m)=false
theorem gq{mask:Nat}{owner:Array (Option Nat)}(hs:owner.size=mask+1){j:Nat}(hj:j≤mask):emp owner j=(owner.getD j none).isNone:=by
 unfold emp;rw[getD_eq_getD_getElem?,getD_eq_getD_getElem?,Array.getElem?_eq_getElem (by omega)];rfl
theorem uJ(mask:Nat):Lay mask (replicate (mask+1) none) []:=by
 have e:∀j,(replicate (mask+1) (none:Option Nat)).getD j none=none:=λj=>by
  rw[getD_eq_getD_getElem?,Array.getElem?_replicate]
  split<;>rfl
 refine⟨by simp,?_,λj i h=>?_⟩
 ·have:live mask (replicate (mask+1) none)=[]:=by
   unfold live;rw[List.filterMap_eq_nil_iff];intro j _;rw[e];rfl
  rw[this];simp
 ·rw[e]at h;cases h
theorem rT{mask:Nat}{owner:Array (Option Nat)}{hs:List Int}(L:Lay mask owner hs)(hl:hs.length≤mask):∃j,j≤mask∧emp owner j=true:=by
 by_cases h:∃j,j≤mask∧emp owner j=true
 ·exact h
 ·exfalso
  have all:∀j,j≤mask→∃i,owner.getD j none=some i:=λj hj=>by
   cases e:owner.getD j none with
   |some i=>exact⟨i,rfl⟩
   |none=>exact(h ⟨j,hj,by rw[gq L.size hj,e];rfl⟩).elim
  have len:(live mask owner).length=mask+1:=by
   have key:∀l:List Nat,(∀j∈l,j≤mask)→(l.filterMap λj=>(owner.getD j none).map (j,·)).length=l.length:=by
    intro l
    induction l with
    |nil=>intro _;rfl
    |cons x l ih =>
     intro hl;obtain⟨i,e⟩:=all x (hl x (by simp));rw[filterMap_cons_some (by rw[e];rfl),length_cons,length_cons,ih λj hj=>hl j (by simp[hj])]
   unfold live;rw[key _ (λj hj=>by have:=mem_range.mp hj;omega),length_range]
  have:=L.perm.length_eq;rw[length_map,length_range,len]at this;omega
theorem gs{owner:Array (Option Nat)}{j k:Nat}{v:Option Nat}(hj:j<owner.size):(owner.setIfInBounds j v).getD k none=if k=j then v else owner.getD k none:=by
 rw[getD_eq_getD_getElem?,getD_eq_getD_getElem?,Array.getElem?_setIfInBounds]
 by_cases e:j=k
 ·subst e;simp[hj]
 ·rw[if_neg e,if_neg (λz=>e z.symm)]
theorem oU{mask:Nat}{owner:Array (Option Nat)}{j k i:Nat}(hs:owner.size=mask+1)(hj:j≤mask)(hk:k≤mask)(h:emp owner k=false):emp (owner.setIfInBounds j (some i)) k=false:=by
 rw[gq (by simpa using hs) hk,gs (by omega)];rw[gq hs hk]at h
 split
 ·rfl
 ·exact h
theorem rU{mask:Nat}(c:Cyc mask){owner:Array (Option Nat)}{hs:List Int}(L:Lay mask owner hs)(hl:hs.length≤mask)(h:Int):
  ∃j,layClean.free mask owner (turns mask) (bits h % (mask+1)) (bits h)=some j∧Lay mask (owner.setIfInBounds j (some hs.length)) (hs++[h]):=by
 obtain⟨j₀,hj₀,e₀⟩:=rT L hl;obtain⟨j,n,e1,e2,e3,e4⟩:=uI c owner h hj₀ e₀;have hj:j≤mask:=by rw[←e2];exact iR mask h n
 have hjn:owner.getD j none=none:=by
  rw[gq L.size hj]at e3;exact Option.isNone_iff_eq_none.mp e3
 refine⟨j,e1,by simpa using L.size,?_,λk i hk=>?_⟩
 ·have p:=fk (λk=>(owner.getD k none).map (k,·)) (λk=>((owner.setIfInBounds j (some hs.length)).getD k none).map (k,·)) j (j,hs.length) (by simp[hjn])
   (by show((owner.setIfInBounds j (some hs.length)).getD j none).map (j,·)=_;rw[gs (by rw[L.size];omega),if_pos rfl];rfl) (λx hx=>by show((owner.setIfInBounds j (some hs.length)).getD x none).map (x,·)=(owner.getD x none).map (x,·);rw[gs (by rw[L.size];omega),if_neg hx]) (List.range (mask+1)) nodup_range (mem_range.mpr (by omega))
  have p2:((live mask (owner.setIfInBounds j (some hs.length))).map (·.2)).Perm (hs.length::(live mask owner).map (·.2)):=p.map (·.2);rw[length_append,length_singleton,List.range_succ];exact p2.trans ((L.perm.cons _).trans (List.perm_append_singleton _ _).symm)
 ·rw[gs (by rw[L.size];omega)]at hk
  by_cases e:k=j
  ·subst e;rw[if_pos rfl]at hk;cases hk;exact⟨h,by simp,n,e2,λm hm=>oU L.size hj (iR _ _ _) (e4 m hm)⟩
  ·rw[if_neg e]at hk;obtain⟨h',a1,n',a2,a3⟩:=L.path k i hk;have hi:i<hs.length:=(List.getElem?_eq_some_iff.mp a1).1;exact⟨h',by rw[getElem?_append_left hi];exact a1,n',a2,λm hm=>oU L.size hj (iR _ _ _) (a3 m hm)⟩
theorem lK{mask:Nat}(c:Cyc mask)(hashes:Array Int)(hl:hashes.size≤mask+1):∃owner,layClean mask hashes=some owner∧Lay mask owner hashes.toList:=by
 have key:∀(r hs:List Int)(owner:Array (Option Nat)),Lay mask owner hs→hs.length+r.length≤mask+1 →
   ∃owner',r.foldl (λacc h=>do
    let(owner,k) ← acc
    let j ← layClean.free mask owner (turns mask) (bits h % (mask+1)) (bits h)
    pure (owner.setIfInBounds j (some k),k+1)) (some (owner,hs.length))=some (owner',hs.length+r.length)∧Lay mask owner' (hs++r):=by
  intro r
  induction r with
  |nil=>intro hs owner L _;exact⟨owner,rfl,by simpa using L⟩
  |cons h r ih =>
   intro hs owner L hle;rw[length_cons]at hle;obtain⟨j,e,L'⟩:=rU c L (by omega) h;obtain⟨owner',e',L''⟩:=ih (hs++[h]) _ L' (by rw[length_append,length_singleton];omega);refine⟨owner',?_,by rw[append_assoc]at L'';exact L''⟩;rw[List.foldl_cons];have eb:(do
    let(owner,k) ← some (owner,hs.length)
    let j ← layClean.free mask owner (turns mask) (bits h % (mask+1)) (bits h)
    pure (owner.setIfInBounds j (some k),k+1))=some (owner.setIfInBounds j (some hs.length),hs.length+1):=by
    show(layClean.free mask owner (turns mask) (bits h % (mask+1)) (bits h)).bind _=_;rw[e];rfl
   rw[eb];rw[length_append,length_singleton]at e';rw[e',length_cons]
   congr 2
   omega
 obtain⟨owner',e,L⟩:=key hashes.toList [] _ (uJ mask) (by simpa using hl);refine⟨owner',?_,by simpa using L⟩
 unfold layClean;rw[←Array.foldl_toList];have e2:(0:Nat)=([]:List Int).length:=rfl;rw[e2,e];rfl
theorem qo{t:SetTable}{hashes:Array Int}{wanted:Nat}(c:Cyc (sizeAbove wanted-1))(hl:hashes.size≤sizeAbove wanted-1+1):
  ∃(t':SetTable) (zs:List (Nat×Nat)),t.relaid hashes wanted=some (t',(zs.map (·.2)).toArray)∧t'.mask=sizeAbove wanted-1∧t'.led=t.led∧t'.plain=t.plain ∧
   Tb t' (zs.map (·.1))∧(zs.map (·.2)).Perm (List.range hashes.size)∧fj t'.mask (zs.map λz=>(z.1,hashes.getD z.2 0)):=by
 obtain⟨owner,e,L⟩:=lK c hashes hl;refine⟨{mask:=sizeAbove wanted-1,place:=((live (sizeAbove wanted-1) owner).map (·.1)).toArray,dummies:=#[],finger:=t.finger,led:=t.led,moves:=t.movedTo (sizeAbove wanted-1),plain:=t.plain},live (sizeAbove wanted-1) owner,?_,rfl,rfl,rfl,⟨rfl,rfl,?_,?_⟩,?_,?_⟩
 ·unfold relaid laid;rw[e];rfl
 ·unfold Up live;rw[List.map_filterMap];have e1:((List.range (sizeAbove wanted-1+1)).filterMap λj=>((owner.getD j none).map (j,·)).map (·.1))=(List.range (sizeAbove wanted-1+1)).filter λj=>(owner.getD j none).isSome:=by
   generalize List.range (sizeAbove wanted-1+1)=l
   induction l with
   |nil=>rfl
   |cons x l ih =>
    cases ex:owner.getD x none with
    |none=>rw[filterMap_cons_none (by rw[ex];rfl),filter_cons_of_neg (by simp[ex])];exact ih
    |some i=>rw[filterMap_cons_some (b:=x) (by rw[ex];rfl),filter_cons_of_pos (by simp[ex]),ih]
  rw[e1];exact Pairwise.sublist filter_sublist List.pairwise_lt_range
 ·intro j hj;obtain⟨z,hz,rfl⟩:=mem_map.mp hj;unfold live at hz;obtain⟨k,hk,e1⟩:=mem_filterMap.mp hz;cases ex:owner.getD k none with
  |none=>rw[ex]at e1;cases e1
  |some i =>
   rw[ex]at e1;have e2:(k,i)=z:=Option.some.inj e1;subst e2;have:=mem_range.mp hk;show k≤sizeAbove wanted-1;omega
 ·have:=L.perm;rw[length_toList]at this;exact this
 ·intro y hy;obtain⟨z,hz,rfl⟩:=mem_map.mp hy;have key:∀z:Nat×Nat,z∈live (sizeAbove wanted-1) owner↔z.1≤sizeAbove wanted-1∧owner.getD z.1 none=some z.2:=by
   intro z;unfold live;rw[mem_filterMap];constructor
   ·rintro⟨k,hk,e1⟩;cases ex:owner.getD k none with
    |none=>rw[ex]at e1;cases e1
    |some i =>
     rw[ex]at e1;have e2:(k,i)=z:=Option.some.inj e1;subst e2;have:=mem_range.mp hk;exact⟨by omega,ex⟩
   ·rintro⟨h1,h2⟩;exact⟨z.1,mem_range.mpr (by omega),by rw[h2];rfl⟩
  obtain⟨z1,z2⟩:=(key z).mp hz;obtain⟨h,a1,n,a2,a3⟩:=L.path _ _ z2;have eh:hashes.getD z.2 0=h:=by
   have a1':hashes[z.2]?=some h:=by simpa using a1
   rw[getD_eq_getD_getElem?,a1'];rfl
  refine⟨n,by rw[eh];exact a2,λm hm=>?_⟩;have:=a3 m hm;have hle:=iR (sizeAbove wanted-1) h m;rw[gq L.size hle]at this;cases ex:owner.getD (pos (sizeAbove wanted-1) h m) none with
  |none=>rw[ex]at this;cases this
  |some i =>
   rw[map_map];show pos (sizeAbove wanted-1) (hashes.getD z.2 0) m∈_;rw[eh];exact mem_map.mpr ⟨(pos (sizeAbove wanted-1) h m,i),(key _).mpr ⟨hle,ex⟩,rfl⟩
section
variable{prog:Program}{w:World}{K:Type}[DecidableEq K]{knd:KeyKind prog w K}{A:Around}{E:Value→Shared→Prop}{s:Shared}
theorem ik(n:Nat){v:Value}(h:carriedByValue v=true):ofAClassStatement n v=pure false:=by
 cases v with
 |ref a=>simp[carriedByValue]at h
 |_=>cases n<;>rfl
theorem fm{ks:List K}{a:Addr}{Q:Bool→Shared→Prop}(hk:IsTupleKey knd s.heap ks a)(h:Q false s):wpAny (model prog w) A (ofAClassStatement 8 (.ref a)) Q E s:=by
 have hT:=hk.typeIs;obtain⟨o,items,n,ho,_,hd,hi⟩:=hk;unfold ofAClassStatement;refine wpAny_bind (wpAny_typeOf hT ?_);dsimp only;rw[if_pos (by decide)];refine wpAny_bind (wpAny_pure ?_);simp only[Bool.not_true,false_eq_true,if_false];refine wpAny_bind (wpAny_seqItems ho hd ?_);dsimp only;refine wpAny_bind ?_;rw[←Array.forIn_toList];refine wpAny_forIn_list _ (λrest r s'=>r.1=none∧s'=s∧∀v∈rest,carriedByValue v=true) _ ?_ ?_ _ _ ⟨rfl,rfl,hi.byValue⟩
 ·rintro v rest r s' ⟨hr,rfl,hall⟩;rw[ik _ (hall v mem_cons_self)];refine wpAny_bind (wpAny_pure ?_);simp only[false_eq_true,if_false];exact wpAny_pure ⟨rfl,rfl,λu hu'=>hall u (mem_cons_of_mem _ hu')⟩
 ·rintro⟨r1,r2⟩ s' ⟨hr,rfl,_⟩;simp only at hr;subst hr;exact wpAny_pure h
theorem rV(n:Nat){x:Value}(hx:x.scannable=true):∃b,hashByValue n x=pure b:=⟨_,hashByValue_scannable n hx⟩
theorem qp{ks:List K}{a:Addr}{Q:Bool→Shared→Prop}(hk:IsTupleKey knd s.heap ks a)(hsc:∀k v,knd.is k v=true→v.scannable=true)(h:∀b,Q b s):wpAny (model prog w) A (hashByValue 8 (.ref a)) Q E s:=by
 have hT:=hk.typeIs;obtain⟨o,items,n,ho,_,hd,hi⟩:=hk;have hall:∀v∈items.toList,v.scannable=true:=by
  generalize items.toList=l at hi
  induction hi with
  |nil=>intro v hv;simp at hv
  |cons h1 _ ih =>
   intro v hv;rcases mem_cons.mp hv with rfl|hv
   ·exact hsc _ _ h1
   ·exact ih v hv
 unfold hashByValue;refine wpAny_bind (wpAny_specialOf hT F.slot_tuple_hash.lookup ?_);show wpAny _ _ (seqItems? (.ref a) >>= _) _ _ s;refine wpAny_bind (wpAny_seqItems ho hd ?_);refine wpAny_bind ?_;show wpAny _ _ (forIn items _ _) _ _ s;rw[←Array.forIn_toList];refine wpAny_forIn_list _ (λrest r s'=>r.1=none∧s'=s∧∀v∈rest,v.scannable=true) _ ?_ ?_ _ _ ⟨rfl,rfl,hall⟩
 ·rintro v rest r s' ⟨hr,rfl,hall⟩;obtain⟨b,e⟩:=rV 7 (hall v mem_cons_self);rw[e];refine wpAny_bind (wpAny_pure ?_);cases b with
  |true =>
   simp only[Bool.not_true,false_eq_true,if_false];exact wpAny_pure ⟨rfl,rfl,λu hu'=>hall u (mem_cons_of_mem _ hu')⟩
  |false =>
   simp only[Bool.not_false,if_true];exact wpAny_pure (wpAny_pure (h false))
 ·rintro⟨r1,r2⟩ s' ⟨hr,rfl,_⟩;simp only at hr;subst hr;exact wpAny_pure (h true)
theorem uK{k:List K}{b:Addr}(hb:IsTupleKey knd s.heap k b)(stored:List Value)(hs:∀v∈stored,∃k' b',v=.ref b'∧IsTupleKey knd s.heap k' b'){Q:Bool→Shared→Prop}(h:Q false s):
  wpAny (model prog w) A (searchCouldBeSeen (.ref b) stored) Q E s:=by
 unfold searchCouldBeSeen;refine wpAny_bind ?_;refine wpAny_forIn_list _ (λrest r s'=>r.1=none∧s'=s∧∀v∈rest,∃k' b',v=.ref b'∧IsTupleKey knd s.heap k' b') _ ?_ ?_ _ _ ⟨rfl,rfl,hs⟩
 ·rintro v rest r s' ⟨hr,rfl,hall⟩;obtain⟨k',b',rfl,hb'⟩:=hall v mem_cons_self;have hall':=λu hu'=>hall u (mem_cons_of_mem _ hu')
  by_cases hv:(b==b')=true
  ·simp only[hv,Bool.true_or,if_true];exact wpAny_pure ⟨rfl,rfl,hall'⟩
  ·have hv':(b==b')=false:=by simpa using hv
   have hc:carriedByValue (.ref b)=false:=rfl;simp only[hv',hc,Bool.false_and,Bool.or_false,false_eq_true,if_false];refine wpAny_bind (wpAny_eqIsQuiet_tuple hb ?_);simp only[Bool.not_true,false_eq_true,if_false];refine wpAny_bind (wpAny_eqIsQuiet_tuple hb' ?_);simp only[Bool.not_true,false_eq_true,if_false];refine wpAny_bind (fm hb ?_);simp only[false_eq_true,if_false];refine wpAny_bind (fm hb' ?_);simp only[false_eq_true,if_false];exact wpAny_pure ⟨rfl,rfl,hall'⟩
 ·rintro⟨r1,r2⟩ s' ⟨hr,rfl,_⟩;simp only at hr;subst hr;exact wpAny_pure h
end
section
variable{prog:Program}{w:World}{K:Type}[DecidableEq K](knd:KeyKind prog w K)
abbrev Ent(K:Type):=Nat×Addr×List K
def ent(z:Ent K):Int×Value:=(tupleKeyHash knd z.2.2,.ref z.2.1)
def pth(z:Ent K):Nat×Int:=(z.1,tupleKeyHash knd z.2.2)
structure TS(h:Heap)(a:Addr)(zs:List (Ent K)):Prop where
 ob:∃o es ep t,h.get? a=some o∧o.ExactSet∧o.data=.set es ep t∧es.toList=zs.map (ent knd)∧Tb t (zs.map (·.1))∧Mk t.mask∧zs.length*5<t.mask*3∧fj t.mask (zs.map (pth knd))
 keys:∀z∈zs,IsTupleKey knd h z.2.2 z.2.1
 nd:(zs.map (·.2.2)).Nodup
variable{knd}
variable{A:Around}{E:Value→Shared→Prop}{s:Shared}
theorem oV{t:SetTable}{l:List Nat}(T:Tb t l):t.fill=l.length:=by
 unfold SetTable.fill;rw[T.pl,T.nd];simp
theorem kx{t:SetTable}{l:List Nat}(T:Tb t l){n:Nat}(hn:l.length=n)(hf:n≤t.mask):t.fits n=true:=by
 unfold SetTable.fits;rw[oV T,T.pl];simp[hn,hf]
theorem iU{mask:Nat}{h:Int}(n0 m:Nat):(nth mask (nth mask (st mask h) n0) m).j=pos mask h (n0+m):=by
 unfold pos;rw[dP]
theorem lL{a b:Addr}{o:Obj}{es:Array (Int×Value)}{ep:Nat}{t:SetTable}{zs:List (Ent K)}{k:List K}{Q:SetFound→Shared→Prop}(hu:A.units<cLine)(ho:s.heap.get? a=some o)(hd:o.data=.set es ep t)(hes:es.toList=zs.map (ent knd))(T:Tb t (zs.map (·.1)))(hf:t.fits es.size=true)(hodd:t.gaveWay=false)(hk:∀z∈zs,IsTupleKey knd s.heap z.2.2 z.2.1)(hb:IsTupleKey knd s.heap k b){N:Nat}(hN:pos t.mask (tupleKeyHash knd k) N∉zs.map (·.1))(hNb:N<10*turns t.mask)(hN1:∀m,m<N→pos t.mask (tupleKeyHash knd k) m∈zs.map (·.1))(q1:(∃z∈zs,z.2.2=k)→Q (.there none) s)(q2:(∀m,m<N→∀z∈zs,z.1=pos t.mask (tupleKeyHash knd k) m→z.2.2≠k)→Q (.free (pos t.mask (tupleKeyHash knd k) N) false) s):
  ∀(d n0 fuel:Nat)(stand:Option SetTable.Probe),N-n0=d→n0≤N→d<fuel→stand.getD (t.probeStart (tupleKeyHash knd k))=nth t.mask (st t.mask (tupleKeyHash knd k)) n0 →
   (∀m,m<n0→∀z∈zs,z.1=pos t.mask (tupleKeyHash knd k) m→z.2.2≠k) →
   wpAny (model prog w) A (setSearchFrom a (.ref b) (tupleKeyHash knd k) true fuel stand) Q E s:=by
 intro d
 induction d using Nat.strongRecOn with
 |_ d ih =>
  intro n0 fuel stand hdd hn0 hfuel hst hpast;obtain⟨fuel,rfl⟩:∃f,fuel=f+1:=⟨fuel-1,by omega⟩;unfold setSearchFrom;refine wpAny_bind (wpAny_setState_of ho hd hf ?_);dsimp only;rw[hodd];simp only[false_eq_true,if_false];rw[hst];have hget:∀{i:Nat}{z:Ent K},zs[i]?=some z→es[i]?=some (ent knd z):=λ{i z} e=>by
   rw[←getElem?_toList,hes,getElem?_map,e];rfl
  obtain⟨n,hn,hev,hno⟩:=lI (λm=>pos t.mask (tupleKeyHash knd k) (n0+m)∉zs.map (·.1)∨∃z∈zs,z.1=pos t.mask (tupleKeyHash knd k) (n0+m)∧tupleKeyHash knd z.2.2=tupleKeyHash knd k) (N-n0)
   (.inl (by rw[show n0+(N-n0)=N by omega];exact hN))
  have hlive:∀m,pos t.mask (tupleKeyHash knd k) m∈zs.map (·.1)→∃i z,t.slot (pos t.mask (tupleKeyHash knd k) m)=.live i∧zs[i]?=some z∧z.1=pos t.mask (tupleKeyHash knd k) m:=λm hm=>by
   obtain⟨i,hi,e⟩:=mem_iff_getElem.mp hm;have hi':i<zs.length:=by simpa using hi
   have e1:(zs.map (·.1))[i]?=some (pos t.mask (tupleKeyHash knd k) m):=by rw[getElem?_eq_getElem hi,e]
   refine⟨i,zs[i],ku T e1,by simp[hi'],?_⟩;rw[getElem_map]at e;exact e
  have hskip:∀m,m<n→∃i,t.slot (nth t.mask (nth t.mask (st t.mask (tupleKeyHash knd k)) n0) m).j=.live i∧((es[i]?.map (·.1)).getD 0==tupleKeyHash knd k)=false:=λm hm=>by
   have h1:pos t.mask (tupleKeyHash knd k) (n0+m)∈zs.map (·.1):=by
    by_cases z:pos t.mask (tupleKeyHash knd k) (n0+m)∈zs.map (·.1)
    ·exact z
    ·exact(hno m hm (.inl z)).elim
   obtain⟨i,z,e1,e2,e3⟩:=hlive _ h1;refine⟨i,by rw[iU];exact e1,?_⟩;rw[hget e2];show(tupleKeyHash knd z.2.2==tupleKeyHash knd k)=false;rw[beq_eq_false_iff_ne];intro e4;exact hno m hm (.inr ⟨z,mem_of_getElem? e2,e3,e4⟩)
  by_cases hmem:pos t.mask (tupleKeyHash knd k) (n0+n)∈zs.map (·.1)
  ·
   have hcand:∃z∈zs,z.1=pos t.mask (tupleKeyHash knd k) (n0+n)∧tupleKeyHash knd z.2.2=tupleKeyHash knd k:=by
    rcases hev with e|e
    ·exact(e hmem).elim
    ·exact e
   obtain⟨i,z,e1,e2,e3⟩:=hlive _ hmem;have hz:z∈zs:=mem_of_getElem? e2;have hzh:tupleKeyHash knd z.2.2=tupleKeyHash knd k:=by
    obtain⟨z',hz',f1,f2⟩:=hcand;have hinj:z'=z:=by
     obtain⟨i',hi',ei'⟩:=mem_iff_getElem.mp hz';have g1:(zs.map (·.1))[i']?=some (pos t.mask (tupleKeyHash knd k) (n0+n)):=by rw[getElem?_map,getElem?_eq_getElem hi',ei',←f1];rfl
     have g2:=ku T g1;rw[e1]at g2;cases g2;rw[getElem?_eq_getElem hi',ei']at e2;exact Option.some.inj e2
    rw[←hinj];exact f2
   have hnN:n0+n<N:=by
    rcases lt_or_ge (n0+n) N with z'|z'
    ·exact z'
    ·have:n0+n=N:=by omega
     rw[this]at hmem;exact(hN hmem).elim
   have hp:=oS t (λi=>(es[i]?.map (·.1)).getD 0) (tupleKeyHash knd k) i n (nth t.mask (st t.mask (tupleKeyHash knd k)) n0) (10*turns t.mask) (by omega) hskip (by rw[iU];exact e1)
    (by rw[hget e2];show(tupleKeyHash knd z.2.2==tupleKeyHash knd k)=true;rw[hzh];simp)
   generalize hg:SetTable.probe t _ (tupleKeyHash knd k) (nth t.mask (st t.mask (tupleKeyHash knd k)) n0)=met;have hmet:met=some (.candidate (nth t.mask (nth t.mask (st t.mask (tupleKeyHash knd k)) n0) n).j i (nth t.mask (nth t.mask (st t.mask (tupleKeyHash knd k)) n0) (n+1))):=hg.symm.trans hp;subst hmet;dsimp only;have cont:wpAny (model prog w) A (match es[i]? with
      |some (_,y)=>do
       let equal ← holding [y] (eqBool y (.ref b))
       let(es',_,t') ← setState a
       if (true&&equal)=true then return SetFound.there none
       let some same:=t'.sameMemory t.moves t.mask|unsupported "set.changed-during-lookup:is-the-new-block-at-the-old-address"
       let still ← match (if same then t'.slot (nth t.mask (nth t.mask (st t.mask (tupleKeyHash knd k)) n0) n).j else .empty)with
        |.live i'=>match es'[i']? with
         |some (_,y')=>do pure (if ← isSame y' y then some i' else none)
         |none=>pure none
        |_=>pure none
       match still with
       |none=>rule "set.search.anew";setSearchFrom a (.ref b) (tupleKeyHash knd k) true fuel none
       |some i'=>if equal then return SetFound.there (some i')else setSearchFrom a (.ref b) (tupleKeyHash knd k) true fuel (some (nth t.mask (nth t.mask (st t.mask (tupleKeyHash knd k)) n0) (n+1)))
      | _=>unsupported "internal:set-entry") Q E s:=by
    rw[hget e2];show wpAny _ _ (holding [Value.ref z.2.1] (eqBool (.ref z.2.1) (.ref b)) >>= _) _ _ _;refine wpAny_bind (wpAny_holding (wpAny_eqBool_tuple hu (hk z hz) hb ?_));refine wpAny_bind (wpAny_setState_of ho hd hf ?_);dsimp only
    by_cases hkk:z.2.2=k
    ·rw[decide_eq_true hkk];simp only[Bool.and_self,if_true];exact wpAny_pure (q1 ⟨z,hz,hkk⟩)
    ·rw[decide_eq_false hkk];simp only[Bool.and_false,false_eq_true,if_false];have hsm:t.sameMemory t.moves t.mask=some true:=by unfold SetTable.sameMemory;simp
     rw[hsm];simp only[if_true];rw[iU,e1];dsimp only;rw[hget e2];dsimp only;refine wpAny_bind (wpAny_isSame_ref_self ?_);simp only[if_true];refine wpAny_bind (wpAny_pure ?_);dsimp only;refine ih (N-(n0+n+1)) (by omega) (n0+n+1) fuel _ rfl (by omega) (by omega) ?_ ?_
     ·show nth t.mask (nth t.mask (st t.mask (tupleKeyHash knd k)) n0) (n+1)=_;rw[←dP];rfl
     ·intro m hm z' hz' e
      by_cases hlt:m<n0
      ·exact hpast m hlt z' hz' e
      ·intro hzk;have hm2:pos t.mask (tupleKeyHash knd k) m∈zs.map (·.1):=mem_map.mpr ⟨z',hz',e⟩;obtain⟨m',rfl⟩:∃m',m=n0+m':=⟨m-n0,by omega⟩;rcases lt_or_ge m' n with hlt'|hge
       ·exact hno m' hlt' (.inr ⟨z',hz',e,by rw[hzk]⟩)
       ·have:m'=n:=by omega
        subst this;obtain⟨i',hi',ei'⟩:=mem_iff_getElem.mp hz';have g1:(zs.map (·.1))[i']?=some (pos t.mask (tupleKeyHash knd k) (n0+m')):=by rw[getElem?_map,getElem?_eq_getElem hi',ei',←e];rfl
        have g2:=ku T g1;rw[e1]at g2;cases g2;rw[getElem?_eq_getElem hi',ei']at e2;have:z'=z:=Option.some.inj e2;exact hkk (this ▸ hzk)
   cases hl:t.led with
   |true =>
    simp only[Bool.not_true,false_eq_true,if_false];exact cont
   |false =>
    simp only[Bool.not_false,if_true];refine wpAny_bind (uK hb _ ?_ ?_)
    ·intro v hv;obtain⟨e,he,rfl⟩:=mem_map.mp hv;rw[Array.toList_filter,hes]at he;obtain⟨he1,_⟩:=mem_filter.mp he;obtain⟨z',hz',rfl⟩:=mem_map.mp he1;exact⟨z'.2.2,z'.2.1,rfl,hk z' hz'⟩
    ·simp only[false_eq_true,if_false];exact cont
  ·
   have hnN:n0+n=N:=by
    rcases lt_or_ge (n0+n) N with z|z
    ·exact(hmem (hN1 _ z)).elim
    ·omega
   have hp:=lJ t (λi=>(es[i]?.map (·.1)).getD 0) (tupleKeyHash knd k) n (nth t.mask (st t.mask (tupleKeyHash knd k)) n0) (10*turns t.mask) (by omega) hskip (by rw[iU];exact rS T hmem);generalize hg:SetTable.probe t _ (tupleKeyHash knd k) (nth t.mask (st t.mask (tupleKeyHash knd k)) n0)=met;have hmet:met=some (.empty (nth t.mask (nth t.mask (st t.mask (tupleKeyHash knd k)) n0) n).j (nth t.mask (st t.mask (tupleKeyHash knd k)) n0).dummy):=hg.symm.trans hp;subst hmet;have hdm:(nth t.mask (st t.mask (tupleKeyHash knd k)) n0).dummy=none:=gY _ _ _;rw[hdm];dsimp only;rw[iU,hnN];refine wpAny_pure (q2 λm hm z hz e hzk=>?_)
   by_cases hlt:m<n0
   ·exact hpast m hlt z hz e hzk
   ·obtain⟨m',rfl⟩:∃m',m=n0+m':=⟨m-n0,by omega⟩;exact hno m' (by omega) (.inr ⟨z,hz,e,by rw[hzk]⟩)
end
theorem oW:∀(n:Nat)(l:List Nat),(∀j,j<n→j∈l)→n≤l.length
 |0,_,_=>zero_le _
 |n+1,l,h=>by
  have hn:=h n (by omega);have ih:=oW n (l.erase n) λj hj=>(List.mem_erase_of_ne (by omega)).mpr (h j (by omega));rw[List.length_erase_of_mem hn]at ih;have:0<l.length:=List.length_pos_of_mem hn;omega
theorem nA(n:Nat)(l:List Nat)(h:l.length≤n):∃j,j≤n∧j∉l:=by
 by_cases z:∃j,j≤n∧j∉l
 ·exact z
 ·exfalso
  have:=oW (n+1) l λj hj=>by
   by_cases e:j∈l
   ·exact e
   ·exact(z ⟨j,by omega,e⟩).elim
  omega
section
variable{prog:Program}{w:World}{K:Type}[DecidableEq K]{knd:KeyKind prog w K}{A:Around}{E:Value→Shared→Prop}{s:Shared}
theorem IsTupleKey.same{h h':Heap}{ks:List K}{a d:Addr}{o:Obj}{es ep t}(x:IsTupleKey knd h ks a)(ho:h.get? d=some o)(hd:o.data=.set es ep t)(hs:SameBut d h h'):IsTupleKey knd h' ks a:=by
 obtain⟨o',items,n,ho',hc,hd',hi⟩:=x;have hne:a≠d:=by
  rintro rfl;obtain rfl:o'=o:=Option.some.inj (ho'.symm.trans ho);rw[hd]at hd';exact nomatch hd'
 exact⟨o',items,n,(hs.2 a hne).trans ho',hc,hd',hi⟩
theorem rW{t:SetTable}{l:List Nat}(T:Tb t l)(b:Bool):Tb {t with plain:=b} l:=⟨T.pl,T.nd,T.up,T.le⟩
theorem stored{a:Addr}{o:Obj}{es:Array (Int×Value)}{ep:Nat}{t:SetTable}(ho:s.heap.get? a=some o)(hd:o.data=.set es ep t)(es':Array (Int×Value))(t':SetTable):
  (s.heap.update a (Obj.putSet es' t')).get? a=some {o with data:=.set es' (ep+1) t'}:=by
 have:=Heap.get?_update_self (Obj.putSet es' t') ho (by rw[putSet_of es' t' hd];rfl);rw[putSet_of es' t' hd]at this;exact this
theorem rX{n:Nat}(h:n≤64):n≤sizeLine:=by rw[sizeLine_eq];omega
theorem qr{a b:Addr}{zs:List (Ent K)}{k:List K}{Q:Bool→Shared→Prop}(hu:A.units<cLine)(hsc:∀k v,knd.is k v=true→v.scannable=true)(hS:TS knd s.heap a zs)(hb:IsTupleKey knd s.heap k b)(hroom:zs.length<60)(h:∀r h' zs',SameBut a s.heap h'→TS knd h' a zs'→((k∈zs.map (·.2.2)∧zs'=zs)∨(k∉zs.map (·.2.2)∧(zs'.map (·.2)).Perm ((b,k)::zs.map (·.2))))→Q r {s with heap:=h'}):
  wpAny (model prog w) A (setAddHashed a (.ref b) (tupleKeyHash knd k)) Q E s:=by
 obtain⟨⟨o,es,ep,t,ho,hex,hd,hes,T,hmask,hfull,hpath⟩,hk,hnd⟩:=id hS;have hlen:es.size=zs.length:=by rw[←length_toList,hes,length_map]
 have hge:=hmask.ge;have hle:zs.length≤t.mask:=by omega
 have hf:t.fits es.size=true:=kx T (by rw[length_map,hlen]) (by rw[hlen];exact hle);have hodd:t.gaveWay=false:=by unfold SetTable.gaveWay;rw[hmask.odd];rfl
 have cyc:=hmask.cyc;obtain⟨j₀,hj₀,hj₀'⟩:=nA t.mask (zs.map (·.1)) (by rw[length_map];exact hle);obtain⟨n₀,hn₀,en₀⟩:=cover cyc (tupleKeyHash knd k) hj₀;obtain⟨N,hNle,hN,hNno⟩:=lI (λm=>pos t.mask (tupleKeyHash knd k) m∉zs.map (·.1)) n₀ (by rw[en₀];exact hj₀');have hN1:∀m,m<N→pos t.mask (tupleKeyHash knd k) m∈zs.map (·.1):=λm hm=>by
  by_cases z:pos t.mask (tupleKeyHash knd k) m∈zs.map (·.1)
  ·exact z
  ·exact(hNno m hm z).elim
 have hturns:10*turns t.mask<100000:=by unfold turns;omega
 unfold setAddHashed setAddHashedIn;refine wpAny_holding (wpAny_bind (wpAny_setState_of ho hd hf ?_));dsimp only;have hby:byScan (.ref b) es=false:=rfl;rw[hby];simp only[false_eq_true,if_false];refine wpAny_bind ?_;unfold setSearch;refine lL hu ho hd hes T hf hodd hk hb hN (by omega) hN1 ?_ ?_ N 0 100000 none rfl (by omega) (by omega) rfl (λm hm=>by omega)
 ·intro hex';dsimp only;have e:s={s with heap:=s.heap}:=by cases s;rfl
  have hq:=h false s.heap zs (SameBut.refl a s.heap) hS (.inl ⟨by
   obtain⟨z,hz,e⟩:=hex';exact mem_map.mpr ⟨z,hz,e⟩,rfl⟩)
  rw[e];exact wpAny_pure hq
 ·intro hnone;have hknew:k∉zs.map (·.2.2):=by
   intro hm;obtain⟨z,hz,ez⟩:=mem_map.mp hm;obtain⟨n,e1,e2⟩:=hpath (pth knd z) (mem_map.mpr ⟨z,hz,rfl⟩);have e1':pos t.mask (tupleKeyHash knd k) n=z.1:=by rw[←ez];exact e1
   have e2':∀m,m<n→pos t.mask (tupleKeyHash knd k) m∈zs.map (·.1):=λm hm=>by
    have:=e2 m hm;rw[map_map]at this;rw[←ez];exact this
   have hnN:n<N:=by
    rcases lt_or_ge n N with z'|z'
    ·exact z'
    ·exfalso
     rcases lt_or_ge N n with z''|z''
     ·exact hN (e2' N z'')
     ·have:n=N:=by omega
      subst this;exact hN (by rw[e1'];exact mem_map.mpr ⟨z,hz,rfl⟩)
   exact hnone n hnN z hz e1'.symm ez
  dsimp only;refine wpAny_bind (wpAny_setState_of ho hd hf ?_);dsimp only;have hpl:pos t.mask (tupleKeyHash knd k) N≤t.mask:=iR _ _ _;obtain⟨T1,hp1,hm1⟩:=wU T hN hpl;generalize hput:t.put (pos t.mask (tupleKeyHash knd k) N)=tp at T1 hp1 hm1⊢;obtain⟨t1,p⟩:=tp;dsimp only at T1 hp1 hm1⊢;obtain⟨zs1,hzs1⟩:∃zs1,zs1=zs.take p++(pos t.mask (tupleKeyHash knd k) N,b,k)::zs.drop p:=⟨_,rfl⟩;have hT1:zs1.map (·.1)=(zs.map (·.1)).take (below (zs.map (·.1)).toArray (pos t.mask (tupleKeyHash knd k) N))++(pos t.mask (tupleKeyHash knd k) N)::(zs.map (·.1)).drop (below (zs.map (·.1)).toArray (pos t.mask (tupleKeyHash knd k) N)):=by
   rw[hzs1,←hp1];simp[map_take,map_drop]
  rw[←hT1]at T1;have hperm:zs1.Perm ((pos t.mask (tupleKeyHash knd k) N,b,k)::zs):=by
   rw[hzs1];refine List.perm_middle.trans ?_;rw[List.take_append_drop]
  have hlen1:zs1.length=zs.length+1:=by rw[hperm.length_eq,length_cons]
  have hes1:(insertAt es p (tupleKeyHash knd k,Value.ref b)).toList=zs1.map (ent knd):=by
   rw[SetTable.toList_insertAt,hes,hzs1];simp[map_take,map_drop,ent]
  have hpath1:fj t.mask (zs1.map (pth knd)):=by
   refine fj.mono hpath (pos t.mask (tupleKeyHash knd k) N,tupleKeyHash knd k) (λz hz=>?_) (λz hz=>?_) ⟨N,rfl,λm hm=>by rw[map_map];exact hN1 m hm⟩
   ·obtain⟨y,hy,rfl⟩:=mem_map.mp hz;rcases mem_cons.mp (hperm.mem_iff.mp hy)with e|e
    ·right;rw[e];rfl
    ·left;exact mem_map.mpr ⟨y,e,rfl⟩
   ·obtain⟨y,hy,rfl⟩:=mem_map.mp hz;exact mem_map.mpr ⟨y,hperm.mem_iff.mpr (mem_cons_of_mem _ hy),rfl⟩
  have hkeys1:∀z∈zs1,IsTupleKey knd s.heap z.2.2 z.2.1:=λz hz=>by
   rcases mem_cons.mp (hperm.mem_iff.mp hz)with e|e
   ·rw[e];exact hb
   ·exact hk z e
  have hkp1:(zs1.map (·.2.2)).Perm (k::zs.map (·.2.2)):=hperm.map _;have hkq1:(zs1.map (·.2)).Perm ((b,k)::zs.map (·.2)):=hperm.map _;have hnd1:(zs1.map (·.2.2)).Nodup:=hkp1.nodup_iff.mpr (nodup_cons.mpr ⟨hknew,hnd⟩);have hsz1:(insertAt es p (tupleKeyHash knd k,Value.ref b)).size=zs.length+1:=by rw[←length_toList,hes1,length_map,hlen1]
  have tail:∀t2:SetTable,Tb t2 (zs1.map (·.1))→t2.mask=t.mask→wpAny (model prog w) A (do
    storeSet a (insertAt es p (tupleKeyHash knd k,Value.ref b)) t2
    if (!false&&t2.tooFull)=true then do
      setRelay a (SetTable.grown (es.size+1))
      pure true
     else pure true) Q E s:=by
   intro t2 T2 hm2;refine wpAny_bind (wpAny_storeSet_of ho hd ?_ (by rw[hsz1];exact rX (by omega)));have ho1:=stored ho hd (insertAt es p (tupleKeyHash knd k,Value.ref b)) t2;have hsb1:=SameBut.update s.heap a (Obj.putSet (insertAt es p (tupleKeyHash knd k,Value.ref b)) t2);have hfill:t2.fill=zs.length+1:=by rw[oV T2,length_map,hlen1]
   by_cases hfull2:t2.tooFull=true
   ·rw[hfull2];simp only[Bool.not_false,Bool.and_self,if_true];refine wpAny_bind ?_;unfold setRelay;have hf2:t2.fits (insertAt es p (tupleKeyHash knd k,Value.ref b)).size=true:=kx T2 (by rw[length_map,hlen1,hsz1]) (by rw[hsz1,hm2];omega);refine wpAny_bind (wpAny_setState_of ho1 rfl hf2 ?_);dsimp only;obtain⟨nn,hnn⟩:∃nn,nn=zs.length+1:=⟨_,rfl⟩;have hw:SetTable.grown (es.size+1)=nn*4:=by rw[hlen,hnn];unfold SetTable.grown;rw[if_neg (by omega)]
    obtain⟨hmk,hsz,hsz256⟩:=rR (w:=nn*4) (by omega);rw[hw];rw[if_neg (by rw[sizeLine_eq];omega)];have hhs:((insertAt es p (tupleKeyHash knd k,Value.ref b)).map (·.1)).size=nn:=by rw[Array.size_map,hsz1,hnn]
    obtain⟨t3,zi,hrel,hm3,hl3,hp3,T3,hperm3,hpath3⟩:=qo (t:=t2) (hashes:=(insertAt es p (tupleKeyHash knd k,Value.ref b)).map (·.1)) (wanted:=nn*4) hmk.cyc (by rw[hhs];omega);rw[hhs]at hperm3;have hidx:∀z∈zi,z.2<nn:=λz hz=>mem_range.mp (hperm3.mem_iff.mp (mem_map.mpr ⟨z,hz,rfl⟩));have hlen5:zs1.length=nn:=by rw[hlen1,hnn]
    obtain⟨zs2,hzs2⟩:∃zs2:List (Ent K),zs2=zi.map λz=>(z.1,(zs1.getD z.2 (0,0,[])).2):=⟨_,rfl⟩;have hgetE:∀i,i<nn→(insertAt es p (tupleKeyHash knd k,Value.ref b))[i]?=some (ent knd (zs1.getD i (0,0,[]))):=λi hi=>by
     rw[←getElem?_toList,hes1,getElem?_map,getD_eq_getElem?_getD,getElem?_eq_getElem (by omega)];rfl
    have hes2:(((zi.map (·.2)).toArray).filterMap (λi=>(insertAt es p (tupleKeyHash knd k,Value.ref b))[i]?)).toList=zs2.map (ent knd):=by
     rw[Array.toList_filterMap,hzs2];show(zi.map (·.2)).filterMap _=_;rw[List.filterMap_map,map_map];have:∀l:List (Nat×Nat),(∀z∈l,z.2<nn)→l.filterMap ((λi=>(insertAt es p (tupleKeyHash knd k,Value.ref b))[i]?)∘λx=>x.2)=l.map (ent knd∘λz=>(z.1,(zs1.getD z.2 (0,0,[])).2)):=by
      intro l
      induction l with
      |nil=>intro _;rfl
      |cons x l ih =>
       intro hl;rw[filterMap_cons_some (b:=ent knd (zs1.getD x.2 (0,0,[]))) (by show(insertAt es p (tupleKeyHash knd k,Value.ref b))[x.2]?=_;exact hgetE _ (hl x (by simp))),map_cons,ih λz hz=>hl z (by simp[hz])];rfl
     exact this zi hidx
    have hsz2:(((zi.map (·.2)).toArray).filterMap (λi=>(insertAt es p (tupleKeyHash knd k,Value.ref b))[i]?)).size=nn:=by
     rw[←length_toList,hes2,length_map,hzs2,length_map];have:=hperm3.length_eq;rw[length_map,length_range]at this;exact this
    refine wpAny_bind ?_;rw[hrel];show wpAny _ _ (@ite _ _ _ _ _) _ _ _;rw[if_neg (by rw[hsz2,hsz1,hnn];simp)];refine wpAny_pure ?_;dsimp only;refine wpAny_storeSet_of ho1 rfl ?_ (by rw[hsz2];exact rX (by omega));have ho2:=stored (s:={s with heap:=s.heap.update a (Obj.putSet (insertAt es p (tupleKeyHash knd k,Value.ref b)) t2)}) ho1 rfl (((zi.map (·.2)).toArray).filterMap (λi=>(insertAt es p (tupleKeyHash knd k,Value.ref b))[i]?)) t3
    have hsb2:=hsb1.trans (SameBut.update (s.heap.update a (Obj.putSet (insertAt es p (tupleKeyHash knd k,Value.ref b)) t2)) a (Obj.putSet (((zi.map (·.2)).toArray).filterMap (λi=>(insertAt es p (tupleKeyHash knd k,Value.ref b))[i]?)) t3));have hkq2:(zs2.map (·.2)).Perm (zs1.map (·.2)):=by
     rw[hzs2,map_map];have e1:zi.map ((λz:Ent K=>z.2)∘λz=>(z.1,(zs1.getD z.2 (0,0,[])).2))=(zi.map (·.2)).map λi=>(zs1.getD i (0,0,[])).2:=by rw[map_map];rfl
     have e2:zs1.map (·.2)=(List.range nn).map λi=>(zs1.getD i (0,0,[])).2:=by
      apply ext_getElem?;intro i;rw[getElem?_map,getElem?_map]
      by_cases hi:i<nn
      ·rw[getElem?_eq_getElem (by omega),getElem?_range hi];have e3:zs1.getD i (0,0,[])=zs1[i]'(by omega):=by rw[getD_eq_getElem?_getD,getElem?_eq_getElem (by omega)];rfl
       show some (zs1[i]'(by omega)).2=some (zs1.getD i (0,0,[])).2;rw[e3]
      ·rw[getElem?_eq_none (by omega),getElem?_eq_none (by rw[length_range];omega)];rfl
     rw[e1,e2];exact hperm3.map _
    have hkp2:(zs2.map (·.2.2)).Perm (zs1.map (·.2.2)):=by
     have:=hkq2.map (·.2);rw[map_map,map_map]at this;exact this
    have hmem2:∀z∈zs2,∃y∈zs1,y.2=z.2:=λz hz=>by
     rw[hzs2]at hz;obtain⟨y,hy,rfl⟩:=mem_map.mp hz;have:=hidx y hy;refine⟨zs1[y.2]'(by omega),getElem_mem _,?_⟩;rw[getD_eq_getElem?_getD,getElem?_eq_getElem (by omega)];rfl
    refine wpAny_pure (h true _ zs2 hsb2 ⟨⟨_,_,_,t3,ho2,hex,rfl,hes2,?_,by rw[hm3];exact hmk,?_,?_⟩,λz hz=>?_,hkp2.nodup_iff.mpr hnd1⟩ (.inr ⟨hknew,hkq2.trans hkq1⟩))
    ·have e1:zs2.map (·.1)=zi.map (·.1):=by rw[hzs2,map_map];rfl
     rw[e1];exact T3
    ·have:zs2.length=nn:=by
      have:=hkp2.length_eq;rw[length_map,length_map,hlen5]at this;exact this
     rw[this,hm3];omega
    ·have e1:zs2.map (pth knd)=zi.map λz=>(z.1,((insertAt es p (tupleKeyHash knd k,Value.ref b)).map (·.1)).getD z.2 0):=by
      rw[hzs2,map_map];apply map_congr_left;intro z hz;show(z.1,tupleKeyHash knd (zs1.getD z.2 (0,0,[])).2.2)=_
      congr 1
      rw[getD_eq_getD_getElem?,Array.getElem?_map,hgetE _ (hidx z hz)];rfl
     rw[e1];exact hpath3
    ·obtain⟨y,hy,e⟩:=hmem2 z hz;rw[←e];exact IsTupleKey.same (hkeys1 y hy) ho hd hsb2
   ·have hnf:t2.tooFull=false:=by simpa using hfull2
    rw[hnf];simp only[Bool.and_false,false_eq_true,if_false];refine wpAny_pure (h true _ zs1 hsb1 ⟨⟨_,_,_,t2,ho1,hex,rfl,hes1,T2,by rw[hm2];exact hmask,?_,by rw[hm2];exact hpath1⟩,λz hz=>IsTupleKey.same (hkeys1 z hz) ho hd hsb1,hnd1⟩ (.inr ⟨hknew,hkq1⟩));unfold SetTable.tooFull at hnf;rw[decide_eq_false_iff_not,hfill]at hnf;rw[hlen1];omega
  cases hpl2:t1.plain with
  |true =>
   simp only[if_true];refine wpAny_bind (qp hb hsc λbb=>?_);cases bb with
   |true =>
    simp only[if_true];exact tail t1 T1 hm1
   |false =>
    simp only[false_eq_true,if_false];exact tail _ (rW T1 false) hm1
  |false =>
   simp only[false_eq_true,if_false];refine wpAny_bind (wpAny_pure ?_);simp only[if_true];exact tail t1 T1 hm1
end
theorem jN{α:Type}[DecidableEq α]:∀l:List α,¬l.Nodup→∃l':List α,l'.length+1=l.length∧∀x∈l,x∈l'
 |[],h=>(h nodup_nil).elim
 |x::r,h=>by
  by_cases hx:x∈r
  ·refine⟨r,rfl,λy hy=>?_⟩;rcases mem_cons.mp hy with e|e
   ·rw[e];exact hx
   ·exact e
  ·have hr:¬r.Nodup:=λz=>h (nodup_cons.mpr ⟨hx,z⟩);obtain⟨r',e,s⟩:=jN r hr;refine⟨x::r',by simp[←e],λy hy=>?_⟩;rcases mem_cons.mp hy with e'|e'
   ·rw[e'];simp
   ·exact mem_cons_of_mem _ (s y e')
theorem lM{α:Type}[DecidableEq α]{z l:List α}(hz:z.Nodup)(h:∀x,x∈z↔x∈l):z.length=l.length↔l.Nodup:=by
 constructor
 ·intro e
  by_cases hl:l.Nodup
  ·exact hl
  ·obtain⟨l',e',s⟩:=jN l hl;have:=Nodup.length_le_of_subset hz (λx hx=>s x ((h x).mp hx));omega
 ·intro hl;exact((List.perm_ext_iff_of_nodup hz hl).mpr h).length_eq
section
variable{prog:Program}{w:World}{K:Type}[DecidableEq K]{knd:KeyKind prog w K}{A:Around}{R:Result→Shared→Prop}{I:Addr}{fp wr:List Addr}{G:Array GenState→Array GenState→Prop}{n:Nat}{P:Nat→Value→Prop}{St:Nat→Shared→Prop}
theorem iV{wr:List Addr}{s s':Shared}{k:List K}{b:Addr}(m:Moved wr G s s')(hb:b∉wr)(h:IsTupleKey knd s.heap k b):IsTupleKey knd s'.heap k b:=by
 obtain⟨o,items,n,ho,r⟩:=h;exact⟨o,items,n,m.heap b o hb ho,r⟩
theorem lN{wr:List Addr}{s s':Shared}{S:Addr}{zs:List (Ent K)}(m:Moved wr G s s')(hS:S∉wr)(hz:∀z∈zs,z.2.1∉wr)(h:TS knd s.heap S zs):TS knd s'.heap S zs:=by
 obtain⟨⟨o,es,ep,t,ho,r⟩,hk,hn⟩:=h;exact⟨⟨o,es,ep,t,m.heap S o hS ho,r⟩,λz hz'=>iV m (hz z hz') (hk z hz'),hn⟩
theorem dz(W:WalksS prog w A.in1 I fp wr G n P St)(S:Addr)(hSf:S∉fp)(hu:A.in1.units<cLine)(hsc:∀k v,knd.is k v=true→v.scannable=true)(key:Nat→List K)(ad:Nat→Addr)(hval:∀i v,P i v→v=.ref (ad i))(had:∀i,i<n→ad i∉S::fp)(hn:n≤60):
  ∀(k i:Nat)(s:Shared)(zs:List (Ent K)),n-i=k→i≤n→St i s→TS knd s.heap S zs→zs.length≤i→(∀z∈zs,∃j,j<n∧z.2.1=ad j)→(∀k',k'∈zs.map (·.2.2)↔∃j,j<i∧key j=k')→(∀j,j<n→IsTupleKey knd s.heap (key j) (ad j)) →
   (∀s' zs',Moved (S::wr) G s s'→TS knd s'.heap S zs'→zs'.length≤n→(∀k',k'∈zs'.map (·.2.2)↔∃j,j<n∧key j=k')→R (.ok (.ret .none)) s') →
   codeAny (model prog w) A (.builtin "set.update.loop" ⟨[.ref S,.ref I],[]⟩) R s:=by
 have hSw:S∉wr:=λh=>hSf (W.sub _ h);have hsub:∀b∈wr,b∈S::wr:=λb hb=>mem_cons_of_mem _ hb;have hadw:∀i,i<n→ad i∉wr:=λi hi h=>had i hi (mem_cons_of_mem _ (W.sub _ h));have hadS:∀i,i<n→ad i≠S:=λi hi h=>had i hi (by rw[h];exact mem_cons_self);intro k
 induction k with
 |zero =>
  intro i s zs hk hi hst hS hl hza hmem hks hR;have hin:i=n:=by omega
  subst hin;refine codeAny_builtin PyProof.Rows.F.entry_set_update_loop ?_;rw[Around.under_plainId PyProof.Rows.F.plain_set_update_loop _];show wpAny _ A.in1 (pyNext (.ref I) >>= _) _ _ s;refine wpAny_bind (W.done s _ _ hst λs' hm=>?_);show wpAny _ A.in1 (ret Value.none) _ _ s';exact wpAny_pure (hR s' zs (hm.mono hsub) (lN hm hSw (λz hz=>by obtain⟨j,hj,e⟩:=hza z hz;rw[e];exact hadw j hj) hS) hl hmem)
 |succ k ih =>
  intro i s zs hk hi hst hS hl hza hmem hks hR;have hlt:i<n:=by omega
  refine codeAny_builtin PyProof.Rows.F.entry_set_update_loop ?_;rw[Around.under_plainId PyProof.Rows.F.plain_set_update_loop _];show wpAny _ A.in1 (pyNext (.ref I) >>= _) _ _ s;refine wpAny_bind (W.item i s _ _ hlt hst λv s' hP hst' hm=>?_);have hv:=hval i v hP;subst hv;have hS':TS knd s'.heap S zs:=lN hm hSw (λz hz=>by obtain⟨j,hj,e⟩:=hza z hz;rw[e];exact hadw j hj) hS;have hks':∀j,j<n→IsTupleKey knd s'.heap (key j) (ad j):=λj hj=>iV hm (hadw j hj) (hks j hj);show wpAny _ A.in1 (holding [Value.ref (ad i)] (setAdd S (.ref (ad i))) >>= _) _ _ s';refine wpAny_bind (wpAny_holding ?_);unfold setAdd;refine wpAny_holding ?_;refine wpAny_bind (wpAny_pyHash_tuple hu (hks' i hlt) ?_);refine qr (s:={s' with toks:=s'.toks+((key i).length+1)}) hu hsc hS' (hks' i hlt) (by omega) λr h' zs' hsb hS2 hor=>?_
  have hsb':SameBut S s'.heap h':=hsb;have hlen':zs'.length≤i+1:=by
   rcases hor with⟨_,e⟩|⟨_,e⟩
   ·rw[e];omega
   ·have:=e.length_eq;rw[length_map,length_cons,length_map]at this;omega
  have hor2:(key i∈zs.map (·.2.2)∧zs'=zs)∨(zs'.map (·.2.2)).Perm (key i::zs.map (·.2.2)):=by
   rcases hor with e|⟨_,e⟩
   ·exact .inl e
   ·have:=e.map (·.2);rw[map_map,map_cons,map_map]at this;exact .inr this
  have hmem':∀k',k'∈zs'.map (·.2.2)↔∃j,j<i+1∧key j=k':=λk'=>by
   rcases hor2 with⟨hin,e⟩|e
   ·rw[e,hmem k'];constructor
    ·rintro⟨j,hj,e'⟩;exact⟨j,by omega,e'⟩
    ·rintro⟨j,hj,e'⟩
     by_cases hji:j=i
     ·rw[←e',hji];exact(hmem _).mp hin
     ·exact⟨j,by omega,e'⟩
   ·rw[e.mem_iff,mem_cons,hmem k'];constructor
    ·rintro(e'|⟨j,hj,e'⟩)
     ·exact⟨i,by omega,e'.symm⟩
     ·exact⟨j,by omega,e'⟩
    ·rintro⟨j,hj,e'⟩
     by_cases hji:j=i
     ·left;rw[←e',hji]
     ·exact .inr ⟨j,by omega,e'⟩
  have hkeep:∀b o,b∉S::wr→s'.heap.get? b=some o→h'.get? b=some o:=λb o hb e=>by
   rw[hsb'.2 b (λz:b=S=>hb (by rw[z];exact mem_cons_self))];exact e
  have hks2:∀j,j<n→IsTupleKey knd h' (key j) (ad j):=λj hj=>by
   obtain⟨o,items,m,ho,r⟩:=hks' j hj;exact⟨o,items,m,(hsb'.2 _ (hadS j hj)).trans ho,r⟩
  have hza2:∀z∈zs',∃j,j<n∧z.2.1=ad j:=by
   rcases hor with⟨_,e⟩|⟨_,e⟩
   ·rw[e];exact hza
   ·intro z hz;have hz2:z.2∈zs'.map (·.2):=mem_map.mpr ⟨z,hz,rfl⟩;rcases mem_cons.mp (e.mem_iff.mp hz2)with e'|e'
    ·exact⟨i,hlt,by rw[e']⟩
    ·obtain⟨y,hy,ey⟩:=mem_map.mp e';obtain⟨j,hj,ej⟩:=hza y hy;exact⟨j,hj,by rw[←ey];exact ej⟩
  refine wpAny_pure ⟨plainId_quiet PyProof.Rows.F.plain_set_update_loop _,ih (i+1) _ zs' (by omega) hlt (W.frame _ s' _ _ hst' (le_add_right _ _) λb hb o e=>?_) hS2 hlen' hza2 hmem' hks2 λs'' zs'' hm'' hS'' hl'' hmm''=>?_⟩
  ·rw[hsb'.2 b (λh:b=S=>hSf (by rw[←h];exact hb))];exact e
  ·refine hR s'' zs'' (Moved.trans W.gtrans ((hm.mono hsub).then_heap (le_add_right _ _) λb o hb e=>?_) hm'') hS'' hl'' hmm'';rw[hsb'.2 b (λh:b=S=>hb (by rw[h];exact mem_cons_self))];exact e
end
section
variable{prog:Program}{w:World}{K:Type}[DecidableEq K]{knd:KeyKind prog w K}{A:Around}{E:Value→Shared→Prop}{s:Shared}
theorem rY{h:Heap}{a:Addr}(led:Bool)(ho:h.get? a=some {cls:=.type "set",dict:=none,data:=.set #[] 0 (.fresh 0 0 led)}):TS knd h a [] :=
 ⟨⟨_,#[],0,_,ho,⟨rfl,rfl,rfl⟩,rfl,rfl,⟨rfl,rfl,Pairwise.nil,λ_ h=>by simp at h⟩,Or.inl rfl,(by show 0<21;decide),fj.nil _⟩,λ_ h=>by simp at h,nodup_nil⟩
set_option maxRecDepth 100000 in
set_option maxHeartbeats 3200000 in
theorem il{l:Addr}{items:Array Value}{key:Nat→List K}{ad:Nat→Addr}{Q:Value→Shared→Prop}(hh:A.handled=none)(hu:A.units+4<cLine)(hsc:∀k v,knd.is k v=true→v.scannable=true)(hl:s.heap.IsList l items)(hi:∀(i:Nat) (v:Value),items[i]?=some v→v=Value.ref (ad i))(hk:∀i,i<items.size→IsTupleKey knd s.heap (key i) (ad i))(hb:items.size≤60)(h:∀(h':Heap) (tk:Nat) (zs:List (Ent K)),TS knd h' s.heap.objs.size zs→zs.length≤items.size→(∀k',k'∈zs.map (·.2.2)↔∃j,j<items.size∧key j=k') →
   (∀b o,b<s.heap.objs.size→s.heap.get? b=some o→h'.get? b=some o)→Q (.ref s.heap.objs.size) {s with heap:=h',toks:=tk}):
  wpAny (model prog w) A (call (.type "set") [.ref l]) Q E s:=by
 obtain⟨c,tl,hmro⟩:=F.called_set.mro;have hmade:=F.called_set.made;have hsub:=F.called_set.sub;refine wpAny_call (codeAny_of_tree ?_);show wpAny _ _ (callAny (.type "set") _) _ _ _;refine wpAny_pure ⟨Code.quiet_builtin _ (by decide +kernel),codeAny_builtin F.entry_type_call ?_⟩;rw[Around.under_plain (weight_type_call_type "set" [.ref l] []) rfl];have h1:=F.called_set.notType;have h2:=F.called_set.canCreate;have hct:=F.typeCall_set_1 (.ref l)
 repeat (any_goals (first|assumption|wp_step))
 refine codeAny_mono (code_set_new_1 (.ref l) (E:=E) (Q₁:=λobj s₁=>∃led:Bool,obj=.ref s.heap.objs.size∧s₁={s with heap:=s.heap.push {cls:=.type "set",dict:=none,data:=.set #[] 0 (.fresh 0 0 led)}}) λled=>⟨led,rfl,rfl⟩) λr s₁ hr=>?_
 cases r with
 |error e=>exact hr
 |ok fl =>
  cases fl with
  |ret obj =>
   obtain⟨led,rfl,rfl⟩:=hr;have hS:(s.heap.push {cls:=.type "set",dict:=none,data:=.set #[] 0 (.fresh 0 0 led)}).get? s.heap.objs.size=some {cls:=.type "set",dict:=none,data:=.set #[] 0 (.fresh 0 0 led)}:=get?_push_size _ rfl;have hT:Shared.TypeIs {s with heap:=s.heap.push {cls:=.type "set",dict:=none,data:=.set #[] 0 (.fresh 0 0 led)}} (.ref s.heap.objs.size) "set":=⟨_,hS,rfl⟩
   have hli:=F.called_set.init.lookup;have hbi:=F.called_set.init.bind (.ref s.heap.objs.size)
   repeat (any_goals (first|assumption|wp_step))
   refine codeAny_mono (codeAny_call_builtin (R:=wants (λr s₂=>r=.none∧∃h' tk zs,s₂={s with heap:=h',toks:=tk}∧TS knd h' s.heap.objs.size zs∧zs.length≤items.size∧(∀k',k'∈zs.map (·.2.2)↔∃j,j<items.size∧key j=k') ∧
     (∀b o,b<s.heap.objs.size→s.heap.get? b=some o→h'.get? b=some o)) E) F.called_set.init.plain F.entry_set_init (check_set_init_1 hT ?_)) λr₂ s₂ hr₂=>?_
   ·obtain⟨ol,hol,hcl,nl,hdl⟩:=hl;obtain⟨ocls,odict,odata,oslots⟩:=ol;simp only at hcl hdl;subst hcl;subst hdl;have hol':(s.heap.push {cls:=.type "set",dict:=none,data:=.set #[] 0 (.fresh 0 0 led)}).get? l=some {cls:=.type "list",dict:=odict,data:=.seq items nl,slots:=oslots}:=get?_push_of_some _ hol;have hsls:=F.sub_list_set;have hslf:=F.sub_list_frozenset;have hne:(type "list"==type "dict")=false:=by decide
    have hl1:(s.heap.push {cls:=.type "set",dict:=none,data:=.set #[] 0 (.fresh 0 0 led)}).IsList l items:=⟨_,hol',rfl,nl,rfl⟩;unfold Builtin.«set.__init__» noKeywords Builtin.Frozenset.updateFrom;generalize hPI:pyIter=PI
    wp_walk
    subst hPI;refine wpAny_pyIter_list hl1 ?_;refine wpAny_bind (wpAny_runValue ?_);have hlS:l<s.heap.objs.size:=lt_size hol;have hh3:A.in1.in1.in1.handled=none:=by simp[hh]
    have hneI:l≠(s.heap.push {cls:=.type "set",dict:=none,data:=.set #[] 0 (.fresh 0 0 led)}).objs.size:=by
     rw[size_push];exact ne_of_lt (lt_succ_of_lt hlS)
    have hSf:s.heap.objs.size∉[(s.heap.push {cls:=.type "set",dict:=none,data:=.set #[] 0 (.fresh 0 0 led)}).objs.size,l]:=by
     rw[size_push];simp only[mem_cons,mem_singleton,not_mem_nil,or_false,not_or];exact⟨ne_of_lt (Nat.lt_succ_self _),ne_of_gt hlS⟩
    have hadlt:∀i,i<items.size→ad i<s.heap.objs.size:=λi hi'=>by
     obtain⟨o,_,_,ho,_⟩:=hk i hi';exact lt_size ho
    have hadl:∀i,i<items.size→ad i≠l:=λi hi' e=>by
     obtain⟨o,_,_,ho,hc,_⟩:=hk i hi';rw[e,hol]at ho;cases ho;have h':type "list"=type "tuple":=hc;injection h' with h'
     exact absurd h' (by decide)
    have had:∀i,i<items.size→ad i∉s.heap.objs.size::[(s.heap.push {cls:=.type "set",dict:=none,data:=.set #[] 0 (.fresh 0 0 led)}).objs.size,l]:=λi hi'=>by
     rw[size_push];have q1:ad i<s.heap.objs.size:=hadlt i hi';have q2:=hadl i hi';simp only[mem_cons,mem_singleton,not_mem_nil,or_false,not_or];exact⟨ne_of_lt q1,ne_of_lt (lt_succ_of_lt q1),q2⟩
    refine dz (knd:=knd) ((Walks.list hh3 _ l hneI items).toS) s.heap.objs.size
     hSf (by simp[Around.in1_units];omega) hsc key ad hi had hb (items.size-0) 0 _ [] (by omega) (zero_le _)
     ⟨⟨_,get?_push_size _ rfl,rfl,rfl⟩,(hl1.push _)⟩ ?hS0 (zero_le _) (λ_ h=>by simp at h) (λk'=>⟨λh=>by simp at h,λ⟨j,hj,_⟩=>by omega⟩) ?hks ?hR
    case hS0 =>
     exact rY led (get?_push_of_some _ hS)
    case hks =>
     intro j hj;obtain⟨o,its,m,ho,r⟩:=hk j hj;exact⟨o,its,m,get?_push_of_some _ (get?_push_of_some _ ho),r⟩
    case hR =>
     intro s' zs hm hS' hl' hm';obtain⟨h',g',d',tk',os'⟩:=s';have eg:g'=s.gens:=hm.gens;have ed:d'=s.drawn:=hm.drawn;have eo:os'=s.os:=hm.os;subst eg;subst ed;subst eo;show wpAny _ _ _ _ _ _;refine wpAny_pure ?_;show wpAny _ _ (ret Value.none) _ _ _;refine wpAny_pure ⟨rfl,h',tk',zs,rfl,hS',hl',hm',λb o hb e=>?_⟩;have hb1:b≠s.heap.objs.size:=ne_of_lt hb;have hb2:b≠(s.heap.push {cls:=.type "set",dict:=none,data:=.set #[] 0 (.fresh 0 0 led)}).objs.size:=by
      rw[size_push];exact ne_of_lt (lt_succ_of_lt hb)
     exact hm.heap b o (by simp only[mem_cons,mem_singleton,not_mem_nil,or_false,not_or];exact⟨hb1,hb2⟩) (get?_push_of_some _ (get?_push_of_some _ e))
   ·cases r₂ with
    |error e=>exact hr₂
    |ok fl₂ =>
     cases fl₂ with
     |ret r =>
      obtain⟨rfl,h',tk,zs,rfl,hS',hl',hm',hk'⟩:=hr₂
      repeat (any_goals (first|assumption|wp_step))
      exact h _ _ zs hS' hl' hm' hk'
     |_=>exact hr₂.elim
  |_=>exact hr.elim
end
end TB
namespace SRT
open PySem PySem.W PyProof.Rows
def run{α:Type}(f:Nat→Nat→Bool):KasT α→α
 |.ret a=>a
 |.ask i j k=>run f (k (f i j))
theorem dB{α β:Type}(f:Nat→Nat→Bool)(g:α→KasT β):∀t:KasT α,run f (t.bind g)=run f (g (run f t))
 |.ret a=>rfl
 |.ask i j k=>dB f g (k (f i j))
def path{α:Type}(f:Nat→Nat→Bool)(n:Nat):KasT α→Prop
 |.ret _=>True
 |.ask i j k=>i<n∧j<n∧path f n (k (f i j))
theorem cU{α β:Type}{f:Nat→Nat→Bool}{n:Nat}{g:α→KasT β}:∀{t:KasT α},path f n t→path f n (g (run f t))→path f n (t.bind g)
 |.ret a,_,h=>h
 |.ask i j k,h,h'=>⟨h.1,h.2.1,cU (t:=k (f i j)) h.2.2 h'⟩
theorem oX{α:Type}{f:Nat→Nat→Bool}{n:Nat}{cmp:Nat→Nat→(Bool→Shared→Prop)→Shared→Prop}{s:Shared}(hc:∀i j C,i<n→j<n→C (f i j) s→cmp i j C s)(Q:α→Shared→Prop):∀t:KasT α,path f n t→Q (run f t) s→t.kasWp cmp Q s
 |.ret a,_,h=>h
 |.ask i j k,p,h=>hc i j _ p.1 p.2.1 (oX hc Q (k (f i j)) p.2.2 h)
structure Ord(f:Nat→Nat→Bool)(n:Nat):Prop where
 irr:∀i,i<n→f i i=false
 tr:∀i j k,i<n→j<n→k<n→f i j=true→f j k=true→f i k=true
 tot:∀i j,i<n→j<n→i≠j→f i j=true∨f j i=true
section
variable{f:Nat→Nat→Bool}{n:Nat}
structure Row(n:Nat)(p:Array Nat):Prop where
 perm:p.toList.Perm (List.range n)
theorem Row.size{p:Array Nat}(r:Row n p):p.size=n:=by have:=r.perm.length_eq;simpa using this
theorem Row.lt{p:Array Nat}(r:Row n p){i:Nat}(hi:i<n):p.getD i 0<n:=by
 have hs:=r.size;have:p.getD i 0∈p.toList:=by
  rw[getD_eq_getD_getElem?,Array.getElem?_eq_getElem (by omega)];exact Array.getElem_mem_toList (by omega)
 exact mem_range.mp (r.perm.mem_iff.mp this)
theorem Row.ne{p:Array Nat}(r:Row n p){i j:Nat}(hi:i<n)(hj:j<n)(hij:i≠j):p.getD i 0≠p.getD j 0:=by
 have hs:=r.size;have nd:p.toList.Nodup:=r.perm.nodup_iff.mpr nodup_range;rw[getD_eq_getD_getElem?,getD_eq_getD_getElem?,Array.getElem?_eq_getElem (by omega),Array.getElem?_eq_getElem (by omega)];intro e;have e':p.toList[i]'(by simpa using (by omega:i<p.size))=p.toList[j]'(by simpa using (by omega:j<p.size)):=by simpa using e
 exact hij ((getElem_inj nd).mp e')
theorem Row.rev{p:Array Nat}(r:Row n p)(i j:Nat):Row n (kas_rev p i j):=⟨(Array.perm_iff_toList_perm.mp (mirror_perm p i j _)).trans r.perm⟩
theorem Row.bub{p:Array Nat}(r:Row n p)(i j:Nat):Row n (bubble p i j):=⟨(Array.perm_iff_toList_perm.mp (bubble_perm p i j)).trans r.perm⟩
def Up(f:Nat→Nat→Bool)(p:Array Nat)(m:Nat):Prop:=∀i j,i<j→j<m→f (p.getD i 0) (p.getD j 0)=true
theorem uL(O:Ord f n){p:Array Nat}(r:Row n p){m:Nat}(hm:m<n)(h1:1≤m)(u:Up f p m)(h:f (p.getD m 0) (p.getD (m-1) 0)=false):Up f p (m+1):=by
 have hl:f (p.getD (m-1) 0) (p.getD m 0)=true:=by
  rcases O.tot _ _ (r.lt (i:=m) hm) (r.lt (i:=m-1) (by omega)) (r.ne hm (by omega) (by omega))with z|z
  ·rw[h]at z;cases z
  ·exact z
 intro i j hij hj
 by_cases e:j=m
 ·subst e
  by_cases e2:i=j-1
  ·rw[e2];exact hl
  ·exact O.tr _ _ _ (r.lt (by omega)) (r.lt (by omega)) (r.lt hm) (u i (j-1) (by omega) (by omega)) hl
 ·exact u i j hij (by omega)
theorem ky(O:Ord f n){p:Array Nat}(r:Row n p):∀(fuel m:Nat),1≤m→m+fuel≤n→Up f p m →
  m≤run f (kas_asc p fuel m)∧run f (kas_asc p fuel m)≤m+fuel∧Up f p (run f (kas_asc p fuel m))∧(run f (kas_asc p fuel m)<m+fuel→f (p.getD (run f (kas_asc p fuel m)) 0) (p.getD (run f (kas_asc p fuel m)-1) 0)=true)
 |0,m,_,_,u=>⟨le_refl _,le_refl _,u,λh=>absurd h (by simp[kas_asc,run])⟩
 |fuel+1,m,h1,hm,u=>by
  cases e:f (p.getD m 0) (p.getD (m-1) 0)with
  |true =>
   have er:run f (kas_asc p (fuel+1) m)=m:=by
    show run f (if f (p.getD m 0) (p.getD (m-1) 0)=true then KasT.ret m else kas_asc p fuel (m+1))=m
    rw[e,if_pos rfl];rfl
   rw[er];exact⟨le_refl _,by omega,u,λ_=>e⟩
  |false =>
   have er:run f (kas_asc p (fuel+1) m)=run f (kas_asc p fuel (m+1)):=by
    show run f (if f (p.getD m 0) (p.getD (m-1) 0)=true then KasT.ret m else kas_asc p fuel (m+1))=_
    rw[e,if_neg (by simp)]
   rw[er];obtain⟨a1,a2,a3,a4⟩:=ky O r fuel (m+1) (by omega) (by omega) (uL O r (by omega) h1 u e);exact⟨by omega,by omega,a3,λh=>a4 (by omega)⟩
def wV(f:Nat→Nat→Bool)(p:Array Nat)(m:Nat):Prop:=∀i j,i<j→j<m→f (p.getD j 0) (p.getD i 0)=true
theorem kA(O:Ord f n){p:Array Nat}(r:Row n p):∀(fuel m:Nat),1≤m→m+fuel≤n→wV f p m →
  ∃m',run f (kas_desc fuel p m 0)=(p,m',0)∧m≤m'∧m'≤m+fuel∧wV f p m'
 |0,m,_,_,u=>⟨m,rfl,le_refl _,le_refl _,u⟩
 |fuel+1,m,h1,hm,u=>by
  cases e:f (p.getD m 0) (p.getD (m-1) 0)with
  |true =>
   have er:run f (kas_desc (fuel+1) p m 0)=run f (kas_desc fuel p (m+1) 0):=by
    show run f (if f (p.getD m 0) (p.getD (m-1) 0)=true then (if 0>0 then _ else kas_desc fuel p (m+1) 0)else _)=_
    rw[e,if_pos rfl,if_neg (by omega)]
   rw[er];obtain⟨m',a1,a2,a3,a4⟩:=kA O r fuel (m+1) (by omega) (by omega) (by
    intro i j hij hj
    by_cases ej:j=m
    ·subst ej
     by_cases e2:i=j-1
     ·rw[e2];exact e
     ·exact O.tr _ _ _ (r.lt (by omega)) (r.lt (i:=j-1) (by omega)) (r.lt (by omega)) e (u i (j-1) (by omega) (by omega))
    ·exact u i j hij (by omega))
   exact⟨m',a1,by omega,by omega,a4⟩
  |false =>
   have e2:f (p.getD (m-1) 0) (p.getD m 0)=true:=by
    rcases O.tot _ _ (r.lt (i:=m) (by omega)) (r.lt (i:=m-1) (by omega)) (r.ne (by omega) (by omega) (by omega))with z|z
    ·rw[e]at z;cases z
    ·exact z
   have er:run f (kas_desc (fuel+1) p m 0)=(p,m,0):=by
    show run f (if f (p.getD m 0) (p.getD (m-1) 0)=true then _ else KasT.ask (p.getD (m-1) 0) (p.getD m 0) λd=>if d=true then .ret (p,m,0)else kas_desc fuel p (m+1) (0+1))=_
    rw[e,if_neg (by simp)];show run f (if f (p.getD (m-1) 0) (p.getD m 0)=true then KasT.ret (p,m,0)else kas_desc fuel p (m+1) (0+1))=_
    rw[e2,if_pos rfl];rfl
   exact⟨m,er,le_refl _,by omega,u⟩
theorem oY{p:Array Nat}{m:Nat}(hm:m≤p.size)(k:Nat)(hk:k<m):(kas_rev p 0 m).getD k 0=p.getD (m-1-k) 0:=by
 unfold kas_rev;rw[getD_eq_getD_getElem?,getElem?_mirror_all hm k,if_pos ⟨by omega,hk⟩,getD_eq_getD_getElem?]
 congr 2
 omega
theorem wW{p:Array Nat}{m:Nat}(hm:m≤p.size)(d:wV f p m):Up f (kas_rev p 0 m) m:=by
 intro i j hij hj;rw[oY hm i (by omega),oY hm j hj];exact d _ _ (by omega) (by omega)
theorem lO(O:Ord f n){p:Array Nat}(r:Row n p)(h2:1≤n):∃m p',run f (kas_count n p)=(m,p')∧1≤m∧m≤n∧Row n p'∧Up f p' m:=by
 obtain⟨a1,a2,a3,a4⟩:=ky O r (n-1) 1 (by omega) (by omega) (by intro i j hij hj;omega);have er:run f (kas_count n p)=run f (if (run f (kas_asc p (n-1) 1)==n)=true then KasT.ret (run f (kas_asc p (n-1) 1),p)else if run f (kas_asc p (n-1) 1)>1 then .ask (p.getD 0 0) (p.getD (run f (kas_asc p (n-1) 1)-1) 0) λc=>if c=true then .ret (run f (kas_asc p (n-1) 1),p)else kas_descPart (run f (kas_asc p (n-1) 1)) n (kas_rev p 0 (run f (kas_asc p (n-1) 1)))
  else kas_descPart (run f (kas_asc p (n-1) 1)) n p):=by
  unfold kas_count;rw[dB]
 rw[er];generalize run f (kas_asc p (n-1) 1)=m at a1 a2 a3 a4⊢
 by_cases e:m=n
 ·rw[if_pos (by simp[e])];exact⟨m,p,rfl,a1,by omega,r,a3⟩
 ·rw[if_neg (by simpa using e)]
  by_cases e1:m>1
  ·rw[if_pos e1];refine⟨m,p,?_,a1,by omega,r,a3⟩;show run f (if f (p.getD 0 0) (p.getD (m-1) 0)=true then KasT.ret (m,p)else _)=_
   rw[a3 0 (m-1) (by omega) (by omega),if_pos rfl];rfl
  ·rw[if_neg e1];have em:m=1:=by omega
   subst em;have hd:=a4 (by omega);unfold kas_descPart;obtain⟨m',b1,b2,b3,b4⟩:=kA O r (n-(1+1)) (1+1) (by omega) (by omega) (by
    intro i j hij hj;have:i=0∧j=1:=by omega
    rw[this.1,this.2];exact hd)
   rw[dB,b1];dsimp only;rw[if_neg (by omega)];unfold kas_tail3;have hs:=r.size;have ur:=wW (f:=f) (by omega:m'≤p.size) b4;obtain⟨c1,c2,c3,c4⟩:=ky O (r.rev 0 m') (n-m') m' (by omega) (by omega) ur;rw[dB];exact⟨_,_,rfl,by omega,by omega,r.rev 0 m',c3⟩
theorem gu(O:Ord f n){p:Array Nat}(r:Row n p){k:Nat}(hk:k<n)(u:Up f p k):∀(fuel l r':Nat),r'-l≤fuel→l≤r'→r'≤k →
  (∀i,i<l→f (p.getD i 0) (p.getD k 0)=true)→(∀i,r'≤i→i<k→f (p.getD k 0) (p.getD i 0)=true) →
  run f (kas_place p k fuel l r')≤k∧(∀i,i<run f (kas_place p k fuel l r')→f (p.getD i 0) (p.getD k 0)=true)∧(∀i,run f (kas_place p k fuel l r')≤i→i<k→f (p.getD k 0) (p.getD i 0)=true)
 |0,l,r',h1,h2,h3,h4,h5=>by
  have:l=r':=by omega
  subst this;exact⟨h3,h4,h5⟩
 |fuel+1,l,r',h1,h2,h3,h4,h5=>by
  unfold kas_place
  by_cases e:l≥r'
  ·rw[if_pos e];have:l=r':=by omega
   subst this;exact⟨h3,h4,h5⟩
  ·rw[if_neg e];have hmid:(l+r') / 2<k:=by omega
   cases c:f (p.getD k 0) (p.getD ((l+r') / 2) 0)with
   |true =>
    have er:run f (KasT.ask (p.getD k 0) (p.getD ((l+r') / 2) 0) λc=>if c=true then kas_place p k fuel l ((l+r') / 2)else kas_place p k fuel ((l+r') / 2+1) r')=run f (kas_place p k fuel l ((l+r') / 2)):=by
     show run f (if f (p.getD k 0) (p.getD ((l+r') / 2) 0)=true then _ else _)=_
     rw[c,if_pos rfl]
    rw[er];refine gu O r hk u fuel l _ (by omega) (by omega) (by omega) h4 (λi hi hik=>?_)
    by_cases ei:i=(l+r') / 2
    ·rw[ei];exact c
    ·exact O.tr _ _ _ (r.lt hk) (r.lt (i:=(l+r') / 2) (by omega)) (r.lt (by omega)) c (u _ _ (by omega) hik)
   |false =>
    have er:run f (KasT.ask (p.getD k 0) (p.getD ((l+r') / 2) 0) λc=>if c=true then kas_place p k fuel l ((l+r') / 2)else kas_place p k fuel ((l+r') / 2+1) r')=run f (kas_place p k fuel ((l+r') / 2+1) r'):=by
     show run f (if f (p.getD k 0) (p.getD ((l+r') / 2) 0)=true then _ else _)=_
     rw[c,if_neg (by simp)]
    rw[er];have c':f (p.getD ((l+r') / 2) 0) (p.getD k 0)=true:=by
     rcases O.tot _ _ (r.lt (i:=k) hk) (r.lt (i:=(l+r') / 2) (by omega)) (r.ne hk (by omega) (by omega))with z|z
     ·rw[c]at z;cases z
     ·exact z
    refine gu O r hk u fuel _ r' (by omega) (by omega) h3 (λi hi=>?_) h5
    by_cases ei:i=(l+r') / 2
    ·rw[ei];exact c'
    ·exact O.tr _ _ _ (r.lt (by omega)) (r.lt (i:=(l+r') / 2) (by omega)) (r.lt hk) (u i _ (by omega) (by omega)) c'
theorem iy{p:Array Nat}{k l:Nat}(hk:k<p.size)(hl:l≤k)(i:Nat):(bubble p k (k-l)).getD i 0=if i=l then p.getD k 0 else if l<i∧i≤k then p.getD (i-1) 0 else p.getD i 0:=by
 simp only[getD_eq_getD_getElem?];rw[getElem?_bubble hk (k-l) (by omega) i];have e:k-(k-l)=l:=by omega
 rw[e]
 by_cases h1:i=l
 ·rw[if_pos h1,if_pos h1]
 ·rw[if_neg h1,if_neg h1]
  by_cases h2:l<i∧i≤k
  ·rw[if_pos h2,if_pos h2]
  ·rw[if_neg h2,if_neg h2]
theorem rZ(O:Ord f n):∀(fuel:Nat)(p:Array Nat)(k:Nat),Row n p→k+fuel=n→Up f p k→Row n (run f (kas_bin fuel p k))∧Up f (run f (kas_bin fuel p k)) n
 |0,p,k,r,hk,u=>by
  have:k=n:=by omega
  subst this;exact⟨r,u⟩
 |fuel+1,p,k,r,hk,u=>by
  have hkn:k<n:=by omega
  obtain⟨a1,a2,a3⟩:=gu O r hkn u k 0 k (by omega) (by omega) (le_refl _) (λi hi=>by omega) (λi h1 h2=>by omega);have er:run f (kas_bin (fuel+1) p k)=run f (kas_bin fuel (bubble p k (k-run f (kas_place p k k 0 k))) (k+1)):=by
   show run f ((kas_place p k k 0 k).bind λl=>kas_bin fuel (bubble p k (k-l)) (k+1))=_;rw[dB]
  rw[er];generalize run f (kas_place p k k 0 k)=l at a1 a2 a3⊢;have hs:=r.size;refine rZ O fuel _ (k+1) (r.bub _ _) (by omega) ?_;intro i j hij hj;rw[iy (by omega) a1 i,iy (by omega) a1 j]
  by_cases ei:i=l
  ·rw[if_pos ei,if_neg (by omega),if_pos ⟨by omega,by omega⟩];exact a3 (j-1) (by omega) (by omega)
  ·rw[if_neg ei]
   by_cases ej:j=l
   ·rw[if_pos ej,if_neg (by omega)];exact a2 i (by omega)
   ·rw[if_neg ej]
    by_cases hi2:l<i∧i≤k
    ·rw[if_pos hi2,if_pos ⟨by omega,by omega⟩];exact u _ _ (by omega) (by omega)
    ·rw[if_neg hi2]
     by_cases hj2:l<j∧j≤k
     ·rw[if_pos hj2]
      by_cases e3:i=j-1
      ·omega
      ·exact u i (j-1) (by omega) (by omega)
     ·rw[if_neg hj2];exact u i j hij (by omega)
theorem iW{p:Array Nat}(r:Row n p):∀(fuel m:Nat),1≤m→m+fuel≤n→path f n (kas_asc p fuel m)
 |0,m,_,_=>trivial
 |fuel+1,m,h1,hm=>by
  refine⟨r.lt (by omega),r.lt (by omega),?_⟩;show path f n (if f (p.getD m 0) (p.getD (m-1) 0)=true then KasT.ret m else kas_asc p fuel (m+1))
  split
  ·exact trivial
  ·exact iW r fuel (m+1) (by omega) (by omega)
theorem jO(O:Ord f n){p:Array Nat}(r:Row n p):∀(fuel m:Nat),1≤m→m+fuel≤n→path f n (kas_desc fuel p m 0)
 |0,m,_,_=>trivial
 |fuel+1,m,h1,hm=>by
  refine⟨r.lt (by omega),r.lt (by omega),?_⟩;show path f n (if f (p.getD m 0) (p.getD (m-1) 0)=true then (if 0>0 then _ else kas_desc fuel p (m+1) 0)else KasT.ask (p.getD (m-1) 0) (p.getD m 0) λd=>if d=true then .ret (p,m,0)else kas_desc fuel p (m+1) (0+1))
  cases e:f (p.getD m 0) (p.getD (m-1) 0)with
  |true =>
   rw[if_pos rfl,if_neg (by omega)];exact jO O r fuel (m+1) (by omega) (by omega)
  |false =>
   rw[if_neg (by simp)];have e2:f (p.getD (m-1) 0) (p.getD m 0)=true:=by
    rcases O.tot _ _ (r.lt (i:=m) (by omega)) (r.lt (i:=m-1) (by omega)) (r.ne (by omega) (by omega) (by omega))with z|z
    ·rw[e]at z;cases z
    ·exact z
   refine⟨r.lt (by omega),r.lt (by omega),?_⟩;dsimp only;rw[e2,if_pos rfl];exact trivial
theorem nB(O:Ord f n){p:Array Nat}(r:Row n p)(h2:1≤n):path f n (kas_count n p):=by
 obtain⟨a1,a2,a3,a4⟩:=ky O r (n-1) 1 (by omega) (by omega) (by intro i j hij hj;omega);unfold kas_count;refine cU (iW r _ _ (by omega) (by omega)) ?_;generalize run f (kas_asc p (n-1) 1)=m at a1 a2 a3 a4⊢
 by_cases e:m=n
 ·rw[if_pos (by simp[e])];exact trivial
 ·rw[if_neg (by simpa using e)]
  by_cases e1:m>1
  ·rw[if_pos e1];refine⟨r.lt (by omega),r.lt (by omega),?_⟩;dsimp only;rw[a3 0 (m-1) (by omega) (by omega),if_pos rfl];exact trivial
  ·rw[if_neg e1];have em:m=1:=by omega
   subst em;have hd:=a4 (by omega);unfold kas_descPart;refine cU (jO O r _ _ (by omega) (by omega)) ?_;obtain⟨m',b1,b2,b3,b4⟩:=kA O r (n-(1+1)) (1+1) (by omega) (by omega) (by
    intro i j hij hj;have:i=0∧j=1:=by omega
    rw[this.1,this.2];exact hd)
   rw[b1];dsimp only;rw[if_neg (by omega)];unfold kas_tail3;exact cU (iW (r.rev 0 m') _ _ (by omega) (by omega)) trivial
theorem fH{p:Array Nat}(r:Row n p){k:Nat}(hk:k<n):∀(fuel l r':Nat),r'≤k→path f n (kas_place p k fuel l r')
 |0,l,r',_=>trivial
 |fuel+1,l,r',h=>by
  unfold kas_place
  by_cases e:l≥r'
  ·rw[if_pos e];exact trivial
  ·rw[if_neg e];refine⟨r.lt hk,r.lt (by omega),?_⟩;dsimp only
   split
   ·exact fH r hk fuel _ _ (by omega)
   ·exact fH r hk fuel _ _ h
theorem lP(O:Ord f n):∀(fuel:Nat)(p:Array Nat)(k:Nat),Row n p→k+fuel=n→Up f p k→path f n (kas_bin fuel p k)
 |0,p,k,r,hk,u=>trivial
 |fuel+1,p,k,r,hk,u=>by
  have hkn:k<n:=by omega
  show path f n ((kas_place p k k 0 k).bind λl=>kas_bin fuel (bubble p k (k-l)) (k+1));refine cU (fH r hkn _ _ _ (le_refl _)) ?_;obtain⟨a1,a2,a3⟩:=gu O r hkn u k 0 k (by omega) (by omega) (le_refl _) (λi hi=>by omega) (λi h1 h2=>by omega);generalize run f (kas_place p k k 0 k)=l at a1 a2 a3⊢;have hs:=r.size;refine lP O fuel _ (k+1) (r.bub _ _) (by omega) ?_;intro i j hij hj;rw[iy (by omega) a1 i,iy (by omega) a1 j]
  by_cases ei:i=l
  ·rw[if_pos ei,if_neg (by omega),if_pos ⟨by omega,by omega⟩];exact a3 (j-1) (by omega) (by omega)
  ·rw[if_neg ei]
   by_cases ej:j=l
   ·rw[if_pos ej,if_neg (by omega)];exact a2 i (by omega)
   ·rw[if_neg ej]
    by_cases hi2:l<i∧i≤k
    ·rw[if_pos hi2,if_pos ⟨by omega,by omega⟩];exact u _ _ (by omega) (by omega)
    ·rw[if_neg hi2]
     by_cases hj2:l<j∧j≤k
     ·rw[if_pos hj2]
      by_cases e3:i=j-1
      ·omega
      ·exact u i (j-1) (by omega) (by omega)
     ·rw[if_neg hj2];exact u i j hij (by omega)
theorem qt(O:Ord f n)(h:1≤n):path f n (kas_sort n):=by
 have r0:Row n (toArray (List.range n)):=⟨by simp⟩;obtain⟨m,p',e,h1,h2,r,u⟩:=lO O r0 h;unfold kas_sort;refine cU (nB O r0 h) ?_;rw[e];dsimp only
 by_cases hm:m<n
 ·rw[if_pos hm];have:max m 1=m:=by omega
  rw[this];exact lP O (n-m) p' m r (by omega) u
 ·rw[if_neg hm];exact trivial
theorem uM(O:Ord f n)(h:1≤n):Row n (run f (kas_sort n))∧Up f (run f (kas_sort n)) n:=by
 have r0:Row n (toArray (List.range n)):=⟨by simp⟩;obtain⟨m,p',e,h1,h2,r,u⟩:=lO O r0 h;unfold kas_sort;rw[dB,e];dsimp only
 by_cases hm:m<n
 ·rw[if_pos hm];have:max m 1=m:=by omega
  rw[this];exact rZ O (n-m) p' m r (by omega) u
 ·rw[if_neg hm];have:m=n:=by omega
  subst this;exact⟨r,u⟩
end
section
variable{prog:Program}{w:World}{A:Around}{E:Value→Shared→Prop}{s:Shared}
theorem uN{vs:List Value}(h:vs.length<2):((vs.toArray.zip vs.toArray).map (·.2)).toList=(toArray ((toArray (List.range vs.length)).toList.map λi=>vs.getD i Value.none)).toList:=by
 cases vs with
 |nil=>simp
 |cons v r =>
  cases r with
  |nil=>simp
  |cons u r=>exact absurd h (by simp)
theorem kD{f:Nat→Nat→Bool}{a:Addr}{vs:List Value}{n:Nat}{κ:SortKind}{P:PySem.Fin→Shared→Prop}(O:Ord f vs.length)(ho:s.heap.get? a=some (seqObj "list" vs.toArray n))(h64:vs.length<64)(hk:∀s':Shared,(∀b o,b≠a→s.heap.get? b=some o→s'.heap.get? b=some o)→∀Q:SortKind→Shared→Prop,2≤vs.length→Q κ s'→wpAny (model prog w) A (keyKind' vs.toArray) Q (λ_ _=>False) s')(hlt:∀s':Shared,(∀b o,b≠a→s.heap.get? b=some o→s'.heap.get? b=some o)→∀(i j:Nat) (C:Bool→Shared→Prop),i<vs.length→j<vs.length→C (f i j) s'→wpAny (model prog w) A (keyLt' κ (vs.getD i Value.none) (vs.getD j Value.none)) C (λ_ _=>False) s')(h:∀p:Array Nat,Row vs.length p→Up f p vs.length→P (.done (.ret .none)) {s with heap:=sortedHeap s.heap a vs (toArray (p.toList.map λi=>vs.getD i Value.none))}):
  wpAny (model prog w) A (Builtin.«list.sort» ⟨[.ref a],[]⟩) P E s:=by
 have ha:a<s.heap.objs.size:=lt_size ho;have s1:=SameBut.update s.heap a (Obj.mapSeq λ_=>(#[]:Array Value));obtain⟨e1,ho1⟩:∃e1,(s.heap.update a (Obj.mapSeq λ_=>(#[]:Array Value))).get? a=some (seqObj "list" #[] e1):=⟨_,get?_update_seq ho λ_=>#[]⟩;rw[list_sort_plain];refine wpAny_bind (listItems_at ho rfl ?_);refine wpAny_bind (listUpdate_at ho rfl ?_ (by rw[size_toArray,sizeLine_eq];omega) (zero_le _));refine wpAny_bind (seqEpoch_at ho1 rfl ?_);refine wpAny_bind (wpAny_newTuple ?_ (by show vs.length≤_;rw[sizeLine_eq];omega));refine wpAny_bind (wpAny_newList ?_ (zero_le _));refine wpAny_holding ?_;have ho6:(((s.heap.update a (Obj.mapSeq λ_=>(#[]:Array Value))).push (seqObj "tuple" vs.toArray 0)).push (seqObj "list" #[] 0)).get? a=some (seqObj "list" #[] e1):=get?_push_of_some _ (get?_push_of_some _ ho1);have keep:∀b o,b≠a→s.heap.get? b=some o→(((s.heap.update a (Obj.mapSeq λ_=>(#[]:Array Value))).push (seqObj "tuple" vs.toArray 0)).push (seqObj "list" #[] 0)).get? b=some o:=λb o hb e =>
  get?_push_of_some _ (get?_push_of_some _ ((s1.2 b hb).trans e))
 show wpAny (model prog w) A _ P E {s with heap:=((s.heap.update a (Obj.mapSeq λ_=>(#[]:Array Value))).push (seqObj "tuple" vs.toArray 0)).push (seqObj "list" #[] 0)}
 dsimp only
 by_cases hn2:vs.toArray.size<2
 ·rw[if_pos hn2,if_pos hn2];refine wpAny_bind (wpAny_pure ?_);rw[StateT.run_pure];refine wpAny_bind (wpAny_pure ?_);dsimp only;have hn2':vs.length<2:=by simpa using hn2
  have hr:Row vs.length (toArray (List.range vs.length)):=⟨by simp⟩;have hu:Up f (toArray (List.range vs.length)) vs.length:=λi j hij hj=>by omega
  have e2:(arrOf (SortSt.mk' general' (vs.toArray.zip vs.toArray) #[] 7 none)).map (·.2)=toArray ((toArray (List.range vs.length)).toList.map λi=>vs.getD i Value.none):=by
   show(vs.toArray.zip vs.toArray).map (·.2)=_;apply toList_inj.mp;exact uN hn2'
  refine wpAny_bind (seqEpoch_at ho6 rfl ?_);rw[e2];refine wpAny_bind (listUpdate_at ho6 rfl ?_ (zero_le _) (by rw[size_toArray,length_map,length_toList,hr.size,sizeLine_eq];omega));show wpAny _ _ (if (e1 != e1)=true then _ else _) _ _ _
  simp only[bne_self_eq_false,false_eq_true,if_false];exact wpAny_pure (h _ hr hu)
 ·have hn2':2≤vs.length:=by rw[size_toArray]at hn2;omega
  rw[if_neg hn2,if_neg hn2];refine wpAny_bind (wpAny_mono (hk {s with heap:=((s.heap.update a (Obj.mapSeq λ_=>(#[]:Array Value))).push (seqObj "tuple" vs.toArray 0)).push (seqObj "list" #[] 0)} keep (λk' s'=>k'=κ∧s'={s with heap:=((s.heap.update a (Obj.mapSeq λ_=>(#[]:Array Value))).push (seqObj "tuple" vs.toArray 0)).push (seqObj "list" #[] 0)}) hn2' ⟨rfl,rfl⟩) (λκ' s0 hes=>?_) λ_ _ x=>x.elim)
  obtain⟨ek,es⟩:=hes;subst ek es;obtain⟨hrow,hup⟩:=uM O (by omega:1≤vs.length);refine wpAny_bind (wpAny_mono (kat_run (Q:=λst' s'=>∃p:Array Nat,p.size=vs.length∧arrOf st'=p.map (kas_item (vs.toArray.zip vs.toArray))∧failedOf st'=none∧p=run f (kas_sort vs.length)∧s'={s with heap:=((s.heap.update a (Obj.mapSeq λ_=>(#[]:Array Value))).push (seqObj "tuple" vs.toArray 0)).push (seqObj "list" #[] 0)})
   rfl hn2' h64 (λp' st' s' a1 a2 a3 a4=>⟨p',a1,a2,a3,a4⟩) (oX (n:=vs.length) (λi j C hi hj hC=>hlt _ keep i j C hi hj hC) (λp s'=>p=run f (kas_sort vs.length)∧s'={s with heap:=((s.heap.update a (Obj.mapSeq λ_=>(#[]:Array Value))).push (seqObj "tuple" vs.toArray 0)).push (seqObj "list" #[] 0)}) _ (qt O (by omega)) ⟨rfl,rfl⟩)) ?_ λ_ _ e=>e)
  rintro⟨⟨⟩,st'⟩ s' ⟨p,hp,har,hf,ep,es⟩;subst es;dsimp only;have hout:=kat_snds (ks:=vs) rfl har;refine wpAny_bind (seqEpoch_at ho6 rfl ?_);rw[hout];refine wpAny_bind (listUpdate_at ho6 rfl ?_ (zero_le _) (by rw[size_toArray,length_map,length_toList,hp,sizeLine_eq];omega));rw[hf];simp only[bne_self_eq_false,false_eq_true,if_false];rw[ep];exact wpAny_pure (h _ hrow hup)
theorem lQ{l:Addr}{vs:List Value}{Q:List Value→Shared→Prop}(hl:IsTup s.heap l vs.toArray)(h:Q vs {s with heap:=(s.heap.push (seqObj "list" #[] 0)).update s.heap.objs.size (Obj.mapSeq (· ++ vs.toArray))})(hsz:vs.length≤sizeLine):
  wpAny (model prog w) A (collect (.ref l)) Q E s:=by
 obtain⟨o,ho,hc,n,hd⟩:=id hl;unfold collect;refine wpAny_bind (wpAny_runValue (codeAny_builtin entry_proto_collect' ?_));show wpAny _ _ (do again (.builtin "list.__iadd__" ⟨[←newList [],.ref l],[]⟩)) _ _ s
 refine wpAny_bind (wpAny_newList (wpAny_pure ⟨Code.quiet_builtin _ (by decide +kernel),codeAny_builtin entry_list_iadd' ?_⟩));show wpAny _ _ (Builtin.List.listExtendWith (.ref s.heap.objs.size) (.ref l) (.ref s.heap.objs.size)) _ _ {s with heap:=s.heap.push (seqObj "list" #[] 0)}
 unfold Builtin.List.listExtendWith;have ho':(s.heap.push (seqObj "list" #[] 0)).get? l=some o:=get?_push_of_some _ ho;refine wpAny_bind (wpAny_typeOf (T:="tuple") ⟨o,ho',hc⟩ ?_);have ht:(type "tuple"==type "tuple")=true:=by rfl
 rw[if_pos (by rw[ht];simp)];refine wpAny_bind (listItems_at ho' hd ?_);refine wpAny_bind (listItems_at (xs:=#[]) (n:=0) (get?_push_size _ rfl) rfl ?_);rw[if_neg (by simp)];refine wpAny_bind (listUpdate_at (xs:=#[]) (n:=0) (get?_push_size _ rfl) rfl ?_ (zero_le _) (by show(#[]++vs.toArray).size≤sizeLine+1;simp only[Array.size_append,size_toArray,length_nil];omega));refine wpAny_pure ?_;show wpAny (model prog w) A (do
   let o ← load s.heap.objs.size
   match o.data with
   |.seq xs _=>pure xs.toList
   | _=>unsupported "internal:collect") Q E {s with heap:=(s.heap.push (seqObj "list" #[] 0)).update s.heap.objs.size (Obj.mapSeq (· ++ vs.toArray))}
 refine wpAny_bind (wpAny_load (get?_update_seq (get?_push_size _ rfl) _) ?_);show wpAny _ _ (pure ((#[]:Array Value)++vs.toArray).toList) Q E _;rw[show((#[]:Array Value)++vs.toArray).toList=vs by simp];exact wpAny_pure h
theorem lR{l:Addr}{vs:List Value}{Q:List Value→Shared→Prop}(hl:s.heap.IsList l vs.toArray∨IsTup s.heap l vs.toArray)(h:Q vs {s with heap:=(s.heap.push (seqObj "list" #[] 0)).update s.heap.objs.size (Obj.mapSeq (· ++ vs.toArray))})(hsz:vs.length≤sizeLine):
  wpAny (model prog w) A (collect (.ref l)) Q E s:=by
 rcases hl with hl|hl
 ·exact collect_list hl h hsz
 ·exact lQ hl h hsz
theorem iX{f:Nat→Nat→Bool}{l:Addr}{vs:List Value}{κ:SortKind}{Q:Value→Shared→Prop}(O:Ord f vs.length)(hl:s.heap.IsList l vs.toArray∨IsTup s.heap l vs.toArray)(h64:vs.length<64)(hk:∀(A':Around) (s':Shared),A'.units≤A.units+2→(∀b o,s.heap.get? b=some o→s'.heap.get? b=some o)→∀Q:SortKind→Shared→Prop,2≤vs.length→Q κ s'→wpAny (model prog w) A' (keyKind' vs.toArray) Q (λ_ _=>False) s')(hlt:∀(A':Around) (s':Shared),A'.units≤A.units+2→(∀b o,s.heap.get? b=some o→s'.heap.get? b=some o)→∀(i j:Nat) (C:Bool→Shared→Prop),i<vs.length→j<vs.length→C (f i j) s'→wpAny (model prog w) A' (keyLt' κ (vs.getD i Value.none) (vs.getD j Value.none)) C (λ_ _=>False) s')(h:∀(p:Array Nat) (h':Heap),Row vs.length p→Up f p vs.length→(∀b o,s.heap.get? b=some o→h'.get? b=some o)→s.heap.objs.size≤s.heap.objs.size+1→(∃k,h'.get? (s.heap.objs.size+1)=some (seqObj "list" (toArray (p.toList.map λi=>vs.getD i Value.none)) k))→Q (.ref (s.heap.objs.size+1)) {s with heap:=h'}):
  wpAny (model prog w) A (call (.builtin "sorted") [.ref l]) Q E s:=by
 refine Calls.call_function_entry kind_sorted plain_sorted entry_sorted (args_sorted1 _) ?_;unfold Builtin.«sorted»;refine wpAny_bind (m:=checkCount "sorted" 1 1 _) (wpAny_pure ?_);refine wpAny_bind (lR hl ?_ (by rw[sizeLine_eq];omega));refine wpAny_bind (wpAny_newList ?_ (by rw[sizeLine_eq];omega));have hsz:((s.heap.push (seqObj "list" #[] 0)).update s.heap.objs.size (Obj.mapSeq (· ++ vs.toArray))).objs.size=s.heap.objs.size+1:=by
  rw[Heap.size_update,size_push']
 have hoL:(((s.heap.push (seqObj "list" #[] 0)).update s.heap.objs.size (Obj.mapSeq (· ++ vs.toArray))).push (seqObj "list" vs.toArray 0)).get? (s.heap.objs.size+1)=some (seqObj "list" vs.toArray 0):=by
  rw[←hsz];exact get?_push_size _ rfl
 have keep:∀b o,s.heap.get? b=some o→(((s.heap.push (seqObj "list" #[] 0)).update s.heap.objs.size (Obj.mapSeq (· ++ vs.toArray))).push (seqObj "list" vs.toArray 0)).get? b=some o:=λb o q=>by
  have hlt:b<s.heap.objs.size:=lt_size q;rw[Heap.get?_push_ne _ _ _ (by rw[hsz];exact ne_of_lt (lt_succ_of_lt hlt)),Heap.get?_update_ne _ _ _ _ (ne_of_lt hlt),Heap.get?_push_ne _ _ _ (ne_of_lt hlt)];exact q
 have neD:∀b o,s.heap.get? b=some o→b≠s.heap.objs.size+1:=λb o q=>ne_of_lt (lt_succ_of_lt (lt_size q));show wpAny _ _ _ _ _ {s with heap:=((s.heap.push (seqObj "list" #[] 0)).update s.heap.objs.size (Obj.mapSeq (· ++ vs.toArray))).push (seqObj "list" vs.toArray 0)}
 rw[hsz];refine wpAny_bind (wpAny_holding (wpAny_call_entry slot_list_sort ⟨_,hoL,rfl⟩ entry_list_sort (kD (κ:=κ) (s:={s with heap:=((s.heap.push (seqObj "list" #[] 0)).update s.heap.objs.size (Obj.mapSeq (· ++ vs.toArray))).push (seqObj "list" vs.toArray 0)}) O hoL h64 ?_ ?_ λp hr hu=>⟨_,rfl,?_⟩) (args_list_sort _)))
 ·intro s' hs' Q' h2 hq;exact hk _ s' (by simp[Around.in1_units]) (λb o e=>hs' b o (neD b o e) (keep b o e)) Q' h2 hq
 ·intro s' hs' i j C hi hj hC;exact hlt _ s' (by simp[Around.in1_units]) (λb o e=>hs' b o (neD b o e) (keep b o e)) i j C hi hj hC
 ·refine wpAny_pure ⟨_,rfl,h p _ hr hu (λb o e=>?_) (le_succ _) ?_⟩
  ·unfold sortedHeap;rw[Heap.get?_update_ne _ _ _ _ (neD b o e)];refine get?_push_of_some _ (get?_push_of_some _ ?_);rw[Heap.get?_update_ne _ _ _ _ (neD b o e)];exact keep b o e
  ·unfold sortedHeap;obtain⟨e1,ho1⟩:∃e1,((((s.heap.push (seqObj "list" #[] 0)).update s.heap.objs.size (Obj.mapSeq (· ++ vs.toArray))).push (seqObj "list" vs.toArray 0)).update (s.heap.objs.size+1) (Obj.mapSeq λ_=>(#[]:Array Value))).get? (s.heap.objs.size+1)=some (seqObj "list" #[] e1):=⟨_,get?_update_seq hoL λ_=>#[]⟩;exact⟨_,get?_update_seq (get?_push_of_some _ (get?_push_of_some _ ho1)) _⟩
theorem qu{f:Nat→Nat→Bool}{l:Addr}{vs:List Value}{κ:SortKind}{Q:Value→Shared→Prop}(O:Ord f vs.length)(hl:s.heap.IsList l vs.toArray)(h64:vs.length<64)(hk:∀(A':Around) (s':Shared),A'.units≤A.units+2→(∀b o,s.heap.get? b=some o→s'.heap.get? b=some o)→∀Q:SortKind→Shared→Prop,2≤vs.length→Q κ s'→wpAny (model prog w) A' (keyKind' vs.toArray) Q (λ_ _=>False) s')(hlt:∀(A':Around) (s':Shared),A'.units≤A.units+2→(∀b o,s.heap.get? b=some o→s'.heap.get? b=some o)→∀(i j:Nat) (C:Bool→Shared→Prop),i<vs.length→j<vs.length→C (f i j) s'→wpAny (model prog w) A' (keyLt' κ (vs.getD i Value.none) (vs.getD j Value.none)) C (λ_ _=>False) s')(h:∀(p:Array Nat) (h':Heap),Row vs.length p→Up f p vs.length→(∀b o,s.heap.get? b=some o→h'.get? b=some o)→s.heap.objs.size≤s.heap.objs.size+1→(∃k,h'.get? (s.heap.objs.size+1)=some (seqObj "list" (toArray (p.toList.map λi=>vs.getD i Value.none)) k))→Q (.ref (s.heap.objs.size+1)) {s with heap:=h'}):
  wpAny (model prog w) A (call (.builtin "sorted") [.ref l]) Q E s:=iX O (.inl hl) h64 hk hlt h
end
end SRT
namespace L2
open PySem PySem.Spec PyProof.Rows
section
variable{X:Cx}{tg:Expr}
theorem iz:∀{bs:List Bool}{us:List Value},ax (bs.map V.bl) us→us=bs.map Value.bool
 |[],_,.nil=>rfl
 |b::bs,_,.cons r t=>by
  have e:_=Value.bool b:=r;rw[e,iz t];rfl
theorem iY(hc:X.calm=true):bM X (.builtin "all") (λxs H Q=>∃a,∃bs:List Bool,xs=[.ref a]∧SqL X.K H a (bs.map V.bl)∧Q (.bl (bs.all id)) H):=by
 intro pins s σ H xs us Q I r h;obtain⟨a,bs,rfl,hq,q⟩:=h;obtain⟨u,rfl,ru⟩:=ci r;cases ru;obtain⟨its,rv,pl,hz⟩:=I.list hq;have e:=iz rv;subst e;refine call_all_walk (wpAny_pyIter_list pl.isList ?_);have hlt:a<s.heap.objs.size:=by obtain⟨o,e,_⟩:=pl.isList;exact lt_size e
 have hne:a≠s.heap.objs.size:=ne_of_lt hlt;refine⟨s.heap.objs.size,_,_,_,_,_,λi=>bs.getD i false,rfl,Walks.list (by simp[I.ok.hd hc]) s.heap.objs.size a hne (bs.map Value.bool).toArray,⟨⟨_,get?_push_size _ rfl,rfl,rfl⟩,pl.isList.push _⟩,?_,?_⟩
 ·intro i v s' Q' E' hP hQ;have hP':(bs.map Value.bool)[i]?=some v:=by simpa using hP
  rw[getElem?_map]at hP';cases eb:bs[i]? with
  |none=>rw[eb]at hP';cases hP'
  |some b =>
   rw[eb]at hP';have ev:Value.bool b=v:=Option.some.inj hP';subst ev;refine wpAny_truthy_bool ?_;have hQ':Q' (bs.getD i false) s':=hQ;rw[getD_eq_getElem?_getD,eb]at hQ';exact hQ'
 ·intro h' tk hk;refine⟨.bl (bs.all id),H,I.kept (t':=tk) (λb o e=>hk b o (by simp only[mem_singleton];exact ne_of_lt (lt_size e)) (get?_push_of_some _ e)),?_,q⟩;have e1:((List.range (bs.map Value.bool).toArray.size).all λi=>bs.getD i false)=bs.all id:=by
   rw[size_toArray,length_map];rw[Bool.eq_iff_iff,all_eq_true,all_eq_true];constructor
   ·intro hh x hx;obtain⟨i,hi,e⟩:=mem_iff_getElem.mp hx;have:=hh i (mem_range.mpr hi);rw[getD_eq_getElem?_getD,getElem?_eq_getElem hi,e]at this;exact this
   ·intro hh i hi;have hi':=mem_range.mp hi;rw[getD_eq_getElem?_getD,getElem?_eq_getElem hi'];exact hh _ (getElem_mem hi')
  show _=Value.bool _;rw[e1]
theorem dh:OpR X (compareOp .IsNot) (λx y H Q=>∃a b,x=.bl a∧y=.bl b∧Q (.bl (!decide (a=b))) H):=by
 intro pins s σ H x y v u Q I rx ry h;obtain⟨a,b,rfl,rfl,q⟩:=h;cases (show v=Value.bool a from rx);cases (show u=Value.bool b from ry);show wpAny _ _ (do let r ← isSame (.bool a) (.bool b);pure (Value.bool (!r))) _ _ s
 refine wpAny_bind (wpAny_isSame_plain (by rfl) (wpAny_pure ⟨.bl (!decide (a=b)),H,I,?_,q⟩));show _=Value.bool _;cases a<;>cases b<;>rfl
theorem cH:bM X (.builtin "isinstance") (λxs H Q=>∃x n t b,xs=[x,.ty n]∧TyOf X.K H x t∧kitOne X.K t (.type n)=some b∧Q (.bl b) H):=by
 intro pins s σ H xs us Q I r h;obtain⟨x,n,t,b,rfl,ty,e,q⟩:=h;obtain⟨u,u',rfl,ru,ru'⟩:=oG r;cases (show u'=type n from ru');exact qd I ru ty e λtk=>⟨.bl b,H,I.tok tk,rfl,q⟩
def Its(x:Str):It:=⟨λi _=>i<x.cps.size,λi H v H'=>H'=H∧∃c,x.cps[i]?=some c∧v=.str ⟨#[c]⟩,λi _=>x.cps.size≤i⟩
theorem se{P:Program}{w:World}{K:PySem.W.Frag}(x:Str)(t:Tok)(it:Addr):Turn P w K tg (Its x) [it] it (λi h=>h.IsStrIter it (strIterType x) x t i) where
 mem:=by simp
 obj:=λi h st b hb=>by
  have e:b=it:=by simpa using hb
  subst e;obtain⟨o,e,c,d⟩:=st;exact⟨o,e,λv z=>by rw[d]at z;cases z⟩
 keep:=λi h h' st k=>by
  obtain⟨o,e,r⟩:=st;exact⟨o,k it (by simp) o e,r⟩
 item:=by
  intro X hP hw hK hc i pins s σ H E I hf st hg;subst hP hw hK;obtain⟨f0,f1,f2,f3,f4,f5⟩:=hf it (by simp);have hg':i<x.cps.size:=hg;have fin:∀(h':Heap)(tk:Nat),h'.IsStrIter it (strIterType x) x t (i+1)→SameBut it s.heap h'→∃u',some (Value.str ⟨#[x.cps[i]]⟩ s.toks)=some u'∧wpAny (model X.prog X.w) X.A (letOwnedTupleGo tg (.ref it) u') (λ_ s2=>∃y H',Inv X pins σ H' s2∧aJ y u'∧(Its x).yld i H y H'∧s2.heap.IsStrIter it (strIterType x) x t (i+1)∧∀b∈[it],H' b=none) E {s with heap:=h',toks:=tk}:=λh' tk st' sb=>by
   have I1:Inv X pins σ H {s with heap:=h',toks:=tk}:=I.turned (t':=tk) (λb o hb e=>(sb.2 b hb).trans e) f0 f1 f3 f4 f5
   obtain⟨o,e,c,d⟩:=id st';refine⟨_,rfl,lu (s:={s with heap:=h',toks:=tk}) e c d ?_ ⟨.str ⟨#[x.cps[i]]⟩,H,I1,⟨_,rfl⟩,⟨rfl,x.cps[i],by simp[hg'],rfl⟩,st',λb hb=>(hf b hb).1⟩⟩;unfold strIterType
   split<;>decide
  cases ha:x.cps.all (· < 128)with
  |true =>
   have et:strIterType x="str_ascii_iterator":=by simp[strIterType,ha]
   rw[et]at st fin⊢;exact wpAny_pyNext_ascii_item st (c:=x.cps[i]) (by simp[hg']) λh' st' sb=>fin h' _ st' sb
  |false =>
   have et:strIterType x="str_iterator":=by simp[strIterType,ha]
   rw[et]at st fin⊢;exact wpAny_pyNext_wide_item st (c:=x.cps[i]) (by simp[hg']) λh' st' sb=>fin h' _ st' sb
 done:=by
  intro X hP hw hK hc i pins s σ H E I hf st hg;subst hP hw hK;obtain⟨f0,f1,f2,f3,f4,f5⟩:=hf it (by simp);have hg':x.cps.size≤i:=hg;cases ha:x.cps.all (· < 128)with
  |true =>
   have et:strIterType x="str_ascii_iterator":=by simp[strIterType,ha]
   rw[et]at st;exact wpAny_pyNext_ascii_end (I.ok.hd hc) st (by simp[hg']) λh' eb=>⟨rfl,I.turned (t':=s.toks) (λb o hb e=>eb b o hb e) f0 f1 f3 f4 f5⟩
  |false =>
   have et:strIterType x="str_iterator":=by simp[strIterType,ha]
   rw[et]at st;exact wpAny_pyNext_wide_end (I.ok.hd hc) st (by simp[hg']) λh' eb=>⟨rfl,I.turned (t':=s.toks) (λb o hb e=>eb b o hb e) f0 f1 f3 f4 f5⟩
 self:=λA i s Q E st h=>by
  cases ha:x.cps.all (· < 128)with
  |true =>
   have et:strIterType x="str_ascii_iterator":=by simp[strIterType,ha]
   rw[et]at st;exact wpAny_pyIter_striter_ascii st h
  |false =>
   have et:strIterType x="str_iterator":=by simp[strIterType,ha]
   rw[et]at st;exact wpAny_pyIter_striter_wide st h
def zK(tl:TE):TI:=λσ H R=>tl σ H λv H1=>∃x,v=.str x∧R (Its x) H1
theorem wX{l:Expr}{tl:TE}(hl:PE X l tl):PI X tg l (zK tl):=by
 intro pins s σ H R I h;refine thn (hl pins s σ H _ I h) λv s1 hpt=>?_;obtain⟨y,H1,I1,r1,q1⟩:=hpt;obtain⟨x,e,q⟩:=q1;subst e;obtain⟨t,rfl⟩:=r1;refine wpAny_pyIter_strU ?_;refine⟨s1.heap.objs.size,[s1.heap.objs.size],_,_,H1,rfl,I1.kept (t':=s1.toks) λb o e=>get?_push_of_some _ e,se x t _,⟨_,get?_push_size _ rfl,rfl,rfl⟩,λb hb=>?_,q⟩;have e:b=s1.heap.objs.size:=by simpa using hb
 subst e;exact I1.fpOk (le_refl _) (I1.hok.fresh (le_refl _))
theorem nC{pins:List (Addr×Obj)}{σ:St}{H:Hp}{s:Shared}{a:Addr}{ks:List Key}(I:Inv X pins σ H s)(h:H a=some (.tup (ks.map kV)))(P:Program)(w:World):IsTupleKey (aE P w) s.heap ks a:=by
 obtain⟨_,its,r,o,e,c,n,d⟩:=I.hok a _ h;exact⟨o,its.toArray,n,e,c,d,by simpa using gW r⟩
theorem dC:∀{as:List Addr}{us:List Value},ax (as.map V.ref) us→us=as.map Value.ref
 |[],_,.nil=>rfl
 |b::bs,_,.cons r t=>by
  have e:_=Value.ref b:=r;rw[e,dC t];rfl
theorem ju(hu:X.A.units+1<cLine):OpR X (compareOp .NotIn) (λx y H Q=>∃a p ks,∃kss:List (Addr×List Key),x=.ref a∧H a=some (.tup (ks.map kV))∧y=.ref p∧SqL X.K H p ((kss.map (·.1)).map V.ref) ∧
  (∀z∈kss,H z.1=some (.tup (z.2.map kV)))∧Q (.bl (!(kss.any λz=>decide (z.2=ks)))) H):=by
 intro pins s σ H x y v u Q I rx ry h;obtain⟨a,p,ks,kss,rfl,ha,rfl,hq,hk,q⟩:=h;cases rx;cases ry;obtain⟨its,rv,pl,hz⟩:=I.list hq;have e:=dC rv;subst e
 let e:Value→Bool:=λv=>match v with | .ref b=>((kss.find? λz=>z.1==b).map λz=>decide (z.2=ks)).getD false | _=>false
 have he:∀z∈kss,e (.ref z.1)=decide (z.2=ks):=λz hz'=>by
  show((kss.find? λy=>y.1==z.1).map λz=>decide (z.2=ks)).getD false=_;cases ef:kss.find? λy=>y.1==z.1 with
  |none=>have:=List.find?_eq_none.mp ef z hz';simp at this
  |some y =>
   have h1:=List.find?_some ef;have h2:=List.mem_of_find?_eq_some ef;have e1:y.1=z.1:=by simpa using h1
   have e2:=hk y h2;rw[e1,hk z hz']at e2;have e3:z.2.map kV=y.2.map kV:=by injection (Option.some.inj e2)
   rw[oN e3];rfl
 refine SeqAt.notIn_listAt e pl.isList (λy hy=>?_) ⟨.bl _,H,I,rfl,?_⟩
 ·have hy':y∈(kss.map (·.1)).map Value.ref:=by simpa using hy
  obtain⟨b,hb,rfl⟩:=mem_map.mp hy';obtain⟨z,hz',rfl⟩:=mem_map.mp hb;rw[he z hz'];intro prog w E' Q' hQ;exact wpAny_eqBool_tuple (knd:=aE prog w) (by simp;exact hu) (nC I (hk z hz') prog w) (nC I ha prog w) hQ
 ·have e1:(((kss.map (·.1)).map Value.ref).toArray.any e)=kss.any λz=>decide (z.2=ks):=by
   rw[List.any_toArray,any_map,any_map];apply Bool.eq_iff_iff.mpr;rw[any_eq_true,any_eq_true];constructor
   ·rintro⟨z,hz',h1⟩;exact⟨z,hz',by rw[←he z hz'];exact h1⟩
   ·rintro⟨z,hz',h1⟩;exact⟨z,hz',by show e (.ref z.1)=true;rw[he z hz'];exact h1⟩
  rw[e1];exact q
def kE(a:Addr)(n:Nat)(h:Heap):Prop:=∃o es ep t,h.get? a=some o∧o.ExactSet∧o.data=.set es ep t∧t.fits es.size=true∧es.size=n
theorem sf(P:Program)(w:World):∀k v,(aE P w).is k v=true→v.scannable=true:=λk v h=>by
 rcases aX h with⟨i,t,_,rfl⟩|⟨x,t,_,rfl⟩<;>rfl
theorem jv(hc:X.calm=true)(hu:X.A.units+4<cLine):bM X (.type "set") (λxs H Q=>∃p,∃kss:List (Addr×List Key),xs=[.ref p]∧SqL X.K H p ((kss.map (·.1)).map V.ref)∧(∀z∈kss,H z.1=some (.tup (z.2.map kV)))∧kss.length≤60 ∧
  ∀n,n≤kss.length→(n=kss.length↔(kss.map (·.2)).Nodup)→∀q,H q=none→Q (.ref q) (upd H q (.ext (kE q n)))):=by
 intro pins s σ H xs us Q I r h;obtain⟨p,kss,rfl,hq,hk,hl,q⟩:=h;obtain⟨u,rfl,ru⟩:=ci r;cases ru;obtain⟨its,rv,pl,hz⟩:=I.list hq;have e:=dC rv;subst e;have hsz:(((kss.map (·.1)).map Value.ref).toArray).size=kss.length:=by simp
 have hget:∀i,i<kss.length→kss.getD i (0,[])∈kss:=λi hi=>by
  rw[getD_eq_getElem?_getD,getElem?_eq_getElem hi];exact getElem_mem hi
 refine TB.il (knd:=aE X.prog X.w) (key:=λi=>(kss.getD i (0,[])).2) (ad:=λi=>(kss.getD i (0,[])).1) (I.ok.hd hc) hu (sf _ _) pl.isList (λi v hv=>?_) (λi hi=>?_) (by rw[hsz];exact hl) λh' tk zs hS hzl hm hkeep=>?_
 ·have hv':((kss.map (·.1)).map Value.ref)[i]?=some v:=by simpa using hv
  rw[getElem?_map,getElem?_map]at hv';rw[getD_eq_getElem?_getD];cases ei:kss[i]? with
  |none=>rw[ei]at hv';cases hv'
  |some z=>rw[ei]at hv';exact(Option.some.inj hv').symm
 ·exact nC I (hk _ (hget i (by omega))) _ _
 ·rw[hsz]at hm hzl;have hcount:zs.length=kss.length↔(kss.map (·.2)).Nodup:=by
   have:=TB.lM (z:=zs.map (·.2.2)) (l:=kss.map (·.2)) hS.nd λk'=>by
    rw[hm k'];constructor
    ·rintro⟨j,hj,e⟩;rw[←e];exact mem_map.mpr ⟨_,hget j hj,rfl⟩
    ·intro h1;obtain⟨z,hz',e⟩:=mem_map.mp h1;obtain⟨j,hj,e2⟩:=mem_iff_getElem.mp hz';exact⟨j,hj,by rw[getD_eq_getElem?_getD,getElem?_eq_getElem hj,e2];exact e⟩
   rw[length_map,length_map]at this;exact this
  obtain⟨⟨o,es,ep,t,ho,hex,hd,hes,T,hmask,hfull,hpath⟩,_,_⟩:=hS;have hlen:es.size=zs.length:=by rw[←length_toList,hes,length_map]
  have hf:t.fits es.size=true:=TB.kx T (by rw[length_map,hlen]) (by rw[hlen];omega);refine⟨.ref s.heap.objs.size,_,I.laid (t':=tk) (o:=.ext (kE s.heap.objs.size zs.length)) (λb o e=>hkeep b o (lt_size e) e) (le_refl _) ⟨⟨o,es,ep,t,ho,hex,hd,hf,hlen⟩,⟨o,ho⟩,?_⟩,rfl,q zs.length hzl hcount _ (I.hok.fresh (le_refl _))⟩;rintro h1 h2 ⟨o,es,ep,t,a1,a2⟩ hh;exact⟨o,es,ep,t,hh o a1,a2⟩
theorem lS:bM X (.builtin "len") (λxs H Q=>∃p n,xs=[.ref p]∧H p=some (.ext (kE p n))∧n≤60∧Q (.int n) H):=by
 intro pins s σ H xs us Q I r h;obtain⟨p,n,rfl,hp,hn,q⟩:=h;obtain⟨u,rfl,ru⟩:=ci r;cases ru;obtain⟨⟨o,es,ep,t,ho,hex,hd,hf,hlen⟩,_,_⟩:=I.hok p _ hp;refine call_len_set ho hex hd hf (by rw[hlen];omega) ⟨.int n,H,I.tok _,?_,q⟩;rw[hlen];exact⟨_,rfl⟩
def uO:V→List V→Hp→VK→Prop:=λx vs H Q=>∃d kvs k y,x=.ref d∧vs=[kV k,y]∧H d=some (.dK kvs)∧kvs.length<sizeLine∧(∀v,bc kvs k=some v→Q v H)∧(bc kvs k=none→Q y (upd H d (.dK (bQ kvs k y))))
theorem jw:MtM X "dict.setdefault" uO:=by
 intro pins s σ H x vs v us Q I rx rv h;obtain⟨d,kvs,k,y,rfl,rfl,hd,hz,q1,q2⟩:=h;cases rx;obtain⟨u,u',rfl,ru,ru'⟩:=rv.two;obtain⟨z,hs,ws,rel,dd⟩:=lz I.hok hd;have hzw:ws.length≤sizeLine:=by rw[←rel.length];exact z
 refine call_meetsIn F.slot_dict_setdefault dd.typeIs F.entry_dict_setdefault (F.args_dict_setdefault_3 _ _ _) (kt_meets_setdefault (aE X.prog X.w) d (fg ru) hs u') ⟨ws,dd,hzw,λw' hw=>?_,λhw h' dd' sb=>?_⟩
 ·have:=rel.val k;rw[hw]at this;cases e:bc kvs k with
  |none=>rw[e]at this;cases this
  |some v =>
   rw[e]at this;exact⟨v,H,I.tok _,this,q1 v e⟩
 ·have:=rel.val k;rw[hw]at this;cases e:bc kvs k with
  |some v=>rw[e]at this;cases this
  |none =>
   have he:∃q,h'.get? d=some q:=let⟨q,_,_,hq,_⟩:=dd';⟨q,hq⟩;have hl:(bQ kvs k y).length≤sizeLine:=by have:=cr kvs k y;omega
   exact⟨y,_,gm I (by rw[hd];exact True.intro) sb he (iN hl hs (rel.put k ru') dd'),ru',q2 e⟩
theorem jP:bM X (.type "range") (λxs H Q=>∃i j,xs=[.int i,.int j]∧∀p,H p=none→Q (.ref p) (upd H p (.rng i j))):=by
 intro pins s σ H xs us Q I r h;obtain⟨i,j,rfl,q⟩:=h;obtain⟨u,u',rfl,⟨t,rfl⟩,⟨t',rfl⟩⟩:=oG r;refine call_range_2 ⟨.ref s.heap.objs.size,_,I.laid (t':=s.toks+1) (o:=.rng i j) (λb ob q=>get?_push_of_some _ q) (le_refl _) ?_,rfl,q _ (I.hok.fresh (le_refl _))⟩;exact⟨t,t',_,get?_push_size _ rfl⟩
theorem nD{lo:Int}{n:Nat}{acc:Array Value}(h:ItemsOf (λi v=>∃t,v=.int (lo+i*1) t) acc n):ax ((List.range n).map λk=>V.int (lo+(k:Nat))) acc.toList:=by
 obtain⟨h1,h2⟩:=h;have key:∀(l:List Value)(k:Nat),(∀(i:Nat)(v:Value),l[i]?=some v→∃t,v=Value.int (lo+(k+i:Nat)) t)→ax ((List.range' k l.length).map λk=>V.int (lo+(k:Nat))) l:=by
  intro l
  induction l with
  |nil=>intro k _;exact .nil
  |cons v l ih =>
   intro k hv;rw[length_cons,List.range'_succ,map_cons];refine .cons ?_ (ih (k+1) λi w hw=>?_)
   ·obtain⟨t,e⟩:=hv 0 v rfl;exact⟨t,e⟩
   ·obtain⟨t,e⟩:=hv (i+1) w hw;exact⟨t,by rw[e,show k+(i+1)=k+1+i by omega]⟩
 have hl:acc.toList.length=n:=by simpa using h1
 have:=key acc.toList 0 λi v hv=>by
  have hv':acc[i]?=some v:=by simpa using hv
  obtain⟨t,e⟩:=h2 i v hv';exact⟨t,by rw[e,Int.mul_one,zero_add]⟩
 rw[hl]at this;rw[List.range_eq_range'];exact this
theorem fq(hc:X.calm=true):bM X (.type "list") (λxs H Q=>∃p i j,xs=[.ref p]∧H p=some (.rng i j)∧(-(2 ^ 62)≤i∧i<2 ^ 62∧-(2 ^ 62)≤j∧j<2 ^ 62)∧(j-i).toNat≤1000 ∧
  ∀l,H l=none→Q (.ref l) (upd H l (.lst ((List.range (j-i).toNat).map λk=>V.int (i+(k:Nat)))))):=by
 intro pins s σ H xs us Q I r h;obtain⟨p,i,j,rfl,hp,⟨b1,b2,b3,b4⟩,hn,q⟩:=h;obtain⟨u,rfl,rx⟩:=ci r;cases rx;obtain⟨t,t',t'',e⟩:=(show bd X.prog X.w H s.heap p (.rng i j)from I.hok p _ hp);have hsz:Builtin.Range.rangeSize i j 1=((j-i).toNat:Nat):=by rw[rangeSize_one];split<;>omega
 refine call_list_range (n:=(j-i).toNat) (I.ok.hd hc) e (small_one b1 b2 b3 b4) hsz (by omega) λh' tk acc c' kp hg hi=>?_;refine⟨.ref s.heap.objs.size,_,I.laid (t':=tk) kp (le_refl _) (show bd X.prog X.w _ h' _ (.lst _)from⟨?_,acc.toList,c',nD hi,by simpa using hg⟩),rfl,q _ (I.hok.fresh (le_refl _))⟩
 rw[length_map,length_range,sizeLine_eq];omega
theorem lT:OpR X (binaryOp .Add) (λx y H Q=>∃a b ys,x=.ref a∧y=.ref b∧SqT X.K H a []∧SqT X.K H b ys∧Q (.ref b) H):=by
 intro pins s σ H x y v u Q I rx ry h;obtain⟨a,b,ys,rfl,rfl,ha,hb,q⟩:=h;cases rx;cases ry;obtain⟨its,r1,ht,_⟩:=I.tuple ha;obtain⟨its2,r2,hb',_⟩:=I.tuple hb;cases r1;obtain⟨⟨cls,dd,data,sl⟩,ho,hc,n,hd⟩:=id ht;obtain⟨⟨cls2,dd2,data2,sl2⟩,ho2,hc2,n2,hd2⟩:=id hb';simp only at hc hd hc2 hd2;subst hc hd hc2 hd2;exact concat_meets ⟨_,ho,rfl⟩ ⟨_,ho2,rfl⟩ noFill_tuple_add seq_tuple_add slot_tuple_add entry_tuple_add (args_tuple_add_2 _ _)
  (tuple_addW0 a b _ its2.toArray n n2 dd dd2 sl sl2 (by rfl)) ⟨ho,ho2,⟨.ref b,H,I,rfl,q⟩⟩
theorem gv{prog:Program}{w:World}{A:Around}{E:Value→Shared→Prop}{s:Shared}{t sl:Addr}{items:Array Value}{vl vu:Value}{lo hi:Option Int}{Q:Value→Shared→Prop}(ht:IsTup s.heap t items)(hs:s.heap.IsSliceOf sl vl vu .none)(pl:IsPart vl lo)(pu:IsPart vu hi)(hw:HT.sIx items.size 0 lo=0∧HT.sIx items.size items.size hi=items.size)(h:Q (.ref t) s):wpAny (model prog w) A (getItem (.ref t) (.ref sl)) Q E s:=by
 obtain⟨os,hos,hcs,hds⟩:=id hs;have hTs:s.TypeIs (.ref sl) "slice":=⟨os,hos,hcs⟩;unfold getItem
 try with_reducible refine wpAny_holding ?_
 first|refine wpAny_bind (wpAny_pure ?_)|skip
 refine wpAny_bind (wpAny_sequenceKey ht.typeIs (by decide) ?_);refine wpAny_bind (wpAny_callSpecial?_slot (name:=ofString "__getitem__") ht.typeIs PyProof.Rows.slot_tuple_getitem
  (wpAny_call_entry PyProof.Rows.slot_tuple_getitem ht.typeIs entry_tuple_getitem ?_ (args_tuple_getitem _ _)))
 show wpAny _ _ (Builtin.Tuple.tupleItemsOf (.ref t) >>= _) _ _ s;refine wpAny_bind (tupleItemsOf_ ht ?_);refine wpAny_bind (wpAny_typeOf hTs ?_);rw[if_pos (by decide)];refine wpAny_bind (HT.dA hs pl pu ?_);have hyes:((((HT.sIx items.size 0 lo:Nat):Int)==0&&(1:Int)==1&&(HT.sIx items.size items.size hi-HT.sIx items.size 0 lo)==items.size)=true):=by
  rw[hw.1,hw.2];simp
 show wpAny _ _ (if (((HT.sIx items.size 0 lo:Nat):Int)==0&&(1:Int)==1&&(HT.sIx items.size items.size hi-HT.sIx items.size 0 lo)==items.size)=true then _ else _) _ _ s
 rw[if_pos hyes];refine wpAny_bind ?_;unfold Builtin.Tuple.tupleIsExact;refine wpAny_bind (wpAny_typeOf ht.typeIs (wpAny_pure ?_));rw[if_pos (by decide)];exact wpAny_bind (wpAny_rule (wpAny_pure ⟨_,rfl,wpAny_pure h⟩))
theorem dQ:SlR X (λx lo hi H Q=>∃a xs,x=.ref a∧SqT X.K H a xs∧HT.sIx xs.length 0 lo=0∧HT.sIx xs.length xs.length hi=xs.length∧Q (.ref a) H):=by
 intro pins s σ H x v vl vu lo hi sl Q I rx hs pl pu h;obtain⟨a,xs,rfl,hx,h1,h2,q⟩:=h;cases rx;obtain⟨its,r,ht,hz⟩:=I.tuple hx;have hlen:its.toArray.size=xs.length:=by rw[size_toArray];exact r.length.symm
 exact⟨"tuple",_,PyProof.Rows.slot_tuple_getitem.lookup,ht.typeIs,gv ht hs pl pu (by rw[hlen];exact⟨h1,h2⟩) ⟨.ref a,H,I,rfl,q⟩⟩
theorem nE(hu:X.A.units<cLine):OpR X (compareOp .Eq) (λx y H Q=>∃a b xs,x=.ref a∧y=.ref b∧SqL X.K H a xs∧SqL X.K H b []∧Q (.bl (decide (xs=[]))) H):=by
 intro pins s σ H x y v u Q I rx ry h;obtain⟨a,b,xs,rfl,rfl,ha,hb,q⟩:=h;cases rx;cases ry;obtain⟨its,r1,ht,_⟩:=I.list ha;obtain⟨its2,r2,hb',_⟩:=I.list hb;cases r2
 by_cases e:xs=[]
 ·subst e;cases r1;refine eq_listAt (e:=λ_=>true) ht.isList hb'.isList rfl hu (λj h1 h2=>absurd h2 (by simp)) ⟨.bl _,H,I,?_,q⟩;rfl
 ·have e2:its≠[]:=λz=>e (r1.nil_iff.mp z);have e3:its.length≠0:=λz=>e2 (length_eq_zero_iff.mp z);refine SeqAt.eq_list_lengthsAt ht.isList hb'.isList (by simp[e3]) hu ⟨.bl _,H,I,?_,q⟩;show _=Value.bool _;simp[e]
end
end L2
namespace ZT
open PySem PySem.SeqAt
section
variable{prog:Program}{w:World}{A:Around}{E:Value→Shared→Prop}{s:Shared}
theorem fJ{it t:Addr}{i:Nat}{items:Array Value}{x:Value}{Q:Value→Shared→Prop}(hi:s.heap.IsTupleIter it t i)(ht:s.heap.IsTuple t items)(hx:items[i]?=some x)(q:∀g,g.IsTupleIter it t (i+1)→SameBut it s.heap g→Q x {s with heap:=g}):wpAny (model prog w) A (Builtin.SmallTypes.nextOf (.ref it)) Q E s:=by
 obtain⟨oi,e1,e2,e3⟩:=id hi;obtain⟨ot,e4,_,k,e5⟩:=ht;unfold Builtin.SmallTypes.nextOf;refine wpAny_bind (wpAny_callSpecial?_slot (name:=ofString "__next__") hi.typeIs F.slot_tuple_iterator_next (wpAny_call_entry F.slot_tuple_iterator_next hi.typeIs F.entry_tuple_iterator_next ?body (F.args_tuple_iterator_next_1 _)))
 case body =>
  refine wpAny_bind (m:=field (.ref it) 0) (wpAny_field e1 e3 (x:=.ref t) rfl ?_);rw[if_neg (show ¬((Value.ref t==Value.none)=true)by simp)];refine wpAny_bind (m:=field (.ref it) 1) (wpAny_field e1 e3 (x:=.int i 0) rfl ?_);refine wpAny_bind (m:=seqItems? (.ref t)) (wpAny_seqItems e4 e5 ?_);simp only[toNat_natCast,hx];have up:(Obj.mapFields (·.setIfInBounds 1 (rawInt ((i:Int)+1))) oi).data=.fields #[.ref t,.int ((i+1:Nat):Int) 0]:=by rw[Obj.data_mapFields e3];simp[rawInt]
  exact wpAny_bind (wpAny_setField e1 e3 (by simp) (wpAny_pure ⟨x,rfl,wpAny_pure (q _ ⟨_,Heap.get?_update_self _ e1 (Obj.isFreed_of_fields (Obj.data_mapFields e3 _)),(Obj.cls_mapFields ..).trans e2,up⟩ (SameBut.update ..))⟩))
theorem jQ{it t:Addr}{i:Nat}{items:Array Value}{Q:Value→Shared→Prop}(hh:A.handled=none)(hi:s.heap.IsTupleIter it t i)(ht:s.heap.IsTuple t items)(hx:items[i]?=none)(q:∀g e,ExtBut it s.heap g→(∃o,g.get? e=some o∧o.cls=.type "StopIteration")→E (.ref e) {s with heap:=g}):wpAny (model prog w) A (Builtin.SmallTypes.nextOf (.ref it)) Q E s:=by
 obtain⟨oi,e1,e2,e3⟩:=id hi;obtain⟨ot,e4,_,k,e5⟩:=ht;unfold Builtin.SmallTypes.nextOf;refine wpAny_bind (wpAny_callSpecial?_slot (name:=ofString "__next__") hi.typeIs F.slot_tuple_iterator_next (wpAny_call_entry F.slot_tuple_iterator_next hi.typeIs F.entry_tuple_iterator_next ?body (F.args_tuple_iterator_next_1 _)))
 case body =>
  refine wpAny_bind (m:=field (.ref it) 0) (wpAny_field e1 e3 (x:=.ref t) rfl ?_);rw[if_neg (show ¬((Value.ref t==Value.none)=true)by simp)];refine wpAny_bind (m:=field (.ref it) 1) (wpAny_field e1 e3 (x:=.int i 0) rfl ?_);refine wpAny_bind (m:=seqItems? (.ref t)) (wpAny_seqItems e4 e5 ?_);simp only[toNat_natCast,hx];refine wpAny_bind (wpAny_rule (wpAny_bind (wpAny_setField e1 e3 (by simp) ?_)));refine wpAny_bind (m:=newExc (.type "StopIteration") []) ?_;unfold newExc newTuple;refine wpAny_bind (wpAny_newObj_type (hd:=by size_fits) ?_);refine wpAny_bind (m:=firstArgMember _ _) (wpAny_of_eq (a:=Value.none) (by first|rfl|(unfold firstArgMember;rfl)) (wpAny_newObj_type (hd:=by size_fits) ?_))
  unfold raiseNew;refine wpAny_bind (wpAny_handled ?_)
  first|rw[show A.in1.handled=none from hh]|rw[hh]
  exact wpAny_bind (wpAny_pure (wpAny_throw (q _ _ (((SameBut.update ..).extBut.push _).push _) ⟨_,get?_push_size _ rfl,rfl⟩)))
structure Rec(h:Heap)(z a b i1 i2 t1 t2:Addr)(out:Value)(k:Nat):Prop where
 zz:IsZip h z a b out
 ti:IsPair h a (.ref i1) (.ref i2)
 to:∃u v,IsPair h b u v
 n1:h.IsTupleIter i1 t1 k
 n2:h.IsTupleIter i2 t2 k
structure Apart(z a b i1 i2 t1 t2:Nat):Prop where
 az:a≠z
 bz:b≠z
 z1:i1≠z
 z2:i2≠z
 ab:a≠b
 a1:a≠i1
 a2:a≠i2
 b1:b≠i1
 b2:b≠i2
 d12:i1≠i2
 tz:t1≠z∧t2≠z
 tb:t1≠b∧t2≠b
 t1n:t1≠i1∧t2≠i1
 t2n:t1≠i2∧t2≠i2
theorem sg(n t1 t2:Nat)(h1:t1<n)(h2:t2<n):Apart (n+4) (n+2) (n+3) n (n+1) t1 t2 :=
 ⟨by omega,by omega,by omega,by omega,by omega,by omega,by omega,by omega,by omega,by omega,⟨by omega,by omega⟩,⟨by omega,by omega⟩,⟨by omega,by omega⟩,⟨by omega,by omega⟩⟩
theorem qv{z a b i1 i2 t1 t2:Addr}{k:Nat}{xs ys:Array Value}{x y:Value}{Q:Value→Shared→Prop}(D:Apart z a b i1 i2 t1 t2)(R:Rec s.heap z a b i1 i2 t1 t2 .none k)(h1:s.heap.IsTuple t1 xs)(h2:s.heap.IsTuple t2 ys)(hx:xs[k]?=some x)(hy:ys[k]?=some y)(q:∀g,Rec g z a b i1 i2 t1 t2 (rawInt s.heap.objs.size) (k+1)→IsPair g s.heap.objs.size x y→(∀c o,c≠z→c≠b→c≠i1→c≠i2→s.heap.get? c=some o→g.get? c=some o)→Q (.ref s.heap.objs.size) {s with heap:=g}):
  wpAny (model prog w) A (Builtin.«zip.__next__» ⟨[.ref z],[]⟩) (λfin s'=>∃v,fin=.done (.ret v)∧Q v s') E s:=by
 obtain⟨hz,hti,⟨u,v,hto⟩,n1,n2⟩:=R;refine wpAny_bind (m:=field (.ref z) 2) (wpAny_field hz rfl (x:=.bool false) rfl ?_);refine wpAny_bind (m:=field (.ref z) 3) (wpAny_field hz rfl (x:=.ref a) rfl ?_);refine wpAny_bind (m:=seqItems? (.ref a)) (wpAny_seqItems hti rfl ?_);refine wpAny_bind (m:=Builtin.SmallTypes.ownedTupleIsFree (.ref z)) ?_;unfold Builtin.SmallTypes.ownedTupleIsFree;refine wpAny_bind (wpAny_field hz rfl (x:=.none) rfl (wpAny_pure ?_));simp only[if_true];refine wpAny_bind (wpAny_rule (wpAny_bind (wpAny_field hz rfl (x:=.ref b) rfl (wpAny_bind (wpAny_setField_rec hz (by simp) λg1 z1 s1=>?_)))));have z1':IsZip g1 z a b .ellipsis:=z1;refine wpAny_bind ?_;simp only[List.zipIdx_cons,List.zipIdx_nil,forIn_cons,forIn_nil];refine wpAny_bind (wpAny_bind (wpAny_onRaise (wpAny_bind (m:=Builtin.SmallTypes.nextOf (.ref i1)) (fJ (n1.extBut s1.extBut D.z1) (h1.extBut s1.extBut D.tz.1) hx λg2 m1 s2=>wpAny_pure ?_))));have to2:IsPair g2 b u v:=s2.extBut _ _ D.b1 (s1.extBut _ _ D.bz hto);refine wpAny_bind (wpAny_seqItems to2 rfl (wpAny_bind (wpAny_updateSeq_pair to2 λg3 to3 s3=>wpAny_bind (wpAny_letGo (wpAny_pure ?_)))));have to3':IsPair g3 b x v:=to3;refine wpAny_bind (wpAny_bind (wpAny_onRaise (wpAny_bind (m:=Builtin.SmallTypes.nextOf (.ref i2)) (fJ (((n2.extBut s1.extBut D.z2).extBut s2.extBut D.d12.symm).extBut s3.extBut D.b2.symm)
  (((h2.extBut s1.extBut D.tz.2).extBut s2.extBut D.t1n.2).extBut s3.extBut D.tb.2) hy λg4 m2 s4=>wpAny_pure ?_))))
 have to4:IsPair g4 b x v:=s4.extBut _ _ D.b2 to3';refine wpAny_bind (wpAny_seqItems to4 rfl (wpAny_bind (wpAny_updateSeq_pair to4 λg5 to5 s5=>wpAny_bind (wpAny_letGo (wpAny_pure (wpAny_pure ?_))))));have to5':IsPair g5 b x y:=to5;refine wpAny_bind (wpAny_seqItems to5' rfl (wpAny_bind (wpAny_newTuple ?_)));have size5:g5.objs.size=s.heap.objs.size:=by rw[s5.1,s4.1,s3.1,s2.1,s1.1]
 have keep5:∀c o,c≠z→c≠b→c≠i1→c≠i2→s.heap.get? c=some o→g5.get? c=some o:=λc o c1 c2 c3 c4 e=>s5.extBut _ _ c2 (s4.extBut _ _ c4 (s3.extBut _ _ c2 (s2.extBut _ _ c3 (s1.extBut _ _ c1 e))));have z5:IsZip g5 z a b .ellipsis:=s5.extBut _ _ D.bz.symm (s4.extBut _ _ D.z2.symm (s3.extBut _ _ D.bz.symm (s2.extBut _ _ D.z1.symm z1')));have m15:g5.IsTupleIter i1 t1 (k+1):=((m1.extBut s3.extBut D.b1.symm).extBut s4.extBut D.d12).extBut s5.extBut D.b1.symm;have m25:g5.IsTupleIter i2 t2 (k+1):=m2.extBut s5.extBut D.b2.symm;have ti5:IsPair g5 a (.ref i1) (.ref i2):=keep5 _ _ D.az D.ab D.a1 D.a2 hti;refine wpAny_bind (m:=Builtin.SmallTypes.ownedTupleHandOut (.ref z) (.ref g5.objs.size)) ?_;unfold Builtin.SmallTypes.ownedTupleHandOut;have z6:IsZip (g5.push {cls:=.type "tuple",data:=.seq #[x,y]}) z a b .ellipsis:=get?_push_of_some _ z5;refine wpAny_bind (wpAny_setField_rec z6 (by simp) λg7 z7 s7=>?_);have z7':IsZip g7 z a b (rawInt g5.objs.size):=z7;refine wpAny_setField_rec z7' (by simp) λg8 z8 s8=>?_;have z8':IsZip g8 z a b (rawInt g5.objs.size):=z8;have up:∀c o,c≠z→g5.get? c=some o→g8.get? c=some o:=λc o c1 e=>s8.extBut _ _ c1 (s7.extBut _ _ c1 (get?_push_of_some _ e));have nz:g5.objs.size≠z:=ne_of_gt (lt_size z5);have new8:IsPair g8 g5.objs.size x y:=s8.extBut _ _ nz (s7.extBut _ _ nz (get?_push_size _ rfl));rw[size5]at z8' new8;refine wpAny_pure ⟨_,rfl,?_⟩;show Q (.ref g5.objs.size) _;rw[size5];exact q g8 ⟨z8',up _ _ D.az ti5,⟨_,_,up _ _ D.bz to5'⟩,(let⟨o,e,r⟩:=m15;⟨o,up _ o D.z1 e,r⟩),(let⟨o,e,r⟩:=m25;⟨o,up _ o D.z2 e,r⟩)⟩ new8 λc o c1 c2 c3 c4 e=>up c o c1 (keep5 c o c1 c2 c3 c4 e)
theorem sh{z a b i1 i2 t1 t2:Addr}{k:Nat}{xs ys:Array Value}{Q:PySem.Fin→Shared→Prop}(hh:A.handled=none)(D:Apart z a b i1 i2 t1 t2)(R:Rec s.heap z a b i1 i2 t1 t2 .none k)(h1:s.heap.IsTuple t1 xs)(h2:s.heap.IsTuple t2 ys)(hend:xs[k]?=none∨ys[k]?=none)(q:∀g e,(∀c o,c≠z→c≠b→c≠i1→c≠i2→s.heap.get? c=some o→g.get? c=some o)→(∃o,g.get? e=some o∧o.cls=.type "StopIteration")→E (.ref e) {s with heap:=g}):
  wpAny (model prog w) A (Builtin.«zip.__next__» ⟨[.ref z],[]⟩) Q E s:=by
 obtain⟨hz,hti,⟨u,v,hto⟩,n1,n2⟩:=R;refine wpAny_bind (m:=field (.ref z) 2) (wpAny_field hz rfl (x:=.bool false) rfl ?_);refine wpAny_bind (m:=field (.ref z) 3) (wpAny_field hz rfl (x:=.ref a) rfl ?_);refine wpAny_bind (m:=seqItems? (.ref a)) (wpAny_seqItems hti rfl ?_);refine wpAny_bind (m:=Builtin.SmallTypes.ownedTupleIsFree (.ref z)) ?_;unfold Builtin.SmallTypes.ownedTupleIsFree;refine wpAny_bind (wpAny_field hz rfl (x:=.none) rfl (wpAny_pure ?_));simp only[if_true];refine wpAny_bind (wpAny_rule (wpAny_bind (wpAny_field hz rfl (x:=.ref b) rfl (wpAny_bind (wpAny_setField_rec hz (by simp) λg1 z1 s1=>?_)))));have z1':IsZip g1 z a b .ellipsis:=z1;refine wpAny_bind ?_;simp only[List.zipIdx_cons,List.zipIdx_nil,forIn_cons,forIn_nil];refine wpAny_bind (wpAny_bind (wpAny_onRaise ?_));refine wpAny_bind (m:=Builtin.SmallTypes.nextOf (.ref i1)) ?_;cases hx:xs[k]? with
 |none =>
  refine jQ hh (n1.extBut s1.extBut D.z1) (h1.extBut s1.extBut D.tz.1) hx λg2 e s2 he=>?_;obtain⟨oe,e1,e2⟩:=he;have z2':IsZip g2 z a b .ellipsis:=s2 _ _ D.z1.symm z1';have ne:e≠z:=λc=>by rw[c,z2']at e1;cases e1;simp at e2
  exact wpAny_setField_rec z2' (by simp) λg3 _ s3=>q g3 e (λc o c1 _ c3 _ h=>s3.extBut _ _ c1 (s2 _ _ c3 (s1.extBut _ _ c1 h))) ⟨oe,s3.extBut _ _ ne e1,e2⟩
 |some x =>
  have hy:ys[k]?=none:=hend.resolve_left (by rw[hx];simp);refine fJ (n1.extBut s1.extBut D.z1) (h1.extBut s1.extBut D.tz.1) hx λg2 m1 s2=>wpAny_pure ?_;have to2:IsPair g2 b u v:=s2.extBut _ _ D.b1 (s1.extBut _ _ D.bz hto);refine wpAny_bind (wpAny_seqItems to2 rfl (wpAny_bind (wpAny_updateSeq_pair to2 λg3 to3 s3=>wpAny_bind (wpAny_letGo (wpAny_pure ?_)))));refine wpAny_bind (wpAny_bind (wpAny_onRaise (wpAny_bind (m:=Builtin.SmallTypes.nextOf (.ref i2)) (jQ hh (((n2.extBut s1.extBut D.z2).extBut s2.extBut D.d12.symm).extBut s3.extBut D.b2.symm)
   (((h2.extBut s1.extBut D.tz.2).extBut s2.extBut D.t1n.2).extBut s3.extBut D.tb.2) hy λg4 e s4 he=>?_))))
  obtain⟨oe,e1,e2⟩:=he;have z4':IsZip g4 z a b .ellipsis:=s4 _ _ D.z2.symm (s3.extBut _ _ D.bz.symm (s2.extBut _ _ D.z1.symm z1'));have ne:e≠z:=λc=>by rw[c,z4']at e1;cases e1;simp at e2
  exact wpAny_setField_rec z4' (by simp) λg5 _ s5=>q g5 e (λc o c1 c2 c3 c4 h=>s5.extBut _ _ c1 (s4 _ _ c4 (s3.extBut _ _ c2 (s2.extBut _ _ c3 (s1.extBut _ _ c1 h))))) ⟨oe,s5.extBut _ _ ne e1,e2⟩
theorem nF{z a b i1 i2 t1 t2:Addr}{k:Nat}{xs ys:Array Value}{x y:Value}{Q:Option Value→Shared→Prop}(D:Apart z a b i1 i2 t1 t2)(R:Rec s.heap z a b i1 i2 t1 t2 .none k)(h1:s.heap.IsTuple t1 xs)(h2:s.heap.IsTuple t2 ys)(hx:xs[k]?=some x)(hy:ys[k]?=some y)(q:∀g,Rec g z a b i1 i2 t1 t2 (rawInt s.heap.objs.size) (k+1)→IsPair g s.heap.objs.size x y→(∀c o,c≠z→c≠b→c≠i1→c≠i2→s.heap.get? c=some o→g.get? c=some o)→Q (some (.ref s.heap.objs.size)) {s with heap:=g}):
  wpAny (model prog w) A (pyNext (.ref z)) Q E s:=by
 have hT:s.TypeIs (.ref z) "zip":=⟨_,R.zz,rfl⟩;unfold pyNext;exact wpAny_bind (wpAny_attempt (wpAny_callSpecial?_slot (name:=ofString "__next__") hT F.slot_zip_next (wpAny_call_entry F.slot_zip_next hT F.entry_zip_next (qv D R h1 h2 hx hy λg r n k=>wpAny_pure (q g r n k)) (F.args_zip_next_1 _))))
theorem qw{z a b i1 i2 t1 t2:Addr}{k:Nat}{xs ys:Array Value}{Q:Option Value→Shared→Prop}(hh:A.handled=none)(D:Apart z a b i1 i2 t1 t2)(R:Rec s.heap z a b i1 i2 t1 t2 .none k)(h1:s.heap.IsTuple t1 xs)(h2:s.heap.IsTuple t2 ys)(hend:xs[k]?=none∨ys[k]?=none)(q:∀g,(∀c o,c≠z→c≠b→c≠i1→c≠i2→s.heap.get? c=some o→g.get? c=some o)→Q none {s with heap:=g}):wpAny (model prog w) A (pyNext (.ref z)) Q E s:=by
 have hT:s.TypeIs (.ref z) "zip":=⟨_,R.zz,rfl⟩;unfold pyNext;refine wpAny_bind (wpAny_attempt (wpAny_callSpecial?_slot (name:=ofString "__next__") hT F.slot_zip_next (wpAny_call_entry F.slot_zip_next hT F.entry_zip_next (sh hh D R h1 h2 hend λg e k he=>?_) (F.args_zip_next_1 _))));obtain⟨o,e1,e2⟩:=he;exact wpAny_bind (wpAny_isInstance (T:="StopIteration") (b:=true) ⟨o,e1,e2⟩ isSubtype_stop (wpAny_pure (q g k)))
def made(h:Heap)(t1 t2:Addr):Heap :=
 ((((h.push {cls:=.type "tuple_iterator",data:=.fields #[.ref t1,.int 0 0]}).push {cls:=.type "tuple_iterator",data:=.fields #[.ref t2,.int 0 0]}).push {cls:=.type "tuple",data:=.seq #[.ref h.objs.size,.ref (h.objs.size+1)]}).push
  {cls:=.type "tuple",data:=.seq #[.none,.none]}).push {cls:=.type "zip",data:=.fields #[.none,.bool false,.bool false,.ref (h.objs.size+2),.ref (h.objs.size+3)]}
theorem uP(t1 t2:Addr)(xs ys:Array Value):Meets (Builtin.«zip.__new__» ⟨[.type "zip",.ref t1,.ref t2],[]⟩) (λ_ R s=>s.heap.IsTuple t1 xs∧s.heap.IsTuple t2 ys∧R (.ok (.ret (.ref (s.heap.objs.size+4)))) {s with heap:=made s.heap t1 t2}) :=
 .of_wp λprog w A R s h=>by
  obtain⟨hp,g,d,tk,os⟩:=s;obtain⟨k1,k2,h⟩:=h;have hsub:=sub_zip;have u1:IsTuple (Shared.heap ⟨hp,g,d,tk,os⟩) t1 xs:=k1;have u2:IsTuple (Shared.heap ⟨hp.push {cls:=.type "tuple_iterator",data:=.fields #[.ref t1,.int 0 0]},g,d,tk,os⟩) t2 ys:=IsTuple.push k2 _
  wp_walk using wpAny_pyIter_tuple u1,wpAny_pyIter_tuple u2
  refine⟨_,rfl,?_⟩;unfold made at h;simp only[size_push];exact h
theorem sk{t1 t2:Addr}{xs ys:Array Value}{Q:Value→Shared→Prop}(h1:s.heap.IsTuple t1 xs)(h2:s.heap.IsTuple t2 ys)(q:Q (.ref (s.heap.objs.size+4)) {s with heap:=made s.heap t1 t2}):wpAny (model prog w) A (call (.type "zip") [.ref t1,.ref t2]) Q E s:=by
 refine callType_new F.called_zip (by decide) (F.typeCall_zip_2 _ _) (F.newCall_zip_2 _ _) (λobj=>F.args_object_init_3 obj _ _) F.entry_zip_new (uP t1 t2 xs ys) ⟨h1,h2,?_⟩;have e:(made s.heap t1 t2).get? (s.heap.objs.size+4)=some {cls:=.type "zip",data:=.fields #[.none,.bool false,.bool false,.ref (s.heap.objs.size+2),.ref (s.heap.objs.size+3)]}:=by
  unfold made;have:=get?_push_size ((((s.heap.push {cls:=.type "tuple_iterator",data:=.fields #[.ref t1,.int 0 0]}).push {cls:=.type "tuple_iterator",data:=.fields #[.ref t2,.int 0 0]}).push {cls:=.type "tuple",data:=.seq #[.ref s.heap.objs.size,.ref (s.heap.objs.size+1)]}).push {cls:=.type "tuple",data:=.seq #[.none,.none]})
   (o:={cls:=.type "zip",data:=.fields #[.none,.bool false,.bool false,.ref (s.heap.objs.size+2),.ref (s.heap.objs.size+3)]}) rfl
  simpa only [size_push]using this
 exact⟨⟨_,e,rfl⟩,q⟩
end
end ZT
namespace L2
open PySem PySem.Spec PyProof.Rows
section
variable{X:Cx}{tg:Expr}
def Itz(K:PySem.W.Frag)(t1 t2:Addr):It :=
 ⟨λi H=>∃xs ys x y,SqT K H t1 xs∧SqT K H t2 ys∧xs[i]?=some x∧ys[i]?=some y,λi H v H'=>∃p x y,H p=none∧v=.ref p∧(∀xs,SqT K H t1 xs→xs[i]?=some x)∧(∀ys,SqT K H t2 ys→ys[i]?=some y)∧H'=upd H p (.tup [x,y]),
  λi H=>∃xs ys,SqT K H t1 xs∧SqT K H t2 ys∧(xs.length≤i∨ys.length≤i)⟩
theorem sm{P:Program}{w:World}{K:PySem.W.Frag}{es:List Expr}{k:Nat}{p0:Pos}(z a b i1 i2 t1 t2:Addr)(D:ZT.Apart z a b i1 i2 t1 t2):
  Turn P w K (.Tuple es k p0) (Itz K t1 t2) [z,a,b,i1,i2] z (λi h=>ZT.Rec h z a b i1 i2 t1 t2 .none i) where
 mem:=by simp
 obj:=λi h R c hc=>by
  obtain⟨z1,z2,⟨u,v,z3⟩,⟨o4,z4,_,z4'⟩,⟨o5,z5,_,z5'⟩⟩:=R;simp only[mem_cons,not_mem_nil,or_false]at hc;rcases hc with rfl|rfl|rfl|rfl|rfl
  ·exact⟨_,z1,λv z=>nomatch z⟩
  ·exact⟨_,z2,λv z=>nomatch z⟩
  ·exact⟨_,z3,λv z=>nomatch z⟩
  ·exact⟨_,z4,λv z=>by rw[z4']at z;cases z⟩
  ·exact⟨_,z5,λv z=>by rw[z5']at z;cases z⟩
 keep:=λi h h' R kp=>by
  obtain⟨z1,z2,⟨u,v,z3⟩,⟨o4,z4,r4⟩,⟨o5,z5,r5⟩⟩:=R;exact⟨kp _ (by simp) _ z1,kp _ (by simp) _ z2,⟨u,v,kp _ (by simp) _ z3⟩,⟨o4,kp _ (by simp) _ z4,r4⟩,⟨o5,kp _ (by simp) _ z5,r5⟩⟩
 item:=by
  intro X hP hw hK hc i pins s σ H E I hf st hg;subst hP hw hK;obtain⟨xs,ys,x,y,hq1,hq2,hx,hy⟩:=hg;obtain⟨its1,rv1,k1,_⟩:=I.tuple hq1;obtain⟨its2,rv2,k2,_⟩:=I.tuple hq2;obtain⟨u1,hu1,ru1⟩:=rv1.get hx;obtain⟨u2,hu2,ru2⟩:=rv2.get hy;refine ZT.nF D st k1 k2 (x:=u1) (y:=u2) (by simpa using hu1) (by simpa using hu2) λg R' new kp=>⟨_,rfl,?_⟩;refine wpAny_letOwnedTupleGo_zip R'.zz λg' z' sb=>?_;have nz:s.heap.objs.size≠z:=ne_of_gt (lt_size st.zz);have kp':∀c o,c≠z→c≠b→c≠i1→c≠i2→s.heap.get? c=some o→g'.get? c=some o:=λc o c1 c2 c3 c4 e=>(sb.2 c c1).trans (kp c o c1 c2 c3 c4 e);have kpO:∀c o,c∉[z,a,b,i1,i2]→s.heap.get? c=some o→g'.get? c=some o:=λc o hn e=>kp' c o (λq=>hn (by simp[q])) (λq=>hn (by simp[q])) (λq=>hn (by simp[q])) (λq=>hn (by simp[q])) e;have hnot:∀c o,H c=some o→c∉[z,a,b,i1,i2]:=λc o e hm=>by rw[(hf c hm).1]at e;cases e
  have nsz:∀c o,s.heap.get? c=some o→c≠s.heap.objs.size:=λc o e=>ne_of_lt (lt_size e);have trk:∀c o,H c=some o→c≠s.heap.objs.size:=λc o e=>ne_of_lt (I.hok.lt e);have new':g'.get? s.heap.objs.size=some {cls:=.type "tuple",data:=.seq #[u1,u2]}:=(sb.2 _ nz).trans new;have R2:ZT.Rec g' z a b i1 i2 t1 t2 .none (i+1):=by
   obtain⟨_,z2,⟨u,v,z3⟩,⟨o4,z4,r4⟩,⟨o5,z5,r5⟩⟩:=R';exact⟨z',(sb.2 _ D.az).trans z2,⟨u,v,(sb.2 _ D.bz).trans z3⟩,⟨o4,(sb.2 _ D.z1).trans z4,r4⟩,⟨o5,(sb.2 _ D.z2).trans z5,r5⟩⟩
  have okH:HOk X.prog X.w (upd H s.heap.objs.size (.tup [x,y])) g':=λc o e=>by
   by_cases ec:c=s.heap.objs.size
   ·subst ec;rw[ac]at e;cases e;exact⟨by show 2≤sizeLine;rw[sizeLine_eq];decide,[u1,u2],.cons ru1 (.cons ru2 .nil),⟨_,new',rfl,0,rfl⟩⟩
   ·rw[ai ec]at e;refine(I.hok c o e).stay (λd v hd q=>kpO d v ?_ q) (λd q=>by rw[ai (trk d _ q)];exact q) λd zs q=>by rw[ai (trk d _ q)];exact q
    rcases hd with rfl|hd
    ·exact hnot _ _ e
    ·exact hnot _ _ hd
  have I2:Inv X pins σ (upd H s.heap.objs.size (.tup [x,y])) {s with heap:=g'}:=by
   refine I.step (g':=s.gens) (t':=s.toks) (d':=s.drawn) (ch:=[z,a,b,i1,i2]) (λc hc'=>?_) (λc o _ _ hn e _=>kpO c o hn e) (λc o _ _ hn e _=>⟨o.slots,kpO c o hn e⟩) (λc o _ e n=>by rw[ai (nsz c o e)];exact n) (λc o hn e=>⟨o,kpO c o hn e⟩)
    (λc zs q=>by rw[ai (trk c _ q)];exact q) (λc o u q=>by rw[ai (trk c _ q)];exact q) (λc ps q=>⟨#[],by rw[ai (trk c _ q),q];simp⟩) (λm hm=>?_) okH I.bare
   ·obtain⟨f0,f1,f2,f3,f4,f5⟩:=hf c hc';exact⟨f3,f1,f4,f5⟩
   ·obtain⟨o,es',ep,ho,r⟩:=hm;exact⟨o,es',ep,kpO _ o (λhm'=>(hf _ hm').2.1 rfl) ho,r⟩
  refine⟨.ref s.heap.objs.size,_,I2,rfl,⟨s.heap.objs.size,x,y,I.hok.fresh (le_refl _),rfl,λzs hz=>?_,λzs hz=>?_,rfl⟩,R2,λc hc'=>?_⟩
  ·rw[I.tuple_inj hz hq1];exact hx
  ·rw[I.tuple_inj hz hq2];exact hy
  ·obtain⟨o,e,_⟩:∃o,s.heap.get? c=some o∧True:=by
    obtain⟨z1,z2,⟨u,v,z3⟩,⟨o4,z4,_⟩,⟨o5,z5,_⟩⟩:=st;simp only[mem_cons,not_mem_nil,or_false]at hc';rcases hc' with rfl|rfl|rfl|rfl|rfl
    ·exact⟨_,z1,trivial⟩
    ·exact⟨_,z2,trivial⟩
    ·exact⟨_,z3,trivial⟩
    ·exact⟨_,z4,trivial⟩
    ·exact⟨_,z5,trivial⟩
   rw[ai (nsz c o e)];exact(hf c hc').1
 done:=by
  intro X hP hw hK hc i pins s σ H E I hf st hg;subst hP hw hK;obtain⟨xs,ys,hq1,hq2,hle⟩:=hg;obtain⟨its1,rv1,k1,_⟩:=I.tuple hq1;obtain⟨its2,rv2,k2,_⟩:=I.tuple hq2;have e1:=rv1.length;have e2:=rv2.length;refine ZT.qw (I.ok.hd hc) D st k1 k2 (by rcases hle with h|h;left;simp;omega;right;simp;omega) λg kp=>⟨rfl,?_⟩;have kpO:∀c o,c∉[z,a,b,i1,i2]→s.heap.get? c=some o→g.get? c=some o:=λc o hn e=>kp c o (λq=>hn (by simp[q])) (λq=>hn (by simp[q])) (λq=>hn (by simp[q])) (λq=>hn (by simp[q])) e;have hnot:∀c o,H c=some o→c∉[z,a,b,i1,i2]:=λc o e hm=>by rw[(hf c hm).1]at e;cases e
  refine I.step (g':=s.gens) (t':=s.toks) (d':=s.drawn) (ch:=[z,a,b,i1,i2]) (λc hc'=>?_) (λc o _ _ hn e _=>kpO c o hn e) (λc o _ _ hn e _=>⟨o.slots,kpO c o hn e⟩) (λc o _ e n=>n) (λc o hn e=>⟨o,kpO c o hn e⟩)
   (λc zs q=>q) (λc o u q=>q) (λc ps q=>⟨#[],by rw[q];simp⟩) (λm hm=>?_) (λc o e=>?_) I.bare
  ·obtain⟨f0,f1,f2,f3,f4,f5⟩:=hf c hc';exact⟨f3,f1,f4,f5⟩
  ·obtain⟨o,es',ep,ho,r⟩:=hm;exact⟨o,es',ep,kpO _ o (λhm'=>(hf _ hm').2.1 rfl) ho,r⟩
  ·refine(I.hok c o e).stay (λd v hd q=>kpO d v ?_ q) (λd q=>q) λd zs q=>q;rcases hd with rfl|hd
   ·exact hnot _ _ e
   ·exact hnot _ _ hd
 self:=λA i s Q E st hq=>wpAny_pyIter_zip st.zz hq
theorem wY{es:List Expr}{k:Nat}{p0:Pos}{a b:Expr}{ta:TA}{p pos:Pos}(hg:Gl X "zip")(hm:X.mg "zip"=none)(ha:PA X [a,b] ta)(hs:starEach [a,b] X.env=[(false,eval a X.env),(false,eval b X.env)]:=by rfl)(hs2:starEach [b] X.env=[(false,eval b X.env)]:=by rfl):
  PI X (.Tuple es k p0) (.Call (.Name "zip" p) [a,b] [] pos) (λσ H R=>ta σ H λvs H1=>∃t1 t2 xs ys,vs=[.ref t1,.ref t2]∧H1 t1=some (.tup xs)∧H1 t2=some (.tup ys)∧R (Itz X.K t1 t2) H1):=by
 intro pins s σ H R I h;refine Call_ (dJ I hg hm boot_zip (PyProof.Rows.callWith_type1 (thn (ha pos pins s σ H _ I h) λus s1 ⟨vs,H1,I1,r1,q1⟩=>?_) (by rw[hs,hs2]) (by rw[hs2];rfl)));obtain⟨t1,t2,xs,ys,e,ht1,ht2,q⟩:=q1;subst e;obtain⟨u1,u2,rfl,ru1,ru2⟩:=oG r1;cases ru1;cases ru2;obtain⟨its1,rv1,k1,hz1⟩:=I1.tuple (SqT.of ht1);obtain⟨its2,rv2,k2,hz2⟩:=I1.tuple (SqT.of ht2);refine ZT.sk k1 k2 ?_;generalize hn:s1.heap.objs.size=n;have keep:∀c o,s1.heap.get? c=some o→(ZT.made s1.heap t1 t2).get? c=some o:=λc o e=>by
  unfold ZT.made;exact get?_push_of_some _ (get?_push_of_some _ (get?_push_of_some _ (get?_push_of_some _ (get?_push_of_some _ e))))
 have rec0:ZT.Rec (ZT.made s1.heap t1 t2) (n+4) (n+2) (n+3) n (n+1) t1 t2 .none 0:=by
  subst hn;unfold ZT.made;refine⟨?_,?_,⟨.none,.none,?_⟩,⟨{cls:=.type "tuple_iterator",data:=.fields #[.ref t1,.int 0 0]},?_,rfl,rfl⟩,⟨{cls:=.type "tuple_iterator",data:=.fields #[.ref t2,.int 0 0]},?_,rfl,rfl⟩⟩
  ·have:=get?_push_size ((((s1.heap.push {cls:=.type "tuple_iterator",data:=.fields #[.ref t1,.int 0 0]}).push {cls:=.type "tuple_iterator",data:=.fields #[.ref t2,.int 0 0]}).push {cls:=.type "tuple",data:=.seq #[.ref s1.heap.objs.size,.ref (s1.heap.objs.size+1)]}).push {cls:=.type "tuple",data:=.seq #[.none,.none]})
    (o:={cls:=.type "zip",data:=.fields #[.none,.bool false,.bool false,.ref (s1.heap.objs.size+2),.ref (s1.heap.objs.size+3)]}) rfl
   simpa only [size_push]using this
  ·refine get?_push_of_some _ (get?_push_of_some _ ?_);have:=get?_push_size ((s1.heap.push {cls:=.type "tuple_iterator",data:=.fields #[.ref t1,.int 0 0]}).push {cls:=.type "tuple_iterator",data:=.fields #[.ref t2,.int 0 0]}) (o:={cls:=.type "tuple",data:=.seq #[.ref s1.heap.objs.size,.ref (s1.heap.objs.size+1)]}) rfl;simpa only [size_push]using this
  ·refine get?_push_of_some _ ?_;have:=get?_push_size (((s1.heap.push {cls:=.type "tuple_iterator",data:=.fields #[.ref t1,.int 0 0]}).push {cls:=.type "tuple_iterator",data:=.fields #[.ref t2,.int 0 0]}).push {cls:=.type "tuple",data:=.seq #[.ref s1.heap.objs.size,.ref (s1.heap.objs.size+1)]}) (o:={cls:=.type "tuple",data:=.seq #[.none,.none]}) rfl;simpa only [size_push]using this
  ·exact get?_push_of_some _ (get?_push_of_some _ (get?_push_of_some _ (get?_push_of_some _ (get?_push_size _ rfl))))
  ·refine get?_push_of_some _ (get?_push_of_some _ (get?_push_of_some _ ?_));have:=get?_push_size (s1.heap.push {cls:=.type "tuple_iterator",data:=.fields #[.ref t1,.int 0 0]}) (o:={cls:=.type "tuple_iterator",data:=.fields #[.ref t2,.int 0 0]}) rfl;simpa only [size_push]using this
 have l1:t1<n:=by rw[←hn];exact I1.hok.lt ht1
 have l2:t2<n:=by rw[←hn];exact I1.hok.lt ht2
 have D:=ZT.sg n t1 t2 l1 l2;refine wpAny_pyIter_zip rec0.zz ?_;refine⟨n+4,[n+4,n+2,n+3,n,n+1],_,Itz X.K t1 t2,H1,rfl,I1.kept (t':=s1.toks) keep,sm _ _ _ _ _ _ _ D,rec0,λc hc=>?_,q⟩;have hle:s1.heap.objs.size≤c:=by
  rw[hn];simp only[mem_cons,not_mem_nil,or_false]at hc;rcases hc with rfl|rfl|rfl|rfl|rfl
  ·exact le_add_right _ _
  ·exact le_add_right _ _
  ·exact le_add_right _ _
  ·exact le_refl _
  ·exact le_add_right _ _
 exact I1.fpOk hle (I1.hok.fresh hle)
abbrev im:=Addr×Int×List V
def numAt(zs:List im)(i:Nat):Int:=(zs.getD i (0,0,[])).2.1
theorem so{zs:List im}(h:(zs.map (·.2.1)).Nodup):SRT.Ord (λi j=>decide (numAt zs i<numAt zs j)) zs.length:=by
 refine⟨λi _=>by simp,λi j k _ _ _ h1 h2=>?_,λi j hi hj hij=>?_⟩
 ·simp only[decide_eq_true_eq]at *;omega
 ·simp only[decide_eq_true_eq];have:numAt zs i≠numAt zs j:=by
   unfold numAt;rw[getD_eq_getElem?_getD,getD_eq_getElem?_getD,getElem?_eq_getElem hi,getElem?_eq_getElem hj];intro e;have e':(zs.map (·.2.1))[i]'(by simpa using hi)=(zs.map (·.2.1))[j]'(by simpa using hj):=by simpa using e
   exact hij ((getElem_inj h).mp e')
  omega
theorem lU{prog:Program}{w:World}{A:Around}{s:Shared}{b:Bool}{Q:Bool→Shared→Prop}(h:Q false s):∀(l:List Value)(i:Nat),PySem.W.KatLex prog w A b false Q (l.zip l) i s
 |[],i=>h
 |v::l,i=>kat_cons (EqAt.same v prog w _ _ (kat_yes (lU h l (i+1))))
theorem cy:bM X (.builtin "sorted") (λxs H Q=>∃l,∃zs:List im,xs=[.ref l]∧(SqL X.K H l ((zs.map (·.1)).map V.ref)∨SqT X.K H l ((zs.map (·.1)).map V.ref))∧(∀z∈zs,H z.1=some (.tup (.int z.2.1::z.2.2)))∧(zs.map (·.2.1)).Nodup∧zs.length<64 ∧
  ∀zs':List im,zs'.Perm zs→zs'.Pairwise (λa b=>a.2.1<b.2.1)→∀p,H p=none→Q (.ref p) (upd H p (.lst ((zs'.map (·.1)).map V.ref)))):=by
 intro pins s σ H xs us Q I r h;obtain⟨l,zs,rfl,hq,hk,hnd,h64,q⟩:=h;obtain⟨u,rfl,ru⟩:=ci r;cases ru;obtain⟨its,rv,pl⟩:∃its,ax ((zs.map (·.1)).map V.ref) its∧(s.heap.IsList l its.toArray∨IsTup s.heap l its.toArray):=by
  rcases hq with hq|hq
  ·obtain⟨its,rv,pl,hz⟩:=I.list hq;exact⟨its,rv,.inl pl.isList⟩
  ·obtain⟨its,rv,pl,hz⟩:=I.tuple hq;exact⟨its,rv,.inr pl⟩
 have e:=dC rv;subst e;have hlen:((zs.map (·.1)).map Value.ref).length=zs.length:=by simp
 have hobj:∀z∈zs,∃o its n t,s.heap.get? z.1=some o∧o.cls=.type "tuple"∧o.data=.seq its n∧its.toList=.int z.2.1 t::its.toList.drop 1:=λz hz'=>by
  obtain⟨_,its,rr,o,e1,e2,n,e3⟩:=I.hok z.1 _ (hk z hz');cases rr with
  |cons r1 r2 =>
   obtain⟨t,rfl⟩:=r1;exact⟨o,_,n,t,e1,e2,e3,by simp⟩
 have hget:∀i,i<zs.length→((zs.map (·.1)).map Value.ref).getD i Value.none=.ref (zs.getD i (0,0,[])).1∧zs.getD i (0,0,[])∈zs:=λi hi=>by
  rw[getD_eq_getElem?_getD,getD_eq_getElem?_getD,getElem?_map,getElem?_map,getElem?_eq_getElem hi];exact⟨rfl,getElem_mem hi⟩
 refine SRT.iX (κ:=tuples' true) (f:=λi j=>decide (numAt zs i<numAt zs j)) (by rw[hlen];exact so hnd) pl (by rw[hlen];exact h64) ?kind ?less ?fin
 case kind =>
  intro A' s' _ kp Q' h2 hQ';have key:∀ys:List im,(∀z∈ys,z∈zs)→∃fs:List Value,KatTups s'.heap ((ys.map (·.1)).map Value.ref) fs∧fs.length=ys.length∧∀v∈fs,∃i t,v=Value.int i t:=by
   intro ys
   induction ys with
   |nil=>intro _;exact⟨[],KatTups.nil,rfl,λv hv=>by simp at hv⟩
   |cons z ys ih =>
    intro hm;obtain⟨fs,h1,h2',h3⟩:=ih λy hy=>hm y (by simp[hy]);obtain⟨o,its,n,t,e1,e2,e3,e4⟩:=hobj z (hm z (by simp));refine⟨.int z.2.1 t::fs,KatTups.cons (kp _ _ e1) e2 e3 ?_ h1,by simp[h2'],λv hv=>?_⟩
    ·rw[←getElem?_toList,e4];rfl
    ·rcases mem_cons.mp hv with rfl|hv
     ·exact⟨_,_,rfl⟩
     ·exact h3 v hv
  obtain⟨fs,h1,h2',h3⟩:=key zs λz hz'=>hz';refine kat_kind (T:=.type "int") h1 (by rw[h2'];rw[hlen]at h2;omega) (λv hv=>?_) (by rfl) hQ';obtain⟨i,t,rfl⟩:=h3 v hv;exact .now
 case less =>
  intro A' s' _ kp i j C hi hj hC;rw[hlen]at hi hj;obtain⟨gi,mi⟩:=hget i hi;obtain⟨gj,mj⟩:=hget j hj;rw[gi,gj];obtain⟨oi,ii,ni,ti,a1,a2,a3,a4⟩:=hobj _ mi;obtain⟨oj,ij,nj,tj,b1,b2,b3,b4⟩:=hobj _ mj;refine kat_lt (kp _ _ a1) a3 (kp _ _ b1) b3 ?_
  by_cases hij:i=j
  ·subst hij;rw[a1]at b1;cases b1;rw[a3]at b3;cases b3;have:C false s':=by simpa using hC
   have e2:decide (ii.size<ii.size)=false:=by simp
   rw[e2];exact lU this _ _
  ·have hne:numAt zs i≠numAt zs j:=by
    rcases (so hnd).tot i j hi hj hij with h1|h1<;>simp only[decide_eq_true_eq]at h1<;>omega
   rw[a4,b4];refine kat_cons (wpAny_eqBool_int ?_);have e2:((zs.getD i (0,0,[])).2.1==(zs.getD j (0,0,[])).2.1)=false:=beq_eq_false_iff_ne.mpr hne;rw[e2];refine kat_no ?_;exact kat_lt_int hC
 case fin =>
  intro p h' hrow hup kp _ hg;obtain⟨c,hg⟩:=hg;rw[hlen]at hrow hup;obtain⟨zs',hzs'⟩:∃zs',zs'=p.toList.map λi=>zs.getD i (0,0,[]):=⟨_,rfl⟩;have hperm:zs'.Perm zs:=by
   rw[hzs'];refine(hrow.perm.map _).trans ?_;have:(List.range zs.length).map (λi=>zs.getD i (0,0,[]))=zs:=by
    apply ext_getElem?;intro i;rw[getElem?_map]
    by_cases hi:i<zs.length
    ·rw[getElem?_range hi,getElem?_eq_getElem hi];show some (zs.getD i (0,0,[]))=_;rw[getD_eq_getElem?_getD,getElem?_eq_getElem hi];rfl
    ·rw[getElem?_eq_none (by rw[length_range];omega),getElem?_eq_none (by omega)];rfl
   rw[this]
  have hpl:p.size=zs.length:=hrow.size;have hpw:zs'.Pairwise (λa b=>a.2.1<b.2.1):=by
   rw[pairwise_iff_getElem];intro i j hi hj hij;have hi':i<p.size:=by rw[hzs',length_map,length_toList]at hi;exact hi
   have hj':j<p.size:=by rw[hzs',length_map,length_toList]at hj;exact hj
   have:=hup i j hij (by omega);simp only[decide_eq_true_eq,numAt]at this;rw[getD_eq_getD_getElem?,getD_eq_getD_getElem?,Array.getElem?_eq_getElem hi',Array.getElem?_eq_getElem hj']at this;simpa [hzs']using this
  have hout:(toArray (p.toList.map λi=>((zs.map (·.1)).map Value.ref).getD i Value.none))=((zs'.map (·.1)).map Value.ref).toArray:=by
   congr 1
   rw[hzs'];simp only[map_map];apply map_congr_left;intro i hi;have hi':i<zs.length:=mem_range.mp (hrow.perm.mem_iff.mp hi);have:=(hget i hi').1;simp only[map_map]at this;exact this
  rw[hout]at hg;have hv:ax ((zs'.map (·.1)).map V.ref) ((zs'.map (·.1)).map Value.ref):=by
   generalize zs'.map (·.1)=as
   induction as with
   |nil=>exact .nil
   |cons a as ih=>exact .cons rfl ih
  refine⟨.ref (s.heap.objs.size+1),_,I.laid (t':=s.toks) (o:=.lst ((zs'.map (·.1)).map V.ref)) kp (le_succ _) ⟨?_,_,c,hv,hg⟩,rfl,q zs' hperm hpw _ (I.hok.fresh (le_succ _))⟩;rw[length_map,length_map,hperm.length_eq,sizeLine_eq];omega
theorem gZ:bM X (.builtin "sorted") (λxs H Q=>∃l,∃zs:List im,xs=[.ref l]∧SqL X.K H l ((zs.map (·.1)).map V.ref)∧(∀z∈zs,H z.1=some (.tup (.int z.2.1::z.2.2)))∧(zs.map (·.2.1)).Nodup∧zs.length<64 ∧
  ∀zs':List im,zs'.Perm zs→zs'.Pairwise (λa b=>a.2.1<b.2.1)→∀p,H p=none→Q (.ref p) (upd H p (.lst ((zs'.map (·.1)).map V.ref)))) :=
 λpins s σ H xs us Q I r ⟨l,zs,e,hq,h⟩=>cy pins s σ H xs us Q I r ⟨l,zs,e,.inl hq,h⟩
end
theorem kH{scope:Scope}{env:Env}(h:∀y∈scope.names,y.2≠.free):relabel scope env=scope:=by
 unfold relabel;rw[map_eq_self (l:=scope.names) (λx hx=>by
  obtain⟨n,k⟩:=x;have:(k==NameKind.free)=false:=by simpa using h _ hx
  simp[this])]
theorem cf{X:Cx}{scope:Scope}(hk:scope.kind=.function)(hf:∀y∈scope.names,y.2≠.free)(hc:∀y∈scope.names,y.2≠.cell)(hn:∀x∈scope.names,x.2=.local→scope.names.lookup x.1=some .local):LcOk X scope [] :=
 ⟨hk,closureFor_none hf,hn,hc,λx c h=>by simp at h,λx h=>by
  rw[kH hf]at h;rcases h with h|h
  ·exact absurd rfl (hc _ (PySem.mem_of_lookup h))
  ·exact absurd rfl (hf _ (PySem.mem_of_lookup h))⟩
theorem lV{k:Nat}{js:List Nat}{J:It}{g:TG}{te:TE}{σ:St}{H1:Hp}{Q:VK}{p:Addr}(n:Nat)(hn:n≤1000)(Pv:Nat→List V→St→Hp→Prop)(h0:Pv 0 [] (cF k js σ) (upd H1 p (.lst [])))(hy:∀i ys σ' H',Pv i ys σ' H'→ys.length≤i)(go:∀i ys σ' H',i<n→Pv i ys σ' H'→J.go i H')(stop:∀ys σ' H',Pv n ys σ' H'→J.stop n H'∧Q (.ref p) H')(step:∀i ys σ' H',i<n→Pv i ys σ' H'→∀x H2,J.yld i H' x H2→g x σ' H2 λσ2 H3=>te σ2 H3 λy H4=>H4 p=some (.lst ys)∧Pv (i+1) (ys++[y]) σ2 (upd H4 p (.lst (ys++[y]))))(mg:∀x σ H (Q Q':St→Hp→Prop),(∀σ H,Q σ H→Q' σ H)→g x σ H Q→g x σ H Q')(me:∀σ H (Q Q':VK),(∀y H,Q y H→Q' y H)→te σ H Q→te σ H Q'):
  LcW k js g te σ Q J H1 p:=by
 refine⟨λi m ys σ' H'=>m=n-i∧i≤n∧Pv i ys σ' H',⟨n,by simp,zero_le _,h0⟩,?_⟩;rintro i m ys σ' H' ⟨rfl,hi,hp⟩
 by_cases hlt:i<n
 ·refine .inr ⟨go i ys σ' H' hlt hp,?_,λx H2 y=>?_⟩
  ·have:=hy i ys σ' H' hp;exact lt_of_le_of_lt this (aF (by omega))
  ·refine mg _ _ _ _ _ (λσ2 H3 h3=>me _ _ _ _ (λz H4 h4=>⟨h4.1,n-(i+1),by omega,rfl,hlt,h4.2⟩) h3) (step i ys σ' H' hlt hp x H2 y)
 ·have e:i=n:=by omega
  subst e;exact .inl (stop ys σ' H' hp)
theorem af{H:Hp}{p:Addr}{o:HO}(h:H p=none):Same H (upd H p o):=λb u e=>by rw[ai (aT e h)];exact e
theorem aW{H:Hp}{p a:Addr}{o u:HO}(h:H p=none)(e:H a=some u):upd H p o a=some u:=by rw[ai (aT e h)];exact e
theorem aG{H0 H:Hp}{p:Addr}{o:HO}(h0:H0 p=none)(s:Same H0 H):Same H0 (upd H p o):=λb u e=>by
 rw[ai (aT e h0)];exact s b u e
structure Fly(P:Program)(w:World)(outer:List Env)(H:Hp)(s:Shared)(H':Hp)(ea C:Addr)(s':Shared):Prop where
 os:s'.os=s.os
 bare:AllBare s'.gens
 un:Un (frs outer) [] H H' s.heap s'.heap
 new:H' ea=none
 fly:∃B a0,FlyingW B outer ea (.ref C) a0 s'.heap∧HOk P w H' B∧(∀b o,s.heap.get? b=some o→H b=none→b∉frs outer→B.get? b=some o) ∧
  ∀b o,s.heap.get? b=some o→b∉frs outer→∃o',B.get? b=some o'
def CX1(P:Program)(w:World):CXT:=λouter H s E e s'=>∃ea C H',e=.ref ea∧Fly P w outer H s H' ea C s'∧E (.ref C) none H'
theorem bd.ex{P:Program}{w:World}{H:Hp}{h:Heap}{a:Addr}{o:HO}(x:bd P w H h a o):∃ob,h.get? a=some ob:=by
 cases o with
 |lst xs=>obtain⟨_,_,_,_,e⟩:=x;exact⟨_,e⟩
 |tup xs=>obtain⟨_,_,_,ob,e,_⟩:=x;exact⟨ob,e⟩
 |dK kvs=>obtain⟨_,_,_,_,o,_,_,e,_⟩:=x;exact⟨_,e⟩
 |dT kvs=>obtain⟨_,_,_,_,o,_,_,e,_⟩:=x;exact⟨_,e⟩
 |set S n=>obtain⟨o,_,_,_,e,_⟩:=x;exact⟨_,e⟩
 |ins C dx fs=>obtain⟨_,_,_,e,_⟩:=x;exact⟨_,e⟩
 |own y=>obtain⟨_,e⟩:=x;exact⟨_,e⟩
 |xd fs=>obtain⟨_,⟨_,_,_,e,_⟩,_⟩:=x;exact⟨_,e⟩
 |rng lo hi=>obtain⟨_,_,_,e⟩:=x;exact⟨_,e⟩
 |frz ob u=>obtain⟨e,_⟩:=x;exact⟨_,e⟩
 |tbl ps=>exact⟨_,(show h.get? a=some _ from x)⟩
 |met f y=>exact⟨_,(show h.get? a=some _ from x)⟩
 |ext φ=>obtain⟨_,⟨_,e⟩,_⟩:=x;exact⟨_,e⟩
theorem sq{P:Program}{w:World}{H:Hp}{h:Heap}{l:List Addr}(x:HOk P w H h)(hl:∀b∈l,H b=none):HOk P w H (hideAll h l):=λa o e =>
 (x a o e).stay (λb u hb q=>hideAll_get l q λz=>by
  have:=hl b z;rcases hb with hb|hb
  ·rw[hb,e]at this;cases this
  ·rw[hb]at this;cases this) (λ_ q=>q) λ_ _ q=>q
section
variable{P:Program}{w:World}{l:List Env}{H H':Hp}{h1 h2 h3 B:Heap}{ea:Addr}{cls a0:Value}
theorem lW(un:Un (frs l) [] H H' h1 h2)(fl:FlyingW B l ea cls a0 h2)(hB:HOk P w H' B)(kp:∀b o,h1.get? b=some o→H b=none→b∉frs l→B.get? b=some o)(th:∀b o,h1.get? b=some o→b∉frs l→∃o',B.get? b=some o')(st:B.StaysIn h3)(hs:h2.UpToSlots h3):Un (frs l) [] H H' h1 h3∧HOk P w H' h3:=by
 refine⟨⟨λb o e n hb _=>st b o (kp b o e n hb),λb o e n hb hx=>?_,un.free,λb o e _=>?_,un.tups,un.frzs,un.tbls⟩,hB.kept st⟩
 ·obtain⟨sl,q⟩:=un.slot b o e n hb hx;obtain⟨_,o',ho',hd⟩:=fl.2.2.1.mem hb;rw[q]at ho';cases ho';obtain⟨sl',q'⟩:=hs b _ q hd;exact⟨sl',q'⟩
 ·by_cases hb:b∈frs l
  ·obtain⟨_,o',ho',hd⟩:=fl.2.2.1.mem hb;obtain⟨sl',q'⟩:=hs b _ ho' hd;exact⟨_,q'⟩
  ·obtain⟨o',q⟩:=th b o e hb;exact⟨o',st b o' q⟩
end
section
variable{X:Cx}{pins:List (Addr×Obj)}{σ:St}{H H':Hp}{s s':Shared}{ea C:Addr}{E:XK}
theorem Inv.fly_up(I:Inv X pins σ H s)(hex:X.ex=[])(J:Inv X pins σ H' s')(new:H' ea=none){B:Heap}{a0:Value}(fl:FlyingW B X.outer ea (.ref C) a0 s'.heap)(hB:HOk X.prog X.w H' B)(kp:∀b o,s.heap.get? b=some o→H b=none→b∉frs X.stack→B.get? b=some o)(th:∀b o,s.heap.get? b=some o→b∉frs X.stack→∃o',B.get? b=some o'):Fly X.prog X.w X.outer X.H₀ X.s₀ H' ea C s':=by
 have ub:=I.base;rw[hex]at ub;have uj:=J.base;rw[hex]at uj;have ne:∀b o,X.s₀.heap.get? b=some o→b∉frs X.outer→b∉frs X.stack:=λb o e n hb=>by
  rcases mem_cons.mp (I.stkSub b hb)with z|z
  ·have:=lt_size e;rw[z]at this;exact absurd (lt_of_lt_of_le this I.ok.above) (lt_irrefl _)
  ·exact n z
 refine⟨J.os,J.bare,uj,new,B,a0,fl,hB,λb o e n hb=>?_,λb o e hb=>?_⟩
 ·exact kp b o (ub.keep b o e n hb (by simp)) (ub.free b o e n (by simp)) (ne b o e hb)
 ·obtain⟨o',q⟩:=ub.there b o e (by simp);exact th b o' q (ne b o e hb)
structure Lv(X:Cx)(E:XK):Prop where
 ex:X.ex=[]
 stk:X.stack=X.env::X.outer
 fr:X.env.frame=some X.env.locals
 xe:X.xe=λe s'=>wpAny (model X.prog X.w) X.A (leaving X.env e) (λ_ s''=>CX1 X.prog X.w X.outer X.H₀ X.s₀ E e s'') (λe' s''=>CX1 X.prog X.w X.outer X.H₀ X.s₀ E e' s'') s'
theorem sr{P:Program}{w:World}{K:PySem.W.Frag}{mg:Str→Option Value}{base:Heap}{N:List Str}{qual:Str}{scope:Scope}{f:Addr}{cd:Value}{A:Around}{outer:List Env}{s:Shared}{H:Hp}{E:XK} :
  Lv (gd (CX1 P w) P w K mg base N qual scope f cd A outer s H E) E:=⟨rfl,rfl,rfl,rfl⟩
theorem vY(L:Lv X E):dw (CX1 X.prog X.w) X E:=by
 intro pins σ H s e s' I h;obtain⟨ea,C,H',rfl,F,hE⟩:=h;rw[L.xe];obtain⟨B,a0,fl,hB,kp,th⟩:=id F.fly;have fl':=fl;rw[L.stk]at fl';refine wpAny_leaves_onW (by rw[I.ok.frames,L.stk]) L.fr fl' λh' fl2 hs=>?_;obtain⟨u,ok⟩:=lW F.un fl hB kp th fl2.1 hs;have J:Inv X pins σ H' {s' with heap:=h'}:=I.call' (s':={s' with heap:=h'}) F.os u ok F.bare λb z=>absurd z (by simp)
 exact⟨ea,C,H',rfl,I.fly_up L.ex J F.new fl2 hB kp th,hE⟩
theorem Inv.ground(I:Inv X pins σ H s):(hideAll s.heap (frs X.stack)).StaysIn s.heap∧s.heap.FunFrames (hideAll s.heap (frs X.stack)) X.stack∧HOk X.prog X.w H (hideAll s.heap (frs X.stack)) :=
 ⟨λb o q=>of_hideAll _ q,PySem.W.funFrames_hide I.stack λenv he b hb=>mem_filterMap.mpr ⟨env,he,hb⟩,sq I.hok I.stkFree⟩
theorem yF(L:Lv X E)(I:Inv X pins σ H s){h':Heap}{vs:List Value}(hx:Heap.MadeExcOf s.heap h' ea (.ref C) vs)(hE:E (.ref C) none H):X.xe (.ref ea) {s with heap:=h'}:=by
 rw[L.xe];obtain⟨g1,g2,g3⟩:=I.ground;have g2':s.heap.FunFrames (hideAll s.heap (frs X.stack)) (X.env::X.outer):=L.stk ▸ g2;refine wpAny_leaves_madeW (s:={s with heap:=h'}) (by rw[I.ok.frames,L.stk]) L.fr g1 g2' hx λh'' t fl _ _ hs=>?_;have hs':s.heap.UpToSlots h'':=(Heap.UpToSlots.of_keeps hx.keeps).trans hs;have u:Un (frs X.stack) [] H H s.heap h'':=⟨λb o e n hb _=>fl.1 b o (hideAll_get _ e hb),λb o e n hb _=>by
   obtain⟨_,o',ho',hd⟩:=g2.mem hb;rw[e]at ho';cases ho';exact hs' b o e hd,λb o e n _=>n,λb o e _=>by
   by_cases hb:b∈frs X.stack
   ·obtain⟨_,o',ho',hd⟩:=g2.mem hb;obtain⟨sl,q⟩:=hs' b o' ho' hd;exact⟨_,q⟩
   ·exact⟨o,fl.1 b o (hideAll_get _ e hb)⟩,λ_ _ q=>q,λ_ _ _ q=>q,λb ps q=>⟨#[],by simpa using q⟩⟩
 have J:Inv X pins σ H {s with heap:=h''}:=I.call' (s':={s with heap:=h''}) rfl u (g3.kept fl.1) I.bare λb z=>absurd z (by simp)
 have new:H ea=none:=by
  cases q:H ea with
  |none=>rfl
  |some o =>
   obtain⟨ob,e⟩:=(I.hok ea o q).ex;have h2:=hx.new;rw[e]at h2;cases h2
 exact⟨ea,C,H,rfl,I.fly_up L.ex J new fl g3 (λb o e _ hb=>hideAll_get _ e hb) λb o e hb=>⟨o,hideAll_get _ e hb⟩,hE⟩
end
end L2
namespace XI
open PySem PySem.Spec PySem.W
section
variable{prog:Program}{w:World}{A:Around}{E:Value→Shared→Prop}{h:Heap}{g:Array GenState}{d:Drawn}{t:Nat}{os:OsState}{a:Addr}{o:Obj}{vs:Array Value}{nm q:Str}{C N:Addr}{bs bm:List Value}{hdct:Bool}{sn:List Str}{sub:List Value}{ab:Bool}{col:Option Bool}{dd:Option Addr}{k0 k1 k2 k3 k5:Option Value}{newId:String}
theorem qx{R:Result→Shared→Prop}(hC:h.get? C=some (excClassObj nm q C N bs bm hdct sn sub ab col dd k0 k1 k2 k3 k5 newId))(hb:bm.contains (.type "object")=true)(hx:h.get? a=some o)(hc:o.cls=.ref C)(hq:R (.ok (.ret (.ref C))) ⟨h,g,d,t,os⟩):
  codeAny (model prog w) A (.call (.builtin "getset_descriptor.__get__") ⟨[.builtin "object.__class__",.ref a,.ref C],[]⟩) R ⟨h,g,d,t,os⟩:=by
 have hT5:(⟨h,g,d,t,os⟩:Shared).TypeIs (.builtin "object.__class__") "getset_descriptor":=F.typeOf_object_class;have hcB:(Value.ref C::bm).contains (.type (".".intercalate ("object.__class__".cutAt '.').dropLast))=true:=by
  rw[F.owner_object_class,List.contains_cons,hb];rfl
 refine codeAny_call_builtin F.slot_gs_get.plain F.entry_gs_get (F.slot_gs_get.check _ _ _ _ _ _ _ _ hT5 (F.args_gs_get _ _ _) ?_)
 repeat (any_goals (first|assumption|(with_reducible refine wpAny_loadPart_at hx ?_;rw[hc]) | (with_reducible refine wpAny_isSubtype_exc hC ?_;rw[hcB])|wp_step))
 refine⟨Code.quiet_builtin _ (by decide +kernel),codeAny_builtin F.entry_object_class ?_⟩
 repeat (any_goals (first|assumption|(with_reducible refine wpAny_loadPart_at hx ?_;rw[hc])|wp_step))
theorem ss{M:Model}{nameV:Value}{Q:Unit→Shared→Prop}(hC:h.get? C=some (excClassObj nm q C N bs bm hdct sn sub ab col dd k0 k1 k2 k3 k5 newId))(hb:bm.contains (.type "BaseException")=true)(hx:h.get? a=some o)(hc:o.cls=.ref C)(hq:Q () ⟨h,g,d,t,os⟩):wpAny M A (checkBuiltinCall "BaseException.__getattribute__" ⟨[.ref a,nameV],[]⟩) Q E ⟨h,g,d,t,os⟩:=by
 have hk:builtinKind "BaseException.__getattribute__"=some .slot:=by decide +kernel
 have hsplit:splitId "BaseException.__getattribute__"=some ("BaseException","__getattribute__"):=by decide +kernel
 have hcB:(Value.ref C::bm).contains (.type "BaseException")=true:=by rw[List.contains_cons,hb];rfl
 have ha:=F.args_bexc_ga (.ref a) nameV;simp only[checkBuiltinCall,hk,hsplit];refine wpAny_bind ?_
 ·unfold isInstance
  repeat (first|(with_reducible refine wpAny_loadPart_at hx ?_;rw[hc]) | (with_reducible refine wpAny_isSubtype_exc hC ?_;rw[hcB])|wp_step)
  exact hq
theorem lX{tk:Tok}{Q:Fin→Shared→Prop}(hC:h.get? C=some (excClassObj nm q C N bs bm hdct sn sub ab col dd k0 k1 k2 k3 k5 newId))(hb:bm.contains (.type "object")=true)(LC:Looks (model prog w) h (typeLookup (.ref C) "__class__") (some (.builtin "object.__class__")))(hx:h.get? a=some o)(hc:o.cls=.ref C)(hq:Q (.done (.ret (.ref C))) ⟨h,g,d,t,os⟩):
  wpAny (model prog w) A (Builtin.«object.__getattribute__» ⟨[.ref a,.str "__class__" tk],[]⟩) Q E ⟨h,g,d,t,os⟩:=by
 have hT5:(⟨h,g,d,t,os⟩:Shared).TypeIs (.builtin "object.__class__") "getset_descriptor":=F.typeOf_object_class;have f5:=F.typeOf_object_class;have f6:=F.slot_gs_get.lookup;have f7:=F.slot_gs_set.lookup
 repeat (any_goals (first|assumption|(with_reducible refine wpAny_loadPart_at hx ?_;rw[hc])|with_reducible refine LC.at ?_|wp_step))
 refine qx hC hb hx hc ?_
 repeat (any_goals (first|assumption|wp_step))
theorem nG{Q:Option Value→Shared→Prop}(hC:h.get? C=some (excClassObj nm q C N bs bm hdct sn sub ab col dd k0 k1 k2 k3 k5 newId))(hb:bm.contains (.type "object")=true)(hbb:bm.contains (.type "BaseException")=true)(LG:Looks (model prog w) h (typeLookup (.ref C) "__getattribute__") (some (.builtin "BaseException.__getattribute__")))(LA:Looks (model prog w) h (typeLookup (.ref C) "__getattr__") none)(LC:Looks (model prog w) h (typeLookup (.ref C) "__class__") (some (.builtin "object.__class__")))(hx:h.get? a=some o)(hc:o.cls=.ref C)(hq:Q (some (.ref C)) ⟨h,g,d,t+1,os⟩):
  wpAny (model prog w) A (getAttr? (.ref a) "__class__") Q E ⟨h,g,d,t,os⟩:=by
 have f3:=F.attr_ValueError.ga.bind (.ref a);have hx0:(false&&onTheHeap (builtin "BaseException.__getattribute__"))=false:=rfl;have hx2:(builtin "BaseException.__getattribute__"==builtin "object.__getattribute__")=false:=by decide +kernel
 have hx1:(onTheHeap (Value.ref C)&&builtin "BaseException.__getattribute__"==builtin "object.__getattribute__")=false:=by rw[hx2];rfl
 unfold getAttr? getAttrBy?
 repeat (any_goals (first|assumption|(with_reducible refine wpAny_loadPart_at hx ?_;rw[hc])|with_reducible refine LG.at ?_|with_reducible refine LA.at ?_|wp_step))
 refine codeAny_call_builtin F.attr_ValueError.ga.plain F.entry_bexc_ga (ss hC hbb hx hc (lX hC hb LC hx hc ?_))
 repeat (any_goals (first|assumption|wp_step))
end
def lY(K:Frag)(C:Addr):Bool:=ktsIn K C "object"&&findIn K (.ref C) "__getattribute__"==some (some (.builtin "BaseException.__getattribute__"))&&findIn K (.ref C) "__getattr__"==some none&&findIn K (.ref C) "__class__"==some (some (.builtin "object.__class__"))
def lZ(e C:Addr)(h:Heap):Prop:=∃o vs,h.get? e=some o∧o.cls=.ref C∧o.data=.fields vs
theorem ma{K:Frag}{e C:Addr}(q:lY K C=true):KitX K (.ref e) (.ref C) (lZ e C):=by
 unfold lY at q;simp only[and_eq_true,beq_iff_eq]at q;obtain⟨⟨⟨q1,q2⟩,q3⟩,q4⟩:=q;refine⟨λM h X p=>?_,λM h X p=>?_,λh tp dd its n sl X htp=>?_,λ{prog w A E Q s} X p hq=>?_⟩
 ·obtain⟨o,vs,h1,h2,_⟩:=p;exact h2 ▸ (Looks.ld h1).andThen .now
 ·obtain⟨nm,q',N,bs,bm,hdct,sn,sub,ab,col,dd,k0,k1,k2,k3,k5,newId,hC,_,_⟩:=kts_cls X q1;intro A' Q' E' s' k q;unfold isType loadHead;exact wpAny_bind (wpAny_loadPart (k _ _ hC) (wpAny_pure q))
 ·obtain⟨nm,q',N,bs,bm,hdct,sn,sub,ab,col,dd',k0,k1,k2,k3,k5,newId,hC,_,_⟩:=kts_cls X q1;refine Bool.eq_false_iff.mpr λz=>?_;have e:C=tp:=Value.ref.inj (beq_iff_eq.mp z);subst e;have z2:type "type"=type "tuple":=congrArg Obj.cls (Option.some.inj (hC.symm.trans htp));injection z2 with z3
  exact absurd z3 (by decide)
 ·obtain⟨h0,g,d,t,os⟩:=s;obtain⟨o,vs,h1,h2,_⟩:=p;obtain⟨nm,q',N,bs,bm,hdct,sn,sub,ab,col,dd,k0,k1,k2,k3,k5,newId,hC,hb1,hb2⟩:=kts_cls X q1;exact nG hC hb2 hb1 (looks_findIn X q2) (looks_findIn X q3) (looks_findIn X q4) h1 h2 hq
end XI
namespace L2
open PySem PySem.Spec PyProof.Rows
section
variable{X:Cx}{pins:List (Addr×Obj)}{σ:St}{H:Hp}{s:Shared}
def tF2(te:TE):TE:=λσ H Q=>te σ H λv H1=>∃i:Int,v=.int i∧0≤i∧i≤60∧∀y,Q (.str y) H1
theorem nH(i:Int)(h0:0≤i)(h1:i≤60):(ofString (toString i)).length≤100:=by
 have key:∀n:Fin 61,(ofString (toString ((n.val:Nat):Int))).length≤100:=by decide +kernel
 have:=key ⟨i.toNat,by omega⟩;have e:((i.toNat:Nat):Int)=i:=by omega
 rw[e]at this;exact this
theorem yG{x:Str}{j:Nat}{p1 p2 p3:Pos}{e:Expr}{te:TE}(he:PE X e te)(hx:x.length≤800):PE X (.JoinedStr [.Constant (.str x) j p1,.FormattedValue e (-1) none p2] p3) (tF2 te):=by
 intro pins s σ H Q I h;have hl:(empty++x).length≤800:=by rw[strLen_append];show 0+x.length≤800;omega
 refine JoinedStr_many (joinParts_cons (Constant_str ?_));refine⟨le_of_lt (aF (by omega)),?_⟩;refine joinParts_cons (FormattedValue_plain (thn (he pins _ σ H _ (I.tok _) h) λv s1 hpt=>?_));obtain⟨y,H1,I1,r1,q1⟩:=hpt;obtain⟨i,rfl,h0,h1,q⟩:=q1;obtain⟨t,rfl⟩:=r1;have h2:=nH i h0 h1;have h3:((empty++x)++ofString (toString i)).length≤1000:=by rw[strLen_append];omega
 refine formatField_int_small (lt_of_le_of_lt (Nat.log2_le_self _) (by omega)) ⟨le_of_lt (aF h3),?_⟩;exact joinParts_nil ⟨.str _,H1,(I1.tok _).tok _,⟨_,rfl⟩,q _⟩ (le_of_lt (aF h3))
abbrev bmV:List Value:=[.type "ValueError",.type "Exception",.type "BaseException",.type "object"]
abbrev yH(X:Cx)(x:Str)(C:Addr):Prop:=OwnCls x C bmV "ValueError.__new__" X.mg X.base
def wZ(C:Addr)(E:XK)(ta:TE):TS:=λ_ σ H=>hX ta ng σ H λvs H1=>vs.length≤sizeLine∧E (.ref C) none H1
theorem md{E:XK}(L:Lv X E){x:Str}{C:Addr}{np cpos pos:Pos}{a:Expr}{ta:TE}(O:yH X x C)(hh:X.A.handled=none)(hg:Gl X x)(ha:PE X a ta)(hs:starEach [a] X.env=[(false,eval a X.env)]:=by rfl)(hd:(x==("__debug__":Str))=false:=by decide):PS X (.Raise (some (.Call (.Name x np) [a] [] cpos)) none pos) (wZ C E ta):=by
 intro pins s σ H D I h;obtain⟨tl,N,nm,q,bs,hdct,sn,sub,ab,col,dd,k0,k1,k2,k3,k5,mN,hC,hN,hni,T⟩:=O.obj;refine wpAny_Raise_call_subT (C:=C) (nm:=nm) (q:=q) (N:=N) (bs:=bs) (bm:=tl) (hdct:=hdct) (sn:=sn) (sub:=sub) (ab:=ab) (col:=col) (dd:=dd) (k0:=k0) (k1:=k1) (k2:=k2) (k3:=k3) (k5:=k5)
  PySem.F.excBase_ValueError (mN:=mN) (T.hasType PySem.F.excBase_ValueError.hasBase) hh (by rw[hs];rfl) hni (fX I hg O.bound ⟨rfl,?_⟩ hd)
 have hA:PA X [a] (hX ta ng):=aa ha ae hs;have h':=hA cpos pins s σ H (λvs H1=>vs.length≤sizeLine∧E (.ref C) none H1) I h;rw[hs]at h'⊢;refine evalArgs_plain (thn h' λus s2 hpt=>?_);obtain⟨vs,H2,I2,r2,q2⟩:=hpt;exact⟨rfl,by rw[←r2.length];exact q2.1,I2.bk _ _ hC,hN.keeps I2.bk,T.keeps I2.bk,λh' e hx=>yF L I2 hx q2.2⟩
theorem uQ{M:Model}{A:Around}{E:Value→Shared→Prop}{nm q:Str}{C N:Addr}{bs bm:List Value}{hdct:Bool}{sn:List Str}{sub:List Value}{ab:Bool}{col:Option Bool}{dd:Option Addr}{k0 k1 k2 k3 k5:Option Value}{newId:String}{h:Heap}{g:Array GenState}{d:Drawn}{t:Nat}{os:OsState}{e T:Addr}{oe:Obj}{Q:Bool→Shared→Prop}(hT:h.get? T=some (excClassObj nm q T N bs bm hdct sn sub ab col dd k0 k1 k2 k3 k5 newId))(hbase:bm.contains (.type "BaseException")=true)(LCT:PySem.W.Looks M h (isSubtype (.ref C) (.ref T)) true)(he:h.get? e=some oe)(hcls:oe.cls=.ref C)(hq:Q true ⟨h,g,d,t,os⟩):wpAny M A (excMatches (.ref e) (.ref T)) Q E ⟨h,g,d,t,os⟩:=by
 have hcB:(Value.ref T::bm).contains (.type "BaseException")=true:=by rw[List.contains_cons,hbase,Bool.or_true]
 have f:=tc_notTuple;unfold excMatches
 repeat (first|(with_reducible refine wpAny_loadPart_at he ?_;rw[hcls])|with_reducible refine LCT.at ?_|with_reducible refine wpAny_loadPart_at hT ?_|(with_reducible refine wpAny_isSubtype_exc hT ?_;rw[hcB])|wp_step)
 exact hq
theorem Inv.forget(I:Inv X pins σ H s){l:Nat}{n:Str}{h':Heap}{m:Str→Option Value}{v:Option Value}{tk:Nat}(hN:X.N.Nodup)(hl:X.N[l]?=some n)(hm:s.heap.Ns X.env.locals m)(hn':h'.Ns X.env.locals (λx=>if x=n then v else m x))(hs:SameBut X.env.locals s.heap h'):Inv X pins (σ.set l none) H {s with heap:=h',toks:=tk}:=by
 obtain⟨m0,hn,hlk⟩:=id I.loc;have em:∀x,m0 x=m x:=λx=>by
  obtain⟨o,es,ep,e1,e2,e3,e4⟩:=hn;obtain⟨o',es',ep',f1,f2,f3,f4⟩:=hm;rw[e1]at f1;cases f1;rw[e2]at f2;cases f2;rw[←e4,←f4]
 have hlσ:l<σ.length:=by rw[I.len];exact(List.getElem?_eq_some_iff.mp hl).1
 have cne:=I.cne;have ne:∀b o,X.s₀.heap.get? b=some o→b≠X.env.locals:=λb o e=>ne_of_lt (lt_of_lt_of_le (lt_size e) I.ok.above);refine⟨I.ok,I.os,I.bare,⟨λb o e n hb hx=>(hs.2 b (ne b o e)).trans (I.base.keep b o e n hb hx),λb o e n hb hx=>?_,I.base.free,λb o e hx=>?_,I.base.tups,I.base.frzs,I.base.tbls⟩,⟨_,hn',λj y v' e1 e2 e3=>?_⟩,λy c e=>?_,I.free,I.freeC,λp hp=>?_,λb ob e=>?_,by simpa using I.len⟩
 ·obtain⟨sl,e1⟩:=I.base.slot b o e n hb hx;exact⟨sl,(hs.2 b (ne b o e)).trans e1⟩
 ·obtain⟨o',e1⟩:=I.base.there b o e hx;exact⟨o',(hs.2 b (ne b o e)).trans e1⟩
 ·by_cases hj:j=l
  ·subst hj;rw[getElem?_set_self hlσ]at e2;cases e2
  ·rw[List.getElem?_set_ne (symm hj)]at e2;obtain⟨u',r',q⟩:=hlk j y v' e1 e2 e3;refine⟨u',r',?_⟩;rcases q with⟨k,e⟩|⟨k,c,e,z⟩
   ·refine .inl ⟨k,?_⟩;have hy:y≠n:=λe=>hj (iF hN e1 (e ▸ hl));show(if y=n then v else m y)=some u';rw[if_neg hy,←em];exact e
   ·exact .inr ⟨k,c,e,z.sameBut hs (cne y c e)⟩
 ·obtain⟨w',z⟩:=I.cell y c e;exact⟨w',z.sameBut hs (cne y c e)⟩
 ·obtain⟨p1,p2,p3,p4,p5⟩:=I.pin p hp;exact⟨(hs.2 p.1 p3).trans p1,p2,p3,p4,p5⟩
 ·refine(I.hok b ob e).stay (λc w' hc q=>(hs.2 c ?_).trans q) (λ_ q=>q) λ_ _ q=>q;rintro rfl;rcases hc with hc|hc
  ·rw[←hc,I.free]at e;cases e
  ·rw[I.free]at hc;cases hc
theorem Inv.caught{H':Hp}{ea C:Addr}{s':Shared}{B h6:Heap}{a0:Value}(I:Inv X pins σ H s)(F:Fly X.prog X.w X.stack H s H' ea C s')(fl:FlyingW B X.stack ea (.ref C) a0 s'.heap)(hB:HOk X.prog X.w H' B)(kp:∀b o,s.heap.get? b=some o→H b=none→b∉frs X.stack→B.get? b=some o)(th:∀b o,s.heap.get? b=some o→b∉frs X.stack→∃o',B.get? b=some o')(f6:FlyingW B X.stack ea (.ref C) a0 h6)(hs:s'.heap.UpToSlots h6):
  Inv X pins σ (upd H' ea (.ext (XI.lZ ea C))) {s' with heap:=h6}:=by
 obtain⟨u,ok⟩:=lW F.un fl hB kp th f6.1 hs;obtain⟨oe,vs,g1,g2,g3,_⟩:=f6.first;have ne:∀b o,s.heap.get? b=some o→b≠ea:=λb o e z=>by
  by_cases hb:b∈frs X.stack
  ·obtain⟨_,o',ho',hd⟩:=f6.2.2.1.mem hb;rw[z,g1]at ho';cases ho';exact hd _ g3
  ·obtain⟨o',q⟩:=th b o e hb;rw[z,f6.2.1]at q;cases q
 have ner:∀b u,H' b=some u→b≠ea:=λb u e z=>by rw[z,F.new]at e;cases e
 refine I.call' (s':={s' with heap:=h6}) F.os ⟨u.keep,u.slot,λb o e n hx=>?_,u.there,λb xs e=>?_,λb o v e=>?_,λb ps e=>?_⟩ (λb ob e=>?_) F.bare λb z=>absurd z (by simp)
 ·rw[ai (ne b o e)];exact u.free b o e n hx
 ·have:=u.tups b xs e;rw[ai (ner b _ this)];exact this
 ·have:=u.frzs b o v e;rw[ai (ner b _ this)];exact this
 ·obtain⟨more,this⟩:=u.tbls b ps e;exact⟨more,by rw[ai (ner b _ this)];exact this⟩
 ·by_cases hb:b=ea
  ·subst hb;rw[ac]at e;cases e;refine⟨⟨oe,vs,g1,g2,g3⟩,⟨oe,g1⟩,λh1 h2 ⟨o,vs,a1,a2,a3⟩ k=>⟨o,vs,k o a1,a2,a3⟩⟩
  ·rw[ai hb]at e;exact(ok b ob e).stay (λ_ _ _ q=>q) (λc q=>by rw[ai (ner c _ q)];exact q) λc xs q=>by rw[ai (ner c _ q)];exact q
structure TryOk(X:Cx):Prop where
 no:∀e s,¬X.xe e s
 stk:X.stack=X.env::X.outer
 fr:X.env.frame=some X.env.locals
end
end L2
namespace DL
open PySem PySem.Spec PyProof.Rows
theorem iZ:entryFor table "dict.update.loop"=some Builtin.«dict.update.loop»:=entryFor_of_tree (by kernel_rfl)
theorem dR:plainId "dict.update.loop"=true:=by decide +kernel
theorem kJ:typeLookup (.type "list") "keys"=pure none:=by rw[typeLookup_type,builtinLookup_eq_fast];kernel_rfl
section
variable{prog:Program}{w:World}{A:Around}{E:Value→Shared→Prop}{s:Shared}
theorem uR{a:Addr}{xs:Array Value}{k:Nat}{sl:Array (Option Value)}{u:Tok}{Q:Value→Shared→Prop}(hx:s.heap.get? a=some {cls:=.type "list",dict:=none,data:=.seq xs k,slots:=sl})(hA:A.handled=none)(h:∀h' tk e,Heap.NewExcOf s.heap h' e "AttributeError"→E (.ref e) {s with heap:=h',toks:=tk}):
  wpAny (model prog w) A (getAttrBy (.ref a) (.str "keys" u) false) Q E s:=by
 obtain⟨hp,g,d,tk,os⟩:=s;have hT:∀tk',(⟨hp,g,d,tk',os⟩:Shared).TypeIs (.ref a) "list":=λ_=>⟨_,hx,rfl⟩;have f1:=sub_AttributeError;have f3:=F.slot_list_getattribute.lookup;have f4:=F.slot_list_getattribute.bind (.ref a);have f5:=am_list_getattr_none;unfold getAttrBy
 repeat (any_goals (first|assumption|exact hT _|((with_reducible show wpAny _ _ (call (builtin "list.__getattribute__") _ _) _ _ _);refine call_meets F.slot_list_getattribute (hT _) am_entry_list_getattribute (F.args_list_getattribute_2 _ _) (meets_getattribute_miss_list a xs k sl "keys" _ kJ (by decide) (by size_fits)) ⟨hx,hA,λh' tk' e hx'=>?_⟩)|wp_step))
 obtain⟨t',u',he⟩:=hx'.there;show wpAny _ _ (getattributeRaised _ _ _ _ _ _ _) _ _ _;unfold getattributeRaised
 repeat (any_goals (first|assumption|wp_step))
 exact h _ _ _ hx'.of
theorem uS{a:Addr}{xs:Array Value}{k:Nat}{sl:Array (Option Value)}{Q:Option Value→Shared→Prop}(hx:s.heap.get? a=some {cls:=.type "list",dict:=none,data:=.seq xs k,slots:=sl})(hA:A.handled=none)(h:∀h' tk,(∀b o,s.heap.get? b=some o→h'.get? b=some o)→Q none {s with heap:=h',toks:=tk}):
  wpAny (model prog w) A (getAttr? (.ref a) "keys") Q E s:=by
 obtain⟨hp,g,d,tk,os⟩:=s;have f1:=sub_AttributeError;unfold getAttr? getAttrBy?
 repeat (any_goals (first|assumption|((with_reducible show wpAny _ _ (getAttrBy _ _ false) _ _ _);refine uR (s:=⟨hp,g,d,_,os⟩) hx hA λh' tk' e hx'=>?_)|wp_step))
 obtain⟨⟨oc,od,odt,osl⟩,vs,he,hc,_,_⟩:=hx'.there;simp only at hc;subst hc
 repeat (any_goals (first|assumption|with_reducible refine wpAny_loadPart_at he ?_|wp_step))
 exact h h' tk' λb o e=>hx'.keeps b o e
end
section
variable{prog:Program}{w:World}{A:Around}{E:Value→Shared→Prop}{R:Result→Shared→Prop}{I:Addr}{fp wr:List Addr}{G:Array GenState→Array GenState→Prop}{n:Nat}{P:Nat→Value→Prop}{St:Nat→Shared→Prop}
theorem qy(W:WalksS prog w A.in1 I fp wr G n P St)(d:Addr)(hdf:d∉fp)(ad:Nat→Addr)(kk vv:Nat→Value)(hval:∀i v,P i v→v=.ref (ad i))(had:∀i,i<n→ad i∉d::wr)(D:Nat→Heap→Prop)(hD:∀i (h h':Heap),D i h→(∀b o,b∉wr→h.get? b=some o→h'.get? b=some o)→D i h')(step:∀i (s:Shared) (E:Value→Shared→Prop) (Q:Unit→Shared→Prop),i<n→D i s.heap→(∀h' tk,s.toks≤tk→SameBut d s.heap h'→D (i+1) h'→Q () {s with heap:=h',toks:=tk})→wpAny (model prog w) A.in1 (dictSet d (kk i) (vv i)) Q E s):
  ∀(k i:Nat)(s:Shared)(tk:Tok),n-i=k→i≤n→St i s→D i s.heap→(∀j,j<n→IsTup s.heap (ad j) #[kk j,vv j]) →
   (∀s',Moved (d::wr) G s s'→D n s'.heap→R (.ok (.ret .none)) s') →
   codeAny (model prog w) A (.builtin "dict.update.loop" ⟨[.ref d,.ref I,.int i tk,.none],[]⟩) R s:=by
 have hdw:d∉wr:=λh=>hdf (W.sub _ h);have hsub:∀b∈wr,b∈d::wr:=λb hb=>mem_cons_of_mem _ hb;have hadw:∀i,i<n→ad i∉wr:=λi hi h=>had i hi (mem_cons_of_mem _ h);have hadd:∀i,i<n→ad i≠d:=λi hi h=>had i hi (by rw[h];exact mem_cons_self);intro k
 induction k with
 |zero =>
  intro i s tk hk hi hst hDi htp hR;have hin:i=n:=by omega
  subst hin;refine codeAny_builtin iZ ?_;rw[Around.under_plainId dR _];show wpAny _ A.in1 (pyNext (.ref I) >>= _) _ _ s;refine wpAny_bind (W.done s _ _ hst λs' hm=>?_);show wpAny _ A.in1 (Builtin.Dict.addKeywords d [] >>= λ_=>ret Value.none) _ _ s';exact wpAny_bind (wpAny_pure (wpAny_pure (hR s' (hm.mono hsub) (hD _ _ _ hDi hm.heap))))
 |succ k ih =>
  intro i s tk hk hi hst hDi htp hR;have hlt:i<n:=by omega
  refine codeAny_builtin iZ ?_;rw[Around.under_plainId dR _];show wpAny _ A.in1 (pyNext (.ref I) >>= _) _ _ s;refine wpAny_bind (W.item i s _ _ hlt hst λv s' hP hst' hm=>?_);have hv:=hval i v hP;subst hv;have hDi':D i s'.heap:=hD _ _ _ hDi hm.heap;have htp':∀j,j<n→IsTup s'.heap (ad j) #[kk j,vv j]:=λj hj=>by
   obtain⟨o,ho,r⟩:=htp j hj;exact⟨o,hm.heap _ o (hadw j hj) ho,r⟩
  obtain⟨ot,hot,hct,nt,hdt⟩:=htp' i hlt;have hT:s'.TypeIs (.ref (ad i)) "tuple":=⟨ot,hot,hct⟩;refine wpAny_bind (wpAny_holding ?_);refine wpAny_bind (wpAny_tryCatch ?_);unfold Builtin.Dict.pairItems;refine wpAny_bind (wpAny_typeOf hT ?_);rw[if_pos (by decide)];generalize hDS:dictSet=DS;obtain⟨hp,g,dr,t,os⟩:=s';obtain⟨ocls,odict,odata,oslots⟩:=ot;simp only at hct hdt;subst hct hdt
  repeat (any_goals (first|assumption|with_reducible refine wpAny_loadPart_at hot ?_|wp_step))
  subst hDS;refine step i _ _ _ hlt hDi' λh' tk' htk hsb hD'=>?_;have hsb':SameBut d hp h':=hsb;have hkeep:∀b o,b∉d::wr→hp.get? b=some o→h'.get? b=some o:=λb o hb e=>by
   rw[hsb'.2 b (λz:b=d=>hb (by rw[z];exact mem_cons_self))];exact e
  refine wpAny_pure ⟨plainId_quiet dR _,?_⟩;refine ih (i+1) _ _ (by omega) hlt (W.frame _ _ _ _ hst' htk λb hb o e=>?_) hD' (λj hj=>?_) λs'' hm'' hD''=>?_
  ·rw[hsb'.2 b (λh:b=d=>hdf (by rw[←h];exact hb))];exact e
  ·obtain⟨o,ho,r⟩:=htp' j hj;exact⟨o,hkeep _ o (had j hj) ho,r⟩
  ·exact hR s'' (Moved.trans W.gtrans ((hm.mono hsub).then_heap htk λb o hb e=>hkeep b o hb e) hm'') hD''
end
section
variable{prog:Program}{w:World}{A:Around}{E:Value→Shared→Prop}{s:Shared}
theorem ja{l:Addr}{items:Array Value}{nl:Nat}{sl:Array (Option Value)}{Q:Value→Shared→Prop}(hh:A.handled=none)(hl:s.heap.get? l=some {cls:=.type "list",dict:=none,data:=.seq items nl,slots:=sl})(ad:Nat→Addr)(kk vv:Nat→Value)(hi:∀(i:Nat) (v:Value),items[i]?=some v→v=Value.ref (ad i))(ht:∀i,i<items.size→IsTup s.heap (ad i) #[kk i,vv i])(D:Nat→Heap→Prop)(hD0:∀h',h'.get? s.heap.objs.size=some {cls:=.type "dict",data:=.dict #[]}→(∀b o,s.heap.get? b=some o→h'.get? b=some o)→D 0 h')(hD:∀i (h h':Heap),D i h→(∀b o,b≤s.heap.objs.size→h.get? b=some o→h'.get? b=some o)→D i h')(step:∀i (s':Shared) (E:Value→Shared→Prop) (Q:Unit→Shared→Prop),i<items.size→D i s'.heap→(∀h' tk,s'.toks≤tk→SameBut s.heap.objs.size s'.heap h'→D (i+1) h'→Q () {s' with heap:=h',toks:=tk}) →
   wpAny (model prog w) A.in1.in1 (dictSet s.heap.objs.size (kk i) (vv i)) Q E s')(h:∀h' tk,D items.size h'→(∀b o,s.heap.get? b=some o→h'.get? b=some o)→Q (.ref s.heap.objs.size) {s with heap:=h',toks:=tk}):
  wpAny (model prog w) A (call (.type "dict") [.ref l]) Q E s:=by
 refine callType_codes (Q₁:=λobj s₁=>obj=.ref s.heap.objs.size∧s₁={s with heap:=s.heap.push {cls:=.type "dict",data:=.dict #[]}}) F.kt_called_dict (F.kt_typeCall_dict_1 _) F.entry_dict_init (kt_code_dict_new _ ⟨rfl,rfl⟩) ?_;rintro obj s₁ ⟨rfl,rfl⟩;have hnew:(s.heap.push {cls:=.type "dict",data:=.dict #[]}).get? s.heap.objs.size=some {cls:=.type "dict",data:=.dict #[]}:=get?_push_size _ rfl;have hTd:Shared.TypeIs {s with heap:=s.heap.push {cls:=.type "dict",data:=.dict #[]}} (.ref s.heap.objs.size) "dict":=⟨_,hnew,rfl⟩
 have hl':(s.heap.push {cls:=.type "dict",data:=.dict #[]}).get? l=some {cls:=.type "list",dict:=none,data:=.seq items nl,slots:=sl}:=get?_push_of_some _ hl;have hTl:Shared.TypeIs {s with heap:=s.heap.push {cls:=.type "dict",data:=.dict #[]}} (.ref l) "list":=⟨_,hl',rfl⟩
 refine⟨hTd,F.args_dict_init_2 _ _,?_⟩;unfold Builtin.«dict.__init__»;refine wpAny_bind ?_;unfold Builtin.Dict.selfAndRest;refine wpAny_bind (wpAny_notOrdered_dict hTd ?_);show wpAny _ _ (pure (s.heap.objs.size,[Value.ref l])) _ _ _;refine wpAny_pure ?_;show wpAny _ _ (Builtin.Dict.updateFrom "dict.__init__" s.heap.objs.size (.ref l) [] .none) _ _ _;unfold Builtin.Dict.updateFrom;refine wpAny_bind (wpAny_typeOf hTl ?_);rw[if_pos (by decide)];refine wpAny_bind (uS (s:={s with heap:=s.heap.push {cls:=.type "dict",data:=.dict #[]}}) hl' (show A.in1.in1.handled=none by simp[hh]) λh1 tk1 hk1=>?_);have hk1':∀b o,(s.heap.push {cls:=.type "dict",data:=.dict #[]}).get? b=some o→h1.get? b=some o:=hk1;have hL1:h1.IsList l items:=⟨_,hk1' _ _ hl',rfl,nl,rfl⟩;rw[if_pos (show(none:Option Value).isNone=true from rfl)];refine wpAny_bind (wpAny_rule ?_);refine wpAny_bind (wpAny_pyIter_list hL1 ?_);have hlS:l<s.heap.objs.size:=lt_size hl;have hS1:s.heap.objs.size<h1.objs.size:=lt_size (hk1' _ _ hnew);have k0:∀b o,s.heap.get? b=some o→h1.get? b=some o:=λb o e=>hk1' b o (get?_push_of_some _ e);have hadlt:∀i,i<items.size→ad i<s.heap.objs.size:=λi hi'=>by
  obtain⟨o,ho,_⟩:=ht i hi';exact lt_size ho
 refine wpAny_pure ⟨plainId_quiet dR _,qy (A:=A.in1) ((Walks.list (show A.in1.in1.handled=none by simp[hh]) h1.objs.size l (ne_of_lt (lt_trans hlS hS1)) items).toS) s.heap.objs.size ?hdf ad kk vv hi ?had D ?hD' (λi s' E Q hi' hDi hq=>step i s' E Q hi' hDi hq)
  (items.size-0) 0 _ 0 (by omega) (zero_le _) ⟨⟨_,get?_push_size _ rfl,rfl,rfl⟩,hL1.push _⟩ ?hD0' ?ht' λs' hm hDn=>?_⟩
 case hdf =>
  simp only[mem_cons,not_mem_nil,or_false,not_or];exact⟨ne_of_lt hS1,ne_of_gt hlS⟩
 case had =>
  intro i hi';simp only[mem_cons,not_mem_nil,or_false,not_or];exact⟨ne_of_lt (hadlt i hi'),ne_of_lt (lt_trans (hadlt i hi') hS1)⟩
 case hD' =>
  intro i g g' hDi hk;refine hD i g g' hDi λb o hb e=>hk b o ?_ e;simp only[mem_cons,not_mem_nil,or_false];exact ne_of_lt (lt_of_le_of_lt hb hS1)
 case hD0' =>
  exact hD0 _ (get?_push_of_some _ (hk1' _ _ hnew)) λb o e=>get?_push_of_some _ (k0 b o e)
 case ht' =>
  intro j hj;obtain⟨o,ho,r⟩:=ht j hj;exact⟨o,get?_push_of_some _ (k0 _ _ ho),r⟩
 obtain⟨h',g',d',tk',os'⟩:=s';have eg:g'=s.gens:=hm.gens;have ed:d'=s.drawn:=hm.drawn;have eo:os'=s.os:=hm.os;subst eg;subst ed;subst eo;refine⟨rfl,h h' tk' hDn λb o e=>?_⟩;have hb:b<s.heap.objs.size:=lt_size e;refine hm.heap b o ?_ (get?_push_of_some _ (k0 b o e));simp only[mem_cons,not_mem_nil,or_false,not_or];exact⟨ne_of_lt hb,ne_of_lt (lt_trans hb hS1)⟩
end
end DL
namespace L2
open PySem PySem.Spec PyProof.Rows
section
variable{X:Cx}
theorem nI{pins:List (Addr×Obj)}{σ:St}{H:Hp}{s:Shared}(I:Inv X pins σ H s){a:Addr}{x y:V}(h:H a=some (.tup [x,y])):∃u v,aJ x u∧aJ y v∧IsTup s.heap a #[u,v]:=by
 obtain⟨_,its,r,ht⟩:=I.hok a _ h;cases r with
 |cons r1 r =>
  cases r with
  |cons r2 r=>cases r;exact⟨_,_,r1,r2,by simpa using ht⟩
theorem su{κ:Type}{pins:List (Addr×Obj)}{σ:St}{H:Hp}{s:Shared}(I:Inv X pins σ H s){zs:List (Addr×κ×V)}(kf:Addr×κ×V→V)(hk:∀z∈zs,H z.1=some (.tup [kf z,z.2.2])):
  ∃f:Addr×κ×V→Value×Value,∀z∈zs,aJ (kf z) (f z).1∧aJ z.2.2 (f z).2∧IsTup s.heap z.1 #[(f z).1,(f z).2]:=by
 have hch:∀z:Addr×κ×V,∃p:Value×Value,z∈zs→aJ (kf z) p.1∧aJ z.2.2 p.2∧IsTup s.heap z.1 #[p.1,p.2]:=λz=>by
  by_cases hz':z∈zs
  ·obtain⟨u,v,a,b,c⟩:=nI I (hk z hz');exact⟨(u,v),λ_=>⟨a,b,c⟩⟩
  ·exact⟨(.none,.none),λh=>absurd h hz'⟩
 exact⟨λz=>Classical.choose (hch z),λz hz=>Classical.choose_spec (hch z) hz⟩
theorem bg{α:Type}{l:List α}{i:Nat}{d:α}(h:i<l.length):l.getD i d∈l∧l[i]?=some (l.getD i d):=by
 rw[getD_eq_getElem?_getD,getElem?_eq_getElem h];exact⟨getElem_mem h,rfl⟩
theorem qz{κ:Type}{zs:List (Addr×κ×V)}{d:Addr×κ×V}{i:Nat}{v:Value}(h:(((zs.map (·.1)).map Value.ref).toArray)[i]?=some v):v=Value.ref (zs.getD i d).1:=by
 have h':((zs.map (·.1)).map Value.ref)[i]?=some v:=by simpa using h
 rw[getElem?_map,getElem?_map]at h';rw[getD_eq_getElem?_getD];cases e:zs[i]? with
 |none=>rw[e]at h';cases h'
 |some z=>rw[e]at h';exact(Option.some.inj h').symm
theorem eW{α:Type}{l:List α}{i:Nat}{x:α}(h:l[i]?=some x):l.take (i+1)=l.take i++[x]:=by rw[take_succ,h];rfl
theorem qA{α κ:Type}{l:List α}{f:α→κ}{i:Nat}{x:α}(hn:(l.map f).Nodup)(h:l[i]?=some x):f x∉(l.take i).map f:=by
 intro hm;obtain⟨y,hy,e⟩:=mem_map.mp hm;obtain⟨j,hj,e2⟩:=mem_iff_getElem.mp hy;have hj':j<i:=by rw[length_take]at hj;omega
 have hi:i<l.length:=(List.getElem?_eq_some_iff.mp h).1;have e3:(l.map f)[j]'(by rw[length_map];omega)=(l.map f)[i]'(by rw[length_map];omega):=by
  rw[getElem_map,getElem_map];rw[List.getElem_take]at e2;rw[e2,e,(List.getElem?_eq_some_iff.mp h).2]
 have:=(getElem_inj hn).mp e3;omega
theorem hZ(hc:X.calm=true):bM X (.type "dict") (λxs H Q=>∃l,∃zs:List (Addr×Key×V),xs=[.ref l]∧H l=some (.lst ((zs.map (·.1)).map V.ref))∧(∀z∈zs,H z.1=some (.tup [kV z.2.1,z.2.2]))∧zs.length≤1000 ∧
  (zs.map (·.2.1)).Nodup∧((∀d o,H d=none→Q (.ref d) (upd H d (.frz o (.dK (zs.map (·.2))))))∨∀d,H d=none→Q (.ref d) (upd H d (.dK (zs.map (·.2)))))):=by
 intro pins s σ H xs us Q I r h;obtain⟨l,zs,rfl,hl,hk,hz,hnd,q⟩:=h;obtain⟨u,rfl,ru⟩:=ci r;cases ru;obtain⟨_,its,nl,rv,ho⟩:=I.hok l _ hl;have e:=dC rv;subst e;obtain⟨f,hf⟩:=su I (λz=>kV z.2.1) hk;have hsz:(((zs.map (·.1)).map Value.ref).toArray).size=zs.length:=by simp
 refine DL.ja (s:=s) (I.ok.hd hc) ho (λi=>(zs.getD i (0,.inl 0,.non)).1) (λi=>(f (zs.getD i (0,.inl 0,.non))).1) (λi=>(f (zs.getD i (0,.inl 0,.non))).2) (λi v hv=>qz hv) (λi hi=>?_)
  (λi h'=>h'.DictOf (aE X.prog X.w) s.heap.objs.size ((zs.take i).map λz=>(z.2.1,(f z).2))) (λh' hg _=>?_) (λi g g' hd hk=>?_) (λi s' E Q hi hd hq=>?_) λh' tk hd hkeep=>?_
 ·rw[hsz]at hi;exact(hf _ (bg hi).1).2.2
 ·exact⟨_,#[],0,hg,⟨rfl,rfl,rfl⟩,rfl,λ_ he=>by simp at he,Pairs.nil,nodup_nil⟩
 ·obtain⟨o,es,ep,ho,r⟩:=hd;exact⟨o,es,ep,hk _ o (le_refl _) ho,r⟩
 ·rw[hsz]at hi;obtain⟨hm,hg⟩:=bg (d:=((0,.inl 0,.non):Addr×Key×V)) hi;refine wpAny_dictSet_pairs (hsz:=by rw[length_map,length_take];have:=aF hz;omega) (k:=(zs.getD i (0,.inl 0,.non)).2.1) (fg (hf _ hm).1) hd λh' hd' hs=>hq h' _ (le_succ _) hs ?_;have e1:=eW hg;have e2:=qA hnd hg;rw[e1,map_append];unfold stored at hd';rw[if_neg]at hd'
  ·exact hd'
  ·intro ha;obtain⟨p,hp,he⟩:=any_eq_true.mp ha;obtain⟨z,hz',rfl⟩:=mem_map.mp hp;exact e2 (mem_map.mpr ⟨z,hz',of_decide_eq_true he⟩)
 ·rw[hsz,take_length]at hd;obtain⟨ob,hob⟩:∃ob,h'.get? s.heap.objs.size=some ob:=let⟨o,_,_,ho,_⟩:=hd;⟨o,ho⟩;have hrel:KV (zs.map (·.2)) (zs.map λz=>(z.2.1,(f z).2)):=by
   have:∀ys:List (Addr×Key×V),(∀z∈ys,z∈zs)→KV (ys.map (·.2)) (ys.map λz=>(z.2.1,(f z).2)):=by
    intro ys
    induction ys with
    |nil=>intro _;exact .nil
    |cons z ys ih=>intro hm;exact .cons ⟨rfl,(hf z (hm z (by simp))).2.1⟩ (ih λy hy=>hm y (by simp[hy]))
   exact this zs λz hz=>hz
  have hdk:∀H':Hp,bd X.prog X.w H' h' s.heap.objs.size (.dK (zs.map (·.2))):=λH'=>iN (le_of_lt (aF (by rw[length_map];exact hz))) (beq_eq_false_iff_ne.mpr (symm (ne_of_lt I.big))) hrel hd;rcases q with q|q
  ·exact⟨.ref s.heap.objs.size,_,I.laid (t':=tk) (o:=.frz ob (.dK (zs.map (·.2)))) hkeep (le_refl _) ⟨hob,hdk _⟩,rfl,q _ ob (I.hok.fresh (le_refl _))⟩
  ·exact⟨.ref s.heap.objs.size,_,I.laid (t':=tk) (o:=.dK (zs.map (·.2))) hkeep (le_refl _) (hdk _),rfl,q _ (I.hok.fresh (le_refl _))⟩
theorem nJ(hc:X.calm=true):bM X (.type "dict") (λxs H Q=>∃l,∃zs:List (Addr×Key×V),xs=[.ref l]∧H l=some (.lst ((zs.map (·.1)).map V.ref))∧(∀z∈zs,H z.1=some (.tup [kV z.2.1,z.2.2]))∧zs.length≤1000∧(zs.map (·.2.1)).Nodup∧∀d o,H d=none→Q (.ref d) (upd H d (.frz o (.dK (zs.map (·.2)))))) :=
 λpins s σ H xs us Q I r ⟨l,zs,h1,h2,h3,h4,h5,q⟩=>hZ hc pins s σ H xs us Q I r ⟨l,zs,h1,h2,h3,h4,h5,.inl q⟩
theorem di(hc:X.calm=true):bM X (.type "dict") (λxs H Q=>∃l,∃zs:List (Addr×Key×V),xs=[.ref l]∧H l=some (.lst ((zs.map (·.1)).map V.ref))∧(∀z∈zs,H z.1=some (.tup [kV z.2.1,z.2.2]))∧zs.length≤1000∧(zs.map (·.2.1)).Nodup∧∀d,H d=none→Q (.ref d) (upd H d (.dK (zs.map (·.2))))) :=
 λpins s σ H xs us Q I r ⟨l,zs,h1,h2,h3,h4,h5,q⟩=>hZ hc pins s σ H xs us Q I r ⟨l,zs,h1,h2,h3,h4,h5,.inr q⟩
end
def xa(h:Heap)(d:Addr)(es:Array DictEntry)(ep:Nat):Prop:=∃o,h.get? d=some o∧o.ExactDict∧o.data=.dict es ep
section
variable{prog:Program}{w:World}{A:Around}{E:Value→Shared→Prop}{s:Shared}
theorem mf{d:Addr}{es:Array DictEntry}{ep:Nat}{Q:Value→Shared→Prop}(hd:(d==sysModules)=false)(hm:xa s.heap d es ep)(hQ:Q (.ref s.heap.objs.size) {s with heap:=s.heap.push {cls:=.type "dict_keyiterator",data:=.fields #[.ref d,.int 0 0,.int es.size 0,.int ep 0]}}):
  wpAny (model prog w) A (pyIter (.ref d)) Q E s:=by
 obtain⟨o,ho,hc,hdat⟩:=id hm;have hT:s.TypeIs (.ref d) "dict":=⟨o,ho,hc.1⟩;refine wpAny_pyIter_slot hT PySem.F.slot_dict_iter (wpAny_call_entry PySem.F.slot_dict_iter hT PySem.F.entry_dict_iter ?_ (PySem.F.args_dict_iter_1 _));unfold Builtin.«dict.__iter__»;refine wpAny_bind ?_;unfold Builtin.Dict.dictSlotNone;refine wpAny_bind (wpAny_notOrdered_dict hT ?_);show wpAny _ _ (pure (Value.ref d)) _ _ s;refine wpAny_pure ?_;show wpAny _ _ (Builtin.Dict.showsAll d >>= _) _ _ s;unfold Builtin.Dict.showsAll;rw[if_neg (by rw[hd];exact Bool.false_ne_true)];refine wpAny_bind (wpAny_pure ?_);refine wpAny_bind (wpAny_dictEntries ho hdat ?_);refine wpAny_bind (wpAny_dictEpoch ho hdat ?_);refine wpAny_bind (wpAny_newObj_type (wpAny_pure ⟨_,rfl,"dict_keyiterator",_,⟨_,get?_push_size _ rfl,rfl⟩,slot_dict_keyiterator_next.lookup,?_⟩));simpa [rawInt]using hQ
theorem sv{it d:Addr}{i ep:Nat}{es:Array DictEntry}{e:DictEntry}{Q:Option Value→Shared→Prop}(hit:s.heap.IsKeyIter it d i es.size ep)(hm:xa s.heap d es ep)(hx:es[i]?=some e)(hQ:∀h',h'.IsKeyIter it d (i+1) es.size ep→SameBut it s.heap h'→Q (some e.key) {s with heap:=h'}):
  wpAny (model prog w) A (pyNext (.ref it)) Q E s:=by
 obtain⟨o,ho,hc,hd⟩:=id hit;obtain⟨od,hod,hcd,hdd⟩:=id hm;unfold pyNext;refine wpAny_bind (wpAny_attempt (wpAny_callSpecial?_slot (name:=ofString "__next__") hit.typeIs slot_dict_keyiterator_next
  (wpAny_call_entry slot_dict_keyiterator_next hit.typeIs PySem.F.entry_dict_keyiterator_next ?_ (PySem.F.args_dict_keyiterator_next_1 _))))
 refine wpAny_bind (wpAny_pure ?_);refine wpAny_bind ?_;refine wpAny_bind ?_
 first|refine wpAny_bind (wpAny_typeNameOfWhole_keyiter hit.typeIs (wpAny_pure ?_))|refine wpAny_bind (wpAny_typeNameOf_keyiter hit.typeIs (wpAny_pure ?_))
 refine wpAny_bind (wpAny_fieldsOf ho hd ?_);have hown:Builtin.Dict_items.ownsTuple "dict_keyiterator"=false:=by decide
 simp only[hown,false_eq_true,if_false];show wpAny _ _ (if (Value.ref d==Value.none)=true then _ else _) _ _ s
 rw[if_neg (show ¬((Value.ref d==Value.none)=true)from Bool.false_ne_true)];refine wpAny_bind (wpAny_pure ?_);refine wpAny_bind (wpAny_dictEntries hod hdd ?_);rw[if_neg (by simp)];refine wpAny_bind (wpAny_pure ?_);refine wpAny_bind (wpAny_dictEpoch hod hdd ?_);rw[if_neg (by simp)];refine wpAny_pure ?_;have hlt':i<es.size:=(Array.getElem?_eq_some_iff.mp hx).1;have he:es[i]=e:=(Array.getElem?_eq_some_iff.mp hx).2;simp only[show ¬((i:Int)<0)from by omega,if_false,toNat_natCast,Array.getElem?_eq_getElem hlt'];refine wpAny_bind ?_
 first|refine wpAny_bind (wpAny_typeNameOfWhole_keyiter hit.typeIs (wpAny_pure ?_))|refine wpAny_bind (wpAny_typeNameOf_keyiter hit.typeIs (wpAny_pure ?_))
 refine wpAny_bind (wpAny_isOneOf_keyiter hit.typeIs ?_);show wpAny _ _ (setField (.ref it) 1 (rawInt ((i:Int)+1)) >>= _) _ _ s;refine wpAny_bind (wpAny_setField ho hd (by simp) ?_);have hit':(s.heap.update it (Obj.mapFields (·.setIfInBounds 1 (rawInt ((i:Int)+1))))).IsKeyIter it d (i+1) es.size ep :=
  ⟨_,Heap.get?_update_self _ ho (Obj.isFreed_of_fields (Obj.data_mapFields hd _)),(Obj.cls_mapFields ..).trans hc,by rw[Obj.data_mapFields hd];simp[rawInt]⟩
 refine wpAny_bind (wpAny_holding ?_);refine wpAny_bind (wpAny_isOneOf_keyiter (s:={s with heap:=s.heap.update it (Obj.mapFields (·.setIfInBounds 1 (rawInt ((i:Int)+1))))}) hit'.typeIs ?_)
 show wpAny _ _ (pure es[i].key) _ _ _;rw[he];exact wpAny_pure (wpAny_pure ⟨_,rfl,wpAny_pure (hQ _ hit' (SameBut.update ..))⟩)
theorem uT{it d:Addr}{i ep:Nat}{es:Array DictEntry}{Q:Option Value→Shared→Prop}(hh:A.handled=none)(hit:s.heap.IsKeyIter it d i es.size ep)(hm:xa s.heap d es ep)(hge:es.size≤i)(hQ:∀h',ExtBut it s.heap h'→Q none {s with heap:=h'}):wpAny (model prog w) A (pyNext (.ref it)) Q E s:=by
 obtain⟨o,ho,hc,hd⟩:=id hit;obtain⟨od,hod,hcd,hdd⟩:=id hm;unfold pyNext;refine wpAny_bind (wpAny_attempt (wpAny_callSpecial?_slot (name:=ofString "__next__") hit.typeIs slot_dict_keyiterator_next
  (wpAny_call_entry slot_dict_keyiterator_next hit.typeIs PySem.F.entry_dict_keyiterator_next ?_ (PySem.F.args_dict_keyiterator_next_1 _))))
 refine wpAny_bind (wpAny_pure ?_);refine wpAny_bind ?_;refine wpAny_bind ?_
 first|refine wpAny_bind (wpAny_typeNameOfWhole_keyiter hit.typeIs (wpAny_pure ?_))|refine wpAny_bind (wpAny_typeNameOf_keyiter hit.typeIs (wpAny_pure ?_))
 refine wpAny_bind (wpAny_fieldsOf ho hd ?_);have hown:Builtin.Dict_items.ownsTuple "dict_keyiterator"=false:=by decide
 simp only[hown,false_eq_true,if_false];show wpAny _ _ (if (Value.ref d==Value.none)=true then _ else _) _ _ s
 rw[if_neg (show ¬((Value.ref d==Value.none)=true)from Bool.false_ne_true)];refine wpAny_bind (wpAny_pure ?_);refine wpAny_bind (wpAny_dictEntries hod hdd ?_);rw[if_neg (by simp)];refine wpAny_bind (wpAny_pure ?_);refine wpAny_bind (wpAny_dictEpoch hod hdd ?_);rw[if_neg (by simp)];refine wpAny_pure ?_;simp only[show ¬((i:Int)<0)from by omega,if_false,toNat_natCast,Array.getElem?_eq_none hge];refine wpAny_bind ?_
 first|refine wpAny_bind (wpAny_typeNameOfWhole_keyiter hit.typeIs (wpAny_pure ?_))|refine wpAny_bind (wpAny_typeNameOf_keyiter hit.typeIs (wpAny_pure ?_))
 show wpAny _ _ (setField (.ref it) 0 .none >>= _) _ _ s;refine wpAny_bind (wpAny_setField ho hd (by simp) ?_);show wpAny _ _ (newExc (.type "StopIteration") [] >>= _) _ _ _;refine wpAny_bind ?_;simp only[newExc,newTuple];refine wpAny_bind (wpAny_newObj_type ?_ (by size_fits));refine wpAny_bind (m:=firstArgMember _ _) (wpAny_of_eq (a:=Value.none) (by first|rfl|(simp only[firstArgMember];rfl)) ?_)
 refine wpAny_newObj_type ?_ (by size_fits);simp only[raiseNew];refine wpAny_bind (wpAny_handled ?_);rw[show A.in1.handled=none from hh];refine wpAny_bind (wpAny_pure (wpAny_throw ?_));refine wpAny_bind (wpAny_isInstance (T:="StopIteration") (b:=true) ⟨_,get?_push_size _ rfl,rfl⟩ isSubtype_stop ?_);exact wpAny_pure (hQ _ (((SameBut.update ..).extBut.push _).push _))
end
def Itk(d:Addr)(o:Obj)(u:HO)(ks:List V):It:=⟨λi H=>H d=some (.frz o u)∧i<ks.length,λi H x H'=>H'=H∧ks[i]?=some x,λi H=>H d=some (.frz o u)∧ks.length≤i⟩
theorem jR{P:Program}{w:World}{K:PySem.W.Frag}{tg:Expr}{d it:Addr}{o:Obj}{u:HO}{es:Array DictEntry}{ep:Nat}{ks:List V}(hx:o.ExactDict)(hd:o.data=.dict es ep)(hv:ax ks (es.toList.map (·.key))):
  Turn P w K tg (Itk d o u ks) [it] it (λi h=>h.IsKeyIter it d i es.size ep) where
 mem:=by simp
 obj:=λi h st b hb=>by
  have e:b=it:=by simpa using hb
  subst e;obtain⟨o,e,c,d⟩:=st;exact⟨o,e,λv z=>by rw[d]at z;cases z⟩
 keep:=λi h h' st k=>st.at λo e=>k it (by simp) o e
 item:=by
  intro X hP hw hK hc i pins s σ H E I hf st hg;subst hP hw hK;obtain⟨hH,hi⟩:=hg;have ho:=(I.hok d _ hH).1;have hl:ks.length=es.size:=by rw[hv.length,length_map,length_toList]
  have hi':i<es.size:=by omega
  obtain⟨v,hv1,hv2⟩:=hv.get (getElem?_eq_getElem hi);obtain⟨f0,f1,f2,f3,f4,f5⟩:=hf it (by simp);have ev:v=es[i].key:=by
   rw[getElem?_map,getElem?_toList,Array.getElem?_eq_getElem hi']at hv1;exact(Option.some.inj hv1).symm
  refine sv st ⟨o,ho,hx,hd⟩ (Array.getElem?_eq_getElem hi') λh' st' sb=>?_;have I1:Inv X pins σ H {s with heap:=h'}:=I.turned (t':=s.toks) (λb o hb e=>(sb.2 b hb).trans e) f0 f1 f3 f4 f5
  obtain⟨oi,e,c,dd⟩:=id st';exact⟨_,rfl,lu (s:={s with heap:=h'}) e c dd (by decide) ⟨ks[i],H,I1,ev ▸ hv2,⟨rfl,getElem?_eq_getElem hi⟩,st',λb hb=>(hf b hb).1⟩⟩
 done:=by
  intro X hP hw hK hc i pins s σ H E I hf st hg;subst hP hw hK;obtain⟨hH,hi⟩:=hg;have ho:=(I.hok d _ hH).1;have hl:ks.length=es.size:=by rw[hv.length,length_map,length_toList]
  obtain⟨f0,f1,f2,f3,f4,f5⟩:=hf it (by simp);exact uT (I.ok.hd hc) st ⟨o,ho,hx,hd⟩ (by omega) λh' eb=>⟨rfl,I.turned (t':=s.toks) (λb o hb e=>eb b o hb e) f0 f1 f3 f4 f5⟩
 self:=λ_ _ _ _ _ st h=>wpAny_pyIter_keyiter st h
section
variable{X:Cx}{tg:Expr}
def iDF(td:TE):TI:=λσ H R=>td σ H λv H1=>∃d o kvs,v=.ref d∧H1 d=some (.frz o (.dK kvs))∧R (Itk d o (.dK kvs) (kvs.map λp=>kV p.1)) H1
theorem yI{l:Expr}{tl:TE}(hl:PE X l tl):PI X tg l (iDF tl):=by
 intro pins s σ H R I h;refine thn (hl pins s σ H _ I h) λv s1 hpt=>?_;obtain⟨x,H1,I1,r1,q1⟩:=hpt;obtain⟨d,o,kvs,e,hH,q⟩:=q1;subst e;cases r1;obtain⟨ho,_,hsm,vs,rel,o',es,ep,ho',hx,hd,hk,hp,hn⟩:=I1.hok d _ hH;rw[ho]at ho';cases ho';refine mf hsm ⟨o,ho,hx,hd⟩ ?_;refine⟨s1.heap.objs.size,[s1.heap.objs.size],_,_,H1,rfl,I1.kept (t':=s1.toks) λb o e=>get?_push_of_some _ e,jR hx hd ?_,⟨_,get?_push_size _ rfl,rfl,rfl⟩,λb hb=>?_,q⟩
 ·have key:∀(es:List DictEntry)(vs:List (Key×Value))(kvs:List (Key×V)),Pairs (aE X.prog X.w) es vs→KV kvs vs→ax (kvs.map λp=>kV p.1) (es.map (·.key)):=by
   intro es vs kvs hp
   induction hp generalizing kvs with
   |nil=>intro r;cases r;exact .nil
   |cons h1 h2 _ ih =>
    intro r;cases r with
    |cons r1 r2 =>
     refine .cons ?_ (ih _ r2);dsimp only;rw[r1.1];rcases aX h1 with⟨i,t,e1,e2⟩|⟨x,t,e1,e2⟩
     ·rw[e1,e2];exact⟨t,rfl⟩
     ·rw[e1,e2];exact⟨t,rfl⟩
  exact key _ _ _ hp rel
 ·have e:b=s1.heap.objs.size:=by simpa using hb
  subst e;exact I1.fpOk (le_refl _) (I1.hok.fresh (le_refl _))
end
theorem qB:typeLookup (.type "list_reverseiterator") "__len__"=pure none:=by rw[typeLookup_type,builtinLookup_eq_fast];kernel_rfl
theorem sw:typeLookup (.type "list_reverseiterator") "__length_hint__"=pure (some (.builtin "list_reverseiterator.__length_hint__")):=by rw[typeLookup_type,builtinLookup_eq_fast];kernel_rfl
theorem uU:isSubtype (.type "list_reverseiterator") (.type "list_reverseiterator")=pure true:=by rw[isSubtype_type];kernel_rfl
section
variable{prog:Program}{w:World}{A:Around}{E:Value→Shared→Prop}{s:Shared}
theorem mh{I l:Addr}{items:Array Value}{Q:List Value→Shared→Prop}(hh:A.handled=none)(hI:s.heap.IsRevIter I l ((items.size:Int)-1))(hl:s.heap.IsList l items)(hne:l≠I)(hn:items.size≤sizeLine)(hQ:∀h' tk acc,(∀b o,b≠I→s.heap.get? b=some o→h'.get? b=some o)→acc=items.toList.reverse→Q acc {s with heap:=h',toks:=tk}):wpAny (model prog w) A (collect (.ref I)) Q E s:=by
 have W:=(Walks.listRev (prog:=prog) (w:=w) (show A.in1.handled=none by simp[hh]) I l hne items).toS;obtain⟨oI,hoI,_⟩:=id hI;obtain⟨oL,hoL,_⟩:=id hl;have ltI:I<s.heap.objs.size:=lt_size hoI;have ltL:l<s.heap.objs.size:=lt_size hoL;have hSf:s.heap.objs.size∉[I,l]:=by
  simp only[mem_cons,not_mem_nil,or_false,not_or];exact⟨ne_of_gt ltI,ne_of_gt ltL⟩
 have hSI:s.heap.objs.size≠I:=ne_of_gt ltI;have key:∀(s':Shared)(acc:Array Value),Moved [I] (λa b=>b=a) s s'→ItemsOf (λi v=>items[items.size-1-i]?=some v) acc items.size→Q acc.toList s':=by
  intro s' acc hm hacc;obtain⟨h',g',d',tk',os'⟩:=s';have eg:g'=s.gens:=hm.gens;have ed:d'=s.drawn:=hm.drawn;have eo:os'=s.os:=hm.os;subst eg;subst ed;subst eo;refine hQ h' tk' acc.toList (λb o hb e=>hm.heap b o (by simpa using hb) e) ?_;apply ext_getElem?;intro i;rw[getElem?_toList]
  by_cases hi:i<items.size
  ·have hi':i<acc.size:=by rw[hacc.1];exact hi
   have ha:acc[i]?=some acc[i]:=Array.getElem?_eq_getElem hi';rw[List.getElem?_reverse (by simpa using hi),ha,length_toList,getElem?_toList];exact(hacc.2 i _ ha).symm
  ·rw[Array.getElem?_eq_none (by rw[hacc.1];omega),getElem?_eq_none (by simp;omega)]
 have st0:∀o,(λ(i:Nat) (h:Heap)=>i≤items.size∧h.IsRevIter I l ((items.size:Int)-1-(i:Int))∧h.IsList l items) 0 (s.heap.push o):=λo=>by
  refine⟨zero_le _,?_,?_⟩
  ·rw[show(items.size:Int)-1-((0:Nat):Int)=(items.size:Int)-1 by omega];exact hI.at λo' e=>get?_push_of_some _ e
  ·exact hl.push _
 unfold collect;refine wpAny_bind (wpAny_runValue (codeAny_builtin PySem.F.entry_proto_collect ?_));rw[Around.under_plainId PySem.F.plain_proto_collect _];show wpAny _ A.in1 (newList [] >>= λl=>again (.builtin "list.__iadd__" ⟨[l,.ref I],[]⟩)) _ _ s;refine wpAny_bind (wpAny_newObj_type (wpAny_pure ⟨plainId_quiet PySem.F.plain_list_iadd _,codeAny_builtin PySem.F.entry_list_iadd ?_⟩));rw[Around.under_plainId PySem.F.plain_list_iadd _];have hTI:Shared.TypeIs {s with heap:=s.heap.push {cls:=.type "list",data:=.seq ([]:List Value).toArray}} (.ref I) "list_reverseiterator":=((st0 _).2.1).typeIs
 have h1:Builtin.List.listSameRef (.ref s.heap.objs.size) (.ref I)=false:=by simp[Builtin.List.listSameRef,hSI]
 show wpAny _ A.in1 (Builtin.List.listExtendWith (.ref s.heap.objs.size) (.ref I) (.ref s.heap.objs.size)) _ _ _;unfold Builtin.List.listExtendWith;refine wpAny_bind (wpAny_typeOf hTI ?_);rw[if_neg (by rw[h1];decide)];refine wpAny_bind (W.self 0 _ _ _ (st0 _) (wpAny_bind (wpAny_holding ?_)));unfold Builtin.List.listLengthHint;refine wpAny_bind (wpAny_specialOf hTI qB ?_);show wpAny _ A.in1 (specialOf (Value.ref I) (ofString "__length_hint__") >>= _) _ _ _;refine wpAny_bind (wpAny_specialOf hTI sw ?_);generalize hid:("list_reverseiterator.__length_hint__":String)=id0
 wp_delta
 rw[show splitId id0=some ("list_reverseiterator","__length_hint__")from by subst hid;decide +kernel];subst hid;refine wpAny_bind (wpAny_isInstance (b:=true) hTI uU (wpAny_pure ?_));rw[if_neg (by decide)];have hS:(s.heap.push {cls:=.type "list",data:=.seq ([]:List Value).toArray}).get? s.heap.objs.size=some {cls:=.type "list",data:=.seq ([]:List Value).toArray}:=get?_push_size _ rfl;refine wpAny_pure ⟨plainId_quiet PySem.F.plain_extend_loop _,codeAny_extend_loopS W hn _ hSf _ items.size 0 _ _ _ rfl (zero_le _) (st0 _) hS (ItemsOf.nil _) λs' acc c hm hS' hacc=>?_⟩;show wpAny _ A (load s.heap.objs.size >>= _) _ _ s';exact wpAny_bind (wpAny_load hS' (wpAny_pure (key s' acc (Moved.drop_new (o:={cls:=.type "list",data:=.seq ([]:List Value).toArray}) (tk:=s.toks) hm (le_refl _)) hacc)))
theorem jb{I l:Addr}{items:Array Value}{Q:Value→Shared→Prop}(hh:A.handled=none)(hI:s.heap.IsRevIter I l ((items.size:Int)-1))(hl:s.heap.IsList l items)(hne:l≠I)(hn:items.size≤sizeLine)(hQ:∀(h':Heap) (tk:Nat),(∀b o,b≠I→s.heap.get? b=some o→h'.get? b=some o)→Q (.ref h'.objs.size) {s with heap:=h'.push {cls:=.type "tuple",data:=.seq items.toList.reverse.toArray},toks:=tk}):
  wpAny (model prog w) A (call (.type "tuple") [.ref I]) Q E s:=by
 refine callType_codes (Q₁:=λobj s₁=>s₁.TypeIs obj "tuple"∧Q obj s₁) called_tuple (PySem.F.typeCall_tuple_1 _) PySem.F.entry_object_init ?_ λobj s₁ h₁=>?_
 ·refine codeAny_of_tree ?_;show wpAny _ A.in1.in1 (do checkBuiltinCall "tuple.__new__" ⟨[.type "tuple",.ref I],[]⟩;again (.builtin "tuple.__new__" ⟨[.type "tuple",.ref I],[]⟩)) _ _ s
  refine wpAny_bind (wpAny_of_eq (PySem.F.newCall_tuple_1 _) (wpAny_pure ⟨plainId_quiet PySem.F.plain_tuple_new _,codeAny_builtin PySem.F.entry_tuple_new ?_⟩));rw[Around.under_plainId PySem.F.plain_tuple_new _];have hsub:=sub_tuple_self;have hinit:=init_tuple_lookup;have hmh:=madeHere_tuple;have hTI:s.TypeIs (.ref I) "list_reverseiterator":=hI.typeIs
  wp_walk using wpAny_typeOf hTI,mh (show A.in1.in1.handled=none by simp[hh]) hI hl hne hn
  intro h' tk acc hk hacc;subst hacc;refine wpAny_bind (wpAny_pure ?_);show wpAny _ _ (Builtin.Tuple.tupleExact items.toList.reverse.toArray >>= λv=>ret v) _ _ _;unfold Builtin.Tuple.tupleExact;have hsz:items.toList.reverse.toArray.size≤sizeLine:=by simpa using hn
  exact wpAny_bind (wpAny_newObj_type (wpAny_pure ⟨⟨_,get?_push_size _ rfl,rfl⟩,hQ h' tk hk⟩) hsz)
 ·exact⟨h₁.1,PySem.F.args_object_init_2 obj _,object_init_meets called_tuple.init.lookup called_tuple.made (by decide) prog w A.in1 _ s₁ ⟨h₁.1,rfl,h₁.2⟩⟩
end
section
variable{X:Cx}
def uV(te:TE):TE:=λσ H Q=>hX te ng σ H λvs H1=>∃l ys,vs=[.ref l]∧H1 l=some (.lst ys)∧∀p,H1 p=none→Q (.ref p) (upd H1 p (.tup ys.reverse))
theorem qC{e:Expr}{te:TE}{q1 q2 p1 p2:Pos}(hc:X.calm=true)(hg:Gl X "tuple")(hm:X.mg "tuple"=none)(hg':Gl X "reversed")(hm':X.mg "reversed"=none)(he:PE X e te)(s1:starEach [e] X.env=[(false,eval e X.env)]:=by rfl)(s2:starEach [.Call (.Name "reversed" q1) [e] [] p1] X.env=[(false,eval (.Call (.Name "reversed" q1) [e] [] p1) X.env)]:=by rfl):
  PE X (.Call (.Name "tuple" q2) [.Call (.Name "reversed" q1) [e] [] p1] [] p2) (uV te):=by
 intro pins s σ H Q I h;refine wpAny_Call_Name_kw (dJ I hg hm boot_tuple ?_ (by decide) (by decide));refine PyProof.Rows.callWith_type1 ?_ s2 rfl;rw[s2];refine spliced_cons ?_;refine wpAny_Call_Name_kw (dJ I hg' hm' PyProof.Rows.boot_reversed ?_ (by decide) (by decide));have hA:PA X [e] (hX te ng):=aa he ae s1;refine PyProof.Rows.callWith_type1 (thn (hA p1 pins s σ H _ I h) λus s3 ⟨vs,H1,I1,r1,q1⟩=>?_) s1 rfl;obtain⟨l,ys,rfl,hl,q⟩:=q1;obtain⟨u,rfl,ru⟩:=ci r1;cases ru;obtain⟨hz,its,n,rv,ho⟩:=I1.hok l _ hl;have hL:s3.heap.IsList l its.toArray:=⟨_,ho,rfl,n,rfl⟩;have hlen:its.toArray.size≤sizeLine:=by rw[size_toArray,←rv.length];exact hz
 refine call_reversed_list hL (spliced_nil ?_);have ltl:l<s3.heap.objs.size:=lt_size ho;refine jb (s:={s3 with heap:=s3.heap.push (revObj l ((its.toArray.size:Int)-1))}) (items:=its.toArray) (I.ok.hd hc) ⟨_,get?_push_size _ rfl,rfl,rfl⟩ (hL.push _) (ne_of_lt ltl) hlen λh' tk hk=>?_
 have k0:∀b o,s3.heap.get? b=some o→h'.get? b=some o:=λb o e=>hk b o (ne_of_lt (lt_size e)) (get?_push_of_some _ e);have I2:Inv X pins σ H1 {s3 with heap:=h',toks:=tk}:=I1.kept (t':=tk) k0
 have er:its.toArray.toList.reverse.toArray=its.reverse.toArray:=by simp
 rw[er];have I3:Inv X pins σ (upd H1 h'.objs.size (.tup ys.reverse)) {s3 with heap:=h'.push {cls:=.type "tuple",data:=.seq its.reverse.toArray},toks:=tk} :=
  I2.laid (t':=tk) (λb o e=>get?_push_of_some _ e) (le_refl _) (show bd X.prog X.w _ _ _ (.tup ys.reverse)from⟨by rw[List.length_reverse];exact hz,its.reverse,rv.reverse,IsTup.new _ _⟩)
 exact⟨.ref h'.objs.size,_,I3,rfl,q _ (I2.hok.fresh (le_refl _))⟩
end
end L2
namespace HT
open PySem PyProof.Rows
def eK(x y:Str):Bool:=decide (x.cps.toList<y.cps.toList)
def bZ:List Str→List Str→Bool
 |[],[]=>false
 |[],_::_=>true
 |_::_,[]=>false
 |x::xs,y::ys=>if x=y then bZ xs ys else eK x y
theorem dD(x y:Str)(xs ys:List Str):bZ (x::xs) (y::ys)=if x=y then bZ xs ys else eK x y:=rfl
theorem kK:bZ [] []=false:=rfl
theorem jx(y:Str)(ys:List Str):bZ [] (y::ys)=true:=rfl
theorem jy(x:Str)(xs:List Str):bZ (x::xs) []=false:=rfl
theorem uW{x y:Str}(h:x.cps.toList=y.cps.toList):x=y:=by
 obtain⟨x⟩:=x;obtain⟨y⟩:=y
 congr
 exact toList_inj.mp h
theorem qD(x:Str):eK x x=false:=decide_eq_false (List.lt_irrefl _)
theorem sx{x y z:Str}(h1:eK x y=true)(h2:eK y z=true):eK x z=true:=by
 unfold eK at *;rw[decide_eq_true_eq]at *;exact List.lt_trans h1 h2
theorem qE{x y:Str}(h:x≠y):eK x y=true∨eK y x=true:=by
 unfold eK;rw[decide_eq_true_eq,decide_eq_true_eq];rcases Decidable.em (x.cps.toList<y.cps.toList)with a|a
 ·exact .inl a
 ·refine .inr ?_;have hle:y.cps.toList≤x.cps.toList:=not_lt.mp a;rcases Decidable.em (y.cps.toList<x.cps.toList)with b|b
  ·exact b
  ·have hle2:x.cps.toList≤y.cps.toList:=not_lt.mp b;exact absurd (uW (List.le_antisymm hle2 hle)) h
theorem cz:∀p:List Str,bZ p p=false
 |[]=>rfl
 |x::p=>by rw[dD,if_pos rfl];exact cz p
theorem gw:∀{p q r:List Str},bZ p q=true→bZ q r=true→bZ p r=true
 |[],[],_,h,_=>by cases h
 |[],_::_,[],_,h=>by cases h
 |[],_::_,_::_,_,_=>rfl
 |_::_,[],_,h,_=>by cases h
 |_::_,_::_,[],_,h=>by cases h
 |x::p,y::q,z::r,h1,h2=>by
  rw[dD]at h1 h2⊢
  by_cases a:x=y
  ·subst a;rw[if_pos rfl]at h1
   by_cases b:x=z
   ·rw[if_pos b]at h2⊢;exact gw h1 h2
   ·rw[if_neg b]at h2⊢;exact h2
  ·rw[if_neg a]at h1
   by_cases b:y=z
   ·subst b;rw[if_neg a];exact h1
   ·rw[if_neg b]at h2;have h3:=sx h1 h2;have c:x≠z:=λe=>by
     subst e;rw[qD]at h3;cases h3
    rw[if_neg c];exact h3
theorem jc:∀{p q:List Str},p≠q→bZ p q=true∨bZ q p=true
 |[],[],h=>absurd rfl h
 |[],_::_,_=>.inl rfl
 |_::_,[],_=>.inr rfl
 |x::p,y::q,h=>by
  rw[dD,dD]
  by_cases a:x=y
  ·subst a;rw[if_pos rfl,if_pos rfl];exact jc λe=>h (by rw[e])
  ·rw[if_neg a,if_neg (symm a)];exact qE a
theorem sy(A:Around)(s:Shared)(a:Str)(t:Tok)(c:Str)(u:Tok):∃e,EqAt A s (.str a t) (.str c u) e∧(e=true↔a=c) :=
 ⟨decide (a=c),λprog w E Q h=>wpAny_eqBool_str h,by simp⟩
theorem sC(A:Around)(s:Shared)(a:Str)(t:Tok)(c:Str)(u:Tok)(prog:Program)(w:World)(E:Value→Shared→Prop)(Q:Value→Shared→Prop)(h:Q (.bool (eK a c)) s):
  wpAny (model prog w) A (richCompare .Lt (.str a t) (.str c u)) Q E s :=
 (lt_str h:wpAny (model prog w) A (compareOp .Lt (.str a t) (.str c u)) Q E s)
section
open PySem.SeqAt
open PySem.AutoSeq1 (wpAny_loadPart')
open PySem.MeetsSeq PySem.MeetsSeq2 PySem.MeetsSeq3
theorem jz(l b:Addr)(items items2:Array Value)(n n2:Nat)(dd dd2:Option Addr)(sl sl2:Array (Option Value))(ns ms:List Str)(hi:StrsAre items.toList ns)(hj:StrsAre items2.toList ms):
  Meets (Builtin.«tuple.__lt__» ⟨[.ref l,.ref b],[]⟩)
   (λ_ R s=>s.heap.get? l=some {cls:=.type "tuple",dict:=dd,data:=.seq items n,slots:=sl}∧s.heap.get? b=some {cls:=.type "tuple",dict:=dd2,data:=.seq items2 n2,slots:=sl2} ∧
    R (.ok (.ret (.bool (bZ ns ms)))) s) :=
 .of_wp λprog w A R s h=>by
  obtain⟨hp,g,d,tk,os⟩:=s;obtain⟨hl,hb,h⟩:=h;have f2:=AutoSeq1.sub_tuple_tuple;have z1:items.size=ns.length:=by rw[←hi.length];simp
  have z2:items2.size=ms.length:=by rw[←hj.length];simp
  wp_walk using wpAny_loadPart' hl,wpAny_loadPart' hb,wpAny_forIn_list _ (λrest b s'=>b.1=none∧s'=⟨hp,g,d,tk,os⟩∧∃(vs ws:List Value) (ns' ms':List Str),rest=vs.zip ws ∧
   StrsAre vs ns'∧StrsAre ws ms'∧ns'.length+items2.size=ms'.length+items.size∧R (.ok (.ret (.bool (bZ ns' ms')))) ⟨hp,g,d,tk,os⟩) _
  case turn =>
   rintro⟨y,x⟩ rest b s' ⟨hb',rfl,vs,ws,ns',ms',hz,hvi,hwi,hlen,hR⟩;cases hvi with
   |nil=>rw[List.zip_nil_left]at hz;cases hz
   |cons a t hvi' =>
    cases hwi with
    |nil=>rw[List.zip_nil_right]at hz;cases hz
    |cons c u hwi' =>
     rw[List.zip_cons_cons]at hz;injection hz with hyx hrest
     injection hyx with hy hx
     subst hy hx;rw[dD]at hR;simp only[length_cons]at hlen;obtain⟨e,he,hiff⟩:=sy A.in1 ⟨hp,g,d,tk,os⟩ a t c u;refine wpAny_bind (he prog w _ _ ?_);cases e with
     |true =>
      rw[if_pos (hiff.mp rfl)]at hR
      wp_walk
      exact⟨rfl,rfl,_,_,_,_,hrest,hvi',hwi',by omega,hR⟩
     |false =>
      rw[if_neg (λq=>absurd (hiff.mpr q) Bool.false_ne_true)]at hR;have hri:=sC A.in1 ⟨hp,g,d,tk,os⟩ a t c u prog w
      wp_walk using hri
      exact⟨_,rfl,by simpa using hR⟩
  case fin =>
   rintro⟨b1,b2⟩ s' ⟨hb',rfl,vs,ws,ns',ms',hz,hvi,hwi,hlen,hR⟩;simp only at hb';subst hb';have hv:bZ ns' ms'=decide (items.size<items2.size):=by
    cases hvi with
    |nil =>
     cases hwi with
     |nil =>
      simp only[length_nil]at hlen;rw[kK];exact(decide_eq_false (by omega)).symm
     |cons c u hw =>
      simp only[length_nil,length_cons]at hlen;rw[jx];exact(decide_eq_true (by omega)).symm
    |cons a t hv =>
     cases hwi with
     |nil =>
      simp only[length_nil,length_cons]at hlen;rw[jy];exact(decide_eq_false (by omega)).symm
     |cons c u hw =>
      rw[List.zip_cons_cons]at hz;cases hz
   rw[hv]at hR
   wp_walk
   exact⟨_,rfl,by simpa [Builtin.Tuple.tupleCompareSizes]using hR⟩
  case h =>
   exact⟨rfl,rfl,items.toList,items2.toList,ns,ms,rfl,hi,hj,by omega,h⟩
end
section
variable{prog:Program}{w:World}{A:Around}{E:Value→Shared→Prop}{s:Shared}
theorem jd{l b:Addr}{items items2:Array Value}{ns ms:List Str}{Q:Value→Shared→Prop}(hl:IsTup s.heap l items)(hb:IsTup s.heap b items2)(hi:StrsAre items.toList ns)(hj:StrsAre items2.toList ms)(hu:A.units<cLine)(h:Q (.bool (bZ ns ms)) s):wpAny (model prog w) A (compareOp .Lt (.ref l) (.ref b)) Q E s:=by
 obtain⟨⟨cls,dd,data,sl⟩,ho,hc,n,hd⟩:=id hl;obtain⟨⟨cls2,dd2,data2,sl2⟩,ho2,hc2,n2,hd2⟩:=id hb;simp only at hc hd hc2 hd2;subst hc hd hc2 hd2;exact richCompare_meets_room (op:=.Lt) ⟨_,ho,rfl⟩ ⟨_,ho2,rfl⟩ PySem.F.slot_tuple_lt PySem.F.entry_tuple_lt (PySem.F.args_tuple_lt_2 _ _) (jz l b items items2 n n2 dd dd2 sl sl2 ns ms hi hj)
  ⟨ho,ho2,show Value.bool (bZ ns ms)≠Value.notImplemented∧Q (.bool (bZ ns ms)) s from⟨(λx=>nomatch x),h⟩⟩ hu
end
end HT
namespace L2
open PySem PySem.Spec PyProof.Rows
section
variable{X:Cx}
theorem qF{α:Type}{zs:List α}{val:α→V}{d:α}:∀{us:List Value},ax (zs.map val) us→∀(ps:List Nat),(∀i∈ps,i<zs.length)→ax ((ps.map λi=>zs.getD i d).map val) (ps.map λi=>us.getD i Value.none):=by
 intro us rv ps
 induction ps with
 |nil=>intro _;exact .nil
 |cons i ps ih =>
  intro h;refine .cons ?_ (ih λj hj=>h j (by simp[hj]));have hi:=h i (by simp);obtain⟨u,hu,r⟩:=rv.get (i:=i) (x:=val (zs.getD i d)) (by rw[getElem?_map,(bg (d:=d) hi).2];rfl);have:us.getD i Value.none=u:=by rw[getD_eq_getElem?_getD,hu];rfl
  show aJ (val (zs.getD i d)) (us.getD i Value.none);rw[this];exact r
theorem eM{α:Type}{zs:List α}{val:α→V}{d:α}{us:List Value}{f:α→α→Bool}{l:Addr}{pins:List (Addr×Obj)}{σ:St}{H:Hp}{s:Shared}{Q:VK}{κ:SortKind}{E:Value→Shared→Prop}(I:Inv X pins σ H s)(rv:ax (zs.map val) us)(O:SRT.Ord (λi j=>f (zs.getD i d) (zs.getD j d)) zs.length)(pl:s.heap.IsList l us.toArray)(h64:zs.length<64)(hk:∀(A':Around) (s':Shared),A'.units≤X.A.units+2→(∀b o,s.heap.get? b=some o→s'.heap.get? b=some o)→∀Q:SortKind→Shared→Prop,2≤zs.length→Q κ s'→wpAny (model X.prog X.w) A' (keyKind' us.toArray) Q (λ_ _=>False) s')(hlt:∀(A':Around) (s':Shared),A'.units≤X.A.units+2→(∀b o,s.heap.get? b=some o→s'.heap.get? b=some o)→∀(i j:Nat) (C:Bool→Shared→Prop),i<zs.length→j<zs.length→C (f (zs.getD i d) (zs.getD j d)) s'→wpAny (model X.prog X.w) A' (keyLt' κ (us.getD i Value.none) (us.getD j Value.none)) C (λ_ _=>False) s')(q:∀zs':List α,zs'.Perm zs→zs'.Pairwise (λa b=>f a b=true)→∀p,H p=none→Q (.ref p) (upd H p (.lst (zs'.map val)))):wpAny (model X.prog X.w) X.A (call (.builtin "sorted") [.ref l]) (EP X pins σ Q) E s:=by
 have hlen:us.length=zs.length:=by rw[←rv.length,length_map]
 refine SRT.qu (κ:=κ) (f:=λi j=>f (zs.getD i d) (zs.getD j d)) (by rw[hlen];exact O) pl (by rw[hlen];exact h64) (λA' s' h1 h2 Q' h3=>hk A' s' h1 h2 Q' (by omega)) (λA' s' h1 h2 i j C hi hj=>hlt A' s' h1 h2 i j C (by omega) (by omega)) ?_;intro p h' hrow hup kp _ hg;obtain⟨c,hg⟩:=hg;rw[hlen]at hrow hup;have hin:∀i∈p.toList,i<zs.length:=λi hi=>mem_range.mp (hrow.perm.mem_iff.mp hi);have hperm:(p.toList.map λi=>zs.getD i d).Perm zs:=by
  refine(hrow.perm.map _).trans ?_;have:(List.range zs.length).map (λi=>zs.getD i d)=zs:=by
   apply ext_getElem?;intro i;rw[getElem?_map]
   by_cases hi:i<zs.length
   ·rw[getElem?_range hi,(bg (d:=d) hi).2];rfl
   ·rw[getElem?_eq_none (by rw[length_range];omega),getElem?_eq_none (by omega)];rfl
  rw[this]
 have hpl:p.size=zs.length:=hrow.size;have hpw:(p.toList.map λi=>zs.getD i d).Pairwise (λa b=>f a b=true):=by
  rw[pairwise_iff_getElem];intro i j hi hj hij;have hi':i<p.size:=by rw[length_map,length_toList]at hi;exact hi
  have hj':j<p.size:=by rw[length_map,length_toList]at hj;exact hj
  have:=hup i j hij (by omega);simp only[]at this;rw[getD_eq_getD_getElem?,getD_eq_getD_getElem?,Array.getElem?_eq_getElem hi',Array.getElem?_eq_getElem hj']at this;simpa using this
 refine⟨.ref (s.heap.objs.size+1),_,I.laid (t':=s.toks) (o:=.lst ((p.toList.map λi=>zs.getD i d).map val)) kp (le_succ _) ⟨?_,_,c,qF rv p.toList hin,hg⟩,rfl,q _ hperm hpw _ (I.hok.fresh (le_succ _))⟩;rw[length_map,hperm.length_eq,sizeLine_eq];omega
theorem oZ{ns:List Int}{us:List Value}(r:ax (ns.map V.int) us):IntsAre us ns:=nq r
theorem cD:bM X (.builtin "sorted") (λxs H Q=>∃l,∃ns:List Int,xs=[.ref l]∧H l=some (.lst (ns.map V.int))∧ns.Nodup∧ns.length<64 ∧
  ∀ms:List Int,ms.Perm ns→ms.Pairwise (λa b=>a<b)→∀p,H p=none→Q (.ref p) (upd H p (.lst (ms.map V.int)))):=by
 intro pins s σ H xs us Q I r h;obtain⟨l,ns,rfl,hl,hnd,h64,q⟩:=h;obtain⟨u,rfl,ru⟩:=ci r;cases ru;obtain⟨_,its,n,rv,ho⟩:=I.hok l _ hl;have hI:=oZ rv;have hlen:its.length=ns.length:=by rw[←rv.length,length_map]
 refine eM (val:=V.int) (d:=(0:Int)) (f:=λa b=>decide (a<b)) (κ:=oneType') I rv ⟨λi _=>by simp,λi j k _ _ _ h1 h2=>?_,λi j hi hj hij=>?_⟩ ⟨_,ho,rfl,n,rfl⟩ h64 (λA' s' _ _ Q' h2 hQ=>?_) (λA' s' _ _ i j C hi hj hC=>?_) λzs' h1 h2 p hp=>q zs' h1 (h2.imp λh=>by simpa using h) p hp
 ·simp only[decide_eq_true_eq]at *;omega
 ·simp only[decide_eq_true_eq];have:ns.getD i 0≠ns.getD j 0:=by
   rw[getD_eq_getElem?_getD,getD_eq_getElem?_getD,getElem?_eq_getElem hi,getElem?_eq_getElem hj];exact λe=>hij ((getElem_inj hnd).mp e)
  omega
 ·rw[ksk_kind (keys:=its.toArray) (kz:=ns) (by simpa using hI) (by rw[size_toArray];omega)];exact wpAny_pure hQ
 ·have gi:∀i,i<ns.length→∃t,its.getD i Value.none=.int (ns.getD i 0) t:=λi hi=>by
   obtain⟨v,hv,r⟩:=rv.get (i:=i) (x:=.int (ns.getD i 0)) (by rw[getElem?_map,(bg (d:=(0:Int)) hi).2];rfl);obtain⟨t,rfl⟩:=r;exact⟨t,by rw[getD_eq_getElem?_getD,hv];rfl⟩
  obtain⟨t,e1⟩:=gi i hi;obtain⟨t',e2⟩:=gi j hj;rw[e1,e2];exact kat_lt_int hC
structure Cp where
 a:Addr
 t:Addr
 p:List Str
 n:Int
def uX(H:Hp)(z:Cp):Prop:=H z.a=some (.tup [.ref z.t,.int z.n])∧H z.t=some (.tup (z.p.map V.str))
theorem kM:∀{ps:List Str}{us:List Value},ax (ps.map V.str) us→StrsAre us ps
 |[],_,.nil=>.nil
 |p::ps,_,.cons ⟨t,e⟩ r=>by subst e;exact .cons p t (kM r)
theorem io(hu:X.A.units+8<cLine):bM X (.builtin "sorted") (λxs H Q=>∃l,∃zs:List Cp,xs=[.ref l]∧H l=some (.lst (zs.map λz=>V.ref z.a))∧(∀z∈zs,uX H z)∧(zs.map (·.p)).Nodup∧zs.length<64 ∧
  ∀zs':List Cp,zs'.Perm zs→zs'.Pairwise (λa b=>HT.bZ a.p b.p=true)→∀p,H p=none→Q (.ref p) (upd H p (.lst (zs'.map λz=>V.ref z.a)))):=by
 intro pins s σ H xs us Q I r h;obtain⟨l,zs,rfl,hl,hk,hnd,h64,q⟩:=h;obtain⟨u,rfl,ru⟩:=ci r;cases ru;obtain⟨_,its,n,rv,ho⟩:=I.hok l _ hl
 let d:Cp:=⟨0,0,[],0⟩
 have hlen:its.length=zs.length:=by rw[←rv.length,length_map]
 have gi:∀i,i<zs.length→its.getD i Value.none=.ref (zs.getD i d).a:=λi hi=>by
  obtain⟨v,hv,r⟩:=rv.get (i:=i) (x:=.ref (zs.getD i d).a) (by rw[getElem?_map,(bg (d:=d) hi).2];rfl);cases r;rw[getD_eq_getElem?_getD,hv];rfl
 have eits:its=zs.map λz=>Value.ref z.a:=by
  have key:∀(l:List Cp)(us:List Value),ax (l.map λz=>V.ref z.a) us→us=l.map λz=>Value.ref z.a:=by
   intro l
   induction l with
   |nil=>intro us r;cases r;rfl
   |cons z l ih =>
    intro us r;cases r with
    |cons r1 r2 =>
     rw[ih _ r2];cases r1;rfl
  exact key zs its rv
 have hobj:∀z∈zs,∃t',IsTup s.heap z.a #[.ref z.t,.int z.n t']:=λz hz=>by
  obtain⟨u,v,r1,r2,ht⟩:=nI I (hk z hz).1;cases r1;obtain⟨t',rfl⟩:=r2;exact⟨t',ht⟩
 have htup:∀z∈zs,∃ws:List Value,StrsAre ws z.p∧IsTup s.heap z.t ws.toArray:=λz hz=>by
  obtain⟨_,ws,r1,ht⟩:=I.hok z.t _ (hk z hz).2;exact⟨ws,kM r1,ht⟩
 have kept:∀{s':Shared}{a:Addr}{xs:Array Value},(∀b o,s.heap.get? b=some o→s'.heap.get? b=some o)→IsTup s.heap a xs→IsTup s'.heap a xs:=λk ⟨o,e,r⟩=>⟨o,k _ o e,r⟩;refine eM (val:=λz:Cp=>V.ref z.a) (d:=d) (f:=λa b=>HT.bZ a.p b.p) (κ:=tuples' false) I rv ⟨λi _=>HT.cz _,λi j k _ _ _ h1 h2=>HT.gw h1 h2,λi j hi hj hij=>HT.jc ?_⟩ ⟨_,ho,rfl,n,rfl⟩ h64 (λA' s' _ kp Q' h2 hQ=>?_) (λA' s' hA kp i j C hi hj hC=>?_) q
 ·intro e;have e':(zs.map (·.p))[i]'(by simpa using hi)=(zs.map (·.p))[j]'(by simpa using hj):=by
   have h1:=(bg (d:=d) hi).2;have h2:=(bg (d:=d) hj).2;rw[getElem_map,getElem_map,(List.getElem?_eq_some_iff.mp h1).2,(List.getElem?_eq_some_iff.mp h2).2];exact e
  exact hij ((getElem_inj hnd).mp e')
 ·have key:∀ys:List Cp,(∀z∈ys,z∈zs)→KatTups s'.heap (ys.map λz=>Value.ref z.a) (ys.map λz=>Value.ref z.t):=by
   intro ys
   induction ys with
   |nil=>intro _;exact KatTups.nil
   |cons z ys ih =>
    intro hm;obtain⟨t',o,e1,e2,n',e3⟩:=hobj z (hm z (by simp));exact KatTups.cons (kp _ _ e1) e2 e3 rfl (ih λy hy=>hm y (by simp[hy]))
  rw[eits];refine kat_kind (T:=.type "tuple") (key zs λz hz=>hz) (by rw[length_map];omega) (λv hv=>?_) (by rfl) hQ;obtain⟨z,hz,rfl⟩:=mem_map.mp hv;obtain⟨ws,_,o,e1,e2,_⟩:=htup z hz;exact e2 ▸ (PySem.W.Looks.ld (kp _ _ e1)).andThen .now
 ·rw[gi i hi,gi j hj];have mi:=(bg (d:=d) hi).1;have mj:=(bg (d:=d) hj).1;generalize zs.getD i d=zi at mi hC⊢;generalize zs.getD j d=zj at mj hC⊢;obtain⟨ti,oi,a1,a2,ni,a3⟩:=hobj zi mi;obtain⟨tj,oj,b1,b2,nj,b3⟩:=hobj zj mj;refine kat_lt (kp _ _ a1) a3 (kp _ _ b1) b3 ?_;obtain⟨wi,si,pi⟩:=htup zi mi;obtain⟨wj,sj,pj⟩:=htup zj mj;have hu1:A'.units<cLine:=by omega
  have ki:IsTupleKey (aE X.prog X.w) s'.heap (zi.p.map Sum.inr) zi.t:=by
   obtain⟨o,its',n',ho',r⟩:=nC (ks:=zi.p.map Sum.inr) I (by rw[map_map];exact(hk zi mi).2) X.prog X.w;exact⟨o,its',n',kp _ _ ho',r⟩
  have kj:IsTupleKey (aE X.prog X.w) s'.heap (zj.p.map Sum.inr) zj.t:=by
   obtain⟨o,its',n',ho',r⟩:=nC (ks:=zj.p.map Sum.inr) I (by rw[map_map];exact(hk zj mj).2) X.prog X.w;exact⟨o,its',n',kp _ _ ho',r⟩
  refine kat_cons (wpAny_eqBool_tuple (knd:=aE X.prog X.w) hu1 ki kj ?_)
  by_cases e:zi.p=zj.p
  ·rw[e,decide_eq_true rfl];have hC':C false s':=by rw[e,HT.cz]at hC;exact hC
   have en:zi=zj:=by
    obtain⟨x,hx,ex⟩:=mem_iff_getElem.mp mi;obtain⟨y,hy,ey⟩:=mem_iff_getElem.mp mj;have e':(zs.map (·.p))[x]'(by simpa using hx)=(zs.map (·.p))[y]'(by simpa using hy):=by rw[getElem_map,getElem_map,ex,ey];exact e
    have:=(getElem_inj hnd).mp e';subst this;rw[←ex,←ey]
   subst en;refine kat_yes (kat_cons (wpAny_eqBool_int ?_));rw[beq_self_eq_true];exact kat_yes (kat_nil (by simpa using hC'))
  ·have hne:¬(zi.p.map Sum.inr:List Key)=zj.p.map Sum.inr:=λz=>e (by
    have:=congrArg (List.map λk:Key=>match k with | .inr x=>x | .inl _=>empty) z;simpa [map_map,Function.comp_def]using this)
   rw[decide_eq_false hne];refine kat_no (kat_one _ _ ?_);exact HT.jd (kept kp pi) (kept kp pj) (by simpa using si) (by simpa using sj) hu1 hC
end
def ml(H:Hp):Nat→V→V→Prop
 |0,x,y=>x=y∧cm x=true
 |n+1,x,y=>(x=y∧cm x=true)∨∃a b xs ys,x=.ref a∧y=.ref b∧H a=some (.tup xs)∧H b=some (.tup ys)∧xs.length=ys.length∧∀(i:Nat) x' y',xs[i]?=some x'→ys[i]?=some y'→ml H n x' y'
theorem mm{x:V}(f:cm x=true):eqV x x=true:=by
 cases x<;>first|rfl|(simp[eqV];done) | (exact absurd (show false=true from f) Bool.false_ne_true)
theorem dS{H:Hp}{n:Nat}{x y:V}(h:x=y∧cm x=true):ml H n x y:=by
 cases n with
 |zero=>exact h
 |succ n=>exact .inl h
section
variable{X:Cx}{pins:List (Addr×Obj)}{σ:St}{H:Hp}{s:Shared}
theorem sD(I:Inv X pins σ H s):∀(n:Nat){A:Around}{x y:V}{u v:Value},aJ x u→aJ y v→ml H n x y→A.units+n<cLine→EqAt A s u v true:=by
 intro n
 induction n with
 |zero =>
  intro A x y u v ru rv h hu;obtain⟨e,f⟩:=h;subst e;have:=kn (A:=A) (s:=s) ru rv f f;rw[mm f]at this;exact this
 |succ n ih =>
  intro A x y u v ru rv h hu;rcases h with⟨e,f⟩|⟨a,b,xs,ys,rfl,rfl,ha,hb,hl,hx⟩
  ·subst e;have:=kn (A:=A) (s:=s) ru rv f f;rw[mm f]at this;exact this
  ·cases ru;cases rv
   by_cases hab:a=b
   ·subst hab;exact EqAt.same _
   ·obtain⟨_,us,r1,t1⟩:=I.hok a _ ha;obtain⟨_,ws,r2,t2⟩:=I.hok b _ hb;have l1:=r1.length;have l2:=r2.length;have:=SeqAt.RcAt.tuples (A:=A) (s:=s) (e:=λ_=>true) t1 t2 (by omega) (λj h1 h2=>by
     have h1':j<xs.length:=by rw[l1];simpa using h1
     have h2':j<ys.length:=by rw[l2];simpa using h2
     obtain⟨u',hu1,hu2⟩:=r1.get (getElem?_eq_getElem h1');obtain⟨v',hv1,hv2⟩:=r2.get (getElem?_eq_getElem h2');have e1:us.toArray[j]=u':=by
      have:us[j]?=some us.toArray[j]:=by rw[getElem?_eq_getElem (by simpa using h1)];simp
      rw[hu1]at this;exact(Option.some.inj this).symm
     have e2:ws.toArray[j]=v':=by
      have:ws[j]?=some ws.toArray[j]:=by rw[getElem?_eq_getElem (by simpa using h2)];simp
      rw[hv1]at this;exact(Option.some.inj this).symm
     rw[e1,e2];exact ih hu2 hv2 (hx j _ _ (getElem?_eq_getElem h1') (getElem?_eq_getElem h2')) (by simp[Around.in1_units];omega))
    have e3:((List.range (min us.toArray.size ws.toArray.size)).all (λ_=>true)&&us.toArray.size==ws.toArray.size)=true:=by
     have:us.toArray.size=ws.toArray.size:=by simp only[size_toArray];omega
     simp[this]
    rw[e3]at this;exact EqAt.of_refs hab this
def bX(H:Hp)(xs ys:List V):Prop:=xs.length=ys.length∧∀(i:Nat) x y,xs[i]?=some x→ys[i]?=some y→ml H 3 x y
theorem gB{pins:List (Addr×Obj)}{σ:St}{H:Hp}{s:Shared}(I:Inv X pins σ H s){xs ys:List V}{us ws:List Value}(r1:ax xs us)(r2:ax ys ws)(h:bX H xs ys){A:Around}(hu:A.units+3<cLine):
  ∀j (h1:j<us.toArray.size) (h2:j<ws.toArray.size),EqAt A s us.toArray[j] ws.toArray[j] true:=λj h1 h2=>by
 have h1':j<xs.length:=by rw[r1.length];simpa using h1
 have h2':j<ys.length:=by rw[r2.length];simpa using h2
 obtain⟨u',hu1,hu2⟩:=r1.get (getElem?_eq_getElem h1');obtain⟨v',hv1,hv2⟩:=r2.get (getElem?_eq_getElem h2');have e1:us.toArray[j]=u':=by
  have:us[j]?=some us.toArray[j]:=by rw[getElem?_eq_getElem (by simpa using h1)];simp
  rw[hu1]at this;exact(Option.some.inj this).symm
 have e2:ws.toArray[j]=v':=by
  have:ws[j]?=some ws.toArray[j]:=by rw[getElem?_eq_getElem (by simpa using h2)];simp
  rw[hv1]at this;exact(Option.some.inj this).symm
 rw[e1,e2];exact sD I 3 hu2 hv2 (h.2 j _ _ (getElem?_eq_getElem h1') (getElem?_eq_getElem h2')) hu
theorem dU(hu:X.A.units+4<cLine):OpR X (compareOp .NotEq) (λx y H Q=>rNe x y H Q∨(∃a b xs ys,x=.ref a∧y=.ref b∧bX H xs ys∧((H a=some (.lst xs)∧H b=some (.lst ys))∨(H a=some (.tup xs)∧H b=some (.tup ys)))∧Q (.bl false) H)):=by
 intro pins s σ H x y v u Q I rx ry h;rcases h with h|⟨a,b,xs,ys,rfl,rfl,hx,h,q⟩
 ·exact eD pins s σ H x y v u Q I rx ry h
 ·cases rx;cases ry;rcases h with⟨ha,hb⟩|⟨ha,hb⟩
  ·obtain⟨_,us,n1,r1,o1⟩:=I.hok a _ ha;obtain⟨_,ws,n2,r2,o2⟩:=I.hok b _ hb;have hl:=hx.1;have l1:=r1.length;have l2:=r2.length;refine RcNeAt.lists (e:=λ_=>true) ⟨_,o1,rfl,n1,rfl⟩ ⟨_,o2,rfl,n2,rfl⟩ (by simp only[size_toArray];omega) (by omega) (gB I r1 r2 hx (by simp[Around.in1_units];omega)) _ _ _ _ ⟨.bl false,H,I,?_,q⟩;show _=Value.bool false;simp
  ·obtain⟨_,us,r1,t1⟩:=I.hok a _ ha;obtain⟨_,ws,r2,t2⟩:=I.hok b _ hb;have hl:=hx.1;have l1:=r1.length;have l2:=r2.length;refine RcNeAt.tuples (e:=λ_=>true) t1 t2 (by omega) (gB I r1 r2 hx (by simp[Around.in1_units];omega)) _ _ _ _ ⟨.bl false,H,I,?_,q⟩;show _=Value.bool false;have:us.toArray.size=ws.toArray.size:=by simp only[size_toArray];omega
   simp[this]
theorem vZ{A:Around}{s:Shared}{bs:List Bool}:∀y,y∈(bs.map Value.bool).toArray→EqAt A s y (.bool true) (y==.bool true):=λy hy=>by
 have hy':y∈bs.map Value.bool:=by simpa using hy
 obtain⟨b,_,rfl⟩:=mem_map.mp hy';have:=EqAt.bool_bool (A:=A) (s:=s) b true;cases b<;>exact this
theorem sE:MtM X "list.count" (λx vs H Q=>∃l,∃bs:List Bool,x=.ref l∧vs=[.bl true]∧H l=some (.lst (bs.map V.bl))∧Q (.int (bs.count true:Nat)) H):=by
 intro pins s σ H x vs v us Q I rx rv h;obtain⟨l,bs,rfl,rfl,hl,q⟩:=h;cases rx;obtain⟨u,rfl,ru⟩:=ci rv;cases (show u=Value.bool true from ru);obtain⟨_,its,n,r,ho⟩:=I.hok l _ hl;have e:=iz r;subst e;refine call_meets PySem.F.slot_list_count ⟨_,ho,rfl⟩ PySem.F.entry_list_count (PySem.F.args_list_count_2 _ _) (SeqAt.list_countAt l _ n none #[] (.bool true) (λy=>y==.bool true)) ⟨ho,vZ,⟨.int (bs.count true:Nat),H,I.tok _,?_,q⟩⟩;have:((bs.map Value.bool).toArray.toList.countP λy=>y==.bool true)=bs.count true:=by
  rw[List.count];simp only[List.countP_map]
  congr 1
  funext b
  cases b<;>rfl
 rw[this];exact⟨_,rfl⟩
theorem sF:MtM X "list.index" (λx vs H Q=>∃l j,∃bs:List Bool,x=.ref l∧vs=[.bl true]∧H l=some (.lst (bs.map V.bl))∧bs.length≤1000∧bs[j]?=some true∧(∀m,m<j→bs[m]?=some false)∧Q (.int (j:Nat)) H):=by
 intro pins s σ H x vs v us Q I rx rv h;obtain⟨l,j,bs,rfl,rfl,hl,hz,hj,hm,q⟩:=h;cases rx;obtain⟨u,rfl,ru⟩:=ci rv;cases (show u=Value.bool true from ru);obtain⟨_,its,n,r,ho⟩:=I.hok l _ hl;have e:=iz r;subst e;have hjl:j<bs.length:=(List.getElem?_eq_some_iff.mp hj).1;refine call_meets PySem.F.slot_list_index ⟨_,ho,rfl⟩ PySem.F.entry_list_index (PySem.F.args_list_index_2 _ _) (SeqAt.list_indexAt l _ n none #[] (.bool true) (λy=>y==.bool true) j (by simpa using hjl) (by omega) ?_ ?_) ⟨ho,vZ,⟨.int (j:Nat),H,I.tok _,⟨_,rfl⟩,q⟩⟩
 ·have:=(List.getElem?_eq_some_iff.mp hj).2;simp[this]
 ·intro m hm1 hm2;have:=(List.getElem?_eq_some_iff.mp (hm m hm2)).2;simp[this]
theorem ba:bM X (.builtin "isinstance") (λxs H Q=>∃ea C c b,xs=[.ref ea,c]∧H ea=some (.ext (XI.lZ ea C))∧XI.lY X.K C=true∧((∃n,c=.ty n∧kitOne X.K (.ref C) (.type n)=some b)∨(∃D,c=.ref D∧kitOne X.K (.ref C) (.ref D)=some b))∧Q (.bl b) H):=by
 intro pins s σ H xs us Q I r h;obtain⟨ea,C,c,b,rfl,hH,hxc,hc,q⟩:=h;obtain⟨u,u',rfl,ru,ru'⟩:=oG r;cases ru;obtain⟨hex,_,_⟩:=I.hok ea _ hH;rcases hc with⟨n,rfl,e⟩|⟨D,rfl,e⟩
 ·cases (show u'=type n from ru');exact kia_one (XI.ma hxc) I.kIn hex e (λz=>nomatch z) λtk=>⟨.bl b,H,I.tok tk,rfl,q⟩
 ·cases (show u'=Value.ref D from ru');exact kia_one (XI.ma hxc) I.kIn hex e (λz=>nomatch z) λtk=>⟨.bl b,H,I.tok tk,rfl,q⟩
end
section
variable{prog:Program}{w:World}{A:Around}{E:Value→Shared→Prop}{s:Shared}
end
section
variable{P:Program}{w:World}
end
section
variable{X:Cx}{o e:Expr}{td ty:TE}{apos cpos:Pos}
end
def Ext(p:Addr)(H H':Hp):Prop:=∀b o,b≠p→H b=some o→H' b=some o
theorem Ext.of{p:Addr}{H H':Hp}(s:Same H H'):Ext p H H':=λb o _ e=>s b o e
theorem Ext.upd{p:Addr}{H:Hp}{o:HO}:Ext p H (upd H p o):=λb u hb e=>by rw[ai hb];exact e
theorem Ext.trans{p:Addr}{H H1 H2:Hp}(a:Ext p H H1)(b:Ext p H1 H2):Ext p H H2:=λc o hc e=>b c o hc (a c o hc e)
def yJ(te:TE):Prop:=∀σ H (Q Q':VK),(∀y H,Q y H→Q' y H)→te σ H Q→te σ H Q'
theorem nK{js:List Nat}{J:It}{te:TE}{σ:St}{H1:Hp}{Q:VK}{p:Addr}{fr:List (Option V)}(n:Nat)(hn:n≤1000)(hp:H1 p=none)(hfr:cF 1 js σ=none::fr)(R:Nat→V→Hp→Prop)(hR:∀i y H H',R i y H→Ext p H H'→R i y H')(go:∀i H',i<n→Same H1 H'→J.go i H')(stop:∀H',Same H1 H'→J.stop n H')(me:yJ te)(step:∀i H' x H2,i<n→Same H1 H'→(∃ys,H' p=some (.lst ys))→J.yld i H' x H2→H2=H'∧te (some x::fr) H' λy H4=>Same H' H4∧R i y H4)(fin:∀ys H',Same H1 H'→H' p=some (.lst ys)→ys.length=n→(∀(j:Nat) y,ys[j]?=some y→R j y H')→Q (.ref p) H'):LcW 1 js (aO 0) te σ Q J H1 p:=by
 refine lV (k:=1) (js:=js) (J:=J) (p:=p) n hn (λi ys σ' H'=>(∃o,σ'=o::fr)∧Same H1 H'∧H' p=some (.lst ys)∧ys.length=i∧∀(j:Nat) y,ys[j]?=some y→R j y H') ⟨⟨none,hfr⟩,af hp,ac,rfl,λj y h=>by simp at h⟩
  (λi ys σ' H' h=>by have:=h.2.2.2.1;omega) (λi ys σ' H' hi h=>go i H' hi h.2.1) (λys σ' H' h=>⟨stop H' h.2.1,fin ys H' h.2.1 h.2.2.1 h.2.2.2.1 h.2.2.2.2⟩) (λi ys σ' H' hi h x H2 hy=>?_) ?_ me
 ·obtain⟨⟨o,rfl⟩,s1,hl,hlen,hrs⟩:=h;obtain⟨rfl,ht⟩:=step i H' x H2 hi s1 ⟨ys,hl⟩ hy;refine me _ _ _ _ (λy H4 h4=>?_) ht;obtain⟨s4,r4⟩:=h4;refine⟨s4 _ _ hl,⟨some x,rfl⟩,aG hp (s1.trans s4),ac,by rw[length_append,hlen];rfl,λj z hz=>?_⟩;have ex:Ext p H2 (upd H4 p (.lst (ys++[y]))):=(Ext.of s4).trans Ext.upd
  by_cases hj:j<ys.length
  ·rw[getElem?_append_left hj]at hz;exact hR _ _ _ _ (hrs j z hz) ex
  ·rw[getElem?_append_right (by omega)]at hz;have hj':j-ys.length=0:=by
    cases e:j-ys.length with
    |zero=>rfl
    |succ m=>rw[e]at hz;simp at hz
   rw[hj']at hz;have ez:y=z:=by simpa using hz
   subst ez;have ej:j=i:=by omega
   subst ej;exact hR _ _ _ _ r4 Ext.upd
 ·intro _ _ _ _ _ m q;exact m _ _ q
theorem cJ{H:Hp}{p q:Addr}(hp:∃ys,H p=some (.lst ys))(hq:H q=none):q≠p:=λe=>by
 obtain⟨ys,h⟩:=hp;rw[←e,hq]at h;cases h
section
variable{X:Cx}{N:List Str}{scope:Scope}{cl:List (Str×Addr)}{k:Nat}{js:List Nat}
theorem qG{elt tg iter c:Expr}{pos spos py:Pos}{y:Str}{ii:Nat}{wi:TI}{g:TG}{tc:TT}{te:TE}(hXN:X.N.Nodup)(hii:X.N[ii]?=some y)(hx:Loc X.env.scope y)(hc:X.calm=true)(L:LcOk X scope cl)(hN:N.length=k+js.length)(hj:∀(i j:Nat) x,js[i]?=some j→N[k+i]?=some x→X.N[j]?=some x∧Vis X.env.scope x∧X.env.scope.names.lookup x≠some .local∧((relabel scope X.env).names.lookup x=some .cell∨(relabel scope X.env).names.lookup x=some .free))(hi:PI X tg iter wi)(hg:∀s H fp,PG (bV X N scope cl s H fp) tg g)(ht:∀s H fp,PT (bV X N scope cl s H fp) c tc)(he:∀s H fp,PE (bV X N scope cl s H fp) elt te)(hs:∀x,foldedSetIterable iter X.env x=pure x:=by intro _;rfl)(hsw:swapsWith (.ListComp elt [⟨tg,iter,[c],0⟩] scope pos) (some (.Name y py)) spos.line X.env=pure true:=by rfl)(hf:X.fn y=true∨X.env.scope.names.lookup y=some .local:=by first|exact .inl rfl|exact .inr rfl|assumption):PS X (.Assign [.Name y py] (.ListComp elt [⟨tg,iter,[c],0⟩] scope pos) spos) (ut (yE k js wi g tc te) (aO ii)):=by
 intro pins s σ H D I h;rw[exec_Assign_Name_used _ _ _ _ hsw];refine wpAny_bind (wpAny_standAt (wpAny_bind ?_));show wpAny _ X.A (do let _ ← comprehension (.ListComp elt [⟨tg,iter,[c],0⟩] scope pos) scope X.env _ (newList []) false (eval iter X.env) (some (assign (.Name y py) X.env))) _ _ s
 refine wpAny_bind (wpAny_mono (wpAny_comprehension_free (use:=some (assign (.Name y py) X.env)) (Q:=λ_ s'=>∃σ' H',Inv X pins σ' H' s'∧D.nx σ' H') rfl hs L.clos L.kind L.names ?_) (λ_ s' hq=>wpAny_pure (wpAny_pure hq)) λ_ _ e=>e);refine thn (hi pins s σ H _ I h) λv s1 h1=>thn h1 λitv s2 h2=>?_;obtain⟨it,fp,tn,J,H2,e,I2,T,st2,f2,hW⟩:=h2;subst e;have hfp:∀b∈fp,b<s2.heap.objs.size:=λb hb=>by
  obtain⟨o,e,_⟩:=T.obj _ _ st2 b hb;exact lt_size e
 refine wpAny_newObj_type (wpAny_newFunctionEnv L.nocell (by intro y hy;simp at hy) (λh₁ hns hsb=>?_) L.kind);dsimp only at hns hsb⊢;obtain⟨W,⟨m0,w0⟩,turn⟩:=hW s2.heap.objs.size (I2.hok.fresh (le_refl _));have I3:Inv X pins σ (upd H2 s2.heap.objs.size (.lst [])) {s2 with heap:=s2.heap.push {cls:=.type "list",dict:=none,data:=.seq ([]:List Value).toArray}}:=I2.lnew (t':=s2.toks) .nil (zero_le _)
 generalize hA:s2.heap.push {cls:=.type "list",dict:=none,data:=.seq ([]:List Value).toArray}=hpA at hns hsb I3⊢;have hszA:hpA.objs.size=s2.heap.objs.size+1:=by rw[←hA,size_push]
 have keepA:∀b o,s2.heap.get? b=some o→hpA.get? b=some o:=λb o e=>by rw[←hA];exact get?_push_of_some _ e
 have f3:∀b∈fp,eB X pins (upd H2 s2.heap.objs.size (.lst [])) b:=λb hb=>⟨by rw[ai (ne_of_lt (hfp b hb))];exact(f2 b hb).1,(f2 b hb).2⟩;have hfp3:∀b∈fp,b<hpA.objs.size:=λb hb=>by rw[hszA];exact lt_succ_of_lt (hfp b hb)
 have keep1:∀b o,hpA.get? b=some o→h₁.get? b=some o:=λb o e=>hsb.extBut b o (ne_of_lt (lt_size e)) (get?_push_of_some _ e);have J0:=gn (N:=N) (k:=k) (js:=js) (tk:=s2.toks+([]:List (Str×Value)).length) I3 L f3 hfp3 ⟨_,hns⟩ keep1 hN hj;have st1:tn 0 h₁:=T.keep _ _ _ st2 λb hb o e=>keep1 b o (keepA b o e);have stat:∀{H':Hp},(∀b∈fp,H' b=none)→∀b∈fp,eB (bV X N scope cl {s2 with heap:=hpA} (upd H2 s2.heap.objs.size (.lst [])) fp) [] H' b:=λhn b hb =>
  ⟨hn b hb,ne_of_lt (hfp3 b hb),(lD (N:=N) I3 L f3 hfp3).exfs b hb,.inl hb,λx c h=>(f3 b hb).2.2.2.2.1 x c (L.cells x c h),λp hp=>absurd (show p∈([]:List (Addr×Obj))from hp) (by simp)⟩
 have loop:codeAny (model X.prog X.w) X.A (.compLoop (.ListComp elt [⟨tg,iter,[c],0⟩] scope pos) 0 (.ref it) (.ref s2.heap.objs.size) (compEnvC scope cl hpA.objs.size X.env))
   (compPost (model X.prog X.w) X.A X.xe (some (assign (.Name y py) X.env)) (λ_ s'=>∃σ' H',Inv X pins σ' H' s'∧D.nx σ' H') (.ref s2.heap.objs.size) hpA.objs.size) {s2 with heap:=h₁,toks:=s2.toks+([]:List (Str×Value)).length}:=by
  refine lE (λn s'=>∃i ys σ' H',Inv (bV X N scope cl {s2 with heap:=hpA} (upd H2 s2.heap.objs.size (.lst [])) fp) [] σ' H' s'∧tn i s'.heap∧(∀b∈fp,H' b=none)∧W i n ys σ' H') ?_ m0 ⟨0,[],_,_,J0,st1,λb hb=>(f3 b hb).1,w0⟩
  rintro n s3 ⟨i,ys,σ3,H3,J3,st3,fr3,w3⟩;rcases turn i n ys σ3 H3 w3 with⟨stop,qn⟩|⟨go,hlen,step⟩
  ·refine thn (T.done (bV X N scope cl {s2 with heap:=hpA} (upd H2 s2.heap.objs.size (.lst [])) fp) rfl rfl rfl hc i [] s3 σ3 H3 (λ_ _=>False) J3 (stat fr3) st3 stop) λr s4 hpt=>?_
   obtain⟨hr,J4⟩:=hpt;subst hr;obtain⟨m,hm,_⟩:=J4.loc;have I4:Inv X pins σ H3 s4:=kt I3 f3 J4 (SameBut.refl _ _);obtain⟨f0,f1,f2,f3',f4,f5⟩:=I3.fpOk (b:=hpA.objs.size) (le_refl _) (H':=H3) J4.free;show wpAny _ _ (assign (.Name y py) X.env (.ref s2.heap.objs.size)) _ _ _;refine wpAny_assign_Name (gQ I4 hXN hii hx (v:=.ref s2.heap.objs.size) rfl (λs5 I5 ⟨a,sb,ha⟩=>⟨m,hm.sameBut sb ?_,λh' hs'=>⟨_,H3,I5.turned (t':=s5.toks) (λb o hb e=>(hs'.2 b hb).trans e) f0 f1 f3' f4 f5,qn⟩⟩) hf);rcases ha with e|e
   ·rw[e];exact f1
   ·exact λz=>f4 _ _ e z.symm
  ·refine thn (T.item (bV X N scope cl {s2 with heap:=hpA} (upd H2 s2.heap.objs.size (.lst [])) fp) rfl rfl rfl hc i [] s3 σ3 H3 (λ_ _=>False) J3 (stat fr3) st3 go) λr s4 hpt=>?_
   obtain⟨u,hr,h4⟩:=hpt;subst hr;refine thn h4 λ_ s5 hpt=>?_;obtain⟨x,H5,J5,r5,y5,st5,fr5⟩:=hpt;have J5':=J5.pinned (stat fr5) (T.obj _ _ st5);refine thn (hg _ _ _ _ s5 σ3 H5 x u _ J5' r5 (step x H5 y5)) λ_ s6 hpt=>?_;obtain⟨σ6,H6,J6,q6⟩:=hpt;refine thn (ht _ _ _ _ s6 σ6 H6 _ J6 q6) λb s6 hpt=>?_;obtain⟨H6,J6,q6⟩:=hpt;cases b with
   |true =>
    rw[if_pos rfl]at q6⊢;refine thn (he _ _ _ _ s6 σ6 H6 _ J6 q6) λy s7 hpt=>?_;obtain⟨vy,H7,J7,r7,q7,m',hm',w7⟩:=hpt;refine thn (bx _ s7 σ6 H7 (.ref s2.heap.objs.size) [vy] _ _ (λ_ H8=>H8=upd H7 s2.heap.objs.size (.lst (ys++[vy]))) J7 rfl (.cons r7 .nil) ⟨_,ys,vy,rfl,rfl,q7,hlen,rfl⟩) λ_ s8 hpt=>?_;obtain⟨_,H8,J8,_,e8⟩:=hpt;subst e8;refine⟨m',hm',i+1,ys++[vy],σ6,_,J8.unpinned,T.keep _ _ _ st5 λb hb o e=>(J8.pin (b,o) (mem_append_right _ (mem_append_right _ (aV hb e)))).1,λb hb=>?_,w7⟩;obtain⟨o,e,d⟩:=T.obj _ _ st5 b hb;exact(J8.pin (b,o) (mem_append_right _ (mem_append_right _ (aV hb e)))).2.1
   |false =>
    rw[if_neg (by simp)]at q6⊢;obtain⟨m',hm',w7⟩:=q6;refine⟨m',hm',i+1,ys,σ6,_,J6.unpinned,T.keep _ _ _ st5 λb hb o e=>(J6.pin (b,o) (mem_append_right _ (mem_append_right _ (aV hb e)))).1,λb hb=>?_,w7⟩;obtain⟨o,e,d⟩:=T.obj _ _ st5 b hb;exact(J6.pin (b,o) (mem_append_right _ (mem_append_right _ (aV hb e)))).2.1
 exact codeAny_compStart_list loop (T.self _ 0 _ _ _ st1 loop)
theorem sG{elt tg iter:Expr}{pos spos py:Pos}{y:Str}{ii:Nat}{wi:TI}{g:TG}{te:TE}(hXN:X.N.Nodup)(hii:X.N[ii]?=some y)(hx:Loc X.env.scope y)(hc:X.calm=true)(L:LcOk X scope cl)(hN:N.length=k+js.length)(hj:∀(i j:Nat) x,js[i]?=some j→N[k+i]?=some x→X.N[j]?=some x∧Vis X.env.scope x∧X.env.scope.names.lookup x≠some .local∧((relabel scope X.env).names.lookup x=some .cell∨(relabel scope X.env).names.lookup x=some .free))(hi:PI X tg iter wi)(hg:∀s H fp,PG (bV X N scope cl s H fp) tg g)(he:∀s H fp,PE (bV X N scope cl s H fp) elt te)(hs:∀x,foldedSetIterable iter X.env x=pure x:=by intro _;rfl)(hsw:swapsWith (.ListComp elt [⟨tg,iter,[],0⟩] scope pos) (some (.Name y py)) spos.line X.env=pure true:=by rfl)(hf:X.fn y=true∨X.env.scope.names.lookup y=some .local:=by first|exact .inl rfl|exact .inr rfl|assumption):PS X (.Assign [.Name y py] (.ListComp elt [⟨tg,iter,[],0⟩] scope pos) spos) (ut (tLc k js wi g te) (aO ii)):=by
 intro pins s σ H D I h;rw[exec_Assign_Name_used _ _ _ _ hsw];refine wpAny_bind (wpAny_standAt (wpAny_bind ?_));show wpAny _ X.A (do let _ ← comprehension (.ListComp elt [⟨tg,iter,[],0⟩] scope pos) scope X.env _ (newList []) false (eval iter X.env) (some (assign (.Name y py) X.env))) _ _ s
 refine wpAny_bind (wpAny_mono (wpAny_comprehension_free (use:=some (assign (.Name y py) X.env)) (Q:=λ_ s'=>∃σ' H',Inv X pins σ' H' s'∧D.nx σ' H') rfl hs L.clos L.kind L.names ?_) (λ_ s' hq=>wpAny_pure (wpAny_pure hq)) λ_ _ e=>e);refine thn (hi pins s σ H _ I h) λv s1 h1=>thn h1 λitv s2 h2=>?_;obtain⟨it,fp,tn,J,H2,e,I2,T,st2,f2,hW⟩:=h2;subst e;have hfp:∀b∈fp,b<s2.heap.objs.size:=λb hb=>by
  obtain⟨o,e,_⟩:=T.obj _ _ st2 b hb;exact lt_size e
 refine wpAny_newObj_type (wpAny_newFunctionEnv L.nocell (by intro y hy;simp at hy) (λh₁ hns hsb=>?_) L.kind);dsimp only at hns hsb⊢;obtain⟨W,⟨m0,w0⟩,turn⟩:=hW s2.heap.objs.size (I2.hok.fresh (le_refl _));have I3:Inv X pins σ (upd H2 s2.heap.objs.size (.lst [])) {s2 with heap:=s2.heap.push {cls:=.type "list",dict:=none,data:=.seq ([]:List Value).toArray}}:=I2.lnew (t':=s2.toks) .nil (zero_le _)
 generalize hA:s2.heap.push {cls:=.type "list",dict:=none,data:=.seq ([]:List Value).toArray}=hpA at hns hsb I3⊢;have hszA:hpA.objs.size=s2.heap.objs.size+1:=by rw[←hA,size_push]
 have keepA:∀b o,s2.heap.get? b=some o→hpA.get? b=some o:=λb o e=>by rw[←hA];exact get?_push_of_some _ e
 have f3:∀b∈fp,eB X pins (upd H2 s2.heap.objs.size (.lst [])) b:=λb hb=>⟨by rw[ai (ne_of_lt (hfp b hb))];exact(f2 b hb).1,(f2 b hb).2⟩;have hfp3:∀b∈fp,b<hpA.objs.size:=λb hb=>by rw[hszA];exact lt_succ_of_lt (hfp b hb)
 have keep1:∀b o,hpA.get? b=some o→h₁.get? b=some o:=λb o e=>hsb.extBut b o (ne_of_lt (lt_size e)) (get?_push_of_some _ e);have J0:=gn (N:=N) (k:=k) (js:=js) (tk:=s2.toks+([]:List (Str×Value)).length) I3 L f3 hfp3 ⟨_,hns⟩ keep1 hN hj;have st1:tn 0 h₁:=T.keep _ _ _ st2 λb hb o e=>keep1 b o (keepA b o e);have stat:∀{H':Hp},(∀b∈fp,H' b=none)→∀b∈fp,eB (bV X N scope cl {s2 with heap:=hpA} (upd H2 s2.heap.objs.size (.lst [])) fp) [] H' b:=λhn b hb =>
  ⟨hn b hb,ne_of_lt (hfp3 b hb),(lD (N:=N) I3 L f3 hfp3).exfs b hb,.inl hb,λx c h=>(f3 b hb).2.2.2.2.1 x c (L.cells x c h),λp hp=>absurd (show p∈([]:List (Addr×Obj))from hp) (by simp)⟩
 have loop:codeAny (model X.prog X.w) X.A (.compLoop (.ListComp elt [⟨tg,iter,[],0⟩] scope pos) 0 (.ref it) (.ref s2.heap.objs.size) (compEnvC scope cl hpA.objs.size X.env))
   (compPost (model X.prog X.w) X.A X.xe (some (assign (.Name y py) X.env)) (λ_ s'=>∃σ' H',Inv X pins σ' H' s'∧D.nx σ' H') (.ref s2.heap.objs.size) hpA.objs.size) {s2 with heap:=h₁,toks:=s2.toks+([]:List (Str×Value)).length}:=by
  refine oO (λn s'=>∃i ys σ' H',Inv (bV X N scope cl {s2 with heap:=hpA} (upd H2 s2.heap.objs.size (.lst [])) fp) [] σ' H' s'∧tn i s'.heap∧(∀b∈fp,H' b=none)∧W i n ys σ' H') ?_ m0 ⟨0,[],_,_,J0,st1,λb hb=>(f3 b hb).1,w0⟩
  rintro n s3 ⟨i,ys,σ3,H3,J3,st3,fr3,w3⟩;rcases turn i n ys σ3 H3 w3 with⟨stop,qn⟩|⟨go,hlen,step⟩
  ·refine thn (T.done (bV X N scope cl {s2 with heap:=hpA} (upd H2 s2.heap.objs.size (.lst [])) fp) rfl rfl rfl hc i [] s3 σ3 H3 (λ_ _=>False) J3 (stat fr3) st3 stop) λr s4 hpt=>?_
   obtain⟨hr,J4⟩:=hpt;subst hr;obtain⟨m,hm,_⟩:=J4.loc;have I4:Inv X pins σ H3 s4:=kt I3 f3 J4 (SameBut.refl _ _);obtain⟨f0,f1,f2,f3',f4,f5⟩:=I3.fpOk (b:=hpA.objs.size) (le_refl _) (H':=H3) J4.free;show wpAny _ _ (assign (.Name y py) X.env (.ref s2.heap.objs.size)) _ _ _;refine wpAny_assign_Name (gQ I4 hXN hii hx (v:=.ref s2.heap.objs.size) rfl (λs5 I5 ⟨a,sb,ha⟩=>⟨m,hm.sameBut sb ?_,λh' hs'=>⟨_,H3,I5.turned (t':=s5.toks) (λb o hb e=>(hs'.2 b hb).trans e) f0 f1 f3' f4 f5,qn⟩⟩) hf);rcases ha with e|e
   ·rw[e];exact f1
   ·exact λz=>f4 _ _ e z.symm
  ·refine thn (T.item (bV X N scope cl {s2 with heap:=hpA} (upd H2 s2.heap.objs.size (.lst [])) fp) rfl rfl rfl hc i [] s3 σ3 H3 (λ_ _=>False) J3 (stat fr3) st3 go) λr s4 hpt=>?_
   obtain⟨u,hr,h4⟩:=hpt;subst hr;refine thn h4 λ_ s5 hpt=>?_;obtain⟨x,H5,J5,r5,y5,st5,fr5⟩:=hpt;have J5':=J5.pinned (stat fr5) (T.obj _ _ st5);refine thn (hg _ _ _ _ s5 σ3 H5 x u _ J5' r5 (step x H5 y5)) λ_ s6 hpt=>?_;obtain⟨σ6,H6,J6,q6⟩:=hpt;refine thn (he _ _ _ _ s6 σ6 H6 _ J6 q6) λy s7 hpt=>?_;obtain⟨vy,H7,J7,r7,q7,m',hm',w7⟩:=hpt;refine thn (bx _ s7 σ6 H7 (.ref s2.heap.objs.size) [vy] _ _ (λ_ H8=>H8=upd H7 s2.heap.objs.size (.lst (ys++[vy]))) J7 rfl (.cons r7 .nil) ⟨_,ys,vy,rfl,rfl,q7,hlen,rfl⟩) λ_ s8 hpt=>?_;obtain⟨_,H8,J8,_,e8⟩:=hpt;subst e8;refine⟨m',hm',i+1,ys++[vy],σ6,_,J8.unpinned,T.keep _ _ _ st5 λb hb o e=>(J8.pin (b,o) (mem_append_right _ (mem_append_right _ (aV hb e)))).1,λb hb=>?_,w7⟩;obtain⟨o,e,d⟩:=T.obj _ _ st5 b hb;exact(J8.pin (b,o) (mem_append_right _ (mem_append_right _ (aV hb e)))).2.1
 exact codeAny_compStart_list loop (T.self _ 0 _ _ _ st1 loop)
end
abbrev TJ:=St→Hp→(Hp→Prop)→Prop
section
variable{X:Cx}{tg:Expr}
def PJ(X:Cx)(ps:List Expr)(b:Nat)(t:TJ):Prop :=
 ∀(out:Str)(pins:List (Addr×Obj))(s:Shared)(σ:St)(H:Hp)(Q:VK),Inv X pins σ H s→out.length+b≤1000→(t σ H λH1=>∀y,Q (.str y) H1)→wpAny (model X.prog X.w) X.A (joinParts out (evalEach ps X.env)) (EP X pins σ Q) X.xe s
theorem xb:PJ X [] 0 (λσ H k=>k H):=by
 intro out pins s σ H Q I hb h;exact joinParts_nilE (joinParts_nil ⟨.str _,H,I.tok _,⟨_,rfl⟩,h _⟩ (le_of_lt (aF (by omega))))
theorem sI{x:Str}{c b:Nat}{j:Nat}{p:Pos}{ps:List Expr}{t:TJ}(hx:x.length≤c)(h:PJ X ps b t):PJ X (.Constant (.str x) j p::ps) (c+b) t:=by
 intro out pins s σ H Q I hb hq;refine joinParts_cons (Constant_str ?_);have hl:(out++x).length=out.length+x.length:=strLen_append ..;exact⟨le_of_lt (aF (by omega)),h _ pins _ σ H Q (I.tok _) (by omega) hq⟩
def yK(t:TJ):TE:=λσ H Q=>t σ H λH1=>∀y,Q (.str y) H1
theorem uY{p1 p2:Expr}{ps:List Expr}{pos:Pos}{b:Nat}{t:TJ}(h:PJ X (p1::p2::ps) b t)(hb:b≤1000):PE X (.JoinedStr (p1::p2::ps) pos) (yK t):=by
 intro pins s σ H Q I hq;exact JoinedStr_many (h empty pins s σ H Q I (by show 0+b≤1000;omega) hq)
def iDK(td:TE):TI:=λσ H R=>td σ H λv H1=>∃d kvs,v=.ref d∧H1 d=some (.dK kvs)∧∀o,R (Itk d o (.dK kvs) (kvs.map λp=>kV p.1)) (upd H1 d (.frz o (.dK kvs)))
theorem sJ{l:Expr}{tl:TE}(hl:PE X l tl):PI X tg l (iDK tl):=by
 intro pins s σ H R I h;refine thn (hl pins s σ H _ I h) λv s1 hpt=>?_;obtain⟨x,H1,I1,r1,q1⟩:=hpt;obtain⟨d,kvs,e,hH,q⟩:=q1;subst e;cases r1;obtain⟨hz,hsm,vs,rel,o,es,ep,ho,hx,hd,hk,hp,hn⟩:=I1.hok d _ hH;have I2:Inv X pins σ (upd H1 d (.frz o (.dK kvs))) s1:=I1.write (t':=s1.toks) (x:=d) (e:=d) (by rw[hH];trivial) (.inl rfl) (λ_ _ _ q=>q) ⟨o,ho⟩ ⟨ho,hz,hsm,vs,rel,o,es,ep,ho,hx,hd,hk,hp,hn⟩;refine mf hsm ⟨o,ho,hx,hd⟩ ?_;refine⟨s1.heap.objs.size,[s1.heap.objs.size],_,_,upd H1 d (.frz o (.dK kvs)),rfl,I2.kept (t':=s1.toks) λb o e=>get?_push_of_some _ e,jR hx hd ?_,⟨_,get?_push_size _ rfl,rfl,rfl⟩,λb hb=>?_,q o⟩
 ·have key:∀(es:List DictEntry)(vs:List (Key×Value))(kvs:List (Key×V)),Pairs (aE X.prog X.w) es vs→KV kvs vs→ax (kvs.map λp=>kV p.1) (es.map (·.key)):=by
   intro es vs kvs hp
   induction hp generalizing kvs with
   |nil=>intro r;cases r;exact .nil
   |cons h1 h2 _ ih =>
    intro r;cases r with
    |cons r1 r2 =>
     refine .cons ?_ (ih _ r2);dsimp only;rw[r1.1];rcases aX h1 with⟨i,t,e1,e2⟩|⟨x,t,e1,e2⟩
     ·rw[e1,e2];exact⟨t,rfl⟩
     ·rw[e1,e2];exact⟨t,rfl⟩
  exact key _ _ _ hp rel
 ·have e:b=s1.heap.objs.size:=by simpa using hb
  subst e;exact I2.fpOk (le_refl _) (I2.hok.fresh (le_refl _))
theorem nM(hu:X.A.units+4<cLine):OpR X (compareOp .Eq) (λx y H Q=>rEq x y H Q∨(∃a b xs ys,x=.ref a∧y=.ref b∧bX H xs ys∧((H a=some (.lst xs)∧H b=some (.lst ys))∨(H a=some (.tup xs)∧H b=some (.tup ys)))∧Q (.bl true) H)):=by
 intro pins s σ H x y v u Q I rx ry h;rcases h with h|⟨a,b,xs,ys,rfl,rfl,hx,h,q⟩
 ·exact jC pins s σ H x y v u Q I rx ry h
 ·cases rx;cases ry;rcases h with⟨ha,hb⟩|⟨ha,hb⟩
  ·obtain⟨_,us,n1,r1,o1⟩:=I.hok a _ ha;obtain⟨_,ws,n2,r2,o2⟩:=I.hok b _ hb;have hl:=hx.1;have l1:=r1.length;have l2:=r2.length;refine eq_listAt (e:=λ_=>true) ⟨_,o1,rfl,n1,rfl⟩ ⟨_,o2,rfl,n2,rfl⟩ (by simp only[size_toArray];omega) (by omega) (gB I r1 r2 hx (by simp[Around.in1_units];omega)) ⟨.bl true,H,I,?_,q⟩;show _=Value.bool true;simp
  ·obtain⟨_,us,r1,t1⟩:=I.hok a _ ha;obtain⟨_,ws,r2,t2⟩:=I.hok b _ hb;have hl:=hx.1;have l1:=r1.length;have l2:=r2.length;refine SeqAt.eq_tupleAt (e:=λ_=>true) t1 t2 (by omega) (gB I r1 r2 hx (by simp[Around.in1_units];omega)) ⟨.bl true,H,I,?_,q⟩;show _=Value.bool true;have:us.toArray.size=ws.toArray.size:=by simp only[size_toArray];omega
   simp[this]
end
theorem Same.seqT{K:PySem.W.Frag}{H H':Hp}{a:Addr}{xs:List V}(e:Same H H')(h:SqT K H a xs):SqT K H' a xs:=by
 rcases h with (h|⟨o,h⟩)|h
 ·exact .inl (.inl (e _ _ h))
 ·exact .inl (.inr ⟨o,e _ _ h⟩)
 ·exact .inr h
structure Src(J:It)(H1:Hp)(xs:List V):Prop where
 go:∀i H',i<xs.length→Same H1 H'→J.go i H'
 stop:∀H',Same H1 H'→J.stop xs.length H'
 yl:∀i H' x H2,i<xs.length→Same H1 H'→J.yld i H' x H2→H2=H'∧xs[i]?=some x
theorem bE{K:PySem.W.Frag}{a:Addr}{xs:List V}{H1:Hp}(h:SqT K H1 a xs):Src (Itt K a) H1 xs :=
 ⟨λi H' hi s=>⟨xs,xs[i],s.seqT h,getElem?_eq_getElem hi⟩,λH' s=>⟨xs,s.seqT h,le_refl _⟩,λi H' x H2 _ s ⟨e,y⟩=>⟨e,y xs (by subst e;exact s.seqT h)⟩⟩
theorem dW{K:PySem.W.Frag}{a:Addr}{xs:List V}{H1:Hp}(h:SqL K H1 a xs):Src (Itl K a) H1 xs :=
 ⟨λi H' hi s=>⟨xs,xs[i],s.seq h,getElem?_eq_getElem hi⟩,λH' s=>⟨xs,s.seq h,le_refl _⟩,λi H' x H2 _ s ⟨e,y⟩=>⟨e,y xs (by subst e;exact s.seq h)⟩⟩
theorem je{d:Addr}{o:Obj}{u:HO}{ks:List V}{H1:Hp}(h:H1 d=some (.frz o u)):Src (Itk d o u ks) H1 ks :=
 ⟨λi H' hi s=>⟨s _ _ h,hi⟩,λH' s=>⟨s _ _ h,le_refl _⟩,λi H' x H2 _ s ⟨e,y⟩=>⟨e,y⟩⟩
theorem Paired.snoc{α β:Type}{R:α→β→Prop}:∀{as:List α}{bs:List β}{a:α}{b:β},Paired R as bs→R a b→Paired R (as++[a]) (bs++[b])
 |_,_,_,_,.nil,h=>.cons h .nil
 |_,_,_,_,.cons r t,h=>.cons r (Paired.snoc t h)
theorem eN{α:Type}{js:List Nat}{J:It}{tc:TT}{te:TE}{σ:St}{H1:Hp}{Q:VK}{p:Addr}{fr:List (Option V)}(zs:List α)(val:α→V)(hn:zs.length≤1000)(hp:H1 p=none)(S:Src J H1 (zs.map val))(hfr:cF 1 js σ=none::fr)(g:α→Bool)(R:α→V→Hp→Prop)(hR:∀z y H H',R z y H→Ext p H H'→R z y H')(cond:∀z H' (k:Bool→Hp→Prop),z∈zs→Same H1 H'→(∃ys,H' p=some (.lst ys))→(∀H4,Same H' H4→k (g z) H4)→tc (some (val z)::fr) H' k)(elt:∀z H' (k:VK),z∈zs→g z=true→Same H1 H'→(∃ys,H' p=some (.lst ys))→(∀y H4,Same H' H4→R z y H4→k y H4)→te (some (val z)::fr) H' k)(fin:∀ys H',Same H1 H'→H' p=some (.lst ys)→Paired (λz y=>R z y H') (zs.filter g) ys→Q (.ref p) H'):yD 1 js (aO 0) tc te σ Q J H1 p:=by
 have grow:∀{as:List α}{ys:List V}{H H':Hp},Ext p H H'→Paired (λz y=>R z y H) as ys→Paired (λz y=>R z y H') as ys:=λex r=>Paired.mapP r λa b h=>hR a b _ _ h ex;have hlen:∀{as:List α}{ys:List V}{H:Hp},Paired (λz y=>R z y H) as ys→ys.length=as.length:=λr=>(Paired.length r).symm;refine⟨λi m ys σ' H'=>m=zs.length-i∧i≤zs.length∧(∃o,σ'=o::fr)∧Same H1 H'∧H' p=some (.lst ys)∧Paired (λz y=>R z y H') ((zs.take i).filter g) ys,⟨zs.length,by simp,zero_le _,⟨none,hfr⟩,af hp,ac,.nil⟩,?_⟩;rintro i m ys σ' H' ⟨rfl,hi,⟨o,rfl⟩,s1,hl,hys⟩
 by_cases hlt:i<zs.length
 ·have hlt':i<(zs.map val).length:=by rw[length_map];exact hlt
  refine .inr ⟨S.go i H' hlt' s1,?_,λx H2 hy=>?_⟩
  ·have h1:ys.length≤zs.length:=by
    rw[hlen hys];exact le_trans (length_filter_le _ _) (by rw[length_take];omega)
   exact lt_of_le_of_lt h1 (aF hn)
  ·obtain⟨rfl,hx⟩:=S.yl i H' x H2 hlt' s1 hy;have gz:zs[i]?=some zs[i]:=getElem?_eq_getElem hlt;have mz:=mem_of_getElem? gz;rw[getElem?_map,gz]at hx;have ex:val zs[i]=x:=Option.some.inj hx;have et:zs.take (i+1)=zs.take i++[zs[i]]:=eW gz;subst ex;generalize zs[i]=z at gz mz et⊢;refine cond z H2 _ mz s1 ⟨ys,hl⟩ λH4 s4=>?_;cases hb:g z with
   |true =>
    rw[if_pos rfl];refine elt z H4 _ mz hb (s1.trans s4) ⟨ys,s4 _ _ hl⟩ λy H5 s5 r5=>⟨s5 _ _ (s4 _ _ hl),zs.length-(i+1),by omega,rfl,hlt,⟨_,rfl⟩,aG hp ((s1.trans s4).trans s5),ac,?_⟩;rw[et,List.filter_append,filter_cons_of_pos hb];exact Paired.snoc (grow ((Ext.of (s4.trans s5)).trans Ext.upd) hys) (hR _ _ _ _ r5 Ext.upd)
   |false =>
    rw[if_neg (by simp)];refine⟨zs.length-(i+1),by omega,rfl,hlt,⟨_,rfl⟩,s1.trans s4,s4 _ _ hl,?_⟩;rw[et,List.filter_append,filter_cons_of_neg (by simp[hb]),List.filter_nil,append_nil];exact grow (Ext.of s4) hys
 ·have e:i=zs.length:=by omega
  subst e;have st:=S.stop H' s1;rw[length_map]at st;refine .inl ⟨st,fin ys H' s1 hl ?_⟩;rw[take_length]at hys;exact hys
theorem bH{α:Type}{js:List Nat}{J:It}{te:TE}{σ:St}{H1:Hp}{Q:VK}{p:Addr}{fr:List (Option V)}(zs:List α)(val:α→V)(hn:zs.length≤1000)(hp:H1 p=none)(S:Src J H1 (zs.map val))(hfr:cF 1 js σ=none::fr)(R:α→V→Hp→Prop)(hR:∀z y H H',R z y H→Ext p H H'→R z y H')(elt:∀z H' (k:VK),z∈zs→Same H1 H'→(∃ys,H' p=some (.lst ys))→(∀y H4,Same H' H4→R z y H4→k y H4)→te (some (val z)::fr) H' k)(fin:∀ys H',Same H1 H'→H' p=some (.lst ys)→Paired (λz y=>R z y H') zs ys→Q (.ref p) H'):LcW 1 js (aO 0) te σ Q J H1 p:=by
 have grow:∀{as:List α}{ys:List V}{H H':Hp},Ext p H H'→Paired (λz y=>R z y H) as ys→Paired (λz y=>R z y H') as ys:=λex r=>Paired.mapP r λa b h=>hR a b _ _ h ex;have hlen:∀{as:List α}{ys:List V}{H:Hp},Paired (λz y=>R z y H) as ys→ys.length=as.length:=λr=>(Paired.length r).symm;refine⟨λi m ys σ' H'=>m=zs.length-i∧i≤zs.length∧(∃o,σ'=o::fr)∧Same H1 H'∧H' p=some (.lst ys)∧Paired (λz y=>R z y H') (zs.take i) ys,⟨zs.length,by simp,zero_le _,⟨none,hfr⟩,af hp,ac,.nil⟩,?_⟩;rintro i m ys σ' H' ⟨rfl,hi,⟨o,rfl⟩,s1,hl,hys⟩
 by_cases hlt:i<zs.length
 ·have hlt':i<(zs.map val).length:=by rw[length_map];exact hlt
  refine .inr ⟨S.go i H' hlt' s1,?_,λx H2 hy=>?_⟩
  ·have h1:ys.length≤zs.length:=by
    rw[hlen hys,length_take];omega
   exact lt_of_le_of_lt h1 (aF hn)
  ·obtain⟨rfl,hx⟩:=S.yl i H' x H2 hlt' s1 hy;have gz:zs[i]?=some zs[i]:=getElem?_eq_getElem hlt;have mz:=mem_of_getElem? gz;rw[getElem?_map,gz]at hx;have ex:val zs[i]=x:=Option.some.inj hx;have et:zs.take (i+1)=zs.take i++[zs[i]]:=eW gz;subst ex;generalize zs[i]=z at gz mz et⊢;refine elt z H2 _ mz s1 ⟨ys,hl⟩ λy H5 s5 r5=>⟨s5 _ _ hl,zs.length-(i+1),by omega,rfl,hlt,⟨_,rfl⟩,aG hp (s1.trans s5),ac,?_⟩;rw[et];exact Paired.snoc (grow ((Ext.of s5).trans Ext.upd) hys) (hR _ _ _ _ r5 Ext.upd)
 ·have e:i=zs.length:=by omega
  subst e;have st:=S.stop H' s1;rw[length_map]at st;refine .inl ⟨st,fin ys H' s1 hl ?_⟩;rw[take_length]at hys;exact hys
theorem cw{α β:Type}{R:α→V→Prop}{val:β→V}{S:α→β→Prop}{zs:List α}{ys:List V}(h:Paired R zs ys)(f:∀z y,z∈zs→R z y→∃b,y=val b∧S z b):
  ∃bs:List (α×β),bs.map (·.1)=zs∧ys=bs.map (λx=>val x.2)∧∀x∈bs,S x.1 x.2:=by
 induction h with
 |nil=>exact⟨[],rfl,rfl,by simp⟩
 |@cons a y as bs r _ ih =>
  obtain⟨cs,e1,e2,e3⟩:=ih λz y hz=>f z y (by simp[hz]);obtain⟨b,e,s⟩:=f _ _ (by simp) r;refine⟨(a,b)::cs,by rw[map_cons,e1],by rw[map_cons,←e2,e],λx hx=>?_⟩;rcases mem_cons.mp hx with rfl|hx
  ·exact s
  ·exact e3 x hx
theorem aQ{α:Type}{R:α→V→Prop}{f:α→V}{zs:List α}{ys:List V}(h:Paired R zs ys)(hf:∀z y,z∈zs→R z y→y=f z):ys=zs.map f:=by
 induction h with
 |nil=>rfl
 |cons r _ ih=>rw[map_cons,←ih λz y hz=>hf z y (by simp[hz]),hf _ _ (by simp) r]
theorem uZ(p:Int)(ms:List Int):inV (.int p) (ms.map V.int)=decide (p∈ms):=by
 unfold inV;rw[any_map,Bool.eq_iff_iff,any_eq_true,decide_eq_true_eq];constructor
 ·rintro⟨x,hx,e⟩;have:x=p:=by simpa [eqV]using e
  rw[←this];exact hx
 ·intro h;exact⟨p,h,by simp[eqV]⟩
theorem jf{X:Cx}:dw (CX1 X.prog X.w) X E0:=λ_ _ _ _ _ _ _ ⟨_,_,_,_,_,h⟩=>h.elim
end L2
namespace TW
structure Nd(S:Type) where
 num:Int
 par:Int
 nm:S
 st:Option Int
section
variable{S:Type}
inductive Reach(ns:List (Nd S))(f:Int):Nd S→Prop where
 |base {n:Nd S}:n∈ns→n.par=f→Reach ns f n
 |step {m n:Nd S}:Reach ns f m→m.st=none→n∈ns→n.par=m.num→Reach ns f n
theorem Reach.mem{ns:List (Nd S)}{f:Int}{n:Nd S}(h:Reach ns f n):n∈ns:=by
 cases h<;>assumption
theorem Reach.mono{ns ms:List (Nd S)}{f:Int}{n:Nd S}(h:Reach ns f n)(hs:∀x∈ns,x∈ms):Reach ms f n:=by
 induction h with
 |base hm hp=>exact .base (hs _ hm) hp
 |step _ hf hm hp ih=>exact .step ih hf (hs _ hm) hp
def jg(ns:List (Nd S))(k:Int):List (Nd S):=ns.filter λn=>decide (n.par=k)
def dj(dn:List Int)(n:Nd S):Bool:=decide (n.par∈dn)
structure Walk(ns:List (Nd S))(f:Int)(dn:List Int)(fd:List (Nd S))(pd:List Int):Prop where
 perm:fd.Perm (ns.filter (dj dn))
 reach:∀n∈fd,Reach ns f n
 cover:∀k,(k∈pd∨k∈dn)↔(k=f∨∃m∈fd,m.st=none∧m.num=k)
theorem Walk.start(ns:List (Nd S))(f:Int):Walk ns f [] [] [f]:=by
 refine⟨?_,by simp,λk=>by simp⟩;have e:ns.filter (dj [])=[]:=by
  rw[List.filter_eq_nil_iff];intro a _;simp[dj]
 rw[e]
theorem eO{α:Type}(p q:α→Bool)(hd:∀x,p x=true→q x=true→False):∀l:List α,
  (l.filter p++l.filter q).Perm (l.filter λx=>p x||q x)
 |[]=>by simp
 |x::l=>by
  have ih:=eO p q hd l;cases hp:p x with
  |true =>
   have hq:q x=false:=by
    cases h:q x with
    |false=>rfl
    |true=>exact(hd x hp h).elim
   rw[filter_cons_of_pos hp,filter_cons_of_neg (by simp[hq]),filter_cons_of_pos (by simp[hp])];exact List.Perm.cons x ih
  |false =>
   cases hq:q x with
   |true =>
    rw[filter_cons_of_neg (by simp[hp]),filter_cons_of_pos hq,filter_cons_of_pos (by simp[hq])];exact List.perm_middle.trans (List.Perm.cons x ih)
   |false =>
    rw[filter_cons_of_neg (by simp[hp]),filter_cons_of_neg (by simp[hq]),filter_cons_of_neg (by simp[hp,hq])];exact ih
def here(ns:List (Nd S))(dn:List Int)(x:Int):List (Nd S):=if x∈dn then []else jg ns x
def aN(l:List (Nd S)):List Int:=(l.filter λn=>n.st.isNone).map (·.num)
theorem ia{l:List (Nd S)}{k:Int}:k∈aN l↔∃m∈l,m.st=none∧m.num=k:=by
 unfold aN;rw[mem_map];constructor
 ·rintro⟨m,hm,e⟩;rw[mem_filter]at hm;exact⟨m,hm.1,by simpa using hm.2,e⟩
 ·rintro⟨m,hm,h,e⟩;exact⟨m,mem_filter.mpr ⟨hm,by simp[h]⟩,e⟩
theorem Walk.turn{ns:List (Nd S)}{f x:Int}{dn:List Int}{fd:List (Nd S)}{pd:List Int}(w:Walk ns f dn fd (pd++[x])):
  Walk ns f (x::dn) (fd++here ns dn x) (pd++aN (here ns dn x)):=by
 have hx:=(w.cover x).mp (.inl (by simp))
 by_cases hd:x∈dn
 ·have eh:here ns dn x=[]:=by unfold here;rw[if_pos hd]
  rw[eh];refine⟨?_,by simpa using w.reach,λk=>?_⟩
  ·have e:ns.filter (dj (x::dn))=ns.filter (dj dn):=by
    apply List.filter_congr;intro n _;simp only[dj,mem_cons,decide_eq_decide];constructor
    ·rintro(h|h)
     ·rw[h];exact hd
     ·exact h
    ·exact .inr
   rw[e,append_nil];exact w.perm
  ·have c:=w.cover k;rw[append_nil,←c];simp only[aN,List.filter_nil,map_nil,append_nil,mem_append,mem_cons,not_mem_nil,or_false];constructor
   ·rintro(h|h|h)
    ·exact .inl (.inl h)
    ·exact .inl (.inr h)
    ·exact .inr h
   ·rintro((h|h)|h)
    ·exact .inl h
    ·exact .inr (.inl h)
    ·exact .inr (.inr h)
 ·have eh:here ns dn x=jg ns x:=by unfold here;rw[if_neg hd]
  rw[eh];refine⟨?_,λn hn=>?_,λk=>?_⟩
  ·have e:ns.filter (dj (x::dn))=ns.filter λn=>dj dn n||decide (n.par=x):=by
    apply List.filter_congr;intro n _;rw[Bool.eq_iff_iff];simp only[dj,mem_cons,decide_eq_true_eq,or_eq_true];constructor
    ·rintro(h|h)
     ·exact .inr h
     ·exact .inl h
    ·rintro(h|h)
     ·exact .inr h
     ·exact .inl h
   rw[e];refine(List.Perm.append_right _ w.perm).trans (eO _ _ (λy h1 h2=>?_) ns);simp only[dj,decide_eq_true_eq]at h1 h2;rw[h2]at h1;exact hd h1
  ·rcases mem_append.mp hn with h|h
   ·exact w.reach n h
   ·unfold jg at h;rw[mem_filter]at h;obtain⟨hm,hp⟩:=h;simp only[decide_eq_true_eq]at hp;rcases hx with e|⟨m,hm',hf,e⟩
    ·exact .base hm (hp.trans e)
    ·exact .step (w.reach m hm') hf hm (hp.trans e.symm)
  ·have c:=w.cover k;simp only[mem_append,mem_cons,not_mem_nil,or_false]at c⊢;rw[ia];constructor
   ·rintro((h|⟨m,hm,h1,h2⟩)|h|h)
    ·rcases c.mp (.inl (.inl h))with e|⟨m,hm,z⟩
     ·exact .inl e
     ·exact .inr ⟨m,.inl hm,z⟩
    ·exact .inr ⟨m,.inr hm,h1,h2⟩
    ·rcases c.mp (.inl (.inr h))with e|⟨m,hm,z⟩
     ·exact .inl e
     ·exact .inr ⟨m,.inl hm,z⟩
    ·rcases c.mp (.inr h)with e|⟨m,hm,z⟩
     ·exact .inl e
     ·exact .inr ⟨m,.inl hm,z⟩
   ·rintro(e|⟨m,hm|hm,z⟩)
    ·rcases c.mpr (.inl e)with (h|h)|h
     ·exact .inl (.inl h)
     ·exact .inr (.inl h)
     ·exact .inr (.inr h)
    ·rcases c.mpr (.inr ⟨m,hm,z⟩)with (h|h)|h
     ·exact .inl (.inl h)
     ·exact .inr (.inl h)
     ·exact .inr (.inr h)
    ·exact .inl (.inr ⟨m,hm,z⟩)
theorem Walk.len{ns:List (Nd S)}{f:Int}{dn:List Int}{fd:List (Nd S)}{pd:List Int}(w:Walk ns f dn fd pd):fd.length≤ns.length:=by
 rw[w.perm.length_eq];exact length_filter_le _ _
theorem dk(l:List (Nd S)):(aN l).length≤l.length:=by
 unfold aN;rw[length_map];exact length_filter_le _ _
theorem Walk.mem{ns:List (Nd S)}{f:Int}{dn:List Int}{fd:List (Nd S)}(w:Walk ns f dn fd [])(n:Nd S):n∈fd↔Reach ns f n:=by
 constructor
 ·exact w.reach n
 ·have cov:∀k,(k=f∨∃m∈fd,m.st=none∧m.num=k)→k∈dn:=λk h=>by
   rcases (w.cover k).mpr h with z|z
   ·simp at z
   ·exact z
  have back:∀x,x∈ns→x.par∈dn→x∈fd:=λx hx hp=>w.perm.mem_iff.mpr (mem_filter.mpr ⟨hx,by simp[dj,hp]⟩);intro h
  induction h with
  |base hm hp=>exact back _ hm (cov _ (.inl hp))
  |step _ hf hm hp ih=>exact back _ hm (cov _ (.inr ⟨_,ih,hf,hp.symm⟩))
theorem Walk.all{ns:List (Nd S)}{f:Int}{dn:List Int}{fd:List (Nd S)}(w:Walk ns f dn fd []):fd.length=ns.length↔∀n∈ns,Reach ns f n:=by
 rw[w.perm.length_eq];constructor
 ·intro h n hn;have e:ns.filter (dj dn)=ns:=by
   rw[List.filter_eq_self];exact List.length_filter_eq_length_iff.mp h
  have:n∈ns.filter (dj dn):=by rw[e];exact hn
  exact(w.mem n).mp (w.perm.mem_iff.mpr this)
 ·intro h;rw[List.length_filter_eq_length_iff];intro n hn;have:=w.perm.mem_iff.mp ((w.mem n).mpr (h n hn));exact(mem_filter.mp this).2
def bt(ns:List (Nd S)):Prop:=ns.Pairwise λa b=>a.num<b.num
def aY(ns:List (Nd S)):Prop:=(ns.map λn=>(n.par,n.nm)).Nodup
structure Tree(ns:List (Nd S)):Prop where
 rise:bt ns
 own:aY ns
 down:∀n∈ns,Reach ns 0 n
def adj:List (Nd S)→Bool
 |a::b::r=>decide (a.num<b.num)&&adj (b::r)
 |_=>true
theorem kQ:∀ns:List (Nd S),adj ns=true↔bt ns
 |[]=>by simp[adj,bt]
 |[a]=>by simp[adj,bt]
 |a::b::r=>by
  have ih:=kQ (b::r);unfold adj;rw[and_eq_true,ih,decide_eq_true_eq];unfold bt;rw[pairwise_cons (a:=a)];constructor
  ·rintro⟨h,p⟩;refine⟨λx hx=>?_,p⟩;rcases mem_cons.mp hx with rfl|hx
   ·exact h
   ·have:=(pairwise_cons.mp p).1 x hx;omega
  ·rintro⟨h,p⟩;exact⟨h b (by simp),p⟩
theorem pc:∀ns:List (Nd S),adj ns=((ns.zip (ns.drop 1)).all λp=>decide (p.1.num<p.2.num))
 |[]=>rfl
 |[a]=>rfl
 |a::b::r=>by
  have ih:=pc (b::r);unfold adj;rw[ih];rfl
inductive Built:List (Nd S)→Prop where
 |nil:Built []
 |snoc {l:List (Nd S)} {n:Nd S}:Built l→(n.par=0∨∃m∈l,m.st=none∧m.num=n.par)→Built (l++[n])
theorem Built.down{l:List (Nd S)}(b:Built l):∀n∈l,Reach l 0 n:=by
 induction b with
 |nil=>simp
 |@snoc l n b h ih =>
  intro x hx;have up:∀y∈l,y∈l++[n]:=λy hy=>mem_append_left _ hy;rcases mem_append.mp hx with hx|hx
  ·exact(ih x hx).mono up
  ·have e:x=n:=by simpa using hx
   subst e;rcases h with h|⟨m,hm,hf,he⟩
   ·exact .base (by simp) h
   ·exact .step ((ih m hm).mono up) hf (by simp) he.symm
theorem va{l t:List (Nd S)}(b:Built l)(p:t.Perm l)(hr:t.Pairwise λa b=>a.num≤b.num)(hn:(l.map (·.num)).Nodup)(ho:aY l):Tree t:=by
 refine⟨?_,?_,λn hn'=>?_⟩
 ·have hn':(t.map (·.num)).Nodup:=((p.map _).nodup_iff).mpr hn;unfold Nodup at hn';rw[pairwise_map]at hn';unfold bt;exact hr.imp₂ (λa b h1 h2=>by omega) hn'
 ·unfold aY;exact((p.map _).nodup_iff).mpr ho
 ·exact(b.down n (p.mem_iff.mp hn')).mono λx hx=>p.mem_iff.mpr hx
theorem mn{t:List (Nd S)}(h:bt t){a b:Nd S}(ha:a∈t)(hb:b∈t)(e:a.num=b.num):a=b:=by
 unfold bt at h
 induction t with
 |nil=>simp at ha
 |cons x r ih =>
  rw[pairwise_cons]at h;rcases mem_cons.mp ha with ea|ha'
  ·rcases mem_cons.mp hb with eb|hb'
   ·rw[ea,eb]
   ·have:=h.1 b hb';rw[←ea]at this;omega
  ·rcases mem_cons.mp hb with eb|hb'
   ·have:=h.1 a ha';rw[←eb]at this;omega
   ·exact ih h.2 ha' hb'
end
end TW
namespace TW
section
variable{S:Type}
inductive PathTo(ns:List (Nd S)):Int→List S→Prop where
 |top:PathTo ns 0 []
 |node {n:Nd S} {p:List S}:n∈ns→PathTo ns n.par p→PathTo ns n.num (p++[n.nm])
structure Tree1(ns:List (Nd S)):Prop extends Tree ns where
 pos:∀n∈ns,1≤n.num
theorem Tree1.inj{ns:List (Nd S)}(T:Tree1 ns){a b:Nd S}(ha:a∈ns)(hb:b∈ns)(e:a.num=b.num):a=b:=mn T.rise ha hb e
theorem PathTo.zero{ns:List (Nd S)}(T:Tree1 ns){k:Int}{p:List S}(h:PathTo ns k p)(e:k=0):p=[]:=by
 cases h with
 |top=>rfl
 |@node n p hm _=>have:=T.pos n hm;omega
theorem PathTo.inv{ns:List (Nd S)}(T:Tree1 ns){k:Int}{p:List S}(h:PathTo ns k p){n:Nd S}(hn:n∈ns)(e:k=n.num):∃q,p=q++[n.nm]∧PathTo ns n.par q:=by
 cases h with
 |top=>have:=T.pos n hn;omega
 |@node m q hm hq =>
  have:m=n:=T.inj hm hn e;subst this;exact⟨q,rfl,hq⟩
theorem PathTo.uniq{ns:List (Nd S)}(T:Tree1 ns){k:Int}{p:List S}(h:PathTo ns k p):∀{q:List S},PathTo ns k q→p=q:=by
 induction h with
 |top=>intro q hq;exact(hq.zero T rfl).symm
 |@node n p hm _ ih =>
  intro q hq;obtain⟨q',e,hq'⟩:=hq.inv T hm rfl;rw[e,ih hq']
theorem PathTo.ex{ns:List (Nd S)}(T:Tree1 ns){n:Nd S}(hn:n∈ns):∃p,PathTo ns n.num p:=by
 have key:∀x,Reach ns 0 x→∃p,PathTo ns x.num p:=by
  intro x r
  induction r with
  |base hm hp=>exact⟨_,.node hm (by rw[hp];exact .top)⟩
  |step _ _ hm hp ih =>
   obtain⟨p,h⟩:=ih;exact⟨_,.node hm (by rw[hp];exact h)⟩
 exact key n (T.down n hn)
theorem PathTo.key{ns:List (Nd S)}(T:Tree1 ns):∀{p:List S}{k j:Int},PathTo ns k p→PathTo ns j p→k=j:=by
 have main:∀(m:Nat){p:List S}{k j:Int},p.length=m→PathTo ns k p→PathTo ns j p→k=j:=by
  intro m
  induction m with
  |zero =>
   intro p k j hl h1 h2;have e:p=[]:=length_eq_zero_iff.mp hl;subst e;have z:∀{k:Int}{q:List S},PathTo ns k q→q=[]→k=0:=by
    intro k q h e;cases h with
    |top=>rfl
    |node _ _=>simp at e
   rw[z h1 rfl,z h2 rfl]
  |succ m ih =>
   intro p k j hl h1 h2;have z:∀{k:Int}{q:List S},PathTo ns k q→q=p→∃n q',n∈ns∧n.num=k∧p=q'++[n.nm]∧PathTo ns n.par q':=by
    intro k q h e;cases h with
    |top=>rw[←e]at hl;simp at hl
    |@node n q' hm hq'=>exact⟨n,q',hm,rfl,e.symm,hq'⟩
   obtain⟨n,q,hn,e1,e2,hq⟩:=z h1 rfl;obtain⟨n',q',hn',e1',e2',hq'⟩:=z h2 rfl;have e3:q++[n.nm]=q'++[n'.nm]:=e2.symm.trans e2';obtain⟨e4,e5⟩:=List.append_inj' e3 rfl;subst e4;have e6:n.nm=n'.nm:=by simpa using e5
   have e7:n.par=n'.par:=ih (by rw[e2]at hl;simpa using hl) hq hq';have ho:=T.own;have:n=n':=by
    unfold aY at ho;obtain⟨i,hi,gi⟩:=mem_iff_getElem.mp hn;obtain⟨j',hj,gj⟩:=mem_iff_getElem.mp hn';have:(ns.map λn=>(n.par,n.nm))[i]'(by simpa using hi)=(ns.map λn=>(n.par,n.nm))[j']'(by simpa using hj):=by
     rw[getElem_map,getElem_map,gi,gj,e6,e7]
    have hij:=(getElem_inj ho).mp this;subst hij;rw[←gi,←gj]
   rw[←e1,←e1',this]
 intro p k j h1 h2;exact main p.length rfl h1 h2
theorem PathTo.chain{ns:List (Nd S)}(T:Tree1 ns){k:Int}{p:List S}(h:PathTo ns k p):∃l:List Int,l.length=p.length∧l.Nodup∧∀x∈l,x∈ns.map (·.num)∧∃q,PathTo ns x q∧q.length≤p.length:=by
 induction h with
 |top=>exact⟨[],rfl,nodup_nil,by simp⟩
 |@node n p hm hp ih =>
  obtain⟨l,e,nd,hx⟩:=ih;refine⟨n.num::l,by simp[e],nodup_cons.mpr ⟨λhin=>?_,nd⟩,λx hx'=>?_⟩
  ·obtain⟨_,q,hq,hl⟩:=hx _ hin;have:=hq.uniq T (.node hm hp);rw[this]at hl;simp at hl;omega
  ·rcases mem_cons.mp hx' with e'|h'
   ·rw[e'];exact⟨mem_map.mpr ⟨n,hm,rfl⟩,_,.node hm hp,le_refl _⟩
   ·obtain⟨a,q,b,c⟩:=hx x h';exact⟨a,q,b,by simp;omega⟩
theorem PathTo.len{ns:List (Nd S)}(T:Tree1 ns){k:Int}{p:List S}(h:PathTo ns k p):p.length≤ns.length:=by
 obtain⟨l,e,nd,hx⟩:=h.chain T;rw[←e];have:=Nodup.length_le_of_subset nd (λx hx'=>(hx x hx').1);rw[length_map]at this;exact this
inductive Und(ns:List (Nd S))(g:Int):Int→Prop where
 |here:Und ns g g
 |up {n:Nd S}:n∈ns→Und ns g n.par→Und ns g n.num
theorem Und.zero{ns:List (Nd S)}(T:Tree1 ns){g k:Int}(h:Und ns g k)(e:k=0):g=0:=by
 cases h with
 |here=>exact e
 |@up n hm _=>have:=T.pos n hm;omega
theorem Und.inv{ns:List (Nd S)}(T:Tree1 ns){g k:Int}(h:Und ns g k){n:Nd S}(hn:n∈ns)(e:k=n.num)(hg:k≠g):Und ns g n.par:=by
 cases h with
 |here=>exact absurd rfl hg
 |@up m hm hu =>
  have:m=n:=T.inj hm hn e;subst this;exact hu
theorem qH{ns:List (Nd S)}(T:Tree1 ns){n:Nd S}(hn:n∈ns):n.par=0∨∃m∈ns,m.st=none∧m.num=n.par:=by
 have:=T.down n hn;cases this with
 |base _ hp=>exact .inl hp
 |@step m _ hr hf _ hp=>exact .inr ⟨m,hr.mem,hf,hp.symm⟩
theorem jS{ns:List (Nd S)}(T:Tree1 ns){g:Int}{n:Nd S}(h:Reach ns g n):Und ns g n.num∧∃p q,PathTo ns n.num (p++q)∧q≠[]∧PathTo ns g p:=by
 induction h with
 |@base n hm hp =>
  obtain⟨p,h⟩:=PathTo.ex T hm;obtain⟨q,e,hq⟩:=h.inv T hm rfl;refine⟨.up hm (by rw[hp];exact .here),q,[n.nm],by rw[←e];exact h,by simp,by rw[←hp];exact hq⟩
 |@step m n hr hf hm hp ih =>
  obtain⟨hu,p,q,h1,h2,h3⟩:=ih;refine⟨.up hm (by rw[hp];exact hu),p,q++[n.nm],?_,by simp,h3⟩;rw[←append_assoc];exact .node hm (by rw[hp];exact h1)
theorem da{ns:List (Nd S)}(T:Tree1 ns){g:Int}{n:Nd S}(h:Reach ns g n):n.num≠g:=by
 obtain⟨_,p,q,h1,h2,h3⟩:=jS T h;intro e;rw[e]at h1;have:=h1.uniq T h3;have hl:=congrArg length this;rw[length_append]at hl;have:q.length≠0:=λz=>h2 (length_eq_zero_iff.mp z);omega
theorem qI{ns:List (Nd S)}(T:Tree1 ns){g:Int}(hg:1≤g):∀{k:Int}{p:List S},PathTo ns k p→∀{n:Nd S},n∈ns→k=n.num→Und ns g k→k≠g→Reach ns g n:=by
 intro k p h
 induction h with
 |top=>intro n hn e;have:=T.pos n hn;omega
 |@node m p hm hp ih =>
  intro n hn e hu hne;have:m=n:=T.inj hm hn e;subst this;have hu':=hu.inv T hm rfl hne
  by_cases hpg:m.par=g
  ·exact .base hm hpg
  ·rcases qH T hm with h0|⟨r,hr,hf,er⟩
   ·have:=hu'.zero T h0;omega
   ·exact .step (ih hr er.symm hu' hpg) hf hm er.symm
theorem qJ{ns:List (Nd S)}(T:Tree1 ns){g:Int}(hg:1≤g){n:Nd S}(hn:n∈ns):Reach ns g n↔n.num≠g∧Und ns g n.num:=by
 constructor
 ·intro h;exact⟨da T h,(jS T h).1⟩
 ·rintro⟨h1,h2⟩;obtain⟨p,hp⟩:=PathTo.ex T hn;exact qI T hg hp hn rfl h2 h1
end
end TW
namespace TW
section
variable{S:Type}
def Fold(t:List (Nd S))(p:Int):Prop:=p=0∨∃m∈t,m.st=none∧m.num=p
end
end TW
namespace TW
section
variable{S:Type}
end
end TW
namespace TW
section
variable{S:Type}
end
end TW
namespace L2
open PySem PySem.Spec PyProof.Rows
section
variable{P:Program}{w:World}{K:PySem.W.Frag}{mg:Str→Option Value}{base:Heap}
theorem Fun.okX{x qual:Str}{st:Stmt}{f:Addr}{fd:FuncData}{N ps:List Str}{k:Nat}{sp:Sp}(F:Fun K x qual st f fd)(S:FnScope N ps (ag st))(len:∀vs H Q E,sp vs H Q E→vs.length=ps.length)(hbody:∀(cdv:Value) (A:Around) (outer:List Env) (s:Shared) (H:Hp) (vs:List V) (Q:VK) (E:XK),Room k (A.deeper (envOfC qual (ag st) s.heap.objs.size f cdv))→sp vs H Q E →
   ∃t,PSs (gd (CX1 P w) P w K mg base N qual (ag st) f cdv A outer s H E) (br st) t∧t {nx:=λ_ H'=>Q .non H',rt:=Q} (start N vs) H):FnOk P w K mg base (CX1 P w) (k+1) f fd ps sp:=by
 obtain⟨oc,od,kV,doc,pm,an,cdv,ct,osl,rfl,lk,hcd⟩:=F.ex;exact rG lk hcd S len λA outer s H vs Q E hr hsp=>hbody cdv A outer s H vs Q E hr hsp
theorem LcOk.mk'{X:Cx}{scope:Scope}{cl:List (Str×Addr)}(fs:List Str)(hk:scope.kind=.function)(hc:closureFor scope X.env=pure cl)(hn:∀x∈scope.names,x.2=.local→scope.names.lookup x.1=some .local)(hnc:∀x∈scope.names,x.2≠.cell)(hcl:∀y∈cl,X.env.cells.lookup y.1=some y.2)(hfs:cl.map (·.1)=fs)(hall:scope.names.all (λy=>!(y.2==.free)||fs.contains y.1)=true):LcOk X scope cl:=by
 refine⟨hk,hc,hn,hnc,λx c h=>hcl (x,c) (PySem.mem_of_lookup h),λx h=>?_⟩;have hm:∃k,(x,k)∈(relabel scope X.env).names∧(k=.cell∨k=.free):=by
  rcases h with h|h
  ·exact⟨_,PySem.mem_of_lookup h,.inl rfl⟩
  ·exact⟨_,PySem.mem_of_lookup h,.inr rfl⟩
 obtain⟨k,hm,hk'⟩:=hm;unfold relabel at hm;obtain⟨⟨y,k0⟩,hy,e⟩:=mem_map.mp hm;have hfree:x=y∧k0=.free:=by
  cases k0 with
  |free =>
   simp only at e
   split at e
   ·injection e with e1 e2;exact⟨e1.symm,rfl⟩
   ·injection e with e1 e2;exact⟨e1.symm,rfl⟩
  |cell=>exact absurd rfl (hnc _ hy)
  |_ =>
   exfalso
   have e2:k=_:=(congrArg Prod.snd e).symm;simp at e2;rcases hk' with z|z<;>rw[z]at e2<;>cases e2
 obtain⟨rfl,rfl⟩:=hfree;have:=all_eq_true.mp hall _ hy;have hin:fs.contains x=true:=by simpa using this
 rw[←hfs]at hin;have hmem:x∈cl.map (·.1):=List.contains_iff_mem.mp hin;cases e:cl.lookup x with
 |some c=>exact⟨c,rfl⟩
 |none =>
  exfalso
  obtain⟨y,hy,ey⟩:=mem_map.mp hmem;have:=List.lookup_eq_none_iff.mp e y hy;rw[ey]at this;simp at this
end
end L2
namespace TK
open PySem L2
abbrev Nd:=TW.Nd Str
def stV:Option Int→V
 |none=>.non
 |some i=>.int i
def vals(n:Nd):List V:=[.int n.num,.int n.par,.str n.nm,stV n.st]
abbrev ZN:=List (Addr×Nd)
def aI(zs:ZN):List V:=(zs.map (·.1)).map V.ref
def nds(zs:ZN):List Nd:=zs.map (·.2)
def At(H:Hp)(zs:ZN):Prop:=∀z∈zs,H z.1=some (.tup (vals z.2))
theorem At.same{H H':Hp}{zs:ZN}(h:At H zs)(s:Same H H'):At H' zs:=λz hz=>s _ _ (h z hz)
theorem aD(zs:ZN):(aI zs).length=zs.length:=by simp[aI]
theorem aq(zs:ZN):(nds zs).length=zs.length:=by simp[nds]
theorem cn{zs:ZN}{i:Nat}{x:V}(h:(aI zs)[i]?=some x):∃z,zs[i]?=some z∧x=.ref z.1:=by
 unfold aI at h;rw[getElem?_map,getElem?_map]at h;cases e:zs[i]? with
 |none=>rw[e]at h;cases h
 |some z=>rw[e]at h;exact⟨z,rfl,(Option.some.inj h).symm⟩
theorem dE{zs:ZN}{i:Nat}{z:Addr×Nd}(h:zs[i]?=some z):(aI zs)[i]?=some (.ref z.1):=by
 unfold aI;rw[getElem?_map,getElem?_map,h];rfl
theorem at0(n:Nd):atI (vals n) 0=some (.int n.num):=rfl
theorem at1(n:Nd):atI (vals n) 1=some (.int n.par):=rfl
theorem at2(n:Nd):atI (vals n) 2=some (.str n.nm):=rfl
theorem at3(n:Nd):atI (vals n) 3=some (stV n.st):=rfl
theorem kX{σ:St}(h:σ.length=2):∃a b,σ=[a,b]:=by
 match σ,h with
 |[a,b],_=>exact⟨a,b,rfl⟩
theorem sK{σ:St}(h:σ.length=1):∃a,σ=[a]:=by
 match σ,h with
 |[a],_=>exact⟨a,rfl⟩
theorem aA{n:Nat}(h:n≤1000):n≤sizeLine:=le_of_lt (aF h)
theorem le2:2≤sizeLine:=aA (by decide)
theorem cA{A:Around}{k:Nat}(hr:Room k A):A.units+4<cLine:=lt_of_le_of_lt (Nat.add_le_add_left (by decide:4≤64) _) hr.units
def plK(n:Nd):List Key:=[.inl n.par,.inr n.nm]
theorem qK(zs:List Nd):(zs.map plK).Nodup↔TW.aY zs:=by
 unfold TW.aY Nodup;rw[pairwise_map,pairwise_map];have e:∀a b:Nd,(plK a≠plK b)=((a.par,a.nm)≠(b.par,b.nm)):=λa b=>by
  simp[plK]
 simp only[e]
def ins(zs:ZN)(k:Int):ZN:=zs.filter λz=>decide (z.2.par=k)
theorem ph(zs:ZN)(k:Int):nds (ins zs k)=TW.jg (nds zs) k:=by
 unfold nds ins TW.jg;rw[filter_map];rfl
theorem eP(zs:ZN)(z:Addr×Nd)(k:Int):ins (zs++[z]) k=if z.2.par=k then ins zs k++[z]else ins zs k:=by
 unfold ins;rw[List.filter_append]
 by_cases h:z.2.par=k
 ·rw[if_pos h,filter_cons_of_pos (by simp[h])];rfl
 ·rw[if_neg h,filter_cons_of_neg (by simp[h])];simp
theorem vb{zs:ZN}{k:Int}{z:Addr×Nd}(h:z∈ins zs k):z∈zs:=(mem_filter.mp h).1
theorem jT(zs:ZN)(z:Addr×Nd):aI (zs++[z])=aI zs++[.ref z.1]:=by simp[aI]
structure Mem(H0 H:Hp)(d:Addr)(L:Int→Addr)(kvs:List (Key×V))(xs:ZN)(dn:List Int):Prop where
 dict:H d=some (.dK kvs)
 d0:H0 d=none
 len:kvs.length≤xs.length
 val:∀k:Int,bc kvs (Sum.inl k:Key)=if k∈dn∨ins xs k=[]then none else some (.ref (L k))
 at':∀k,k∉dn→ins xs k≠[]→H (L k)=some (.lst (aI (ins xs k)))∧H0 (L k)=none
 inj:∀k k',k∉dn→k'∉dn→ins xs k≠[]→ins xs k'≠[]→L k=L k'→k=k'
 same:Same H0 H
theorem Mem.grow{H0 H H':Hp}{d:Addr}{L:Int→Addr}{kvs:List (Key×V)}{xs:ZN}{dn:List Int}(m:Mem H0 H d L kvs xs dn)(s:Same H H'):Mem H0 H' d L kvs xs dn :=
 ⟨s _ _ m.dict,m.d0,m.len,m.val,λk h1 h2=>⟨s _ _ (m.at' k h1 h2).1,(m.at' k h1 h2).2⟩,m.inj,m.same.trans s⟩
theorem Mem.other{H0 H:Hp}{d p:Addr}{L:Int→Addr}{kvs:List (Key×V)}{xs:ZN}{dn:List Int}{is:List Int}{o:HO}(m:Mem H0 H d L kvs xs dn)(hp:H p=some (.lst (is.map V.int)))(h0:H0 p=none):Mem H0 (upd H p o) d L kvs xs dn:=by
 refine⟨?_,m.d0,m.len,m.val,λk h1 h2=>⟨?_,(m.at' k h1 h2).2⟩,m.inj,aG h0 m.same⟩
 ·rw[ai]
  ·exact m.dict
  ·intro e;have:=m.dict;rw[e,hp]at this;cases this
 ·have e1:=(m.at' k h1 h2).1;rw[ai]
  ·exact e1
  ·intro e;rw[e,hp]at e1;injection e1 with e1
   injection e1 with e1
   have hne:=h2;cases hk:ins xs k with
   |nil=>exact h2 hk
   |cons a r =>
    rw[hk]at e1;cases is with
    |nil=>simp[aI]at e1
    |cons i r'=>simp[aI]at e1
theorem Mem.start{H0:Hp}{d:Addr}(h:H0 d=none):Mem H0 (upd H0 d (.dK [])) d (λ_=>d) [] [] [] :=
 ⟨ac,h,by simp,λk=>by rw[if_pos (.inr rfl)];rfl,λk _ h=>absurd rfl h,λk k' _ _ h=>absurd rfl h,af h⟩
theorem Mem.hit{H0 H:Hp}{d:Addr}{L:Int→Addr}{kvs:List (Key×V)}{xs:ZN}{z:Addr×Nd}(m:Mem H0 H d L kvs xs [])(hp:ins xs z.2.par≠[]):
  Mem H0 (upd H (L z.2.par) (.lst (aI (ins xs z.2.par)++[.ref z.1]))) d L kvs (xs++[z]) []:=by
 have e1:=(m.at' z.2.par (by simp) hp);have hd:d≠L z.2.par:=λe=>by
  have:=m.dict;rw[e,e1.1]at this;cases this
 have ne:∀k,ins (xs++[z]) k=[]↔ins xs k=[]:=λk=>by
  rw[eP]
  by_cases h:z.2.par=k
  ·rw[if_pos h];subst h;simp[hp]
  ·rw[if_neg h]
 refine⟨by rw[ai hd];exact m.dict,m.d0,by have:=m.len;simp;omega,λk=>?_,λk h1 h2=>?_,λk k' _ _ h2 h3 e=>m.inj k k' (by simp) (by simp) (λh=>h2 ((ne k).mpr h)) (λh=>h3 ((ne k').mpr h)) e,aG e1.2 m.same⟩
 ·rw[m.val k];simp only[ne k]
 ·have h2':ins xs k≠[]:=λh=>h2 ((ne k).mpr h);refine⟨?_,(m.at' k h1 h2').2⟩
  by_cases h:z.2.par=k
  ·subst h;rw[ac,eP,if_pos rfl,jT]
  ·rw[ai,eP,if_neg h]
   ·exact(m.at' k h1 h2').1
   ·intro e;exact h (m.inj _ _ (by simp) (by simp) hp h2' e.symm)
theorem Mem.fresh{H0 H:Hp}{d q:Addr}{L:Int→Addr}{kvs:List (Key×V)}{xs:ZN}{z:Addr×Nd}(m:Mem H0 H d L kvs xs [])(hp:ins xs z.2.par=[])(hq:H q=none):
  Mem H0 (upd (upd (upd H q (.lst [])) d (.dK (bQ kvs (Sum.inl z.2.par:Key) (.ref q)))) q (.lst ([]++[.ref z.1]))) d (λk=>if k=z.2.par then q else L k) (bQ kvs (Sum.inl z.2.par:Key) (.ref q)) (xs++[z]) []:=by
 have hdq:d≠q:=λe=>by
  have:=m.dict;rw[e,hq]at this;cases this
 have lq:∀k,ins xs k≠[]→L k≠q:=λk h e=>by
  have:=(m.at' k (by simp) h).1;rw[e,hq]at this;cases this
 have ld:∀k,ins xs k≠[]→L k≠d:=λk h e=>by
  have:=(m.at' k (by simp) h).1;rw[e,m.dict]at this;cases this
 have q0:H0 q=none:=m.same.free hq;have e2:∀k,k≠z.2.par→ins (xs++[z]) k=ins xs k:=λk h=>by rw[eP,if_neg (λe=>h e.symm)]
 have e3:ins (xs++[z]) z.2.par=[z]:=by rw[eP,if_pos rfl,hp];rfl
 refine⟨by rw[ai hdq,ac],m.d0,?_,λk=>?_,λk h1 h2=>?_,λk k' _ _ h2 h3 e=>?_,?_⟩
 ·have h1:=m.len;have h2:=cr kvs (Sum.inl z.2.par:Key) (.ref q);rw[length_append,length_singleton];omega
 ·rw[cZ]
  by_cases h:k=z.2.par
  ·subst h;rw[if_pos rfl,if_neg (by rw[e3];simp),if_pos rfl]
  ·rw[if_neg (λe=>h (Sum.inl.inj e)),m.val k,e2 k h,if_neg h]
 ·by_cases h:k=z.2.par
  ·subst h;simp only[if_true];exact⟨by rw[ac,e3];rfl,q0⟩
  ·rw[e2 k h]at h2;simp only[if_neg h];refine⟨?_,(m.at' k h1 h2).2⟩;rw[ai (lq k h2),ai (ld k h2),ai (lq k h2),e2 k h];exact(m.at' k h1 h2).1
 ·by_cases h:k=z.2.par
  ·by_cases h':k'=z.2.par
   ·rw[h,h']
   ·rw[e2 k' h']at h3;simp only[if_pos h,if_neg h']at e;exact absurd e.symm (lq k' h3)
  ·rw[e2 k h]at h2
   by_cases h':k'=z.2.par
   ·simp only[if_neg h,if_pos h']at e;exact absurd e (lq k h2)
   ·rw[e2 k' h']at h3;simp only[if_neg h,if_neg h']at e;exact m.inj k k' (by simp) (by simp) h2 h3 e
 ·exact aG q0 (aG m.d0 (m.same.trans (af hq)))
theorem qL{κ:Type}[DecidableEq κ](kvs:List (κ×V))(k j:κ):bc (cO kvs k) j=if j=k then none else bc kvs j:=by
 induction kvs with
 |nil=>simp[cO,bc]
 |cons p r ih =>
  by_cases e:p.1=k
  ·rw[qk e,ih]
   by_cases h:j=k
   ·rw[if_pos h,if_pos h]
   ·rw[if_neg h,if_neg h,aZ (λz=>h (z.symm.trans e))]
  ·rw[ql e]
   by_cases h:p.1=j
   ·rw[bf h,if_neg (λz=>e (h.trans z)),bf h]
   ·rw[aZ h,ih,aZ h]
theorem Mem.drop{H0 H:Hp}{d:Addr}{L:Int→Addr}{kvs:List (Key×V)}{xs:ZN}{dn:List Int}(m:Mem H0 H d L kvs xs dn)(x:Int):Mem H0 (upd H d (.dK (cO kvs (Sum.inl x:Key)))) d L (cO kvs (Sum.inl x:Key)) xs (x::dn):=by
 have ld:∀k,k∉dn→ins xs k≠[]→L k≠d:=λk h0 h e=>by
  have:=(m.at' k h0 h).1;rw[e,m.dict]at this;cases this
 have no:∀k,k∉x::dn→k∉dn:=λk h h'=>h (mem_cons_of_mem _ h');refine⟨ac,m.d0,le_trans (ly _ _) m.len,λk=>?_,λk h1 h2=>?_,λk k' h0 h1 h2 h3 e=>m.inj k k' (no k h0) (no k' h1) h2 h3 e,aG m.d0 m.same⟩
 ·rw[qL,m.val k]
  by_cases h:k=x
  ·rw[if_pos (by rw[h]),if_pos (.inl (by rw[h];simp))]
  ·rw[if_neg (λe=>h (Sum.inl.inj e))];simp[h]
 ·rw[ai (ld k (no k h1) h2)];exact m.at' k (no k h1) h2
theorem Mem.skip{H0 H:Hp}{d:Addr}{L:Int→Addr}{kvs:List (Key×V)}{xs:ZN}{dn:List Int}(m:Mem H0 H d L kvs xs dn){x:Int}(hx:x∈dn∨ins xs x=[]):Mem H0 H d L kvs xs (x::dn):=by
 have no:∀k,k∉x::dn→k∉dn:=λk h h'=>h (mem_cons_of_mem _ h');refine⟨m.dict,m.d0,m.len,λk=>?_,λk h1 h2=>m.at' k (no k h1) h2,λk k' h0 h1 h2 h3 e=>m.inj k k' (no k h0) (no k' h1) h2 h3 e,m.same⟩;rw[m.val k]
 by_cases h:k=x
 ·subst h;rw[if_pos hx,if_pos (.inl (by simp))]
 ·simp[h]
theorem sL{Q:VK}{H0 H:Hp}{d q:Addr}{L:Int→Addr}{kvs:List (Key×V)}{zs:ZN}{dn:List Int}{x:Int}(m:Mem H0 H d L kvs zs dn)(hq:H q=some (.lst []))(k:∀hl Hc kvs' hs,Mem H0 Hc d L kvs' zs (x::dn)→Hc hl=some (.lst (aI hs))→nds hs=TW.here (nds zs) dn x→(∀z∈hs,z∈zs)→(∀p,p≠d→Hc p=H p)→(hs=[]→hl=q)→Q (.ref hl) Hc):
  ∃kvs k,H d=some (.dK kvs)∧V.int x=kV k∧(∀v,bc kvs k=some v→Q v (upd H d (.dK (cO kvs k))))∧(bc kvs k=none→Q (.ref q) H):=by
 refine⟨kvs,.inl x,m.dict,rfl,λv hv=>?_,λhn=>?_⟩
 ·rw[m.val x]at hv
  by_cases h:x∈dn∨ins zs x=[]
  ·rw[if_pos h]at hv;cases hv
  ·rw[if_neg h]at hv;have h1:x∉dn:=λz=>h (.inl z);have h2:ins zs x≠[]:=λz=>h (.inr z);cases hv;have a:=(m.at' x h1 h2).1;have ld:L x≠d:=λe=>by rw[e,m.dict]at a;cases a
   refine k (L x) _ _ (ins zs x) (m.drop x) (by rw[ai ld];exact a) ?_ (λz hz=>vb hz) (λp hp=>ai hp) (λe=>absurd e h2);rw[ph];unfold TW.here;rw[if_neg h1]
 ·rw[m.val x]at hn
  by_cases h:x∈dn∨ins zs x=[]
  ·refine k q _ _ [] (m.skip h) hq ?_ (by simp) (λp _=>rfl) (λ_=>rfl);unfold TW.here
   by_cases h1:x∈dn
   ·rw[if_pos h1];rfl
   ·rw[if_neg h1];rcases h with h|h
    ·exact absurd h h1
    ·rw[←ph,h]
  ·rw[if_neg h]at hn;cases hn
theorem pq{H:Hp}{p hl:Addr}{hs:ZN}{is:List Int}(hp:H p=some (.lst (is.map V.int)))(h:H hl=some (.lst (aI hs)))(hne:hs≠[]):hl≠p:=by
 intro e;rw[e,hp]at h;injection h with h
 injection h with h
 cases hs with
 |nil=>exact hne rfl
 |cons a r =>
  cases is with
  |nil=>simp[aI]at h
  |cons i r'=>simp[aI]at h
def gC(H:Hp)(p:Addr):Nat:=match H p with
 |some (.lst xs)=>xs.length
 |_=>0
theorem dF{H:Hp}{p:Addr}{xs:List V}(h:H p=some (.lst xs)):gC H p=xs.length:=by unfold gC;rw[h]
def db(l:List Nd):List V:=(l.map (·.num)).map V.int
def dZ(K:PySem.W.Frag)(H:Hp)(a:Addr):Prop:=∃ns:List Int,SqL K H a (ns.map V.int)
theorem dZ.same{K:PySem.W.Frag}{H H':Hp}{a:Addr}(h:dZ K H a)(s:Same H H'):dZ K H' a:=let⟨ns,e⟩:=h;⟨ns,s.seq e⟩
theorem mq{ns:List Int}{i:Int}(h0:0≤i)(h1:i<ns.length):∃j,atI (ns.map V.int) i=some (.int j):=by
 refine⟨ns[i.toNat]'(by omega),?_⟩;have:=ix (xs:=ns.map V.int) (j:=i.toNat) (v:=.int (ns[i.toNat]'(by omega))) (by rw[getElem?_map,getElem?_eq_getElem (by omega)];rfl);rw[show((i.toNat:Nat):Int)=i by omega]at this;exact this
def Has(P:Program)(w:World)(K:PySem.W.Frag)(mg:Str→Option Value)(base:Heap)(k:Nat)(x:Str)(ps:List Str)(sp:Sp):Prop:=∃f fd,FnOk P w K mg base CX0 k f fd ps sp∧mg x=some (.ref f)∧keepIn K (.ref f)=true∧cj K fd ps []
def sM(n:Nd):Prop:=1≤n.num∧n.num≤12∧(n.nm="a"∨n.nm="b"∨n.nm="c"∨n.nm="abcde")∧(n.st=none∨n.st=some 0∨n.st=some 1∨n.st=some 2∨n.st=some 999)
structure Bd(zs:ZN)(lf:List Int):Prop where
 built:TW.Built (nds zs)
 nd:((nds zs).map (·.num)++lf).Nodup
 rng:∀x∈lf,1≤x∧x≤12
 own:TW.aY (nds zs)
 ok:∀z∈zs,sM z.2
theorem Bd.skip{zs:ZN}{lf:List Int}(b:Bd zs lf)(i:Nat):Bd zs (lf.eraseIdx i) :=
 ⟨b.built,Nodup.sublist (Sublist.append (Sublist.refl _) (List.eraseIdx_sublist lf i)) b.nd,λx hx=>b.rng x ((List.eraseIdx_sublist lf i).mem hx),b.own,b.ok⟩
theorem jh:∀{l:List Int}{i:Nat}{x:Int},l[i]?=some x→(x::l.eraseIdx i).Perm l
 |a::l,0,x,h=>by
  have:a=x:=by simpa using h
  subst this;exact List.Perm.refl _
 |a::l,i+1,x,h=>by
  have h':l[i]?=some x:=by simpa using h
  exact(List.Perm.swap a x _).trans (List.Perm.cons a (jh h'))
 |[],i,x,h=>by simp at h
theorem Bd.add{zs:ZN}{lf:List Int}{i:Nat}{q:Addr}{n:Nd}(b:Bd zs lf)(hi:lf[i]?=some n.num)(hp:n.par∈(0:Int)::TW.aN (nds zs))(ho:∀z∈zs,¬(z.2.par=n.par∧z.2.nm=n.nm))(h3:n.nm="a"∨n.nm="b"∨n.nm="c"∨n.nm="abcde")(h4:n.st=none∨n.st=some 0∨n.st=some 1∨n.st=some 2∨n.st=some 999):Bd (zs++[(q,n)]) (lf.eraseIdx i):=by
 have e:nds (zs++[(q,n)])=nds zs++[n]:=by simp[nds]
 have pm:=jh hi;refine⟨?_,?_,λx hx=>b.rng x ((List.eraseIdx_sublist lf i).mem hx),?_,λz hz=>?_⟩
 ·rw[e];refine .snoc b.built ?_;rcases mem_cons.mp hp with h|h
  ·exact .inl h
  ·exact .inr (TW.ia.mp h)
 ·rw[e,map_append,append_assoc];exact((List.Perm.append_left _ pm).nodup_iff).mpr b.nd
 ·rw[e];unfold TW.aY;rw[map_append,nodup_append];refine⟨b.own,by simp,λx hx y hy=>?_⟩;have ey:y=(n.par,n.nm):=by simpa using hy
  subst ey;obtain⟨m,hm,rfl⟩:=mem_map.mp hx;obtain⟨z,hz,rfl⟩:=mem_map.mp hm;intro h;injection h with h1 h2
  exact ho z hz ⟨h1,h2⟩
 ·rcases mem_append.mp hz with h|h
  ·exact b.ok z h
  ·have ez:z=(q,n):=by simpa using h
   subst ez;have:=b.rng n.num (mem_of_getElem? hi);exact⟨this.1,this.2,h3,h4⟩
def tp(z:Addr×Nd):im:=(z.1,z.2.num,[.int z.2.par,.str z.2.nm,stV z.2.st])
def un(t:im):Addr×Nd:=(t.1,match t.2.2 with
 |[.int p,.str s,.int i]=>⟨t.2.1,p,s,some i⟩
 |[.int p,.str s,_]=>⟨t.2.1,p,s,none⟩
 | _=>⟨0,0,"",none⟩)
theorem wb(z:Addr×Nd):un (tp z)=z:=by
 obtain⟨a,⟨n,p,s,st⟩⟩:=z;cases st<;>rfl
theorem back{zs:ZN}{ts:List im}(h:ts.Perm (zs.map tp)):(ts.map un).Perm zs∧(ts.map un).map tp=ts:=by
 constructor
 ·have:=h.map un;rw[map_map]at this;have e:zs.map (un∘tp)=zs.map id:=map_congr_left λz _=>wb z;rw[e,List.map_id]at this;exact this
 ·rw[map_map,map_congr_left (g:=id)]
  ·simp
  ·intro t ht;obtain⟨z,_,rfl⟩:=mem_map.mp (h.mem_iff.mp ht);show tp (un (tp z))=tp z;rw[wb]
theorem iA(zs:ZN):((zs.map tp).map (·.1)).map V.ref=aI zs:=by
 unfold aI;simp only[map_map];rfl
theorem xf{n:Nat}{j:Int}(h0:0≤j)(h1:j<n):seqIndex? j n=some j.toNat:=(oK (by unfold ixN;rw[if_pos h0,if_pos h1])).1
theorem jU:∀(l:List Int)(i:Nat),(l.map V.int).eraseIdx i=(l.eraseIdx i).map V.int
 |[],i=>by simp
 |a::l,0=>rfl
 |a::l,i+1=>by
  show V.int a::(l.map V.int).eraseIdx i=V.int a::(l.eraseIdx i).map V.int;rw[jU l i]
theorem vc{ns:List Int}{i:Int}(h0:0≤i)(h1:i<ns.length):∃x∈ns,atI (ns.map V.int) i=some (.int x):=by
 refine⟨ns[i.toNat]'(by omega),getElem_mem _,?_⟩;have:=ix (xs:=ns.map V.int) (j:=i.toNat) (v:=.int (ns[i.toNat]'(by omega))) (by rw[getElem?_map,getElem?_eq_getElem (by omega)];rfl);rw[show((i.toNat:Nat):Int)=i by omega]at this;exact this
theorem vd{j:Int}(h0:0≤j)(h1:j<4):∃x:Str,(x="a"∨x="b"∨x="c"∨x="abcde")∧atI [V.str "a",.str "b",.str "c",.str "abcde"] j=some (.str x):=by
 obtain rfl|rfl|rfl|rfl:j=0∨j=1∨j=2∨j=3:=by omega
 ·exact⟨"a",.inl rfl,rfl⟩
 ·exact⟨"b",.inr (.inl rfl),rfl⟩
 ·exact⟨"c",.inr (.inr (.inl rfl)),rfl⟩
 ·exact⟨"abcde",.inr (.inr (.inr rfl)),rfl⟩
theorem ve{j:Int}(h0:0≤j)(h1:j<4):∃i:Int,(some i=none∨some i=some (0:Int)∨some i=some 1∨some i=some 2∨some i=some 999)∧atI [V.int 0,.int 1,.int 2,.int 999] j=some (.int i):=by
 obtain rfl|rfl|rfl|rfl:j=0∨j=1∨j=2∨j=3:=by omega
 ·exact⟨0,.inr (.inl rfl),rfl⟩
 ·exact⟨1,.inr (.inr (.inl rfl)),rfl⟩
 ·exact⟨2,.inr (.inr (.inr (.inl rfl))),rfl⟩
 ·exact⟨999,.inr (.inr (.inr (.inr rfl))),rfl⟩
structure Sta(H:Hp)(pl pf pn:Addr)(Hx:Hp)(lf fs:List Int)(zs:ZN):Prop where
 same:Same H Hx
 l:Hx pl=some (.lst (lf.map V.int))
 f:Hx pf=some (.lst (fs.map V.int))
 n:Hx pn=some (.lst (aI zs))
 nd:At Hx zs
 l0:H pl=none
 f0:H pf=none
 n0:H pn=none
 lf':pl≠pf
 ln':pl≠pn
 fn':pf≠pn
theorem Sta.grow{H Hx Hy:Hp}{pl pf pn:Addr}{lf fs:List Int}{zs:ZN}(a:Sta H pl pf pn Hx lf fs zs)(s:Same Hx Hy):Sta H pl pf pn Hy lf fs zs :=
 ⟨a.same.trans s,s _ _ a.l,s _ _ a.f,s _ _ a.n,a.nd.same s,a.l0,a.f0,a.n0,a.lf',a.ln',a.fn'⟩
theorem At.over{H:Hp}{p:Addr}{xs:List V}{o:HO}{zs:ZN}(h:At H zs)(hp:H p=some (.lst xs)):At (upd H p o) zs:=λz hz=>by
 rw[ai]
 ·exact h z hz
 ·intro e;have:=h z hz;rw[e,hp]at this;cases this
theorem Sta.pop{H Hx:Hp}{pl pf pn:Addr}{lf fs:List Int}{zs:ZN}(a:Sta H pl pf pn Hx lf fs zs)(lf2:List Int):Sta H pl pf pn (upd Hx pl (.lst (lf2.map V.int))) lf2 fs zs :=
 ⟨aG a.l0 a.same,ac,by rw[ai (symm a.lf')];exact a.f,by rw[ai (symm a.ln')];exact a.n,a.nd.over a.l,a.l0,a.f0,a.n0,a.lf',a.ln',a.fn'⟩
theorem Sta.fold{H Hx:Hp}{pl pf pn:Addr}{lf fs:List Int}{zs:ZN}(a:Sta H pl pf pn Hx lf fs zs)(x:Int):Sta H pl pf pn (upd Hx pf (.lst (fs.map V.int++[.int x]))) lf (fs++[x]) zs :=
 ⟨aG a.f0 a.same,by rw[ai a.lf'];exact a.l,by rw[ac];simp,by rw[ai (symm a.fn')];exact a.n,a.nd.over a.f,a.l0,a.f0,a.n0,a.lf',a.ln',a.fn'⟩
theorem Sta.node{H Hx:Hp}{pl pf pn q:Addr}{lf fs:List Int}{zs:ZN}{n:Nd}(a:Sta H pl pf pn Hx lf fs zs)(hq:Hx q=some (.tup (vals n))):Sta H pl pf pn (upd Hx pn (.lst (aI zs++[.ref q]))) lf fs (zs++[(q,n)]) :=
 ⟨aG a.n0 a.same,by rw[ai a.ln'];exact a.l,by rw[ai a.fn'];exact a.f,by rw[ac,jT],(λz hz=>by
  rcases mem_append.mp hz with h|h
  ·exact a.nd.over a.n z h
  ·have ez:z=(q,n):=by simpa using h
   subst ez;rw[ai]
   ·exact hq
   ·intro e;have e':q=pn:=e;rw[e',a.n]at hq;cases hq),a.l0,a.f0,a.n0,a.lf',a.ln',a.fn'⟩
def lf0(m:Int):List Int:=(List.range (m+4-1).toNat).map λk=>(1:Int)+(k:Nat)
theorem vf{m:Int}(h:0≤m):((lf0 m).length:Int)=m+3:=by unfold lf0;rw[length_map,length_range];omega
theorem vg{m:Int}(h:m≤9):∀x∈lf0 m,1≤x∧x≤12:=λx hx=>by
 unfold lf0 at hx;obtain⟨k,hk,rfl⟩:=mem_map.mp hx;have:=mem_range.mp hk;omega
theorem xh(m:Int):(lf0 m).Nodup:=by
 unfold lf0 Nodup;rw[pairwise_map];exact nodup_range.imp λh e=>h (by omega)
theorem Bd.zero{m:Int}(h:m≤9):Bd [] (lf0 m):=⟨.nil,by show(([]:List Int)++lf0 m).Nodup;rw[nil_append];exact xh m,vg h,by unfold TW.aY nds;simp,by simp⟩
def cK(zs:ZN):List (Key×V):=zs.map λz=>((Sum.inl z.2.num:Key),V.ref z.1)
theorem kY{zs:ZN}(hn:((nds zs).map (·.num)).Nodup){z:Addr×Nd}(hz:z∈zs):bc (cK zs) (Sum.inl z.2.num:Key)=some (.ref z.1):=by
 induction zs with
 |nil=>simp at hz
 |cons y zs ih =>
  have hn':y.2.num∉(nds zs).map (·.num)∧((nds zs).map (·.num)).Nodup:=by simpa [nds]using hn
  show bc (((Sum.inl y.2.num:Key),V.ref y.1)::cK zs) _=_;rcases mem_cons.mp hz with e|hz'
  ·subst e;exact bf rfl
  ·rw[aZ]
   ·exact ih hn'.2 hz'
   ·intro e;injection e with e
    exact hn'.1 (mem_map.mpr ⟨z.2,mem_map.mpr ⟨z,hz',rfl⟩,e.symm⟩)
theorem nN{zs:ZN}{k:Int}(h:∀z∈zs,z.2.num≠k):bc (cK zs) (Sum.inl k:Key)=none:=by
 induction zs with
 |nil=>rfl
 |cons y zs ih =>
  show bc (((Sum.inl y.2.num:Key),V.ref y.1)::cK zs) _=_;rw[aZ]
  ·exact ih λz hz=>h z (mem_cons_of_mem _ hz)
  ·intro e;injection e with e
   exact h y (by simp) e
def ji(H:Hp)(d:Addr)(zs:ZN):Prop:=∃o,H d=some (.frz o (.dK (cK zs)))
theorem ji.same{H H':Hp}{d:Addr}{zs:ZN}(h:ji H d zs)(s:Same H H'):ji H' d zs:=let⟨o,e⟩:=h;⟨o,s _ _ e⟩
theorem ji.get{H:Hp}{d:Addr}{zs:ZN}(h:ji H d zs)(hn:((nds zs).map (·.num)).Nodup){z:Addr×Nd}(hz:z∈zs):dy H d (.int z.2.num) (some (.ref z.1)):=by
 obtain⟨o,e⟩:=h;exact .inl ⟨cK zs,Sum.inl z.2.num,.inr ⟨o,e⟩,rfl,(kY hn hz).symm⟩
theorem ji.not{H:Hp}{d:Addr}{zs:ZN}(h:ji H d zs){k:Int}(hk:∀z∈zs,z.2.num≠k):dy H d (.int k) none:=by
 obtain⟨o,e⟩:=h;exact .inl ⟨cK zs,Sum.inl k,.inr ⟨o,e⟩,rfl,(nN hk).symm⟩
theorem bJ{ns:List Nd}(T:TW.Tree1 ns):(ns.map (·.num)).Nodup:=by
 have h:=T.rise;unfold TW.bt at h;unfold Nodup;rw[pairwise_map];exact h.imp λh e=>by omega
theorem vh{ys:List V}{zs:ZN}{H:Hp}{p:Addr}{g:Addr×Nd→List V}(hlen:ys.length=zs.length)(h:∀(i:Nat) y,ys[i]?=some y→∃q z,zs[i]?=some z∧y=.ref q∧q≠p∧H q=some (.tup (g z))):
  ∃as:List (Addr×(Addr×Nd)),as.map (·.2)=zs∧ys=(as.map (·.1)).map V.ref∧∀a∈as,a.1≠p∧H a.1=some (.tup (g a.2)):=by
 induction ys generalizing zs with
 |nil =>
  have:zs=[]:=length_eq_zero_iff.mp hlen.symm;subst this;exact⟨[],rfl,rfl,by simp⟩
 |cons y ys ih =>
  cases zs with
  |nil=>simp at hlen
  |cons z zs =>
   obtain⟨as,e1,e2,e3⟩:=ih (zs:=zs) (by simpa using hlen) λi x hx=>by simpa using h (i+1) x (by simpa using hx)
   obtain⟨q,z',f1,f2,f3,f4⟩:=h 0 y rfl;have:z=z':=by simpa using f1
   subst this;refine⟨(q,z)::as,by simp[e1],by simp[e2,f2],λa ha=>?_⟩;rcases mem_cons.mp ha with rfl|ha
   ·exact⟨f3,f4⟩
   ·exact e3 a ha
theorem gE{κ:Type}[DecidableEq κ]{kvs:List (κ×V)}(hn:(kvs.map (·.1)).Nodup){k:κ}{v:V}(h:(k,v)∈kvs):bc kvs k=some v:=by
 induction kvs with
 |nil=>simp at h
 |cons y kvs ih =>
  have hn':y.1∉kvs.map (·.1)∧(kvs.map (·.1)).Nodup:=by simpa using hn
  rcases mem_cons.mp h with e|h'
  ·subst e;exact bf rfl
  ·rw[aZ]
   ·exact ih hn'.2 h'
   ·intro e;exact hn'.1 (mem_map.mpr ⟨_,h',e.symm⟩)
theorem vi{κ:Type}[DecidableEq κ]{kvs:List (κ×V)}{k:κ}(h:k∉kvs.map (·.1)):bc kvs k=none:=by
 induction kvs with
 |nil=>rfl
 |cons y kvs ih =>
  have h':¬k=y.1∧k∉kvs.map (·.1):=by simpa using h
  rw[aZ (λe=>h'.1 e.symm)];exact ih h'.2
theorem kZ{zs:ZN}{k:Int}{q:List Str}(T:TW.Tree1 (nds zs))(h:TW.PathTo (nds zs) k q)(hk:k≠0):∃z∈zs,z.2.num=k∧∃q',q=q'++[z.2.nm]∧TW.PathTo (nds zs) z.2.par q':=by
 cases h with
 |top=>exact absurd rfl hk
 |@node n q' hm hq' =>
  obtain⟨z,hz,rfl⟩:=mem_map.mp hm;exact⟨z,hz,rfl,q',rfl,hq'⟩
def gF(P:Program)(w:World)(K:PySem.W.Frag)(mg:Str→Option Value)(base:Heap)(k:Nat)(x:Str)(ps:List Str)(sp:Sp):Prop:=∃f fd,FnOk P w K mg base (CX1 P w) k f fd ps sp∧mg x=some (.ref f)∧keepIn K (.ref f)=true∧cj K fd ps []
structure Tre(H:Hp)(t:Addr)(zs:ZN):Prop where
 tup:H t=some (.tup (aI zs))
 nod:At H zs
 tr:TW.Tree1 (nds zs)
 len:zs.length≤30
theorem Tre.same{H H':Hp}{t:Addr}{zs:ZN}(h:Tre H t zs)(s:Same H H'):Tre H' t zs:=⟨s _ _ h.tup,h.nod.same s,h.tr,h.len⟩
theorem qM{ns:List Nd}(T:TW.Tree1 ns){f:Int}{dn:List Int}{fd:List Nd}(wk:TW.Walk ns f dn fd []):(fd.map (·.num)).Nodup:=by
 have h:=bJ T;have:(fd.map (·.num)).Perm ((ns.filter (TW.dj dn)).map (·.num)):=wk.perm.map _;exact this.nodup_iff.mpr (h.sublist (filter_sublist.map _))
theorem _root_.L2.Same.rd{H H':Hp}(s:Same H H'){a:Addr}{u:HO}(r:Rd H a u):Rd H' a u:=by
 rcases r with r|⟨o,r⟩
 ·exact .inl (s _ _ r)
 ·exact .inr ⟨o,s _ _ r⟩
def bK(as:List (Addr×(Addr×Nd))):List (Key×V):=as.map λa=>((Sum.inl a.2.2.num:Key),V.ref a.1)
def eA(n:Nd):List V:=[.int n.par,.str n.nm,stV n.st]
structure Book(H:Hp)(d:Addr)(as:List (Addr×(Addr×Nd)))(zs:ZN):Prop where
 dict:Rd H d (.dK (bK as))
 of:as.map (·.2)=zs
 at':∀a∈as,H a.1=some (.tup (eA a.2.2))
theorem Book.same{H H':Hp}{d:Addr}{as:List (Addr×(Addr×Nd))}{zs:ZN}(b:Book H d as zs)(s:Same H H'):Book H' d as zs:=⟨s.rd b.dict,b.of,λa ha=>s _ _ (b.at' a ha)⟩
theorem nO{as:List (Addr×(Addr×Nd))}{zs:ZN}(h:as.map (·.2)=zs):(bK as).map (·.1)=((nds zs).map (·.num)).map (Sum.inl:Int→Key):=by
 rw[←h];unfold bK nds;simp only[map_map];rfl
theorem sN{as:List (Addr×(Addr×Nd))}{zs:ZN}(h:as.map (·.2)=zs)(hn:((nds zs).map (·.num)).Nodup):((bK as).map (·.1)).Nodup:=by
 rw[nO h];unfold Nodup at hn⊢;rw[pairwise_map];exact hn.imp λh e=>h (by injection e)
theorem Book.get{H:Hp}{d:Addr}{as:List (Addr×(Addr×Nd))}{zs:ZN}(b:Book H d as zs)(hn:((nds zs).map (·.num)).Nodup){z:Addr×Nd}(hz:z∈zs):∃q,dy H d (.int z.2.num) (some (.ref q))∧H q=some (.tup (eA z.2)):=by
 have:z∈as.map (·.2):=by rw[b.of];exact hz
 obtain⟨a,ha,rfl⟩:=mem_map.mp this;refine⟨a.1,.inl ⟨bK as,Sum.inl a.2.2.num,b.dict,rfl,?_⟩,b.at' a ha⟩;exact(gE (sN b.of hn) (mem_map.mpr ⟨a,ha,rfl⟩)).symm
def mr(ns:List Nd)(k:Int):Nat:=open Classical in if h:∃p,TW.PathTo ns k p then (Classical.choose h).length else 0
theorem iB{ns:List Nd}(T:TW.Tree1 ns){k:Int}{p:List Str}(h:TW.PathTo ns k p):mr ns k=p.length:=by
 unfold mr;have hx:∃p,TW.PathTo ns k p:=⟨p,h⟩;rw[dif_pos hx];rw[(Classical.choose_spec hx).uniq T h]
theorem yL(n:Nd):atI (eA n) 0=some (.int n.par):=rfl
theorem zL(n:Nd):atI (eA n) 1=some (.str n.nm):=rfl
abbrev pw(x:Str)(mg:Str→Option Value)(base:Heap)(C:Addr):Prop:=PyProof.Rows.OwnCls x C bmV "ValueError.__new__" mg base
theorem aK(zs:ZN):zs.map (λz=>V.ref z.1)=aI zs:=by simp[aI]
theorem ib{K:PySem.W.Frag}{H:Hp}{l:Addr}{zs:ZN}{Q:VK}(hl:SqL K H l (aI zs)∨SqT K H l (aI zs))(hA:At H zs)(hn:((nds zs).map (·.num)).Nodup)(h64:zs.length<64)(q:∀us t' H',Same H H'→H' t'=some (.tup (aI us))→At H' us→us.Perm zs→TW.bt (nds us)→Q (.ref t') H'):
  ∃l',∃ts:List im,[V.ref l]=[V.ref l']∧(SqL K H l' ((ts.map (·.1)).map V.ref)∨SqT K H l' ((ts.map (·.1)).map V.ref))∧(∀z∈ts,H z.1=some (.tup (.int z.2.1::z.2.2)))∧(ts.map (·.2.1)).Nodup∧ts.length<64 ∧
   ∀ts':List im,ts'.Perm ts→ts'.Pairwise (λa b=>a.2.1<b.2.1)→∀p,H p=none→∃p' ys,[V.ref p]=[V.ref p']∧((SqL K (upd H p (.lst ((ts'.map (·.1)).map V.ref))) p' ys∧∀l,upd H p (.lst ((ts'.map (·.1)).map V.ref)) l=none→Q (.ref l) (upd (upd H p (.lst ((ts'.map (·.1)).map V.ref))) l (.tup ys))) ∨
    (SqT K (upd H p (.lst ((ts'.map (·.1)).map V.ref))) p' ys∧Q (.ref p') (upd H p (.lst ((ts'.map (·.1)).map V.ref))))):=by
 have hnum:(zs.map tp).map (·.2.1)=(nds zs).map (·.num):=by
  unfold nds;simp only[map_map];rfl
 refine⟨l,zs.map tp,rfl,by rw[iA];exact hl,λz hz=>?_,by rw[hnum];exact hn,by rw[length_map];exact h64,λts pm up p hp=>?_⟩
 ·obtain⟨y,hy,rfl⟩:=mem_map.mp hz;exact hA y hy
 ·obtain⟨pm2,eb⟩:=back pm;have er:(ts.map (·.1)).map V.ref=aI (ts.map un):=by rw[←iA,eb]
  rw[er];refine⟨p,_,rfl,.inl ⟨SqL.of ac,λl hl=>?_⟩⟩;refine q (ts.map un) l _ ((af hp).trans (af hl)) ac ?_ pm2 ?_
  ·intro z hz;exact((af hp).trans (af hl)) _ _ (hA z (pm2.mem_iff.mp hz))
  ·unfold nds TW.bt;rw[pairwise_map];have up2:((ts.map un).map tp).Pairwise (λa b=>a.2.1<b.2.1):=by rw[eb];exact up
   rw[pairwise_map]at up2;exact up2
theorem aw{zs:ZN}{z:Addr×Nd}(h:z∈zs):z.2∈nds zs:=mem_map.mpr ⟨z,h,rfl⟩
theorem bn{zs:ZN}{n:Nd}(h:n∈nds zs):∃z∈zs,z.2=n:=mem_map.mp h
def pA(bs:List (Addr×Nd)):List (Key×V):=bs.map λb=>((Sum.inl b.2.num:Key),V.ref b.1)
theorem pB(as:List (Addr×(Addr×Nd))):bK as=pA (as.map λa=>(a.1,a.2.2)):=by
 unfold bK pA;rw[map_map];rfl
theorem jj(bs:List (Addr×Nd)):(pA bs).map (λp=>kV p.1)=bs.map λb=>V.int b.2.num:=by
 unfold pA;rw[map_map];rfl
def xi(x:Str):Prop:=x="a"∨x="b"∨x="c"∨x="abcde"
def xj(s:Option Int):Prop:=∀i,s=some i→0≤i∧i≤999
def ip(n:Nd):Prop:=1≤n.num∧n.num≤60∧xi n.nm∧xj n.st
theorem sM.ok{n:Nd}(h:sM n):ip n:=by
 obtain⟨h1,h2,h3,h4⟩:=h;refine⟨h1,by omega,h3,λi e=>?_⟩;rcases h4 with h|h|h|h|h<;>rw[h]at e<;>cases e<;>decide
def top(i:Nat):Stmt:=PySem.Challenge.pw_treewatch_k12_whole_cut_and_put.main.body.getD i (.Pass ⟨0,0,0,0⟩)
abbrev nP:Stmt:=top 19
abbrev sO:Stmt:=top 20
abbrev nQ:Stmt:=top 21
abbrev sP:Stmt:=top 22
abbrev sQ:Stmt:=top 23
abbrev xk:Stmt:=top 24
abbrev xl:Stmt:=top 25
abbrev sR:Stmt:=top 26
abbrev xm:Stmt:=top 27
abbrev xn:Stmt:=top 28
abbrev xo:Stmt:=top 29
abbrev xp:Stmt:=top 30
abbrev xq:Stmt:=top 31
abbrev xt:Stmt:=top 32
abbrev vj:Stmt:=top 33
abbrev cB:Stmt:=top 34
abbrev bh:Stmt:=top 35
abbrev cM:Stmt:=top 37
abbrev eX:Stmt:=top 38
abbrev eY:Stmt:=top 39
abbrev cE:Stmt:=top 40
abbrev cg:Stmt:=top 41
abbrev iC:Stmt:=top 43
abbrev gG:Stmt:=top 44
abbrev sS:Stmt:=top 46
abbrev sT:Stmt:=top 47
abbrev hJ:Stmt:=top 48
abbrev sU:Stmt:=top 49
abbrev nR:Stmt:=top 50
abbrev nT:Stmt:=top 51
abbrev dl:Stmt:=top 52
abbrev dX:Stmt:=top 53
abbrev dm:Stmt:=top 54
abbrev aL:Stmt:=top 55
abbrev fe:Stmt:=top 56
structure Txt(mg:Str→Option Value):Prop where
 isin:mg "isinstance"=none
 dict:mg "dict"=none
 len:mg "len"=none
 tuple:mg "tuple"=none
 list:mg "list"=none
 range:mg "range"=none
 sorted:mg "sorted"=none
 reversed:mg "reversed"=none
 ValueError:mg "ValueError"=none
 str:mg "str"=none
 set:mg "set"=none
 max:mg "max"=none
 min:mg "min"=none
 sum:mg "sum"=none
 zip:mg "zip"=none
 enumerate:mg "enumerate"=none
 all:mg "all"=none
 int:mg "int"=none
 bool:mg "bool"=none
 top:∃t,mg "TOP"=some (.int 0 t)
 letters:∃t,mg "LETTERS"=some (.str "abcdefghijklmnopqrstuvwxyz" t)
 longest:∃t,mg "LONGEST_NAME"=some (.int 5 t)
 greatest:∃t,mg "GREATEST_STAMP"=some (.int 999 t)
section
variable{P:Program}{w:World}{K:PySem.W.Frag}{mg:Str→Option Value}{base:Heap}
def mt:Sp:=λvs H Q _=>∃t f zs,vs=[.ref t,.int f]∧H t=some (.tup (aI zs))∧At H zs∧zs.length≤100∧∀fd dn l H',TW.Walk (nds zs) f dn fd []→H' l=some (.lst (db fd))→Same H H'→Q (.ref l) H'
theorem jk:FnScope ["nodes","folder","members","node","found","pending","here"] ["nodes","folder"] (ag xl):=fsc
theorem xu{f:Addr}{fd:FuncData}(F:Fun K "numbers_inside" "numbers_inside" xl f fd)(T:Txt mg):FnOk P w K mg base CX0 1 f fd ["nodes","folder"] mt:=by
 refine F.ok jk (λvs H Q E h=>?_) (λcdv A outer s H vs Q E hr h=>?_)
 ·obtain⟨t,f,zs,rfl,_⟩:=h;rfl
 ·obtain⟨t,f,zs,rfl,ht,hA,hl,k⟩:=h;refine⟨_,ah (au (i:=2) jk.nd rfl (Or.inl rfl) rM)
   (ah (kh PassesOwn.never rfl (bD (pv 0)) (ao (i:=3) jk.nd rfl (Or.inl rfl)) (al (cp (ff plainAttrs_list PySem.F.slot_list_append PySem.F.type_list_append bx
     (ff PySem.F.plainAttrs_dict PySem.F.slot_dict_setdefault PySem.F.type_dict_setdefault jw (pv 2) (aa (aH ay (pv 3) aj (λ_ _=>rfl)) (aa (bj ae) ae))) (aa (pv 3) ae)))))
   (ah (au (i:=4) jk.nd rfl (Or.inl rfl) (bj ae))
   (ah (au (i:=5) jk.nd rfl (Or.inl rfl) (bj (aa (pv 1) ae)))
   (ah (fZ PassesOwn.never (rD (pv 5) (λ_=>rfl))
    (ah (au (i:=6) jk.nd rfl (Or.inl rfl) (rO (pv 2) (wG plainAttrs_list slot_list_pop type_list_pop wH (pv 5)) (bj ae) ⟨rfl,rfl,rfl,rfl⟩))
    (al (kh PassesOwn.never rfl (cP (pv 6)) (ao (i:=3) jk.nd rfl (Or.inl rfl))
     (ah (cp (ff plainAttrs_list PySem.F.slot_list_append PySem.F.type_list_append bx (pv 4) (aa (aH ay (pv 3) aj (λ_ _=>rfl)) ae)))
     (al (bu (av km (aH ay (pv 3) aj (λ_ _=>rfl)) fw (aB _)) (al (cp (ff plainAttrs_list PySem.F.slot_list_append PySem.F.type_list_append bx (pv 5) (aa (aH ay (pv 3) aj (λ_ _=>rfl)) ae)))) aR)))))))
   (al (ar (pv 4))))))),?_⟩
  refine λd hd=>?_;have z100:∀{n:Nat},n≤100→n<sizeLine:=λh=>aF (by omega);refine⟨_,rfl,t,rfl,⟨_,SqT.of (aW hd ht)⟩,uu (xs:=aI zs) (λi σ H'=>∃L kvs on,σ=[some (.ref t),some (.int f),some (.ref d),on,none,none,none]∧Mem H H' d L kvs (zs.take i) [])
   ⟨_,_,_,rfl,Mem.start hd⟩ (λi σ H' _ h=>?_) (λi x σ H' hx h=>?_) (λσ H' h=>?_)⟩
  ·obtain⟨_,_,_,_,m⟩:=h;exact SqT.of (m.same _ _ ht)
  ·obtain⟨L,kvs,on,rfl,m⟩:=h;obtain⟨z,gz,rfl⟩:=cn hx;have mz:=mem_of_getElem? gz;have ez:zs.take (i+1)=zs.take i++[z]:=by rw[take_succ,gz];rfl
   have hkl:kvs.length≤100:=by have:=m.len;rw[length_take]at this;omega
   refine⟨_,rfl,.inr (.inr (.inl ⟨rfl,.inl ⟨_,m.dict⟩⟩)),_,rfl,z.1,_,_,_,rfl,rfl,SqT.of (m.same _ _ (hA z mz)),at1 z.2,zero_le _,λq hq=>?_⟩;have m':=m.grow (af (o:=.lst []) hq);refine⟨d,kvs,.inl z.2.par,.ref q,rfl,rfl,m'.dict,z100 hkl,λv hv=>?_,λhn=>?_⟩
   ·rw[m.val]at hv
    by_cases h:z.2.par∈([]:List Int)∨ins (zs.take i) z.2.par=[]
    ·rw[if_pos h]at hv;cases hv
    ·rw[if_neg h]at hv;cases hv;have h2:ins (zs.take i) z.2.par≠[]:=λz=>h (.inr z);have a:=(m'.at' z.2.par (by simp) h2).1;refine⟨.inl ⟨rfl,_,SqL.of a⟩,_,rfl,_,_,_,rfl,rfl,a,?_,?_⟩
     ·refine z100 ?_;rw[aD];exact le_trans (Sublist.length_le (Sublist.trans filter_sublist (take_sublist _ _))) hl
     ·refine⟨L,kvs,_,rfl,?_⟩;rw[ez];exact m'.hit h2
   ·rw[m.val]at hn
    by_cases h:z.2.par∈([]:List Int)∨ins (zs.take i) z.2.par=[]
    ·have h2:ins (zs.take i) z.2.par=[]:=h.resolve_left (by simp);have hqd:q≠d:=λe=>by rw[e,m.dict]at hq;cases hq
     have a:upd (upd H' q (.lst [])) d (.dK (bQ kvs (Sum.inl z.2.par:Key) (.ref q))) q=some (.lst []):=by rw[ai hqd];exact ac
     refine⟨.inl ⟨rfl,_,SqL.of a⟩,_,rfl,q,[],_,rfl,rfl,a,z100 (zero_le _),?_⟩;have fr:=m.fresh (z:=z) h2 hq;rw[←ez]at fr;exact⟨_,_,_,rfl,fr⟩
    ·rw[if_neg h]at hn;cases hn
  ·obtain⟨L,kvs,on,rfl,m⟩:=h;rw[aD,take_length]at m;refine⟨zero_le _,λpf hpf=>⟨_,rfl,aA (by simp),λpp hpp=>?_⟩⟩;have m1:=(m.grow (af (o:=.lst []) hpf)).grow (af (o:=.lst [.int f]) hpp);have hpf0:H pf=none:=m.same.free hpf;have hne:pp≠pf:=λe=>by rw[e,ac]at hpp;cases hpp
   have hpp0:H pp=none:=by rw[ai hne]at hpp;exact m.same.free hpp
   dsimp only[aO,uq];refine gc (λσ H'=>∃L kvs dn fd pd on oh,σ=[some (.ref t),some (.int f),some (.ref d),on,some (.ref pf),some (.ref pp),oh]∧pd.length≤fd.length+1∧Mem H H' d L kvs zs dn∧TW.Walk (nds zs) f dn fd pd∧H' pf=some (.lst (db fd))∧H' pp=some (.lst (pd.map V.int)))
    (λσ H'=>2*(zs.length-gC H' pf)+gC H' pp) ⟨L,kvs,[],[],[f],_,_,rfl,le_refl _,m1,TW.Walk.start _ _,by rw[ai (symm hne),ac];rfl,ac⟩ (λσ H' h=>?_) ?_
   ·obtain⟨L,kvs,dn,fd,pd,on,oh,rfl,hpl,m,wk,ef,ep⟩:=h;refine⟨_,rfl,_,.inl ⟨_,SqL.of ep,rfl⟩,?_⟩
    by_cases hpd:pd=[]
    ·subst hpd;exact be ⟨_,rfl,k fd dn pf H' wk ef m.same⟩
    ·obtain⟨pd',x,rfl⟩:∃pd' x,pd=pd'++[x]:=⟨pd.dropLast,pd.getLast hpd,(List.dropLast_concat_getLast hpd).symm⟩;have et:(!((pd'++[x]).map V.int).isEmpty)=true:=by simp
     rw[if_pos et];have elast:((pd'++[x]).map V.int)[((pd'++[x]).map V.int).length-1]?=some (.int x):=by simp
     have edrop:((pd'++[x]).map V.int).dropLast=pd'.map V.int:=by simp
     refine⟨_,rfl,d,rfl,.inl ⟨_,Rd.of m.dict⟩,_,rfl,.inl ⟨rfl,_,SqL.of ep⟩,pp,_,.int x,rfl,rfl,ep,elast,zero_le _,λq hq=>?_⟩;rw[edrop]at hq⊢;have m2:=(m.other (o:=.lst (pd'.map V.int)) ep hpp0).grow (af (o:=.lst []) hq);have hqp:q≠pp:=λe=>by rw[e,ac]at hq;cases hq
     have hqf:q≠pf:=λe=>by rw[e,ai (symm hne),ef]at hq;cases hq
     refine sL m2 ac λhl Hc kvs' hs m3 ehl eh hsub hkeep hnil=>?_;have df:pf≠d:=λe=>by have:=m.dict;rw[←e,ef]at this;cases this
     have dp:pp≠d:=λe=>by have:=m.dict;rw[←e,ep]at this;cases this
     have ef3:Hc pf=some (.lst (db fd)):=by rw[hkeep pf df,ai (symm hqf),ai (symm hne)];exact ef
     have ep3:Hc pp=some (.lst (pd'.map V.int)):=by rw[hkeep pp dp,ai (symm hqp),ac]
     have hlf:hl≠pf:=by
      by_cases h:hs=[]
      ·rw[hnil h];exact hqf
      ·exact pq ef3 ehl h
     have hlp:hl≠pp:=by
      by_cases h:hs=[]
      ·rw[hnil h];exact hqp
      ·exact pq ep3 ehl h
     have wk':=wk.turn;rw[←eh]at wk';have hlen:=wk'.len;rw[length_append,aq,aq]at hlen;rw[length_append,length_singleton]at hpl;refine⟨_,rfl,hl,rfl,⟨_,SqL.of ehl⟩,ro (xs:=aI hs) (λj σ H'=>∃on,σ=[some (.ref t),some (.int f),some (.ref d),on,some (.ref pf),some (.ref pp),some (.ref hl)]∧Mem H H' d L kvs' zs (x::dn)∧H' hl=some (.lst (aI hs)) ∧
      H' pf=some (.lst (db (fd++nds (hs.take j))))∧H' pp=some (.lst ((pd'++TW.aN (nds (hs.take j))).map V.int))) ⟨_,rfl,m3,ehl,by rw[ef3];simp[nds],by rw[ep3];simp[nds,TW.aN]⟩
      (λj σ H' _ h=>?_) (λj y σ H' hy h=>?_) (λσ H' h=>?_)⟩
     ·obtain⟨_,_,_,e,_⟩:=h;exact SqL.of e
     ·obtain⟨on,rfl,m4,e1,e2,e3⟩:=h;obtain⟨z,gz,rfl⟩:=cn hy;have mz:=hsub z (mem_of_getElem? gz);have ez:hs.take (j+1)=hs.take j++[z]:=by rw[take_succ,gz];rfl
      have l1:(db (fd++nds (hs.take j))).length≤100:=by
       unfold db;rw[length_map,length_map,length_append,aq,length_take];omega
      have l2:((pd'++TW.aN (nds (hs.take j))).map V.int).length≤1000:=by
       have:=TW.dk (nds (hs.take j));rw[aq,length_take]at this;rw[length_map,length_append];omega
      have g0:∀{Hx:Hp},Same H Hx→Hx z.1=some (.tup (vals z.2)):=λs=>s _ _ (hA z mz);have e4:db (fd++nds (hs.take (j+1)))=db (fd++nds (hs.take j))++[.int z.2.num]:=by rw[ez];simp[db,nds]
      have m5:Mem H (upd H' pf (.lst (db (fd++nds (hs.take j))++[.int z.2.num]))) d L kvs' zs (x::dn):=m4.other e2 hpf0;have e5:(upd H' pf (.lst (db (fd++nds (hs.take j))++[.int z.2.num]))) hl=some (.lst (aI hs)):=by rw[ai hlf];exact e1
      have e6:(upd H' pf (.lst (db (fd++nds (hs.take j))++[.int z.2.num]))) pp=some (.lst ((pd'++TW.aN (nds (hs.take j))).map V.int)):=by rw[ai hne];exact e3
      refine⟨_,rfl,.inl ⟨rfl,_,SqL.of e2⟩,_,rfl,z.1,_,_,_,rfl,rfl,SqT.of (g0 m4.same),at0 z.2,pf,_,_,rfl,rfl,e2,z100 l1,?_⟩;refine⟨_,rfl,z.1,_,_,_,rfl,rfl,SqT.of (g0 m5.same),at3 z.2,rfl,_,rfl,?_⟩;cases est:z.2.st with
      |none =>
       have e7:TW.aN (nds (hs.take (j+1)))=TW.aN (nds (hs.take j))++[z.2.num]:=by rw[ez];simp[TW.aN,nds,est]
       refine cC ⟨_,rfl,.inl ⟨rfl,_,SqL.of e6⟩,_,rfl,z.1,_,_,_,rfl,rfl,SqT.of (g0 m5.same),at0 z.2,pp,_,_,rfl,rfl,e6,aF l2,?_⟩;refine⟨_,rfl,m5.other e6 hpp0,by rw[ai hlp];exact e5,by rw[ai (symm hne),ac,e4],?_⟩;rw[ac,e7];simp
      |some i =>
       have e7:TW.aN (nds (hs.take (j+1)))=TW.aN (nds (hs.take j)):=by rw[ez];simp[TW.aN,nds,est]
       refine be ⟨_,rfl,m5,e5,by rw[ac,e4],?_⟩;rw[e6,e7]
     ·obtain⟨on,rfl,m4,e1,e2,e3⟩:=h;rw[aD,take_length]at e2 e3;refine⟨⟨L,kvs',x::dn,_,_,on,_,rfl,?_,m4,wk',e2,e3⟩,?_⟩
      ·have:=TW.dk (nds hs);rw[aq]at this;rw[length_append,length_append,aq];omega
      show 2*(zs.length-gC H' pf)+gC H' pp<_;rw[dF e2,dF e3,dF ef,dF ep];have:=TW.dk (nds hs);rw[aq]at this;simp only[db,length_map,length_append,aq,length_singleton];omega
   ·rintro σ H Q Q' mo ⟨v,e,k,tv,q⟩;exact⟨v,e,k,tv,mo _ _ q⟩
def gH:Sp:=λvs H Q _=>∃t zs,vs=[.ref t]∧H t=some (.tup (aI zs))∧At H zs∧zs.length≤100∧((nds zs).map (·.num)).Nodup∧∀d H',Same H H'→ji H' d zs→Q (.ref d) H'
theorem yM:FnScope ["tree"] ["tree"] (ag xm):=fsc
theorem xv{f:Addr}{fd:FuncData}(F:Fun K "by_number" "by_number" xm f fd)(T:Txt mg):FnOk P w K mg base CX0 1 f fd ["tree"] gH:=by
 refine F.ok yM (λvs H Q E h=>?_) (λcdv A outer s H vs Q E hr h=>?_)
 ·obtain⟨t,zs,rfl,_⟩:=h;rfl
 ·obtain⟨t,zs,rfl,ht,hA,hl,hnd,k⟩:=h;refine⟨_,al (ar (aS (nJ rfl) rfl T.dict boot_dict (aa (ce (N:=["node"]) (k:=1) (js:=[]) (g:=aO 0) rfl (cf rfl (by decide +kernel) (by decide +kernel) (by decide +kernel)) rfl (λi j x h=>by simp at h)
   (bD (pv 0)) (λs H fp=>ao (i:=0) (show(["node"]:List Str).Nodup by decide +kernel) rfl (Or.inl rfl) (Or.inr rfl))
   (λs H fp=>bq (aa (aH (r:=ck K) ay (pv 0) aj (λ_ _=>rfl)) (aa (pv 0) ae)))) ae))),?_⟩
  refine⟨_,rfl,t,rfl,⟨_,SqT.of ht⟩,λp hp=>?_⟩;refine nK (fr:=[]) zs.length (by omega) hp rfl (λi y H'=>∃q z,zs[i]?=some z∧y=.ref q∧q≠p∧H' q=some (.tup [.int z.2.num,.ref z.1])) (λi y H1 H2 h ex=>?_) (λi H' hi s1=>?_) (λH' s1=>?_) ?_ (λi H' x H2 hi s1 hpl hy=>?_) (λys H' s1 hp' hlen hys=>?_)
  ·obtain⟨q,z,e1,e2,e3,e4⟩:=h;exact⟨q,z,e1,e2,e3,ex q _ e3 e4⟩
  ·exact⟨_,_,SqT.of (s1 _ _ ht),dE (getElem?_eq_getElem hi)⟩
  ·exact⟨_,SqT.of (s1 _ _ ht),by rw[aD];exact le_refl _⟩
  ·rintro _ _ _ _ m ⟨v1,b1,p1,xs,i1,v2,c1,c2,c3,c4,v3,b3,hz,q⟩;exact⟨v1,b1,p1,xs,i1,v2,c1,c2,c3,c4,v3,b3,hz,λl hl=>m _ _ (q l hl)⟩
  ·obtain⟨rfl,hx⟩:=hy;obtain⟨z,gz,rfl⟩:=cn (hx _ (SqT.of (s1 _ _ ht)));have mz:=mem_of_getElem? gz;refine⟨rfl,_,rfl,z.1,_,_,_,rfl,rfl,SqT.of (s1 _ _ (hA z mz)),at0 z.2,_,rfl,le2,λq hq=>⟨af hq,q,z,gz,rfl,cJ hpl hq,ac⟩⟩
  ·obtain⟨as,e1,e2,e3⟩:=vh (g:=λz=>[.int z.2.num,.ref z.1]) hlen hys;have e4:as.length=zs.length:=by rw[←e1,length_map]
   have e5:(as.map λa=>((Sum.inl a.2.2.num:Key),V.ref a.2.1))=cK zs:=by rw[←e1];unfold cK;rw[map_map];rfl
   refine⟨p,as.map λa=>(a.1,(Sum.inl a.2.2.num:Key),V.ref a.2.1),rfl,?_,?_,?_,?_,λd o hd=>?_⟩
   ·rw[hp',e2,map_map,map_map,map_map];rfl
   ·intro z hz;obtain⟨a,ha,rfl⟩:=mem_map.mp hz;exact(e3 a ha).2
   ·rw[length_map];omega
   ·rw[map_map];have:(as.map ((λx:Addr×Key×V=>x.2.1)∘λa=>(a.1,(Sum.inl a.2.2.num:Key),V.ref a.2.1)))=((nds zs).map (·.num)).map (Sum.inl:Int→Key):=by
     rw[←e1];unfold nds;simp only[map_map];rfl
    rw[this];unfold Nodup at hnd⊢;rw[pairwise_map];exact hnd.imp λh e=>h (by injection e)
   ·refine k d _ (s1.trans (af hd)) ⟨o,?_⟩;rw[ac,map_map];exact congrArg (λx=>some (HO.frz o (.dK x))) e5
abbrev sV(mg:Str→Option Value)(base:Heap)(C:Addr):Prop:=PyProof.Rows.OwnCls "NoNode" C bmV "ValueError.__new__" mg base
def mv(C:Addr):Sp:=λvs H Q E=>∃d k zs,vs=[.ref d,.int k]∧ji H d zs∧((nds zs).map (·.num)).Nodup∧0≤k∧k≤60∧(∀z∈zs,z.2.num=k→Q (.ref z.1) H)∧((∀z∈zs,z.2.num≠k)→E (.ref C) none H)
theorem yN:FnScope ["nodes","number"] ["nodes","number"] (ag xn):=fsc
theorem xw{f C:Addr}{fd:FuncData}(F:Fun K "node_of" "node_of" xn f fd)(O:sV mg base C):FnOk P w K mg base (CX1 P w) 1 f fd ["nodes","number"] (mv C):=by
 refine F.okX yN (λvs H Q E h=>?_) (λcdv A outer s H vs Q E hr h=>?_)
 ·obtain⟨d,k,zs,rfl,_⟩:=h;rfl
 ·obtain⟨d,k,zs,rfl,hd,hnd,h0,h1,q1,q2⟩:=h;refine⟨_,ah (bu (mZ (jJ (cu hr) (pv 1) (pv 0))) (al (md sr O hr.hd rfl (yG (pv 1) (by decide +kernel)))) aR) (al (ar (bY (cu hr) (pv 0) (pv 1) (λ_ _=>rfl)))),?_⟩
  by_cases hk:∀z∈zs,z.2.num≠k
  ·refine⟨_,rfl,_,rfl,d,_,rfl,hd.not hk,_,rfl,?_⟩;exact cC ⟨_,rfl,k,rfl,h0,h1,λy=>⟨aA (show 1≤1000 by decide),q2 hk⟩⟩
  ·obtain⟨z,hz,e⟩:∃z∈zs,z.2.num=k:=by
    by_cases h:∃z∈zs,z.2.num=k
    ·exact h
    ·exact absurd (λz hz e=>h ⟨z,hz,e⟩) hk
   subst e;refine⟨_,rfl,_,rfl,d,_,rfl,hd.get hnd hz,_,rfl,?_⟩;exact be ⟨_,rfl,_,rfl,d,_,rfl,hd.get hnd hz,q1 z hz rfl⟩
def mw(C:Addr):Sp:=λvs H Q E=>∃t k zs,vs=[.ref t,.int k]∧Tre H t zs∧0≤k∧k≤60 ∧
 ((k=0∨∃z∈zs,z.2.num=k)→∀(ms:List Int)(l:Addr)(H':Hp),Same H H'→ms.Pairwise (λa b:Int=>a<b)→ms.length≤zs.length→(∀x,x∈ms↔∃n∈nds zs,n.num=x∧TW.Reach (nds zs) k n)→H' l=some (.lst (ms.map V.int))→Q (.ref l) H') ∧
 (k≠0→(∀z∈zs,z.2.num≠k)→∀H',Same H H'→E (.ref C) none H')
theorem yO:FnScope ["tree","number"] ["tree","number"] (ag xt):=fsc
theorem xx{f C:Addr}{fd:FuncData}(F:Fun K "below" "below" xt f fd)(T:Txt mg)(CB:Has P w K mg base 1 "by_number" ["tree"] gH)(CN:gF P w K mg base 1 "node_of" ["nodes","number"] (mv C))(CI:Has P w K mg base 1 "numbers_inside" ["nodes","folder"] mt):
  FnOk P w K mg base (CX1 P w) 2 f fd ["tree","number"] (mw C):=by
 obtain⟨fB,fdB,GB,mB,kB,bB⟩:=CB;obtain⟨fN,fdN,GN,mN,kN,bN⟩:=CN;obtain⟨fI,fdI,GI,mI,kI,bI⟩:=CI;obtain⟨tt,hT⟩:=T.top;refine F.okX yO (λvs H Q E h=>?_) (λcdv A outer s H vs Q E hr h=>?_)
 ·obtain⟨t,k,zs,rfl,_⟩:=h;rfl
 ·obtain⟨t,k,zs,rfl,tr,h0,h1,q1,q2⟩:=h;have hnd:=bJ tr.tr;have hl:=tr.len;refine⟨_,ah (bu (av eD (pv 1) (aU (v:=.int 0) rfl hT ⟨_,rfl⟩) (aB _))
    (al (cp (ak (E:=E) GN hr rfl mN kN bN .nil (vY sr) (aa (ak GB hr rfl mB kB bB .nil ap (aa (pv 0) ae)) (aa (pv 1) ae))))) aR)
   (al (ar (am cD rfl T.sorted boot_sorted (aa (ak GI hr rfl mI kI bI .nil ap (aa (pv 0) (aa (pv 1) ae))) ae)))),?_⟩
  have main:∀H1,Same H H1→(k=0∨∃z∈zs,z.2.num=k)→yn (tCB (λxs H Q=>∃l,∃ns:List Int,xs=[.ref l]∧H l=some (.lst (ns.map V.int))∧ns.Nodup∧ns.length<64∧∀ms:List Int,ms.Perm ns→ms.Pairwise (λa b=>a<b)→∀p,H p=none→Q (.ref p) (upd H p (.lst (ms.map V.int))))
    (hX (rE mt [] E0 (hX (pU 0) (hX (pU 1) ng))) ng)) {nx:=λ_ H'=>Q .non H',rt:=Q} [some (.ref t),some (.int k)] H1:=by
   intro H1 s1 hk;refine⟨_,rfl,_,rfl,t,k,zs,rfl,s1 _ _ tr.tup,tr.nod.same s1,by omega,λfd dn l H2 wk el s2=>?_⟩;have hfl:=wk.len;rw[aq]at hfl;refine⟨l,fd.map (λn:Nd=>n.num),rfl,(show H2 l=some (.lst ((fd.map λn:Nd=>n.num).map V.int))from el),qM tr.tr wk,by rw[length_map];omega,λms hp hs p hpn=>?_⟩;refine q1 hk ms p _ ((s1.trans s2).trans (af hpn)) hs (by rw[hp.length_eq,length_map];exact hfl) (λx=>?_) ac;rw[hp.mem_iff,mem_map];constructor
   ·rintro⟨n,hn,e⟩;have:=(wk.mem n).mp hn;exact⟨n,this.mem,e,this⟩
   ·rintro⟨n,_,e,hr⟩;exact⟨n,(wk.mem n).mpr hr,e⟩
  refine⟨_,rfl,rfl,_,rfl,?_⟩
  by_cases hk0:k=0
  ·have:decide (V.int k=V.int 0)=true:=by simp[hk0]
   rw[this];exact be (main H (Same.refl _) (.inl hk0))
  ·have:decide (V.int k=V.int 0)=false:=by simp[hk0]
   rw[this];refine cC ?_;refine⟨_,rfl,t,zs,rfl,tr.tup,tr.nod,by omega,hnd,λd H1 s1 nd1=>?_⟩;refine⟨_,rfl,d,k,zs,rfl,nd1,hnd,h0,h1,λz hz e=>main H1 s1 (.inr ⟨z,hz,e⟩),λhk=>q2 hk0 hk H1 s1⟩
def jl:Sp:=λvs H Q _=>∃t zs,vs=[.ref t]∧Tre H t zs∧∀d as H',Same H H'→H d=none→Book H' d as zs→H' d=some (.dK (bK as))→Q (.ref d) H'
theorem xy:FnScope ["_law_tree_here"] ["_law_tree_here"] (ag sU):=fsc
theorem vk{f:Addr}{fd:FuncData}(F:Fun K "_law_book" "_law_book" sU f fd)(T:Txt mg):FnOk P w K mg base CX0 1 f fd ["_law_tree_here"] jl:=by
 refine F.ok xy (λvs H Q E h=>?_) (λcdv A outer s H vs Q E hr h=>?_)
 ·obtain⟨t,zs,rfl,_⟩:=h;rfl
 ·obtain⟨t,zs,rfl,tr,k⟩:=h;have hnd:=bJ tr.tr;have hl:=tr.len;have ht:=tr.tup;have hA:=tr.nod;refine⟨_,al (ar (aS (di rfl) rfl T.dict boot_dict (aa (ce (N:=["_law_node"]) (k:=1) (js:=[]) (g:=aO 0) rfl (cf rfl (by decide +kernel) (by decide +kernel) (by decide +kernel)) rfl (λi j x h=>by simp at h)
   (bD (pv 0)) (λs H fp=>ao (i:=0) (show(["_law_node"]:List Str).Nodup by decide +kernel) rfl (Or.inl rfl) (Or.inr rfl))
   (λs H fp=>bq (aa (aH (r:=ck K) ay (pv 0) aj (λ_ _=>rfl)) (aa (cG (r:=nr K) eE (pv 0) (cR aj) dM) ae)))) ae))),?_⟩
  refine⟨_,rfl,t,rfl,⟨_,SqT.of ht⟩,λp hp=>?_⟩;refine nK (fr:=[]) zs.length (by omega) hp rfl (λi y H'=>∃q t' z,zs[i]?=some z∧y=.ref q∧q≠p∧t'≠p∧H' q=some (.tup [.int z.2.num,.ref t'])∧H' t'=some (.tup (eA z.2))) (λi y H1 H2 h ex=>?_) (λi H' hi s1=>?_) (λH' s1=>?_) ?_ (λi H' x H2 hi s1 hpl hy=>?_) (λys H' s1 hp' hlen hys=>?_)
  ·obtain⟨q,t',z,e1,e2,e3,e4,e5,e6⟩:=h;exact⟨q,t',z,e1,e2,e3,e4,ex q _ e3 e5,ex t' _ e4 e6⟩
  ·exact⟨_,_,SqT.of (s1 _ _ ht),dE (getElem?_eq_getElem hi)⟩
  ·exact⟨_,SqT.of (s1 _ _ ht),by rw[aD];exact le_refl _⟩
  ·rintro _ _ _ _ m ⟨v1,b1,p1,xs,i1,v2,c1,c2,c3,c4,v3,b3,i3,d0,a3,xs3,d1,d2,d3,q⟩;refine⟨v1,b1,p1,xs,i1,v2,c1,c2,c3,c4,v3,b3,i3,d0,a3,xs3,d1,d2,d3,λl hl=>?_⟩;obtain⟨hz',q'⟩:=q l hl;exact⟨hz',λl' hl'=>m _ _ (q' l' hl')⟩
  ·obtain⟨rfl,hx⟩:=hy;obtain⟨z,gz,rfl⟩:=cn (hx _ (SqT.of (s1 _ _ ht)));have mz:=mem_of_getElem? gz;have hz1:=s1 _ _ (hA z mz);have ecut:gh (vals z.2) (some 1) none=eA z.2:=rfl;refine⟨rfl,_,rfl,z.1,_,_,_,rfl,rfl,SqT.of hz1,at0 z.2,_,rfl,_,rfl,z.1,_,rfl,SqT.of hz1,(by intro h;exact absurd h.1 (show ¬HT.sIx 4 0 (some 1)=0 by decide)),λt' ht'=>?_⟩;rw[ecut];have s2:=af (o:=.tup (eA z.2)) ht';have hpl2:∃ys,upd H2 t' (.tup (eA z.2)) p=some (.lst ys):=let⟨ys,e⟩:=hpl;⟨ys,s2 _ _ e⟩;refine⟨le2,λq hq=>⟨s2.trans (af hq),q,t',z,gz,rfl,cJ hpl2 hq,cJ hpl ht',ac,aW hq ac⟩⟩
  ·obtain⟨as,e1,e2,e3⟩:∃as:List ((Addr×Addr)×(Addr×Nd)),as.map (·.2)=zs∧ys=(as.map (·.1.1)).map V.ref∧∀a∈as,H' a.1.1=some (.tup [.int a.2.2.num,.ref a.1.2])∧H' a.1.2=some (.tup (eA a.2.2)):=by
    clear hp';have main:∀(ys:List V)(xs:ZN),ys.length=xs.length→(∀(i:Nat) y,ys[i]?=some y→∃q t' z,xs[i]?=some z∧y=.ref q∧q≠p∧t'≠p∧H' q=some (.tup [.int z.2.num,.ref t'])∧H' t'=some (.tup (eA z.2))) →
      ∃as:List ((Addr×Addr)×(Addr×Nd)),as.map (·.2)=xs∧ys=(as.map (·.1.1)).map V.ref∧∀a∈as,H' a.1.1=some (.tup [.int a.2.2.num,.ref a.1.2])∧H' a.1.2=some (.tup (eA a.2.2)):=by
     intro ys
     induction ys with
     |nil =>
      intro xs hl _;have:xs=[]:=length_eq_zero_iff.mp hl.symm;subst this;exact⟨[],rfl,rfl,by simp⟩
     |cons y ys ih =>
      intro xs hl h;cases xs with
      |nil=>simp at hl
      |cons x xs =>
       obtain⟨as,e1,e2,e3⟩:=ih xs (by simpa using hl) λi y hy=>by simpa using h (i+1) y (by simpa using hy)
       obtain⟨q,t',z,f1,f2,f3,f4,f5,f6⟩:=h 0 y rfl;have:x=z:=by simpa using f1
       subst this;refine⟨((q,t'),x)::as,by simp[e1],by simp[e2,f2],λa ha=>?_⟩;rcases mem_cons.mp ha with rfl|ha
       ·exact⟨f5,f6⟩
       ·exact e3 a ha
    exact main ys zs hlen hys
   have hal:as.length=zs.length:=by rw[←e1,length_map]
   refine⟨p,as.map λa=>(a.1.1,(Sum.inl a.2.2.num:Key),V.ref a.1.2),rfl,?_,?_,?_,?_,λd hd=>?_⟩
   ·rw[hp',e2,map_map,map_map,map_map];rfl
   ·intro z hz;obtain⟨a,ha,rfl⟩:=mem_map.mp hz;exact(e3 a ha).1
   ·rw[length_map];omega
   ·rw[map_map];have:(as.map ((λx:Addr×Key×V=>x.2.1)∘λa=>(a.1.1,(Sum.inl a.2.2.num:Key),V.ref a.1.2)))=((nds zs).map (·.num)).map (Sum.inl:Int→Key):=by
     rw[←e1];unfold nds;simp only[map_map];rfl
    rw[this];unfold Nodup at hnd⊢;rw[pairwise_map];exact hnd.imp λh e=>h (by injection e)
   ·have sd:=af (o:=.dK ((as.map λa=>(a.1.1,(Sum.inl a.2.2.num:Key),V.ref a.1.2)).map (·.2))) hd;have ed:upd H' d (.dK ((as.map λa=>(a.1.1,(Sum.inl a.2.2.num:Key),V.ref a.1.2)).map (·.2))) d=some (.dK (bK (as.map λa=>(a.1.2,a.2)))):=by
     rw[ac];refine congrArg (λx=>some (HO.dK x)) ?_;unfold bK;simp only[map_map];rfl
    refine k d (as.map λa=>(a.1.2,a.2)) _ (s1.trans sd) (s1.free hd) ⟨.inl ed,by rw[map_map];exact e1,λa ha=>?_⟩ ed;obtain⟨b,hb,rfl⟩:=mem_map.mp ha;exact sd _ _ (e3 b hb).2
theorem wc:FnScope ["_law_book_here","_law_number","_law_goal"] ["_law_book_here","_law_number","_law_goal"] (ag nT):=fsc
end
end TK
namespace TB
open PySem PySem.SetTable
section
variable{prog:Program}{w:World}{A:Around}{E:Value→Shared→Prop}{s:Shared}
end
section
variable{prog:Program}{w:World}{A:Around}{R:Result→Shared→Prop}{I:Addr}{fp wr:List Addr}{G:Array GenState→Array GenState→Prop}{n:Nat}{P:Nat→Value→Prop}{St:Nat→Shared→Prop}
end
section
variable{prog:Program}{w:World}{A:Around}{E:Value→Shared→Prop}{s:Shared}
end
end TB
namespace SRT
open PySem PySem.W PyProof.Rows
section
variable{prog:Program}{w:World}{A:Around}{E:Value→Shared→Prop}{s:Shared}
end
end SRT
namespace L2
open PySem PySem.Spec PyProof.Rows
section
variable{X:Cx}
end
end L2
namespace TB
open PySem PySem.SetTable
section
variable{prog:Program}{w:World}{A:Around}{E:Value→Shared→Prop}{s:Shared}
end
end TB
namespace L2
open PySem PySem.Spec PyProof.Rows
section
variable{X:Cx}
end
end L2
namespace TW
section
variable{S:Type}
def eQ(t:List (Nd S))(k:Int):Option (Nd S):=t.find? λn=>n.num==k
theorem nU{t:List (Nd S)}{k:Int}(h:∀m∈t,m.num≠k):eQ t k=none:=by
 unfold eQ;rw[List.find?_eq_none];intro m hm;simpa using h m hm
end
end TW
namespace TW
section
variable{S:Type}
theorem hU{t:List (Nd S)}{k:Int}{m:Nd S}(h:eQ t k=some m):m∈t∧m.num=k:=by
 unfold eQ at h;have h1:=List.find?_some h;have h2:=List.mem_of_find?_eq_some h;exact⟨h2,by simpa using h1⟩
end
end TW
namespace L2
open PySem PySem.Spec PyProof.Rows
theorem mx{α:Type}{k:Nat}{js:List Nat}{J:It}{g:TG}{te:TE}{σ:St}{H1:Hp}{Q:VK}{p:Addr}{fr:List (Option V)}(zs:List α)(val:α→V)(hn:zs.length≤1000)(hp:H1 p=none)(S:Src J H1 (zs.map val))(hfr:∃σ0:St,σ0.length=k∧cF k js σ=σ0++fr)(R:α→V→Hp→Prop)(hR:∀z y H H',R z y H→Ext p H H'→R z y H')(elt:∀z (σ0:St) H' (kk:St→VK),σ0.length=k→z∈zs→Same H1 H'→(∃ys,H' p=some (.lst ys))→(∀σ2 y H4,(∃σ0':St,σ0'.length=k∧σ2=σ0'++fr)→Same H' H4→R z y H4→kk σ2 y H4)→g (val z) (σ0++fr) H' λσ2 H3=>te σ2 H3 (kk σ2))(fin:∀ys H',Same H1 H'→H' p=some (.lst ys)→Paired (λz y=>R z y H') zs ys→Q (.ref p) H'):LcW k js g te σ Q J H1 p:=by
 have grow:∀{as:List α}{ys:List V}{H H':Hp},Ext p H H'→Paired (λz y=>R z y H) as ys→Paired (λz y=>R z y H') as ys:=λex r=>Paired.mapP r λa b h=>hR a b _ _ h ex;have hlen:∀{as:List α}{ys:List V}{H:Hp},Paired (λz y=>R z y H) as ys→ys.length=as.length:=λr=>(Paired.length r).symm;refine⟨λi m ys σ' H'=>m=zs.length-i∧i≤zs.length∧(∃σ0:St,σ0.length=k∧σ'=σ0++fr)∧Same H1 H'∧H' p=some (.lst ys)∧Paired (λz y=>R z y H') (zs.take i) ys,⟨zs.length,by simp,zero_le _,hfr,af hp,ac,.nil⟩,?_⟩;rintro i m ys σ' H' ⟨rfl,hi,⟨σ0,hσ0,rfl⟩,s1,hl,hys⟩
 by_cases hlt:i<zs.length
 ·have hlt':i<(zs.map val).length:=by rw[length_map];exact hlt
  refine .inr ⟨S.go i H' hlt' s1,?_,λx H2 hy=>?_⟩
  ·have h1:ys.length≤zs.length:=by
    rw[hlen hys,length_take];omega
   exact lt_of_le_of_lt h1 (aF hn)
  ·obtain⟨rfl,hx⟩:=S.yl i H' x H2 hlt' s1 hy;have gz:zs[i]?=some zs[i]:=getElem?_eq_getElem hlt;have mz:=mem_of_getElem? gz;rw[getElem?_map,gz]at hx;have ex:val zs[i]=x:=Option.some.inj hx;have et:zs.take (i+1)=zs.take i++[zs[i]]:=eW gz;subst ex;generalize zs[i]=z at gz mz et⊢;refine elt z σ0 H2 _ hσ0 mz s1 ⟨ys,hl⟩ λσ2 y H5 hσ2 s5 r5=>⟨s5 _ _ hl,zs.length-(i+1),by omega,rfl,hlt,hσ2,aG hp (s1.trans s5),ac,?_⟩;rw[et];exact Paired.snoc (grow ((Ext.of s5).trans Ext.upd) hys) (hR _ _ _ _ r5 Ext.upd)
 ·have e:i=zs.length:=by omega
  subst e;have st:=S.stop H' s1;rw[length_map]at st;refine .inl ⟨st,fin ys H' s1 hl ?_⟩;rw[take_length]at hys;exact hys
end L2
namespace TK
open PySem L2
instance decNd:DecidableEq (TW.Nd Str):=λa b=>Classical.propDecidable _
end TK
namespace L2
open PySem PySem.Spec PyProof.Rows
section
variable{X:Cx}
theorem nV(hu:X.A.units<cLine):OpR X (compareOp .NotEq) (λx y H Q=>∃a b xs,x=.ref a∧y=.ref b∧SqL X.K H a xs∧SqL X.K H b []∧Q (.bl (!decide (xs=[]))) H):=by
 intro pins s σ H x y v u Q I rx ry h;obtain⟨a,b,xs,rfl,rfl,ha,hb,q⟩:=h;cases rx;cases ry;obtain⟨its,r1,ht,_⟩:=I.list ha;obtain⟨its2,r2,hb',_⟩:=I.list hb;cases r2
 by_cases e:xs=[]
 ·subst e;cases r1;refine RcNeAt.lists (e:=λ_=>true) ht.isList hb'.isList rfl hu (λj h1 h2=>absurd h2 (by simp)) _ _ _ _ ⟨.bl _,H,I,?_,q⟩;rfl
 ·have e2:its≠[]:=λz=>e (r1.nil_iff.mp z);have e3:its.length≠0:=λz=>e2 (length_eq_zero_iff.mp z);refine RcNeAt.lists_lengths ht.isList hb'.isList (by simp[e3]) hu _ _ _ _ ⟨.bl _,H,I,?_,q⟩;show _=Value.bool _;simp[e]
end
end L2
namespace TW
section
variable{S:Type}
theorem jm{t:List (Nd S)}(T:bt t){m:Nd S}(hm:m∈t):eQ t m.num=some m:=by
 cases e:eQ t m.num with
 |none =>
  have:=List.find?_eq_none.mp e m hm;simp at this
 |some n =>
  obtain⟨h1,h2⟩:=hU e;rw[mn T h1 hm h2]
theorem qN{t u:List (Nd S)}(ht:bt t)(hu:bt u)(h:∀k,eQ t k=eQ u k):t=u:=by
 have mem:∀{a b:List (Nd S)},bt a→(∀k,eQ a k=eQ b k)→∀m∈a,m∈b:=λha hh m hm=>by
  have:=jm ha hm;rw[hh]at this;exact(hU this).1
 have key:∀{a b:List (Nd S)},bt a→bt b→(∀m,m∈a↔m∈b)→a=b:=by
  intro a
  induction a with
  |nil =>
   intro b _ _ hm;cases b with
   |nil=>rfl
   |cons y b=>exact absurd ((hm y).mpr mem_cons_self) (by simp)
  |cons x a ih =>
   intro b ha hb hm;cases b with
   |nil=>exact absurd ((hm x).mp mem_cons_self) (by simp)
   |cons y b =>
    obtain⟨a1,a2⟩:=pairwise_cons.mp ha;obtain⟨b1,b2⟩:=pairwise_cons.mp hb;have e:x=y:=by
     rcases mem_cons.mp ((hm x).mp mem_cons_self)with e|e
     ·exact e
     ·rcases mem_cons.mp ((hm y).mpr mem_cons_self)with e'|e'
      ·exact e'.symm
      ·have q1:=b1 x e;have q2:=a1 y e';omega
    subst e
    congr 1
    refine ih a2 b2 λm=>⟨λq=>?_,λq=>?_⟩
    ·rcases mem_cons.mp ((hm m).mp (mem_cons_of_mem _ q))with e|e
     ·have:=a1 m q;rw[e]at this;omega
     ·exact e
    ·rcases mem_cons.mp ((hm m).mpr (mem_cons_of_mem _ q))with e|e
     ·have:=b1 m q;rw[e]at this;omega
     ·exact e
 exact key ht hu λm=>⟨mem ht h m,mem hu (λk=>(h k).symm) m⟩
end
end TW
namespace L2
open PySem PySem.Spec PyProof.Rows
end L2
namespace TK
open PySem L2
theorem vm(o:Option Int):cm (stV o)=true:=by cases o<;>rfl
theorem nW(H:Hp)(n:Nd)(k:Nat):∀(i:Nat) x y,(vals n)[i]?=some x→(vals n)[i]?=some y→ml H k x y:=λi x y h1 h2=>by
 have e:x=y:=Option.some.inj (h1.symm.trans h2);subst e;refine dS ⟨rfl,?_⟩
 match i,h1 with
 |0,h=>cases h;rfl
 |1,h=>cases h;rfl
 |2,h=>cases h;rfl
 |3,h=>cases h;exact vm _
 |i+4,h=>simp[vals]at h
theorem ic{H:Hp}{us ws:ZN}(h:nds us=nds ws)(hu:At H us)(hw:At H ws):bX H (aI us) (aI ws):=by
 refine⟨by rw[aD,aD,←aq us,←aq ws,h],λi x y hx hy=>?_⟩;obtain⟨a,ga,rfl⟩:=cn hx;obtain⟨b,gb,rfl⟩:=cn hy;have e:a.2=b.2:=by
  have h1:(nds us)[i]?=some a.2:=by unfold nds;rw[getElem?_map,ga];rfl
  have h2:(nds ws)[i]?=some b.2:=by unfold nds;rw[getElem?_map,gb];rfl
  rw[h,h2]at h1;exact(Option.some.inj h1).symm
 refine .inr ⟨a.1,b.1,_,_,rfl,rfl,hu a (mem_of_getElem? ga),hw b (mem_of_getElem? gb),rfl,?_⟩;rw[e];exact nW H b.2 2
end TK
namespace L2
open PySem PySem.Spec PyProof.Rows
section
variable{X:Cx}{tg:Expr}
abbrev Cx.within(X:Cx)(pl:List (Addr×Obj))(xe:Value→Shared→Prop):Cx:={X with pn:=pl,xe:=xe}
theorem Cx.Ok.within(ok:X.Ok)(pl:List (Addr×Obj))(xe:Value→Shared→Prop):(X.within pl xe).Ok:=⟨ok.mod,ok.kind,ok.glob,ok.blt,ok.above,ok.inj,ok.has,ok.cab,ok.hd,ok.frames,ok.stk,ok.exf,ok.bs,ok.bsz,ok.noex,ok.exfs,ok.funs,ok.frf⟩
theorem Cx.Ok.without{pl:List (Addr×Obj)}{xe:Value→Shared→Prop}(ok:(X.within pl xe).Ok):X.Ok:=⟨ok.mod,ok.kind,ok.glob,ok.blt,ok.above,ok.inj,ok.has,ok.cab,ok.hd,ok.frames,ok.stk,ok.exf,ok.bs,ok.bsz,ok.noex,ok.exfs,ok.funs,ok.frf⟩
theorem Inv.within{pins:List (Addr×Obj)}{σ:St}{H:Hp}{s:Shared}(I:Inv X pins σ H s)(xe:Value→Shared→Prop):Inv (X.within (X.pn++pins) xe) [] σ H s :=
 ⟨I.ok.within _ _,I.os,I.bare,I.base,I.loc,I.cell,I.free,I.freeC,λp hp=>I.pin p (by simpa using hp),I.hok,I.len⟩
theorem Inv.without{pins pins':List (Addr×Obj)}{σ:St}{H:Hp}{s:Shared}{xe:Value→Shared→Prop}(I:Inv (X.within (X.pn++pins) xe) pins' σ H s):Inv X pins σ H s :=
 ⟨I.ok.without,I.os,I.bare,I.base,I.loc,I.cell,I.free,I.freeC,λp hp=>I.pin p (mem_append_left _ hp),I.hok,I.len⟩
end
end L2
namespace L2
open PySem PyProof PyProof.Rows
section
variable{X:Cx}{pos:Pos}
end
end L2
namespace L2
open PySem PySem.Spec PyProof.Rows
def sW(CX:CXT)(P:Program)(w:World)(K:PySem.W.Frag)(mg:Str→Option Value)(base:Heap)(N:List Str)(qual:Str)(scope:Scope)(f:Addr)(cd:Value)(cl:List (Str×Addr))(A:Around)(outer:List Env)(s:Shared)(H:Hp)(E:XK):Cx where
 prog:=P
 w:=w
 K:=K
 mg:=mg
 base:=base
 A:=A.deeper (envX qual scope s.heap.objs.size f cd cl)
 N:=N
 s₀:=s
 H₀:=H
 env:=envX qual scope s.heap.objs.size f cd cl
 outer:=outer
 stack:=envX qual scope s.heap.objs.size f cd cl::outer
 ex:=[]
 calm:=true
 fn:=λ_=>false
 pn:=[]
 xe:=λe s'=>wpAny (model P w) (A.deeper (envX qual scope s.heap.objs.size f cd cl)) (leaving (envX qual scope s.heap.objs.size f cd cl) e) (λ_ s''=>CX outer H s E e s'') (λe' s''=>CX outer H s E e' s'') s'
structure LaScope(ps:List Str)(scope:Scope)(cl:List (Str×Addr)):Prop where
 kind:scope.kind=.function
 co:scope.isCoroutine=false
 gen:scope.isGenerator=false
 nocell:∀x∈scope.names,x.2≠.cell
 par:∀x∈ps,scope.names.lookup x=some .local
 nd:ps.Nodup
 has:∀x,scope.names.lookup x=some .free→∃c,cl.lookup x=some c
 inj:∀x y c,cl.lookup x=some c→cl.lookup y=some c→x=y
structure Capt(base:Heap)(scope:Scope)(cl:List (Str×Addr))(fs:List Str)(fv:List V):Prop where
 cell:∀x c,cl.lookup x=some c→∃v,base.IsCell c v
 len:fs.length=fv.length
 val:∀(i:Nat) x v,fs[i]?=some x→fv[i]?=some v→scope.names.lookup x=some .free∧∃c u,cl.lookup x=some c∧base.IsCell c (some u)∧aJ v u
theorem pC:∀(ps:List Str)(us:List Value),((ps.zip us).map (·.1)).Sublist ps
 |[],_=>by simp
 |_::_,[]=>by simp
 |p::ps,u::us=>by rw[List.zip_cons_cons,map_cons];exact(pC ps us).cons₂ _
theorem my{ps:List Str}{us:List Value}{i:Nat}{x:Str}{u:Value}(nd:ps.Nodup)(h1:ps[i]?=some x)(h2:us[i]?=some u):(ps.zip us).reverse.lookup x=some u:=by
 have mem:(x,u)∈(ps.zip us).reverse:=by
  rw[List.mem_reverse];exact mem_of_getElem? (i:=i) (by rw[List.getElem?_zip_eq_some];exact⟨h1,h2⟩)
 have nd2:((ps.zip us).reverse.map (·.1)).Nodup:=by
  rw[List.map_reverse];unfold Nodup;rw[List.pairwise_reverse];exact(nd.sublist (pC ps us)).imp λh=>symm h
 generalize (ps.zip us).reverse=l at mem nd2
 induction l with
 |nil=>cases mem
 |cons a r ih =>
  obtain⟨y,w⟩:=a;rw[map_cons,nodup_cons]at nd2;rcases mem_cons.mp mem with e|e
  ·cases e;rw[lookup_cons,beq_self_eq_true]
  ·have ne:x≠y:=λz=>nd2.1 (by rw[←z];exact mem_map.mpr ⟨(x,u),e,rfl⟩);rw[lookup_cons,show(x==y)=false by simpa using ne]
   exact ih e nd2.2
section
variable{CX:CXT}{P:Program}{w:World}{K:PySem.W.Frag}{mg:Str→Option Value}{base:Heap}{k:Nat}{f c:Addr}{name qual:Str}{params:Arguments}{body:Expr}{scope:Scope}{cl:List (Str×Addr)}{pm ctv:Value}{ps fs:List Str}{fv:List V}{sp:Sp}
theorem sX{A:Around}{outer:List Env}{s:Shared}{H:Hp}{E:XK}{us:List Value}{vs:List V}{h₁:Heap}{tk:Nat}(S:LaScope ps scope cl)(C:Capt base scope cl fs fv)(hd:A.handled=none)(e0:Env0 P w K mg base A outer s H)(hl:vs.length=ps.length)(r:ax vs us)(hns:h₁.Ns s.heap.objs.size (λx=>(ps.zip us).reverse.lookup x))(hk:∀b o,s.heap.get? b=some o→h₁.get? b=some o):
  Inv (sW CX P w K mg base (ps++fs) qual scope f (.ref c) cl A outer s H E) [] (vs.map some++fv.map some) H {s with heap:=h₁,toks:=tk}:=by
 have noA:∀b:Addr,b∉(sW CX P w K mg base (ps++fs) qual scope f (.ref c) cl A outer s H E).ex:=λb z=>absurd (show b∈([]:List Addr)from z) (by simp);have cellB:∀c v,base.IsCell c v→h₁.IsCell c v∧H c=none∧c≠s.heap.objs.size:=λc v ⟨o,e,d⟩=>⟨⟨o,hk c o (e0.bs _ _ e).1,d⟩,(e0.bs _ _ e).2,ne_of_lt (lt_size (e0.bs _ _ e).1)⟩;refine⟨⟨e0.mod,S.kind,rfl,rfl,le_refl _,S.inj,λy hy=>?_,λy c h _=>absurd h (by simp[sW]),λ_=>hd,Around.frames_deeper e0.frames,.inr ⟨rfl,rfl⟩,λb z=>absurd z (noA b),e0.bs,e0.bsz,λb _ _=>noA b,λb z=>absurd z (noA b),e0.funs,e0.frf⟩,
  rfl,e0.bare,Un.kept hk,⟨_,hns,λi y v h1 h2 h3=>?_⟩,λy c h=>?_,e0.hok.fresh (le_refl _),λy c h=>?_,λp hp=>absurd (show p∈([]:List (Addr×Obj))from hp) (by simp),e0.hok.kept hk,?_⟩
 ·have hy:scope.names.lookup y=some .cell∨scope.names.lookup y=some .free:=hy;rcases hy with hy|hy
  ·exact absurd rfl (S.nocell _ (PySem.mem_of_lookup hy))
  ·exact S.has y hy
 ·have h1:(ps++fs)[i]?=some y:=h1
  by_cases hi:i<ps.length
  ·rw[getElem?_append_left hi]at h1;rw[getElem?_append_left (by rw[length_map];omega),getElem?_map]at h2;cases e:vs[i]? with
   |none=>rw[e]at h2;cases h2
   |some a =>
    rw[e]at h2;cases h2;obtain⟨u,hu,rv⟩:=r.get e;exact⟨u,rv,.inl ⟨S.par y (mem_of_getElem? h1),my S.nd h1 hu⟩⟩
  ·rw[getElem?_append_right (by omega)]at h1;rw[getElem?_append_right (by rw[length_map];omega),length_map,hl,getElem?_map]at h2;cases e:fv[i-ps.length]? with
   |none=>rw[e]at h2;cases h2
   |some a =>
    rw[e]at h2;cases h2;obtain⟨g1,cc,u,g2,g3,rv⟩:=C.val _ _ _ h1 e;exact⟨u,rv,.inr ⟨.inr g1,cc,g2,(cellB _ _ g3).1⟩⟩
 ·obtain⟨v,hv⟩:=C.cell y c h;exact⟨v,(cellB _ _ hv).1⟩
 ·obtain⟨v,hv⟩:=C.cell y c h;exact(cellB _ _ hv).2.1
 ·show _=(ps++fs).length;rw[length_append,length_append,length_map,length_map,hl,C.len]
end
def cdφ(c:Addr)(qual:Str)(h:Heap):Prop:=h.CodeRec (.ref c) qual
theorem mD{c:Addr}{qual:Str}:∀h1 h2:Heap,cdφ c qual h1→(∀o,h1.get? c=some o→h2.get? c=some o)→cdφ c qual h2:=λh1 h2 h k=>by
 obtain⟨c',oc,vs,tq,e1,e2,e3⟩:=h;cases e1;exact⟨c,oc,vs,tq,rfl,k _ e2,e3⟩
theorem sY{c:Addr}{qual:Str}{h:Heap}(x:cdφ c qual h):∃o,h.get? c=some o:=by
 obtain⟨c',oc,vs,tq,e1,e2,e3⟩:=x;cases e1;exact⟨oc,e2⟩
def eR(H:Hp)(P:Addr)(qual:Str):Prop:=∃ps:Array Value,H P=some (.tbl ps)∧TriplesOk ps.toList∧∀pos cv,codeAmong pos ps.toList=some cv→∃c,cv=.ref c∧H c=some (.ext (cdφ c qual))
theorem eR.start{H:Hp}{P:Addr}{qual:Str}(h:H P=some (.tbl #[])):eR H P qual:=⟨#[],h,trivial,λpos cv e=>by cases e⟩
theorem jV{pos:Pos}{a b:Int}{t u:Tok}{v cv:Value}:∀{l:List Value},TriplesOk l→codeAmong pos (l++[.int a t,.int b u,v])=some cv→codeAmong pos l=some cv∨cv=v
 |[],_,h=>by
  have h:(if a==pos.line&&b==pos.col then some v else codeAmong pos [])=some cv:=h
  split at h
  ·exact .inr (Option.some.inj h).symm
  ·cases h
 |.int x t1::.int y t2::c::rest,ht,h=>by
  have h:(if x==pos.line&&y==pos.col then some c else codeAmong pos (rest++[.int a t,.int b u,v]))=some cv:=h
  show(if x==pos.line&&y==pos.col then some c else codeAmong pos rest)=some cv∨cv=v
  split at h
  ·rename_i e;rw[if_pos e];exact .inl h
  ·rename_i e;rw[if_neg e];exact jV (show TriplesOk rest from ht) h
theorem ie{a b:Int}{t u:Tok}{v:Value}:∀{l:List Value},TriplesOk l→TriplesOk (l++[.int a t,.int b u,v])
 |[],_=>trivial
 |.int x t1::.int y t2::c::rest,ht=>ie (l:=rest) ht
def cI(P:Addr)(H H':Hp):Prop:=∀b o,b≠P→H b=some o→H' b=some o
theorem cI.refl(P:Addr)(H:Hp):cI P H H:=λ_ _ _ h=>h
def BmB(base:Heap)(mg:Str→Option Value):Prop:=∃bm o,mg "__builtins__"=some (.ref bm)∧bm≠builtinsNs∧base.get? bm=some o∧o.cls=.type "module"∧o.dict=some builtinsNs∧o.data=.plain
section
variable{X:Cx}{pins:List (Addr×Obj)}{σ:St}{H:Hp}{s:Shared}
theorem Inv.tab{P:Addr}{ps more:Array Value}{h':Heap}{t':Nat}(I:Inv X pins σ H s)(hP:H P=some (.tbl ps))(k:∀b o,b≠P→s.heap.get? b=some o→h'.get? b=some o)(hP':h'.get? P=some {cls:=.none,data:=.fields (ps++more)}):Inv X pins σ (upd H P (.tbl (ps++more))) {s with heap:=h',toks:=t'}:=by
 have ne:∀b,H b=none→b≠P:=λb n z=>by rw[z,hP]at n;cases n
 refine I.un (t':=t') ⟨λb o e n _ _=>k b o (ne b n) e,λb o e n _ _=>⟨o.slots,k b o (ne b n) e⟩,λb o e n _=>by rw[ai (ne b n)];exact n,λb o e _=>?_,λb xs e=>?_,λb o u e=>?_,λb qs e=>?_⟩ λb u e=>?_
 ·by_cases hb:b=P
  ·rw[hb];exact⟨_,hP'⟩
  ·exact⟨o,k b o hb e⟩
 ·rw[ai (λz=>by rw[z,hP]at e;cases e)];exact e
 ·rw[ai (λz=>by rw[z,hP]at e;cases e)];exact e
 ·by_cases hb:b=P
  ·subst hb;rw[hP]at e;cases e;exact⟨more,ac⟩
  ·exact⟨#[],by rw[ai hb,e];simp⟩
 ·by_cases hb:b=P
  ·subst hb;rw[ac]at e;cases e;exact hP'
  ·rw[ai hb]at e;refine(I.hok b u e).stay (λc v hc q=>k c v (λz=>?_) q) (λc q=>?_) λc xs q=>?_
   ·rcases hc with hc|hc
    ·exact hb (hc.symm.trans z)
    ·rw[z,hP]at hc;cases hc
   ·rw[ai (λz=>by rw[z,hP]at q;cases q)];exact q
   ·rw[ai (λz=>by rw[z,hP]at q;cases q)];exact q
theorem vn{c0 P:Addr}{params:Arguments}{body:Expr}{scope:Scope}{pos:Pos}{cl:List (Str×Addr)}{Q:Value→Shared→Prop}{E:Value→Shared→Prop}(I:Inv X pins σ H s)(C0:CodeHd X.base c0 P)(hc:X.env.code=.ref c0)(Bm:BmB X.base X.mg)(T:eR H P (X.env.qual++"<lambda>"))(hdef:defaultsOf params X.env=([],[]))(hcl:closureFor scope X.env=pure cl)(h:∀f c pm ctv H' s',cI P H H'→eR H' P (X.env.qual++"<lambda>")→H' c=some (.ext (cdφ c (X.env.qual++"<lambda>")))→Inv X pins σ H' s'→s'.heap.get? f=some (kla_obj "<lambda>" (X.env.qual++"<lambda>") params body scope cl pm c ctv)→s.heap.objs.size≤f→H' f=none→(∀b v,s.heap.IsCell b v→H b=none→s'.heap.IsCell b v)→Q (.ref f) s'):
  wpAny (model X.prog X.w) X.A (eval (.Lambda params body scope pos) X.env) Q E s:=by
 obtain⟨ps,hP,ht,hq⟩:=T;have hPs:s.heap.get? P=some (tabObj ps):=I.hok P _ hP;have hg:s.heap.Ns mainGlobals X.mg:=I.ok.mod.glob.keeps I.bk;have hgP:mainGlobals≠P:=λq=>by
  obtain⟨o,es,ep,e,hd,_⟩:=I.ok.mod.glob;have:=(I.bs _ _ e).2;rw[q,hP]at this;cases this
 have hb:s.heap.BuiltinsAt X.mg P:=by
  obtain⟨bm,ob,b1,b2,b3,b4,b5,b6⟩:=Bm;refine⟨bm,ob,b1,b2,λq=>?_,λq=>?_,I.bk _ _ b3,b4,b5,b6⟩
  ·obtain⟨o,es,ep,e,hd,_⟩:=I.ok.mod.glob;rw[q,e]at b3;cases b3;rw[hd]at b6;cases b6
  ·have:=(I.bs _ _ b3).2;rw[q,hP]at this;cases this
 have C:=C0.keeps I.bk;have cellP:∀b v,s.heap.IsCell b v→H b=none→b≠P:=λb v _ n z=>by rw[z,hP]at n;cases n
 refine PySem.W.kla_eval hdef ?_;cases ha:codeAmong pos ps.toList with
 |none =>
  refine PySem.W.kla_makeFunction (mg:=X.mg) hcl I.ok.glob hg hc C hPs ht ha hgP hb λc' ctv h' tk hx hge hlt hrec htb=>?_;have J:=I.tab (t':=tk) (more:=#[rawInt pos.line,rawInt pos.col,.ref c']) (h':=h'.push (kla_obj "<lambda>" (X.env.qual++"<lambda>") params body scope cl ((X.mg "__name__").getD .none) c' ctv)) hP (λb o n e=>get?_push_of_some _ (hx b o n e)) (get?_push_of_some _ htb);have fr:H c'=none:=I.hok.fresh hge;have ncP:c'≠P:=λz=>by rw[z,hP]at fr;cases fr
  have fr':upd H P (.tbl (ps ++ #[rawInt pos.line,rawInt pos.col,.ref c'])) c'=none:=by rw[ai ncP];exact fr
  have hrec':cdφ c' (X.env.qual++"<lambda>") (h'.push (kla_obj "<lambda>" (X.env.qual++"<lambda>") params body scope cl ((X.mg "__name__").getD .none) c' ctv)):=mD _ _ hrec λo e=>get?_push_of_some _ e;have Hq:cI P H (upd (upd H P (.tbl (ps ++ #[rawInt pos.line,rawInt pos.col,.ref c']))) c' (.ext (cdφ c' (X.env.qual++"<lambda>")))):=λb o n e=>by
   rw[ai (aT e fr),ai n];exact e
  have sz:s.heap.objs.size≤h'.objs.size:=le_trans hge (le_of_lt hlt);have nfc:h'.objs.size≠c':=ne_of_gt hlt;have frf:H h'.objs.size=none:=I.hok.fresh sz;have nfP:h'.objs.size≠P:=λz=>by rw[z,hP]at frf;cases frf
  have J2:Inv X pins σ (upd (upd H P (.tbl (ps ++ #[rawInt pos.line,rawInt pos.col,.ref c']))) c' (.ext (cdφ c' (X.env.qual++"<lambda>")))) {s with heap:=h'.push (kla_obj "<lambda>" (X.env.qual++"<lambda>") params body scope cl ((X.mg "__name__").getD .none) c' ctv),toks:=tk}:=by
   refine⟨J.ok,J.os,J.bare,⟨λb o e n hb hx=>J.base.keep b o e n hb hx,λb o e n hb hx=>J.base.slot b o e n hb hx,λb o e n hx=>?_,J.base.there,λb xs e=>?_,λb o u e=>?_,λb qs e=>?_⟩,J.loc,J.cell,?_,λx c e=>?_,λp hp=>?_,λb u e=>?_,J.len⟩
   ·have h1:=J.base.free b o e n hx;have:b≠c':=ne_of_lt (lt_of_lt_of_le (lt_of_lt_of_le (lt_size e) I.sz) hge);rw[ai this];exact h1
   ·have h1:=J.base.tups b xs e;rw[ai (aT h1 fr')];exact h1
   ·have h1:=J.base.frzs b o u e;rw[ai (aT h1 fr')];exact h1
   ·obtain⟨m,h1⟩:=J.base.tbls b qs e;exact⟨m,by rw[ai (aT h1 fr')];exact h1⟩
   ·rw[ai (ne_of_lt (lt_of_lt_of_le I.lt hge))];exact J.free
   ·have h1:=J.freeC x c e;obtain⟨v,o,ho,_⟩:=I.cell x c e;rw[ai (ne_of_lt (lt_of_lt_of_le (lt_size ho) hge))];exact h1
   ·obtain⟨g1,g2,g3,g4,g5⟩:=J.pin p hp;obtain⟨i1,_⟩:=I.pin p hp;exact⟨g1,by rw[ai (ne_of_lt (lt_of_lt_of_le (lt_size i1) hge))];exact g2,g3,g4,g5⟩
   ·by_cases hb:b=c'
    ·subst hb;rw[ac]at e;cases e;exact⟨hrec',sY hrec',mD⟩
    ·rw[ai hb]at e;exact(J.hok b u e).stay (λ_ _ _ q=>q) (λc q=>by rw[ai (aT q fr')];exact q) λc xs q=>by rw[ai (aT q fr')];exact q
  refine h h'.objs.size c' _ ctv _ _ Hq ⟨_,by rw[ai (symm ncP)];exact ac,?_,λpos' cv e=>?_⟩ ac J2 (get?_push_size _ rfl) sz ?_ λb v ⟨o,ho,hd⟩ n=>⟨o,get?_push_of_some _ (hx b o (cellP b v ⟨o,ho,hd⟩ n) ho),hd⟩
  ·rw[Array.toList_append];exact ie ht
  ·rw[Array.toList_append]at e;rcases jV ht e with e|e
   ·obtain⟨c,e1,e2⟩:=hq pos' cv e;refine⟨c,e1,Hq c _ (λz=>?_) e2⟩;rw[z,hP]at e2;cases e2
   ·exact⟨c',e,ac⟩
  ·rw[ai nfc,ai nfP];exact frf
 |some cv =>
  obtain⟨c,rfl,hcx⟩:=hq pos cv ha;refine PySem.W.kla_makeFunctionHit (mg:=X.mg) hcl I.ok.glob hg hc C hPs ht ha hb λctv h' tk hk hsz=>?_;have J:=I.kept (t':=tk) (h':=h'.push (kla_obj "<lambda>" (X.env.qual++"<lambda>") params body scope cl ((X.mg "__name__").getD .none) c ctv)) λb o e=>get?_push_of_some _ (hk b o e);exact h h'.objs.size c _ ctv H _ (cI.refl _ _) ⟨ps,hP,ht,hq⟩ hcx J (get?_push_size _ rfl) hsz (I.hok.fresh hsz) λb v ⟨o,ho,hd⟩ _=>⟨o,get?_push_of_some _ (hk b o ho),hd⟩
end
def bB(X:Cx)(H:Hp)(s:Shared):Heap:=hideAll s.heap (trk s.heap H++frs X.stack)
section
variable{X:Cx}{pins:List (Addr×Obj)}{σ:St}{H:Hp}{s:Shared}
theorem nX{b:Addr}{o:Obj}(e:s.heap.get? b=some o)(n:H b=none)(nf:b∉frs X.stack):(bB X H s).get? b=some o :=
 hideAll_get _ e λhm=>by
  rcases mem_append.mp hm with hm|hm
  ·have q:(H b).isSome=true:=(mem_filter.mp hm).2;rw[n]at q;simp at q
  ·exact nf hm
theorem sZ{b:Addr}{o:Obj}(e:(bB X H s).get? b=some o):s.heap.get? b=some o∧H b=none∧b∉frs X.stack:=by
 have e':s.heap.get? b=some o:=of_hideAll (trk s.heap H++frs X.stack) e;have hid:b∉trk s.heap H++frs X.stack:=λhm=>by
  have z:(bB X H s).get? b=none:=hideAll_none _ hm;rw[z]at e;cases e
 refine⟨e',?_,λhm=>hid (mem_append_right _ hm)⟩;cases q:H b with
 |none=>rfl
 |some x=>exact absurd (mem_append_left _ (mem_filter.mpr ⟨mem_range.mpr (lt_size e'),by simp[q]⟩)) hid
theorem dG{h base base':Heap}:∀{l:List Env},h.FunFrames base l→(∀b∈frs l,base'.get? b=none)→h.FunFrames base' l
 |[],_,_=>trivial
 |env::rest,⟨k,⟨L,o,hf,hb,ho,hd⟩,r⟩,hn=>by
  have e:frs (env::rest)=L::frs rest:=by unfold frs;rw[filterMap_cons,hf]
  rw[e]at hn;exact⟨k,⟨L,o,hf,hn L mem_cons_self,ho,hd⟩,dG r λb hb=>hn b (mem_cons_of_mem _ hb)⟩
theorem Inv.bsub(I:Inv X pins σ H s):∀b o,X.base.get? b=some o→(bB X H s).get? b=some o:=λb o e=>by
 obtain⟨h1,h2⟩:=I.bs b o e;refine nX h1 h2 λhm=>?_;have:=(I.stack.mem hm).1;rw[e]at this;cases this
theorem Inv.env0B(I:Inv X pins σ H s):Env0 X.prog X.w X.K X.mg (bB X H s) X.A X.stack s H:=by
 have kp:=I.bsub;obtain⟨mb,hb,hbb⟩:=I.ok.mod.blt;refine⟨I.ok.frames,⟨I.ok.mod.kin.keeps kp,I.ok.mod.glob.keeps kp,⟨mb,hb.keeps kp,hbb⟩,I.ok.mod.nolimit.keeps kp⟩,λb o e=>⟨(sZ e).1,(sZ e).2.1⟩,Nat.le_of_eq (hideAll_size _ _),dG I.stack λb hb=>?_,I.stkFree,I.hok,I.bare⟩;cases q:(bB X H s).get? b with
 |none=>rfl
 |some o=>exact absurd hb (sZ q).2.2
theorem vo{CX:CXT}{k:Nat}{f:Addr}{fd:FuncData}{ps:List Str}{sp:Sp}{E:XK}{Q:VK}{us:List Value}{vs:List V}(F:FnOk X.prog X.w X.K X.mg (bB X H s) CX k f fd ps sp)(hr:Room k X.A)(hb:cj X.K fd ps [])(hx:dw CX X E)(I:Inv X pins σ H s)(r:ax vs us)(h:sp vs H Q E):wpAny (model X.prog X.w) X.A (call (.ref f) us) (EP X pins σ Q) X.xe s:=by
 have hl:(us++([]:List Value)).length=ps.length:=by rw[append_nil,←r.length];exact F.len _ _ _ _ h
 have hb':=hb s us I.kIn hl;rw[append_nil]at hb';refine wpAny_call (codeAny_mono (F.run X.A X.stack s H ⟨us,[]⟩ us vs Q E hr I.env0B hb' r h) λr s' hq=>?_);cases r with
 |error e=>exact hx pins σ H s e s' I hq
 |ok fl =>
  cases fl with
  |ret u=>exact I.after hq
  |next=>exact False.elim hq
  |brk=>exact False.elim hq
  |cont=>exact False.elim hq
def xz(js:List Nat)(σ:St)(fv:List V):Prop:=js.map (λj=>(σ[j]?).getD none)=fv.map some
def yP(P:Addr)(qual:Str)(js:List Nat)(spG:Addr→Addr→List V→Sp):TE:=λσ H Q=>eR H P qual∧∃fv,xz js σ fv∧∀f c H',cI P H H'→eR H' P qual→H' c=some (.ext (cdφ c qual))→H' f=none→spG f c fv [.ref f] H' Q E0
structure CapOk(X:Cx)(scope:Scope)(cl:List (Str×Addr))(fs:List Str)(js:List Nat):Prop where
 len:fs.length=js.length
 cells:∀x c,cl.lookup x=some c→X.env.cells.lookup x=some c
 at':∀(i j:Nat) x,js[i]?=some j→fs[i]?=some x→X.N[j]?=some x∧X.env.scope.names.lookup x=some .cell∧scope.names.lookup x=some .free∧∃c,cl.lookup x=some c
 fn:∀x,X.fn x=true
theorem Inv.cellF(I:Inv X pins σ H s)(hfn:∀x,X.fn x=true){x:Str}{c:Addr}(h:X.env.cells.lookup x=some c):c∉frs X.stack:=λhm=>by
 rcases mem_cons.mp (I.stkSub c hm)with z|z
 ·exact I.cne x c h z
 ·obtain⟨_,o,ho,_⟩:=I.ok.funs.mem z;have:=lt_of_lt_of_le (lt_size ho) (I.ok.cab x c (hfn x) h);exact absurd this (lt_irrefl _)
theorem Inv.capt{scope:Scope}{cl:List (Str×Addr)}{fs:List Str}{js:List Nat}{fv:List V}(I:Inv X pins σ H s)(O:CapOk X scope cl fs js)(hv:xz js σ fv):Capt (bB X H s) scope cl fs fv:=by
 have cellB:∀x c v,X.env.cells.lookup x=some c→s.heap.IsCell c v→(bB X H s).IsCell c v:=λx c v e ⟨o,ho,hd⟩=>⟨o,nX ho (I.freeC x c e) (I.cellF O.fn e),hd⟩;refine⟨λx c e=>?_,?_,λi x v h1 h2=>?_⟩
 ·obtain⟨v,hv⟩:=I.cell x c (O.cells x c e);exact⟨v,cellB x c v (O.cells x c e) hv⟩
 ·rw[O.len];have:=congrArg length hv;rw[length_map,length_map]at this;exact this
 ·have hi:i<js.length:=by rw[←O.len];exact(List.getElem?_eq_some_iff.mp h1).1
  obtain⟨a1,a2,a3,c,a4⟩:=O.at' i js[i] x (getElem?_eq_getElem hi) h1;have e:(js.map (λj=>(σ[j]?).getD none))[i]?=some (some v):=by
   rw[show js.map (λj=>(σ[j]?).getD none)=fv.map some from hv,getElem?_map,h2];rfl
  rw[getElem?_map,getElem?_eq_getElem hi]at e;have e':(σ[js[i]]?).getD none=some v:=Option.some.inj e;have e4:σ[js[i]]?=some (some v):=by
   cases q:σ[js[i]]? with
   |none=>rw[q]at e';cases e'
   |some y=>rw[q]at e';exact congrArg some e'
  obtain⟨m,_,hl⟩:=I.loc;obtain⟨u,r,lk⟩:=hl js[i] x v a1 e4 (.inr (.inl a2));rcases lk with⟨q,_⟩|⟨_,c',e5,e6⟩
  ·rw[show X.env.kindOf x=X.env.scope.names.lookup x from rfl,a2]at q;cases q
  ·have:c=c':=Option.some.inj ((O.cells x c a4).symm.trans e5);subst this;exact⟨a3,c,u,a4,cellB x c _ e5 e6,r⟩
theorem nY{g P c0:Addr}{fdg:FuncData}{xg x:Str}{k:Nat}{p lpos pos:Pos}{params:Arguments}{body:Expr}{scope:Scope}{cl:List (Str×Addr)}{fs:List Str}{js:List Nat}{qual:Str}{spG:Addr→Addr→List V→Sp}(C0:CodeHd X.base c0 P)(hc:X.env.code=.ref c0)(Bm:BmB X.base X.mg)(hq:X.env.qual++"<lambda>"=qual)(hdef:defaultsOf params X.env=([],[]))(hcl:closureFor scope X.env=pure cl)(O:CapOk X scope cl fs js)(hG:∀(base':Heap) (f c:Addr) (pm ctv:Value) (fv:List V),(∀b o,X.base.get? b=some o→base'.get? b=some o)→base'.get? f=some (kla_obj "<lambda>" qual params body scope cl pm c ctv)→Capt base' scope cl fs fv→FnOk X.prog X.w X.K X.mg base' CX0 k g fdg [xg] (spG f c fv))(hr:Room k X.A)(hg:Gl X x)(hm:X.mg x=some (.ref g))(hk:keepIn X.K (.ref g)=true)(hb:cj X.K fdg [xg] [])(hdb:(x==("__debug__":Str))=false:=by decide)(he:starEach [.Lambda params body scope lpos] X.env=(false,eval (.Lambda params body scope lpos) X.env)::starEach [] X.env:=by rfl):
  PE X (.Call (.Name x p) [.Lambda params body scope lpos] [] pos) (yP P qual js spG):=by
 intro pins s σ H Q I h;obtain⟨T,fv,hv,q⟩:=h;subst hq;refine wpAny_Call_Name_kw (fX I hg hm ?_ hdb);refine callWith_K (h₀:=X.base) I.ok.mod.kin hk ?_ he rfl;rw[he];show wpAny _ _ (spliced ((false,eval (.Lambda params body scope lpos) X.env)::backTo pos (starEach [] X.env))) _ _ s;refine spliced_cons (vn I C0 hc Bm T hdef hcl λf c pm ctv H' s' off tq hc' J ho hsz hf hcell=>?_);refine spliced_nil ⟨J.kIn,?_⟩;have nf:f∉frs X.stack:=λhm=>by
  rcases mem_cons.mp (I.stkSub f hm)with z|z
  ·have:=I.lt;rw[←z]at this;exact absurd this (Nat.not_lt.mpr hsz)
  ·exact I.nofs hsz z
 have C:=J.capt O hv;exact vo (hG _ f c pm ctv fv J.bsub (nX ho hf nf) C) hr hb ap J (vs:=[.ref f]) (.cons (show aJ (.ref f) (.ref f)from rfl) .nil) (q f c H' off tq hc' hf)
def xA(te:TE)(f:Addr)(sp:Sp)(E:XK):TE:=λσ H Q=>te σ H λv H1=>v=.ref f∧sp [] H1 Q E
theorem qO{f:Addr}{fd:FuncData}{oc:Value}{od:Option Addr}{osl:Array (Option Value)}{k:Nat}{sp:Sp}{CX:CXT}{E:XK}{x:Str}{p pos:Pos}{te:TE}(hv:PE X (.Name x p) te)(ho:X.base.get? f=some ⟨oc,od,.func fd,osl⟩)(F:FnOk X.prog X.w X.K X.mg X.base CX k f fd [] sp)(hr:Room k X.A)(hb:cj X.K fd [] [])(hx:dw CX X E):
  PE X (.Call (.Name x p) [] [] pos) (xA te f sp E):=by
 intro pins s σ H Q I h;refine wpAny_Call_Name_kw (thn (hv pins s σ H _ I h) λu s1 hpt=>?_);obtain⟨v,H1,I1,r,e,q⟩:=hpt;subst e;obtain rfl:u=Value.ref f:=r;refine PySem.W.callWith_of (P:=λh=>h.get? f=some ⟨oc,od,.func fd,osl⟩) rfl (λh e=>⟨.frame,.inl rfl,(PySem.W.Looks.ld (part:=none) e).andThen .now⟩) (evalArgs_nil3 ⟨I1.bk _ _ ho,?_⟩);exact rF (us:=[]) (dvs:=[]) F hr hb .nil hx I1 .nil q
end
section
variable{CX:CXT}{P:Program}{w:World}{K:PySem.W.Frag}{mg:Str→Option Value}{base:Heap}{k:Nat}{f c:Addr}{name qual:Str}{params:Arguments}{body:Expr}{scope:Scope}{cl:List (Str×Addr)}{pm ctv:Value}{ps fs:List Str}{fv:List V}{sp:Sp}
theorem vp(ho:base.get? f=some (kla_obj name qual params body scope cl pm c ctv))(hcd:∀vs H Q E,sp vs H Q E→H c=some (.ext (cdφ c qual)))(S:LaScope ps scope cl)(C:Capt base scope cl fs fv)(len:∀vs H Q E,sp vs H Q E→vs.length=ps.length)(hbody:∀(A:Around) (outer:List Env) (s:Shared) (H:Hp) (vs:List V) (Q:VK) (E:XK),Room k (A.deeper (envX qual scope s.heap.objs.size f (.ref c) cl))→sp vs H Q E →
   ∃t,PE (sW CX P w K mg base (ps++fs) qual scope f (.ref c) cl A outer s H E) body t∧t (vs.map some++fv.map some) H Q):
  FnOk P w K mg base CX (k+1) f (PySem.W.kla_fn name qual params body scope cl pm (.ref c) ctv) ps sp:=by
 refine⟨len,λA outer s H args us vs Q E hr e0 hb r hsp=>?_⟩;have hl:=len _ _ _ _ hsp;have kp:∀b o,base.get? b=some o→s.heap.get? b=some o:=λb o e=>(e0.bs b o e).1;have lim:s.heap.NoLimit:=e0.mod.nolimit.keeps kp;have hcd':s.heap.CodeRec (.ref c) qual:=(e0.hok c _ (hcd _ _ _ _ hsp)).1;refine PySem.W.kla_callFunE hr.depth (kp _ _ ho) rfl S.co S.gen rfl hcd' (hb _ _ _ _ ?_);refine wpAny_newFunctionEnv S.nocell (λx hx=>S.par _ (of_mem_zip hx).1) (λh₁ hns hsb=>?_) S.kind;have hk₁:∀b o,s.heap.get? b=some o→h₁.get? b=some o:=λb o e=>hsb.extBut b o (ne_of_lt (lt_size e)) (get?_push_of_some _ e);refine⟨lim.keeps hk₁,PySem.W.kla_codeExpr ?_⟩;obtain⟨t,ht,hq⟩:=hbody A outer s H vs Q E (hr.deeper _) hsp;have I:=sX (CX:=CX) (P:=P) (w:=w) (K:=K) (mg:=mg) (qual:=qual) (f:=f) (c:=c) (E:=E) (tk:=s.toks+(ps.zip us).length) S C hr.hd e0 hl r hns hk₁;exact wpAny_mono (ht [] _ _ H _ I hq) (λu s' ⟨v,H',J,rv,q⟩=>⟨v,H',J.os,J.bare,J.base,J.hok,rv,q⟩) λe s' h=>h
end
section
variable{P:Program}{w:World}{H:Hp}{fs:List Addr}{s s1:Shared}
variable{K:PySem.W.Frag}{mg:Str→Option Value}{base:Heap}{A:Around}{outer:List Env}{k:Nat}{f:Addr}{fd:FuncData}{y:Str}{spK:Sp}{key:V→Str}
end
section
variable{X:Cx}
end
section
variable{P:Program}{w:World}{H:Hp}{s s1:Shared}{K:PySem.W.Frag}{mg:Str→Option Value}{base:Heap}{A:Around}{outer:List Env}{k:Nat}{f:Addr}{fd:FuncData}{y:Str}{spK:Sp}{key:V→Int}
end
section
variable{X:Cx}{pins:List (Addr×Obj)}{σ:St}{H:Hp}{s:Shared}
theorem dc{H:Hp}{xs:List V}(h:xs.all cm=true):bX H xs xs:=⟨rfl,λi x y hx hy=>by
 rw[hx]at hy;cases hy;exact dS ⟨rfl,all_eq_true.mp h x (mem_of_getElem? hx)⟩⟩
structure Cv where
 a:Addr
 t:Addr
 p:List Str
 v:V
def iq(H:Hp)(z:Cv):Prop:=H z.a=some (.tup [.ref z.t,z.v])∧H z.t=some (.tup (z.p.map V.str))
theorem cN(hu:X.A.units+8<cLine):bM X (.builtin "sorted") (λxs H Q=>∃l,∃zs:List Cv,xs=[.ref l]∧H l=some (.lst (zs.map λz=>V.ref z.a))∧(∀z∈zs,iq H z)∧(∀z∈zs,cm z.v=true∧eqV z.v z.v=true)∧(zs.map (·.p)).Nodup∧zs.length<64 ∧
  ∀zs':List Cv,zs'.Perm zs→zs'.Pairwise (λa b=>HT.bZ a.p b.p=true)→∀p,H p=none→Q (.ref p) (upd H p (.lst (zs'.map λz=>V.ref z.a)))):=by
 intro pins s σ H xs us Q I r h;obtain⟨l,zs,rfl,hl,hk,hfv,hnd,h64,q⟩:=h;obtain⟨u,rfl,ru⟩:=ci r;cases ru;obtain⟨_,its,n,rv,ho⟩:=I.hok l _ hl
 let d:Cv:=⟨0,0,[],.non⟩
 have hlen:its.length=zs.length:=by rw[←rv.length,length_map]
 have gi:∀i,i<zs.length→its.getD i Value.none=.ref (zs.getD i d).a:=λi hi=>by
  obtain⟨v,hv,r⟩:=rv.get (i:=i) (x:=.ref (zs.getD i d).a) (by rw[getElem?_map,(bg (d:=d) hi).2];rfl);cases r;rw[getD_eq_getElem?_getD,hv];rfl
 have eits:its=zs.map λz=>Value.ref z.a:=by
  have key:∀(l:List Cv)(us:List Value),ax (l.map λz=>V.ref z.a) us→us=l.map λz=>Value.ref z.a:=by
   intro l
   induction l with
   |nil=>intro us r;cases r;rfl
   |cons z l ih =>
    intro us r;cases r with
    |cons r1 r2 =>
     rw[ih _ r2];cases r1;rfl
  exact key zs its rv
 have hobj:∀z∈zs,∃v',aJ z.v v'∧IsTup s.heap z.a #[.ref z.t,v']:=λz hz=>by
  obtain⟨u,v,r1,r2,ht⟩:=nI I (hk z hz).1;cases r1;exact⟨v,r2,ht⟩
 have htup:∀z∈zs,∃ws:List Value,StrsAre ws z.p∧IsTup s.heap z.t ws.toArray:=λz hz=>by
  obtain⟨_,ws,r1,ht⟩:=I.hok z.t _ (hk z hz).2;exact⟨ws,kM r1,ht⟩
 have kept:∀{s':Shared}{a:Addr}{xs:Array Value},(∀b o,s.heap.get? b=some o→s'.heap.get? b=some o)→IsTup s.heap a xs→IsTup s'.heap a xs:=λk ⟨o,e,r⟩=>⟨o,k _ o e,r⟩;refine eM (val:=λz:Cv=>V.ref z.a) (d:=d) (f:=λa b=>HT.bZ a.p b.p) (κ:=tuples' false) I rv ⟨λi _=>HT.cz _,λi j k _ _ _ h1 h2=>HT.gw h1 h2,λi j hi hj hij=>HT.jc ?_⟩ ⟨_,ho,rfl,n,rfl⟩ h64 (λA' s' _ kp Q' h2 hQ=>?_) (λA' s' hA kp i j C hi hj hC=>?_) q
 ·intro e;have e':(zs.map (·.p))[i]'(by simpa using hi)=(zs.map (·.p))[j]'(by simpa using hj):=by
   have h1:=(bg (d:=d) hi).2;have h2:=(bg (d:=d) hj).2;rw[getElem_map,getElem_map,(List.getElem?_eq_some_iff.mp h1).2,(List.getElem?_eq_some_iff.mp h2).2];exact e
  exact hij ((getElem_inj hnd).mp e')
 ·have key:∀ys:List Cv,(∀z∈ys,z∈zs)→KatTups s'.heap (ys.map λz=>Value.ref z.a) (ys.map λz=>Value.ref z.t):=by
   intro ys
   induction ys with
   |nil=>intro _;exact KatTups.nil
   |cons z ys ih =>
    intro hm;obtain⟨t',_,o,e1,e2,n',e3⟩:=hobj z (hm z (by simp));exact KatTups.cons (kp _ _ e1) e2 e3 rfl (ih λy hy=>hm y (by simp[hy]))
  rw[eits];refine kat_kind (T:=.type "tuple") (key zs λz hz=>hz) (by rw[length_map];omega) (λv hv=>?_) (by rfl) hQ;obtain⟨z,hz,rfl⟩:=mem_map.mp hv;obtain⟨ws,_,o,e1,e2,_⟩:=htup z hz;exact e2 ▸ (PySem.W.Looks.ld (kp _ _ e1)).andThen .now
 ·rw[gi i hi,gi j hj];have mi:=(bg (d:=d) hi).1;have mj:=(bg (d:=d) hj).1;generalize zs.getD i d=zi at mi hC⊢;generalize zs.getD j d=zj at mj hC⊢;obtain⟨ti,ri,oi,a1,a2,ni,a3⟩:=hobj zi mi;obtain⟨tj,rj,oj,b1,b2,nj,b3⟩:=hobj zj mj;refine kat_lt (kp _ _ a1) a3 (kp _ _ b1) b3 ?_;obtain⟨wi,si,pi⟩:=htup zi mi;obtain⟨wj,sj,pj⟩:=htup zj mj;have hu1:A'.units<cLine:=by omega
  have ki:IsTupleKey (aE X.prog X.w) s'.heap (zi.p.map Sum.inr) zi.t:=by
   obtain⟨o,its',n',ho',r⟩:=nC (ks:=zi.p.map Sum.inr) I (by rw[map_map];exact(hk zi mi).2) X.prog X.w;exact⟨o,its',n',kp _ _ ho',r⟩
  have kj:IsTupleKey (aE X.prog X.w) s'.heap (zj.p.map Sum.inr) zj.t:=by
   obtain⟨o,its',n',ho',r⟩:=nC (ks:=zj.p.map Sum.inr) I (by rw[map_map];exact(hk zj mj).2) X.prog X.w;exact⟨o,its',n',kp _ _ ho',r⟩
  refine kat_cons (wpAny_eqBool_tuple (knd:=aE X.prog X.w) hu1 ki kj ?_)
  by_cases e:zi.p=zj.p
  ·rw[e,decide_eq_true rfl];have hC':C false s':=by rw[e,HT.cz]at hC;exact hC
   have en:zi=zj:=by
    obtain⟨x,hx,ex⟩:=mem_iff_getElem.mp mi;obtain⟨y,hy,ey⟩:=mem_iff_getElem.mp mj;have e':(zs.map (·.p))[x]'(by simpa using hx)=(zs.map (·.p))[y]'(by simpa using hy):=by rw[getElem_map,getElem_map,ex,ey];exact e
    have:=(getElem_inj hnd).mp e';subst this;rw[←ex,←ey]
   subst en;have ee:=(hfv zi mi).2;refine kat_yes (kat_cons (kn ri rj (hfv zi mi).1 (hfv zi mi).1 X.prog X.w _ _ ?_));rw[ee];exact kat_yes (kat_nil (by simpa using hC'))
  ·have hne:¬(zi.p.map Sum.inr:List Key)=zj.p.map Sum.inr:=λz=>e (by
    have:=congrArg (List.map λk:Key=>match k with | .inr x=>x | .inl _=>empty) z;simpa [map_map,Function.comp_def]using this)
   rw[decide_eq_false hne];refine kat_no (kat_one _ _ ?_);exact HT.jd (kept kp pi) (kept kp pj) (by simpa using si) (by simpa using sj) hu1 hC
theorem jA(hc:X.calm=true):bM X (.builtin "sum") (λxs H Q=>∃l,∃ns:List Int,xs=[.ref l]∧H l=some (.lst (ns.map V.int))∧Q (.int ns.sum) H):=by
 intro pins s σ H xs us Q I r h;obtain⟨l,ns,rfl,hl,q⟩:=h;obtain⟨u,rfl,ru⟩:=ci r;cases ru;obtain⟨_,its,n,rv,ho⟩:=I.hok l _ hl;have hi:=oZ rv;obtain⟨xs,hx⟩:=hi.allInts.items;have hl':s.heap.IsList l (intItems xs):=hx ▸ ⟨_,ho,rfl,n,rfl⟩;refine sum_intListG (I.ok.hd hc) hl' λh' tk t' hk=>?_;have e1:ns=xs.toList.map (·.1):=by
  rw[←nums_intItems,←hx];exact(show numsOf its.toArray.toList=ns from hi.numsOf).symm
 have e2:preSum (PySem.numAt xs) xs.size=ns.sum:=by
  rw[preSum_eq,take_of_length_le (by simp),e1]
 rw[e2];exact⟨.int ns.sum,H,I.kept (t':=tk) hk,⟨t',rfl⟩,q⟩
end
end L2
namespace TW
section
variable{S:Type}[DecidableEq S]
end
section
variable{S:Type}{ns:List (Nd S)}
theorem tf(T:Tree1 ns){g k:Int}(h:Und ns g k):∀{p:List S},PathTo ns k p→∃q r,PathTo ns g q∧p=q++r:=by
 induction h with
 |here=>intro p hp;exact⟨p,[],hp,(append_nil _).symm⟩
 |@up n hn _ ih =>
  intro p hp;obtain⟨q,e,hq⟩:=hp.inv T hn rfl;obtain⟨q',r,h1,h2⟩:=ih hq;exact⟨q',r++[n.nm],h1,by rw[e,h2,append_assoc]⟩
variable[DecidableEq S]
end
end TW
namespace TK
open PySem L2
section
variable{P:Program}{w:World}{K:PySem.W.Frag}{mg:Str→Option Value}{base:Heap}
def mE:Sp:=λvs H Q _=>∃d k zs p,vs=[.ref d,.int k]∧ji H d zs∧At H zs∧TW.Tree1 (nds zs)∧zs.length≤100∧TW.PathTo (nds zs) k p∧∀t H',Same H H'→H' t=some (.tup (p.map V.str))→Q (.ref t) H'
theorem pD:FnScope ["nodes","number","names","at"] ["nodes","number"] (ag xp):=fsc
theorem xB{f:Addr}{fd:FuncData}(F:Fun K "path_up" "path_up" xp f fd)(T:Txt mg):FnOk P w K mg base CX0 1 f fd ["nodes","number"] mE:=by
 obtain⟨tt,hT⟩:=T.top;refine F.ok pD (λvs H Q E h=>?_) (λcdv A outer s H vs Q E hr h=>?_)
 ·obtain⟨d,k,zs,p,rfl,_⟩:=h;rfl
 ·obtain⟨d,k,zs,p,rfl,hd,hA,hTr,hl,hp,q⟩:=h;have hnd:=bJ hTr;have hpl:p.length≤100:=by have:=hp.len hTr;rw[aq]at this;omega
  refine⟨_,ah (au (i:=2) pD.nd rfl (Or.inl rfl) (bj ae)) (ah (au (i:=3) pD.nd rfl (Or.inl rfl) (pv 1))
   (ah (fZ PassesOwn.never (av eD (pv 3) (aU (v:=.int 0) rfl hT ⟨_,rfl⟩) (aB _))
    (ah (cp (ff plainAttrs_list PySem.F.slot_list_append PySem.F.type_list_append bx (pv 2) (aa (aH ay (bY (cu hr) (pv 0) (pv 3) (λ_ _=>rfl)) aj (λ_ _=>rfl)) ae)))
    (al (au (i:=3) pD.nd rfl (Or.inl rfl) (aH ay (bY (cu hr) (pv 0) (pv 3) (λ_ _=>rfl)) aj (λ_ _=>rfl))))))
   (al (ar (qC rfl rfl T.tuple rfl T.reversed (pv 2)))))),?_⟩
  refine⟨zero_le _,λpn hpn=>⟨_,rfl,?_⟩⟩;dsimp only[aO,uq];refine gc (λσ H'=>∃at' q' r,σ=[some (.ref d),some (.int k),some (.ref pn),some (.int at')]∧TW.PathTo (nds zs) at' q'∧p=q'++r∧H' pn=some (.lst (r.reverse.map V.str))∧Same H H')
   (λσ H'=>p.length-gC H' pn) ⟨k,p,[],rfl,hp,by simp,ac,af hpn⟩ (λσ H' h=>?_) ?_
  ·obtain⟨at',q',r,rfl,hq',ep,en,s1⟩:=h;refine⟨_,rfl,rfl,_,rfl,?_⟩
   by_cases h0:at'=0
   ·subst h0;have e0:q'=[]:=hq'.zero hTr rfl;subst e0;refine be ⟨_,rfl,pn,_,rfl,en,λt ht=>q t _ (s1.trans (af ht)) ?_⟩;rw[ac,ep,nil_append,←List.map_reverse,List.reverse_reverse]
   ·have hne:decide (V.int at'=V.int 0)=false:=by simp[h0]
    rw[hne];refine cC ?_;obtain⟨z,hz,e1,q'',e2,hq''⟩:=kZ hTr hq' h0;subst e1;have hdz:=(hd.same s1).get hnd hz;have hat:=s1 _ _ (hA z hz);have hrl:r.length<100:=by
     have:=congrArg length ep;rw[e2]at this;simp at this;omega
    refine⟨_,rfl,.inl ⟨rfl,_,SqL.of en⟩,_,rfl,_,rfl,d,_,rfl,hdz,z.1,_,_,_,rfl,rfl,SqT.of hat,at2 z.2,pn,_,_,rfl,rfl,en,aF (by rw[length_map,List.length_reverse];omega),?_⟩;have hpnd:pn≠d:=λe=>by
     obtain⟨o,e'⟩:=hd.same s1;rw[←e,en]at e';cases e'
    have hpnz:z.1≠pn:=λe=>by rw[e,en]at hat;cases hat
    have s2:Same H (upd H' pn (.lst (r.reverse.map V.str++[.str z.2.nm]))):=aG hpn s1;refine⟨_,rfl,_,rfl,d,_,rfl,(hd.same s2).get hnd hz,z.1,_,_,_,rfl,rfl,SqT.of (s2 _ _ (hA z hz)),at1 z.2,?_⟩;refine⟨⟨z.2.par,q'',z.2.nm::r,rfl,hq'',by rw[ep,e2];simp,by rw[ac];simp,s2⟩,?_⟩;show p.length-gC _ pn<p.length-gC H' pn;rw[dF ac,dF en,ep,e2];simp;omega
  ·rintro σ H1 Q1 Q2 m ⟨v,e,h2,b,e3,q⟩;exact⟨v,e,h2,b,e3,m _ _ q⟩
def xC:Sp:=λvs H Q _=>∃d k as zs p,vs=[.ref d,.int k]∧Book H d as zs∧TW.Tree1 (nds zs)∧zs.length≤30∧TW.PathTo (nds zs) k p∧∀t H',Same H H'→H' t=some (.tup (p.map V.str))→Q (.ref t) H'
theorem vq:FnScope ["_law_book_here","_law_number","_law_names"] ["_law_book_here","_law_number"] (ag nR):=fsc
theorem yQ{f:Addr}{fd:FuncData}(F:Fun K "_law_path" "_law_path" nR f fd)(T:Txt mg):FnOk P w K mg base CX0 1 f fd ["_law_book_here","_law_number"] xC:=by
 refine F.ok vq (λvs H Q E h=>?_) (λcdv A outer s H vs Q E hr h=>?_)
 ·obtain⟨d,k,as,zs,p,rfl,_⟩:=h;rfl
 ·obtain⟨d,k,as,zs,p,rfl,bk,hTr,hl,hp,q⟩:=h;have hnd:=bJ hTr;refine⟨_,ah (au (i:=2) vq.nd rfl (Or.inl rfl) (bj ae))
   (ah (fZ PassesOwn.never (av eD (pv 1) aj (aB _))
    (ah (au (i:=2) vq.nd rfl (Or.inl rfl) (aM eG (bj (aa (aH ay (bY (cu hr) (pv 0) (pv 1) (λ_ _=>rfl)) aj (λ_ _=>rfl)) ae)) (pv 2)))
    (al (au (i:=1) vq.nd rfl (Or.inl rfl) (aH ay (bY (cu hr) (pv 0) (pv 1) (λ_ _=>rfl)) aj (λ_ _=>rfl))))))
   (al (ar (aS bw rfl T.tuple rfl (aa (pv 2) ae))))),?_⟩
  refine⟨zero_le _,λpn hpn=>?_⟩;dsimp only[aO,uq];refine gc (λσ H'=>∃at' q' r pn,σ=[some (.ref d),some (.int at'),some (.ref pn)]∧TW.PathTo (nds zs) at' q'∧p=q'++r∧H' pn=some (.lst (r.map V.str))∧Same H H')
   (λσ H'=>match σ with | [_,some (.int k),_]=>mr (nds zs) k | _=>0) ⟨k,p,[],pn,rfl,hp,by simp,ac,af hpn⟩ (λσ H' h=>?_) ?_
  ·obtain⟨at',q',r,pn,rfl,hq',ep,en,s1⟩:=h;refine⟨_,rfl,rfl,_,rfl,?_⟩
   by_cases h0:at'=0
   ·subst h0;have e0:q'=[]:=hq'.zero hTr rfl;subst e0;refine be ⟨_,rfl,pn,_,rfl,.inl ⟨SqL.of en,λt ht=>q t _ (s1.trans (af ht)) ?_⟩⟩;rw[ac,ep,nil_append]
   ·have hne:decide (V.int at'=V.int 0)=false:=by simp[h0]
    rw[hne];refine cC ?_;obtain⟨z,hz,e1,q'',e2,hq''⟩:=kZ hTr hq' h0;subst e1;obtain⟨b,hb1,hb2⟩:=(bk.same s1).get hnd hz;have hrl:r.length≤100:=by
     have h1:=hp.len hTr;have h2:=congrArg length ep;rw[aq]at h1;rw[length_append]at h2;omega
    refine⟨_,rfl,_,rfl,d,_,rfl,hb1,b,_,_,_,rfl,rfl,SqT.of hb2,zL z.2,aA (show 1≤1000 by decide),λl1 hl1=>?_⟩;have s2:=af (o:=.lst [.str z.2.nm]) hl1;refine⟨_,rfl,l1,pn,_,_,rfl,rfl,ac,s2 _ _ en,aA (by simp;omega),λl2 hl2=>?_⟩;have s3:=s2.trans (af (o:=.lst ([.str z.2.nm]++r.map V.str)) hl2);obtain⟨b',hb1',hb2'⟩:=(bk.same (s1.trans s3)).get hnd hz;refine⟨_,rfl,_,rfl,d,_,rfl,hb1',b',_,_,_,rfl,rfl,SqT.of hb2',yL z.2,?_⟩;refine⟨⟨z.2.par,q'',z.2.nm::r,l2,rfl,hq'',by rw[ep,e2];simp,ac,s1.trans s3⟩,?_⟩;show mr (nds zs) z.2.par<mr (nds zs) z.2.num;rw[iB hTr hq'',iB hTr hq',e2];simp
  ·rintro σ H1 Q1 Q2 m ⟨v,e,h2,b,e3,q⟩;exact⟨v,e,h2,b,e3,m _ _ q⟩
end
theorem qP{α β:Type}{g:α→β}{l:List α}(h:(l.map g).Nodup){a b:α}(ha:a∈l)(hb:b∈l)(e:g a=g b):a=b:=by
 induction l with
 |nil=>cases ha
 |cons x r ih =>
  rw[map_cons,nodup_cons]at h;rcases mem_cons.mp ha with ea|ha'<;>rcases mem_cons.mp hb with eb|hb'
  ·rw[ea,eb]
  ·exact absurd (mem_map.mpr ⟨b,hb',by rw[←e,ea]⟩) h.1
  ·exact absurd (mem_map.mpr ⟨a,ha',by rw[e,eb]⟩) h.1
  ·exact ih h.2 ha' hb'
def wd(zs:ZN):List V:=zs.map λz=>V.int z.2.num
theorem fK{α:Type}{R:α→α→Prop}(irr:∀a,¬R a a)(asy:∀a b,R a b→¬R b a):∀{l m:List α},l.Pairwise R→m.Pairwise R→(∀x,x∈l↔x∈m)→l=m
 |[],[],_,_,_=>rfl
 |[],b::m,_,_,h=>absurd ((h b).mpr mem_cons_self) (by simp)
 |a::l,[],_,_,h=>absurd ((h a).mp mem_cons_self) (by simp)
 |a::l,b::m,hl,hm,h=>by
  obtain⟨l1,l2⟩:=pairwise_cons.mp hl;obtain⟨m1,m2⟩:=pairwise_cons.mp hm;have e:a=b:=by
   rcases mem_cons.mp ((h a).mp mem_cons_self)with e|h1
   ·exact e
   ·rcases mem_cons.mp ((h b).mpr mem_cons_self)with e|h2
    ·exact e.symm
    ·exact absurd (m1 a h1) (asy _ _ (l1 b h2))
  subst e;rw[fK irr asy l2 m2 λx=>⟨λhx=>?_,λhx=>?_⟩]
  ·rcases mem_cons.mp ((h x).mp (mem_cons_of_mem _ hx))with e|h1
   ·subst e;exact absurd (l1 x hx) (irr _)
   ·exact h1
  ·rcases mem_cons.mp ((h x).mpr (mem_cons_of_mem _ hx))with e|h1
   ·subst e;exact absurd (m1 x hx) (irr _)
   ·exact h1
theorem eZ{H H':Hp}{Pt:Addr}{qual:Str}(h:eR H Pt qual)(s:Same H H'):eR H' Pt qual:=by
 obtain⟨ps,h1,h2,h3⟩:=h;exact⟨ps,s _ _ h1,h2,λpos cv e=>let⟨c,e1,e2⟩:=h3 pos cv e;⟨c,e1,s _ _ e2⟩⟩
section
variable{P:Program}{w:World}{K:PySem.W.Frag}{mg:Str→Option Value}{base:Heap}{f:Addr}
def jW:Sp:=λvs H Q _=>∃d k zs,vs=[.ref d,.int k]∧ji H d zs∧At H zs∧((nds zs).map (·.num)).Nodup∧0≤k∧k≤60∧(k=0∨∃z∈zs,z.2.num=k∧z.2.st=none)∧Q .non H
theorem yR:FnScope ["nodes","number"] ["nodes","number"] (ag xo):=fsc
theorem xE{CN0:Addr}{fd:FuncData}(F:Fun K "check_folder" "check_folder" xo f fd)(T:Txt mg)(CN:gF P w K mg base 1 "node_of" ["nodes","number"] (mv CN0)):FnOk P w K mg base CX0 2 f fd ["nodes","number"] jW:=by
 obtain⟨fN,fdN,GN,mN,kN,bN⟩:=CN;obtain⟨tt,hT⟩:=T.top;refine F.ok yR (λvs H Q E h=>?_) (λcdv A outer s H vs Q E hr h=>?_)
 ·obtain⟨d,k,zs,rfl,_⟩:=h;rfl
 ·obtain⟨d,k,zs,rfl,hd,hA,hnd,k0,k1,hk,q⟩:=h;refine⟨_,al (bu (PW.pt (pw_and (av eD (pv 1) (aU (v:=.int 0) rfl hT ⟨_,rfl⟩) (aB _)) (pw_and1 (av oF (aH ay (ak GN hr rfl mN kN bN .nil jf (aa (pv 0) (aa (pv 1) ae))) aj (λ_ _=>rfl)) fw (aB _))))) pV aR),?_⟩
  by_cases h0:k=0
  ·subst h0;exact⟨_,rfl,rfl,_,rfl,be (be q)⟩
  ·obtain⟨z,hz,e,hs⟩:=hk.resolve_left h0;refine⟨_,rfl,rfl,_,rfl,?_⟩;rw[show(!decide (V.int k=V.int 0))=true by simp[h0]];refine cC ⟨_,rfl,_,rfl,d,k,zs,rfl,hd,hnd,k0,k1,λy hy ey=>?_,λhno=>absurd e (hno z hz)⟩;have:y=z:=qP (g:=λz:Addr×Nd=>z.2.num) (by unfold nds at hnd;rw[map_map]at hnd;exact hnd) hy hz (ey.trans e.symm);subst this;refine⟨y.1,_,_,_,rfl,rfl,SqT.of (hA y hy),at3 y.2,rfl,_,rfl,?_⟩;rw[hs];exact be q
def pE:Sp:=λvs H Q _=>∃d k g as zs p,vs=[.ref d,.int k,.int g]∧Book H d as zs∧TW.Tree1 (nds zs)∧TW.PathTo (nds zs) k p∧∀b,(b=true↔TW.Und (nds zs) g k)→Q (.bl b) H
theorem xF{f:Addr}{fd:FuncData}(F:Fun K "_law_under" "_law_under" nT f fd):FnOk P w K mg base CX0 1 f fd ["_law_book_here","_law_number","_law_goal"] pE:=by
 refine F.ok wc (λvs H Q E h=>?_) (λcdv A outer s H vs Q E hr h=>?_)
 ·obtain⟨d,k,g,as,zs,p,rfl,_⟩:=h;rfl
 ·obtain⟨d,k,g,as,zs,p,rfl,bk,hTr,hp,q⟩:=h;have hnd:=bJ hTr;refine⟨_,ah (fZ PassesOwn.never (PW.pt (pw_and (av eD (pv 1) aj (aB _)) (pw_and1 (av eD (pv 1) (pv 2) (aB _)))))
    (al (au (i:=1) wc.nd rfl (Or.inl rfl) (aH ay (bY (cu hr) (pv 0) (pv 1) (λ_ _=>rfl)) aj (λ_ _=>rfl)))))
   (al (ar (cQ jC (pv 1) (pv 2) (aB _)))),?_⟩
  refine gc (λσ H'=>∃at' q',σ=[some (.ref d),some (.int at'),some (.int g)]∧TW.PathTo (nds zs) at' q'∧(TW.Und (nds zs) g k↔TW.Und (nds zs) g at')∧H'=H)
   (λσ H'=>match σ with | [_,some (.int k),_]=>mr (nds zs) k | _=>0) ⟨k,p,rfl,hp,Iff.rfl,rfl⟩ (λσ H' h=>?_) ?_
  ·obtain⟨at',q',rfl,hq',hu,rfl⟩:=h;have last:∀b:Bool,(b=true↔TW.Und (nds zs) g at')→Q (.bl b) H':=λb hb=>q b (hb.trans hu.symm);refine⟨_,rfl,rfl,_,rfl,?_⟩
   by_cases h0:at'=0
   ·have hne:decide (V.int at'=V.int 0)=true:=by simp[h0]
    rw[hne];refine be (be ⟨_,rfl,_,rfl,rfl,last _ ?_⟩);rw[decide_eq_true_eq];constructor
    ·intro e;injection e with e;rw[←e];exact .here
    ·intro hx;have:=hx.zero hTr h0;rw[h0,this]
   ·have hne:decide (V.int at'=V.int 0)=false:=by simp[h0]
    rw[hne];refine cC ⟨_,rfl,_,rfl,rfl,_,rfl,?_⟩
    by_cases hg':at'=g
    ·have hne:decide (V.int at'=V.int g)=true:=by simp[hg']
     rw[hne];refine be ⟨_,rfl,_,rfl,rfl,last _ ?_⟩;rw[hne];constructor
     ·intro _;rw[hg'];exact .here
     ·intro _;rfl
    ·have hne:decide (V.int at'=V.int g)=false:=by simp[hg']
     rw[hne];refine cC ?_;obtain⟨z,hz,e1,q'',e2,hq''⟩:=kZ hTr hq' h0;subst e1;obtain⟨b,hb1,hb2⟩:=bk.get hnd hz;refine⟨_,rfl,_,rfl,d,_,rfl,hb1,b,_,_,_,rfl,rfl,SqT.of hb2,yL z.2,?_⟩;have mz:z.2∈nds zs:=mem_map.mpr ⟨z,hz,rfl⟩;refine⟨⟨z.2.par,q'',rfl,hq'',hu.trans ⟨λh=>h.inv hTr mz rfl hg',λh=>.up mz h⟩,rfl⟩,?_⟩;show mr (nds zs) z.2.par<mr (nds zs) z.2.num;rw[iB hTr hq'',iB hTr hq',e2];simp
  ·rintro σ H1 Q1 Q2 m ⟨v,e,h2,b,e3,q⟩;refine⟨v,e,h2,b,e3,?_⟩;cases b with
   |false=>exact m _ _ q
   |true =>
    obtain⟨v1,f1,v2,f2,h3,b',e4,q'⟩:=q;exact⟨v1,f1,v2,f2,h3,b',e4,m _ _ q'⟩
theorem la{A:Around}{k:Nat}(hr:Room k A):A.units+8<cLine:=lt_of_le_of_lt (Nat.add_le_add_left (by decide:8≤64) _) hr.units
structure Wl(H:Hp)(zs:ZN)(cs:List Cp):Prop where
 at':∀c∈cs,uX H c
 up:cs.Pairwise (λa b=>HT.bZ a.p b.p=true)
 mem:∀p n,(∃c∈cs,c.p=p∧c.n=n)↔∃z∈zs,z.2.num=n∧TW.PathTo (nds zs) n p
structure Cps(H:Hp)(zs:ZN)(cs:List Cp):Prop where
 at':∀c∈cs,uX H c
 nums:cs.map (·.n)=(nds zs).map (·.num)
 path:∀c∈cs,TW.PathTo (nds zs) c.n c.p
theorem xG{H:Hp}{p:Addr}{zs:ZN}{ys:List V}(hlen:ys.length=zs.length)(h:∀(i:Nat) y,ys[i]?=some y→∃q t z pa,zs[i]?=some z∧y=.ref q∧q≠p∧t≠p∧H q=some (.tup [.ref t,.int z.2.num])∧H t=some (.tup (pa.map V.str))∧TW.PathTo (nds zs) z.2.num pa):
  ∃cs:List Cp,ys=cs.map (λc=>V.ref c.a)∧Cps H zs cs∧∀c∈cs,c.a≠p∧c.t≠p:=by
 have main:∀(ys:List V)(xs:ZN),ys.length=xs.length→(∀(i:Nat) y,ys[i]?=some y→∃q t z pa,xs[i]?=some z∧y=.ref q∧q≠p∧t≠p∧H q=some (.tup [.ref t,.int z.2.num])∧H t=some (.tup (pa.map V.str))∧TW.PathTo (nds zs) z.2.num pa) →
   ∃cs:List Cp,ys=cs.map (λc=>V.ref c.a)∧(∀c∈cs,uX H c∧TW.PathTo (nds zs) c.n c.p∧c.a≠p∧c.t≠p)∧cs.map (·.n)=(nds xs).map (·.num):=by
  intro ys
  induction ys with
  |nil =>
   intro xs hl _;have:xs=[]:=length_eq_zero_iff.mp hl.symm;subst this;exact⟨[],rfl,by simp,rfl⟩
  |cons y ys ih =>
   intro xs hl h;cases xs with
   |nil=>simp at hl
   |cons x xs =>
    obtain⟨cs,e1,e2,e3⟩:=ih xs (by simpa using hl) λi y hy=>by simpa using h (i+1) y (by simpa using hy)
    obtain⟨q,t,z,pa,f1,f2,f3,f4,f5,f6,f7⟩:=h 0 y rfl;have:x=z:=by simpa using f1
    subst this;refine⟨⟨q,t,pa,x.2.num⟩::cs,by simp[e1,f2],λc hc=>?_,by simp[nds]at e3⊢;exact e3⟩;rcases mem_cons.mp hc with rfl|hc
    ·exact⟨⟨f5,f6⟩,f7,f3,f4⟩
    ·exact e2 c hc
 obtain⟨cs,e1,e2,e3⟩:=main ys zs hlen h;exact⟨cs,e1,⟨λc hc=>(e2 c hc).1,e3,λc hc=>(e2 c hc).2.1⟩,λc hc=>(e2 c hc).2.2⟩
theorem Cps.paths_nd{H:Hp}{zs:ZN}{cs:List Cp}(h:Cps H zs cs)(T:TW.Tree1 (nds zs)):(cs.map (·.p)).Nodup:=by
 have hn:(cs.map (·.n)).Nodup:=by rw[h.nums];exact bJ T
 unfold Nodup at hn⊢;rw[pairwise_map]at hn⊢;have hp:=h.path;clear h
 induction cs with
 |nil=>exact .nil
 |cons c cs ih =>
  rw[pairwise_cons]at hn⊢;refine⟨λd hd e=>hn.1 d hd ?_,ih hn.2 λx hx=>hp x (by simp[hx])⟩;have h1:=hp c (by simp);have h2:=hp d (by simp[hd]);rw[←e]at h2;exact h1.key T h2
theorem Cps.wl{H:Hp}{zs:ZN}{cs cs':List Cp}(h:Cps H zs cs)(T:TW.Tree1 (nds zs))(hp:cs'.Perm cs)(hs:cs'.Pairwise (λa b=>HT.bZ a.p b.p=true)):Wl H zs cs':=by
 refine⟨λc hc=>h.at' c (hp.mem_iff.mp hc),hs,λp n=>?_⟩;constructor
 ·rintro⟨c,hc,rfl,rfl⟩;have hc':=hp.mem_iff.mp hc;have:c.n∈(nds zs).map (·.num):=by rw[←h.nums];exact mem_map.mpr ⟨c,hc',rfl⟩
  obtain⟨n,hn,e⟩:=mem_map.mp this;obtain⟨z,hz,rfl⟩:=mem_map.mp hn;exact⟨z,hz,e,h.path c hc'⟩
 ·rintro⟨z,hz,rfl,hpa⟩;have:z.2.num∈cs.map (·.n):=by rw[h.nums];exact mem_map.mpr ⟨z.2,mem_map.mpr ⟨z,hz,rfl⟩,rfl⟩
  obtain⟨c,hc,e⟩:=mem_map.mp this;refine⟨c,hp.mem_iff.mpr hc,?_,e⟩;have:=h.path c hc;rw[e]at this;exact this.uniq T hpa
def jX:Sp:=λvs H Q _=>∃t zs,vs=[.ref t]∧Tre H t zs∧∀cs l H',Same H H'→Wl H' zs cs→cs.length=zs.length→H' l=some (.lst (cs.map λc=>V.ref c.a))→Q (.ref l) H'
theorem we:FnScope ["tree","nodes"] ["tree"] (ag vj):=fsc
theorem xH{f:Addr}{fd:FuncData}(F:Fun K "walked" "walked" vj f fd)(T:Txt mg)(CB:Has P w K mg base 1 "by_number" ["tree"] gH)(CU:Has P w K mg base 1 "path_up" ["nodes","number"] mE):
  FnOk P w K mg base CX0 2 f fd ["tree"] jX:=by
 obtain⟨fB,fdB,GB,mB,kB,bB⟩:=CB;obtain⟨fU,fdU,GU,mU,kU,bU⟩:=CU;refine F.ok we (λvs H Q E h=>?_) (λcdv A outer s H vs Q E hr h=>?_)
 ·obtain⟨t,zs,rfl,_⟩:=h;rfl
 ·obtain⟨t,zs,rfl,tr,k⟩:=h;have hnd:=bJ tr.tr;have hl:=tr.len;refine⟨_,ah (au (i:=1) we.nd rfl (Or.inr rfl) (ak GB hr rfl mB kB bB .nil ap (aa (pv 0) ae)))
   (al (ar (am (io (la hr)) rfl T.sorted boot_sorted (aa (ce (N:=["number","nodes"]) (cl:=[("nodes",s.heap.objs.size+1)]) (k:=1) (js:=[1]) (g:=aO 0) rfl
     (LcOk.mk' ["nodes"] rfl rfl (by decide +kernel) (by decide +kernel) ?hcl rfl (by decide +kernel)) rfl ?hj
    (yI (pv 1)) (λs H fp=>ao (i:=0) (show(["number","nodes"]:List Str).Nodup by decide +kernel) rfl (Or.inl rfl) (Or.inr rfl))
    (λs H fp=>bq (aa (ak (X:=bV _ _ _ _ _ _ _) GU hr rfl mU kU bU .nil ap (aa (pv 1) (aa (pv 0) ae))) (aa (pv 0) ae)))) ae)))),?_⟩
  case hcl =>
   intro y hy;rcases mem_cons.mp hy with e|hy
   ·rw[e];rfl
   ·cases hy
  case hj =>
   intro i j x h1 h2
   match i,h1,h2 with
   |0,h1,h2 =>
    cases h1;cases h2;exact⟨rfl,Or.inr (Or.inl rfl),(show((ag vj).names.lookup ("nodes":Str)≠some NameKind.local)by decide +kernel),by first|exact Or.inl rfl|exact Or.inr rfl⟩
   |i+1,h1,h2=>simp at h1
  refine⟨_,rfl,t,zs,rfl,tr.tup,tr.nod,by omega,hnd,λd H1 s1 nd1=>?_⟩;obtain⟨o,ho⟩:=id nd1;have tr1:=tr.same s1;refine⟨_,rfl,d,o,_,rfl,ho,λp hp=>?_⟩;refine nK (fr:=[some (.ref d)]) zs.length (by omega) hp rfl (λi y H'=>∃q t z pa,zs[i]?=some z∧y=.ref q∧q≠p∧t≠p∧H' q=some (.tup [.ref t,.int z.2.num])∧H' t=some (.tup (pa.map V.str))∧TW.PathTo (nds zs) z.2.num pa) (λi y H1 H2 h ex=>?_) (λi H' hi s2=>?_) (λH' s2=>?_) ?_ (λi H' x H2 hi s2 hpl hy=>?_) (λys H' s2 hp' hlen hys=>?_)
  ·obtain⟨q,t,z,pa,e1,e2,e3,e4,e5,e6,e7⟩:=h;exact⟨q,t,z,pa,e1,e2,e3,e4,ex q _ e3 e5,ex t _ e4 e6,e7⟩
  ·exact⟨s2 _ _ ho,by simpa [cK]using hi⟩
  ·exact⟨s2 _ _ ho,by simp[cK]⟩
  ·rintro _ _ _ _ m ⟨v1,b1,v2,b2,d',k',zs',pa,c1,c2,c3,c4,c5,c6,q⟩;refine⟨v1,b1,v2,b2,d',k',zs',pa,c1,c2,c3,c4,c5,c6,λt' H' st ht=>?_⟩;obtain⟨v3,b3,hz,q'⟩:=q t' H' st ht;exact⟨v3,b3,hz,λl hl=>m _ _ (q' l hl)⟩
  ·obtain⟨rfl,hx⟩:=hy;have gz:zs[i]?=some zs[i]:=getElem?_eq_getElem hi;have ex:x=.int zs[i].2.num:=by
    unfold cK at hx;rw[getElem?_map,getElem?_map,gz]at hx;exact(Option.some.inj hx).symm
   subst ex;have mz:=mem_of_getElem? gz;generalize zs[i]=z at gz mz⊢;obtain⟨pa,hpa⟩:=TW.PathTo.ex tr.tr (mem_map.mpr ⟨z,mz,rfl⟩:z.2∈nds zs);have s12:=s1.trans s2;refine⟨rfl,_,rfl,_,rfl,d,_,zs,pa,rfl,nd1.same s2,tr.nod.same s12,tr.tr,by omega,hpa,λt' H4 s4 ht'=>?_⟩;have hpl4:∃ys,H4 p=some (.lst ys):=let⟨ys,e⟩:=hpl;⟨ys,s4 _ _ e⟩;have htp:t'≠p:=λe=>by obtain⟨ys,e'⟩:=hpl4;rw[←e,ht']at e';cases e'
   refine⟨_,rfl,le2,λq hq=>⟨s4.trans (af hq),q,t',z,pa,gz,rfl,cJ hpl4 hq,htp,ac,aW hq ht',hpa⟩⟩
  ·obtain⟨cs,e1,e2,e3⟩:=xG (p:=p) hlen hys;subst e1;have hcl:cs.length=zs.length:=by rw[←hlen,length_map]
   refine⟨p,cs,rfl,hp',e2.at',e2.paths_nd tr.tr,by omega,λcs' hpm hup q hq=>?_⟩;have s3:=af (o:=.lst (cs'.map λc=>V.ref c.a)) hq;have wl:=e2.wl tr.tr hpm hup;refine k cs' q _ ((s1.trans s2).trans s3) ⟨λc hc=>?_,wl.up,wl.mem⟩ (hpm.length_eq.trans hcl) ac;obtain⟨g1,g2⟩:=wl.at' c hc;exact⟨s3 _ _ g1,s3 _ _ g2⟩
end
end TK
namespace TW
theorem nZ{S:Type}{ns:List (Nd S)}{n:Nd S}(h:Reach ns 0 n):Und ns 0 n.num:=by
 induction h with
 |base hn e=>exact .up hn (by rw[e];exact .here)
 |step _ _ hn e ih=>exact .up hn (by rw[e];exact ih)
theorem jY{S:Type}{ns:List (Nd S)}(T:Tree1 ns){k:Int}(hk:k=0∨1≤k){n:Nd S}(hn:n∈ns):Reach ns k n↔n.num≠k∧Und ns k n.num:=by
 rcases hk with e|h
 ·subst e;have h1:=T.down n hn;have h2:=T.pos n hn;exact⟨λ_=>⟨by omega,nZ h1⟩,λ_=>h1⟩
 ·exact qJ T h hn
end TW
namespace TK
open PySem L2
def isF(z:Addr×Nd):Bool:=z.2.st.isSome
def nums(zs:ZN):List Int:=zs.map λz=>z.2.num
theorem gJ(zs:ZN):(nums zs).length=zs.length:=length_map _
theorem jn(zs:ZN):wd zs=(nums zs).map V.int:=by unfold wd nums;rw[map_map];rfl
theorem xI{z:Addr×Nd}(h:isF z=true):∃i,z.2.st=some i:=by
 unfold isF at h;cases e:z.2.st with
 |none=>rw[e]at h;cases h
 |some i=>exact⟨i,rfl⟩
theorem wf(ms:List Int):(ms.map V.int).all cm=true:=by
 rw[all_eq_true];intro x hx;obtain⟨k,_,rfl⟩:=mem_map.mp hx;rfl
theorem tu{l m:List Int}(hl:l.Pairwise λa b:Int=>a<b)(hm:m.Pairwise λa b:Int=>a<b)(h:∀x,x∈l↔x∈m):l=m:=fK (R:=λa b:Int=>a<b) (λa=>Int.lt_irrefl a) (λa b h1 h2=>by omega) hl hm h
def isB(zs:ZN)(k:Int)(z:Addr×Nd):Bool:=@decide (TW.Reach (nds zs) k z.2) (Classical.propDecidable _)
theorem cb{zs:ZN}{k:Int}{z:Addr×Nd}:isB zs k z=true↔TW.Reach (nds zs) k z.2:=@decide_eq_true_iff _ (Classical.propDecidable _)
theorem lc{zs:ZN}(T:TW.Tree1 (nds zs))(g:Addr×Nd→Bool):(nums (zs.filter g)).Pairwise λa b:Int=>a<b:=by
 have:=T.rise;unfold TW.bt nds at this;unfold nums;rw[pairwise_map]at this⊢;exact this.sublist filter_sublist
def bel(zs:ZN)(k:Int):ZN:=zs.filter (isB zs k)
theorem fb{zs:ZN}{k:Int}{z:Addr×Nd}(h:z∈bel zs k):z∈zs:=(mem_filter.mp h).1
theorem gK(zs:ZN)(k:Int):(bel zs k).length≤zs.length:=length_filter_le _ _
theorem pF{zs:ZN}(T:TW.Tree1 (nds zs)){k:Int}{ms:List Int}(hu:ms.Pairwise λa b:Int=>a<b)(hm:∀x,x∈ms↔∃n∈nds zs,n.num=x∧TW.Reach (nds zs) k n):ms=nums (bel zs k) :=
 tu hu (lc T _) λx=>by
  rw[hm];unfold nums bel;rw[mem_map];constructor
  ·rintro⟨n,hn,e,hr⟩;obtain⟨z,hz,rfl⟩:=bn hn;exact⟨z,mem_filter.mpr ⟨hz,cb.mpr hr⟩,e⟩
  ·rintro⟨z,hz,e⟩;have:=mem_filter.mp hz;exact⟨z.2,aw this.1,e,cb.mp this.2⟩
def sts(zs:ZN)(k:Int):List Int:=((bel zs k).filter isF).map λz=>z.2.st.getD 0
def oa(zs:ZN)(k:Int):List V:=[.int (((bel zs k).length:Int)-((sts zs k).length:Int)),.int ((sts zs k).length:Int),.int (sts zs k).sum]
def Fold(zs:ZN)(k:Int):Prop:=k=0∨∃z∈zs,z.2.num=k∧z.2.st=none
section
variable{P:Program}{w:World}{K:PySem.W.Frag}{mg:Str→Option Value}{base:Heap}{f:Addr}
def pG:Sp:=λvs H Q _=>∃t k zs,vs=[.ref t,.int k]∧Tre H t zs∧0≤k∧k≤60∧Fold zs k∧∀t' H',Same H H'→H' t'=some (.tup (oa zs k))→Q (.ref t') H'
theorem pH:FnScope ["tree","number","nodes","stamps","of_files"] ["tree","number"] (ag iC):=fsc
theorem xJ{CN0:Addr}{fd:FuncData}(F:Fun K "total" "total" iC f fd)(T:Txt mg)(CB:Has P w K mg base 1 "by_number" ["tree"] gH)(CF:Has P w K mg base 2 "check_folder" ["nodes","number"] jW)(CL:gF P w K mg base 2 "below" ["tree","number"] (mw CN0)):FnOk P w K mg base CX0 3 f fd ["tree","number"] pG:=by
 obtain⟨fB,fdB,GB,mB,kB,bB⟩:=CB;obtain⟨fF,fdF,GF,mF,kF,bF⟩:=CF;obtain⟨fL,fdL,GL,mL,kL,bL⟩:=CL;refine F.ok pH (λvs H Q E h=>?_) (λcdv A outer s H vs Q E hr h=>?_)
 ·obtain⟨t,k,zs,rfl,_⟩:=h;rfl
 ·obtain⟨t,k,zs,rfl,tr,k0,k1,hk,q⟩:=h;have hr1:Room 1 _:=hr.mono (by decide);refine⟨_,ah (au (i:=2) pH.nd rfl (Or.inr rfl) (ak GB hr1 rfl mB kB bB .nil ap (aa (pv 0) ae)))
   (ah (cp (ak GF hr rfl mF kF bF .nil ap (aa (pv 2) (aa (pv 1) ae))))
   (ah (sG (ii:=3) (N:=["inner","nodes"]) (cl:=[("nodes",s.heap.objs.size+1)]) (k:=1) (js:=[2]) (g:=aO 0) pH.nd rfl (Or.inl rfl) rfl
    (LcOk.mk' ["nodes"] rfl rfl (by decide +kernel) (by decide +kernel) ?hcl rfl (by decide +kernel)) rfl ?hj (cP (ak GL hr rfl mL kL bL .nil jf (aa (pv 0) (aa (pv 1) ae)))) (λs H fp=>ao (i:=0) (show(["inner","nodes"]:List Str).Nodup by decide +kernel) rfl (Or.inl rfl) (Or.inr rfl))
    (λs H fp=>aH (r:=ck K) ay (bY (cu hr) (pv 1) (pv 0) (λ_ _=>rfl)) aj (λ_ _=>rfl)))
   (ah (qG (ii:=4) (N:=["stamp"]) (cl:=[]) (k:=1) (js:=[]) (g:=aO 0) pH.nd rfl (Or.inl rfl) rfl (cf rfl (by decide +kernel) (by decide +kernel) (by decide +kernel)) rfl (λi j x h=>by simp at h)
    (cP (pv 3)) (λs H fp=>ao (i:=0) (show(["stamp"]:List Str).Nodup by decide +kernel) rfl (Or.inl rfl) (Or.inr rfl))
    (λs H fp=>av oF (pv 0) fw (aB _)) (λs H fp=>pv 0))
   (al (ar (bq (aa (aM wD (am aC rfl T.len boot_len (aa (pv 3) ae)) (am aC rfl T.len boot_len (aa (pv 4) ae))) (aa (am aC rfl T.len boot_len (aa (pv 4) ae)) (aa (am (jA rfl) rfl T.sum boot_sum (aa (pv 4) ae)) ae))))))))),?_⟩
  case hcl =>
   intro y hy;rcases mem_cons.mp hy with e|hy
   ·rw[e];rfl
   ·cases hy
  case hj =>
   intro i j x h1 h2
   match i,h1,h2 with
   |0,h1,h2 =>
    cases h1;cases h2;exact⟨rfl,Or.inr (Or.inl rfl),(show((ag iC).names.lookup ("nodes":Str)≠some NameKind.local)by decide +kernel),by first|exact Or.inl rfl|exact Or.inr rfl⟩
   |i+1,h1,h2=>simp at h1
  have hl:=tr.len;have hnd:=bJ tr.tr;refine⟨_,rfl,t,zs,rfl,tr.tup,tr.nod,by omega,hnd,λd H1 s1 nd1=>?_⟩;refine⟨_,rfl,_,rfl,d,k,zs,rfl,nd1,tr.nod.same s1,hnd,k0,k1,hk,?_⟩;have tr1:=tr.same s1;refine⟨_,rfl,_,rfl,t,k,zs,rfl,tr1,k0,k1,λ_ ms lb H2 s2 hup hml hmm hlb=>?_,λh0 hno=>?_⟩
  case refine_2 =>
   obtain⟨z',hz',e,_⟩:=hk.resolve_left h0;exact absurd e (hno z' hz')
  have em:=pF tr.tr hup hmm;subst em;have hbl:=gK zs k;refine⟨lb,rfl,⟨_,SqL.of hlb⟩,λp hp=>?_⟩;refine bH (fr:=[some (.ref d)]) (bel zs k) (λz=>V.int z.2.num) (by omega) hp (dW (by rw[show((bel zs k).map λz=>V.int z.2.num)=(nums (bel zs k)).map V.int from jn _];exact SqL.of hlb)) rfl (λz y _=>y=stV z.2.st) (λ_ _ _ _ h _=>h) (λz H' kk mz s3 _ hk=>?_) (λys H3 s3 hp3 hys=>?_)
  ·have hz:=fb mz;exact⟨_,rfl,_,rfl,d,_,rfl,((nd1.same s2).same s3).get hnd hz,z.1,_,_,_,rfl,rfl,SqT.of (((tr1.same s2).same s3).nod z hz),at3 z.2,hk _ H' (Same.refl _) rfl⟩
  have ey:=aQ (f:=λz:Addr×Nd=>stV z.2.st) hys (λz y _ h=>h);rw[ey]at hp3;refine⟨_,rfl,p,rfl,⟨_,SqL.of hp3⟩,λp4 hp4=>?_⟩;refine eN (fr:=[]) (bel zs k) (λz=>stV z.2.st) (by omega) hp4 (dW (SqL.of hp3)) rfl isF (λz y _=>y=.int (z.2.st.getD 0)) (λ_ _ _ _ h _=>h) (λz H' kk mz s4 _ hk=>?_) (λz H' kk mz hf s4 _ hk=>?_) (λys4 H4 s4 hp4' hys4=>?_)
  ·refine⟨_,rfl,rfl,_,rfl,?_⟩;have e:(!decide (stV z.2.st=V.non))=isF z:=by
    unfold isF;cases z.2.st<;>simp[stV]
   rw[e];exact hk H' (Same.refl _)
  ·obtain⟨i,ei⟩:=xI hf;refine⟨_,rfl,hk _ H' (Same.refl _) ?_⟩;rw[ei];rfl
  have ey4:=aQ (f:=λz:Addr×Nd=>V.int (z.2.st.getD 0)) hys4 (λz y _ h=>h);have e4:ys4=(sts zs k).map V.int:=by rw[ey4];unfold sts;rw[map_map];rfl
  rw[e4]at hp4';refine⟨_,rfl,p,_,rfl,.inl (SqL.of (s4 _ _ hp3)),_,rfl,p4,_,rfl,.inl (SqL.of hp4'),_,_,rfl,rfl,?_⟩;refine⟨_,rfl,p4,_,rfl,.inl (SqL.of hp4'),_,rfl,p4,_,rfl,hp4',(show 3≤sizeLine from aA (by decide)),λt' ht'=>?_⟩;refine q t' _ ((((s1.trans s2).trans s3).trans s4).trans (af ht')) ?_;rw[ac];unfold oa;simp only[length_map]
end
end TK
namespace L2
open PySem PySem.Spec PyProof.Rows
theorem qQ{P:Program}{w:World}{K:PySem.W.Frag}{mg mb:Str→Option Value}{k:Nat}{fa a:Addr}{fd:FuncData}{x:Str}{sp:Sp}{s₁:Shared}{vs:List Value}{ns:List Int}{tabs:List Addr}(KX:K.In s₁.heap)(hns:s₁.heap.Ns mainGlobals mg)(hb:s₁.heap.Ns builtinsNs mb)(hbb:∀x:Str,x≠"__name__"→mb x=bootBuiltins x)(hlim:s₁.heap.NoLimit)(hg:s₁.gens=#[])(hT:∀t∈tabs,(∃c,CodeHd s₁.heap c t)∧s₁.heap.get? t=some (tabObj #[]))(hKT:∀t∈tabs,K.lookup t=none)(hbm:BmB s₁.heap mg)(ha:s₁.heap.get? a=some {cls:=.type "list",data:=.seq vs.toArray})(hi:IntsAre vs ns)(hl:ns.length≤sizeLine)(hr:Room k callerA)(F:∀base:Heap,K.In base→base.Ns mainGlobals mg→BmB base mg→FnOk P w K mg base CX0 k fa fd [x] sp)(hbind:∀(s:Shared) (u:Value),BindsTo s fd ⟨[u],[]⟩ [(x,u)])(hsp:∀H:Hp,SqL K H a (ns.map V.int)→(∀t∈tabs,H t=some (.tbl #[]))→sp [.ref a] H (λv _=>v=.bl true) λ_ _ _=>False):
  codeAny (model P w) callerA (.call (.ref fa) ⟨[.ref a],[]⟩) (λr s'=>r=.ok (.ret (.bool true))∧OldK s₁.heap s'.heap∧s'.os=s₁.os∧AllBare s'.gens) s₁:=by
 have rv:=jK hi;have lenV:=hi.length;have naT:a∉tabs:=λh=>by
  have:=(hT a h).2;rw[ha]at this;cases this
 have core:∀(H:Hp),SqL K H a (ns.map V.int)→HOk P w H s₁.heap→(∀t∈tabs,H t=some (.tbl #[]))→(∀b o,H b=some o→(b=a∧K.lookup a=none∧∃ob xs,o=.frz ob (.lst xs))∨b∈tabs) →
   codeAny (model P w) callerA (.call (.ref fa) ⟨[.ref a],[]⟩) (λr s'=>r=.ok (.ret (.bool true))∧OldK s₁.heap s'.heap∧s'.os=s₁.os∧AllBare s'.gens) s₁:=by
  intro H hS hok hTt hA;have base_of:∀{b:Addr}{o:Obj},s₁.heap.get? b=some o→H b=none→(jt s₁.heap H).get? b=some o:=λe n=>qZ e n;have noA:∀{b:Addr}{o:Obj}{es:Array DictEntry}{ep:Nat},s₁.heap.get? b=some o→o.data=.dict es ep→H b=none:=λ{b o es ep} e d=>by
   cases q:H b with
   |none=>rfl
   |some u =>
    rcases hA b u q with⟨e',_⟩|hm
    ·subst e';rw[ha]at e;cases e;cases d
    ·rw[(hT b hm).2]at e;cases e;cases d
  have nsK:∀{b:Addr}{m:Str→Option Value},s₁.heap.Ns b m→(jt s₁.heap H).Ns b m:=λ{b m} ⟨o,es,ep,e,d,r⟩=>⟨o,es,ep,base_of e (noA e d),d,r⟩;have hKb:K.In (jt s₁.heap H):=λb o e=>base_of (KX b o e) (by
   cases q:H b with
   |none=>rfl
   |some u =>
    rcases hA b u q with⟨e',hk,_⟩|hm
    ·subst e';rw[hk]at e;cases e
    ·rw[hKT b hm]at e;cases e)
  have hM:Mod K mg (jt s₁.heap H):=⟨hKb,nsK hns,⟨mb,nsK hb,hbb⟩,let⟨mc,h1,h2⟩:=hlim;⟨mc,nsK h1,h2⟩⟩;have e0:Env0 P w K mg (jt s₁.heap H) callerA [] s₁ H:=⟨rfl,hM,λb o e=>uo e,Nat.le_of_eq (pT _ _),trivial,λb hb=>absurd (show b∈([]:List Addr)from hb) (by simp),hok,.of_eq hg⟩;have hBm:BmB (jt s₁.heap H) mg:=by
   obtain⟨bm,o,b1,b2,b3,b4,b5,b6⟩:=hbm;refine⟨bm,o,b1,b2,base_of b3 ?_,b4,b5,b6⟩;cases q:H bm with
   |none=>rfl
   |some u =>
    rcases hA bm u q with⟨e',_⟩|hm
    ·subst e';rw[ha]at b3;cases b3;cases b6
    ·rw[(hT bm hm).2]at b3;cases b3;cases b6
  refine codeAny_mono ((F _ hKb (nsK hns) hBm).run callerA [] s₁ H ⟨[.ref a],[]⟩ [.ref a] [.ref a] _ _ hr e0 (hbind s₁ (.ref a)) (.cons rfl .nil) (hsp H hS hTt)) λr s' h=>?_;cases r with
  |error e=>exact False.elim h
  |ok fl =>
   cases fl with
   |next=>exact False.elim h
   |brk=>exact False.elim h
   |cont=>exact False.elim h
   |ret u =>
    obtain⟨v,H',os,bare,un,hok',r',q⟩:=h;have q':v=.bl true:=q;subst q';obtain rfl:u=Value.bool true:=r';refine⟨rfl,⟨λb o e=>?_,λb o e=>?_⟩,os,bare⟩
    ·cases q:H b with
     |none=>exact .inl (un.keep b o e q (by intro z;exact absurd (show b∈([]:List Addr)from z) (by simp)) (by simp))
     |some u =>
      rcases hA b u q with⟨e',_,ob,xs,z⟩|hm
      ·subst z;have z2:=un.frzs b ob _ q;obtain⟨e1,_⟩:=hok b _ q;obtain⟨e2,_⟩:=hok' b _ z2;rw[e]at e1;cases e1;exact .inl e2
      ·obtain⟨⟨c,C⟩,e1⟩:=hT b hm;obtain⟨more,e2⟩:=un.tbls b _ (hTt b hm);have e3:s'.heap.get? b=some (tabObj (#[]++more)):=hok' b _ e2;rw[e]at e1;cases e1;exact .inr (.inl ⟨(C.tab e).isCodeTable,rfl,#[],more,rfl,e3⟩)
    ·exact un.there b o e (by simp)
 cases hk:K.lookup a with
 |some o =>
  have e:=KX a o hk;rw[ha]at e;cases e;refine core (λb=>if b∈tabs then some (.tbl #[])else none) (.inr ⟨_,vs.toArray,_,hk,rfl,rfl,rfl,by rw[size_toArray,lenV];exact hl,by simpa using rv⟩) (λb u z=>?_) (λt h=>if_pos h) λb o z=>?_
  ·by_cases hb:b∈tabs
   ·have z':=(if_pos hb).symm.trans z;cases z';exact(hT b hb).2
   ·have z':=(if_neg hb).symm.trans z;cases z'
  ·by_cases hb:b∈tabs
   ·exact .inr hb
   ·have z':=(if_neg hb).symm.trans z;cases z'
 |none =>
  refine core (λb=>if b=a then some (.frz {cls:=.type "list",data:=.seq vs.toArray} (.lst (ns.map V.int)))else if b∈tabs then some (.tbl #[])else none) (.inl (.inr ⟨{cls:=.type "list",data:=.seq vs.toArray},if_pos rfl⟩)) (λb u z=>?_) (λt h=>?_) λb o z=>?_
  ·by_cases hb:b=a
   ·have z':=(if_pos hb).symm.trans z;cases z';subst hb;exact⟨ha,by rw[length_map];exact hl,vs,_,rv,ha⟩
   ·have z1:=(if_neg hb).symm.trans z
    by_cases hm:b∈tabs
    ·have z':=(if_pos hm).symm.trans z1;cases z';exact(hT b hm).2
    ·have z':=(if_neg hm).symm.trans z1;cases z'
  ·have:t≠a:=λz=>naT (by rw[←z];exact h);rw[if_neg this,if_pos h]
  ·by_cases hb:b=a
   ·have z':=(if_pos hb).symm.trans z;exact .inl ⟨hb,hk,_,_,(Option.some.inj z').symm⟩
   ·have z1:=(if_neg hb).symm.trans z
    by_cases hm:b∈tabs
    ·exact .inr hm
    ·have z':=(if_neg hm).symm.trans z1;cases z'
theorem tD{l:PySem.W.OpenLaw}{n k:Nat}{q:Program}{loose:List Str}{XP:(Str→Option Value)→Heap→Prop}{YP:World→Heap→Prop}{d:DefRec}{K:Params→PySem.W.Frag}{sp:World→Sp}{x:Str}{tabs:List Addr}(hn:l.most=some n)(hn2:n≤sizeLine)(hdf:d.params.defaults=[])(hr:Room k callerA)(hY:∀(w:World) (h:Heap),YP w h→(K w.params).In h)(hT:∀(w:World) (h:Heap),YP w h→∀t∈tabs,h.get? t=some (tabObj #[]))(hC:∀w:World,∀t∈tabs,(∃c,codeHdIn (K w.params) c t=true)∧(K w.params).lookup t=none)(F:∀(w:World) (mg:Str→Option Value) (fa:Addr) (h:Heap),(K w.params).In h→h.Ns mainGlobals mg→mg d.name=some (.ref fa) →
   ∃fd:FuncData,(∀(s:Shared) (u:Value),BindsTo s fd ⟨[u],[]⟩ [(x,u)]) ∧
    ∀base:Heap,(K w.params).In base→base.Ns mainGlobals mg→BmB base mg→FnOk l.prog w (K w.params) mg base CX0 k fa fd [x] (sp w))(hsp:∀(w:World) (H:Hp) (a:Addr) (ns:List Int),ns.length≤n→SqL (K w.params) H a (ns.map V.int)→(∀t∈tabs,H t=some (.tbl #[]))→sp w [.ref a] H (λv _=>v=.bl true) λ_ _ _=>False):
  PySem.W.WalkO q loose XP YP l.row.toRowW d [] (λf vs=>PySem.call f vs):=by
 refine Att.lC hn hdf λw s₀ s₁ mg mb fa o pm cd doc a vs ns G Y ho hd hcd hmg hobj hints hlen hg=>?_;have KX:=hY w _ Y;obtain⟨fd,hb,hF⟩:=F w mg fa _ KX G.T.g hmg;exact qQ KX G.T.g G.T.b G.T.builtins G.T.nolimit hg (λt h=>⟨let⟨c,e⟩:=(hC w t h).1;⟨c,codeHd_of_K KX e⟩,hT w _ Y t h⟩) (λt h=>(hC w t h).2) G.T.bmain hobj hints (le_trans hlen hn2) hr hF hb λH hS hTt=>hsp w H a ns hlen hS hTt
theorem Fun.okT{P:Program}{w:World}{K:PySem.W.Frag}{mg:Str→Option Value}{base:Heap}{x qual:Str}{st:Stmt}{f c0:Addr}{fd:FuncData}{N ps:List Str}{k:Nat}{sp:Sp}(F:Fun K x qual st f fd)(hc:fd.code=.ref c0)(S:FnScope N ps (ag st))(len:∀vs H Q E,sp vs H Q E→vs.length=ps.length)(hbody:∀(A:Around) (outer:List Env) (s:Shared) (H:Hp) (vs:List V) (Q:VK) (E:XK),Room k (A.deeper (envOfC qual (ag st) s.heap.objs.size f (.ref c0)))→sp vs H Q E →
   ∃t,PSs (gd CX0 P w K mg base N qual (ag st) f (.ref c0) A outer s H E).nox (br st) t∧t {nx:=λ_ H'=>Q .non H',rt:=Q} (start N vs) H):FnOk P w K mg base CX0 (k+1) f fd ps sp:=by
 obtain⟨oc,od,kV,doc,pm,an,cdv,ct,osl,rfl,lk,hcd⟩:=F.ex;obtain rfl:cdv=.ref c0:=hc;refine rG lk hcd S len λA outer s H vs Q E hr hsp=>?_;obtain⟨t,h,q⟩:=hbody A outer s H vs Q E hr hsp;exact⟨t,h.nox,q⟩
theorem BmB.sub{base base':Heap}{mg:Str→Option Value}(h:BmB base mg)(s:∀b o,base.get? b=some o→base'.get? b=some o):BmB base' mg:=let⟨bm,o,b1,b2,b3,r⟩:=h;⟨bm,o,b1,b2,s _ _ b3,r⟩
end L2
namespace TK
open PySem L2
abbrev yS(K:PySem.W.Frag):V→Option Int→Option Int→Hp→VK→Prop:=λx lo hi H Q=>nr K x lo hi H Q∨∃a xs,x=.ref a∧SqT K H a xs∧HT.sIx xs.length 0 lo=0∧HT.sIx xs.length xs.length hi=xs.length∧Q (.ref a) H
theorem tE{xs:List V}{k:Nat}(h:k≤xs.length):gh xs (some (k:Int)) none=xs.drop k:=by
 unfold gh;rw[HT.cx,HT.cY,min_eq_left h,←length_drop,take_length]
theorem vt{K:PySem.W.Frag}{H:Hp}{t:Addr}{pk r:List Str}{Q:VK}(ht:H t=some (.tup ((pk++r).map V.str)))(q:∀t' H',Same H H'→H' t'=some (.tup (r.map V.str))→Q (.ref t') H'):yS K (.ref t) (some (pk.length:Int)) none H Q:=by
 have hle:pk.length≤((pk++r).map V.str).length:=by rw[length_map,length_append];omega
 by_cases h:pk=[]
 ·subst h;exact .inr ⟨t,_,rfl,SqT.of ht,by rw[HT.cx];simp,by rw[HT.cY],q t H (Same.refl _) (by simpa using ht)⟩
 ·refine .inl ⟨t,_,rfl,SqT.of ht,λz=>?_,λt' ht'=>q t' _ (af ht') ?_⟩
  ·have:=z.1;rw[HT.cx,min_eq_left hle]at this;exact h (length_eq_zero_iff.mp this)
  ·rw[ac,tE hle,←map_drop,List.drop_left]
theorem tF{zs:ZN}(T:TW.Tree1 (nds zs)){k:Int}(hk:k=0∨1≤k){pk:List Str}(hpk:TW.PathTo (nds zs) k pk){z:Addr×Nd}(hz:z∈bel zs k){p:List Str}(hp:TW.PathTo (nds zs) z.2.num p):∃r,p=pk++r:=by
 have h:=mem_filter.mp hz;have hu:=((TW.jY T hk (aw h.1)).mp (cb.mp h.2)).2;obtain⟨q,r,h1,h2⟩:=TW.tf T hu hp;exact⟨r,by rw[h2,h1.uniq T hpk]⟩
structure ShAt(H:Hp)(zs:ZN)(k:Int)(pk:List Str)(cs:List Cv):Prop where
 at':∀c∈cs,iq H c
 up:cs.Pairwise λa b=>HT.bZ a.p b.p=true
 mem:∀p v,(∃c∈cs,c.p=p∧c.v=v)↔∃z∈bel zs k,v=stV z.2.st∧TW.PathTo (nds zs) z.2.num (pk++p)
theorem pI{zs:ZN}(T:TW.Tree1 (nds zs)){k:Int}(h:Fold zs k):k=0∨1≤k:=by
 rcases h with h|⟨z,hz,e,_⟩
 ·exact .inl h
 ·have:=T.pos z.2 (aw hz);exact .inr (by omega)
theorem tG(n:Nd):cm (stV n.st)=true∧eqV (stV n.st) (stV n.st)=true:=by
 cases n.st with
 |none=>exact⟨rfl,rfl⟩
 |some i=>exact⟨rfl,by simp[stV,eqV]⟩
section
variable{P:Program}{w:World}{K:PySem.W.Frag}{mg:Str→Option Value}{base:Heap}{f:Addr}
def pJ:Sp:=λvs H Q _=>∃t k zs pk,vs=[.ref t,.int k]∧Tre H t zs∧0≤k∧k≤60∧Fold zs k∧TW.PathTo (nds zs) k pk∧∀l cs H',Same H H'→H' l=some (.lst (cs.map λc=>V.ref c.a))→ShAt H' zs k pk cs→Q (.ref l) H'
theorem tH:FnScope ["tree","number","nodes","start"] ["tree","number"] (ag gG):=fsc
theorem xK{CN0:Addr}{fd:FuncData}(F:Fun K "shape" "shape" gG f fd)(T:Txt mg)(CB:Has P w K mg base 1 "by_number" ["tree"] gH)(CF:Has P w K mg base 2 "check_folder" ["nodes","number"] jW)(CU:Has P w K mg base 1 "path_up" ["nodes","number"] mE)(CL:gF P w K mg base 2 "below" ["tree","number"] (mw CN0)):FnOk P w K mg base CX0 3 f fd ["tree","number"] pJ:=by
 obtain⟨fB,fdB,GB,mB,kB,bB⟩:=CB;obtain⟨fF,fdF,GF,mF,kF,bF⟩:=CF;obtain⟨fU,fdU,GU,mU,kU,bU⟩:=CU;obtain⟨fL,fdL,GL,mL,kL,bL⟩:=CL;refine F.ok tH (λvs H Q E h=>?_) (λcdv A outer s H vs Q E hr h=>?_)
 ·obtain⟨t,k,zs,pk,rfl,_⟩:=h;rfl
 ·obtain⟨t,k,zs,pk,rfl,tr,k0,k1,hk,hpk,q⟩:=h;have hr1:Room 1 _:=hr.mono (by decide);refine⟨_,ah (au (i:=2) tH.nd rfl (Or.inr rfl) (ak GB hr1 rfl mB kB bB .nil ap (aa (pv 0) ae)))
   (ah (cp (ak GF hr rfl mF kF bF .nil ap (aa (pv 2) (aa (pv 1) ae))))
   (ah (au (i:=3) tH.nd rfl (Or.inr rfl) (am aC rfl T.len boot_len (aa (ak GU hr1 rfl mU kU bU .nil ap (aa (pv 2) (aa (pv 1) ae))) ae)))
   (al (ar (am (cN (la hr)) rfl T.sorted boot_sorted (aa (ce (N:=["inner","nodes","start"]) (cl:=[("start",s.heap.objs.size+2),("nodes",s.heap.objs.size+1)]) (k:=1) (js:=[2,3]) (g:=aO 0) rfl
    (LcOk.mk' ["start","nodes"] rfl rfl (by decide +kernel) (by decide +kernel) ?hcl rfl (by decide +kernel)) rfl ?hj (cP (ak GL hr rfl mL kL bL .nil jf (aa (pv 0) (aa (pv 1) ae)))) (λs H fp=>ao (i:=0) (show(["inner","nodes","start"]:List Str).Nodup by decide +kernel) rfl (Or.inl rfl) (Or.inr rfl))
    (λs H fp=>bq (aa (cG (r:=yS K) (eE.or dQ) (ak (X:=bV _ _ _ _ _ _ _) GU hr1 rfl mU kU bU .nil ap (aa (pv 1) (aa (pv 0) ae))) (cR (pv 2)) dM)
     (aa (aH (r:=ck K) ay (bY (cu hr) (pv 1) (pv 0) (λ_ _=>rfl)) aj (λ_ _=>rfl)) ae)))) ae)))))),?_⟩
  case hcl =>
   intro y hy;rcases mem_cons.mp hy with e|hy
   ·rw[e];rfl
   ·rcases mem_cons.mp hy with e|hy
    ·rw[e];rfl
    ·cases hy
  case hj =>
   intro i j x h1 h2
   match i,h1,h2 with
   |0,h1,h2 =>
    cases h1;cases h2;exact⟨rfl,Or.inr (Or.inl rfl),(show((ag gG).names.lookup ("nodes":Str)≠some NameKind.local)by decide +kernel),by first|exact Or.inl rfl|exact Or.inr rfl⟩
   |1,h1,h2 =>
    cases h1;cases h2;exact⟨rfl,Or.inr (Or.inl rfl),(show((ag gG).names.lookup ("start":Str)≠some NameKind.local)by decide +kernel),by first|exact Or.inl rfl|exact Or.inr rfl⟩
   |i+2,h1,h2=>simp at h1
  have hl:=tr.len;have hnd:=bJ tr.tr;have hge:=pI tr.tr hk;refine⟨_,rfl,t,zs,rfl,tr.tup,tr.nod,by omega,hnd,λd H1 s1 nd1=>?_⟩;refine⟨_,rfl,_,rfl,d,k,zs,rfl,nd1,tr.nod.same s1,hnd,k0,k1,hk,?_⟩;have tr1:=tr.same s1;refine⟨_,rfl,_,rfl,d,k,zs,pk,rfl,nd1,tr1.nod,tr.tr,by omega,hpk,λt1 H2 s2 ht1=>?_⟩;refine⟨t1,_,rfl,.inr (SqT.of ht1),?_⟩;rw[length_map];have tr2:=tr1.same s2;refine⟨_,rfl,_,rfl,t,k,zs,rfl,tr2,k0,k1,λ_ ms lb H3 s3 hup hml hmm hlb=>?_,λh0 hno=>?_⟩
  case refine_2 =>
   obtain⟨z',hz',e,_⟩:=hk.resolve_left h0;exact absurd e (hno z' hz')
  have em:=pF tr.tr hup hmm;subst em;have hbl:=gK zs k;have nd3:=(nd1.same s2).same s3;have tr3:=tr2.same s3;refine⟨lb,rfl,⟨_,SqL.of hlb⟩,λp hp=>?_⟩;refine bH (fr:=[some (.ref d),some (.int (pk.length:Int))]) (bel zs k) (λz=>V.int z.2.num) (by omega) hp (dW (by rw[show((bel zs k).map λz=>V.int z.2.num)=(nums (bel zs k)).map V.int from jn _];exact SqL.of hlb)) rfl (λz y H'=>∃c:Cv,y=.ref c.a∧c.a≠p∧c.t≠p∧iq H' c∧c.v=stV z.2.st∧TW.PathTo (nds zs) z.2.num (pk++c.p)) (λz y H H' h ex=>?_) (λz H' kk mz s4 hpl hk=>?_) (λys H4 s4 hp4 hys=>?_)
  ·obtain⟨c,e,n1,n2,⟨h1,h2⟩,h3,h4⟩:=h;exact⟨c,e,n1,n2,⟨ex _ _ n1 h1,ex _ _ n2 h2⟩,h3,h4⟩
  ·have hz:=fb mz;obtain⟨pz,hpz⟩:=TW.PathTo.ex tr.tr (aw hz);obtain⟨r,er⟩:=tF tr.tr hge hpk mz hpz;subst er;refine⟨_,rfl,_,rfl,d,z.2.num,zs,pk++r,rfl,nd3.same s4,(tr3.same s4).nod,tr.tr,by omega,hpz,λt2 H5 s5 ht2=>?_⟩;refine⟨_,rfl,_,rfl,vt ht2 λt3 H6 s6 ht3=>?_⟩;have s46:=(s4.trans s5).trans s6;refine⟨_,rfl,_,rfl,d,_,rfl,(nd3.same s46).get hnd hz,z.1,_,_,_,rfl,rfl,SqT.of ((tr3.same s46).nod z hz),at3 z.2,le2,λq1 hq1=>?_⟩;have s7:=af (o:=.tup [.ref t3,stV z.2.st]) hq1;have hpl6:∃ys,H6 p=some (.lst ys):=let⟨ys,e⟩:=hpl;⟨ys,s6 _ _ (s5 _ _ e)⟩;have ntp:t3≠p:=λe=>by obtain⟨ys,e'⟩:=hpl6;rw[←e,ht3]at e';cases e'
   exact hk _ _ ((s5.trans s6).trans s7) ⟨⟨q1,t3,r,stV z.2.st⟩,rfl,cJ hpl6 hq1,ntp,⟨ac,s7 _ _ ht3⟩,rfl,hpz⟩
  ·obtain⟨bs,e1,e2,e3⟩:=cw (val:=λc:Cv=>V.ref c.a) (S:=λ(z:Addr×Nd) (c:Cv)=>iq H4 c∧c.v=stV z.2.st∧TW.PathTo (nds zs) z.2.num (pk++c.p)) hys (λz y _ ⟨c,e,_,_,h1,h2,h3⟩=>⟨c,e,h1,h2,h3⟩);have hbm:∀b∈bs,b.1∈bel zs k:=λb hb=>by rw[←e1];exact mem_map.mpr ⟨b,hb,rfl⟩
   have hbn:(bs.map λb=>b.1.2.num).Pairwise λa b:Int=>a<b:=by
    have:=lc tr.tr (isB zs k);rw[show zs.filter (isB zs k)=bs.map (·.1)from e1.symm]at this;unfold nums at this;rw[map_map]at this;exact this
   have hpn:((bs.map (·.2)).map (·.p)).Nodup:=by
    rw[map_map];unfold Nodup;rw[pairwise_map]at hbn⊢;refine hbn.imp_of_mem λ{a b} ha hb hab e=>?_;have h1:=(e3 a ha).2.2;have h2:=(e3 b hb).2.2;rw[show a.2.p=b.2.p from e]at h1;have:=h1.key tr.tr h2;omega
   have hbl2:(bs.map (·.2)).length≤30:=by rw[length_map];have:=congrArg length e1;rw[length_map]at this;omega
   have e2':ys=(bs.map (·.2)).map λc=>V.ref c.a:=by rw[e2,map_map];rfl
   rw[e2']at hp4;refine⟨p,bs.map (·.2),rfl,hp4,λc hc=>by obtain⟨b,hb,rfl⟩:=mem_map.mp hc;exact(e3 b hb).1,λc hc=>by obtain⟨b,hb,rfl⟩:=mem_map.mp hc;rw[(e3 b hb).2.1];exact tG _,hpn,by omega,λcs' hpm hup2 p2 hp2=>?_⟩;have s5:=af (o:=.lst (cs'.map λc=>V.ref c.a)) hp2;refine q p2 cs' _ ((((s1.trans s2).trans s3).trans s4).trans s5) ac ⟨λc hc=>?_,hup2,λpp v=>?_⟩
   ·obtain⟨b,hb,rfl⟩:=mem_map.mp (hpm.mem_iff.mp hc);exact⟨s5 _ _ (e3 b hb).1.1,s5 _ _ (e3 b hb).1.2⟩
   ·constructor
    ·rintro⟨c,hc,rfl,rfl⟩;obtain⟨b,hb,rfl⟩:=mem_map.mp (hpm.mem_iff.mp hc);exact⟨b.1,hbm b hb,(e3 b hb).2.1,(e3 b hb).2.2⟩
    ·rintro⟨z,hz,rfl,hpz⟩;have:z∈bs.map (·.1):=by rw[e1];exact hz
     obtain⟨b,hb,rfl⟩:=mem_map.mp this;refine⟨b.2,hpm.mem_iff.mpr (mem_map.mpr ⟨b,hb,rfl⟩),?_,(e3 b hb).2.1⟩;have:=(e3 b hb).2.2.uniq tr.tr hpz;exact List.append_cancel_left this
end
def letters:Str:="abcdefghijklmnopqrstuvwxyz"
def inL(c:Nat):Bool:=!(Builtin.Str.occurrences letters ⟨#[c]⟩ 0 letters.length 1).isEmpty
def tI(x:Str):Bool:=decide (1≤x.length)&&decide (x.length≤5)&&x.cps.toList.all inL
theorem xi.b{x:Str}(h:xi x):tI x=true:=by rcases h with e|e|e|e<;>rw[e]<;>decide +kernel
section
variable{P:Program}{w:World}{K:PySem.W.Frag}{mg:Str→Option Value}{base:Heap}
def iD:Sp:=λvs H Q _=>∃i,vs=[.int i]∧Q (.bl true) H
theorem vw:FnScope ["thing"] ["thing"] (ag nP):=fsc
theorem tJ{f:Addr}{fd:FuncData}(F:Fun K "is_whole" "is_whole" nP f fd)(T:Txt mg):FnOk P w K mg base CX0 1 f fd ["thing"] iD:=by
 refine F.ok vw (λvs H Q E h=>?_) (λcdv A outer s H vs Q E hr h=>?_)
 ·obtain⟨v,rfl,_⟩:=h;rfl
 ·obtain⟨i,rfl,k⟩:=h;refine⟨_,al (ar (iI (am cH rfl T.isin boot_isinstance (aa (pv 0) (aa (eT (v:=.ty "int") rfl T.int boot_int rfl) ae)))
   (iH (wy (am cH rfl T.isin boot_isinstance (aa (pv 0) (aa (eT (v:=.ty "bool") rfl T.bool boot_bool rfl) ae))))))),?_⟩
  exact⟨_,rfl,_,_,_,_,rfl,.int i,(by kernel_rfl:_=some true),_,rfl,cC ⟨_,rfl,_,_,_,_,rfl,.int i,(by kernel_rfl:_=some false),_,rfl,k⟩⟩
def og:Sp:=λvs H Q _=>∃x,vs=[.str x]∧tI x=true∧∀H',Same H H'→Q (.bl true) H'
theorem xL:FnScope ["thing"] ["thing"] (ag sO):=fsc
theorem vx{f:Addr}{fd:FuncData}(F:Fun K "is_name" "is_name" sO f fd)(T:Txt mg):FnOk P w K mg base CX0 1 f fd ["thing"] og:=by
 obtain⟨tl,hL⟩:=T.letters;obtain⟨tn,hN⟩:=T.longest;refine F.ok xL (λvs H Q E h=>?_) (λcdv A outer s H vs Q E hr h=>?_)
 ·obtain⟨v,rfl,_⟩:=h;rfl
 ·obtain⟨x,rfl,hb,k⟩:=h;refine⟨_,ah (bu (PW.pt (pw_or (cX (cW (am cH rfl T.isin boot_isinstance (aa (pv 0) (aa (eT (v:=.ty "str") rfl T.str boot_str rfl) ae))) (λ_=>rfl)))
    (pw_or1 (cX (rC oE oE aj (am kq rfl T.len boot_len (aa (pv 0) ae)) (aU (v:=.int 5) rfl hN ⟨_,rfl⟩))))))
   (al (ar cq)) aR)
   (al (ar (am (iY rfl) rfl T.all boot_all (aa (ce (N:=["sign"]) (k:=1) (js:=[]) rfl (cf rfl (by decide +kernel) (by decide +kernel) (by decide +kernel)) rfl (λi j x h=>by simp at h)
    (wX (pv 0)) (λs H fp=>ao (i:=0) (show(["sign"]:List Str).Nodup by decide +kernel) rfl (Or.inl rfl) (Or.inr rfl)) (λs H fp=>cQ qb (pv 0) (aU (v:=.str letters) rfl hL ⟨_,rfl⟩) (by with_unfolding_all rfl))) ae)))),?_⟩
  unfold tI at hb;rw[and_eq_true,and_eq_true,decide_eq_true_eq,decide_eq_true_eq]at hb;obtain⟨⟨a1,a2⟩,a3⟩:=hb;refine⟨_,rfl,_,_,_,_,rfl,.str x,(by kernel_rfl:_=some true),_,rfl,be ?_⟩;refine⟨_,rfl,x,rfl,le_of_lt (aF (by omega)),_,_,rfl,rfl,_,rfl,?_⟩;have h1:decide ((1:Int)≤(x.length:Int))=true:=decide_eq_true (by omega);have h2:decide ((x.length:Int)≤5)=true:=decide_eq_true (by omega);rw[h1];refine cC ⟨_,_,rfl,rfl,_,rfl,?_⟩;rw[h2];refine be ?_;have hsz:x.cps.size=x.length:=rfl;refine⟨_,rfl,x,rfl,λp hp=>?_⟩;refine lV (k:=1) (js:=[]) (J:=Its x) (p:=p) x.cps.size (by omega) (λi ys σ' H'=>ys=((x.cps.toList.take i).map inL).map V.bl∧σ'.length=1∧Same H H'∧H' p=some (.lst ys))
   ⟨rfl,rfl,af hp,ac⟩ (λi ys σ' H' h=>?_) (λi ys σ' H' hi h=>hi) (λys σ' H' h=>?_) (λi ys σ' H' hi h v H2 hy=>?_) ?_ ?_
  ·rw[h.1,length_map,length_map,length_take];omega
  ·obtain⟨e1,_,s1,e2⟩:=h;have e3:ys=(x.cps.toList.map inL).map V.bl:=by rw[e1,take_of_length_le (by simp)]
   subst e3;refine⟨le_refl _,_,_,rfl,SqL.of e2,?_⟩;have e4:(x.cps.toList.map inL).all id=true:=by rw[all_map];exact a3
   rw[e4];exact k _ s1
  ·obtain⟨e1,e0,s1,e2⟩:=h;obtain⟨rfl,c,hc,rfl⟩:=hy;refine⟨_,getElem?_set_self (by omega),_,_,rfl,rfl,e2,?_,by simpa using e0,aG hp s1,ac⟩
   have hc':x.cps.toList[i]?=some c:=by simpa using hc
   rw[e1,take_succ,hc'];simp[inL]
  ·intro _ _ _ _ _ m q;exact m _ _ q
  ·rintro _ _ _ _ m ⟨v,hv,i,j,a1,a2,q⟩;exact⟨v,hv,i,j,a1,a2,m _ _ q⟩
def lg:Sp:=λvs H Q _=>∃o,vs=[stV o]∧xj o∧Q (.bl true) H
theorem vz:FnScope ["thing"] ["thing"] (ag nQ):=fsc
theorem tK{f:Addr}{fd:FuncData}(F:Fun K "is_stamp" "is_stamp" nQ f fd)(T:Txt mg)(CW:Has P w K mg base 1 "is_whole" ["thing"] iD):FnOk P w K mg base CX0 2 f fd ["thing"] lg:=by
 obtain⟨fW,fdW,GW,mW,kW,bW⟩:=CW;obtain⟨tg,hG⟩:=T.greatest;refine F.ok vz (λvs H Q E h=>?_) (λcdv A outer s H vs Q E hr h=>?_)
 ·obtain⟨v,rfl,_⟩:=h;rfl
 ·obtain⟨o,rfl,ho,k⟩:=h;refine⟨_,al (ar (yj (cQ km (pv 0) fw (aB _)) (iH (iI (ak GW hr rfl mW kW bW .nil ap (aa (pv 0) ae)) (iH (rB oE oE aj (pv 0) (aU (v:=.int 999) rfl hG ⟨_,rfl⟩))))))),?_⟩;refine⟨_,rfl,rfl,_,rfl,?_⟩;cases o with
  |none=>exact cC k
  |some i =>
   obtain⟨a1,a2⟩:=ho i rfl;refine be ⟨_,rfl,_,rfl,_,rfl,cC ?_⟩;refine⟨_,rfl,_,_,rfl,rfl,_,rfl,?_⟩;have h1:decide (0≤i)=true:=decide_eq_true a1;rw[h1];refine cC ⟨_,_,rfl,rfl,?_⟩;have h2:decide (i≤999)=true:=decide_eq_true a2;show Q (V.bl (decide (i≤999))) H;rw[h2];exact k
def om:Sp:=λvs H Q _=>∃a n,vs=[.ref a]∧H a=some (.tup (vals n))∧ip n∧∀H',Same H H'→Q (.bl true) H'
theorem xM:FnScope ["thing"] ["thing"] (ag sP):=fsc
theorem vA{f:Addr}{fd:FuncData}(F:Fun K "is_node" "is_node" sP f fd)(T:Txt mg)(CW:Has P w K mg base 1 "is_whole" ["thing"] iD)(CN:Has P w K mg base 1 "is_name" ["thing"] og)(CS:Has P w K mg base 2 "is_stamp" ["thing"] lg):FnOk P w K mg base CX0 3 f fd ["thing"] om:=by
 obtain⟨fW,fdW,GW,mW,kW,bW⟩:=CW;obtain⟨fN,fdN,GN,mN,kN,bN⟩:=CN;obtain⟨fS,fdS,GS,mS,kS,bS⟩:=CS;refine F.ok xM (λvs H Q E h=>?_) (λcdv A outer s H vs Q E hr h=>?_)
 ·obtain⟨a,n,rfl,_⟩:=h;rfl
 ·obtain⟨a,n,rfl,e,ok,k⟩:=h;obtain⟨o1,o2,o3,o4⟩:=ok;have hr1:Room 1 _:=hr.mono (by decide);refine⟨_,ah (bu (PW.pt (pw_or (cX (cW (am cH rfl T.isin boot_isinstance (aa (pv 0) (aa (eT (v:=.ty "tuple") rfl T.tuple boot_tuple rfl) ae))) (λ_=>rfl)))
    (pw_or1 (av eD (am aC rfl T.len boot_len (aa (pv 0) ae)) aj (aB _))))) (al (ar cq)) aR)
   (ah (bu (PW.pt (pw_or (cX (cW (ak GW hr1 rfl mW kW bW .nil ap (aa (aH ay (pv 0) aj (λ_ _=>rfl)) ae)) (λ_=>rfl))) (pw_or1 (av rq (aH ay (pv 0) aj (λ_ _=>rfl)) aj (aB _))))) (al (ar cq)) aR)
   (al (ar (iI (ak GW hr1 rfl mW kW bW .nil ap (aa (aH ay (pv 0) aj (λ_ _=>rfl)) ae)) (iI (ak GN hr1 rfl mN kN bN .nil ap (aa (aH ay (pv 0) aj (λ_ _=>rfl)) ae))
    (iH (ak GS hr rfl mS kS bS .nil ap (aa (aH ay (pv 0) aj (λ_ _=>rfl)) ae)))))))),?_⟩
  refine⟨_,rfl,_,_,_,_,rfl,.tup e,(by kernel_rfl:_=some true),_,rfl,be ?_⟩;refine⟨_,rfl,a,_,rfl,.inr (SqT.of e),rfl,_,rfl,?_⟩;refine yC rfl ?_;refine⟨_,rfl,a,_,_,_,rfl,rfl,SqT.of e,at0 n,_,rfl,_,rfl,be ?_⟩;refine⟨_,rfl,a,_,_,_,rfl,rfl,SqT.of e,at0 n,_,_,rfl,rfl,_,rfl,?_⟩;have h1:decide (n.num<1)=false:=decide_eq_false (by omega);rw[h1];refine be ?_;refine⟨_,rfl,a,_,_,_,rfl,rfl,SqT.of e,at1 n,_,rfl,_,rfl,cC ?_⟩;refine⟨_,rfl,a,_,_,_,rfl,rfl,SqT.of e,at2 n,_,rfl,o3.b,λH1 s1=>⟨_,rfl,cC ?_⟩⟩;exact⟨_,rfl,a,_,_,_,rfl,rfl,SqT.of (s1 _ _ e),at3 n,n.st,rfl,o4,k H1 s1⟩
def ltP(p:Nd×Nd):Bool:=decide (p.1.num<p.2.num)
def oo:Sp:=λvs H Q _=>∃t zs,vs=[.ref t]∧H t=some (.tup (aI zs))∧At H zs∧zs.length≤100∧∀H',Same H H'→Q (.bl (TW.adj (nds zs))) H'
theorem xN:FnScope ["nodes"] ["nodes"] (ag sQ):=fsc
theorem vB{f:Addr}{fd:FuncData}(F:Fun K "are_rising" "are_rising" sQ f fd)(T:Txt mg):FnOk P w K mg base CX0 1 f fd ["nodes"] oo:=by
 refine F.ok xN (λvs H Q E h=>?_) (λcdv A outer s H vs Q E hr h=>?_)
 ·obtain⟨t,zs,rfl,_⟩:=h;rfl
 ·obtain⟨t,zs,rfl,ht,hA,hl,k⟩:=h;refine⟨_,al (ar (am (iY rfl) rfl T.all boot_all (aa (ce (N:=["one","other"]) (k:=2) (js:=[]) (g:=rh K 2 (fY (aO 0) (fY (aO 1) rf))) rfl (cf rfl (by decide +kernel) (by decide +kernel) (by decide +kernel)) rfl (λi j x h=>by simp at h)
   (wY rfl T.zip (aa (pv 0) (aa (cG (SlR.or eE dQ) (pv 0) (cR aj) dM) ae)))
   (λs H fp=>gR (n:=2) rfl (bo (ao (i:=0) (show(["one","other"]:List Str).Nodup by decide +kernel) rfl (Or.inl rfl) (Or.inr rfl)) (bo (ao (i:=1) (show(["one","other"]:List Str).Nodup by decide +kernel) rfl (Or.inl rfl) (Or.inr rfl)) eU)))
   (λs H fp=>cQ rq (aH (r:=ck K) ay (pv 0) aj (λ_ _=>rfl)) (aH (r:=ck K) ay (pv 1) aj (λ_ _=>rfl)) (aB _))) ae))),?_⟩
  have main:∀(t2:Addr)(H1:Hp),Same H H1→H1 t2=some (.tup (aI (zs.drop 1)))→∀p,H1 p=none→∀Q':VK,(∀(q:Addr)(bs:List Bool)(H':Hp),Same H H'→H' q=some (.lst (bs.map V.bl))→bs.all id=TW.adj (nds zs)→Q' (.ref q) H') →
    LcW 2 [] (rh K 2 (fY (aO 0) (fY (aO 1) rf))) (tOp (rI0 λi j=>.bl (decide (i<j))) (tOp (ck K) (pU 0) (tC (.int 0))) (tOp (ck K) (pU 1) (tC (.int 0)))) (start ["nodes"] [.ref t]) Q' (Itz K t t2) H1 p:=by
   intro t2 H1 s1 ht2 p hp Q' k';have hp0:H p=none:=s1.free hp;have h1t:H1 t=some (.tup (aI zs)):=s1 _ _ ht;have hzl:((nds zs).zip ((nds zs).drop 1)).length=zs.length-1:=by rw[List.length_zip,length_drop,aq];omega
   refine lV (k:=2) (js:=[]) (J:=Itz K t t2) (p:=p) (zs.length-1) (by omega) (λi ys σ' H'=>ys=((((nds zs).zip ((nds zs).drop 1)).take i).map ltP).map V.bl∧σ'.length=2∧Same H1 H'∧H' p=some (.lst ys))
    ⟨rfl,rfl,af hp,ac⟩ (λi ys σ' H' h=>?_) (λi ys σ' H' hi h=>?_) (λys σ' H' h=>?_) (λi ys σ' H' hi h v H2 hy=>?_) ?_ ?_
   ·rw[h.1,length_map,length_map,length_take];omega
   ·obtain⟨_,_,s2,_⟩:=h;refine⟨_,_,_,_,SqT.of (s2 _ _ h1t),SqT.of (s2 _ _ ht2),dE (getElem?_eq_getElem (by omega)),dE (z:=zs[i+1]) ?_⟩;rw[List.getElem?_drop,show 1+i=i+1 by omega,getElem?_eq_getElem (by omega)]
   ·obtain⟨e1,_,s2,e2⟩:=h;refine⟨⟨_,_,SqT.of (s2 _ _ h1t),SqT.of (s2 _ _ ht2),.inr (by rw[aD,length_drop];exact le_refl _)⟩,?_⟩;rw[e1]at e2;refine k' p _ H' (s1.trans s2) e2 ?_;rw[take_of_length_le (by omega),all_map,TW.pc];rfl
   ·obtain⟨e1,e0,s2,e2⟩:=h;obtain⟨o1,o2,rfl⟩:=kX e0;obtain⟨q,x,y,hq,rfl,hx,hy',rfl⟩:=hy;have gx:=hx _ (SqT.of (s2 _ _ h1t));have gy:=hy' _ (SqT.of (s2 _ _ ht2));obtain⟨z1,g1,rfl⟩:=cn gx;obtain⟨z2,g2,rfl⟩:=cn gy;rw[List.getElem?_drop,show 1+i=i+1 by omega]at g2;have m1:=mem_of_getElem? g1;have m2:=mem_of_getElem? g2;have s3:Same H (upd H' q (.tup [.ref z1.1,.ref z2.1])):=(s1.trans s2).trans (af hq);refine⟨q,_,rfl,SqT.of ac,rfl,_,_,rfl,_,_,rfl,rfl,?_⟩;refine⟨_,rfl,z1.1,_,_,_,rfl,rfl,SqT.of (s3 _ _ (hA z1 m1)),at0 z1.2,_,rfl,z2.1,_,_,_,rfl,rfl,SqT.of (s3 _ _ (hA z2 m2)),at0 z2.2,_,_,rfl,rfl,aW hq e2,?_,rfl,aG hp (s2.trans (af hq)),ac⟩;have ge:((nds zs).zip ((nds zs).drop 1))[i]?=some (z1.2,z2.2):=by
     rw[List.getElem?_zip_eq_some];refine⟨by unfold nds;rw[getElem?_map,g1];rfl,by unfold nds;rw[List.getElem?_drop,getElem?_map,show 1+i=i+1 by omega,g2];rfl⟩
    rw[e1,take_succ,ge];simp[ltP]
   ·rintro _ _ _ _ _ m ⟨a,xs,h1,h2,h3,v1,r1,h4,v2,r2,h5,h6,q⟩;exact⟨a,xs,h1,h2,h3,v1,r1,h4,v2,r2,h5,h6,m _ _ q⟩
   ·rintro _ _ _ _ m ⟨v1,a1,p1,x1,i1,w1,b1,b2,b3,b4,v2,a2,p2,x2,i2,w2,c1,c2,c3,c4,i,j,d1,d2,q⟩;exact⟨v1,a1,p1,x1,i1,w1,b1,b2,b3,b4,v2,a2,p2,x2,i2,w2,c1,c2,c3,c4,i,j,d1,d2,m _ _ q⟩
  have fin:∀(q:Addr)(bs:List Bool)(H':Hp),Same H H'→H' q=some (.lst (bs.map V.bl))→bs.all id=TW.adj (nds zs)→∃a,∃bs':List Bool,[V.ref q]=[V.ref a]∧SqL K H' a (bs'.map V.bl)∧Q (.bl (bs'.all id)) H':=λq bs H' s' e eb =>
   ⟨q,bs,rfl,SqL.of e,by rw[eb];exact k _ s'⟩
  refine⟨_,rfl,_,rfl,_,rfl,?_⟩
  by_cases hz:zs=[]
  ·subst hz;refine .inr ⟨t,_,rfl,SqT.of ht,rfl,rfl,t,t,_,_,rfl,ht,ht,λp hp=>?_⟩;exact main t H (Same.refl H) ht p hp _ fin
  ·have hlen:1≤zs.length:=by
    cases zs with
    |nil=>exact absurd rfl hz
    |cons _ _=>simp
   refine .inl ⟨t,_,rfl,SqT.of ht,?_,λp1 hp1=>?_⟩
   ·rw[aD];intro h;have:HT.sIx zs.length 0 (some ((1:Nat):Int))=min 1 zs.length:=HT.cx _ _ _;have h1:HT.sIx zs.length 0 (some ((1:Nat):Int))=0:=h.1;omega
   ·have ecut:gh (aI zs) (some 1) none=aI (zs.drop 1):=by
     unfold gh;rw[HT.cY,aD,show HT.sIx zs.length 0 (some (1:Int))=min 1 zs.length from HT.cx _ _ 1,show min 1 zs.length=1 by omega];unfold aI;rw[←map_drop,←map_drop,take_of_length_le (by simp)]
    rw[ecut];refine⟨t,p1,_,_,rfl,aW hp1 ht,ac,λp hp=>?_⟩;exact main p1 _ (af hp1) ac p hp _ fin
def mH:Sp:=λvs H Q _=>∃t zs,vs=[.ref t]∧H t=some (.tup (aI zs))∧At H zs∧zs.length≤60∧∀b H',(b=true↔TW.aY (nds zs))→Same H H'→Q (.bl b) H'
theorem yT:FnScope ["nodes"] ["nodes"] (ag xk):=fsc
theorem xO{f:Addr}{fd:FuncData}(F:Fun K "have_own_places" "have_own_places" xk f fd)(T:Txt mg):FnOk P w K mg base CX0 1 f fd ["nodes"] mH:=by
 refine F.ok yT (λvs H Q E h=>?_) (λcdv A outer s H vs Q E hr h=>?_)
 ·obtain⟨t,zs,rfl,_⟩:=h;rfl
 ·obtain⟨t,zs,rfl,ht,hA,hl,k⟩:=h;refine⟨_,al (ar (cQ jC (am lS rfl T.len boot_len (aa (aS (jv rfl (cA hr)) rfl T.set rfl (aa (ce (N:=["node"]) (k:=1) (js:=[]) (g:=aO 0) rfl (cf rfl (by decide +kernel) (by decide +kernel) (by decide +kernel)) rfl (λi j x h=>by simp at h)
   (bD (pv 0))
   (λs H fp=>ao (i:=0) (show(["node"]:List Str).Nodup by decide +kernel) rfl (Or.inl rfl) (Or.inr rfl))
   (λs H fp=>bq (aa (aH (r:=ck K) ay (pv 0) aj (λ_ _=>rfl)) (aa (aH (r:=ck K) ay (pv 0) aj (λ_ _=>rfl)) ae)))) ae)) ae))
   (am aC rfl T.len boot_len (aa (pv 0) ae)) (aB _))),?_⟩
  refine⟨_,rfl,t,rfl,⟨_,SqT.of ht⟩,λp hp=>?_⟩;refine lV (k:=1) (js:=[]) (J:=Itt K t) (p:=p) zs.length (by omega) (λi ys σ' H'=>∃kss:List (Addr×List Key),ys=(kss.map (·.1)).map V.ref∧kss.map (·.2)=((nds zs).take i).map plK∧kss.length=i∧(∀z∈kss,H' z.1=some (.tup (z.2.map kV)))∧σ'.length=1∧Same H H'∧H' p=some (.lst ys))
    ⟨[],rfl,rfl,rfl,by simp,rfl,af hp,ac⟩ (λi ys σ' H' h=>?_) (λi ys σ' H' hi h=>?_) (λys σ' H' h=>?_) (λi ys σ' H' hi h v H2 hy=>?_) ?_ ?_
  ·obtain⟨kss,rfl,_,e,_⟩:=h;rw[length_map,length_map];omega
  ·obtain⟨_,_,_,_,_,_,s2,_⟩:=h;exact⟨_,_,SqT.of (s2 _ _ ht),dE (getElem?_eq_getElem hi)⟩
  ·obtain⟨kss,e1,e2,e3,e4,_,s2,e5⟩:=h;refine⟨⟨_,SqT.of (s2 _ _ ht),by rw[aD];exact le_refl _⟩,?_⟩;subst e1;refine⟨p,kss,rfl,SqL.of e5,e4,by omega,λn hn hiff q hq=>?_⟩;refine⟨q,n,rfl,ac,by omega,?_⟩;have s3:Same H (upd H' q (.ext (kE q n))):=s2.trans (af hq);refine⟨_,rfl,t,_,rfl,.inr (SqT.of (s3 _ _ ht)),rfl,?_⟩;refine k _ _ ?_ s3;rw[take_of_length_le (by rw[aq];exact le_refl _)]at e2;rw[e2,qK,e3]at hiff;rw[←hiff,decide_eq_true_eq,aD];constructor
   ·intro z;injection z with z;omega
   ·intro z;rw[z]
  ·obtain⟨kss,e1,e2,e3,e4,e0,s2,e5⟩:=h;obtain⟨o1,rfl⟩:=sK e0;obtain⟨rfl,hx⟩:=hy;have gx:=hx _ (SqT.of (s2 _ _ ht));obtain⟨z1,g1,rfl⟩:=cn gx;have m1:=mem_of_getElem? g1;refine⟨_,rfl,z1.1,_,_,_,rfl,rfl,SqT.of (s2 _ _ (hA z1 m1)),at1 z1.2,_,rfl,z1.1,_,_,_,rfl,rfl,SqT.of (s2 _ _ (hA z1 m1)),at2 z1.2,le2,λq hq=>?_⟩;refine⟨aW hq e5,kss++[(q,plK z1.2)],by rw[e1];simp,?_,by simp[e3],?_,rfl,aG hp (s2.trans (af hq)),ac⟩
   ·rw[map_append,e2,take_succ,show(nds zs)[i]?=some z1.2 by unfold nds;rw[getElem?_map,g1];rfl];simp
   ·intro z hz;have hqp:q≠p:=λz=>by rw[z,e5]at hq;cases hq
    rcases mem_append.mp hz with hz|hz
    ·have:=aW (o:=.tup [.int z1.2.par,.str z1.2.nm]) hq (e4 z hz);rw[ai]
     ·exact this
     ·intro e;rw[e,ai (symm hqp),e5]at this;cases this
    ·have e:z=(q,plK z1.2):=by simpa using hz
     subst e;rw[ai hqp];exact ac
  ·rintro _ _ _ _ _ m h;exact m _ _ h
  ·rintro _ _ _ _ m ⟨v1,b0,a1,x1,i1,w1,b1,b2,b3,b4,v2,c0,a2,x2,i2,w2,c1,c2,c3,c4,l,q⟩;exact⟨v1,b0,a1,x1,i1,w1,b1,b2,b3,b4,v2,c0,a2,x2,i2,w2,c1,c2,c3,c4,l,λp hp=>m _ _ (q p hp)⟩
theorem xP:FnScope ["thing"] ["thing"] (ag sR):=fsc
def dq:Sp:=λvs H Q _=>∃t zs,vs=[.ref t]∧H t=some (.tup (aI zs))∧At H zs∧zs.length≤60∧(∀n∈nds zs,ip n)∧∀b H',(b=true↔TW.Tree (nds zs))→Same H H'→Q (.bl b) H'
theorem tL{f:Addr}{fd:FuncData}(F:Fun K "is_tree" "is_tree" sR f fd)(T:Txt mg)(CN:Has P w K mg base 3 "is_node" ["thing"] om)(CR:Has P w K mg base 1 "are_rising" ["nodes"] oo)(CO:Has P w K mg base 1 "have_own_places" ["nodes"] mH)(CI:Has P w K mg base 1 "numbers_inside" ["nodes","folder"] mt):FnOk P w K mg base CX0 4 f fd ["thing"] dq:=by
 obtain⟨fN,fdN,GN,mN,kN,bN⟩:=CN;obtain⟨fR,fdR,GR,mR,kR,bR⟩:=CR;obtain⟨fO,fdO,GO,mO,kO,bO⟩:=CO;obtain⟨fI,fdI,GI,mI,kI,bI⟩:=CI;obtain⟨tt,hT⟩:=T.top;refine F.ok xP (λvs H Q E h=>?_) (λcdv A outer s H vs Q E hr h=>?_)
 ·obtain⟨v,φ,rfl,_⟩:=h;rfl
 ·obtain⟨a,zs,rfl,e,hA,hlen,hok,k⟩:=h;have hr1:Room 1 _:=hr.mono (by decide);refine⟨_,ah (bu (PW.pt (pw_or (cX (cW (am cH rfl T.isin boot_isinstance (aa (pv 0) (aa (eT (v:=.ty "tuple") rfl T.tuple boot_tuple rfl) ae))) (λ_=>rfl)))
    (pw_or1 (cX (cW (am (iY rfl) rfl T.all boot_all (aa (ce (N:=["part"]) (k:=1) (js:=[]) (g:=aO 0) rfl (cf rfl (by decide +kernel) (by decide +kernel) (by decide +kernel)) rfl (λi j x h=>by simp at h)
     (bD (pv 0)) (λs H fp=>ao (i:=0) (show(["part"]:List Str).Nodup by decide +kernel) rfl (Or.inl rfl) (Or.inr rfl))
     (λs H fp=>ak (X:=bV _ _ _ _ _ _ _) GN hr rfl mN kN bN .nil ap (aa (pv 0) ae))) ae)) (λ_=>rfl)))))) (al (ar cq)) aR)
   (ah (bu (PW.pt (pw_or (cX (cW (ak GR hr1 rfl mR kR bR .nil ap (aa (pv 0) ae)) (λ_=>rfl))) (pw_or1 (cX (cW (ak GO hr1 rfl mO kO bO .nil ap (aa (pv 0) ae)) (λ_=>rfl)))))) (al (ar cq)) aR)
   (al (ar (cQ jC (am aC rfl T.len boot_len (aa (ak GI hr1 rfl mI kI bI .nil ap (aa (pv 0) (aa (aU (v:=.int 0) rfl hT ⟨_,rfl⟩) ae))) ae)) (am aC rfl T.len boot_len (aa (pv 0) ae)) (aB _))))),?_⟩
  refine⟨_,rfl,_,_,_,_,rfl,.tup e,(by kernel_rfl:_=some true),_,rfl,be ?_⟩;refine⟨_,rfl,a,rfl,⟨_,SqT.of e⟩,λp hp=>?_⟩;refine bH (fr:=[]) zs (λz=>V.ref z.1) (by omega) hp (bE (by rw[aK];exact SqT.of e)) rfl (λz y _=>y=.bl true) (λz y H H' h _=>h) (λz H' kk mz s1 _ hk=>?_) (λys H1 s1 hp1 hys=>?_)
  ·exact⟨_,rfl,z.1,z.2,rfl,s1 _ _ (hA z mz),hok z.2 (aw mz),λH3 s3=>hk _ H3 s3 rfl⟩
  ·have ey:=aQ (f:=λ_:Addr×Nd=>V.bl true) hys (λz y _ h=>h);have e2:ys=(zs.map λ_=>true).map V.bl:=by rw[ey,map_map];rfl
   refine⟨p,zs.map λ_=>true,rfl,SqL.of (by rw[hp1,e2]),_,rfl,?_⟩;have et:(zs.map λ_=>true).all id=true:=by simp
   rw[et];refine be ?_;refine⟨_,rfl,a,zs,rfl,s1 _ _ e,hA.same s1,by omega,λH2 s2=>⟨_,rfl,?_⟩⟩;have s12:=s1.trans s2;cases hR:TW.adj (nds zs)with
   |false =>
    refine cC (cC (k false H2 ?_ s12));constructor
    ·intro h;cases h
    ·intro h;have:=(TW.kQ _).mpr h.rise;rw[hR]at this;cases this
   |true =>
    have hR':=(TW.kQ _).mp hR;refine be ⟨_,rfl,a,zs,rfl,s12 _ _ e,hA.same s12,hlen,λb H3 hb s3=>⟨_,rfl,?_⟩⟩;have s13:=s12.trans s3;cases b with
    |false =>
     refine cC (k false H3 ?_ s13);constructor
     ·intro h;cases h
     ·intro h;exact hb.mpr h.own
    |true =>
     have hO:=hb.mp rfl;refine be ⟨_,rfl,a,0,zs,rfl,s13 _ _ e,hA.same s13,by omega,λfd dn l H4 wk el s4=>?_⟩;have s14:=s13.trans s4;refine⟨l,_,rfl,.inl (SqL.of el),_,rfl,a,_,rfl,.inr (SqT.of (s14 _ _ e)),rfl,k _ H4 ?_ s14⟩;rw[decide_eq_true_eq,aD];have wa:=wk.all;rw[aq]at wa;constructor
     ·intro h;injection h with h
      refine⟨hR',hO,wa.mp ?_⟩;simp only[db,length_map]at h;omega
     ·intro h;have:=wa.mpr h.down;simp only[db,length_map];rw[this]
end
end TK
namespace L2
open PySem PySem.Spec PyProof.Rows
section
variable{X:Cx}
theorem mJ(i:Int)(h0:-1≤i)(h1:i≤99):(ofString (toString i)).length≤100:=by
 have key:∀n:Fin 101,(ofString (toString (((n.val:Nat):Int)-1))).length≤100:=by decide +kernel
 have:=key ⟨(i+1).toNat,by omega⟩;have e:(((i+1).toNat:Nat):Int)-1=i:=by omega
 rw[e]at this;exact this
theorem vC{e:Expr}{te:TE}{b:Nat}{p:Pos}{ps:List Expr}{t:TJ}(he:PE X e te)(h:PJ X ps b t):PJ X (.FormattedValue e (-1) none p::ps) (100+b) (λσ H k=>te σ H λv H1=>∃i:Int,v=.int i∧-1≤i∧i≤99∧t σ H1 k):=by
 intro out pins s σ H Q I hb hq;refine joinParts_cons (FormattedValue_plain (thn (he pins _ σ H _ I hq) λv s1 hpt=>?_));obtain⟨y,H1,I1,r1,q1⟩:=hpt;obtain⟨i,rfl,h0,h1,q⟩:=q1;obtain⟨tk,rfl⟩:=r1;have h2:=mJ i h0 h1;have hl:(out++ofString (toString i)).length=out.length+(ofString (toString i)).length:=strLen_append ..;refine formatField_int_small (lt_of_le_of_lt (Nat.log2_le_self _) (by omega)) ⟨le_of_lt (aF (by omega)),?_⟩;exact h _ pins _ σ H1 Q (I1.tok _) (by omega) q
end
theorem qR(a d:Value):argsOk "max" ⟨[a],[(ofString "default",d)]⟩:=by unfold argsOk;kernel_rfl
def GrI(ns:List Int)(n:Nat)(b:Int):Prop:=(∃i,i<n∧ns[i]?=some b)∧∀(j:Nat) x,j<n→ns[j]?=some x→x≤b
section
variable{P:Program}{w:World}{A:Around}{s:Shared}{l I S:Addr}{ns:List Int}{its:List Value}
theorem jZ(hh:A.handled=none)(hl:s.heap.IsList l its.toArray)(rv:ax (ns.map V.int) its)(hlI:l≠I)(hI:s.heap.objs.size≤I)(hS:s.heap.objs.size≤S)(hSI:S≠I){kw:List (Str×Value)}{R:Result→Shared→Prop}(hR:∀b t h tk,GrI ns ns.length b→(∀x o,s.heap.get? x=some o→h.get? x=some o)→R (.ok (.ret (.int b t))) {s with heap:=h,toks:=tk}):
  ∀(r j:Nat)(h:Heap)(tk:Nat)(b:Int)(tb:Tok)(c:Nat),ns.length-(j+1)=r→j+1≤ns.length→(∀x o,s.heap.get? x=some o→h.get? x=some o)→h.get? S=some (seqObj "list" #[.int b tb,.int b tb] c)→h.IsListIter I l (j+1)→GrI ns (j+1) b →
   codeAny (model P w) A (.builtin "max.loop" ⟨[.ref I,.none,.ref S],kw⟩) R {s with heap:=h,toks:=tk}:=by
 have hname:(toString "max"++toString ".loop":String)="max.loop":=by decide
 have hlen:its.length=ns.length:=by rw[←rv.length,length_map]
 have hsz:its.toArray.size=ns.length:=by rw[size_toArray];exact hlen
 have old:∀{h h':Heap},(∀x o,s.heap.get? x=some o→h.get? x=some o)→(∀b o,b∉[I]→h.get? b=some o→h'.get? b=some o)→∀x o,s.heap.get? x=some o→h'.get? x=some o:=λk k' x o e=>k' x o (by simpa using ne_of_lt (lt_of_lt_of_le (lt_size e) hI)) (k x o e)
 have oldS:∀{h:Heap}{g:Array Value→Array Value},(∀x o,s.heap.get? x=some o→h.get? x=some o)→∀x o,s.heap.get? x=some o→(h.update S (Obj.mapSeq g)).get? x=some o:=λ{h g} k x o e=>((SameBut.update h S (Obj.mapSeq g)).2 x (ne_of_lt (lt_of_lt_of_le (lt_size e) hS))).trans (k x o e);have hls:∀{h:Heap},(∀x o,s.heap.get? x=some o→h.get? x=some o)→h.IsList l its.toArray:=λk=>let⟨o,e,r⟩:=hl;⟨o,k _ _ e,r⟩;intro r
 induction r with
 |zero =>
  intro j h tk b tb c hr' hj kp nS hit hb;have hin:j+1=ns.length:=by omega
  have W:=Walks.list (prog:=P) (w:=w) (A:=A.in1) hh I l hlI its.toArray;refine codeAny_builtin entry_max_loop ?_;rw[Around.under_plainId plain_max_loop _];show wpAny _ A.in1 (seqItems? (.ref S) >>= _) _ _ _;refine wpAny_bind (wpAny_seqItems nS rfl ?_);show wpAny _ A.in1 (tryCatch (pyNext (.ref I)) _ >>= _) _ _ _;refine wpAny_bind (wpAny_tryCatch (W.done _ _ _ ⟨by rw[hsz,←hin];exact hit,hls kp⟩ λh' tk' hk'=>?_));have hS':=hk' S _ (by simpa using hSI) nS;show wpAny _ A.in1 (updateSeq S (λ_=>#[]) >>= _) _ _ _;refine wpAny_bind ?_;refine wpAny_updateSeq hS' rfl (wpAny_bind (wpAny_letGo (wpAny_pure ?_)));exact hR b tb _ _ (by rw[←hin];exact hb) (oldS (old kp hk'))
 |succ r ih =>
  intro j h tk b tb c hr' hj kp nS hit hb;have hlt:j+1<ns.length:=by omega
  have W:=Walks.list (prog:=P) (w:=w) (A:=A.in1) hh I l hlI its.toArray;refine codeAny_builtin entry_max_loop ?_;rw[Around.under_plainId plain_max_loop _];show wpAny _ A.in1 (seqItems? (.ref S) >>= _) _ _ _;refine wpAny_bind (wpAny_seqItems nS rfl ?_);show wpAny _ A.in1 (tryCatch (pyNext (.ref I)) _ >>= _) _ _ _;refine wpAny_bind (wpAny_tryCatch (W.item (j+1) _ _ _ (by rw[hsz];exact hlt) ⟨hit,hls kp⟩ λv h' tk' hP hst' hk'=>?_));have hv:its[j+1]?=some v:=by simpa using hP
  have hxj:ns[j+1]?=some ns[j+1]:=getElem?_eq_getElem hlt;obtain⟨v',hv',t2,ev'⟩:=rv.get (i:=j+1) (x:=.int ns[j+1]) (by rw[getElem?_map,hxj];rfl);have ev:v=.int ns[j+1] t2:=by rw[hv]at hv';rw[←ev'];exact Option.some.inj hv'
  subst ev;generalize ns[j+1]=x' at hxj;obtain⟨oI',hoI',hoc,hod⟩:=id hst'.1;have hS':=hk' S _ (by simpa using hSI) nS;have kp':=old kp hk';show wpAny _ A.in1 ((pure (Value.int x' t2):Sem Value) >>= _) _ _ _;refine wpAny_bind (wpAny_pure ?_);show wpAny _ A.in1 (tryCatch (holding [.int x' t2,.int x' t2] (richCompare .Gt (.int x' t2) (.int b tb) >>= _)) _ >>= _) _ _ _;refine wpAny_bind (wpAny_tryCatch (wpAny_holding (wpAny_bind (CmpOf.ints_gt (prog:=P) (w:=w) (A:=A.in1) (P:=λi v=>∃t,v=.int (if i=0 then x' else b) t) (λi=>if i=0 then x' else b) (λi v h=>h) 0 1 _ _ _ _ _ ⟨t2,rfl⟩ ⟨tb,rfl⟩ ?_))));refine wpAny_bind (wpAny_holding (wpAny_truthy_bool ?_));refine wpAny_bind (wpAny_letGo (wpAny_pure ?_))
  by_cases hb':x'>b
  ·have s1':=SameBut.update h' S (Obj.mapSeq λ_=>#[.int x' t2,.int x' t2]);obtain⟨c2,hc2⟩:∃c2,(h'.update S (Obj.mapSeq λ_=>#[.int x' t2,.int x' t2])).get? S=some (seqObj "list" #[.int x' t2,.int x' t2] c2):=⟨_,get?_update_seq hS' λ_=>#[.int x' t2,.int x' t2]⟩;have hif:((λi j:Nat=>decide ((if i=0 then x' else b)>(if j=0 then x' else b))) 0 1)=true:=decide_eq_true (by simpa using hb');rw[if_pos hif];refine wpAny_bind ?_;refine wpAny_updateSeq hS' rfl (wpAny_bind (wpAny_letGo ?_));rw[hname];refine wpAny_pure ⟨plainId_quiet plain_max_loop _,ih (j+1) _ _ x' t2 c2 (by omega) hlt (oldS kp') hc2 ⟨oI',(s1'.2 I hSI.symm).trans hoI',hoc,hod⟩ ⟨⟨j+1,by omega,hxj⟩,λj' x hj' hx=>?_⟩⟩
   by_cases e:j'=j+1
   ·subst e;rw[hxj]at hx;cases hx;exact Int.le_refl _
   ·have:=hb.2 j' x (by omega) hx;omega
  ·have hif:¬((λi j:Nat=>decide ((if i=0 then x' else b)>(if j=0 then x' else b))) 0 1)=true:=by
    rw[show((λi j:Nat=>decide ((if i=0 then x' else b)>(if j=0 then x' else b))) 0 1)=false from decide_eq_false (by simpa using hb')];simp
   rw[if_neg hif];refine wpAny_bind (wpAny_letGo ?_);rw[hname];obtain⟨⟨i,hi,hbi⟩,hmax⟩:=hb;refine wpAny_pure ⟨plainId_quiet plain_max_loop _,ih (j+1) _ _ b tb c (by omega) hlt kp' hS' ⟨oI',hoI',hoc,hod⟩ ⟨⟨i,by omega,hbi⟩,λj' x hj' hx=>?_⟩⟩
   by_cases e:j'=j+1
   ·subst e;rw[hxj]at hx;cases hx;omega
   ·exact hmax j' x (by omega) hx
end
def wg(td:TE)(σ:St)(Q:VK):List V→Hp→Prop
 |[v],H1=>∃l,∃ns:List Int,v=.ref l∧H1 l=some (.lst (ns.map V.int))∧td σ H1 λdv H2=>H2 l=some (.lst (ns.map V.int))∧(ns=[]→Q dv H2)∧∀b,GrI ns ns.length b→Q (.int b) H2
 |_,_=>False
def yU(te td:TE):TE:=λσ H Q=>te σ H λv H1=>wg td σ Q [v] H1
section
variable{X:Cx}
theorem vD{p dpos pos:Pos}{e ed:Expr}{te td:TE}(hcm:X.calm=true)(hg:Gl X "max")(hm:X.mg "max"=none)(he:PE X e te)(hd:PE X ed td)(hse:starEach [e] X.env=(false,eval e X.env)::starEach [] X.env:=by rfl)(hpl:(backTo pos (starEach [e] X.env)).any (·.1)=false:=by rfl):
  PE X (.Call (.Name "max" p) [e] [⟨some "default",ed,dpos⟩] pos) (yU te td):=by
 intro pins s σ H Q I h;refine wpAny_Call_Name_kw (dJ I hg hm boot_max ?_ (by decide) (by decide));refine PyProof.Rows.callWith_kw ?_ (by rw[hse];rfl) hpl rfl rfl;refine thn (aa he ae hse pos pins s σ H (wg td σ Q) I h) λus s1 hpt=>?_;obtain⟨vs,H1,I1,r,q0⟩:=hpt;obtain⟨v,rfl⟩:∃v,vs=[v]:=by
  match vs,q0 with
  |[v],_=>exact⟨v,rfl⟩
 obtain⟨l,ns,rfl,hl,q⟩:=q0;obtain⟨u,rfl,ru⟩:=ci r;cases ru;show wpAny _ _ (evalAll [(do let v ← eval ed X.env;standAt pos;pure v)]) _ _ s1;refine wpAny_evalAll_cons (wpAny_bind (thn (hd _ s1 σ H1 _ I1 q) λdu s3 ⟨dv,H2,J3,rd,hl2,q1,q2⟩=>wpAny_bind (wpAny_standAt (wpAny_pure (wpAny_evalAll_nil ?_)))));show wpAny _ _ (call (.builtin "max") [.ref l] [("default",du)]) _ _ s3;have hname:(toString "max"++toString ".loop":String)="max.loop":=by decide
 have hh:=J3.ok.hd hcm;obtain⟨_,its,n,rv,hol⟩:=J3.hok l _ hl2;have hls:s3.heap.IsList l its.toArray:=⟨_,hol,rfl,n,rfl⟩;have hll:l<s3.heap.objs.size:=lt_size hol;refine kmk_tree kind_max plain_max entry_max (qR _ _) ?_;show wpAny _ X.A.in1 (Builtin.Builtins.bindParams "max" ["key","default"] 0 ⟨[],[(ofString "default",du)]⟩ >>= _) _ _ s3;refine wpAny_bind (wpAny_of_eq (show Builtin.Builtins.bindParams "max" ["key","default"] 0 ⟨[],[(ofString "default",du)]⟩=pure [none,some du]from rfl) ?_);refine wpAny_bind (wpAny_pure ?_);refine wpAny_bind (wpAny_pyIter_list hls ?_);refine wpAny_bind (wpAny_newList ?_ (zero_le _));rw[hname];have hS:(s3.heap.push {cls:=.type "list_iterator",data:=.fields #[.ref l,.int 0 0]}).objs.size=s3.heap.objs.size+1:=size_push' ..;rw[hS];have gI:((s3.heap.push {cls:=.type "list_iterator",data:=.fields #[.ref l,.int 0 0]}).push (seqObj "list" #[] 0)).get? s3.heap.objs.size=some {cls:=.type "list_iterator",data:=.fields #[.ref l,.int 0 0]} :=
  get?_push_of_some _ (get?_push_size _ rfl)
 have gS:((s3.heap.push {cls:=.type "list_iterator",data:=.fields #[.ref l,.int 0 0]}).push (seqObj "list" #[] 0)).get? (s3.heap.objs.size+1)=some (seqObj "list" #[] 0):=by
  rw[←hS];exact get?_push_size _ rfl
 have kp0:∀b o,s3.heap.get? b=some o→((s3.heap.push {cls:=.type "list_iterator",data:=.fields #[.ref l,.int 0 0]}).push (seqObj "list" #[] 0)).get? b=some o:=λb o e=>get?_push_of_some _ (get?_push_of_some _ e);have hlI:l≠s3.heap.objs.size:=ne_of_lt hll;have hSI:s3.heap.objs.size+1≠s3.heap.objs.size:=ne_of_gt (Nat.lt_succ_self _);refine wpAny_pure ⟨plainId_quiet plain_max_loop _,?_⟩;have W:=Walks.list (prog:=X.prog) (w:=X.w) (A:=X.A.in1) hh s3.heap.objs.size l hlI its.toArray;have hlen:its.length=ns.length:=by rw[←rv.length,length_map]
 have hsz':its.toArray.size=ns.length:=by rw[size_toArray];exact hlen
 refine codeAny_builtin entry_max_loop ?_;rw[Around.under_plainId plain_max_loop _];show wpAny _ X.A.in1 (seqItems? (.ref _) >>= _) _ _ _;refine wpAny_bind (wpAny_seqItems gS rfl ?_);show wpAny _ X.A.in1 (tryCatch (pyNext (.ref s3.heap.objs.size)) _ >>= _) _ _ _;have hst:((s3.heap.push {cls:=.type "list_iterator",data:=.fields #[.ref l,.int 0 0]}).push (seqObj "list" #[] 0)).IsListIter s3.heap.objs.size l 0∧((s3.heap.push {cls:=.type "list_iterator",data:=.fields #[.ref l,.int 0 0]}).push (seqObj "list" #[] 0)).IsList l its.toArray:=⟨⟨_,gI,rfl,rfl⟩,(hls.push _).push _⟩;have low:∀{h':Heap},(∀b o,b∉[s3.heap.objs.size]→((s3.heap.push {cls:=.type "list_iterator",data:=.fields #[.ref l,.int 0 0]}).push (seqObj "list" #[] 0)).get? b=some o→h'.get? b=some o)→∀b o,s3.heap.get? b=some o→h'.get? b=some o:=λk b o e=>k b o (by simpa using ne_of_lt (lt_size e)) (kp0 b o e)
 cases ns with
 |nil =>
  have hz:its.toArray.size=0:=hsz';refine wpAny_bind (wpAny_tryCatch (W.done _ _ _ (by rw[hz];exact hst) λh' tk' hk'=>?_));refine wpAny_bind (wpAny_rule (wpAny_pure ?_));exact⟨dv,H2,J3.kept (t':=tk') (low hk'),rd,q1 rfl⟩
 |cons x0 xr =>
  refine wpAny_bind (wpAny_tryCatch (W.item 0 _ _ _ (by rw[hsz'];simp) hst λv h' tk' hP hst' hk'=>?_));have hv:its[0]?=some v:=by simpa using hP
  obtain⟨v',hv',t2,ev'⟩:=rv.get (i:=0) (x:=.int x0) rfl;have ev:v=.int x0 t2:=by rw[hv]at hv';rw[←ev'];exact Option.some.inj hv'
  subst ev;obtain⟨oI',hoI',hoc,hod⟩:=id hst'.1;have hS':=hk' (s3.heap.objs.size+1) _ (by simpa using hSI) gS;show wpAny _ X.A.in1 ((pure (Value.int x0 t2):Sem Value) >>= _) _ _ _;refine wpAny_bind (wpAny_pure ?_);have s1':=SameBut.update h' (s3.heap.objs.size+1) (Obj.mapSeq λ_=>#[.int x0 t2,.int x0 t2]);obtain⟨c2,hc2⟩:∃c2,(h'.update (s3.heap.objs.size+1) (Obj.mapSeq λ_=>#[.int x0 t2,.int x0 t2])).get? (s3.heap.objs.size+1)=some (seqObj "list" #[.int x0 t2,.int x0 t2] c2):=⟨_,get?_update_seq hS' λ_=>#[.int x0 t2,.int x0 t2]⟩;show wpAny _ X.A.in1 (updateSeq (s3.heap.objs.size+1) (λ_=>#[.int x0 t2,.int x0 t2]) >>= _) _ _ _;refine wpAny_bind ?_;refine wpAny_updateSeq hS' rfl ?_;rw[hname];refine wpAny_pure ⟨plainId_quiet plain_max_loop _,jZ (s:=s3) hh hls rv hlI (le_refl _) (le_succ _) hSI (λb t h tk hb kp=>⟨.int b,H2,J3.kept (t':=tk) kp,⟨t,rfl⟩,q2 b hb⟩) _ 0 _ _ x0 t2 c2 rfl (by simp) (λb o e=>(s1'.2 b (ne_of_lt (lt_succ_of_lt (lt_size e)))).trans (low hk' b o e)) hc2 ⟨oI',(s1'.2 _ hSI.symm).trans hoI',hoc,hod⟩ ⟨⟨0,Nat.zero_lt_succ _,rfl⟩,λj' x hj' hx=>?_⟩⟩;have e:j'=0:=by omega
  subst e;cases hx;exact Int.le_refl _
end
end L2
namespace PySem
open Sem (wp)
open AutoSeq1 (wpAny_loadPart')
theorem EN.typeCall(a b:Value):checkTypeCall "enumerate" ⟨[a],[("start",b)]⟩=pure ():=by kernel_rfl
def EN.HI(i:Int):Prop:=0≤i∧i≤1000
theorem EN.newCall(a b:Value):checkBuiltinCall "enumerate.__new__" ⟨[.type "enumerate",a],[("start",b)]⟩=pure ():=by kernel_rfl
theorem EN.initArgs(o a b:Value):argsOk "object.__init__" ⟨[o,a],[("start",b)]⟩:=by unfold argsOk;kernel_rfl
open AutoSeq1 (wpAny_loadPart')
theorem EN.new(l:Addr)(items:Array Value)(n:Nat)(dct:Option Addr)(sl:Array (Option Value))(i:Int)(t:Tok)(hi:EN.HI i):
  Meets (Builtin.«enumerate.__new__» ⟨[.type "enumerate",.ref l],[("start",.int i t)]⟩) (λ_ R s=>s.heap.get? l=some {cls:=.type "list",dict:=dct,data:=.seq items n,slots:=sl} ∧
   R (.ok (.ret (.ref (s.heap.push {cls:=.type "list_iterator",data:=.fields #[.ref l,.int 0 0]}).objs.size)))
    {s with heap:=(s.heap.push {cls:=.type "list_iterator",data:=.fields #[.ref l,.int 0 0]}).push {cls:=.type "enumerate",data:=.fields #[.none,.bool false,.ref s.heap.objs.size,rawInt i,.none,.none]}}) :=
 .of_wp λprog w A R s h=>by
  obtain⟨hp,g,d,tk,os⟩:=s;obtain⟨hl,h⟩:=h;have hsub:=sub_enumerate;have hL:Heap.IsList (Shared.heap ⟨hp,g,d,tk,os⟩) l items:=⟨_,hl,rfl,n,rfl⟩
  wp_walk using wpAny_loadPart' hl
  have hf:Builtin.SmallTypes.fitsIndex i=true:=by
   unfold Builtin.SmallTypes.fitsIndex;obtain⟨h0,h1⟩:=hi;have e1:decide (-(2 ^ 63:Int)≤i)=true:=decide_eq_true (by omega);have e2:decide (i<(2 ^ 63:Int))=true:=decide_eq_true (by omega);rw[e1,e2];rfl
  refine wpAny_stack_any λst=>wpAny_pure ?_
  split
  ·rename_i c _ _ _ _ _
   cases (c==type "enumerate")
   ·wp_walk using wpAny_loadPart' hl,wpAny_pyIter_list hL
    exact⟨_,rfl,h⟩
   ·wp_walk using wpAny_loadPart' hl,wpAny_pyIter_list hL
    exact⟨_,rfl,h⟩
  ·wp_walk using wpAny_loadPart' hl,wpAny_pyIter_list hL
   exact⟨_,rfl,h⟩
theorem EN.init{self a b:Value}(hl:typeLookup (.type "enumerate") "__init__"=pure (some (.builtin "object.__init__")))(hm:Bind.madeBy (.type "enumerate")=pure (some "enumerate.__new__"))(hne:(some "enumerate.__new__" != some "object.__new__")=true):
  Meets (Builtin.«object.__init__» ⟨[self,a],[("start",b)]⟩) (λ_ R s=>s.TypeIs self "enumerate"∧R (.ok (.ret .none)) s):=by
 refine Meets.of_wp λprog w A R s hs=>?_;obtain⟨hT,hq⟩:=hs
 repeat (any_goals (first|assumption|wp_step))
 exact⟨_,rfl,hq⟩
theorem EN.call{prog:Program}{w:World}{A:Around}{E:Value→Shared→Prop}{s:Shared}{l:Addr}{items:Array Value}{i:Int}{t:Tok}{Q:Value→Shared→Prop}(hi:EN.HI i)(hL:s.heap.IsList l items)(h:∀h',IsEnum h' (s.heap.objs.size+1) s.heap.objs.size i .none→h'.IsListIter s.heap.objs.size l 0→h'.objs.size=s.heap.objs.size+2 →
   (∀b o,s.heap.get? b=some o→h'.get? b=some o)→Q (.ref (s.heap.objs.size+1)) {s with heap:=h'}):
  wpAny (model prog w) A (call (.type "enumerate") [.ref l] [("start",.int i t)]) Q E s:=by
 obtain⟨⟨c,dct,dt,sl⟩,hl,hc,n,hd⟩:=hL
 replace hc:c=.type "list":=hc
 replace hd:dt=.seq items n:=hd
 subst hc hd;have ft:=F.called_enumerate;obtain⟨c,tl,hmro⟩:=ft.mro;have hmade:=ft.made;have hsub:=ft.sub;have hct:=EN.typeCall (.ref l) (.int i t);refine wpAny_call (codeAny_of_tree ?_);show wpAny _ _ (callAny (.type "enumerate") _) _ _ _;refine wpAny_pure ⟨Code.quiet_builtin _ (by decide +kernel),codeAny_builtin F.entry_type_call ?_⟩;rw[Around.under_plain (weight_type_call_type "enumerate" _ _) (units_type_call_type "enumerate" _ _)];have h1:=ft.notType;have h2:=ft.canCreate
 repeat (any_goals (first|assumption|wp_step))
 have hz:(s.heap.push {cls:=.type "list_iterator",data:=.fields #[.ref l,.int 0 0]}).objs.size=s.heap.objs.size+1:=size_push ..;have he:IsEnum ((s.heap.push {cls:=.type "list_iterator",data:=.fields #[.ref l,.int 0 0]}).push
   {cls:=.type "enumerate",data:=.fields #[.none,.bool false,.ref s.heap.objs.size,rawInt i,.none,.none]}) (s.heap.objs.size+1) s.heap.objs.size i .none:=by
  have:=get?_push_size (s.heap.push {cls:=.type "list_iterator",data:=.fields #[.ref l,.int 0 0]})
   (o:={cls:=.type "enumerate",data:=.fields #[.none,.bool false,.ref s.heap.objs.size,rawInt i,.none,.none]}) rfl
  rw[hz]at this;exact this
 refine codeAny_mono (codeAny_call_builtin ft.plain F.entry_enumerate_new (wpAny_of_eq (EN.newCall (.ref l) (.int i t)) (EN.new l items n dct sl i t hi prog w A.in1 (wants (λobj s₁=>s₁.TypeIs obj "enumerate"∧Q obj s₁) E) s ⟨hl,?_⟩))) λr s₁ hr=>?_
 ·show _∧_;rw[hz];exact⟨⟨_,he,rfl⟩,h _ he ⟨_,get?_push_of_some _ (get?_push_size _ rfl),rfl,rfl⟩ (by rw[size_push,hz]) λb o x=>get?_push_of_some _ (get?_push_of_some _ x)⟩
 ·cases r with
  |error e=>exact hr
  |ok fl =>
   cases fl with
   |ret obj =>
    obtain⟨hT,hq⟩:=hr;have hli:=ft.init.lookup;have hbi:=ft.init.bind obj
    repeat (any_goals (first|assumption|wp_step))
    refine codeAny_mono (codeAny_call_builtin ft.init.plain F.entry_object_init (ft.init.check _ _ _ _ _ _ _ _ hT (EN.initArgs obj (.ref l) (.int i t)) ((EN.init ft.init.lookup ft.made (by decide)) prog w A.in1 (wants (λr s₂=>r=.none∧Q obj s₂) E) s₁ ⟨hT,rfl,hq⟩))) λr₂ s₂ hr₂=>?_;cases r₂ with
    |error e=>exact hr₂
    |ok fl₂ =>
     cases fl₂ with
     |ret r =>
      obtain⟨rfl,hq⟩:=hr₂
      repeat (any_goals (first|assumption|wp_step))
     |_=>exact hr₂.elim
   |_=>exact hr.elim
section
variable{prog:Program}{w:World}{A:Around}{E:Value→Shared→Prop}{s:Shared}
theorem EN.next{e it l:Addr}{i:Nat}{c:Int}{items:Array Value}{x old:Value}{Q:Option Value→Shared→Prop}(he:IsEnum s.heap e it c old)(hit:s.heap.IsListIter it l i)(hl:s.heap.IsList l items)(hx:items[i]?=some x)(hne:e≠it)(hQ:∀h',IsEnumOut h' e it (c+1) x s.heap.objs.size→h'.IsListIter it l (i+1) →
   h'.get? s.heap.objs.size=some {cls:=.type "tuple",data:=.seq #[.int c s.toks,x]}→h'.objs.size=s.heap.objs.size+1 →
   (∀b o,b≠e→b≠it→s.heap.get? b=some o→h'.get? b=some o)→Q (some (.ref s.heap.objs.size)) {s with heap:=h',toks:=s.toks+1}):
  wpAny (model prog w) A (pyNext (.ref e)) Q E s:=by
 have hT:s.TypeIs (.ref e) "enumerate":=⟨_,he,rfl⟩;unfold pyNext;refine wpAny_bind (wpAny_attempt (wpAny_callSpecial?_slot (name:=ofString "__next__") hT F.slot_enumerate_next (wpAny_call_entry F.slot_enumerate_next hT F.entry_enumerate_next ?_ (F.args_enumerate_next_1 _))));obtain⟨hp,g,d,tk,os⟩:=s;show wpAny _ _ (field (.ref e) 2 >>= _) _ _ _;refine wpAny_bind (wpAny_field he rfl (x:=.ref it) rfl (wpAny_bind (wpAny_nextOf_list_item hit hl hx λh1 it1 sb1=>?_)))
 replace sb1:SameBut it hp h1:=sb1
 have e1:IsEnum h1 e it c old:=(sb1.2 e hne).trans he;show wpAny _ _ (field (.ref e) 3 >>= _) _ _ ⟨h1,g,d,tk,os⟩;refine wpAny_bind (wpAny_field e1 rfl (x:=rawInt c) rfl ?_);show wpAny _ _ (field (.ref e) 4 >>= _) _ _ ⟨h1,g,d,tk,os⟩;refine wpAny_bind (wpAny_field e1 rfl (x:=.none) rfl ?_);show wpAny _ _ (mkInt c >>= _) _ _ ⟨h1,g,d,tk,os⟩;refine wpAny_bind (wpAny_mkInt ?_);show wpAny _ _ (setField (.ref e) 3 (rawInt (c+1)) >>= _) _ _ ⟨h1,g,d,tk+1,os⟩;refine wpAny_bind (wpAny_setField_rec e1 (by simp) λh2 e2 sb2=>?_)
 replace sb2:SameBut e h1 h2:=sb2
 replace e2:IsEnum h2 e it (c+1) old:=e2
 show wpAny _ _ (setField (.ref e) 4 .none >>= _) _ _ ⟨h2,g,d,tk+1,os⟩;refine wpAny_bind (wpAny_setField_rec e2 (by simp) λh3 e3 sb3=>?_)
 replace sb3:SameBut e h2 h3:=sb3
 replace e3:IsEnum h3 e it (c+1) old:=e3
 have z3:h3.objs.size=hp.objs.size:=by rw[sb3.1,sb2.1,sb1.1]
 have it3:h3.IsListIter it l (i+1):=(it1.extBut sb2.extBut (symm hne)).extBut sb3.extBut (symm hne);have k3:∀b o,b≠e→b≠it→hp.get? b=some o→h3.get? b=some o:=λb o n1 n2 hb=>sb3.extBut b o n1 (sb2.extBut b o n1 (sb1.extBut b o n2 hb));show wpAny _ _ (newTuple [.int c tk,x] >>= _) _ _ ⟨h3,g,d,tk+1,os⟩;refine wpAny_bind (wpAny_newTuple ?_);have e4:IsEnum (h3.push {cls:=.type "tuple",data:=.seq #[.int c tk,x]}) e it (c+1) old:=get?_push_of_some _ e3;have t4:(h3.push {cls:=.type "tuple",data:=.seq #[.int c tk,x]}).get? hp.objs.size=some {cls:=.type "tuple",data:=.seq #[.int c tk,x]}:=by rw[←z3];exact get?_push_size _ rfl
 have z4:(h3.push {cls:=.type "tuple",data:=.seq #[.int c tk,x]}).objs.size=hp.objs.size+1:=by rw[size_push,z3]
 have k4:∀b o,h3.get? b=some o→(h3.push {cls:=.type "tuple",data:=.seq #[.int c tk,x]}).get? b=some o:=λb o hb=>get?_push_of_some _ hb;rw[z3];generalize h3.push {cls:=.type "tuple",data:=.seq #[.int c tk,x]}=h4 at e4 t4 z4 k4⊢;have ne4:hp.objs.size≠e:=ne_of_gt (lt_size he);show wpAny _ _ (Builtin.SmallTypes.ownedTupleIsFree (.ref e) >>= _) _ _ ⟨h4,g,d,tk+1,os⟩;refine wpAny_bind ?_;unfold Builtin.SmallTypes.ownedTupleIsFree;refine wpAny_bind (wpAny_field e4 rfl (x:=.none) rfl (wpAny_pure ?_));simp only[if_true];refine wpAny_bind (wpAny_rule (wpAny_bind (wpAny_field e4 rfl (x:=old) rfl (wpAny_bind (wpAny_setField_rec e4 (by simp) λh5 e5 sb5=>?_)))))
 replace sb5:SameBut e h4 h5:=sb5
 replace e5:IsEnum h5 e it (c+1) x:=e5
 show wpAny _ _ (Builtin.SmallTypes.ownedTupleHandOut (.ref e) (.ref hp.objs.size) >>= _) _ _ ⟨h5,g,d,tk+1,os⟩;refine wpAny_bind ?_;unfold Builtin.SmallTypes.ownedTupleHandOut;refine wpAny_bind (wpAny_setField_rec e5 (by simp) λh6 e6 sb6=>?_)
 replace sb6:SameBut e h5 h6:=sb6
 replace e6:IsEnumOut h6 e it (c+1) x hp.objs.size:=e6
 refine wpAny_setField_rec e6 (by simp) λh7 e7 sb7=>?_
 replace sb7:SameBut e h6 h7:=sb7
 replace e7:IsEnumOut h7 e it (c+1) x hp.objs.size:=e7
 have up:∀b o,b≠e→h4.get? b=some o→h7.get? b=some o:=λb o n hb=>sb7.extBut b o n (sb6.extBut b o n (sb5.extBut b o n hb));refine wpAny_bind (wpAny_letGo (wpAny_pure ⟨_,rfl,wpAny_pure (hQ h7 e7 ?_ (up _ _ ne4 t4) (by rw[sb7.1,sb6.1,sb5.1,z4]) λb o n1 n2 hb=>up b o n1 (k4 b o (k3 b o n1 n2 hb)))⟩));obtain⟨o,ho,r⟩:=it3;exact⟨o,up _ _ (symm hne) (k4 _ _ ho),r⟩
theorem EN.stop{e it l:Addr}{i:Nat}{c:Int}{items:Array Value}{old:Value}{Q:Option Value→Shared→Prop}(hh:A.handled=none)(he:IsEnum s.heap e it c old)(hit:s.heap.IsListIter it l i)(hl:s.heap.IsList l items)(hx:items[i]?=none)(hQ:∀h',ExtBut it s.heap h'→Q none {s with heap:=h'}):wpAny (model prog w) A (pyNext (.ref e)) Q E s:=by
 have hT:s.TypeIs (.ref e) "enumerate":=⟨_,he,rfl⟩;unfold pyNext;refine wpAny_bind (wpAny_attempt (wpAny_callSpecial?_slot (name:=ofString "__next__") hT F.slot_enumerate_next (wpAny_call_entry F.slot_enumerate_next hT F.entry_enumerate_next ?_ (F.args_enumerate_next_1 _))));show wpAny _ _ (field (.ref e) 2 >>= _) _ _ _;refine wpAny_bind (wpAny_field he rfl (x:=.ref it) rfl (wpAny_bind (wpAny_nextOf_list_end hh hit hl hx λh' x he' hpt=>?_)));obtain⟨o,ho,hc⟩:=hpt;exact wpAny_bind (wpAny_isInstance (T:="StopIteration") (b:=true) ⟨o,ho,hc⟩ isSubtype_stop (wpAny_pure (hQ _ he')))
end
end PySem
namespace L2
open PySem PySem.Spec PyProof.Rows
section
variable{X:Cx}{tg:Expr}
def Ite(K:PySem.W.Frag)(a:Addr)(c0:Int):It :=
 ⟨λi H=>∃xs x,SqL K H a xs∧xs[i]?=some x,λi H v H'=>∃p x,H p=none∧v=.ref p∧(∀xs,SqL K H a xs→xs[i]?=some x)∧H'=upd H p (.tup [.int (c0+i),x]),λi H=>∃xs,SqL K H a xs∧xs.length≤i⟩
theorem qS{P:Program}{w:World}{K:PySem.W.Frag}{es:List Expr}{k:Nat}{p0:Pos}(e it a:Addr)(c0:Int)(nei:e≠it):
  Turn P w K (.Tuple es k p0) (Ite K a c0) [e,it] e (λi h=>(∃old,IsEnum h e it (c0+i) old)∧h.IsListIter it a i) where
 mem:=by simp
 obj:=λi h R c hc=>by
  obtain⟨⟨old,z1⟩,o2,z2,_,z2'⟩:=R;simp only[mem_cons,not_mem_nil,or_false]at hc;rcases hc with rfl|rfl
  ·exact⟨_,z1,λv z=>nomatch z⟩
  ·exact⟨_,z2,λv z=>by rw[z2']at z;cases z⟩
 keep:=λi h h' R kp=>by
  obtain⟨⟨old,z1⟩,o2,z2,r2⟩:=R;exact⟨⟨old,kp _ (by simp) _ z1⟩,o2,kp _ (by simp) _ z2,r2⟩
 item:=by
  intro X hP hw hK hc i pins s σ H E I hf st hg;subst hP hw hK;obtain⟨xs,x,hq,hx⟩:=hg;obtain⟨its,rv,k1,_⟩:=I.list hq;obtain⟨u1,hu1,ru1⟩:=rv.get hx;obtain⟨⟨old,he⟩,hit⟩:=st;refine EN.next he hit k1.isList (x:=u1) (by simpa using hu1) nei λg ho hit' new hsz kp=>⟨_,rfl,?_⟩;refine wpAny_letOwnedTupleGo_enum ho λg' z' sb=>?_;have nz:s.heap.objs.size≠e:=ne_of_gt (lt_size he);have kpO:∀c o,c∉[e,it]→s.heap.get? c=some o→g'.get? c=some o:=λc o hn q=>(sb.2 c λz=>hn (by simp[z])).trans (kp c o (λz=>hn (by simp[z])) (λz=>hn (by simp[z])) q);have hnot:∀c o,H c=some o→c∉[e,it]:=λc o q hm=>by rw[(hf c hm).1]at q;cases q
  have nsz:∀c o,s.heap.get? c=some o→c≠s.heap.objs.size:=λc o q=>ne_of_lt (lt_size q);have trk:∀c o,H c=some o→c≠s.heap.objs.size:=λc o q=>ne_of_lt (I.hok.lt q);have new':g'.get? s.heap.objs.size=some {cls:=.type "tuple",data:=.seq #[.int (c0+i) s.toks,u1]}:=(sb.2 _ nz).trans new;have R2:(∃old,IsEnum g' e it (c0+((i+1:Nat):Int)) old)∧g'.IsListIter it a (i+1):=by
   refine⟨⟨u1,?_⟩,?_⟩
   ·have:c0+((i+1:Nat):Int)=c0+i+1:=by omega
    rw[this];exact z'
   ·obtain⟨o,h1,h2⟩:=hit';exact⟨o,(sb.2 it (symm nei)).trans h1,h2⟩
  have okH:HOk X.prog X.w (upd H s.heap.objs.size (.tup [.int (c0+i),x])) g':=λc o q=>by
   by_cases ec:c=s.heap.objs.size
   ·subst ec;rw[ac]at q;cases q;exact⟨by show 2≤sizeLine;rw[sizeLine_eq];decide,[.int (c0+i) s.toks,u1],.cons ⟨_,rfl⟩ (.cons ru1 .nil),⟨_,new',rfl,0,rfl⟩⟩
   ·rw[ai ec]at q;refine(I.hok c o q).stay (λd v hd q'=>kpO d v ?_ q') (λd q'=>by rw[ai (trk d _ q')];exact q') λd zs q'=>by rw[ai (trk d _ q')];exact q'
    rcases hd with rfl|hd
    ·exact hnot _ _ q
    ·exact hnot _ _ hd
  have I2:Inv X pins σ (upd H s.heap.objs.size (.tup [.int (c0+i),x])) {s with heap:=g',toks:=s.toks+1}:=by
   refine I.step (g':=s.gens) (t':=s.toks+1) (d':=s.drawn) (ch:=[e,it]) (λc hc'=>?_) (λc o _ _ hn q _=>kpO c o hn q) (λc o _ _ hn q _=>⟨o.slots,kpO c o hn q⟩) (λc o _ q n=>by rw[ai (nsz c o q)];exact n) (λc o hn q=>⟨o,kpO c o hn q⟩)
    (λc zs q=>by rw[ai (trk c _ q)];exact q) (λc o u q=>by rw[ai (trk c _ q)];exact q) (λc ps q=>⟨#[],by rw[ai (trk c _ q),q];simp⟩) (λm hm=>?_) okH I.bare
   ·obtain⟨f0,f1,f2,f3,f4,f5⟩:=hf c hc';exact⟨f3,f1,f4,f5⟩
   ·obtain⟨o,es',ep,ho',r⟩:=hm;exact⟨o,es',ep,kpO _ o (λhm'=>(hf _ hm').2.1 rfl) ho',r⟩
  refine⟨.ref s.heap.objs.size,_,I2,rfl,⟨s.heap.objs.size,x,I.hok.fresh (le_refl _),rfl,λzs hz=>?_,rfl⟩,R2,λc hc'=>?_⟩
  ·rw[I.list_inj hz hq];exact hx
  ·obtain⟨o,q⟩:∃o,s.heap.get? c=some o:=by
    simp only[mem_cons,not_mem_nil,or_false]at hc';rcases hc' with rfl|rfl
    ·exact⟨_,he⟩
    ·obtain⟨o,h1,_⟩:=hit;exact⟨o,h1⟩
   rw[ai (nsz c o q)];exact(hf c hc').1
 done:=by
  intro X hP hw hK hc i pins s σ H E I hf st hg;subst hP hw hK;obtain⟨xs,hq,hle⟩:=hg;obtain⟨its,rv,k1,_⟩:=I.list hq;have e1:=rv.length;obtain⟨⟨old,he⟩,hit⟩:=st;refine EN.stop (I.ok.hd hc) he hit k1.isList (Array.getElem?_eq_none (by simp;omega)) λg kp=>⟨rfl,?_⟩;have kpO:∀c o,c∉[e,it]→s.heap.get? c=some o→g.get? c=some o:=λc o hn q=>kp c o (λz=>hn (by simp[z])) q;have hnot:∀c o,H c=some o→c∉[e,it]:=λc o q hm=>by rw[(hf c hm).1]at q;cases q
  refine I.step (g':=s.gens) (t':=s.toks) (d':=s.drawn) (ch:=[e,it]) (λc hc'=>?_) (λc o _ _ hn q _=>kpO c o hn q) (λc o _ _ hn q _=>⟨o.slots,kpO c o hn q⟩) (λc o _ q n=>n) (λc o hn q=>⟨o,kpO c o hn q⟩)
   (λc zs q=>q) (λc o u q=>q) (λc ps q=>⟨#[],by rw[q];simp⟩) (λm hm=>?_) (λc o q=>?_) I.bare
  ·obtain⟨f0,f1,f2,f3,f4,f5⟩:=hf c hc';exact⟨f3,f1,f4,f5⟩
  ·obtain⟨o,es',ep,ho',r⟩:=hm;exact⟨o,es',ep,kpO _ o (λhm'=>(hf _ hm').2.1 rfl) ho',r⟩
  ·refine(I.hok c o q).stay (λd v hd q'=>kpO d v ?_ q') (λd q'=>q') λd zs q'=>q';rcases hd with rfl|hd
   ·exact hnot _ _ q
   ·exact hnot _ _ hd
 self:=λA i s Q E ⟨⟨old,he⟩,_⟩ hq=>wpAny_pyIter_enum he hq
theorem lh{M:Model}{A:Around}{env:Env}{E:Value→Shared→Prop}{s:Shared}{pos:Pos}{T:String}{e:Expr}{rest:List Expr}{kws:List Keyword}{Q:Value→Shared→Prop}(h:wpAny M A (spliced (backTo pos (starEach (e::rest) env))) (λvs s₁=>wpAny M A (evalAll ((backToKw pos (keywordEach kws env)).map (·.2)))
   (λkvs s₂=>wpAny M A (call (.type T) vs (((backToKw pos (keywordEach kws env)).filterMap (·.1)).zip kvs)) Q E s₂) E s₁) E s)(he:backTo pos (starEach (e::rest) env)=(false,eval e env)::backTo pos (starEach rest env))(hplain:(backTo pos (starEach (e::rest) env)).any (·.1)=false)(hall:(backToKw pos (keywordEach kws env)).all (·.1.isSome)=true)(hkw:(backToKw pos (keywordEach kws env)).any (·.1.isNone)=false):
  wpAny M A (callWith pos (.type T) [] (backTo pos (starEach (e::rest) env)) (backToKw pos (keywordEach kws env))) Q E s:=by
 unfold callWith;rw[he]at h⊢;rw[he]at hplain;refine wpAny_bind (wpAny_holding (wpAny_mono (evalArgs_kwB (f:=.type T) (Q:=λa s₁=>wpAny M A (call (.type T) ([]++a.pos) a.kw) Q E s₁) hall h) (λa s₁ h₁=>wpAny_bind (wpAny_standAt ?_)) λ_ _ x=>x));simp only[hplain,hkw,Bool.or_false];refine wpAny_bind (wpAny_pure ?_);exact wpAny_bind (wpAny_mono h₁ (λr s₂ hr=>wpAny_bind (wpAny_holding (wpAny_point (wpAny_pure hr)))) λ_ _ x=>x)
def enQ(td:TE)(σ:St)(R:It→Hp→Prop)(K:PySem.W.Frag):List V→Hp→Prop
 |[v],H1=>∃l xs,v=.ref l∧H1 l=some (.lst xs)∧td σ H1 λdv H2=>∃c:Int,dv=.int c∧0≤c∧c≤1000∧H2 l=some (.lst xs)∧R (Ite K l c) H2
 |_,_=>False
theorem tM{es:List Expr}{k:Nat}{p0:Pos}{p dpos pos:Pos}{e ed:Expr}{te td:TE}(hg:Gl X "enumerate")(hm:X.mg "enumerate"=none)(he:PE X e te)(hd:PE X ed td)(hse:starEach [e] X.env=(false,eval e X.env)::starEach [] X.env:=by rfl)(hpl:(backTo pos (starEach [e] X.env)).any (·.1)=false:=by rfl):
  PI X (.Tuple es k p0) (.Call (.Name "enumerate" p) [e] [⟨some "start",ed,dpos⟩] pos) (λσ H R=>te σ H λv H1=>enQ td σ R X.K [v] H1):=by
 intro pins s σ H R I h;refine wpAny_Call_Name_kw (dJ I hg hm PyProof.Rows.boot_enumerate ?_ (by decide) (by decide));refine lh ?_ (by rw[hse];rfl) hpl rfl rfl;refine thn (aa he ae hse pos pins s σ H (enQ td σ R X.K) I h) λus s1 hpt=>?_;obtain⟨vs,H1,I1,r,q0⟩:=hpt;obtain⟨v,rfl⟩:∃v,vs=[v]:=by
  match vs,q0 with
  |[v],_=>exact⟨v,rfl⟩
 obtain⟨l,xs,rfl,hl,q⟩:=q0;obtain⟨u,rfl,ru⟩:=ci r;cases ru;show wpAny _ _ (evalAll [(do let v ← eval ed X.env;standAt pos;pure v)]) _ _ s1;refine wpAny_evalAll_cons (wpAny_bind (thn (hd _ s1 σ H1 _ I1 q) λdu s3 ⟨dv,H2,J3,rd,c,ec,c0,c1,hl2,q1⟩=>wpAny_bind (wpAny_standAt (wpAny_pure (wpAny_evalAll_nil ?_)))));subst ec;obtain⟨t,rfl⟩:=rd;show wpAny _ _ (call (.type "enumerate") [.ref l] [("start",.int c t)]) _ _ s3;obtain⟨its,rv,k1,_⟩:=J3.list (SqL.of hl2);refine EN.call ⟨c0,c1⟩ k1.isList λh' hE hI hsz kp=>?_;refine wpAny_pyIter_enum hE ?_;have hs1:s3.heap.objs.size≤s3.heap.objs.size:=le_refl _;refine⟨s3.heap.objs.size+1,[s3.heap.objs.size+1,s3.heap.objs.size],_,Ite X.K l c,H2,rfl,J3.kept (t':=s3.toks) kp,qS _ _ l c (Nat.succ_ne_self _),⟨⟨_,by rw[show c+((0:Nat):Int)=c by omega];exact hE⟩,hI⟩,λb hb=>?_,q1⟩;have hle:s3.heap.objs.size≤b:=by
  simp only[mem_cons,not_mem_nil,or_false]at hb;rcases hb with rfl|rfl
  ·exact le_add_right _ _
  ·exact le_refl _
 exact J3.fpOk hle (J3.hok.fresh hle)
end
theorem tN{K:PySem.W.Frag}{a:Addr}{c:Int}{xs:List V}{g:TG}{tb:TS}{D:Ends}{σ:St}{H:Hp}(Pv:Nat→St→Hp→Prop)(h0:Pv 0 σ H)(hl:∀i σ H,i≤xs.length→Pv i σ H→SqL K H a xs)(hs:∀i x σ H p,xs[i]?=some x→Pv i σ H→H p=none→g (.ref p) σ (upd H p (.tup [.int (c+i),x])) λσ2 H2=>tb {D with nx:=Pv (i+1),ct:=Pv (i+1),bk:=D.nx} σ2 H2)(hd:∀σ H,Pv xs.length σ H→D.nx σ H):
  ∃W:Nat→Nat→St→Hp→Prop,(∃m,W 0 m σ H)∧∀i m σ H,W i m σ H →
   ((Ite K a c).stop i H∧D.nx σ H)∨((Ite K a c).go i H∧∃N:St→Hp→Prop,(∀σ' H',N σ' H'→∃m',m'<m∧W (i+1) m' σ' H')∧∀x H',(Ite K a c).yld i H x H'→g x σ H' λσ2 H2=>tb {D with nx:=N,ct:=N,bk:=D.nx} σ2 H2):=by
 refine⟨λi m σ H=>m=xs.length-i∧i≤xs.length∧Pv i σ H,⟨xs.length,by simp,zero_le _,h0⟩,?_⟩;rintro i m σ H ⟨rfl,hi,p⟩;have q:=hl i σ H hi p
 by_cases hlt:i<xs.length
 ·refine .inr ⟨⟨xs,xs[i],q,by simp[hlt]⟩,Pv (i+1),λσ' H' p'=>⟨xs.length-(i+1),by omega,rfl,hlt,p'⟩,λv H' y=>?_⟩;obtain⟨pp,x,hp,rfl,hx,rfl⟩:=y;exact hs i x σ H pp (hx xs q) p hp
 ·have e:i=xs.length:=by omega
  subst e;exact .inl ⟨⟨xs,q,le_refl _⟩,hd σ H p⟩
end L2
namespace TW
section
variable{S:Type}
theorem tO{t u:List (Nd S)}(ht:bt t)(hu:bt u)(h:∀n,n∈t↔n∈u):t=u:=by
 refine qN ht hu λk=>?_;cases e:eQ t k with
 |some m =>
  obtain⟨h1,h2⟩:=hU e;have:=jm hu ((h m).mp h1);rw[h2]at this;exact this.symm
 |none =>
  refine(nU λm hm e2=>?_).symm;have:=jm ht ((h m).mpr hm);rw[e2,e]at this;cases this
end
end TW
namespace TW
section
variable{S:Type}
def ir(k:Int)(n:Nd S):Nd S:=⟨n.num,if n.par=k then 0 else n.par,n.nm,n.st⟩
open Classical in
def iu(t:List (Nd S))(k:Int):List (Nd S):=t.filter λn=>decide (Reach t k n)
open Classical in
theorem dH{t:List (Nd S)}{k:Int}{n:Nd S}:n∈iu t k↔Reach t k n:=by
 unfold iu;rw[mem_filter,decide_eq_true_eq];exact⟨λh=>h.2,λh=>⟨h.mem,h⟩⟩
def cT(t:List (Nd S))(k:Int):List (Nd S):=(iu t k).map (ir k)
theorem bv{t:List (Nd S)}{k:Int}{n:Nd S}:n∈cT t k↔∃m,Reach t k m∧n=ir k m:=by
 unfold cT;rw[mem_map];constructor
 ·rintro⟨m,hm,e⟩;exact⟨m,dH.mp hm,e.symm⟩
 ·rintro⟨m,hm,e⟩;exact⟨m,dH.mpr hm,e.symm⟩
open Classical in
def woT(t:List (Nd S))(k:Int):List (Nd S):=t.filter λn=>!decide (Reach t k n)
open Classical in
theorem bi{t:List (Nd S)}{k:Int}{n:Nd S}:n∈woT t k↔n∈t∧¬Reach t k n:=by
 unfold woT;rw[mem_filter,Bool.not_eq_true',decide_eq_false_iff_not]
theorem qT{t:List (Nd S)}(h:bt t)(k:Int):bt (iu t k):=h.sublist filter_sublist
theorem ka{t:List (Nd S)}(h:bt t)(k:Int):bt (cT t k):=by
 have:=qT h k;unfold bt cT at *;rw[pairwise_map];exact this
theorem tP{t:List (Nd S)}(h:bt t)(k:Int):bt (woT t k):=h.sublist filter_sublist
theorem pK{t:List (Nd S)}(T:Tree1 t){k:Int}{n:Nd S}(h:Reach t k n)(e:n.par=0):k=0:=by
 cases h with
 |base _ e'=>rw[←e',e]
 |@step m _ hr _ _ e' =>
  have:=T.pos m hr.mem;omega
theorem cV{t:List (Nd S)}(T:Tree1 t)(k:Int):Tree1 (cT t k):=by
 have step:∀n,Reach t k n→Reach (cT t k) 0 (ir k n):=by
  intro n h
  induction h with
  |@base n hm hp=>exact .base (bv.mpr ⟨n,.base hm hp,rfl⟩) (by show(if n.par=k then 0 else n.par)=0;rw[if_pos hp])
  |@step m n hr hf hm hp ih =>
   refine .step ih hf (bv.mpr ⟨n,.step hr hf hm hp,rfl⟩) ?_;show(if n.par=k then 0 else n.par)=m.num;rw[if_neg (by rw[hp];exact da T hr),hp]
 refine⟨⟨ka T.rise k,?_,λn hn=>?_⟩,λn hn=>?_⟩
 ·have own:=T.own;unfold aY Nodup at own;unfold aY cT Nodup;rw[map_map,pairwise_map];rw[pairwise_map]at own;refine(own.sublist (l₁:=iu t k) (by unfold iu;exact filter_sublist)).imp_of_mem λ{a b} ha hb hab e=>hab ?_;have ra:=dH.mp ha;have rb:=dH.mp hb;have e1:(if a.par=k then 0 else a.par)=(if b.par=k then (0:Int)else b.par):=congrArg Prod.fst e
  have e2:a.nm=b.nm:=congrArg Prod.snd e;have ep:a.par=b.par:=by
   by_cases z1:a.par=k<;>by_cases z2:b.par=k
   ·rw[z1,z2]
   ·rw[if_pos z1,if_neg z2]at e1;have:=pK T rb e1.symm;rw[z1,this];exact e1
   ·rw[if_neg z1,if_pos z2]at e1;have:=pK T ra e1;rw[z2,this];exact e1
   ·rw[if_neg z1,if_neg z2]at e1;exact e1
  show(a.par,a.nm)=(b.par,b.nm);rw[ep,e2]
 ·obtain⟨m,hm,rfl⟩:=bv.mp hn;exact step m hm
 ·obtain⟨m,hm,rfl⟩:=bv.mp hn;exact T.pos m hm.mem
theorem de{t:List (Nd S)}(T:Tree1 t)(k:Int):Tree1 (woT t k):=by
 refine⟨⟨tP T.rise k,?_,λn hn=>?_⟩,λn hn=>T.pos n (bi.mp hn).1⟩
 ·have own:=T.own;unfold aY at own⊢;exact own.sublist ((filter_sublist (l:=t)).map _)
 ·have h:=T.down n (bi.mp hn).1;have hn':=(bi.mp hn).2;clear hn
  induction h with
  |base hm hp=>exact .base (bi.mpr ⟨hm,hn'⟩) hp
  |step hr hf hm hp ih=>exact .step (ih λh=>hn' (.step h hf hm hp)) hf (bi.mpr ⟨hm,hn'⟩) hp
section
variable{q:S→Bool}{t:List (Nd S)}
end
end
end TW
namespace TK
open PySem L2
section
variable{P:Program}{w:World}{K:PySem.W.Frag}{mg:Str→Option Value}{base:Heap}
def tQ:Sp:=λvs H Q _=>∃t zs,vs=[.ref t]∧H t=some (.tup (aI zs))∧At H zs∧zs.length≤60∧∀b H',Same H H'→((zs=[]∧b=0)∨GrI (nums zs) (nums zs).length b)→Q (.int b) H'
theorem yV:FnScope ["tree"] ["tree"] (ag cB):=fsc
theorem xQ{f:Addr}{fd:FuncData}(F:Fun K "greatest_number" "greatest_number" cB f fd)(T:Txt mg):FnOk P w K mg base CX0 1 f fd ["tree"] tQ:=by
 refine F.ok yV (λvs H Q E h=>?_) (λcdv A outer s H vs Q E hr h=>?_)
 ·obtain⟨t,zs,rfl,_⟩:=h;rfl
 ·obtain⟨t,zs,rfl,ht,hA,hl,q⟩:=h;refine⟨_,al (ar (vD rfl rfl T.max (ce (N:=["node"]) (cl:=[]) (k:=1) (js:=[]) (g:=aO 0) rfl (cf rfl (by decide +kernel) (by decide +kernel) (by decide +kernel)) rfl (λi j x h=>by simp at h) (bD (pv 0)) (λs H fp=>ao (i:=0) (show(["node"]:List Str).Nodup by decide +kernel) rfl (Or.inl rfl) (Or.inr rfl))
    (λs H fp=>aH (r:=ck K) ay (pv 0) aj (λ_ _=>rfl))) aj)),?_⟩
  refine⟨_,rfl,t,rfl,⟨_,SqT.of ht⟩,λp hp=>?_⟩;refine bH (fr:=[]) zs (λz=>V.ref z.1) (by omega) hp (bE (by rw[aK];exact SqT.of ht)) rfl (λz y _=>y=.int z.2.num) (λ_ _ _ _ h _=>h) (λz H' kk mz s1 _ hk=>?_) (λys H1 s1 hp1 hys=>?_)
  ·exact⟨_,rfl,z.1,_,_,_,rfl,rfl,SqT.of (s1 _ _ (hA z mz)),at0 z.2,hk _ H' (Same.refl _) rfl⟩
  ·have ey:=aQ (f:=λz:Addr×Nd=>V.int z.2.num) hys (λz y _ h=>h);have e:ys=(nums zs).map V.int:=by rw[ey];unfold nums;rw[map_map];rfl
   rw[e]at hp1;refine⟨p,nums zs,rfl,hp1,hp1,λh0=>q 0 H1 s1 (.inl ⟨map_eq_nil_iff.mp h0,rfl⟩),λb hb=>q b H1 s1 (.inr hb)⟩
end
def reN(g:Int→Int)(n:Nd):Nd:=⟨g n.num,g n.par,n.nm,n.st⟩
section
variable{P:Program}{w:World}{K:PySem.W.Frag}{mg:Str→Option Value}{base:Heap}
def pL:Sp:=λvs H Q _=>∃t d zs kvs g,vs=[.ref t,.ref d]∧H t=some (.tup (aI zs))∧At H zs∧zs.length≤60∧H d=some (.dK kvs)∧(∀z∈zs,bc kvs (Sum.inl z.2.num:Key)=some (.int (g z.2.num))∧bc kvs (Sum.inl z.2.par:Key)=some (.int (g z.2.par)))∧(zs.map λz=>g z.2.num).Nodup ∧
 ∀us t' H',Same H H'→H' t'=some (.tup (aI us))→At H' us→(nds us).Perm ((nds zs).map (reN g))→TW.bt (nds us)→Q (.ref t') H'
theorem yW:FnScope ["tree","numbers"] ["tree","numbers"] (ag bh):=fsc
theorem xR{f:Addr}{fd:FuncData}(F:Fun K "with_numbers" "with_numbers" bh f fd)(T:Txt mg):FnOk P w K mg base CX0 1 f fd ["tree","numbers"] pL:=by
 refine F.ok yW (λvs H Q E h=>?_) (λcdv A outer s H vs Q E hr h=>?_)
 ·obtain⟨t,d,zs,kvs,g,rfl,_⟩:=h;rfl
 ·obtain⟨t,d,zs,kvs,g,rfl,ht,hA,hl,hd,hg,hnd,q⟩:=h;refine⟨_,al (ar (aS bw rfl T.tuple rfl (aa (am cy rfl T.sorted boot_sorted (aa (ce (N:=["node","numbers"]) (cl:=[("numbers",s.heap.objs.size+1)]) (k:=1) (js:=[1]) (g:=aO 0) rfl
    (LcOk.mk' ["numbers"] rfl rfl (by decide +kernel) (by decide +kernel) ?hcl rfl (by decide +kernel)) rfl ?hj (bD (pv 0)) (λs H fp=>ao (i:=0) (show(["node","numbers"]:List Str).Nodup by decide +kernel) rfl (Or.inl rfl) (Or.inr rfl))
    (λs H fp=>aM (r:=oJ K) iw (bq (aa (bY (cu hr) (pv 1) (aH (r:=ck K) ay (pv 0) aj (λ_ _=>rfl)) (λ_ _=>rfl)) (aa (bY (cu hr) (pv 1) (aH (r:=ck K) ay (pv 0) aj (λ_ _=>rfl)) (λ_ _=>rfl)) ae))) (cG (r:=nr K) eE (pv 0) (cR aj) dM))) ae)) ae))),?_⟩
  case hcl =>
   intro y hy;rcases mem_cons.mp hy with e|hy
   ·rw[e];rfl
   ·cases hy
  case hj =>
   intro i j x h1 h2
   match i,h1,h2 with
   |0,h1,h2 =>
    cases h1;cases h2;exact⟨rfl,Or.inr (Or.inl rfl),(show((ag bh).names.lookup ("numbers":Str)≠some NameKind.local)by decide +kernel),by first|exact Or.inl rfl|exact Or.inr rfl⟩
   |i+1,h1,h2=>simp at h1
  refine⟨_,rfl,t,rfl,⟨_,SqT.of ht⟩,λp hp=>?_⟩;refine bH (fr:=[some (.ref d)]) zs (λz=>V.ref z.1) (by omega) hp (bE (by rw[aK];exact SqT.of ht)) rfl (λz y H'=>∃q,y=.ref q∧q≠p∧H' q=some (.tup (vals (reN g z.2)))) (λz y H H' ⟨q,e,ne,h⟩ ex=>⟨q,e,ne,ex q _ ne h⟩) (λz H' k mz s1 hpl hk=>?_) (λys H' s1 hp' hys=>?_)
  ·obtain⟨g1,g2⟩:=hg z mz;have hd1:=s1 _ _ hd;have hz1:=s1 _ _ (hA z mz);have d1:dy H' d (.int z.2.num) (some (.int (g z.2.num))):=by rw[←g1];exact dy.k (k:=Sum.inl z.2.num) hd1
   have d2:dy H' d (.int z.2.par) (some (.int (g z.2.par))):=by rw[←g2];exact dy.k (k:=Sum.inl z.2.par) hd1
   refine⟨_,rfl,_,rfl,z.1,_,_,_,rfl,rfl,SqT.of hz1,at0 z.2,d,_,rfl,d1,?_⟩;refine⟨_,rfl,_,rfl,z.1,_,_,_,rfl,rfl,SqT.of hz1,at1 z.2,d,_,rfl,d2,le2,λc hc=>?_⟩;have s2:=af (o:=.tup [.int (g z.2.num),.int (g z.2.par)]) hc;have ecut:gh (vals z.2) (some 2) none=[.str z.2.nm,stV z.2.st]:=rfl;refine⟨_,rfl,_,rfl,z.1,_,rfl,SqT.of (s2 _ _ hz1),(by intro h;exact absurd h.1 (show ¬HT.sIx 4 0 (some 2)=0 by decide)),λt' ht'=>?_⟩;rw[ecut];have s3:=s2.trans (af (o:=.tup [.str z.2.nm,stV z.2.st]) ht');refine⟨c,t',_,_,rfl,rfl,SqT.of (aW ht' ac),SqT.of ac,by simp,(show 4≤sizeLine from aA (by decide)),λh=>absurd h (List.cons_ne_nil _ _),λ_ q hq=>?_⟩;have hpl3:∃ys,upd (upd H' c (.tup [.int (g z.2.num),.int (g z.2.par)])) t' (.tup [.str z.2.nm,stV z.2.st]) p=some (.lst ys):=let⟨ys,e⟩:=hpl;⟨ys,s3 _ _ e⟩;exact hk _ _ (s3.trans (af hq)) ⟨q,rfl,cJ hpl3 hq,ac⟩
  ·obtain⟨cs,e1,e2,e3⟩:=cw (val:=V.ref) (S:=λ(z:Addr×Nd) (q:Addr)=>H' q=some (.tup (vals (reN g z.2)))) hys (λz y _ ⟨q,e,_,h⟩=>⟨q,e,h⟩);have er:ys=aI (cs.map λx=>(x.2,reN g x.1.2)):=by rw[e2,←aK,map_map];rfl
   have en:nds (cs.map λx=>(x.2,reN g x.1.2))=(nds zs).map (reN g):=by rw[←e1];unfold nds;rw[map_map,map_map,map_map];rfl
   have hcl:cs.length=zs.length:=by rw[←e1,length_map]
   have hsq:SqL K H' p (aI (cs.map λx=>(x.2,reN g x.1.2))):=SqL.of (by rw[hp',er]);refine ib (K:=K) (H:=H') (l:=p) (zs:=cs.map λx=>(x.2,reN g x.1.2)) (Q:=Q) (.inl hsq) (λz hz=>?_) ?_ (by rw[length_map];omega) (λus t' H2 s2 ht' hA' hpm hrise=>?_)
   ·obtain⟨x,hx,rfl⟩:=mem_map.mp hz;exact e3 x hx
   ·rw[en,map_map];unfold nds;rw[map_map];exact hnd
   ·refine q us t' H2 (s1.trans s2) ht' hA' ?_ hrise;have:(nds us).Perm (nds (cs.map λx=>(x.2,reN g x.1.2))):=hpm.map _;rw[en]at this;exact this
end
def inK(ms:List Int):List (Key×V):=ms.map λm=>((Sum.inl m:Key),V.bl true)
section
variable{P:Program}{w:World}{K:PySem.W.Frag}{mg:Str→Option Value}{base:Heap}
def oq:Sp:=λvs H Q _=>∃t d zs kvs g,vs=[.ref t,.ref d]∧H t=some (.lst (aI zs))∧At H zs∧zs.length≤60∧H d=some (.dK kvs)∧(∀z∈zs,bc kvs (Sum.inl z.2.num:Key)=some (.int (g z.2.num))∧bc kvs (Sum.inl z.2.par:Key)=some (.int (g z.2.par)))∧(zs.map λz=>g z.2.num).Nodup ∧
 ∀us t' H',Same H H'→H' t'=some (.tup (aI us))→At H' us→(nds us).Perm ((nds zs).map (reN g))→TW.bt (nds us)→Q (.ref t') H'
theorem xS:FnScope ["tree","numbers"] ["tree","numbers"] (ag bh):=fsc
theorem vE{f:Addr}{fd:FuncData}(F:Fun K "with_numbers" "with_numbers" bh f fd)(T:Txt mg):FnOk P w K mg base CX0 1 f fd ["tree","numbers"] oq:=by
 refine F.ok xS (λvs H Q E h=>?_) (λcdv A outer s H vs Q E hr h=>?_)
 ·obtain⟨t,d,zs,kvs,g,rfl,_⟩:=h;rfl
 ·obtain⟨t,d,zs,kvs,g,rfl,ht,hA,hl,hd,hg,hnd,q⟩:=h;refine⟨_,al (ar (aS bw rfl T.tuple rfl (aa (am cy rfl T.sorted boot_sorted (aa (ce (N:=["node","numbers"]) (cl:=[("numbers",s.heap.objs.size+1)]) (k:=1) (js:=[1]) (g:=aO 0) rfl
    (LcOk.mk' ["numbers"] rfl rfl (by decide +kernel) (by decide +kernel) ?hcl rfl (by decide +kernel)) rfl ?hj (cP (pv 0)) (λs H fp=>ao (i:=0) (show(["node","numbers"]:List Str).Nodup by decide +kernel) rfl (Or.inl rfl) (Or.inr rfl))
    (λs H fp=>aM (r:=oJ K) iw (bq (aa (bY (cu hr) (pv 1) (aH (r:=ck K) ay (pv 0) aj (λ_ _=>rfl)) (λ_ _=>rfl)) (aa (bY (cu hr) (pv 1) (aH (r:=ck K) ay (pv 0) aj (λ_ _=>rfl)) (λ_ _=>rfl)) ae))) (cG (r:=nr K) eE (pv 0) (cR aj) dM))) ae)) ae))),?_⟩
  case hcl =>
   intro y hy;rcases mem_cons.mp hy with e|hy
   ·rw[e];rfl
   ·cases hy
  case hj =>
   intro i j x h1 h2
   match i,h1,h2 with
   |0,h1,h2 =>
    cases h1;cases h2;exact⟨rfl,Or.inr (Or.inl rfl),(show((ag bh).names.lookup ("numbers":Str)≠some NameKind.local)by decide +kernel),by first|exact Or.inl rfl|exact Or.inr rfl⟩
   |i+1,h1,h2=>simp at h1
  refine⟨_,rfl,t,rfl,⟨_,SqL.of ht⟩,λp hp=>?_⟩;refine bH (fr:=[some (.ref d)]) zs (λz=>V.ref z.1) (by omega) hp (dW (by rw[aK];exact SqL.of ht)) rfl (λz y H'=>∃q,y=.ref q∧q≠p∧H' q=some (.tup (vals (reN g z.2)))) (λz y H H' ⟨q,e,ne,h⟩ ex=>⟨q,e,ne,ex q _ ne h⟩) (λz H' k mz s1 hpl hk=>?_) (λys H' s1 hp' hys=>?_)
  ·obtain⟨g1,g2⟩:=hg z mz;have hd1:=s1 _ _ hd;have hz1:=s1 _ _ (hA z mz);have d1:dy H' d (.int z.2.num) (some (.int (g z.2.num))):=by rw[←g1];exact dy.k (k:=Sum.inl z.2.num) hd1
   have d2:dy H' d (.int z.2.par) (some (.int (g z.2.par))):=by rw[←g2];exact dy.k (k:=Sum.inl z.2.par) hd1
   refine⟨_,rfl,_,rfl,z.1,_,_,_,rfl,rfl,SqT.of hz1,at0 z.2,d,_,rfl,d1,?_⟩;refine⟨_,rfl,_,rfl,z.1,_,_,_,rfl,rfl,SqT.of hz1,at1 z.2,d,_,rfl,d2,le2,λc hc=>?_⟩;have s2:=af (o:=.tup [.int (g z.2.num),.int (g z.2.par)]) hc;have ecut:gh (vals z.2) (some 2) none=[.str z.2.nm,stV z.2.st]:=rfl;refine⟨_,rfl,_,rfl,z.1,_,rfl,SqT.of (s2 _ _ hz1),(by intro h;exact absurd h.1 (show ¬HT.sIx 4 0 (some 2)=0 by decide)),λt' ht'=>?_⟩;rw[ecut];have s3:=s2.trans (af (o:=.tup [.str z.2.nm,stV z.2.st]) ht');refine⟨c,t',_,_,rfl,rfl,SqT.of (aW ht' ac),SqT.of ac,by simp,(show 4≤sizeLine from aA (by decide)),λh=>absurd h (List.cons_ne_nil _ _),λ_ q hq=>?_⟩;have hpl3:∃ys,upd (upd H' c (.tup [.int (g z.2.num),.int (g z.2.par)])) t' (.tup [.str z.2.nm,stV z.2.st]) p=some (.lst ys):=let⟨ys,e⟩:=hpl;⟨ys,s3 _ _ e⟩;exact hk _ _ (s3.trans (af hq)) ⟨q,rfl,cJ hpl3 hq,ac⟩
  ·obtain⟨cs,e1,e2,e3⟩:=cw (val:=V.ref) (S:=λ(z:Addr×Nd) (q:Addr)=>H' q=some (.tup (vals (reN g z.2)))) hys (λz y _ ⟨q,e,_,h⟩=>⟨q,e,h⟩);have er:ys=aI (cs.map λx=>(x.2,reN g x.1.2)):=by rw[e2,←aK,map_map];rfl
   have en:nds (cs.map λx=>(x.2,reN g x.1.2))=(nds zs).map (reN g):=by rw[←e1];unfold nds;rw[map_map,map_map,map_map];rfl
   have hcl:cs.length=zs.length:=by rw[←e1,length_map]
   have hsq:SqL K H' p (aI (cs.map λx=>(x.2,reN g x.1.2))):=SqL.of (by rw[hp',er]);refine ib (K:=K) (H:=H') (l:=p) (zs:=cs.map λx=>(x.2,reN g x.1.2)) (Q:=Q) (.inl hsq) (λz hz=>?_) ?_ (by rw[length_map];omega) (λus t' H2 s2 ht' hA' hpm hrise=>?_)
   ·obtain⟨x,hx,rfl⟩:=mem_map.mp hz;exact e3 x hx
   ·rw[en,map_map];unfold nds;rw[map_map];exact hnd
   ·refine q us t' H2 (s1.trans s2) ht' hA' ?_ hrise;have:(nds us).Perm (nds (cs.map λx=>(x.2,reN g x.1.2))):=hpm.map _;rw[en]at this;exact this
def li:Sp:=λvs H Q _=>∃t k zs,vs=[.ref t,.int k]∧Tre H t zs∧0≤k∧k≤60∧Fold zs k ∧
 (∀(ms:List Int) d H',Same H H'→H d=none→H' d=some (.dK (inK ms))→ms.Pairwise (λa b=>a<b)→ms.length≤zs.length→(∀x,x∈ms↔∃n∈nds zs,n.num=x∧TW.Reach (nds zs) k n)→Q (.ref d) H')
theorem yX:FnScope ["tree","number"] ["tree","number"] (ag cM):=fsc
theorem vF{f CN:Addr}{fd:FuncData}(F:Fun K "inner_numbers" "inner_numbers" cM f fd)(T:Txt mg)(CB:Has P w K mg base 1 "by_number" ["tree"] gH)(CFo:Has P w K mg base 2 "check_folder" ["nodes","number"] jW)(CL:gF P w K mg base 2 "below" ["tree","number"] (mw CN)):FnOk P w K mg base CX0 3 f fd ["tree","number"] li:=by
 obtain⟨fB,fdB,GB,mB,kB,bB⟩:=CB;obtain⟨fF,fdF,GF,mF,kF,bF⟩:=CFo;obtain⟨fL,fdL,GL,mL,kL,bL⟩:=CL;refine F.ok yX (λvs H Q E h=>?_) (λcdv A outer s H vs Q E hr h=>?_)
 ·obtain⟨t,k,zs,rfl,_⟩:=h;rfl
 ·obtain⟨t,k,zs,rfl,tr,k0,k1,hk,q⟩:=h;have hr1:Room 1 _:=hr.mono (by decide);have hl:=tr.len;have hnd:=bJ tr.tr;refine⟨_,ah (cp (ak GF hr rfl mF kF bF .nil ap (aa (ak GB hr1 rfl mB kB bB .nil ap (aa (pv 0) ae)) (aa (pv 1) ae))))
   (al (ar (aS (di rfl) rfl T.dict boot_dict (aa (ce (N:=["inner"]) (k:=1) (js:=[]) (g:=aO 0) rfl (cf rfl (by decide +kernel) (by decide +kernel) (by decide +kernel)) rfl (λi j x h=>by simp at h)
    (cP (ak GL hr rfl mL kL bL .nil jf (aa (pv 0) (aa (pv 1) ae)))) (λs H fp=>ao (i:=0) (show(["inner"]:List Str).Nodup by decide +kernel) rfl (Or.inl rfl) (Or.inr rfl))
    (λs H fp=>bq (aa (pv 0) (aa cq ae)))) ae)))),?_⟩
  have hk':k=0∨∃z∈zs,z.2.num=k:=hk.imp id λ⟨z,hz,e,_⟩=>⟨z,hz,e⟩;refine⟨_,rfl,t,zs,rfl,tr.tup,tr.nod,by omega,hnd,λd H1 s1 nd1=>⟨_,rfl,d,k,zs,rfl,nd1,tr.nod.same s1,hnd,k0,k1,hk,?_⟩⟩;refine⟨_,rfl,_,rfl,t,k,zs,rfl,tr.same s1,k0,k1,λ_ ms l H2 s2 hms hml0 hm hl2=>?_,λh0 hno=>?_⟩
  case refine_2 =>
   rcases hk' with e|⟨z,hz,e⟩
   ·exact absurd e h0
   ·exact absurd e (hno z hz)
  have hml:ms.length≤1000:=by omega
  refine⟨l,rfl,⟨_,SqL.of hl2⟩,λp hp=>?_⟩;refine bH (fr:=[]) ms V.int hml hp (dW (SqL.of hl2)) rfl (λm y H'=>∃q,y=.ref q∧q≠p∧H' q=some (.tup [.int m,.bl true])) (λm y H H' ⟨q,e,ne,h⟩ ex=>⟨q,e,ne,ex q _ ne h⟩) (λm H' k _ s3 hpl hk=>?_) (λys H3 s3 hp3 hys=>?_)
  ·exact⟨_,rfl,le2,λq hq=>hk _ _ (af hq) ⟨q,rfl,cJ hpl hq,ac⟩⟩
  ·obtain⟨bs,e1,e2,e3⟩:=cw (val:=V.ref) (S:=λ(m:Int) (q:Addr)=>H3 q=some (.tup [.int m,.bl true])) hys (λm y _ ⟨q,e,_,h⟩=>⟨q,e,h⟩);have s123:=(s1.trans s2).trans s3;have hbl:bs.length=ms.length:=by rw[←e1,length_map]
   refine⟨p,bs.map λx=>(x.2,(Sum.inl x.1:Key),V.bl true),rfl,by rw[hp3,e2,map_map,map_map];rfl,λy hy=>?_,by rw[length_map];omega,?_,λg hg=>?_⟩
   ·obtain⟨x,hx,rfl⟩:=mem_map.mp hy;exact e3 x hx
   ·rw[map_map];have e4:bs.map ((λx:Addr×Key×V=>x.2.1)∘λx=>(x.2,(Sum.inl x.1:Key),V.bl true))=ms.map (Sum.inl:Int→Key):=by rw[←e1,map_map];rfl
    rw[e4];unfold Nodup;rw[pairwise_map];exact hms.imp λh e=>by injection e with e;omega
   ·refine q ms g _ (s123.trans (af hg)) (s123.free hg) ?_ hms hml0 hm;rw[ac,map_map];have e5:bs.map ((λx:Addr×Key×V=>x.2)∘λx=>(x.2,(Sum.inl x.1:Key),V.bl true))=inK ms:=by unfold inK;rw[←e1,map_map];rfl
    exact congrArg (λx=>some (HO.dK x)) e5
end
def idK(ms:List Int):List (Key×V):=ms.map λm=>((Sum.inl m:Key),V.int m)
theorem mK(ms:List Int):(inK ms).map (λp=>kV p.1)=ms.map V.int:=by unfold inK;rw[map_map];rfl
theorem ou{ms:List Int}(h:ms.Nodup):(ms.map (Sum.inl:Int→Key)).Nodup:=by
 unfold Nodup at h⊢;rw[pairwise_map];exact h.imp λh e=>h (by injection e)
theorem pM{H:Hp}{d:Addr}{ms:List Int}(hd:Rd H d (.dK (inK ms)))(hn:ms.Nodup)(k:Int):∃o:Option V,dy H d (.int k) o∧o.isSome=decide (k∈ms):=by
 refine⟨bc (inK ms) (Sum.inl k:Key),.inl ⟨inK ms,Sum.inl k,hd,rfl,rfl⟩,?_⟩;have hk:(inK ms).map (·.1)=ms.map (Sum.inl:Int→Key):=by unfold inK;rw[map_map];rfl
 by_cases h:k∈ms
 ·rw[decide_eq_true h,gE (v:=.bl true) (by rw[hk];exact ou hn) (by unfold inK;exact mem_map.mpr ⟨k,h,rfl⟩)];rfl
 ·rw[decide_eq_false h,vi (by
   rw[hk];intro hm;obtain⟨j,hj,e⟩:=mem_map.mp hm;injection e with e
   exact h (by rw[←e];exact hj))]
  rfl
theorem gL{ms:List Int}(h:ms.Pairwise λa b=>a<b):ms.Nodup:=h.imp λh e=>by omega
theorem tR{zs:ZN}(T:TW.Tree1 (nds zs)){k:Int}{ms:List Int}(hm:∀x,x∈ms↔∃n∈nds zs,n.num=x∧TW.Reach (nds zs) k n){z:Addr×Nd}(hz:z∈zs):decide (z.2.num∈ms)=isB zs k z:=by
 rw[Bool.eq_iff_iff,decide_eq_true_iff,cb,hm];constructor
 ·rintro⟨n,hn,e,hr⟩;have:=T.inj hn (aw hz) e;rw[←this];exact hr
 ·exact λh=>⟨z.2,aw hz,rfl,h⟩
theorem gM(zs:ZN)(k:Int):nds (bel zs k)=TW.iu (nds zs) k:=by
 unfold bel TW.iu nds;rw[filter_map]
 congr 1
section
variable{P:Program}{w:World}{K:PySem.W.Frag}{mg:Str→Option Value}{base:Heap}
def mM:Sp:=λvs H Q _=>∃t k zs,vs=[.ref t,.int k]∧Tre H t zs∧0≤k∧k≤60∧Fold zs k∧∀t' us H',Same H H'→Tre H' t' us→nds us=TW.cT (nds zs) k→Q (.ref t') H'
theorem tS:FnScope ["tree","number","inner","numbers"] ["tree","number"] (ag eX):=fsc
theorem xT{f:Addr}{fd:FuncData}(F:Fun K "cut_out" "cut_out" eX f fd)(T:Txt mg)(CI:Has P w K mg base 3 "inner_numbers" ["tree","number"] li)(CW:Has P w K mg base 1 "with_numbers" ["tree","numbers"] oq):FnOk P w K mg base CX0 4 f fd ["tree","number"] mM:=by
 obtain⟨fI,fdI,GI,mI,kI,bI⟩:=CI;obtain⟨fW,fdW,GW,mW,kW,bW⟩:=CW;obtain⟨tt,hT⟩:=T.top;refine F.ok tS (λvs H Q E h=>?_) (λcdv A outer s H vs Q E hr h=>?_)
 ·obtain⟨t,k,zs,rfl,_⟩:=h;rfl
 ·obtain⟨t,k,zs,rfl,tr,k0,k1,hk,q⟩:=h;have hr1:Room 1 _:=hr.mono (by decide);have hl:=tr.len;refine⟨_,ah (au (i:=2) tS.nd rfl (Or.inr rfl) (ak GI hr rfl mI kI bI .nil ap (aa (pv 0) (aa (pv 1) ae))))
   (ah (au (i:=3) tS.nd rfl (Or.inl rfl) (aS (di rfl) rfl T.dict boot_dict (aa (ce (N:=["one"]) (k:=1) (js:=[]) (g:=aO 0) rfl (cf rfl (by decide +kernel) (by decide +kernel) (by decide +kernel)) rfl (λi j x h=>by simp at h)
    (sJ (pv 2)) (λs H fp=>ao (i:=0) (show(["one"]:List Str).Nodup by decide +kernel) rfl (Or.inl rfl) (Or.inr rfl)) (λs H fp=>bq (aa (pv 0) (aa (pv 0) ae)))) ae)))
   (ah (kr (cu hr) (pv 3) (pv 1) (aU (v:=.int 0) rfl hT ⟨_,rfl⟩) rfl)
   (al (ar (ak GW hr1 rfl mW kW bW .nil ap (aa (fz (N:=["node","inner"]) (cl:=[("inner",s.heap.objs.size+1)]) (k:=1) (js:=[2]) (g:=aO 0) rfl
    (LcOk.mk' ["inner"] rfl rfl (by decide +kernel) (by decide +kernel) ?hcl rfl (by decide +kernel)) rfl ?hj (bD (pv 0)) (λs H fp=>ao (i:=0) (show(["node","inner"]:List Str).Nodup by decide +kernel) rfl (Or.inl rfl) (Or.inr rfl))
    (λs H fp=>mZ (wL (cu hr) (aH (r:=ck K) ay (pv 0) aj (λ_ _=>rfl)) (pv 1))) (λs H fp=>pv 0)) (aa (pv 3) ae))))))),?_⟩
  case hcl =>
   intro y hy;rcases mem_cons.mp hy with e|hy
   ·rw[e];rfl
   ·cases hy
  case hj =>
   intro i j x h1 h2
   match i,h1,h2 with
   |0,h1,h2 =>
    cases h1;cases h2;exact⟨rfl,Or.inr (Or.inl rfl),(show((ag eX).names.lookup ("inner":Str)≠some NameKind.local)by decide +kernel),by first|exact Or.inl rfl|exact Or.inr rfl⟩
   |i+1,h1,h2=>simp at h1
  refine⟨_,rfl,_,rfl,t,k,zs,rfl,tr,k0,k1,hk,λms d H1 s1 hd0 hd hup hml hm=>?_⟩;have hnd:=gL hup;refine⟨_,rfl,d,_,rfl,hd,λo p hp=>?_⟩;have s1':Same H (upd H1 d (.frz o (.dK (inK ms)))):=aG hd0 s1;have hd1:upd H1 d (.frz o (.dK (inK ms))) d=some (.frz o (.dK (inK ms))):=ac;generalize upd H1 d (.frz o (.dK (inK ms)))=H2 at s1' hd1 hp⊢;rw[mK];refine bH (fr:=[]) ms V.int (by omega) hp (by rw[←mK];exact je hd1) rfl (λm y H'=>∃q,y=.ref q∧q≠p∧H' q=some (.tup [.int m,.int m])) (λm y H H' ⟨q,e,ne,h⟩ ex=>⟨q,e,ne,ex q _ ne h⟩) (λm H' kk _ s3 hpl hkk=>?_) (λys H3 s3 hp3 hys=>?_)
  ·exact⟨_,rfl,_,rfl,le2,λq hq=>hkk _ _ (af hq) ⟨q,rfl,cJ hpl hq,ac⟩⟩
  obtain⟨bs,e1,e2,e3⟩:=cw (val:=V.ref) (S:=λ(m:Int) (q:Addr)=>H3 q=some (.tup [.int m,.int m])) hys (λm y _ ⟨q,e,_,h⟩=>⟨q,e,h⟩);have hbl:bs.length=ms.length:=by rw[←e1,length_map]
  have s13:=s1'.trans s3;refine⟨p,bs.map λx=>(x.2,(Sum.inl x.1:Key),V.int x.1),rfl,by rw[hp3,e2,map_map,map_map];rfl,λy hy=>?_,by rw[length_map];omega,?_,λg hg=>?_⟩
  ·obtain⟨x,hx,rfl⟩:=mem_map.mp hy;exact e3 x hx
  ·rw[map_map];have e4:bs.map ((λx:Addr×Key×V=>x.2.1)∘λx=>(x.2,(Sum.inl x.1:Key),V.int x.1))=ms.map (Sum.inl:Int→Key):=by rw[←e1,map_map];rfl
   rw[e4];exact ou hnd
  have ekv:(bs.map λx=>(x.2,(Sum.inl x.1:Key),V.int x.1)).map (·.2)=idK ms:=by unfold idK;rw[←e1,map_map,map_map];rfl
  rw[ekv];have hgf:H g=none:=s13.free hg;have s4:=s13.trans (af (o:=.dK (idK ms)) hg);have hd3:=s3 _ _ hd1;have hd4:=af (o:=.dK (idK ms)) hg _ _ hd3;have ngd:d≠g:=λe=>by rw[←e,hd3]at hg;cases hg
  refine⟨_,rfl,_,rfl,g,_,rfl,nv.k (k:=Sum.inl k) (kvs:=idK ms) ac (aF (by unfold idK;rw[length_map];omega)),?_⟩;have s5:Same H (upd (upd H3 g (.dK (idK ms))) g (.dK (bQ (idK ms) (Sum.inl k:Key) (.int 0)))):=aG hgf s4;have hg5:(upd (upd H3 g (.dK (idK ms))) g (.dK (bQ (idK ms) (Sum.inl k:Key) (.int 0)))) g=some (.dK (bQ (idK ms) (Sum.inl k:Key) (.int 0))):=ac;have hd5:(upd (upd H3 g (.dK (idK ms))) g (.dK (bQ (idK ms) (Sum.inl k:Key) (.int 0)))) d=some (.frz o (.dK (inK ms))):=by rw[ai ngd];exact hd4
  generalize upd (upd H3 g (.dK (idK ms))) g (.dK (bQ (idK ms) (Sum.inl k:Key) (.int 0)))=H5 at s5 hg5 hd5⊢;have tr5:=tr.same s5;refine⟨_,rfl,t,rfl,⟨_,SqT.of tr5.tup⟩,λp2 hp2=>?_⟩;refine eN (fr:=[some (.ref d)]) zs (λz=>V.ref z.1) (by omega) hp2 (bE (by rw[aK];exact SqT.of tr5.tup)) rfl (isB zs k) (λz y _=>y=.ref z.1) (λ_ _ _ _ h _=>h) (λz H' kk mz s6 _ hkk=>?_) (λz H' kk mz _ s6 _ hkk=>?_) (λys H6 s6 hp6 hys=>?_)
  ·obtain⟨ov,dg,ho⟩:=pM (H:=H') (d:=d) (ms:=ms) (.inr ⟨o,s6 _ _ hd5⟩) hnd z.2.num;refine⟨_,rfl,z.1,_,_,_,rfl,rfl,SqT.of (s6 _ _ (tr5.nod z mz)),at0 z.2,_,rfl,d,_,rfl,dg,_,rfl,?_⟩;rw[ho,tR tr.tr hm mz];exact hkk H' (Same.refl _)
  ·exact⟨_,rfl,hkk _ H' (Same.refl _) rfl⟩
  have ey:=aQ (f:=λz:Addr×Nd=>V.ref z.1) hys (λz y _ h=>h);have hlst:H6 p2=some (.lst (aI (bel zs k))):=by rw[hp6,ey,←aK];rfl
  have s56:=s5.trans s6;have hbn:((bel zs k).map λz=>z.2.num).Nodup:=gL (lc tr.tr _);have hin:∀z∈bel zs k,TW.Reach (nds zs) k z.2:=λz hz=>cb.mp (mem_filter.mp hz).2;have hid:∀x,x∈ms→bc (bQ (idK ms) (Sum.inl k:Key) (.int 0)) (Sum.inl x:Key)=some (.int (if x=k then 0 else x)):=λx hx=>by
   rw[cZ]
   by_cases e:x=k
   ·rw[if_pos (by rw[e]),if_pos e]
   ·rw[if_neg (λh=>e (by injection h)),if_neg e];exact gE (by
     have:(idK ms).map (·.1)=ms.map (Sum.inl:Int→Key):=by unfold idK;rw[map_map];rfl
     rw[this];exact ou hnd) (by unfold idK;exact mem_map.mpr ⟨x,hx,rfl⟩)
  have hidk:bc (bQ (idK ms) (Sum.inl k:Key) (.int 0)) (Sum.inl k:Key)=some (.int (if k=k then 0 else k)):=by rw[cZ,if_pos rfl,if_pos rfl]
  refine⟨_,rfl,p2,g,bel zs k,_,λx=>if x=k then 0 else x,rfl,hlst,λz hz=>s56 _ _ (tr.nod z (fb hz)),by have:=gK zs k;omega,s6 _ _ hg5,λz hz=>⟨hid _ ((hm _).mpr ⟨z.2,aw (fb hz),rfl,hin z hz⟩),?_⟩,?_,λus t' H7 s7 ht' hA' hpm hri=>?_⟩
  ·have hr':=hin z hz;generalize z.2=n at hr';cases hr' with
   |base _ e=>rw[e];exact hidk
   |@step m _ hrm _ _ e=>rw[e];exact hid _ ((hm _).mpr ⟨m,hrm.mem,rfl,hrm⟩)
  ·have:((bel zs k).map λz=>if z.2.num=k then (0:Int)else z.2.num)=(bel zs k).map λz=>z.2.num:=map_congr_left λz hz=>if_neg (TW.da tr.tr (hin z hz))
   rw[this];exact hbn
  ·have en:nds us=TW.cT (nds zs) k:=by
    refine TW.tO hri (TW.ka tr.tr.rise k) λn=>?_;rw[hpm.mem_iff,gM,mem_map,TW.bv];constructor
    ·rintro⟨m,hm',rfl⟩;have hrm:=TW.dH.mp hm';refine⟨m,hrm,?_⟩;show(⟨if m.num=k then 0 else m.num,if m.par=k then 0 else m.par,m.nm,m.st⟩:Nd)=⟨m.num,if m.par=k then 0 else m.par,m.nm,m.st⟩
     rw[if_neg (TW.da tr.tr hrm)]
    ·rintro⟨m,hrm,rfl⟩;refine⟨m,TW.dH.mpr hrm,?_⟩;show(⟨if m.num=k then 0 else m.num,if m.par=k then 0 else m.par,m.nm,m.st⟩:Nd)=⟨m.num,if m.par=k then 0 else m.par,m.nm,m.st⟩
     rw[if_neg (TW.da tr.tr hrm)]
   have hul:us.length≤30:=by
    have:=hpm.length_eq;rw[aq,length_map,aq]at this;have:=gK zs k;omega
   exact q t' us H7 (s56.trans s7) ⟨ht',hA',by rw[en];exact TW.cV tr.tr k,hul⟩ en
def ow:Sp:=λvs H Q _=>∃t k zs,vs=[.ref t,.int k]∧Tre H t zs∧0≤k∧k≤60∧Fold zs k∧∀t' us H',Same H H'→Tre H' t' us→nds us=TW.woT (nds zs) k→Q (.ref t') H'
theorem yY:FnScope ["tree","number","inner"] ["tree","number"] (ag eY):=fsc
theorem lj(zs:ZN)(k:Int):nds (zs.filter λz=>!isB zs k z)=TW.woT (nds zs) k:=by
 unfold TW.woT nds;rw[filter_map]
 congr 1
theorem yZ{f:Addr}{fd:FuncData}(F:Fun K "without" "without" eY f fd)(T:Txt mg)(CI:Has P w K mg base 3 "inner_numbers" ["tree","number"] li):FnOk P w K mg base CX0 4 f fd ["tree","number"] ow:=by
 obtain⟨fI,fdI,GI,mI,kI,bI⟩:=CI;refine F.ok yY (λvs H Q E h=>?_) (λcdv A outer s H vs Q E hr h=>?_)
 ·obtain⟨t,k,zs,rfl,_⟩:=h;rfl
 ·obtain⟨t,k,zs,rfl,tr,k0,k1,hk,q⟩:=h;have hl:=tr.len;refine⟨_,ah (au (i:=2) yY.nd rfl (Or.inr rfl) (ak GI hr rfl mI kI bI .nil ap (aa (pv 0) (aa (pv 1) ae))))
   (al (ar (aS bw rfl T.tuple rfl (aa (fz (N:=["node","inner"]) (cl:=[("inner",s.heap.objs.size+1)]) (k:=1) (js:=[2]) (g:=aO 0) rfl
    (LcOk.mk' ["inner"] rfl rfl (by decide +kernel) (by decide +kernel) ?hcl rfl (by decide +kernel)) rfl ?hj (bD (pv 0)) (λs H fp=>ao (i:=0) (show(["node","inner"]:List Str).Nodup by decide +kernel) rfl (Or.inl rfl) (Or.inr rfl))
    (λs H fp=>mZ (jJ (cu hr) (aH (r:=ck K) ay (pv 0) aj (λ_ _=>rfl)) (pv 1))) (λs H fp=>pv 0)) ae)))),?_⟩
  case hcl =>
   intro y hy;rcases mem_cons.mp hy with e|hy
   ·rw[e];rfl
   ·cases hy
  case hj =>
   intro i j x h1 h2
   match i,h1,h2 with
   |0,h1,h2 =>
    cases h1;cases h2;exact⟨rfl,Or.inr (Or.inl rfl),(show((ag eY).names.lookup ("inner":Str)≠some NameKind.local)by decide +kernel),by first|exact Or.inl rfl|exact Or.inr rfl⟩
   |i+1,h1,h2=>simp at h1
  refine⟨_,rfl,_,rfl,t,k,zs,rfl,tr,k0,k1,hk,λms d H1 s1 hd0 hd hup hml hm=>?_⟩;have hnd:=gL hup;have tr1:=tr.same s1;refine⟨_,rfl,t,rfl,⟨_,SqT.of tr1.tup⟩,λp2 hp2=>?_⟩;refine eN (fr:=[some (.ref d)]) zs (λz=>V.ref z.1) (by omega) hp2 (bE (by rw[aK];exact SqT.of tr1.tup)) rfl (λz=>!isB zs k z) (λz y _=>y=.ref z.1) (λ_ _ _ _ h _=>h) (λz H' kk mz s6 _ hkk=>?_) (λz H' kk mz _ s6 _ hkk=>?_) (λys H6 s6 hp6 hys=>?_)
  ·obtain⟨ov,dg,ho⟩:=pM (H:=H') (d:=d) (ms:=ms) (.inl (s6 _ _ hd)) hnd z.2.num;refine⟨_,rfl,z.1,_,_,_,rfl,rfl,SqT.of (s6 _ _ (tr1.nod z mz)),at0 z.2,_,rfl,d,_,rfl,dg,_,rfl,?_⟩;rw[ho,tR tr.tr hm mz];exact hkk H' (Same.refl _)
  ·exact⟨_,rfl,hkk _ H' (Same.refl _) rfl⟩
  have ey:=aQ (f:=λz:Addr×Nd=>V.ref z.1) hys (λz y _ h=>h);refine⟨p2,_,rfl,.inl ⟨SqL.of hp6,λt' ht'=>?_⟩⟩;have s7:=af (o:=.tup ys) ht';have s17:=(s1.trans s6).trans s7;have en:=lj zs k;refine q t' (zs.filter λz=>!isB zs k z) _ s17 ⟨by rw[ac,ey,←aK],λz hz=>s17 _ _ (tr.nod z (mem_filter.mp hz).1),by rw[en];exact TW.de tr.tr k,le_trans (length_filter_le _ _) hl⟩ en
end
def shf(k gr n:Int):Int:=if n=0 then k else n+gr
theorem tT{l m:List Nd}(hl:TW.bt l)(hm:TW.bt m)(h:l.Perm m):l=m:=fK (R:=λa b:Nd=>a.num<b.num) (λa=>Int.lt_irrefl _) (λa b h1 h2=>by omega) hl hm λx=>h.mem_iff
def shK(os:ZN)(gr:Int):List (Key×V):=os.map λz=>((Sum.inl z.2.num:Key),V.int (z.2.num+gr))
theorem pN{os:ZN}{gr k:Int}(hn:(os.map λz=>z.2.num).Nodup){z:Addr×Nd}(hz:z∈os)(h1:1≤z.2.num):bc (bQ (shK os gr) (Sum.inl 0:Key) (.int k)) (Sum.inl z.2.num:Key)=some (.int (shf k gr z.2.num)):=by
 have hne:¬(Sum.inl z.2.num:Key)=Sum.inl 0:=λh=>by injection h with h;omega
 rw[cZ,if_neg hne];unfold shf;rw[if_neg (by omega)];refine gE ?_ (mem_map.mpr ⟨z,hz,rfl⟩);unfold shK;rw[map_map];unfold Nodup at hn⊢;rw[pairwise_map]at hn⊢;exact hn.imp λh e=>h (by injection e)
theorem vG{os:ZN}{gr k:Int}:bc (bQ (shK os gr) (Sum.inl 0:Key) (.int k)) (Sum.inl 0:Key)=some (.int (shf k gr 0)):=by
 rw[cZ,if_pos rfl];rfl
section
variable{P:Program}{w:World}{K:PySem.W.Frag}{mg:Str→Option Value}{base:Heap}
def GrS(zs:ZN)(gr:Int):Prop:=(zs=[]∧gr=0)∨GrI (nums zs) (nums zs).length gr
def dI(CT:Addr):Sp:=λvs H Q E=>∃t k o zs os,vs=[.ref t,.int k,.ref o]∧Tre H t zs∧Tre H o os∧0≤k∧k≤60∧Fold zs k∧∀gr,GrS zs gr →
  (TW.aY (nds zs++(nds os).map (reN (shf k gr)))→∀us w H',Same H H'→H' w=some (.tup (aI us))→At H' us→nds us=nds zs++(nds os).map (reN (shf k gr))→Q (.ref w) H')∧(¬TW.aY (nds zs++(nds os).map (reN (shf k gr)))→∀H',Same H H'→E (.ref CT) none H')
theorem pO:FnScope ["tree","number","other","greatest","numbers","whole"] ["tree","number","other"] (ag cE):=fsc
def grS(i:Nat):Stmt:=(br cE).getD i (.Pass ⟨0,0,0,0⟩)
theorem xU{f CT:Addr}{cdv:Value}{A:Around}{outer:List Env}{s:Shared}{H:Hp}{E:XK}(O:pw "Taken" mg base CT)(CO:Has P w K mg base 1 "have_own_places" ["nodes"] mH)(hr:Room 1 (A.deeper (PyProof.Rows.envOfC "grafted" (ag cE) s.heap.objs.size f cdv))):
  ∃rd,PSs (gd (CX1 P w) P w K mg base ["tree","number","other","greatest","numbers","whole"] "grafted" (ag cE) f cdv A outer s H E) [grS 5,grS 6] rd∧∀(Q:VK)(H7:Hp)(t o g wh:Addr)(k gr:Int)(ws:ZN),H7 wh=some (.tup (aI ws))→At H7 ws→ws.length≤60→0≤k→k≤60→(TW.aY (nds ws)→∀H',Same H7 H'→Q (.ref wh) H')→(¬TW.aY (nds ws)→∀H',Same H7 H'→E (.ref CT) none H') →
   rd {nx:=λ_ H'=>Q .non H',rt:=Q} [some (.ref t),some (.int k),some (.ref o),some (.int gr),some (.ref g),some (.ref wh)] H7:=by
 obtain⟨fO,fdO,GO,mO,kO,bO⟩:=CO;refine⟨_,(ah (bu (cX (cW (ak GO hr rfl mO kO bO .nil ap (aa (pv 5) ae)) (λ_=>rfl))) (al (md sr O hr.hd rfl (uY (sI (c:=100) (by decide +kernel) (vC (pv 1) (sI (c:=100) (by decide +kernel) xb))) (by decide)))) aR)
   (al (ar (pv 5)))),?_⟩
 intro Q H7 t o g wh k gr ws hw hA hl k0 k1 q1 q2;refine⟨_,rfl,wh,ws,rfl,hw,hA,hl,λb H8 hb s8=>⟨b,rfl,?_⟩⟩;cases b with
 |true=>exact be ⟨_,rfl,q1 (hb.mp rfl) H8 s8⟩
 |false=>exact cC ⟨_,rfl,k,rfl,by omega,by omega,λy=>⟨aA (show 1≤1000 by decide),q2 (λh=>absurd (hb.mpr h) (by simp)) H8 s8⟩⟩
theorem vH{f CT:Addr}{fd:FuncData}(F:Fun K "grafted" "grafted" cE f fd)(T:Txt mg)(O:pw "Taken" mg base CT)(CB:Has P w K mg base 1 "by_number" ["tree"] gH)(CFo:Has P w K mg base 2 "check_folder" ["nodes","number"] jW)(CG:Has P w K mg base 1 "greatest_number" ["tree"] tQ)(CW:Has P w K mg base 1 "with_numbers" ["tree","numbers"] pL)(CO:Has P w K mg base 1 "have_own_places" ["nodes"] mH):FnOk P w K mg base (CX1 P w) 3 f fd ["tree","number","other"] (dI CT):=by
 obtain⟨fB,fdB,GB,mB,kB,bB⟩:=CB;obtain⟨fF,fdF,GF,mF,kF,bF⟩:=CFo;obtain⟨fG,fdG,GG,mG,kG,bG⟩:=CG;obtain⟨fW,fdW,GW,mW,kW,bW⟩:=CW;obtain⟨tt,hT⟩:=T.top;refine F.okX pO (λvs H Q E h=>?_) (λcdv A outer s H vs Q E hr h=>?_)
 ·obtain⟨t,k,o,zs,os,rfl,_⟩:=h;rfl
 ·obtain⟨t,k,o,zs,os,rfl,tr,tro,k0,k1,hk,qq⟩:=h;have hr1:Room 1 _:=hr.mono (by decide);have hl:=tr.len;have hnd:=bJ tr.tr;have hol:=tro.len;obtain⟨re,pe,he⟩:=xU (f:=f) (cdv:=cdv) (A:=A) (outer:=outer) (s:=s) (H:=H) (E:=E) O CO hr1;have ho:=tro.tup;have hA:=tro.nod;refine⟨_,ah (cp (ak GF hr rfl mF kF bF .nil ap (aa (ak GB hr1 rfl mB kB bB .nil ap (aa (pv 0) ae)) (aa (pv 1) ae))))
   (ah (au (i:=3) pO.nd rfl (Or.inr rfl) (ak GG hr1 rfl mG kG bG .nil ap (aa (pv 0) ae)))
   (ah (au (i:=4) pO.nd rfl (Or.inl rfl) (aS (di rfl) rfl T.dict boot_dict (aa (ce (N:=["node","greatest"]) (cl:=[("greatest",s.heap.objs.size+1)]) (k:=1) (js:=[3]) (g:=aO 0) rfl
    (LcOk.mk' ["greatest"] rfl rfl (by decide +kernel) (by decide +kernel) ?hcl rfl (by decide +kernel)) rfl ?hj (bD (pv 2)) (λs H fp=>ao (i:=0) (show(["node","greatest"]:List Str).Nodup by decide +kernel) rfl (Or.inl rfl) (Or.inr rfl))
    (λs H fp=>bq (aa (aH (r:=ck K) ay (pv 0) aj (λ_ _=>rfl)) (aa (aM bp (aH (r:=ck K) ay (pv 0) aj (λ_ _=>rfl)) (pv 1)) ae)))) ae)))
   (ah (kr (cu hr) (pv 4) (aU (v:=.int 0) rfl hT ⟨_,rfl⟩) (pv 1) rfl)
   (ah (au (i:=5) pO.nd rfl (Or.inl rfl) (aM (lT.or iw) (pv 0) (ak GW hr1 rfl mW kW bW .nil ap (aa (pv 2) (aa (pv 4) ae)))))
   pe)))),?_⟩
  case hcl =>
   intro y hy;rcases mem_cons.mp hy with e|hy
   ·rw[e];rfl
   ·cases hy
  case hj =>
   intro i j x h1 h2
   match i,h1,h2 with
   |0,h1,h2 =>
    cases h1;cases h2;exact⟨rfl,Or.inr (Or.inl rfl),(show((ag cE).names.lookup ("greatest":Str)≠some NameKind.local)by decide +kernel),by first|exact Or.inl rfl|exact Or.inr rfl⟩
   |i+1,h1,h2=>simp at h1
  have hpos:∀z∈os,1≤z.2.num:=λz hz=>tro.tr.pos z.2 (aw hz);have hpar:∀z∈os,z.2.par=0∨∃y∈os,y.2.num=z.2.par:=λz hz=>by
   have:=tro.tr.down z.2 (aw hz);generalize z.2=n at this;cases this with
   |base _ e=>exact .inl e
   |@step m _ hrm _ _ e =>
    obtain⟨y,hy,ey⟩:=bn hrm.mem;exact .inr ⟨y,hy,by rw[ey,e]⟩
  have hrise:=tro.tr.rise;refine⟨_,rfl,t,zs,rfl,tr.tup,tr.nod,by omega,hnd,λd H1 s1 nd1=>⟨_,rfl,d,k,zs,rfl,nd1,tr.nod.same s1,hnd,k0,k1,hk,?_⟩⟩;have tr1:=tr.same s1;refine⟨_,rfl,t,zs,rfl,tr1.tup,tr1.nod,by omega,λgr H2 s2 hgr=>?_⟩;obtain⟨qok,qno⟩:=qq gr hgr;have s12:=s1.trans s2;have ho2:=s12 _ _ ho;have hA2:=hA.same s12;have hon:(os.map λz=>z.2.num).Nodup:=by
   have:=hrise;unfold TW.bt nds at this;unfold Nodup;rw[pairwise_map]at this⊢;exact this.imp λh=>by omega
  refine⟨_,rfl,o,rfl,⟨_,SqT.of ho2⟩,λp hp=>?_⟩;refine bH (fr:=[some (.int gr)]) os (λz=>V.ref z.1) (by omega) hp (bE (by rw[aK];exact SqT.of ho2)) rfl (λz y H'=>∃q,y=.ref q∧q≠p∧H' q=some (.tup [.int z.2.num,.int (z.2.num+gr)])) (λz y H H' ⟨q,e,ne,h⟩ ex=>⟨q,e,ne,ex q _ ne h⟩) (λz H' kk mz s3 hpl hk'=>?_) (λys H3 s3 hp3 hys=>?_)
  ·have hz3:=s3 _ _ (hA2 z mz);exact⟨_,rfl,z.1,_,_,_,rfl,rfl,SqT.of hz3,at0 z.2,_,rfl,z.1,_,_,_,rfl,rfl,SqT.of hz3,at0 z.2,_,rfl,_,_,rfl,rfl,le2,λq hq=>hk' _ _ (af hq) ⟨q,rfl,cJ hpl hq,ac⟩⟩
  ·obtain⟨bs,e1,e2,e3⟩:=cw (val:=V.ref) (S:=λ(z:Addr×Nd) (q:Addr)=>H3 q=some (.tup [.int z.2.num,.int (z.2.num+gr)])) hys (λz y _ ⟨q,e,_,h⟩=>⟨q,e,h⟩);have s123:=s12.trans s3;have hbl:bs.length=os.length:=by rw[←e1,length_map]
   refine⟨p,bs.map λx=>(x.2,(Sum.inl x.1.2.num:Key),V.int (x.1.2.num+gr)),rfl,by rw[hp3,e2,map_map,map_map];rfl,λy hy=>?_,by rw[length_map];omega,?_,λg hg=>?_⟩
   ·obtain⟨x,hx,rfl⟩:=mem_map.mp hy;exact e3 x hx
   ·rw[map_map];have e4:bs.map ((λx:Addr×Key×V=>x.2.1)∘λx=>(x.2,(Sum.inl x.1.2.num:Key),V.int (x.1.2.num+gr)))=(os.map λz=>z.2.num).map (Sum.inl:Int→Key):=by rw[←e1,map_map,map_map];rfl
    rw[e4];unfold Nodup at hon⊢;rw[pairwise_map];exact hon.imp λh e=>h (by injection e)
   ·have ekv:(bs.map λx=>(x.2,(Sum.inl x.1.2.num:Key),V.int (x.1.2.num+gr))).map (·.2)=shK os gr:=by unfold shK;rw[←e1,map_map,map_map];rfl
    rw[ekv];have hgfree:H g=none:=s123.free hg;have s4:=s123.trans (af (o:=.dK (shK os gr)) hg);refine⟨_,rfl,_,rfl,g,_,rfl,nv.k (k:=Sum.inl 0) (kvs:=shK os gr) ac (aF (by unfold shK;rw[length_map];omega)),?_⟩;have s5:Same H (upd (upd H3 g (.dK (shK os gr))) g (.dK (bQ (shK os gr) (Sum.inl 0:Key) (.int k)))):=aG hgfree s4;have hgo:(upd (upd H3 g (.dK (shK os gr))) g (.dK (bQ (shK os gr) (Sum.inl 0:Key) (.int k)))) g=some (.dK (bQ (shK os gr) (Sum.inl 0:Key) (.int k))):=ac;generalize upd (upd H3 g (.dK (shK os gr))) g (.dK (bQ (shK os gr) (Sum.inl 0:Key) (.int k)))=H5 at s5 hgo⊢;have hgN:(os.map λz=>shf k gr z.2.num).Nodup:=by
     have:=hrise;unfold TW.bt nds at this;unfold Nodup;rw[pairwise_map]at this⊢;refine this.imp_of_mem λ{a b} ha hb hab=>?_;have h1:=hpos a ha;have h2:=hpos b hb;unfold shf;rw[if_neg (by omega),if_neg (by omega)];omega
    refine⟨_,rfl,_,rfl,_,rfl,o,g,os,_,shf k gr,rfl,s5 _ _ ho,hA.same s5,by omega,hgo,λz hz=>⟨pN hon hz (hpos z hz),?_⟩,hgN,λus t6 H6 s6 ht6 hA6 hpm hr6=>?_⟩
    ·rcases hpar z hz with e|⟨y,hy,e⟩
     ·rw[e];exact vG
     ·rw[←e];exact pN hon hy (hpos y hy)
    have hrm:TW.bt ((nds os).map (reN (shf k gr))):=by
     unfold TW.bt at hrise⊢;rw[pairwise_map];refine hrise.imp_of_mem λ{a b} ha hb hab=>?_;obtain⟨za,hza,rfl⟩:=bn ha;obtain⟨zb,hzb,rfl⟩:=bn hb;have h1:=hpos za hza;have h2:=hpos zb hzb;show shf k gr za.2.num<shf k gr zb.2.num;unfold shf;rw[if_neg (by omega),if_neg (by omega)];omega
    have eu:=tT hr6 hrm hpm;have hul:us.length=os.length:=by
     have:=congrArg length eu;rw[length_map,aq,aq]at this;exact this
    have s56:=s5.trans s6;have end_:nds (zs++us)=nds zs++(nds os).map (reN (shf k gr)):=by rw[←eu];unfold nds;rw[map_append]
    have hrf:aI (zs++us)=aI zs++aI us:=by unfold aI;rw[map_append,map_append]
    have fin:∀(wh:Addr)(H7:Hp),Same H H7→Same H6 H7→H7 wh=some (.tup (aI (zs++us)))→re {nx:=λ_ H'=>Q .non H',rt:=Q} [some (.ref t),some (.int k),some (.ref o),some (.int gr),some (.ref g),some (.ref wh)] H7:=λwh H7 sA sB hwt=>by
     have hwA:At H7 (zs++us):=λz hz=>by
      rcases mem_append.mp hz with h|h
      ·exact sA _ _ (tr.nod z h)
      ·exact sB _ _ (hA6 z h)
     refine he Q H7 t o g wh k gr (zs++us) hwt hwA (by rw[length_append];omega) k0 k1 (λhp H8 s8=>?_) (λhp H8 s8=>?_)
     ·rw[end_]at hp;exact qok hp (zs++us) wh H8 (sA.trans s8) (s8 _ _ hwt) (λz hz=>s8 _ _ (hwA z hz)) end_
     ·rw[end_]at hp;exact qno hp H8 (sA.trans s8)
    by_cases hz0:zs=[]
    ·refine .inl ⟨t,t6,_,rfl,rfl,SqT.of ?_,SqT.of ht6,fin t6 H6 s56 (Same.refl _) ?_⟩
     ·have:=s56 _ _ tr.tup;rw[hz0]at this;exact this
     ·rw[ht6,hz0];rfl
    ·have hne1:aI zs≠[]:=λh=>hz0 (length_eq_zero_iff.mp (by rw[←aD,h];rfl));refine .inr ⟨t,t6,_,_,rfl,rfl,SqT.of (s56 _ _ tr.tup),SqT.of ht6,hne1,aA (by rw[aD,aD];show _≤1000;omega),λh=>?_,λ_ wh hwh=>?_⟩
     ·refine fin t H6 s56 (Same.refl _) ?_;rw[s56 _ _ tr.tup,hrf,h,append_nil]
     ·have s7:=af (o:=.tup (aI zs++aI us)) hwh;exact fin wh _ (s56.trans s7) s7 (by rw[ac,hrf])
end
end TK
namespace TW
section
variable{S:Type}
def ShN(t:List (Nd S))(p:List S)(st:Option Int):Prop:=∃n∈t,PathTo t n.num p∧n.st=st
theorem PathTo.mono{t u:List (Nd S)}{k:Int}{p:List S}(h:PathTo t k p)(hs:∀x∈t,x∈u):PathTo u k p:=by
 induction h with
 |top=>exact .top
 |node hm _ ih=>exact .node (hs _ hm) ih
theorem jo{t:List (Nd S)}(T:Tree1 t){k:Int}{pk:List S}(hk:PathTo t k pk){n:Nd S}(h:Reach t k n):∀{q:List S},PathTo t n.num q→∃r,q=pk++r∧PathTo (cT t k) n.num r:=by
 induction h with
 |@base n hm hp =>
  intro q hq;obtain⟨q',e,hq'⟩:=hq.inv T hm rfl;rw[hp]at hq';refine⟨[n.nm],by rw[e,hq'.uniq T hk],?_⟩;have hc:ir k n∈cT t k:=bv.mpr ⟨n,.base hm hp,rfl⟩;have h0:(ir k n).par=0:=by show(if n.par=k then 0 else n.par)=0;rw[if_pos hp]
  exact PathTo.node (n:=ir k n) (p:=[]) hc (by rw[h0];exact .top)
 |@step m n hr hf hm hp ih =>
  intro q hq;obtain⟨q',e,hq'⟩:=hq.inv T hm rfl;rw[hp]at hq';obtain⟨r,e2,hr2⟩:=ih hq';refine⟨r++[n.nm],by rw[e,e2,append_assoc],?_⟩;have hc:ir k n∈cT t k:=bv.mpr ⟨n,.step hr hf hm hp,rfl⟩;have h0:(ir k n).par=m.num:=by
   show(if n.par=k then 0 else n.par)=m.num;rw[if_neg (by rw[hp];exact da T hr),hp]
  exact PathTo.node (n:=ir k n) hc (by rw[h0];exact hr2)
theorem ll{t:List (Nd S)}(T:Tree1 t){k:Int}{pk:List S}(hk:PathTo t k pk){r:List S}{st:Option Int}:ShN (cT t k) r st↔∃n,Reach t k n∧PathTo t n.num (pk++r)∧n.st=st:=by
 constructor
 ·rintro⟨n',hn',hp,e⟩;obtain⟨n,hr,rfl⟩:=bv.mp hn';obtain⟨q,hq⟩:=PathTo.ex T hr.mem;obtain⟨r2,e2,h2⟩:=jo T hk hr hq;have:r=r2:=PathTo.uniq (cV T k) hp h2;subst this;exact⟨n,hr,by rw[←e2];exact hq,e⟩
 ·rintro⟨n,hr,hp,e⟩;obtain⟨r2,e2,h2⟩:=jo T hk hr hp;have:r=r2:=List.append_cancel_left e2;subst this;exact⟨ir k n,bv.mpr ⟨n,hr,rfl⟩,h2,e⟩
theorem zc{t:List (Nd S)}(T:Tree1 t)(k:Int){p:List S}{st:Option Int}:ShN (woT t k) p st↔∃n∈t,¬Reach t k n∧PathTo t n.num p∧n.st=st:=by
 constructor
 ·rintro⟨n,hn,hp,e⟩;obtain⟨h1,h2⟩:=bi.mp hn;exact⟨n,h1,h2,hp.mono λx hx=>(bi.mp hx).1,e⟩
 ·rintro⟨n,hn,hr,hp,e⟩;have hm:n∈woT t k:=bi.mpr ⟨hn,hr⟩;obtain⟨q,hq⟩:=PathTo.ex (de T k) hm;have:=PathTo.uniq T (hq.mono λx hx=>(bi.mp hx).1) hp;subst this;exact⟨n,hm,hq,e⟩
def grN(k g:Int)(n:Nd S):Nd S:=⟨n.num+g,if n.par=0 then k else n.par+g,n.nm,n.st⟩
section
variable{t u:List (Nd S)}{k g:Int}
theorem fM{t:List (Nd S)}(T:Tree1 t){n:Nd S}(hn:n∈t):n.par=0∨∃m∈t,m.num=n.par:=by
 have:=T.down n hn;cases this with
 |base _ e=>exact .inl e
 |@step m _ hr _ _ e=>exact .inr ⟨m,hr.mem,e.symm⟩
theorem kb(T:Tree1 t)(U:Tree1 u)(hk:Fold t k)(hg:∀n∈t,n.num≤g)(h0:0≤g):aY (t++u.map (grN k g))↔∀m∈u,m.par=0→∀n∈t,n.par=k→n.nm≠m.nm:=by
 have hkg:k≤g:=by
  rcases hk with e|⟨m,hm,_,e⟩
  ·omega
  ·have:=hg m hm;omega
 unfold aY Nodup;rw[map_append,List.pairwise_append];constructor
 ·rintro⟨_,_,h⟩ m hm e n hn e2 e3;refine h (n.par,n.nm) (mem_map.mpr ⟨n,hn,rfl⟩) ((grN k g m).par,(grN k g m).nm) (mem_map.mpr ⟨_,mem_map.mpr ⟨m,hm,rfl⟩,rfl⟩) ?_;show(n.par,n.nm)=(if m.par=0 then k else m.par+g,m.nm);rw[if_pos e,e2,e3]
 ·intro h;refine⟨T.own,?_,λa ha b hb e=>?_⟩
  ·have own:=U.own;unfold aY Nodup at own;rw[map_map,pairwise_map];rw[pairwise_map]at own;refine own.imp_of_mem λ{a b} ha hb hab e=>hab ?_;have e1:(if a.par=0 then k else a.par+g)=(if b.par=0 then k else b.par+g):=congrArg Prod.fst e;have e2:a.nm=b.nm:=congrArg Prod.snd e;have pa:a.par=0∨1≤a.par:=(fM U ha).imp id λ⟨m,hm,e⟩=>by have:=U.pos m hm;omega
   have pb:b.par=0∨1≤b.par:=(fM U hb).imp id λ⟨m,hm,e⟩=>by have:=U.pos m hm;omega
   have ep:a.par=b.par:=by
    by_cases z1:a.par=0<;>by_cases z2:b.par=0
    ·rw[z1,z2]
    ·rw[if_pos z1,if_neg z2]at e1;omega
    ·rw[if_neg z1,if_pos z2]at e1;omega
    ·rw[if_neg z1,if_neg z2]at e1;omega
   show(a.par,a.nm)=(b.par,b.nm);rw[ep,e2]
  ·obtain⟨n,hn,rfl⟩:=mem_map.mp ha;obtain⟨m',hm',rfl⟩:=mem_map.mp hb;obtain⟨m,hm,rfl⟩:=mem_map.mp hm';have e1:n.par=(if m.par=0 then k else m.par+g):=congrArg Prod.fst e;have e2:n.nm=m.nm:=congrArg Prod.snd e
   by_cases z:m.par=0
   ·rw[if_pos z]at e1;exact h m hm z n hn e1 e2
   ·rw[if_neg z]at e1;have h1:n.par≤g:=by
     rcases fM T hn with e|⟨x,hx,e⟩
     ·omega
     ·have:=hg x hx;omega
    rcases fM U hm with e|⟨x,hx,e⟩
    ·exact z e
    ·have:=U.pos x hx;omega
theorem lm(T:Tree1 t)(U:Tree1 u)(hk:Fold t k)(hg:∀n∈t,n.num≤g)(h0:0≤g)(hp:aY (t++u.map (grN k g))):Tree1 (t++u.map (grN k g)):=by
 have key:∀n,n∈u→grN k g n∈t++u.map (grN k g):=λn h=>mem_append_right _ (mem_map.mpr ⟨n,h,rfl⟩);refine⟨⟨?_,hp,λn hn=>?_⟩,λn hn=>?_⟩
 ·unfold bt;rw[List.pairwise_append];refine⟨T.rise,?_,λx hx y hy=>?_⟩
  ·rw[pairwise_map];exact U.rise.imp λh=>by show _+g<_+g;omega
  ·obtain⟨z,hz,rfl⟩:=mem_map.mp hy;have:=hg x hx;have:=U.pos z hz;show x.num<z.num+g;omega
 ·rcases mem_append.mp hn with h|h
  ·exact(T.down n h).mono λx hx=>mem_append_left _ hx
  ·obtain⟨m,hm,rfl⟩:=mem_map.mp h;have hr:=U.down m hm;clear hn h hm
   induction hr with
   |@base n hm hp =>
    have e:(grN k g n).par=k:=by show(if n.par=0 then k else n.par+g)=k;rw[if_pos hp]
    rcases hk with e0|⟨m,hm2,hst,e2⟩
    ·exact .base (key n hm) (by rw[e,e0])
    ·exact .step ((T.down m hm2).mono λx hx=>mem_append_left _ hx) hst (key n hm) (by rw[e,e2])
   |@step m n hr hf hm hp ih =>
    refine .step ih hf (key n hm) ?_;have h1:=U.pos m hr.mem;show(if n.par=0 then k else n.par+g)=m.num+g;rw[if_neg (by omega),hp]
 ·rcases mem_append.mp hn with h|h
  ·exact T.pos n h
  ·obtain⟨m,hm,rfl⟩:=mem_map.mp h;have:=U.pos m hm;show 1≤m.num+g;omega
theorem lp{pk:List S}(U:Tree1 u)(hk:PathTo t k pk){x:Int}{p:List S}(h:PathTo u x p):PathTo (t++u.map (grN k g)) (if x=0 then k else x+g) (pk++p):=by
 induction h with
 |top =>
  rw[if_pos rfl,append_nil];exact hk.mono λx hx=>mem_append_left _ hx
 |@node n p hm _ ih =>
  have h1:=U.pos n hm;rw[if_neg (by omega),←append_assoc];exact PathTo.node (n:=grN k g n) (mem_append_right _ (mem_map.mpr ⟨n,hm,rfl⟩)) ih
theorem tU{pk:List S}(T:Tree1 t)(U:Tree1 u)(W:Tree1 (t++u.map (grN k g)))(hk:PathTo t k pk){p:List S}{st:Option Int}:ShN (t++u.map (grN k g)) p st↔ShN t p st∨∃r,p=pk++r∧ShN u r st:=by
 constructor
 ·rintro⟨n,hn,hp,e⟩;rcases mem_append.mp hn with h|h
  ·obtain⟨q,hq⟩:=PathTo.ex T h;have:=PathTo.uniq W (hq.mono λx hx=>mem_append_left _ hx) hp;subst this;exact .inl ⟨n,h,hq,e⟩
  ·obtain⟨m,hm,rfl⟩:=mem_map.mp h;obtain⟨q,hq⟩:=PathTo.ex U hm;have h2:=lp (g:=g) U hk hq;rw[if_neg (by have:=U.pos m hm;omega)]at h2;have:=PathTo.uniq W hp h2;exact .inr ⟨q,this,m,hm,hq,e⟩
 ·rintro(⟨n,hn,hp,e⟩|⟨r,rfl,m,hm,hq,e⟩)
  ·exact⟨n,mem_append_left _ hn,hp.mono λx hx=>mem_append_left _ hx,e⟩
  ·have h2:=lp (g:=g) U hk hq;rw[if_neg (by have:=U.pos m hm;omega)]at h2;exact⟨grN k g m,mem_append_right _ (mem_map.mpr ⟨m,hm,rfl⟩),h2,e⟩
end
theorem fc{t:List (Nd S)}(T:Tree1 t){k:Int}(h:Fold t k):Fold (woT t k) k:=by
 rcases h with e|⟨m,hm,hs,e⟩
 ·exact .inl e
 ·exact .inr ⟨m,bi.mpr ⟨hm,λhr=>da T hr e⟩,hs,e⟩
theorem vI{t:List (Nd S)}(T:Tree1 t){k:Int}(h:Fold t k){pk:List S}(hp:PathTo t k pk):PathTo (woT t k) k pk:=by
 rcases fc T h with e|⟨m,hm,_,e⟩
 ·have:=hp.zero T e;rw[this,e];exact .top
 ·obtain⟨q,hq⟩:=PathTo.ex (de T k) hm;rw[e]at hq;rw[PathTo.uniq T hp (hq.mono λx hx=>(bi.mp hx).1)];exact hq
theorem vJ{t:List (Nd S)}{k:Int}{n:Nd S}(hn:n∈woT t k):n.par≠k:=λe=>(bi.mp hn).2 (.base (bi.mp hn).1 e)
theorem dY{t:List (Nd S)}(T:Tree1 t){k g:Int}(hk:Fold t k)(hg:∀n∈woT t k,n.num≤g)(h0:0≤g){u:List (Nd S)}(U:Tree1 u):aY (woT t k++u.map (grN k g)) :=
 (kb (de T k) U (fc T hk) hg h0).mpr λm _ _ n hn e=>absurd e (vJ hn)
theorem tV{t:List (Nd S)}(T:Tree1 t){k g:Int}(hk:Fold t k){pk:List S}(hp:PathTo t k pk)(hg:∀n∈woT t k,n.num≤g)(h0:0≤g){p:List S}{st:Option Int}:ShN (woT t k++(cT t k).map (grN k g)) p st↔ShN t p st:=by
 have C:=cV T k;have W:=lm (de T k) C (fc T hk) hg h0 (dY T hk hg h0 C);rw[tU (de T k) C W (vI T hk hp),zc T];constructor
 ·rintro(⟨n,hn,_,h,e⟩|⟨r,rfl,h⟩)
  ·exact⟨n,hn,h,e⟩
  ·obtain⟨n,hr,h1,e⟩:=(ll T hp).mp h;exact⟨n,hr.mem,h1,e⟩
 ·rintro⟨n,hn,h,e⟩
  by_cases hr:Reach t k n
  ·obtain⟨r,e2,_⟩:=jo T hp hr h;exact .inr ⟨r,e2,(ll T hp).mpr ⟨n,hr,by rw[←e2];exact h,e⟩⟩
  ·exact .inl ⟨n,hn,hr,h,e⟩
theorem xV{t:List (Nd S)}(T:Tree1 t)(k:Int):cT (woT t k) k=[]:=by
 have:∀n,n∉cT (woT t k) k:=λn hn=>by
  obtain⟨m,hr,_⟩:=bv.mp hn;have hm:=(bi.mp hr.mem).2;exact hm (hr.mono λx hx=>(bi.mp hx).1)
 exact List.eq_nil_iff_forall_not_mem.mpr this
theorem vK{t:List (Nd S)}(T:Tree1 t)(k:Int):iu (cT t k) 0=cT t k:=by
 unfold iu;rw[List.filter_eq_self];intro n hn;simpa using (cV T k).down n hn
def reG(g:Int→Int)(n:Nd S):Nd S:=⟨g n.num,g n.par,n.nm,n.st⟩
section
variable{t u:List (Nd S)}{g:Int→Int}
theorem iE(h0:g 0=0)(hu:∀n∈t,reG g n∈u){x:Int}{p:List S}(h:PathTo t x p):PathTo u (g x) p:=by
 induction h with
 |top=>rw[h0];exact .top
 |@node n p hm _ ih=>exact PathTo.node (n:=reG g n) (hu n hm) ih
theorem vL(T:Tree1 t)(h0:g 0=0)(h1:∀n∈t,1≤g n.num)(inj:∀a∈t,∀b∈t,g a.num=g b.num→a.num=b.num)(hu:∀n,n∈u↔∃m∈t,n=reG g m)(hl:u.Perm (t.map (reG g)))(hr:bt u):Tree1 u:=by
 refine⟨⟨hr,?_,λn hn=>?_⟩,λn hn=>?_⟩
 ·unfold aY;rw[(hl.map _).nodup_iff,map_map];have own:=T.own;unfold aY Nodup at own;unfold Nodup;rw[pairwise_map]at own⊢;refine own.imp_of_mem λ{a b} ha hb hab e=>hab ?_;have e1:g a.par=g b.par:=congrArg Prod.fst e;have e2:a.nm=b.nm:=congrArg Prod.snd e;have ep:a.par=b.par:=by
   rcases fM T ha with za|⟨x,hx,ex⟩<;>rcases fM T hb with zb|⟨y,hy,ey⟩
   ·rw[za,zb]
   ·rw[za,h0,←ey]at e1;have:=h1 y hy;omega
   ·rw[zb,h0,←ex]at e1;have:=h1 x hx;omega
   ·rw[←ex,←ey]at e1⊢;exact inj x hx y hy e1
  show(a.par,a.nm)=(b.par,b.nm);rw[ep,e2]
 ·obtain⟨m,hm,rfl⟩:=(hu n).mp hn;have h:=T.down m hm;clear hn hm
  induction h with
  |@base n hm hp=>exact .base ((hu _).mpr ⟨n,hm,rfl⟩) (by show g n.par=0;rw[hp,h0])
  |@step m n hr hf hm hp ih=>exact .step ih hf ((hu _).mpr ⟨n,hm,rfl⟩) (by show g n.par=g m.num;rw[hp])
 ·obtain⟨m,hm,rfl⟩:=(hu n).mp hn;exact h1 m hm
theorem zd(T:Tree1 t)(U:Tree1 u)(h0:g 0=0)(hu:∀n,n∈u↔∃m∈t,n=reG g m){p:List S}{st:Option Int}:ShN u p st↔ShN t p st:=by
 have hm':∀n∈t,reG g n∈u:=λn hn=>(hu _).mpr ⟨n,hn,rfl⟩;constructor
 ·rintro⟨n,hn,hp,e⟩;obtain⟨m,hm,rfl⟩:=(hu n).mp hn;obtain⟨q,hq⟩:=PathTo.ex T hm;have:=PathTo.uniq U hp (iE h0 hm' hq);subst this;exact⟨m,hm,hq,e⟩
 ·rintro⟨n,hn,hp,e⟩;exact⟨reG g n,hm' n hn,iE h0 hm' hp,e⟩
end
end
end TW
namespace TK
open PySem L2
theorem Wl.one{H:Hp}{zs:ZN}{cs:List Cp}(T:TW.Tree1 (nds zs))(h:Wl H zs cs){i j:Nat}{c c':Cp}(hi:cs[i]?=some c)(hj:cs[j]?=some c')(e:c.n=c'.n):i=j:=by
 have pp:∀{c:Cp},c∈cs→TW.PathTo (nds zs) c.n c.p:=λ{c} hc=>by
  obtain⟨z,hz,e,hp⟩:=(h.mem c.p c.n).mp ⟨c,hc,rfl,rfl⟩;exact hp
 have ep:c.p=c'.p:=by
  have h1:=pp (mem_of_getElem? hi);have h2:=pp (mem_of_getElem? hj);rw[e]at h1;exact h1.uniq T h2
 have lt:∀{i j:Nat}{c c':Cp},cs[i]?=some c→cs[j]?=some c'→c.p=c'.p→¬i<j:=λ{i j c c'} hi hj ep hlt=>by
  obtain⟨hi',ei⟩:=List.getElem?_eq_some_iff.mp hi;obtain⟨hj',ej⟩:=List.getElem?_eq_some_iff.mp hj;have:=(pairwise_iff_getElem.mp h.up) i j hi' hj' hlt;rw[ei,ej,ep,HT.cz]at this;cases this
 have a:=lt hi hj ep;have b:=lt hj hi ep.symm;omega
open Classical in
def gBy(first:Int)(cs:List Cp)(x:Int):Int:=if x=0 then 0 else if h:∃(j:Nat) (c:Cp),cs[j]?=some c∧c.n=x then first+(h.choose:Int)else 0
theorem jp{H:Hp}{zs:ZN}{cs:List Cp}{first:Int}(T:TW.Tree1 (nds zs))(h:Wl H zs cs){j:Nat}{c:Cp}(hj:cs[j]?=some c):gBy first cs c.n=first+j:=by
 have h1:1≤c.n:=by
  obtain⟨z,hz,e,_⟩:=(h.mem c.p c.n).mp ⟨c,mem_of_getElem? hj,rfl,rfl⟩;rw[←e];exact T.pos z.2 (aw hz)
 unfold gBy;rw[if_neg (by omega)];have hex:∃(j:Nat) (c':Cp),cs[j]?=some c'∧c'.n=c.n:=⟨j,c,hj,rfl⟩;rw[dif_pos hex];obtain⟨c',hc',e⟩:=hex.choose_spec;rw[h.one T hc' hj e]
section
variable{P:Program}{w:World}{K:PySem.W.Frag}{mg:Str→Option Value}{base:Heap}
def mQ:Sp:=λvs H Q _=>∃t first zs,vs=[.ref t,.int first]∧Tre H t zs∧1≤first∧first≤900∧∀us t' H' g cs Hc,Same H H'→Tre H' t' us→Wl Hc zs cs→cs.length=zs.length→g 0=0→(∀(j:Nat) c,cs[j]?=some c→g c.n=first+j)→(∀n,n∈nds us↔∃m∈nds zs,n=TW.reG g m)→Q (.ref t') H'
theorem pP:FnScope ["tree","first","numbers","number","place"] ["tree","first"] (ag cg):=fsc
theorem xW{f:Addr}{fd:FuncData}(F:Fun K "numbered_by_paths" "numbered_by_paths" cg f fd)(T:Txt mg)(CW:Has P w K mg base 2 "walked" ["tree"] jX)(CN:Has P w K mg base 1 "with_numbers" ["tree","numbers"] pL):FnOk P w K mg base CX0 3 f fd ["tree","first"] mQ:=by
 obtain⟨fW,fdW,GW,mW,kW,bW⟩:=CW;obtain⟨fN,fdN,GN,mN,kN,bN⟩:=CN;obtain⟨tt,hT⟩:=T.top;refine F.ok pP (λvs H Q E h=>?_) (λcdv A outer s H vs Q E hr h=>?_)
 ·obtain⟨t,first,zs,rfl,_⟩:=h
  rfl
 ·obtain⟨t,first,zs,rfl,tr,f1,f9,q⟩:=h
  have hr1:Room 1 _:=hr.mono (by decide);have hl:=tr.len;refine⟨_,ah (au (i:=2) pP.nd rfl (Or.inl rfl) (uF (rN (aU (v:=.int 0) rfl hT ⟨_,rfl⟩) (aU (v:=.int 0) rfl hT ⟨_,rfl⟩) uE) rfl rfl (by simp) (by decide)))
   (ah (kh PassesOwn.never rfl (tM rfl T.enumerate (ak GW hr rfl mW kW bW .nil ap (aa (pv 0) ae)) (pv 1)) (gR (n:=2) rfl (bo (ao (i:=3) pP.nd rfl (Or.inl rfl)) (bo (ao (i:=4) pP.nd rfl (Or.inl rfl)) eU)))
    (al (kr (cu hr) (pv 2) (aH ay (pv 4) aj (λ_ _=>rfl)) (pv 3) rfl)))
   (al (ar (ak GN hr1 rfl mN kN bN .nil ap (aa (pv 0) (aa (pv 2) ae)))))),?_⟩
  intro d hd0;refine⟨ac,[((Sum.inl 0:Key),V.int 0)],rfl,by decide,?_⟩;have hd1:upd (upd H d (.dK [])) d (.dK (eI [] [((Sum.inl 0:Key),V.int 0)])) d=some (.dK [((Sum.inl 0:Key),V.int 0)]):=ac;have s1:Same H (upd (upd H d (.dK [])) d (.dK (eI [] [((Sum.inl 0:Key),V.int 0)]))):=aG hd0 (af hd0);show _;generalize upd (upd H d (.dK [])) d (.dK (eI [] [((Sum.inl 0:Key),V.int 0)]))=H1 at hd1 s1⊢;refine⟨_,rfl,t,zs,rfl,tr.same s1,λcs l H2 s2 W hcl hll=>?_⟩;have nld:l≠d:=λe=>by have:=s2 _ _ hd1;rw[←e,hll]at this;cases this
  refine⟨l,_,rfl,hll,_,rfl,first,rfl,by omega,by omega,hll,tN (xs:=cs.map λc=>V.ref c.a) (λi σ H'=>∃x3 x4 kvs,σ=[some (.ref t),some (.int first),some (.ref d),x3,x4]∧(∀b o,H2 b=some o→b≠d→H' b=some o)∧H' d=some (.dK kvs)∧kvs.length≤i+1∧bc kvs (Sum.inl 0:Key)=some (.int 0)∧∀(j:Nat) c,j<i→cs[j]?=some c→bc kvs (Sum.inl c.n:Key)=some (.int (first+j)))
   ⟨_,_,_,rfl,λb o e _=>e,s2 _ _ hd1,by decide,rfl,λj c h=>absurd h (Nat.not_lt_zero _)⟩ (λi σ H' _ h=>?_) (λi x σ H' p hx h hp=>?_) (λσ H' h=>?_)⟩
  ·obtain⟨_,_,_,_,kp,_⟩:=h;exact SqL.of (kp _ _ hll nld)
  ·obtain⟨x3,x4,kvs,rfl,kp,hd,hkl,h0,hj⟩:=h;rw[getElem?_map]at hx;cases gx:cs[i]? with
   |none=>rw[gx]at hx;cases hx
   |some c =>
    rw[gx]at hx;cases hx;have mc:=mem_of_getElem? gx;have hi:i<cs.length:=(List.getElem?_eq_some_iff.mp gx).1;obtain⟨ca,ct⟩:=W.at' c mc;have nca:c.a≠d:=λe=>by have:=s2 _ _ hd1;rw[←e,ca]at this;cases this
    have s3:=af (o:=.tup [.int (first+i),.ref c.a]) hp;have hca:=s3 _ _ (kp _ _ ca nca);have hd3:=s3 _ _ hd;have npd:p≠d:=λe=>by rw[e,hd]at hp;cases hp
    have hpp:upd H' p (.tup [.int (first+i),.ref c.a]) p=some (.tup [.int (first+i),.ref c.a]):=ac;generalize upd H' p (.tup [.int (first+i),.ref c.a])=H4 at s3 hca hd3 hpp⊢;have c1:1≤c.n:=by
     obtain⟨z,hz,e,_⟩:=(W.mem c.p c.n).mp ⟨c,mc,rfl,rfl⟩;rw[←e];exact tr.tr.pos z.2 (aw hz)
    refine⟨p,_,rfl,SqT.of hpp,rfl,_,_,rfl,_,_,rfl,rfl,?_⟩;refine⟨_,rfl,_,rfl,_,rfl,c.a,_,_,_,rfl,rfl,SqT.of hca,rfl,d,_,rfl,nv.k (k:=Sum.inl c.n) hd3 (aF (by omega)),?_⟩;refine⟨_,_,_,rfl,λb o e n=>?_,ac,?_,?_,λj c' hj' hc'=>?_⟩
    ·rw[ai n];exact s3 _ _ (kp b o e n)
    ·have:=cr kvs (Sum.inl c.n:Key) (.int (first+i));omega
    ·rw[cZ,if_neg (λe=>by injection e with e;omega)];exact h0
    ·rw[cZ]
     by_cases e:c'.n=c.n
     ·have:=W.one tr.tr hc' gx e;rw[if_pos (by rw[e]),this]
     ·rw[if_neg (λz=>e (by injection z))];refine hj j c' ?_ hc';rcases Nat.lt_succ_iff_lt_or_eq.mp hj' with h|h
      ·exact h
      ·rw[h,gx]at hc';exact absurd (by rw[Option.some.inj hc']) e
  ·obtain⟨x3,x4,kvs,rfl,kp,hd,hkl,h0,hj⟩:=h;rw[length_map]at hkl hj;have sA:Same H H':=λb o e=>kp b o (s2 _ _ (s1 _ _ e)) λz=>by rw[z,hd0]at e;cases e
   have trA:=tr.same sA;have hnum:∀z∈zs,∃(j:Nat) (c:Cp),cs[j]?=some c∧c.n=z.2.num:=λz hz=>by
    obtain⟨p,hp⟩:=TW.PathTo.ex tr.tr (aw hz);obtain⟨c,hc,_,e⟩:=(W.mem p z.2.num).mpr ⟨z,hz,rfl,hp⟩;obtain⟨j,hj',ej⟩:=mem_iff_getElem.mp hc;exact⟨j,c,by rw[getElem?_eq_getElem hj',ej],e⟩
   have gat:∀z∈zs,bc kvs (Sum.inl z.2.num:Key)=some (.int (gBy first cs z.2.num)):=λz hz=>by
    obtain⟨j,c,hc,e⟩:=hnum z hz;rw[←e,jp tr.tr W hc];exact hj j c (List.getElem?_eq_some_iff.mp hc).1 hc
   have g0:gBy first cs 0=0:=by unfold gBy;rw[if_pos rfl]
   have ginj:∀a∈nds zs,∀b∈nds zs,gBy first cs a.num=gBy first cs b.num→a.num=b.num:=λa ha b hb e=>by
    obtain⟨za,hza,rfl⟩:=bn ha;obtain⟨zb,hzb,rfl⟩:=bn hb;obtain⟨j,c,hc,e1⟩:=hnum za hza;obtain⟨j2,c2,hc2,e2⟩:=hnum zb hzb;rw[←e1,←e2,jp tr.tr W hc,jp tr.tr W hc2]at e;have:j=j2:=by omega
    rw[this,hc2]at hc;rw[←e1,←e2,Option.some.inj hc]
   refine⟨_,rfl,_,rfl,t,d,zs,kvs,gBy first cs,rfl,trA.tup,trA.nod,by omega,hd,λz hz=>⟨gat z hz,?_⟩,?_,λus t' H6 s6 ht' hA' hpm hri=>?_⟩
   ·rcases TW.fM tr.tr (aw hz)with e|⟨m,hm,e⟩
    ·rw[e,g0];exact h0
    ·obtain⟨zm,hzm,em⟩:=bn hm;rw[←e,←em];exact gat zm hzm
   ·have:=tr.tr.rise;unfold TW.bt nds at this;unfold Nodup;rw[pairwise_map]at this⊢;refine this.imp_of_mem λ{a b} ha hb hab e=>?_;have:=ginj a.2 (aw ha) b.2 (aw hb) e;omega
   ·have hmem:∀n,n∈nds us↔∃m∈nds zs,n=TW.reG (gBy first cs) m:=λn=>by
     rw[hpm.mem_iff,mem_map];constructor
     ·rintro⟨m,hm,rfl⟩;exact⟨m,hm,rfl⟩
     ·rintro⟨m,hm,rfl⟩;exact⟨m,hm,rfl⟩
    have hpos:∀n∈nds zs,1≤gBy first cs n.num:=λn hn=>by
     obtain⟨z,hz,rfl⟩:=bn hn;obtain⟨j,c,hc,e⟩:=hnum z hz;rw[←e,jp tr.tr W hc];omega
    have hul:us.length≤30:=by
     have:=hpm.length_eq;rw[aq,length_map,aq]at this;omega
    exact q us t' H6 (gBy first cs) cs _ (sA.trans s6) ⟨ht',hA',TW.vL tr.tr g0 hpos ginj hmem hpm hri,hul⟩ W hcl g0 (λj c hc=>jp tr.tr W hc) hmem
end
end TK
namespace L2
open PySem PySem.Spec PyProof.Rows
structure RoomM(k:Nat)(A:Around):Prop where
 dp:A.depth+3*k+5<recursionLimit
 un:A.units+16*k+200<cLine
theorem RoomM.mono{j k:Nat}{A:Around}(r:RoomM k A)(h:j≤k):RoomM j A:=⟨by have:=r.dp;omega,by have:=r.un;omega⟩
theorem RoomM.deeper{k:Nat}{A:Around}(r:RoomM (k+1) A)(env:Env):RoomM k (A.deeper env) :=
 ⟨by have:=r.dp;show A.depth+1+3*k+5<_;omega,by have:=r.un;show A.units+3+16*k+200<_;omega⟩
theorem RoomM.depth{k:Nat}{A:Around}(r:RoomM k A):A.depth<recursionLimit:=by have:=r.dp;omega
structure FnOkM(P:Program)(w:World)(K:PySem.W.Frag)(mg:Str→Option Value)(base:Heap)(CX:CXT)(k:Nat)(f:Addr)(fd:FuncData)(ps:List Str)(sp:Sp):Prop where
 len:∀vs H Q E,sp vs H Q E→vs.length=ps.length
 run:∀(A:Around)(outer:List Env)(s:Shared)(H:Hp)(args:Args)(us:List Value)(vs:List V)(Q:VK)(E:XK),RoomM k A→Env0 P w K mg base A outer s H→BindsTo s fd args (ps.zip us)→ax vs us→sp vs H Q E →
  codeAny (model P w) A (.call (.ref f) args) (CR CX outer P w H s Q E) s
abbrev kc(CX:CXT)(P:Program)(w:World)(K:PySem.W.Frag)(mg:Str→Option Value)(base:Heap)(N:List Str)(qual:Str)(scope:Scope)(f:Addr)(cd:Value)(A:Around)(outer:List Env)(s:Shared)(H:Hp)(E:XK):Cx:={gd CX P w K mg base N qual scope f cd A outer s H E with calm:=false}
theorem ox{CX:CXT}{P:Program}{w:World}{K:PySem.W.Frag}{mg:Str→Option Value}{base:Heap}{N ps:List Str}{qual:Str}{scope:Scope}{f:Addr}{cd:Value}{A:Around}{outer:List Env}{s s1:Shared}{H:Hp}{E:XK}{us:List Value}{vs:List V}(S:FnScope N ps scope)(e0:Env0 P w K mg base A outer s H)(hl:vs.length=ps.length)(r:ax vs us)(x:InCallC s s.heap.objs.size (bindL (envOfC qual scope s.heap.objs.size f cd).kindOf (ps.zip us) λ_=>none) (cellsFrom (s.heap.objs.size+1) scope.names []) (bindC (envOfC qual scope s.heap.objs.size f cd).kindOf (ps.zip us) λ_=>none) s1):
  Inv (kc CX P w K mg base N qual scope f cd A outer s H E) [] (start N vs) H s1:=by
 have hpl:ps.length≤N.length:=by have:=congrArg length S.pre;rw[length_take]at this;omega
 obtain⟨h1,tk,rfl,hk⟩:=x.done;have noA:∀b:Addr,b∉(kc CX P w K mg base N qual scope f cd A outer s H E).ex:=λb z=>absurd (show b∈([]:List Addr)from z) (by simp);refine⟨⟨e0.mod,S.kind,rfl,rfl,le_refl _,λy z c h1 h2=>?_,λy hy=>?_,λy c _ h=>?_,λh=>absurd (show false=true from h) (by decide),Around.frames_deeper e0.frames,.inr ⟨rfl,rfl⟩,λb z=>absurd z (noA b),e0.bs,e0.bsz,λb _ _=>noA b,λb z=>absurd z (noA b),e0.funs,e0.frf⟩,
  rfl,e0.bare,Un.kept hk,⟨_,x.toInCall.ns,λi y v h1 h2 h3=>?_⟩,λy c h=>⟨_,x.cell y c h⟩,e0.hok.fresh (le_refl _),λy c h=>?_,λp hp=>absurd (show p∈([]:List (Addr×Obj))from hp) (by simp),e0.hok.kept hk,?_⟩
 ·exact name_of_addr x.apart (PySem.mem_of_lookup h1) (PySem.mem_of_lookup h2)
 ·have hy:scope.names.lookup y=some .cell∨scope.names.lookup y=some .free:=hy;rcases hy with hy|hy
  ·exact gf hy
  ·exact absurd rfl (S.nofree _ (PySem.mem_of_lookup hy))
 ·exact le_of_lt (x.above y c (PySem.mem_of_lookup h))
 ·have hi:i<vs.length:=by
   unfold start at h2
   by_cases hi:i<vs.length
   ·exact hi
   ·rw[getElem?_append_right (by simpa using hi)]at h2;rw[List.getElem?_replicate]at h2
    split at h2<;>cases h2
  have ha:vs[i]?=some v:=by
   unfold start at h2;rw[getElem?_append_left (by simpa using hi),getElem?_map]at h2;cases e:vs[i]? with
   |none=>rw[e]at h2;cases h2
   |some a=>rw[e]at h2;cases h2;rfl
  obtain⟨u,hu,rv⟩:=r.get ha;have hp:ps[i]?=some y:=by
   rw[←S.pre,List.getElem?_take_of_lt (by omega)];exact h1
  have ndP:ps.Nodup:=by rw[←S.pre];exact S.nd.sublist (take_sublist _ _)
  refine⟨u,rv,?_⟩;rcases S.par y (mem_of_getElem? hp)with k|k
  ·exact .inl ⟨k,gT ndP hp hu k⟩
  ·obtain⟨c,e⟩:=gf (n:=s.heap.objs.size+1) k;refine .inr ⟨.inl k,c,e,?_⟩;have q:=x.cell y c e;rw[gU ndP hp hu (by show scope.names.lookup y≠_;rw[k];decide)]at q;exact q
 ·exact e0.hok.fresh (le_of_lt (x.above y c (PySem.mem_of_lookup h)))
 ·unfold start;show _=N.length;rw[length_append,length_map,length_replicate];omega
theorem xX{CX:CXT}{P:Program}{w:World}{K:PySem.W.Frag}{mg:Str→Option Value}{base:Heap}{k:Nat}{f:Addr}{name qual:Str}{params:Arguments}{body:List Stmt}{scope:Scope}{dV kV doc pm cdv ct oc:Value}{an od:Option Addr}{osl:Array (Option Value)}{N ps:List Str}{sp:Sp}(lk:K.lookup f=some ⟨oc,od,.func (fnOf name qual params body scope dV kV doc pm an cdv ct),osl⟩)(hcd:codeIn K cdv qual=true)(S:FnScope N ps scope)(len:∀vs H Q E,sp vs H Q E→vs.length=ps.length)(hbody:∀(A:Around) (outer:List Env) (s:Shared) (H:Hp) (vs:List V) (Q:VK) (E:XK),RoomM k (A.deeper (envOfC qual scope s.heap.objs.size f cdv))→sp vs H Q E →
   ∃t,PSs (kc CX P w K mg base N qual scope f cdv A outer s H E) body t∧t {nx:=λ_ H'=>Q .non H',rt:=Q} (start N vs) H):
  FnOkM P w K mg base CX (k+1) f (fnOf name qual params body scope dV kV doc pm an cdv ct) ps sp:=by
 refine⟨len,λA outer s H args us vs Q E hr e0 hb r hsp=>?_⟩;have hl:=len _ _ _ _ hsp;have KX:K.In s.heap:=e0.mod.kin.keeps λb o e=>(e0.bs b o e).1;have lim:s.heap.NoLimit:=e0.mod.nolimit.keeps λb o e=>(e0.bs b o e).1;have hkind:∀y∈ps.zip us,scope.names.lookup y.1=some .local∨(scope.names.lookup y.1=some .cell∧((cellsFrom (s.heap.objs.size+1) scope.names []).lookup y.1).isSome=true):=λ⟨n,v⟩ hy=>by
  rcases S.par n (of_mem_zip hy).1 with q|q
  ·exact .inl q
  ·exact .inr ⟨q,cellsFrom_some _ _ _ (.inl q)⟩
 refine codeAny_call_function hr.depth (KX _ _ lk) rfl S.co S.gen rfl (codeRec_of KX hcd) (hb _ _ _ _ ?_);refine wpAny_newFunctionEnv_cells S.kind hkind λenv he s1 x=>?_;subst he;refine⟨lim.keeps x.toInCall.keep,codeAny_func ?_⟩;obtain⟨t,ht,hq⟩:=hbody A outer s H vs Q E (hr.deeper _) hsp;have I:Inv (kc CX P w K mg base N qual scope f cdv A outer s H E) [] (start N vs) H s1:=ox S e0 hl r x;refine wpAny_mono (ht [] s1 (start N vs) H _ I hq) (λfl s' hs=>?_) λe s' hs=>hs;have fin:∀{σ':St}{H':Hp}{v:V}{u:Value},Inv (kc CX P w K mg base N qual scope f cdv A outer s H E) [] σ' H' s'→aJ v u→Q v H'→CE outer P w H s Q u s' :=
  λ{σ' H' v u} J rv q=>⟨v,H',J.os,J.bare,J.base,J.hok,rv,q⟩
 cases fl with
 |ret u =>
  obtain⟨v,σ',H',J,rv,q⟩:=hs;exact fin J rv q
 |next =>
  obtain⟨σ',H',J,q⟩:=hs;exact fin (v:=V.non) (u:=Value.none) J rfl q
 |brk =>
  obtain⟨_,_,_,q⟩:=hs;exact False.elim q
 |cont =>
  obtain⟨_,_,_,q⟩:=hs;exact False.elim q
section
variable{X:Cx}{CX:CXT}{k:Nat}{f C:Addr}{fd:FuncData}{ps:List Str}{sp:Sp}{dvs:List V}{ds:List Value}{E:XK}{x m:Str}{p pos apos:Pos}{e o:Expr}{es:List Expr}{ta:TE}{t:TA}
theorem vM{pins:List (Addr×Obj)}{σ:St}{H:Hp}{s:Shared}{Q:VK}{us:List Value}{vs:List V}(F:FnOkM X.prog X.w X.K X.mg X.base CX k f fd ps sp)(hr:RoomM k X.A)(hb:cj X.K fd ps ds)(hd:ax dvs ds)(hx:dw CX X E)(I:Inv X pins σ H s)(r:ax vs us)(h:sp (vs++dvs) H Q E):wpAny (model X.prog X.w) X.A (call (.ref f) us) (EP X pins σ Q) X.xe s:=by
 have r2:ax (vs++dvs) (us++ds):=r.append hd;have hl:(us++ds).length=ps.length:=by rw[←r2.length];exact F.len _ _ _ _ h
 refine wpAny_call (codeAny_mono (F.run X.A X.stack s H ⟨us,[]⟩ (us++ds) (vs++dvs) Q E hr I.env0 (hb s us I.kIn hl) r2 h) λr s' hq=>?_);cases r with
 |error e=>exact hx pins σ H s e s' I hq
 |ok fl =>
  cases fl with
  |ret u=>exact I.after hq
  |next=>exact False.elim hq
  |brk=>exact False.elim hq
  |cont=>exact False.elim hq
theorem tW(F:FnOkM X.prog X.w X.K X.mg X.base CX k f fd ps sp)(hr:RoomM k X.A)(hg:Gl X x)(hm:X.mg x=some (.ref f))(hk:keepIn X.K (.ref f)=true)(hb:cj X.K fd ps ds)(hd:ax dvs ds)(hx:dw CX X E)(ha:PA X (e::es) t)(hdb:(x==("__debug__":Str))=false:=by decide)(he:starEach (e::es) X.env=(false,eval e X.env)::starEach es X.env:=by rfl)(hpl:(backTo pos (starEach es X.env)).any (·.1)=false:=by rfl):
  PE X (.Call (.Name x p) (e::es) [] pos) (rE sp dvs E t):=by
 intro pins s σ H Q I h;refine wpAny_Call_Name_kw (fX I hg hm ?_ hdb);refine callWith_K (h₀:=X.base) I.ok.mod.kin hk (thn (ha pos pins s σ H _ I h) λus s1 ⟨vs,H1,I1,r,q⟩=>⟨I1.kIn,?_⟩) he hpl;exact vM F hr hb hd hx I1 r q
abbrev Cx.hnd(X:Cx)(pl:List (Addr×Obj))(v:Option Value):Cx:={X with pn:=pl,xe:=λ_ _=>False,A:=X.A.mark v,calm:=false}
theorem Inv.hnd{pins:List (Addr×Obj)}{σ:St}{H:Hp}{s:Shared}{v:Option Value}(I:Inv X pins σ H s):Inv (X.hnd (X.pn++pins) v) [] σ H s :=
 ⟨⟨I.ok.mod,I.ok.kind,I.ok.glob,I.ok.blt,I.ok.above,I.ok.inj,I.ok.has,I.ok.cab,λh=>absurd (show false=true from h) (by decide),I.ok.frames,I.ok.stk,I.ok.exf,I.ok.bs,I.ok.bsz,I.ok.noex,I.ok.exfs,I.ok.funs,I.ok.frf⟩,I.os,I.bare,I.base,I.loc,I.cell,I.free,I.freeC,λp hp=>I.pin p (by simpa using hp),I.hok,I.len⟩
theorem Inv.unhnd{pins pins':List (Addr×Obj)}{σ σ0:St}{H H0:Hp}{s s0:Shared}{v:Option Value}(I:Inv (X.hnd (X.pn++pins) v) pins' σ H s)(I0:Inv X pins σ0 H0 s0):Inv X pins σ H s :=
 ⟨I0.ok,I.os,I.bare,I.base,I.loc,I.cell,I.free,I.freeC,λp hp=>I.pin p (mem_append_left _ hp),I.hok,I.len⟩
def wm(D:Ends)(n l:Nat)(T:Addr)(K:PySem.W.Frag)(th:TS):XK:=λcl _ H'=>∃C,cl=.ref C∧subIn K (.ref C) (.ref T)=some true∧∀ea (σ':St),σ'.length=n→H' ea=none →
 th {nx:=λσ2 H2=>D.nx (σ2.set l none) H2,bk:=λσ2 H2=>D.bk (σ2.set l none) H2,ct:=λσ2 H2=>D.ct (σ2.set l none) H2,rt:=D.rt} (σ'.set l (some (.ref ea))) (upd H' ea (.ext (XI.lZ ea C)))
def ze(n l:Nat)(T:Addr)(K:PySem.W.Frag)(tb:XK→TS)(th:TS):TS:=λD σ H=>tb (wm D n l T K th) D σ H
theorem vN(Y:TryOk X){l:Nat}{n x:Str}{T:Addr}{body:List Stmt}{b0:Stmt}{body2:List Stmt}{tb:XK→TS}{th:TS}{px p3 p4:Pos}(hN:X.N.Nodup)(hl:X.N[l]?=some n)(ln:X.env.scope.names.lookup n=some .local)(he:∀pl xe E,dw (CX1 X.prog X.w) (X.within pl xe) E→PassesOwn (model X.prog X.w) X.A X.env xe→PSs (X.within pl xe) body (tb E))(hb:∀pl v,PSs (X.hnd pl v) (b0::body2) th)(hg:Gl X x)(hm:X.mg x=some (.ref T))(hT:PySem.W.ktsIn X.K T "BaseException"=true)(hdx:(x==("__debug__":Str))=false:=by decide):
  PS X (.Try body [.ExceptHandler (some (.Name x px)) (some n) (b0::body2) p3] [] [] p4) (ze X.N.length l T X.K tb th):=by
 intro pins s σ H D I h;refine wpAny_Try_except ?_;refine wpAny_mono (he (X.pn++pins) _ (wm D X.N.length l T X.K th) ?hp PassesOwn.looking [] s σ H D (I.within _) h) (λf s1 q=>?_) (λev s1 hx=>hx)
 ·intro pins' σ H1 s0 ev s1 I0 hx;obtain⟨ea,C,H',rfl,F,⟨C',eC,hsub,hk⟩⟩:=hx;cases eC;have I1:Inv X pins σ H1 s0:=I0.without;have hk:=hk ea σ I1.len F.new;obtain⟨B,a0,fl,hB,kp,th⟩:=id F.fly;have frm:X.A.frames=some (X.env::X.outer):=by rw[I1.ok.frames,Y.stk]
  have fl':=fl;rw[show(X.within _ _).stack=X.stack from rfl,Y.stk]at fl';refine wpAny_looks_onW frm Y.fr fl' λh4 held4 hs4=>?_;refine wpAny_landsW held4 λh5 fl5 hs5=>?_;have sm5:s1.heap.UpToSlots h5:=hs4.trans hs5;have fl5':FlyingW B X.stack ea (.ref C) a0 h5:=by rw[Y.stk];exact fl5
  have J5:=I1.caught F fl hB kp th fl5' sm5;obtain⟨ob,hob,hobc⟩:=fl5.there;obtain⟨nm,q',N,bs,bm,hdct,sn,sub,ab,col,dd,k0,k1,k2,k3,k5,newId,hTo,hbase,_⟩:=PySem.W.kts_cls J5.kIn hT;obtain⟨hp1,g1,d1,t1,os1⟩:=s1;refine wpAny_handleBy_cons (codeAny_handlers_test ?_) (by intro q;cases q);refine Calls.Name_function_global J5.ok.kind hg (Calls.loadGlobal_global (by rw[J5.ok.glob];exact J5.mod.glob.keeps J5.bk) hm ?_) hdx;refine uQ hTo hbase (PySem.W.looks_subIn J5.kIn hsub) hob hobc ?_;refine codeAny_handlers_suite_as ?_;refine lands_againW (s:=⟨h5,g1,d1,t1,os1⟩) fl5 λh6 fl6 hs6=>?_;have fl6':FlyingW B X.stack ea (.ref C) a0 h6:=by rw[Y.stk];exact fl6
  have J6:=I1.caught F fl hB kp th fl6' (sm5.trans hs6);refine iG J6 hN hl (.inl ln) (v:=.ref ea) rfl (λs2 J7=>?_) (.inr ln);have hcls:(X.env.scope.kind==.class||(X.env.scope.kind==.module&&X.env.locals != X.env.globals))=false:=by rw[J7.ok.kind];rfl
  have hkn:X.env.kindOf n=some .local:=ln;refine wpAny_mono (hb (X.pn++pins) _ [] s2 _ _ _ J7.hnd hk) (λf s3 q=>?_) (λ_ _ z=>z.elim);cases f with
  |next =>
   obtain⟨σ',H8,I8,q'⟩:=q;have J8:Inv X pins σ' H8 s3:=I8.unhnd J7;obtain⟨m8,hn8,_⟩:=id J8.loc;exact wpAny_nameGoes_keeps hkn hn8 hcls λh9 v9 hn9 hs9=>⟨_,_,J8.forget hN hl hn8 hn9 hs9,q'⟩
  |brk =>
   obtain⟨σ',H8,I8,q'⟩:=q;have J8:Inv X pins σ' H8 s3:=I8.unhnd J7;obtain⟨m8,hn8,_⟩:=id J8.loc;exact wpAny_nameGoes_keeps hkn hn8 hcls λh9 v9 hn9 hs9=>⟨_,_,J8.forget hN hl hn8 hn9 hs9,q'⟩
  |cont =>
   obtain⟨σ',H8,I8,q'⟩:=q;have J8:Inv X pins σ' H8 s3:=I8.unhnd J7;obtain⟨m8,hn8,_⟩:=id J8.loc;exact wpAny_nameGoes_keeps hkn hn8 hcls λh9 v9 hn9 hs9=>⟨_,_,J8.forget hN hl hn8 hn9 hs9,q'⟩
  |ret v =>
   obtain⟨x',σ',H8,I8,r',q'⟩:=q;have J8:Inv X pins σ' H8 s3:=I8.unhnd J7;obtain⟨m8,hn8,_⟩:=id J8.loc;exact wpAny_nameGoes_keeps hkn hn8 hcls λh9 v9 hn9 hs9=>⟨x',_,_,J8.forget hN hl hn8 hn9 hs9,r',q'⟩
 ·cases f with
  |next=>obtain⟨σ',H',I',q'⟩:=q;exact wpAny_execs_nil ⟨σ',H',I'.without,q'⟩
  |brk=>obtain⟨σ',H',I',q'⟩:=q;exact⟨σ',H',I'.without,q'⟩
  |cont=>obtain⟨σ',H',I',q'⟩:=q;exact⟨σ',H',I'.without,q'⟩
  |ret v=>obtain⟨x',σ',H',I',r',q'⟩:=q;exact⟨x',σ',H',I'.without,r',q'⟩
end
end L2
namespace TK
open PySem L2
def stT:Option Int→Str
 |none=>"None"
 |some i=>toString i
end TK
namespace L2
open PySem PySem.Spec PyProof.Rows
section
variable{X:Cx}
theorem qU:bM X (.type "str") (λxs H Q=>∃st:Option Int,xs=[TK.stV st]∧(∀i,st=some i→i.natAbs.log2<1920)∧Q (.str (TK.stT st)) H):=by
 intro pins s σ H xs us Q I r h;obtain⟨st,rfl,hb,q⟩:=h;cases st with
 |none =>
  obtain⟨u,rfl,ru⟩:=ci r;cases ru;exact PySem.P.str_of_none ⟨.str _,H,I.tok _,⟨_,rfl⟩,q⟩
 |some i =>
  obtain⟨u,rfl,t,rfl⟩:=ci r;exact PySem.P.str_of_int (hb i rfl) ⟨.str _,H,I.tok _,⟨_,rfl⟩,q⟩
end
theorem hV{H:Hp}{cs ds:List Cv}(hc:∀c∈cs,iq H c)(hd:∀c∈ds,iq H c)(hf:∀c∈cs,cm c.v=true)(uc:cs.Pairwise λa b=>HT.bZ a.p b.p=true)(ud:ds.Pairwise λa b=>HT.bZ a.p b.p=true)(hm:∀p v,(∃c∈cs,c.p=p∧c.v=v)↔∃c∈ds,c.p=p∧c.v=v):bX H (cs.map λc=>V.ref c.a) (ds.map λc=>V.ref c.a):=by
 have key:∀{cs ds:List Cv},cs.Pairwise (λa b=>HT.bZ a.p b.p=true)→ds.Pairwise (λa b=>HT.bZ a.p b.p=true)→(∀p v,(∃c∈cs,c.p=p∧c.v=v)↔∃c∈ds,c.p=p∧c.v=v)→cs.map (λc=>(c.p,c.v))=ds.map (λc=>(c.p,c.v)):=by
  intro cs
  induction cs with
  |nil =>
   intro ds _ _ h;cases ds with
   |nil=>rfl
   |cons d ds =>
    obtain⟨c,hc,_⟩:=(h d.p d.v).mpr ⟨d,mem_cons_self,rfl,rfl⟩;cases hc
  |cons c cs ih =>
   intro ds h1 h2 h;cases ds with
   |nil =>
    obtain⟨d,hd,_⟩:=(h c.p c.v).mp ⟨c,mem_cons_self,rfl,rfl⟩;cases hd
   |cons d ds =>
    obtain⟨a1,a2⟩:=pairwise_cons.mp h1;obtain⟨b1,b2⟩:=pairwise_cons.mp h2;have irr:∀{p:List Str},HT.bZ p p=true→False:=λ{p} h=>by rw[HT.cz]at h;cases h
    have e:c.p=d.p∧c.v=d.v:=by
     obtain⟨x,hx,e1,e2⟩:=(h c.p c.v).mp ⟨c,mem_cons_self,rfl,rfl⟩;rcases mem_cons.mp hx with z|z
     ·rw[←z];exact⟨e1.symm,e2.symm⟩
     ·obtain⟨y,hy,f1,f2⟩:=(h d.p d.v).mpr ⟨d,mem_cons_self,rfl,rfl⟩;rcases mem_cons.mp hy with z'|z'
      ·rw[←z'];exact⟨f1,f2⟩
      ·have q1:=b1 x z;have q2:=a1 y z';rw[e1]at q1;rw[f1]at q2;exact(irr (HT.gw q1 q2)).elim
    rw[map_cons,map_cons,e.1,e.2,ih a2 b2 λp v=>⟨λ⟨x,hx,e1,e2⟩=>?_,λ⟨x,hx,e1,e2⟩=>?_⟩]
    ·obtain⟨y,hy,f1,f2⟩:=(h p v).mp ⟨x,mem_cons_of_mem _ hx,e1,e2⟩;rcases mem_cons.mp hy with z|z
     ·have q:=a1 x hx;rw[e1,←f1,z,e.1]at q;exact(irr q).elim
     ·exact⟨y,z,f1,f2⟩
    ·obtain⟨y,hy,f1,f2⟩:=(h p v).mpr ⟨x,mem_cons_of_mem _ hx,e1,e2⟩;rcases mem_cons.mp hy with z|z
     ·have q:=b1 x hx;rw[e1,←f1,z,e.1]at q;exact(irr q).elim
     ·exact⟨y,z,f1,f2⟩
 have ek:=key uc ud hm;have hl:cs.length=ds.length:=by have:=congrArg length ek;rwa [length_map,length_map]at this
 refine⟨by rw[length_map,length_map,hl],λi x y hx hy=>?_⟩;rw[getElem?_map]at hx hy;cases h1:cs[i]? with
 |none=>rw[h1]at hx;cases hx
 |some c =>
  cases h2:ds[i]? with
  |none=>rw[h2]at hy;cases hy
  |some d =>
   rw[h1]at hx;rw[h2]at hy;cases hx;cases hy;have ee:(c.p,c.v)=(d.p,d.v):=by
    have:=congrArg (λl=>l[i]?) ek;rw[getElem?_map,getElem?_map,h1,h2]at this;exact Option.some.inj this
   have ep:c.p=d.p:=congrArg Prod.fst ee;have ev:c.v=d.v:=congrArg Prod.snd ee;obtain⟨c1,c2⟩:=hc c (mem_of_getElem? h1);obtain⟨d1,d2⟩:=hd d (mem_of_getElem? h2);refine .inr ⟨c.a,d.a,_,_,rfl,rfl,c1,d1,rfl,λj x y hx hy=>?_⟩
   match j,hx,hy with
   |0,hx,hy =>
    cases hx;cases hy;refine .inr ⟨c.t,d.t,_,_,rfl,rfl,c2,d2,by rw[ep],λj x y hx hy=>?_⟩;rw[ep]at hx;rw[hx]at hy;have e4:=Option.some.inj hy;subst e4;refine dS ⟨rfl,?_⟩;obtain⟨z,_,rfl⟩:=mem_map.mp (mem_of_getElem? hx);rfl
   |1,hx,hy =>
    cases hx;cases hy;exact dS ⟨ev,hf c (mem_of_getElem? h1)⟩
   |j+2,hx,hy=>simp at hx
end L2
namespace TK
open PySem L2
structure Shw(H:Hp)(t:List Nd)(cs:List Cv):Prop where
 at':∀c∈cs,iq H c
 up:cs.Pairwise λa b=>HT.bZ a.p b.p=true
 mem:∀p v,(∃c∈cs,c.p=p∧c.v=v)↔∃st,TW.ShN t p st∧v=.str (stT st)
theorem Shw.same{H H':Hp}{t:List Nd}{cs:List Cv}(h:Shw H t cs)(s:Same H H'):Shw H' t cs:=⟨λc hc=>⟨s _ _ (h.at' c hc).1,s _ _ (h.at' c hc).2⟩,h.up,h.mem⟩
theorem Shw.flat{H:Hp}{t:List Nd}{cs:List Cv}(h:Shw H t cs):∀c∈cs,cm c.v=true:=λc hc=>by
 obtain⟨st,_,e⟩:=(h.mem c.p c.v).mp ⟨c,hc,rfl,rfl⟩;rw[e];rfl
theorem Shw.alike{H:Hp}{t u:List Nd}{cs ds:List Cv}(h:Shw H t cs)(h':Shw H u ds)(e:∀p st,TW.ShN t p st↔TW.ShN u p st):bX H (cs.map λc=>V.ref c.a) (ds.map λc=>V.ref c.a) :=
 hV h.at' h'.at' h.flat h.up h'.up λp v=>by
  rw[h.mem,h'.mem];exact⟨λ⟨st,a,b⟩=>⟨st,(e p st).mp a,b⟩,λ⟨st,a,b⟩=>⟨st,(e p st).mpr a,b⟩⟩
def StB(n:Nd):Prop:=∀i,n.st=some i→i.natAbs.log2<1920
section
variable{P:Program}{w:World}{K:PySem.W.Frag}{mg:Str→Option Value}{base:Heap}
def gO:Sp:=λvs H Q _=>∃t zs,vs=[.ref t]∧Tre H t zs∧(∀n∈nds zs,StB n)∧∀l cs H',Same H H'→H' l=some (.lst (cs.map λc=>V.ref c.a))→cs.length≤30→Shw H' (nds zs) cs→Q (.ref l) H'
theorem wn:FnScope ["_law_tree_here","_law_book_here"] ["_law_tree_here"] (ag dm):=fsc
theorem zf(n:Nd):atI (eA n) 2=some (stV n.st):=rfl
theorem xY{f:Addr}{fd:FuncData}(F:Fun K "_law_shown" "_law_shown" dm f fd)(T:Txt mg)(CB:Has P w K mg base 1 "_law_book" ["_law_tree_here"] jl)(CP:Has P w K mg base 1 "_law_path" ["_law_book_here","_law_number"] xC):FnOk P w K mg base CX0 2 f fd ["_law_tree_here"] gO:=by
 obtain⟨fB,fdB,GB,mB,kB,bB⟩:=CB;obtain⟨fP,fdP,GP,mP,kP,bP⟩:=CP;refine F.ok wn (λvs H Q E h=>?_) (λcdv A outer s H vs Q E hr h=>?_)
 ·obtain⟨t,zs,rfl,_⟩:=h;rfl
 ·obtain⟨t,zs,rfl,tr,hst,q⟩:=h;have hl:=tr.len;refine⟨_,ah (au (i:=1) wn.nd rfl (Or.inr rfl) (ak GB hr rfl mB kB bB .nil ap (aa (pv 0) ae)))
   (al (ar (am (cN (la hr)) rfl T.sorted boot_sorted (aa (ce (N:=["_law_one","_law_book_here"]) (cl:=[("_law_book_here",s.heap.objs.size+1)]) (k:=1) (js:=[1]) (g:=aO 0) rfl
    (LcOk.mk' ["_law_book_here"] rfl rfl (by decide +kernel) (by decide +kernel) ?hcl rfl (by decide +kernel)) rfl ?hj (sJ (pv 1)) (λs H fp=>ao (i:=0) (show(["_law_one","_law_book_here"]:List Str).Nodup by decide +kernel) rfl (Or.inl rfl) (Or.inr rfl))
    (λs H fp=>bq (aa (ak (X:=bV _ _ _ _ _ _ _) GP hr rfl mP kP bP .nil ap (aa (pv 1) (aa (pv 0) ae)))
     (aa (aS qU rfl T.str rfl (aa (aH (r:=ck K) ay (bY (cu hr) (pv 1) (pv 0) (λ_ _=>rfl)) aj (λ_ _=>rfl)) ae)) ae)))) ae)))),?_⟩
  case hcl =>
   intro y hy;rcases mem_cons.mp hy with e|hy
   ·rw[e];rfl
   ·cases hy
  case hj =>
   intro i j x h1 h2
   match i,h1,h2 with
   |0,h1,h2 =>
    cases h1;cases h2;exact⟨rfl,Or.inr (Or.inl rfl),(show((ag dm).names.lookup ("_law_book_here":Str)≠some NameKind.local)by decide +kernel),by first|exact Or.inl rfl|exact Or.inr rfl⟩
   |i+1,h1,h2=>simp at h1
  refine⟨_,rfl,t,zs,rfl,tr,λd as H1 s1 hd0 bk hd=>?_⟩;refine⟨_,rfl,d,_,rfl,hd,λo p hp=>?_⟩;have s1':Same H (upd H1 d (.frz o (.dK (bK as)))):=aG hd0 s1;have bk1:Book (upd H1 d (.frz o (.dK (bK as)))) d as zs:=⟨.inr ⟨o,ac⟩,bk.of,λa ha=>by
   rw[ai λe=>by have:=bk.at' a ha;rw[e,hd]at this;cases this];exact bk.at' a ha⟩
  have hd1:upd H1 d (.frz o (.dK (bK as))) d=some (.frz o (.dK (bK as))):=ac;generalize upd H1 d (.frz o (.dK (bK as)))=H2 at s1' bk1 hd1 hp⊢;have ek:(bK as).map (λp=>kV p.1)=zs.map λz=>V.int z.2.num:=by
   rw[pB,jj,←bk.of];simp only[map_map];rfl
  rw[ek];refine bH (fr:=[some (.ref d)]) zs (λz=>V.int z.2.num) (by omega) hp (by rw[←ek];exact je hd1) rfl (λz y H'=>∃c:Cv,y=.ref c.a∧c.a≠p∧c.t≠p∧iq H' c∧c.v=.str (stT z.2.st)∧TW.PathTo (nds zs) z.2.num c.p) (λz y H H' h ex=>?_) (λz H' kk mz s4 hpl hk=>?_) (λys H4 s4 hp4 hys=>?_)
  ·obtain⟨c,e,n1,n2,⟨h1,h2⟩,h3,h4⟩:=h;exact⟨c,e,n1,n2,⟨ex _ _ n1 h1,ex _ _ n2 h2⟩,h3,h4⟩
  ·obtain⟨pz,hpz⟩:=TW.PathTo.ex tr.tr (aw mz);refine⟨_,rfl,_,rfl,d,z.2.num,as,zs,pz,rfl,bk1.same s4,tr.tr,hl,hpz,λt2 H5 s5 ht2=>?_⟩;have bk5:=(bk1.same s4).same s5;obtain⟨qa,dg,hqa⟩:=bk5.get (bJ tr.tr) mz;refine⟨_,rfl,_,rfl,d,_,rfl,dg,qa,_,_,_,rfl,rfl,SqT.of hqa,zf z.2,z.2.st,rfl,λi hi=>hst z.2 (aw mz) i hi,le2,λq1 hq1=>?_⟩;have s7:=af (o:=.tup [.ref t2,.str (stT z.2.st)]) hq1;have hpl6:∃ys,H5 p=some (.lst ys):=let⟨ys,e⟩:=hpl;⟨ys,s5 _ _ e⟩;have ntp:t2≠p:=λe=>by obtain⟨ys,e'⟩:=hpl6;rw[←e,ht2]at e';cases e'
   exact hk _ _ (s5.trans s7) ⟨⟨q1,t2,pz,.str (stT z.2.st)⟩,rfl,cJ hpl6 hq1,ntp,⟨ac,s7 _ _ ht2⟩,rfl,hpz⟩
  ·obtain⟨bs,e1,e2,e3⟩:=cw (val:=λc:Cv=>V.ref c.a) (S:=λ(z:Addr×Nd) (c:Cv)=>iq H4 c∧c.v=.str (stT z.2.st)∧TW.PathTo (nds zs) z.2.num c.p) hys (λz y _ ⟨c,e,_,_,h1,h2,h3⟩=>⟨c,e,h1,h2,h3⟩);have hbm:∀b∈bs,b.1∈zs:=λb hb=>by rw[←e1];exact mem_map.mpr ⟨b,hb,rfl⟩
   have hbn:(bs.map λb=>b.1.2.num).Pairwise λa b:Int=>a<b:=by
    have:=tr.tr.rise;unfold TW.bt nds at this;rw[←e1,pairwise_map,pairwise_map]at this;rw[pairwise_map];exact this
   have hpn:((bs.map (·.2)).map (·.p)).Nodup:=by
    rw[map_map];unfold Nodup;rw[pairwise_map]at hbn⊢;refine hbn.imp_of_mem λ{a b} ha hb hab e=>?_;have h1:=(e3 a ha).2.2;have h2:=(e3 b hb).2.2;have e':a.2.p=b.2.p:=e;rw[e']at h1;have:=h1.key tr.tr h2;omega
   have hbl:bs.length=zs.length:=by rw[←e1,length_map]
   refine⟨p,bs.map (·.2),rfl,by rw[hp4,e2,map_map];rfl,λc hc=>?_,λc hc=>?_,hpn,by rw[length_map];omega,λcs hpm hup l hll=>?_⟩
   ·obtain⟨b,hb,rfl⟩:=mem_map.mp hc;exact(e3 b hb).1
   ·obtain⟨b,hb,rfl⟩:=mem_map.mp hc;rw[(e3 b hb).2.1];exact⟨rfl,by simp[eqV]⟩
   ·have s5:=af (o:=.lst (cs.map λz=>V.ref z.a)) hll;refine q l cs _ ((s1'.trans s4).trans s5) ac (by rw[hpm.length_eq,length_map];omega) ⟨λc hc=>?_,hup,λp' v=>?_⟩
    ·obtain⟨b,hb,rfl⟩:=mem_map.mp (hpm.mem_iff.mp hc);exact⟨s5 _ _ (e3 b hb).1.1,s5 _ _ (e3 b hb).1.2⟩
    ·constructor
     ·rintro⟨c,hc,rfl,rfl⟩;obtain⟨b,hb,rfl⟩:=mem_map.mp (hpm.mem_iff.mp hc);obtain⟨_,h2,h3⟩:=e3 b hb;exact⟨b.1.2.st,⟨b.1.2,aw (hbm b hb),h3,rfl⟩,h2⟩
     ·rintro⟨st,⟨n,hn,hp',rfl⟩,rfl⟩;obtain⟨z,hz,rfl⟩:=bn hn;obtain⟨b,hb,eb⟩:∃b∈bs,b.1=z:=by rw[←e1]at hz;exact mem_map.mp hz
      obtain⟨_,h2,h3⟩:=e3 b hb;rw[eb]at h2 h3;exact⟨b.2,hpm.mem_iff.mpr (mem_map.mpr ⟨b,hb,rfl⟩),h3.uniq tr.tr hp',h2⟩
def jq:Sp:=λvs H Q _=>∃t k zs p,vs=[.ref t,.int k]∧Tre H t zs∧1≤k∧k≤60∧(∃z∈zs,z.2.num=k)∧TW.PathTo (nds zs) k p∧∀t' H',Same H H'→H' t'=some (.tup (p.map V.str))→Q (.ref t') H'
theorem tX:FnScope ["tree","number","nodes"] ["tree","number"] (ag xq):=fsc
theorem vO{f C:Addr}{fd:FuncData}(F:Fun K "path_of" "path_of" xq f fd)(CB:Has P w K mg base 1 "by_number" ["tree"] gH)(CN:gF P w K mg base 1 "node_of" ["nodes","number"] (mv C))(CU:Has P w K mg base 1 "path_up" ["nodes","number"] mE):
  FnOk P w K mg base CX0 2 f fd ["tree","number"] jq:=by
 obtain⟨fB,fdB,GB,mB,kB,bB⟩:=CB;obtain⟨fN,fdN,GN,mN,kN,bN⟩:=CN;obtain⟨fU,fdU,GU,mU,kU,bU⟩:=CU;refine F.ok tX (λvs H Q E h=>?_) (λcdv A outer s H vs Q E hr h=>?_)
 ·obtain⟨t,k,zs,p,rfl,_⟩:=h;rfl
 ·obtain⟨t,k,zs,p,rfl,tr,h0,h1,⟨z,hz,e⟩,hp,q⟩:=h;have hnd:=bJ tr.tr;have hl:=tr.len;refine⟨_,ah (au (i:=2) tX.nd rfl (Or.inl rfl) (ak GB hr rfl mB kB bB .nil ap (aa (pv 0) ae)))
   (ah (cp (ak GN hr rfl mN kN bN .nil jf (aa (pv 2) (aa (pv 1) ae))))
   (al (ar (ak GU hr rfl mU kU bU .nil ap (aa (pv 2) (aa (pv 1) ae)))))),?_⟩
  refine⟨_,rfl,t,zs,rfl,tr.tup,tr.nod,by omega,hnd,λd H1 s1 nd1=>?_⟩;refine⟨_,rfl,_,rfl,d,k,zs,rfl,nd1,hnd,by omega,h1,λ_ _ _=>?_,λhk=>absurd e (hk z hz)⟩;exact⟨_,rfl,_,rfl,d,_,zs,p,rfl,nd1,tr.nod.same s1,tr.tr,by omega,hp,λt' H2 s2 ht'=>q t' H2 (s1.trans s2) ht'⟩
end
def tY(l:List Nd):List V:=[.int ((l.length:Int)-(((l.filter λn=>n.st.isSome).map λn=>n.st.getD 0).length:Int)),.int (((l.filter λn=>n.st.isSome).map λn=>n.st.getD 0).length:Int),.int ((l.filter λn=>n.st.isSome).map λn=>n.st.getD 0).sum]
theorem mV(zs:ZN)(k:Int):oa zs k=tY (TW.iu (nds zs) k):=by
 have e:sts zs k=((TW.iu (nds zs) k).filter λn=>n.st.isSome).map λn=>n.st.getD 0:=by
  unfold sts;rw[←gM];unfold nds;rw[filter_map,map_map];rfl
 unfold oa tY;rw[e,←gM,aq]
theorem tZ(l:List Nd)(k:Int):tY (l.map (TW.ir k))=tY l:=by
 have e:((l.map (TW.ir k)).filter λn=>n.st.isSome).map (λn=>n.st.getD 0)=(l.filter λn=>n.st.isSome).map λn=>n.st.getD 0:=by
  rw[filter_map,map_map];rfl
 unfold tY;rw[e,length_map]
theorem vP{zs us:ZN}{k:Int}(T:TW.Tree1 (nds zs))(e:nds us=TW.cT (nds zs) k):oa us 0=oa zs k:=by
 rw[mV,mV,e,TW.vK T];unfold TW.cT;rw[tZ]
theorem qV(zs:ZN)(k:Int):(oa zs k).all cm=true:=rfl
def ICN:List Str:=["_law_tree_here","_law_folder","_law_book_here","_law_made","_law_rest","_law_some"]
theorem ua:FnScope ICN ["_law_tree_here","_law_folder"] (ag aL):=fsc
abbrev IcX(P:Program)(w:World)(K:PySem.W.Frag)(mg:Str→Option Value)(base:Heap)(f:Addr)(cdv:Value)(A:Around)(outer:List Env)(s:Shared)(H:Hp)(E:XK):Cx:=(gd CX0 P w K mg base ICN "_law_is_cut" (ag aL) f cdv A outer s H E).nox
def icS(i:Nat):Stmt:=(br aL).getD i (.Pass ⟨0,0,0,0⟩)
structure Ic(H:Hp)(t m r:Addr)(zs us ws:ZN)(k:Int):Prop where
 tr:Tre H t zs
 tm:Tre H m us
 tw:Tre H r ws
 em:nds us=TW.cT (nds zs) k
 ew:nds ws=TW.woT (nds zs) k
 ok:∀n∈nds zs,ip n
 len:zs.length≤20
 fo:Fold zs k
 k0:0≤k
 k1:k≤60
theorem Ic.same{H H':Hp}{t m r:Addr}{zs us ws:ZN}{k:Int}(h:Ic H t m r zs us ws k)(s:Same H H'):Ic H' t m r zs us ws k:=⟨h.tr.same s,h.tm.same s,h.tw.same s,h.em,h.ew,h.ok,h.len,h.fo,h.k0,h.k1⟩
theorem Fold.t{zs:ZN}{k:Int}(h:Fold zs k):TW.Fold (nds zs) k:=h.imp id λ⟨z,hz,e,s⟩=>⟨z.2,aw hz,s,e⟩
theorem Fold.of{zs:ZN}{k:Int}(h:TW.Fold (nds zs) k):Fold zs k:=h.imp id λ⟨n,hn,s,e⟩=>let⟨z,hz,ez⟩:=bn hn;⟨z,hz,by rw[ez];exact e,by rw[ez];exact s⟩
theorem Ic.okm{H:Hp}{t m r:Addr}{zs us ws:ZN}{k:Int}(h:Ic H t m r zs us ws k):∀n∈nds us,ip n:=λn hn=>by
 rw[h.em]at hn;obtain⟨x,hr,rfl⟩:=TW.bv.mp hn;exact h.ok x hr.mem
theorem Ic.okw{H:Hp}{t m r:Addr}{zs us ws:ZN}{k:Int}(h:Ic H t m r zs us ws k):∀n∈nds ws,ip n:=λn hn=>by
 rw[h.ew]at hn;exact h.ok n (TW.bi.mp hn).1
theorem Ic.fow{H:Hp}{t m r:Addr}{zs us ws:ZN}{k:Int}(h:Ic H t m r zs us ws k):Fold ws k:=Fold.of (by rw[h.ew];exact TW.fc h.tr.tr h.fo.t)
section
variable{P:Program}{w:World}{K:PySem.W.Frag}{mg:Str→Option Value}{base:Heap}{f:Addr}{cdv:Value}{A:Around}{outer:List Env}{s:Shared}{H0:Hp}{E:XK}
theorem ic0(hr:Room 5 (A.deeper (PyProof.Rows.envOfC "_law_is_cut" (ag aL) s.heap.objs.size f cdv)))(CB:Has P w K mg base 1 "_law_book" ["_law_tree_here"] jl)(CC:Has P w K mg base 4 "cut_out" ["tree","number"] mM)(CW:Has P w K mg base 4 "without" ["tree","number"] ow):
  ∃rd,PS (IcX P w K mg base f cdv A outer s H0 E) (icS 0) rd∧∀(D:Ends)(H:Hp)(t:Addr)(k:Int)(zs:ZN)(x2 x3 x4 x5:Option V),Tre H t zs→(∀n∈nds zs,ip n)→zs.length≤20→Fold zs k→0≤k→k≤60 →
   (∀d m r as us ws H',Same H H'→H d=none→H' d=some (.dK (bK as))→Book H' d as zs→Ic H' t m r zs us ws k→D.nx [some (.ref t),some (.int k),some (.ref d),some (.ref m),some (.ref r),x5] H')→rd D [some (.ref t),some (.int k),x2,x3,x4,x5] H:=by
 obtain⟨fB,fdB,GB,mB,kB,bB⟩:=CB;obtain⟨fC,fdC,GC,mC,kC,bC⟩:=CC;obtain⟨fW,fdW,GW,mW,kW,bW⟩:=CW;have hr1:Room 1 _:=hr.mono (by decide);have hr4:Room 4 _:=hr.mono (by decide);refine⟨_,rl (bq (aa (ak GB hr1 rfl mB kB bB .nil ap (aa (pv 0) ae)) (aa (ak GC hr4 rfl mC kC bC .nil ap (aa (pv 0) (aa (pv 1) ae))) (aa (ak GW hr4 rfl mW kW bW .nil ap (aa (pv 0) (aa (pv 1) ae))) ae))))
  (gR (n:=3) rfl (bo (ao (i:=2) ua.nd rfl (Or.inr rfl)) (bo (ao (i:=3) ua.nd rfl (Or.inl rfl)) (bo (ao (i:=4) ua.nd rfl (Or.inl rfl)) eU)))),?_⟩
 intro D H t k zs x2 x3 x4 x5 tr ok hl fo k0 k1 q;refine⟨_,rfl,t,zs,rfl,tr,λd as H1 s1 hd0 bk hd=>?_⟩;refine⟨_,rfl,_,rfl,t,k,zs,rfl,tr.same s1,k0,k1,fo,λm us H2 s2 tm em=>?_⟩;refine⟨_,rfl,_,rfl,t,k,zs,rfl,(tr.same s1).same s2,k0,k1,fo,λr ws H3 s3 tw ew=>?_⟩;refine⟨(show 3≤sizeLine from aA (by decide)),λtt htt=>?_⟩;have s4:=af (o:=.tup [.ref d,.ref m,.ref r]) htt;have s14:=(s2.trans s3).trans s4;refine⟨tt,_,rfl,SqT.of ac,rfl,_,_,rfl,_,_,rfl,_,_,rfl,rfl,?_⟩;exact q d m r as us ws _ (s1.trans s14) hd0 (s14 _ _ hd) (bk.same s14) ⟨tr.same (s1.trans s14),(tm.same s3).same s4,tw.same s4,em,ew,ok,hl,fo,k0,k1⟩
theorem ic1(hr:Room 5 (A.deeper (PyProof.Rows.envOfC "_law_is_cut" (ag aL) s.heap.objs.size f cdv)))(CU:Has P w K mg base 1 "_law_under" ["_law_book_here","_law_number","_law_goal"] pE):
  ∃rd,PS (IcX P w K mg base f cdv A outer s H0 E) (icS 1) rd∧∀(D:Ends)(Hs H:Hp)(t d:Addr)(k:Int)(as:List (Addr×(Addr×Nd)))(zs:ZN)(x3 x4 x5:Option V),Same Hs H→Hs d=none→H d=some (.dK (bK as))→Book H d as zs→TW.Tree1 (nds zs)→zs.length≤20→Fold zs k →
   (∀l H',(∀b o,H b=some o→b≠d→H' b=some o)→H' l=some (.lst ((nums (bel zs k)).map V.int))→D.nx [some (.ref t),some (.int k),some (.ref d),x3,x4,some (.ref l)] H')→rd D [some (.ref t),some (.int k),some (.ref d),x3,x4,x5] H:=by
 obtain⟨fU,fdU,GU,mU,kU,bU⟩:=CU;have hr1:Room 1 _:=hr.mono (by decide);refine⟨_,au (i:=5) ua.nd rfl (Or.inr rfl) (fz (N:=["_law_one","_law_book_here","_law_folder"]) (cl:=[("_law_folder",s.heap.objs.size+1),("_law_book_here",s.heap.objs.size+2)]) (k:=1) (js:=[2,1]) (g:=aO 0) rfl
    (LcOk.mk' ["_law_folder","_law_book_here"] rfl rfl (by decide +kernel) (by decide +kernel) ?hcl rfl (by decide +kernel)) rfl ?hj (sJ (pv 2)) (λs H fp=>ao (i:=0) (show(["_law_one","_law_book_here","_law_folder"]:List Str).Nodup by decide +kernel) rfl (Or.inl rfl) (Or.inr rfl))
    (λs H fp=>PW.pt (pw_and (av eD (pv 0) (pv 2) (aB _)) (pw_and1 (cW (ak (X:=bV _ _ _ _ _ _ _) GU hr1 rfl mU kU bU .nil ap (aa (pv 1) (aa (pv 0) (aa (pv 2) ae)))) (λ_=>rfl))))) (λs H fp=>pv 0)),?_⟩
 case hcl =>
  intro y hy;rcases mem_cons.mp hy with e|hy
  ·rw[e];rfl
  ·rcases mem_cons.mp hy with e|hy
   ·rw[e];rfl
   ·cases hy
 case hj =>
  intro i j x h1 h2
  match i,h1,h2 with
  |0,h1,h2 =>
   cases h1;cases h2;exact⟨rfl,Or.inr (Or.inl rfl),(show((ag aL).names.lookup ("_law_book_here":Str)≠some NameKind.local)by decide +kernel),by first|exact Or.inl rfl|exact Or.inr rfl⟩
  |1,h1,h2 =>
   cases h1;cases h2;exact⟨rfl,Or.inr (Or.inl rfl),(show((ag aL).names.lookup ("_law_folder":Str)≠some NameKind.local)by decide +kernel),by first|exact Or.inl rfl|exact Or.inr rfl⟩
  |i+2,h1,h2=>simp at h1
 intro D Hs H t d k as zs x3 x4 x5 sH hd0 hd bk T hl fo q;refine⟨_,rfl,d,_,rfl,hd,λo p hp=>?_⟩;have kp1:∀b u,H b=some u→b≠d→upd H d (.frz o (.dK (bK as))) b=some u:=λb u e n=>by rw[ai n];exact e
 have bk1:Book (upd H d (.frz o (.dK (bK as)))) d as zs:=⟨.inr ⟨o,ac⟩,bk.of,λa ha=>kp1 _ _ (bk.at' a ha) λe=>by have:=bk.at' a ha;rw[e,hd]at this;cases this⟩;have hd1:upd H d (.frz o (.dK (bK as))) d=some (.frz o (.dK (bK as))):=ac;generalize upd H d (.frz o (.dK (bK as)))=H2 at kp1 bk1 hd1 hp⊢;have ek:(bK as).map (λp=>kV p.1)=zs.map λz=>V.int z.2.num:=by
  rw[pB,jj,←bk.of];simp only[map_map];rfl
 rw[ek];have hge:=pI T fo;refine eN (fr:=[some (.ref d),some (.int k)]) zs (λz=>V.int z.2.num) (by omega) hp (by rw[←ek];exact je hd1) rfl (isB zs k) (λz y _=>y=.int z.2.num) (λ_ _ _ _ h _=>h) (λz H' kk mz s4 _ hk=>?_) (λz H' kk mz _ s4 _ hk=>?_) (λys H4 s4 hp4 hys=>?_)
 ·have hB:=TW.jY T hge (aw mz);refine⟨_,rfl,_,rfl,rfl,_,rfl,?_⟩
  by_cases e:z.2.num=k
  ·rw[show(!decide (V.int z.2.num=V.int k))=false by rw[e];simp];have:isB zs k z=false:=by
    cases hb:isB zs k z with
    |false=>rfl
    |true=>exact absurd e (hB.mp (cb.mp hb)).1
   have h2:=hk H' (Same.refl _);rw[this]at h2;exact be h2
  ·rw[show(!decide (V.int z.2.num=V.int k))=true by simp[e]];obtain⟨pz,hpz⟩:=TW.PathTo.ex T (aw mz);refine cC ⟨_,rfl,_,rfl,_,rfl,d,z.2.num,k,as,zs,pz,rfl,bk1.same s4,T,hpz,λb hb=>⟨_,rfl,?_⟩⟩;have eb:b=isB zs k z:=by
    rw[Bool.eq_iff_iff,hb,cb,hB];exact⟨λh=>⟨e,h⟩,λh=>h.2⟩
   rw[eb];exact hk H' (Same.refl _)
 ·exact⟨_,rfl,hk _ H' (Same.refl _) rfl⟩
 ·have ey:=aQ (f:=λz:Addr×Nd=>V.int z.2.num) hys (λz y _ h=>h);refine q p H4 (λb u e n=>s4 _ _ (kp1 b u e n)) ?_;rw[hp4,ey];unfold nums bel;rw[map_map];rfl
end
theorem oy{k g:Int}{l:List Nd}(h:∀n∈l,1≤n.num):l.map (reN (shf k g))=l.map (TW.grN k g):=map_congr_left λn hn=>by
 have:=h n hn;show(⟨if n.num=0 then k else n.num+g,if n.par=0 then k else n.par+g,n.nm,n.st⟩:Nd)=⟨n.num+g,if n.par=0 then k else n.par+g,n.nm,n.st⟩
 rw[if_neg (by omega)]
theorem GrS.le{zs:ZN}{g:Int}(T:TW.Tree1 (nds zs))(h:GrS zs g):(∀n∈nds zs,n.num≤g)∧0≤g:=by
 rcases h with⟨rfl,rfl⟩|⟨⟨i,hi,e⟩,hall⟩
 ·exact⟨(λn hn=>nomatch hn),by decide⟩
 ·have hm:∀n∈nds zs,n.num≤g:=λn hn=>by
   obtain⟨z,hz,rfl⟩:=bn hn;have:z.2.num∈nums zs:=mem_map.mpr ⟨z,hz,rfl⟩;obtain⟨j,hj,ej⟩:=mem_iff_getElem.mp this;exact hall j _ hj (by rw[getElem?_eq_getElem hj,ej])
  refine⟨hm,?_⟩;have:=mem_of_getElem? e;obtain⟨z,hz,ez⟩:=mem_map.mp this;have h1:=T.pos z.2 (aw hz);have ez':z.2.num=g:=ez;omega
theorem kd{α:Type}(p:α→Bool):∀l:List α,l.length=(l.filter p).length+(l.filter λx=>!p x).length
 |[]=>rfl
 |a::l=>by
  have:=kd p l;cases h:p a with
  |true=>rw[filter_cons_of_pos h,filter_cons_of_neg (by simp[h]),length_cons,length_cons];omega
  |false=>rw[filter_cons_of_neg (by simp[h]),filter_cons_of_pos (by simp[h]),length_cons,length_cons];omega
theorem eS{n:Nd}(h:xj n.st):StB n:=λi e=>by
 have h':=h i e;exact lt_of_le_of_lt (Nat.log2_le_self _) (by omega)
section
variable{P:Program}{w:World}{K:PySem.W.Frag}{mg:Str→Option Value}{base:Heap}{f:Addr}{cdv:Value}{A:Around}{outer:List Env}{s:Shared}{H0:Hp}{E:XK}
theorem ic2(hr:Room 5 (A.deeper (PyProof.Rows.envOfC "_law_is_cut" (ag aL) s.heap.objs.size f cdv)))(CT:Has P w K mg base 4 "is_tree" ["thing"] dq):
  ∃rd,PS (IcX P w K mg base f cdv A outer s H0 E) (icS 2) rd∧∀(D:Ends)(H:Hp)(t d m r:Addr)(k:Int)(zs us ws:ZN)(x5:Option V),Ic H t m r zs us ws k →
   (∀H',Same H H'→D.nx [some (.ref t),some (.int k),some (.ref d),some (.ref m),some (.ref r),x5] H')→rd D [some (.ref t),some (.int k),some (.ref d),some (.ref m),some (.ref r),x5] H:=by
 obtain⟨fT,fdT,GT,mT,kT,bT⟩:=CT;have hr4:Room 4 _:=hr.mono (by decide);refine⟨_,bu (PW.pt (pw_or (av dh (ak GT hr4 rfl mT kT bT .nil ap (aa (pv 3) ae)) cq (aB _)) (pw_or1 (av dh (ak GT hr4 rfl mT kT bT .nil ap (aa (pv 4) ae)) cq (aB _))))) (al (ar cq)) aR,?_⟩;intro D H t d m r k zs us ws x5 I q;refine⟨_,rfl,m,us,rfl,I.tm.tup,I.tm.nod,by have:=I.tm.len;omega,I.okm,λb H1 hb s1=>?_⟩;have:b=true:=hb.mpr I.tm.tr.toTree;subst this;have I1:=I.same s1;refine⟨true,true,rfl,rfl,_,rfl,be ⟨_,rfl,r,ws,rfl,I1.tw.tup,I1.tw.nod,by have:=I.tw.len;omega,I.okw,λb H2 hb s2=>?_⟩⟩;have:b=true:=hb.mpr I.tw.tr.toTree;subst this;exact⟨true,true,rfl,rfl,_,rfl,be (q H2 (s1.trans s2))⟩
theorem ic3(T:Txt mg)(hr:Room 5 (A.deeper (PyProof.Rows.envOfC "_law_is_cut" (ag aL) s.heap.objs.size f cdv)))(CT:Has P w K mg base 3 "total" ["tree","number"] pG):
  ∃rd,PS (IcX P w K mg base f cdv A outer s H0 E) (icS 3) rd∧∀(D:Ends)(H:Hp)(t d m r l:Addr)(k:Int)(zs us ws:ZN),Ic H t m r zs us ws k→H l=some (.lst ((nums (bel zs k)).map V.int)) →
   (∀H',Same H H'→D.nx [some (.ref t),some (.int k),some (.ref d),some (.ref m),some (.ref r),some (.ref l)] H')→rd D [some (.ref t),some (.int k),some (.ref d),some (.ref m),some (.ref r),some (.ref l)] H:=by
 obtain⟨fT,fdT,GT,mT,kT,bT⟩:=CT;have hr3:Room 3 _:=hr.mono (by decide);refine⟨_,bu (PW.pt (pw_or (av (dU (cA hr)) (am cD rfl T.sorted boot_sorted (aa (ce (N:=["_law_node"]) (k:=1) (js:=[]) (g:=aO 0) rfl (cf rfl (by decide +kernel) (by decide +kernel) (by decide +kernel)) rfl (λi j x h=>by simp at h) (bD (pv 3)) (λs H fp=>ao (i:=0) (show(["_law_node"]:List Str).Nodup by decide +kernel) rfl (Or.inl rfl) (Or.inr rfl))
    (λs H fp=>aH (r:=ck K) ay (pv 0) aj (λ_ _=>rfl))) ae)) (am cD rfl T.sorted boot_sorted (aa (pv 5) ae)) (aB _))
   (pw_or1 (av (dU (cA hr)) (ak GT hr3 rfl mT kT bT .nil ap (aa (pv 3) (aa aj ae))) (ak GT hr3 rfl mT kT bT .nil ap (aa (pv 0) (aa (pv 1) ae))) (aB _))))) (al (ar cq)) aR,?_⟩
 intro D H t d m r l k zs us ws I hl q;have hul:=I.tm.len;have hzl:=I.tr.len;have hbl:=gK zs k;refine⟨_,rfl,m,rfl,⟨_,SqT.of I.tm.tup⟩,λp hp=>?_⟩;refine bH (fr:=[]) us (λz=>V.ref z.1) (by omega) hp (bE (by rw[aK];exact SqT.of I.tm.tup)) rfl (λz y _=>y=.int z.2.num) (λ_ _ _ _ h _=>h) (λz H' kk mz s1 _ hk=>?_) (λys H1 s1 hp1 hys=>?_)
 ·exact⟨_,rfl,z.1,_,_,_,rfl,rfl,SqT.of (s1 _ _ (I.tm.nod z mz)),at0 z.2,hk _ H' (Same.refl _) rfl⟩
 have ey:=aQ (f:=λz:Addr×Nd=>V.int z.2.num) hys (λz y _ h=>h);have e:ys=(nums us).map V.int:=by rw[ey];unfold nums;rw[map_map];rfl
 have en:nums us=nums (bel zs k):=by
  have e1:nums us=(nds us).map (·.num):=by unfold nums nds;rw[map_map];rfl
  have e2:nums (bel zs k)=(nds (bel zs k)).map (·.num):=by unfold nums nds;rw[map_map];rfl
  rw[e1,e2,I.em,gM];unfold TW.cT;rw[map_map];rfl
 have hnd:(nums (bel zs k)).Nodup:=gL (lc I.tr.tr _);rw[e,en]at hp1;refine⟨p,nums (bel zs k),rfl,hp1,hnd,by rw[gJ];omega,λms hms hup p2 hp2=>?_⟩;have s2:=af (o:=.lst (ms.map V.int)) hp2;have g2:upd H1 p2 (.lst (ms.map V.int)) p2=some (.lst (ms.map V.int)):=ac;generalize upd H1 p2 (.lst (ms.map V.int))=H2 at s2 g2⊢;have s12:=s1.trans s2;refine⟨_,rfl,l,nums (bel zs k),rfl,s12 _ _ hl,hnd,by rw[gJ];omega,λns hns hup2 p3 hp3=>?_⟩;have ee:ms=ns:=tu hup hup2 λx=>by rw[hms.mem_iff,hns.mem_iff]
 subst ee;have s3:=af (o:=.lst (ms.map V.int)) hp3;refine .inr ⟨p2,p3,_,_,rfl,rfl,dc (wf ms),.inl ⟨s3 _ _ g2,ac⟩,_,rfl,be ?_⟩;have s13:=s12.trans s3;generalize upd H2 p3 (.lst (ms.map V.int))=H3 at s3 s13⊢;have I3:=I.same s13;refine⟨_,rfl,m,0,us,rfl,I3.tm,by decide,by decide,.inl rfl,λt1 H4 s4 ht1=>?_⟩;have I4:=I3.same s4;refine⟨_,rfl,_,rfl,t,k,zs,rfl,I4.tr,I.k0,I.k1,I.fo,λt2 H5 s5 ht2=>?_⟩;refine .inr ⟨t1,t2,_,_,rfl,rfl,dc (qV zs k),.inr ⟨?_,ht2⟩,_,rfl,be (q H5 ((s13.trans s4).trans s5))⟩;rw[←vP I.tr.tr I.em];exact s5 _ _ ht1
theorem ic4(T:Txt mg)(hr:Room 5 (A.deeper (PyProof.Rows.envOfC "_law_is_cut" (ag aL) s.heap.objs.size f cdv)))(CC:Has P w K mg base 4 "cut_out" ["tree","number"] mM):
  ∃rd,PS (IcX P w K mg base f cdv A outer s H0 E) (icS 4) rd∧∀(D:Ends)(H:Hp)(t d m r l:Addr)(k:Int)(zs us ws:ZN),Ic H t m r zs us ws k→H l=some (.lst ((nums (bel zs k)).map V.int)) →
   (∀H',Same H H'→D.nx [some (.ref t),some (.int k),some (.ref d),some (.ref m),some (.ref r),some (.ref l)] H')→rd D [some (.ref t),some (.int k),some (.ref d),some (.ref m),some (.ref r),some (.ref l)] H:=by
 obtain⟨fC,fdC,GC,mC,kC,bC⟩:=CC;have hr4:Room 4 _:=hr.mono (by decide);refine⟨_,bu (PW.pt (pw_or (av (dU (cA hr)) (pv 4) (aS bw rfl T.tuple rfl (aa (fz (N:=["_law_node","_law_some"]) (cl:=[("_law_some",s.heap.objs.size+3)]) (k:=1) (js:=[5]) (g:=aO 0) rfl
    (LcOk.mk' ["_law_some"] rfl rfl (by decide +kernel) (by decide +kernel) ?hcl rfl (by decide +kernel)) rfl ?hj (bD (pv 0)) (λs H fp=>ao (i:=0) (show(["_law_node","_law_some"]:List Str).Nodup by decide +kernel) rfl (Or.inl rfl) (Or.inr rfl))
    (λs H fp=>av (r:=rIn K true) ko (aH (r:=ck K) ay (pv 0) aj (λ_ _=>rfl)) (pv 1) rfl) (λs H fp=>pv 0)) ae)) (aB _))
   (pw_or1 (av (dU (cA hr)) (ak GC hr4 rfl mC kC bC .nil ap (aa (pv 4) (aa (pv 1) ae))) (bq ae) (aB _))))) (al (ar cq)) aR,?_⟩
 case hcl =>
  intro y hy;rcases mem_cons.mp hy with e|hy
  ·rw[e];rfl
  ·cases hy
 case hj =>
  intro i j x h1 h2
  match i,h1,h2 with
  |0,h1,h2 =>
   cases h1;cases h2;exact⟨rfl,Or.inr (Or.inl rfl),(show((ag aL).names.lookup ("_law_some":Str)≠some NameKind.local)by decide +kernel),by first|exact Or.inl rfl|exact Or.inr rfl⟩
  |i+1,h1,h2=>simp at h1
 intro D H t d m r l k zs us ws I hl q;have hzl:=I.tr.len;refine⟨_,rfl,_,rfl,t,rfl,⟨_,SqT.of I.tr.tup⟩,λp hp=>?_⟩;refine eN (fr:=[some (.ref l)]) zs (λz=>V.ref z.1) (by omega) hp (bE (by rw[aK];exact SqT.of I.tr.tup)) rfl (λz=>!isB zs k z) (λz y _=>y=.ref z.1) (λ_ _ _ _ h _=>h) (λz H' kk mz s1 _ hk=>?_) (λz H' kk mz _ s1 _ hk=>?_) (λys H1 s1 hp1 hys=>?_)
 ·refine⟨_,rfl,z.1,_,_,_,rfl,rfl,SqT.of (s1 _ _ (I.tr.nod z mz)),at0 z.2,_,rfl,l,_,rfl,.inl (SqL.of (s1 _ _ hl)),rfl,wf _,_,rfl,?_⟩;have e:(if true=true then !inV (.int z.2.num) ((nums (bel zs k)).map V.int)else inV (.int z.2.num) ((nums (bel zs k)).map V.int)) = !isB zs k z:=by
   rw[if_pos rfl,uZ]
   congr 1
   rw[Bool.eq_iff_iff,decide_eq_true_iff,cb];unfold nums;rw[mem_map];constructor
   ·rintro⟨y,hy,ey⟩;have:=I.tr.tr.inj (aw (fb hy)) (aw mz) ey;rw[←this];exact cb.mp (mem_filter.mp hy).2
   ·exact λh=>⟨z,mem_filter.mpr ⟨mz,cb.mpr h⟩,rfl⟩
  rw[e];exact hk H' (Same.refl _)
 ·exact⟨_,rfl,hk _ H' (Same.refl _) rfl⟩
 have ey:=aQ (f:=λz:Addr×Nd=>V.ref z.1) hys (λz y _ h=>h);refine⟨p,_,rfl,.inl ⟨SqL.of hp1,λt' ht'=>?_⟩⟩;have s2:=af (o:=.tup ys) ht';have s12:=s1.trans s2;have I2:=I.same s12;have eys:ys=aI (zs.filter λz=>!isB zs k z):=by rw[ey,←aK]
 have AL:bX (upd H1 t' (.tup ys)) (aI ws) (aI (zs.filter λz=>!isB zs k z)):=ic (by rw[I.ew,lj]) I2.tw.nod λz hz=>I2.tr.nod z (mem_filter.mp hz).1;refine .inr ⟨r,t',_,_,rfl,rfl,AL,.inr ⟨I2.tw.tup,by rw[ac,eys]⟩,_,rfl,be ?_⟩;generalize upd H1 t' (.tup ys)=H2 at s12 I2⊢;refine⟨_,rfl,_,rfl,r,k,ws,rfl,I2.tw,I.k0,I.k1,I.fow,λc xs H3 s3 tc ec=>?_⟩;have ex:xs=[]:=by
  rw[I.ew,TW.xV I.tr.tr]at ec;exact map_eq_nil_iff.mp ec
 subst ex;refine⟨aA (show 0≤1000 by decide),λe he=>?_⟩;have s4:=af (o:=.tup []) he;exact .inr ⟨c,e,[],[],rfl,rfl,dc rfl,.inr ⟨s4 _ _ tc.tup,ac⟩,_,rfl,be (q _ ((s12.trans s3).trans s4))⟩
theorem ic5(hr:Room 5 (A.deeper (PyProof.Rows.envOfC "_law_is_cut" (ag aL) s.heap.objs.size f cdv))){CT:Addr}(CS:Has P w K mg base 3 "shape" ["tree","number"] pJ)(CG:gF P w K mg base 3 "grafted" ["tree","number","other"] (dI CT))(CW:Has P w K mg base 2 "_law_shown" ["_law_tree_here"] gO):
  ∃rd,PS (IcX P w K mg base f cdv A outer s H0 E) (icS 5) rd∧∀(D:Ends)(H:Hp)(t d m r:Addr)(k:Int)(zs us ws:ZN)(x5:Option V),Ic H t m r zs us ws k →
   (∀H',Same H H'→D.rt (.bl true) H')→rd D [some (.ref t),some (.int k),some (.ref d),some (.ref m),some (.ref r),x5] H:=by
 obtain⟨fS,fdS,GS,mS,kS,bS⟩:=CS;obtain⟨fG,fdG,GG,mG,kG,bG⟩:=CG;obtain⟨fW,fdW,GW,mW,kW,bW⟩:=CW;have hr3:Room 3 _:=hr.mono (by decide);have hr2:Room 2 _:=hr.mono (by decide);refine⟨_,ar (iI (cQ (nM (cA hr)) (ak GS hr3 rfl mS kS bS .nil ap (aa (pv 3) (aa aj ae))) (ak GS hr3 rfl mS kS bS .nil ap (aa (pv 0) (aa (pv 1) ae))) (aB _))
  (iH (cQ (nM (cA hr)) (ak GW hr2 rfl mW kW bW .nil ap (aa (ak GG hr3 rfl mG kG bG .nil jf (aa (pv 4) (aa (pv 1) (aa (pv 3) ae)))) ae)) (ak GW hr2 rfl mW kW bW .nil ap (aa (pv 0) ae)) (aB _)))),?_⟩
 intro D H t d m r k zs us ws x5 I q;have T:=I.tr.tr;obtain⟨pk,hpk⟩:∃pk,TW.PathTo (nds zs) k pk:=by
  rcases I.fo with e|⟨z,hz,e,_⟩
  ·exact⟨[],by rw[e];exact .top⟩
  ·obtain⟨p,hp⟩:=TW.PathTo.ex T (aw hz);exact⟨p,by rw[←e];exact hp⟩
 refine⟨_,rfl,m,0,us,[],rfl,I.tm,by decide,by decide,.inl rfl,.top,λl cs H1 s1 hl S1=>?_⟩;have I1:=I.same s1;refine⟨_,rfl,_,rfl,t,k,zs,pk,rfl,I1.tr,I.k0,I.k1,I.fo,hpk,λl2 cs2 H2 s2 hl2 S2=>?_⟩;have AL:bX H2 (cs.map λc=>V.ref c.a) (cs2.map λc=>V.ref c.a):=by
  refine hV (λc hc=>⟨s2 _ _ (S1.at' c hc).1,s2 _ _ (S1.at' c hc).2⟩) S2.at' (λc hc=>?_) S1.up S2.up λp v=>?_
  ·obtain⟨z,_,e,_⟩:=(S1.mem c.p c.v).mp ⟨c,hc,rfl,rfl⟩;rw[e];exact(tG z.2).1
  ·rw[S1.mem,S2.mem];have C:=TW.cV T k;have hin:∀{z:Addr×Nd},z∈bel us 0↔z∈us:=λ{z}=>⟨λh=>fb h,λh=>mem_filter.mpr ⟨h,cb.mpr (I.tm.tr.down z.2 (aw h))⟩⟩;have hsh:(∃z∈bel us 0,v=stV z.2.st∧TW.PathTo (nds us) z.2.num ([]++p))↔∃st,TW.ShN (TW.cT (nds zs) k) p st∧v=stV st:=by
    rw[←I.em];constructor
    ·rintro⟨z,hz,e,hp⟩;exact⟨z.2.st,⟨z.2,aw (hin.mp hz),hp,rfl⟩,e⟩
    ·rintro⟨st,⟨n,hn,hp,rfl⟩,e⟩;obtain⟨z,hz,rfl⟩:=bn hn;exact⟨z,hin.mpr hz,e,hp⟩
   rw[hsh];constructor
   ·rintro⟨st,h,e⟩;obtain⟨n,hr',hp,rfl⟩:=(TW.ll T hpk).mp h;obtain⟨z,hz,rfl⟩:=bn hr'.mem;exact⟨z,mem_filter.mpr ⟨hz,cb.mpr hr'⟩,e,hp⟩
   ·rintro⟨z,hz,e,hp⟩;exact⟨z.2.st,(TW.ll T hpk).mpr ⟨z.2,cb.mp (mem_filter.mp hz).2,hp,rfl⟩,e⟩
 refine .inr ⟨l,l2,_,_,rfl,rfl,AL,.inl ⟨s2 _ _ hl,hl2⟩,true,rfl,?_⟩;have s12:=s1.trans s2;have I2:=I.same s12;refine⟨_,rfl,_,rfl,_,rfl,r,k,m,ws,us,rfl,I2.tw,I2.tm,I.k0,I.k1,I.fow,λgr hgr=>?_⟩;obtain⟨hg,h0⟩:=hgr.le I.tw.tr;rw[oy I.tm.tr.pos,I.ew,I.em];rw[I.ew]at hg;have C:=TW.cV T k;have hpl:=TW.dY T I.fo.t hg h0 C;refine⟨λ_ vs wh H3 s3 hwh hAv ev=>?_,λh=>absurd hpl h⟩;have W:=TW.lm (TW.de T k) C (TW.fc T I.fo.t) hg h0 hpl;have I3:=I2.same s3;have hvl:vs.length≤30:=by
  have:=congrArg length ev;rw[aq,length_append,length_map,←I.ew,←I.em,aq,aq]at this;have e1:ws.length+us.length=zs.length:=by
   have a1:=congrArg length I.em;have a2:=congrArg length I.ew;unfold TW.cT at a1;rw[aq,length_map,←gM,aq]at a1;rw[aq,←lj,aq]at a2;have:=kd (isB zs k) zs;unfold bel at a1;omega
  have:=I.len;omega
 have Tv:Tre H3 wh vs:=⟨hwh,hAv,by rw[ev];exact W,hvl⟩;have hstv:∀n∈nds vs,StB n:=λn hn=>by
  rw[ev]at hn;rcases mem_append.mp hn with h|h
  ·exact eS (I.ok n (TW.bi.mp h).1).2.2.2
  ·obtain⟨x,hx,rfl⟩:=mem_map.mp h;obtain⟨y,hy,rfl⟩:=TW.bv.mp hx;exact eS (I.ok y hy.mem).2.2.2
 refine⟨wh,vs,rfl,Tv,hstv,λl3 ds H4 s4 hl3 _ S3=>?_⟩;have I4:=I3.same s4;refine⟨_,rfl,t,zs,rfl,I4.tr,λn hn=>eS (I.ok n hn).2.2.2,λl4 es H5 s5 hl4 _ S4=>?_⟩;refine .inr ⟨l3,l4,_,_,rfl,rfl,(S3.same s5).alike S4 λp st=>?_,.inl ⟨s5 _ _ hl3,hl4⟩,q H5 (((s12.trans s3).trans s4).trans s5)⟩;rw[ev];exact TW.tV T I.fo.t hpk hg h0
end
end TK
namespace L2
open PySem PySem.Spec PyProof.Rows
theorem qW(a:Value):argsOk "max" ⟨[a],[]⟩:=by unfold argsOk;kernel_rfl
section
variable{X:Cx}
theorem qX(hcm:X.calm=true):bM X (.builtin "max") (λxs H Q=>∃l,∃ns:List Int,xs=[.ref l]∧H l=some (.lst (ns.map V.int))∧ns≠[]∧∀b,GrI ns ns.length b→Q (.int b) H):=by
 intro pins s3 σ H2 xs us Q J3 r h;obtain⟨l,ns,rfl,hl2,hne,q2⟩:=h;obtain⟨u,rfl,ru⟩:=ci r;cases ru;have hname:(toString "max"++toString ".loop":String)="max.loop":=by decide
 have hh:=J3.ok.hd hcm;obtain⟨_,its,n,rv,hol⟩:=J3.hok l _ hl2;have hls:s3.heap.IsList l its.toArray:=⟨_,hol,rfl,n,rfl⟩;have hll:l<s3.heap.objs.size:=lt_size hol;refine kmk_tree kind_max plain_max entry_max (qW _) ?_;show wpAny _ X.A.in1 (Builtin.Builtins.bindParams "max" ["key","default"] 0 ⟨[],[]⟩ >>= _) _ _ s3;refine wpAny_bind (wpAny_of_eq (show Builtin.Builtins.bindParams "max" ["key","default"] 0 ⟨[],[]⟩=pure [none,none]from rfl) ?_);refine wpAny_bind (wpAny_pure ?_);refine wpAny_bind (wpAny_pyIter_list hls ?_);refine wpAny_bind (wpAny_newList ?_ (zero_le _));rw[hname];have hS:(s3.heap.push {cls:=.type "list_iterator",data:=.fields #[.ref l,.int 0 0]}).objs.size=s3.heap.objs.size+1:=size_push' ..;rw[hS];have gI:((s3.heap.push {cls:=.type "list_iterator",data:=.fields #[.ref l,.int 0 0]}).push (seqObj "list" #[] 0)).get? s3.heap.objs.size=some {cls:=.type "list_iterator",data:=.fields #[.ref l,.int 0 0]} :=
  get?_push_of_some _ (get?_push_size _ rfl)
 have gS:((s3.heap.push {cls:=.type "list_iterator",data:=.fields #[.ref l,.int 0 0]}).push (seqObj "list" #[] 0)).get? (s3.heap.objs.size+1)=some (seqObj "list" #[] 0):=by
  rw[←hS];exact get?_push_size _ rfl
 have kp0:∀b o,s3.heap.get? b=some o→((s3.heap.push {cls:=.type "list_iterator",data:=.fields #[.ref l,.int 0 0]}).push (seqObj "list" #[] 0)).get? b=some o:=λb o e=>get?_push_of_some _ (get?_push_of_some _ e);have hlI:l≠s3.heap.objs.size:=ne_of_lt hll;have hSI:s3.heap.objs.size+1≠s3.heap.objs.size:=ne_of_gt (Nat.lt_succ_self _);refine wpAny_pure ⟨plainId_quiet plain_max_loop _,?_⟩;have W:=Walks.list (prog:=X.prog) (w:=X.w) (A:=X.A.in1) hh s3.heap.objs.size l hlI its.toArray;have hlen:its.length=ns.length:=by rw[←rv.length,length_map]
 have hsz':its.toArray.size=ns.length:=by rw[size_toArray];exact hlen
 refine codeAny_builtin entry_max_loop ?_;rw[Around.under_plainId plain_max_loop _];show wpAny _ X.A.in1 (seqItems? (.ref _) >>= _) _ _ _;refine wpAny_bind (wpAny_seqItems gS rfl ?_);show wpAny _ X.A.in1 (tryCatch (pyNext (.ref s3.heap.objs.size)) _ >>= _) _ _ _;have hst:((s3.heap.push {cls:=.type "list_iterator",data:=.fields #[.ref l,.int 0 0]}).push (seqObj "list" #[] 0)).IsListIter s3.heap.objs.size l 0∧((s3.heap.push {cls:=.type "list_iterator",data:=.fields #[.ref l,.int 0 0]}).push (seqObj "list" #[] 0)).IsList l its.toArray:=⟨⟨_,gI,rfl,rfl⟩,(hls.push _).push _⟩;have low:∀{h':Heap},(∀b o,b∉[s3.heap.objs.size]→((s3.heap.push {cls:=.type "list_iterator",data:=.fields #[.ref l,.int 0 0]}).push (seqObj "list" #[] 0)).get? b=some o→h'.get? b=some o)→∀b o,s3.heap.get? b=some o→h'.get? b=some o:=λk b o e=>k b o (by simpa using ne_of_lt (lt_size e)) (kp0 b o e)
 cases ns with
 |nil=>exact absurd rfl hne
 |cons x0 xr =>
  refine wpAny_bind (wpAny_tryCatch (W.item 0 _ _ _ (by rw[hsz'];simp) hst λv h' tk' hP hst' hk'=>?_));have hv:its[0]?=some v:=by simpa using hP
  obtain⟨v',hv',t2,ev'⟩:=rv.get (i:=0) (x:=.int x0) rfl;have ev:v=.int x0 t2:=by rw[hv]at hv';rw[←ev'];exact Option.some.inj hv'
  subst ev;obtain⟨oI',hoI',hoc,hod⟩:=id hst'.1;have hS':=hk' (s3.heap.objs.size+1) _ (by simpa using hSI) gS;show wpAny _ X.A.in1 ((pure (Value.int x0 t2):Sem Value) >>= _) _ _ _;refine wpAny_bind (wpAny_pure ?_);have s1':=SameBut.update h' (s3.heap.objs.size+1) (Obj.mapSeq λ_=>#[.int x0 t2,.int x0 t2]);obtain⟨c2,hc2⟩:∃c2,(h'.update (s3.heap.objs.size+1) (Obj.mapSeq λ_=>#[.int x0 t2,.int x0 t2])).get? (s3.heap.objs.size+1)=some (seqObj "list" #[.int x0 t2,.int x0 t2] c2):=⟨_,get?_update_seq hS' λ_=>#[.int x0 t2,.int x0 t2]⟩;show wpAny _ X.A.in1 (updateSeq (s3.heap.objs.size+1) (λ_=>#[.int x0 t2,.int x0 t2]) >>= _) _ _ _;refine wpAny_bind ?_;refine wpAny_updateSeq hS' rfl ?_;rw[hname];refine wpAny_pure ⟨plainId_quiet plain_max_loop _,jZ (s:=s3) hh hls rv hlI (le_refl _) (le_succ _) hSI (λb t h tk hb kp=>⟨.int b,H2,J3.kept (t':=tk) kp,⟨t,rfl⟩,q2 b hb⟩) _ 0 _ _ x0 t2 c2 rfl (by simp) (λb o e=>(s1'.2 b (ne_of_lt (lt_succ_of_lt (lt_size e)))).trans (low hk' b o e)) hc2 ⟨oI',(s1'.2 _ hSI.symm).trans hoI',hoc,hod⟩ ⟨⟨0,Nat.zero_lt_succ _,rfl⟩,λj' x hj' hx=>?_⟩⟩;have e:j'=0:=by omega
  subst e;cases hx;exact Int.le_refl _
end
end L2
namespace TK
open PySem L2
section
variable{P:Program}{w:World}{K:PySem.W.Frag}{mg:Str→Option Value}{base:Heap}
def oz(K:PySem.W.Frag):Sp:=λvs H Q _=>∃a k,vs=[.ref a,.int k]∧0≤k∧dZ K H a∧∀r H',Same H H'→Q (.int r) H'
theorem xZ:FnScope ["_law_script","_law_k"] ["_law_script","_law_k"] (ag sS):=fsc
theorem vQ{f:Addr}{fd:FuncData}(F:Fun K "_law_cell" "_law_cell" sS f fd)(T:Txt mg):FnOk P w K mg base CX0 1 f fd ["_law_script","_law_k"] (oz K):=by
 refine F.ok xZ (λvs H Q E h=>?_) (λcdv A outer s H vs Q E hr h=>?_)
 ·obtain⟨a,k,rfl,_⟩:=h;rfl
 ·obtain⟨a,k,rfl,hk,⟨ns,ea⟩,q⟩:=h;refine⟨_,ah (bu (av rq (pv 1) (am aC rfl T.len boot_len (aa (pv 0) ae)) (aB _)) (al (ar (aH dN (pv 0) (pv 1) (λ_ _=>rfl)))) aR)
   (ah (bu (av (nE hr.units0) (pv 0) (bj ae) (aB _)) (al (ar aj)) aR)
   (al (ar (aM bp (aM dL (aH dN (pv 0) (aM kl (pv 1) (am aC rfl T.len boot_len (aa (pv 0) ae))) (λ_ _=>rfl)) aj) (pv 1))))),?_⟩
  refine⟨_,rfl,_,rfl,a,_,rfl,.inl (ea),_,_,rfl,rfl,_,rfl,?_⟩;rw[length_map]
  by_cases h:k<(ns.length:Int)
  ·rw[decide_eq_true h];obtain⟨j,ej⟩:=mq hk h;exact cC ⟨_,rfl,_,rfl,a,_,_,_,rfl,rfl,ea,ej,q _ _ (Same.refl _)⟩
  ·rw[decide_eq_false h];refine be ⟨_,rfl,zero_le _,λp hp=>⟨a,p,_,rfl,rfl,((af hp).seq ea),SqL.of ac,_,rfl,?_⟩⟩
   by_cases h0:ns=[]
   ·subst h0;exact cC (q _ _ (af hp))
   ·have hne:¬ns.map V.int=[]:=by simpa using h0
    rw[decide_eq_false hne];have hpos:0<ns.length:=List.length_pos_iff.mpr h0;have hm1:0≤k % (ns.length:Int):=emod_nonneg _ (by omega);have hm2:k % (ns.length:Int)<ns.length:=Int.emod_lt_of_pos _ (by omega);obtain⟨j,ej⟩:=mq hm1 hm2;have ej':atI (ns.map V.int) (k % ((ns.map V.int).length:Int))=some (.int j):=by rw[length_map];exact ej
    exact be ⟨_,rfl,_,rfl,_,rfl,a,_,rfl,.inl (((af hp).seq ea)),_,_,rfl,rfl,by rw[length_map];omega,a,_,_,_,rfl,rfl,((af hp).seq ea),ej',_,_,rfl,rfl,.inr ⟨by decide,by decide⟩,_,rfl,_,_,rfl,rfl,q _ _ (af hp)⟩
def fQ(K:PySem.W.Frag):Sp:=λvs H Q _=>∃a k m,vs=[.ref a,.int k,.int m]∧0≤k∧0<m∧dZ K H a∧∀r H',0≤r→r<m→Same H H'→Q (.int r) H'
theorem ue:FnScope ["_law_script","_law_k","_law_many","_law_drawn"] ["_law_script","_law_k","_law_many"] (ag sT):=fsc
theorem vR{f:Addr}{fd:FuncData}(F:Fun K "_law_pick" "_law_pick" sT f fd)(T:Txt mg)(C:Has P w K mg base 1 "_law_cell" ["_law_script","_law_k"] (oz K)):FnOk P w K mg base CX0 2 f fd ["_law_script","_law_k","_law_many"] (fQ K):=by
 obtain⟨fC,fdC,GC,mC,kC,bC⟩:=C;refine F.ok ue (λvs H Q E h=>?_) (λcdv A outer s H vs Q E hr h=>?_)
 ·obtain⟨a,k,m,rfl,_⟩:=h;rfl
 ·obtain⟨a,k,m,rfl,hk,hm,hS,q⟩:=h;refine⟨_,(ah (au (i:=3) ue.nd rfl (Or.inl rfl) (aM kl (aM dL (aM bp (ak GC hr rfl mC kC bC .nil ap (aa (pv 0) (aa (pv 1) ae))) (aM dL aj (aM bp (pv 1) aj))) aj) aj))
   (al (ar (aM kl (aM kl (aM bp (aM dL (pv 3) (pv 3)) (aM uv (pv 3) aj)) aj) (pv 2))))),?_⟩
  refine⟨_,rfl,_,rfl,a,k,rfl,hk,hS,λr H1 s1=>?_⟩;refine⟨_,rfl,_,_,rfl,rfl,_,_,rfl,rfl,.inl ⟨by decide,by decide⟩,_,_,rfl,rfl,_,_,rfl,rfl,.inr ⟨by decide,by decide⟩,_,_,rfl,rfl,(by decide:(0:Int)<2147483399),?_⟩;generalize hd:(r+6151*(k+1))*40692 % 2147483399=dr;have d0:0≤dr:=by rw[←hd];exact emod_nonneg _ (by decide)
  have d1:dr<2147483399:=by rw[←hd];exact Int.emod_lt_of_pos _ (by decide)
  refine⟨_,rfl,_,rfl,_,_,rfl,rfl,.inl ⟨by omega,by omega⟩,_,rfl,_,_,rfl,rfl,⟨by decide,by decide⟩,_,_,rfl,rfl,_,_,rfl,rfl,(by decide:(0:Int)<2147483629),_,rfl,_,_,rfl,rfl,hm,?_⟩;exact q _ _ (emod_nonneg _ (by omega)) (Int.emod_lt_of_pos _ hm) s1
def gP(K:PySem.W.Frag):Sp:=λvs H Q _=>∃a at' m,vs=[.ref a,.int at',.int m]∧0≤at'∧0≤m∧m≤9∧dZ K H a∧∀t zs H',H' t=some (.tup (aI zs))→At H' zs→(zs.length:Int)≤m→TW.Tree (nds zs)→(∀z∈zs,sM z.2)→Same H H'→Q (.ref t) H'
theorem scB:FnScope ["_law_script","_law_at","_law_most","_law_left","_law_folders","_law_nodes","_law_k","_law_number","_law_parent","_law_name","_law_stamp"] ["_law_script","_law_at","_law_most"] (ag hJ):=fsc
def buS(i:Nat):Stmt:=match (br hJ).getD 3 (.Pass ⟨0,0,0,0⟩)with
 |.For _ _ b _ _=>b.getD i (.Pass ⟨0,0,0,0⟩)
 |x=>x
abbrev BX(P:Program)(w:World)(K:PySem.W.Frag)(mg:Str→Option Value)(base:Heap)(f:Addr)(cdv:Value)(A:Around)(outer:List Env)(s:Shared)(H:Hp)(E:XK):Cx:=(gd CX0 P w K mg base ["_law_script","_law_at","_law_most","_law_left","_law_folders","_law_nodes","_law_k","_law_number","_law_parent","_law_name","_law_stamp"] "_law_tree" (ag hJ) f cdv A outer s H E).nox
theorem zg{f:Addr}{cdv:Value}{A:Around}{outer:List Env}{s:Shared}{H0:Hp}{E:XK}(hr:Room 2 (A.deeper (PyProof.Rows.envOfC "_law_tree" (ag hJ) s.heap.objs.size f cdv))):
  ∃t,PS (BX P w K mg base f cdv A outer s H0 E) (buS 5) t∧∀(D:Ends)(H H6:Hp)(pl pf pn:Addr)(x0 x1 x2 x6:Option V)(lf:List Int)(zs:ZN)(num par:Int)(nm:Str)(st:Option Int),Sta H pl pf pn H6 lf (0::TW.aN (nds zs)) zs→zs.length≤20 →
   (∀H',Sta H pl pf pn H' lf (0::TW.aN (nds zs)) zs→D.nx [x0,x1,x2,some (.ref pl),some (.ref pf),some (.ref pn),x6,some (.int num),some (.int par),some (.str nm),some (stV st)] H') →
   (∀q H',(∀z∈zs,¬(z.2.par=par∧z.2.nm=nm))→Sta H pl pf pn H' lf (0::TW.aN (nds (zs++[(q,⟨num,par,nm,st⟩)]))) (zs++[(q,⟨num,par,nm,st⟩)])→D.nx [x0,x1,x2,some (.ref pl),some (.ref pf),some (.ref pn),x6,some (.int num),some (.int par),some (.str nm),some (stV st)] H') →
   t D [x0,x1,x2,some (.ref pl),some (.ref pf),some (.ref pn),x6,some (.int num),some (.int par),some (.str nm),some (stV st)] H6:=by
 refine⟨_,bu (av (ju (cu hr)) (bq (aa (pv 8) (aa (pv 9) ae))) (ce (N:=["_law_node"]) (k:=1) (js:=[]) (g:=aO 0) rfl (cf rfl (by decide +kernel) (by decide +kernel) (by decide +kernel)) rfl (λi j x h=>by simp at h)
     (cP (pv 5)) (λs H fp=>ao (i:=0) (show(["_law_node"]:List Str).Nodup by decide +kernel) rfl (Or.inl rfl) (Or.inr rfl))
     (λs H fp=>cG (r:=nr K) eE (pv 0) (cR aj) (cR aj))) rfl) (ah (cp (ff plainAttrs_list PySem.F.slot_list_append PySem.F.type_list_append bx (pv 5) (aa (bq (aa (pv 7) (aa (pv 8) (aa (pv 9) (aa (pv 10) ae))))) ae))) (al (bu (av km (pv 10) fw (aB _)) (al (cp (ff plainAttrs_list PySem.F.slot_list_append PySem.F.type_list_append bx (pv 4) (aa (pv 7) ae)))) aR))) aR,?_⟩
 intro D H H6 pl pf pn x0 x1 x2 x6 lf zs num par nm st A6 hzl qs qa;refine⟨_,rfl,_,rfl,le2,λq0 hq0=>?_⟩;have A7:=A6.grow (af (o:=.tup [.int par,.str nm]) hq0);have eq0:(upd H6 q0 (.tup [.int par,.str nm])) q0=some (.tup ([Sum.inl par,Sum.inr nm].map kV)):=ac;refine⟨_,rfl,pn,rfl,⟨_,SqL.of A7.n⟩,λp hp=>?_⟩;generalize upd H6 q0 (.tup [.int par,.str nm])=H7 at A7 eq0 hp⊢;refine lV (k:=1) (js:=[]) (J:=Itl K pn) (p:=p) zs.length (by omega) (λi ys σ' H'=>∃kss:List (Addr×List Key),ys=(kss.map (·.1)).map V.ref∧kss.map (·.2)=((nds zs).take i).map plK∧kss.length=i∧(∀z∈kss,H' z.1=some (.tup (z.2.map kV)))∧σ'.length=1∧Same H7 H'∧H' p=some (.lst ys))
  ⟨[],rfl,rfl,rfl,by simp,rfl,af hp,ac⟩ (λi ys σ' H' h=>?_) (λi ys σ' H' hi h=>?_) (λys σ' H' h=>?_) (λi ys σ' H' hi h v H2 hy=>?_) ?_ ?_
 ·obtain⟨kss,rfl,_,e,_⟩:=h;rw[length_map,length_map];omega
 ·obtain⟨_,_,_,_,_,_,s2,_⟩:=h;exact⟨_,_,SqL.of (s2 _ _ A7.n),dE (getElem?_eq_getElem hi)⟩
 ·obtain⟨kss,e1,e2,e3,e4,_,s2,e5⟩:=h;refine⟨⟨_,SqL.of (s2 _ _ A7.n),by rw[aD];exact le_refl _⟩,?_⟩;subst e1;refine⟨q0,p,_,kss,rfl,s2 _ _ eq0,rfl,SqL.of e5,e4,_,rfl,?_⟩;rw[take_of_length_le (by rw[aq];exact le_refl _)]at e2;have A8:=A7.grow s2;cases ea:(kss.any λz=>decide (z.2=[Sum.inl par,Sum.inr nm]))with
  |true=>exact be (qs _ A8)
  |false =>
   have ho:∀z∈zs,¬(z.2.par=par∧z.2.nm=nm):=λz hz ⟨h1,h2⟩=>by
    have m1:plK z.2∈kss.map (·.2):=by rw[e2];exact mem_map.mpr ⟨z.2,mem_map.mpr ⟨z,hz,rfl⟩,rfl⟩
    obtain⟨y,hy,ey⟩:=mem_map.mp m1;have:(kss.any λz=>decide (z.2=[Sum.inl par,Sum.inr nm]))=true:=any_eq_true.mpr ⟨y,hy,by rw[decide_eq_true_eq,ey];unfold plK;rw[h1,h2]⟩;rw[ea]at this;cases this
   refine cC ⟨_,rfl,.inl ⟨rfl,_,SqL.of A8.n⟩,_,rfl,_,rfl,_,rfl,_,rfl,(show 4≤sizeLine from aA (by decide)),λq hq=>⟨pn,_,_,rfl,rfl,aW hq A8.n,aF (by rw[aD];omega),?_⟩⟩;have A9:=(A8.grow (af (o:=.tup (vals ⟨num,par,nm,st⟩)) hq)).node (n:=⟨num,par,nm,st⟩) ac;refine⟨_,rfl,rfl,_,rfl,?_⟩;cases st with
   |some i5 =>
    have ef:(0::TW.aN (nds zs))=(0:Int)::TW.aN (nds (zs++[(q,⟨num,par,nm,some i5⟩)])):=by simp[TW.aN,nds]
    rw[ef]at A9;exact be (qa q _ ho A9)
   |none =>
    refine cC ⟨_,rfl,.inl ⟨rfl,_,SqL.of A9.f⟩,_,rfl,pf,_,_,rfl,rfl,A9.f,aF ?_,?_⟩
    ·have:=TW.dk (nds zs);rw[aq]at this;rw[length_map,length_cons];omega
    ·have A10:=A9.fold num;have ef:(0::TW.aN (nds zs))++[num]=(0:Int)::TW.aN (nds (zs++[(q,⟨num,par,nm,none⟩)])):=by simp[TW.aN,nds]
     rw[ef]at A10;exact qa q _ ho A10
 ·obtain⟨kss,e1,e2,e3,e4,e0,s2,e5⟩:=h;obtain⟨o1,rfl⟩:=sK e0;obtain⟨rfl,hx⟩:=hy;have gx:=hx _ (SqL.of (s2 _ _ A7.n));obtain⟨z1,g1,rfl⟩:=cn gx;have m1:=mem_of_getElem? g1;have ecut:gh (vals z1.2) (some 1) (some 3)=[.int z1.2.par,.str z1.2.nm]:=rfl;refine⟨_,rfl,_,rfl,_,rfl,z1.1,_,rfl,SqT.of (s2 _ _ (A7.nd z1 m1)),(λh=>by have h1:(1:Nat)=0:=h.1;cases h1),λq hq=>?_⟩;rw[ecut];refine⟨aW hq e5,kss++[(q,plK z1.2)],by rw[e1];simp,?_,by simp[e3],?_,rfl,aG hp (s2.trans (af hq)),ac⟩
  ·rw[map_append,e2,take_succ,show(nds zs)[i]?=some z1.2 by unfold nds;rw[getElem?_map,g1];rfl,map_append];rfl
  ·intro z hz;have hqp:q≠p:=λz=>by rw[z,e5]at hq;cases hq
   rcases mem_append.mp hz with hz|hz
   ·have:=aW (o:=.tup [.int z1.2.par,.str z1.2.nm]) hq (e4 z hz);rw[ai]
    ·exact this
    ·intro e;rw[e,ai (symm hqp),e5]at this;cases this
   ·have e:z=(q,plK z1.2):=by simpa using hz
    subst e;rw[ai hqp];exact ac
 ·rintro _ _ _ _ _ m h;exact m _ _ h
 ·rintro _ _ _ _ m ⟨v1,b0,i1,b1,i2,b2,a2,x2,c1,c2,c3,q⟩;exact⟨v1,b0,i1,b1,i2,b2,a2,x2,c1,c2,c3,λp hp=>m _ _ (q p hp)⟩
theorem uf{f:Addr}{fd:FuncData}(F:Fun K "_law_tree" "_law_tree" hJ f fd)(T:Txt mg)(C:Has P w K mg base 2 "_law_pick" ["_law_script","_law_k","_law_many"] (fQ K)):FnOk P w K mg base CX0 3 f fd ["_law_script","_law_at","_law_most"] (gP K):=by
 obtain⟨fP,fdP,GP,mP,kP,bP⟩:=C;refine F.ok scB (λvs H Q E h=>?_) (λcdv A outer s H vs Q E hr h=>?_)
 ·obtain⟨a,at',m,rfl,_⟩:=h;rfl
 ·obtain⟨a,at',m,rfl,ha0,hm0,hm9,hS,k⟩:=h;obtain⟨t5,p5,h5⟩:=zg (P:=P) (w:=w) (mg:=mg) (base:=base) (f:=f) (cdv:=cdv) (A:=A) (outer:=outer) (s:=s) (H0:=H) (E:=E) hr;refine⟨_,(ah (au (i:=3) scB.nd rfl (Or.inl rfl) (aS (fq rfl) rfl T.list rfl (aa (aS jP rfl T.range rfl (aa aj (aa (aM bp (pv 2) aj) ae))) ae)))
    (ah (au (i:=4) scB.nd rfl (Or.inl rfl) (bj (aa aj ae)))
    (ah (au (i:=5) scB.nd rfl (Or.inl rfl) (bj ae))
    (ah (kh PassesOwn.never rfl (pX rfl T.range (aa (ak GP hr rfl mP kP bP .nil ap (aa (pv 0) (aa (pv 1) (aa (aM bp (pv 2) aj) ae)))) ae)) (ao (i:=6) scB.nd rfl (Or.inl rfl))
    (ah (au (i:=7) scB.nd rfl (Or.inl rfl) (ff plainAttrs_list slot_list_pop type_list_pop rL (pv 3) (aa (ak GP hr rfl mP kP bP .nil ap (aa (pv 0) (aa (aM bp (aM bp (pv 1) aj) (aM dL aj (pv 6))) (aa (am aC rfl T.len boot_len (aa (pv 3) ae)) ae)))) ae)))
    (ah (au (i:=8) scB.nd rfl (Or.inl rfl) (aH dN (pv 4) (ak GP hr rfl mP kP bP .nil ap (aa (pv 0) (aa (aM bp (aM bp (pv 1) aj) (aM dL aj (pv 6))) (aa (am aC rfl T.len boot_len (aa (pv 4) ae)) ae)))) (λ_ _=>rfl)))
    (ah (au (i:=9) scB.nd rfl (Or.inl rfl) (aH dN (bj (aa bA (aa bA (aa bA (aa bA ae))))) (ak GP hr rfl mP kP bP .nil ap (aa (pv 0) (aa (aM bp (aM bp (pv 1) aj) (aM dL aj (pv 6))) (aa aj ae)))) (λ_ _=>rfl)))
    (ah (au (i:=10) scB.nd rfl (Or.inl rfl) fw)
    (ah (bu (av yt (ak GP hr rfl mP kP bP .nil ap (aa (pv 0) (aa (aM bp (aM bp (pv 1) aj) (aM dL aj (pv 6))) (aa aj ae)))) aj (aB _)) (al (au (i:=10) scB.nd rfl (Or.inl rfl) (aH dN (bj (aa aj (aa aj (aa aj (aa aj ae))))) (ak GP hr rfl mP kP bP .nil ap (aa (pv 0) (aa (aM bp (aM bp (pv 1) aj) (aM dL aj (pv 6))) (aa aj ae)))) (λ_ _=>rfl)))) aR)
    (al p5)))))))
    (al (ar (aS bw rfl T.tuple rfl (aa (am gZ rfl T.sorted boot_sorted (aa (pv 5) ae)) ae)))))))),?_⟩
  refine⟨_,rfl,_,_,rfl,rfl,_,_,rfl,λp1 hp1=>⟨p1,_,_,rfl,ac,⟨by decide,by decide,by omega,by omega⟩,by omega,λpl hpl=>?_⟩⟩;refine⟨aA (by decide),λpf hpf=>⟨zero_le _,λpn hpn=>?_⟩⟩;have s0:Same H (upd (upd (upd (upd H p1 (.rng 1 (m+4))) pl (.lst ((List.range (m+4-1:Int).toNat).map λk=>V.int (1+(k:Nat))))) pf (.lst [.int 0])) pn (.lst [])):=(((af hp1).trans (af hpl)).trans (af hpf)).trans (af hpn);have hfl:pl≠pf:=λe=>by rw[←e,ac]at hpf;cases hpf
  have hln:pl≠pn:=λe=>by rw[←e,ai hfl,ac]at hpn;cases hpn
  have hfn:pf≠pn:=λe=>by rw[←e,ac]at hpn;cases hpn
  have A0:Sta H pl pf pn (upd (upd (upd (upd H p1 (.rng 1 (m+4))) pl (.lst ((List.range (m+4-1:Int).toNat).map λk=>V.int (1+(k:Nat))))) pf (.lst [.int 0])) pn (.lst [])) (lf0 m) [0] [] :=
   ⟨s0,by rw[ai hln,ai hfl,ac,lf0,map_map];rfl,by rw[ai hfn,ac];rfl,ac,λz hz=>by simp at hz,(af hp1).free hpl,((af hp1).trans (af hpl)).free hpf,(((af hp1).trans (af hpl)).trans (af hpf)).free hpn,hfl,hln,hfn⟩
  have B0:Bd [] (lf0 m):=Bd.zero hm9;refine⟨_,rfl,_,rfl,_,rfl,_,_,rfl,rfl,a,_,_,rfl,ha0,by omega,hS.same s0,λr H1 r0 r1 s1=>⟨r,rfl,by omega,by omega,?_⟩⟩;refine pZ (n:=r.toNat) (λi σ H'=>∃lf zs o6 o7 o8 o9 o10,σ=[some (.ref a),some (.int at'),some (.int m),some (.ref pl),some (.ref pf),some (.ref pn),o6,o7,o8,o9,o10]∧Sta H pl pf pn H' lf (0::TW.aN (nds zs)) zs∧Bd zs lf∧(lf.length:Int)+i=m+3∧zs.length≤i)
   ⟨_,[],_,_,_,_,_,rfl,A0.grow s1,B0,by rw[vf hm0];omega,le_refl _⟩ (λi σ H' hi h=>?_) (λσ H' h=>?_)
  ·obtain⟨lf,zs,o6,o7,o8,o9,o10,rfl,A1,B,hlf,hzl⟩:=h;have hi8:i<10:=by omega
   have z0:(0:Int)≤at'+1+6*(0+(i:Int)):=by omega
   refine⟨_,rfl,.inl ⟨rfl,_,SqL.of A1.l⟩,_,rfl,_,rfl,_,_,rfl,rfl,_,rfl,_,_,rfl,rfl,.inl ⟨by decide,by decide⟩,_,_,rfl,rfl,_,rfl,pl,_,rfl,.inl (SqL.of A1.l),a,_,_,rfl,by omega,by rw[length_map];omega,hS.same A1.same,λj H2 j0 j1 s2=>?_⟩;rw[length_map]at j1;have A2:=A1.grow s2;obtain⟨num,gnum⟩:∃num,lf[j.toNat]?=some num:=⟨_,getElem?_eq_getElem (by omega)⟩;refine⟨pl,_,j,j.toNat,.int num,rfl,rfl,A2.l,by omega,by omega,by rw[length_map];exact xf j0 j1,by rw[getElem?_map,gnum];rfl,?_⟩;rw[jU];have A3:=A2.pop (lf.eraseIdx j.toNat);have elen:(lf.eraseIdx j.toNat).length=lf.length-1:=List.length_eraseIdx_of_lt (by omega);generalize upd H2 pl (.lst ((lf.eraseIdx j.toNat).map V.int))=H3 at A3⊢;refine⟨_,rfl,_,rfl,_,rfl,_,_,rfl,rfl,_,rfl,_,_,rfl,rfl,.inl ⟨by decide,by decide⟩,_,_,rfl,rfl,_,rfl,pf,_,rfl,.inl (SqL.of A3.f),a,_,_,rfl,by omega,by rw[length_map,length_cons];omega,hS.same A3.same,λj2 H4 j20 j21 s4=>?_⟩;rw[length_map]at j21;obtain⟨par,mpar,gpar⟩:=vc j20 j21;have A4:=A3.grow s4;refine⟨pf,_,_,_,rfl,rfl,SqL.of A4.f,gpar,?_⟩;refine⟨aA (by decide),λp3 hp3=>?_⟩;have A5:=A4.grow (af (o:=.lst [.str "a",.str "b",.str "c",.str "abcde"]) hp3);refine⟨_,rfl,_,rfl,_,_,rfl,rfl,_,rfl,_,_,rfl,rfl,.inl ⟨by decide,by decide⟩,_,_,rfl,rfl,a,_,_,rfl,by omega,by decide,hS.same A5.same,λj3 H5 j30 j31 s5=>?_⟩;obtain⟨nm,hnm,gnm⟩:=vd j30 j31;refine⟨p3,_,_,_,rfl,rfl,SqL.of (s5 _ _ ac),gnm,?_⟩;have A6:=A5.grow s5;refine⟨_,rfl,_,rfl,_,_,rfl,rfl,_,rfl,_,_,rfl,rfl,.inl ⟨by decide,by decide⟩,_,_,rfl,rfl,a,_,_,rfl,by omega,by decide,hS.same A6.same,λj4 H6 j40 j41 s6=>⟨_,_,rfl,rfl,_,rfl,?_⟩⟩;have A6':=A6.grow s6;refine zJ (λhgt=>?_) (λhgt=>?_)
   ·refine⟨aA (by decide),λp5 hp5=>?_⟩;have A65:=A6'.grow (af (o:=.lst [.int 0,.int 1,.int 2,.int 999]) hp5);refine⟨_,rfl,_,rfl,_,_,rfl,rfl,_,rfl,_,_,rfl,rfl,.inl ⟨by decide,by decide⟩,_,_,rfl,rfl,a,_,_,rfl,by omega,by decide,hS.same A65.same,λj5 H65 j50 j51 s65=>?_⟩;obtain⟨i5,hst5,gst⟩:=ve j50 j51;refine⟨p5,_,_,_,rfl,rfl,SqL.of (s65 _ _ ac),gst,?_⟩;have A66:=A65.grow s65;exact h5 _ H H65 pl pf pn _ _ _ _ (lf.eraseIdx j.toNat) zs num par nm (some i5) A66 (by omega) (λH' A8=>⟨_,zs,_,_,_,_,_,rfl,A8,B.skip _,by rw[elen];omega,by omega⟩)
     (λq H' ho A9=>⟨_,_,_,_,_,_,_,rfl,A9,B.add (q:=q) (n:=⟨num,par,nm,(some i5)⟩) gnum mpar ho hnm hst5,by rw[elen];omega,by rw[length_append,length_singleton];omega⟩)
   ·exact h5 _ H H6 pl pf pn _ _ _ _ (lf.eraseIdx j.toNat) zs num par nm none A6' (by omega) (λH' A8=>⟨_,zs,_,_,_,_,_,rfl,A8,B.skip _,by rw[elen];omega,by omega⟩)
     (λq H' ho A9=>⟨_,_,_,_,_,_,_,rfl,A9,B.add (q:=q) (n:=⟨num,par,nm,none⟩) gnum mpar ho hnm (.inl rfl),by rw[elen];omega,by rw[length_append,length_singleton];omega⟩)
  ·obtain⟨lf,zs,o6,o7,o8,o9,o10,rfl,A1,B,hlf,hzl⟩:=h;have hzl8:(zs.length:Int)≤m:=by omega
   have hnum:(zs.map tp).map (·.2.1)=(nds zs).map (·.num):=by
    unfold nds;simp only[map_map];rfl
   have hnd:((nds zs).map (·.num)).Nodup:=(nodup_append.mp B.nd).1;refine⟨_,rfl,pn,zs.map tp,rfl,SqL.of (by rw[A1.n,iA]),λz hz=>?_,by rw[hnum];exact hnd,by rw[length_map];omega,λts pm up p hp=>?_⟩
   ·obtain⟨y,hy,rfl⟩:=mem_map.mp hz;exact A1.nd y hy
   ·obtain⟨pm2,eb⟩:=back pm;have er:(ts.map (·.1)).map V.ref=aI (ts.map un):=by rw[←iA,eb]
    rw[er];refine⟨p,_,rfl,.inl ⟨SqL.of ac,λl hl=>?_⟩⟩;have mem:∀z,z∈ts.map un→z∈zs:=λz hz=>pm2.mem_iff.mp hz;refine k l (ts.map un) _ ac ?_ (by rw[pm2.length_eq];exact hzl8) ?_ (λz hz=>B.ok z (mem z hz)) ((A1.same.trans (af hp)).trans (af hl))
    ·intro z hz;exact((af hp).trans (af hl)) _ _ (A1.nd z (mem z hz))
    ·refine TW.va B.built (pm2.map _) ?_ hnd B.own;unfold nds;rw[pairwise_map];have up2:((ts.map un).map tp).Pairwise (λa b=>a.2.1<b.2.1):=by rw[eb];exact up
     rw[pairwise_map]at up2;exact up2.imp λh=>Int.le_of_lt h
end
def N12(i:Nat):Str:=(["Inside","Known","NoBack","NoMark","NoMatch","NoNode","NoReader","NoTag","NoText","NotFile","NotFolder","Taken"]:List Str).getD i ""
def W12:List Str:=["inside","known","no back","no mark","no match","no node","no reader","no tag","no text","not file","not folder","taken"]
structure Clss12(mg:Str→Option Value)(K:PySem.W.Frag)(B:Nat→Addr)(D:Addr):Prop where
 m:∀i,i<12→mg (N12 i)=some (.ref (B i))
 tre:mg "TreeError"=some (.ref D)
 base:PySem.W.ktsIn K D "BaseException"=true
structure One12(K:PySem.W.Frag)(B:Nat→Addr)(D:Addr)(i:Nat):Prop where
 lt:i<12
 xc:XI.lY K (B i)=true
 is:∀j,j<12→kitOne K (.ref (B i)) (.ref (B j))=some (decide (i=j))
 val:kitOne K (.ref (B i)) (.type "ValueError")=some true
 sub:subIn K (.ref (B i)) (.ref D)=some true
def qY(i:Nat):List Bool:=[decide (i=0),decide (i=1),decide (i=2),decide (i=3),decide (i=4),decide (i=5),decide (i=6),decide (i=7),decide (i=8),decide (i=9),decide (i=10),decide (i=11)]
theorem ug{i:Nat}(h:i<12):(qY i).count true=1∧(qY i)[i]?=some true∧∀m,m<i→(qY i)[m]?=some false:=by
 have:i=0∨i=1∨i=2∨i=3∨i=4∨i=5∨i=6∨i=7∨i=8∨i=9∨i=10∨i=11:=by omega
 rcases this with rfl|rfl|rfl|rfl|rfl|rfl|rfl|rfl|rfl|rfl|rfl|rfl<;>refine⟨by decide,by decide,?_⟩<;>decide
section
variable{P:Program}{w:World}{K:PySem.W.Frag}{mg:Str→Option Value}{base:Heap}
theorem _root_.L2.Fun.okM{x qual:Str}{st:Stmt}{f:Addr}{fd:FuncData}{N ps:List Str}{k:Nat}{sp:Sp}(F:Fun K x qual st f fd)(S:FnScope N ps (ag st))(len:∀vs H Q E,sp vs H Q E→vs.length=ps.length)(hbody:∀(cdv:Value) (A:Around) (outer:List Env) (s:Shared) (H:Hp) (vs:List V) (Q:VK) (E:XK),RoomM k (A.deeper (PyProof.Rows.envOfC qual (ag st) s.heap.objs.size f cdv))→sp vs H Q E →
   ∃t,PSs (kc CX0 P w K mg base N qual (ag st) f cdv A outer s H E) (br st) t∧t {nx:=λ_ H'=>Q .non H',rt:=Q} (start N vs) H):FnOkM P w K mg base CX0 (k+1) f fd ps sp:=by
 obtain⟨oc,od,kV,doc,pm,an,cdv,ct,osl,rfl,lk,hcd⟩:=F.ex;exact xX lk hcd S len λA outer s H vs Q E hr hsp=>hbody cdv A outer s H vs Q E hr hsp
def wo(B:Nat→Addr)(D:Addr)(K:PySem.W.Frag):Sp:=λvs H Q _=>∃ea i x,vs=[.ref ea]∧One12 K B D i∧H ea=some (.ext (XI.lZ ea (B i)))∧W12[i]?=some x∧∀H',Same H H'→Q (.str x) H'
theorem ke:FnScope ["_law_kept","_law_kinds","_law_some"] ["_law_kept"] (ag dl):=fsc
theorem ya{f D:Addr}{B:Nat→Addr}{fd:FuncData}(F:Fun K "_law_class" "_law_class" dl f fd)(T:Txt mg)(L:Clss12 mg K B D):FnOkM P w K mg base CX0 1 f fd ["_law_kept"] (wo B D K):=by
 have m0:mg "Inside"=some (.ref (B 0)):=L.m 0 (by decide);have m1:mg "Known"=some (.ref (B 1)):=L.m 1 (by decide);have m2:mg "NoBack"=some (.ref (B 2)):=L.m 2 (by decide);have m3:mg "NoMark"=some (.ref (B 3)):=L.m 3 (by decide);have m4:mg "NoMatch"=some (.ref (B 4)):=L.m 4 (by decide);have m5:mg "NoNode"=some (.ref (B 5)):=L.m 5 (by decide);have m6:mg "NoReader"=some (.ref (B 6)):=L.m 6 (by decide);have m7:mg "NoTag"=some (.ref (B 7)):=L.m 7 (by decide);have m8:mg "NoText"=some (.ref (B 8)):=L.m 8 (by decide);have m9:mg "NotFile"=some (.ref (B 9)):=L.m 9 (by decide);have m10:mg "NotFolder"=some (.ref (B 10)):=L.m 10 (by decide);have m11:mg "Taken"=some (.ref (B 11)):=L.m 11 (by decide);refine F.okM ke (λvs H Q E h=>?_) (λcdv A outer s H vs Q E hr h=>?_)
 ·obtain⟨ea,i,x,rfl,_⟩:=h;rfl
 ·obtain⟨ea,i,x,rfl,O,hea,hx,q⟩:=h;refine⟨_,ah (au (i:=1) ke.nd rfl (Or.inl rfl) (bj (aa (am ba rfl T.isin boot_isinstance (aa (pv 0) (aa (aU (v:=.ref (B 0)) rfl m0 rfl) ae))) (aa (am ba rfl T.isin boot_isinstance (aa (pv 0) (aa (aU (v:=.ref (B 1)) rfl m1 rfl) ae))) (aa (am ba rfl T.isin boot_isinstance (aa (pv 0) (aa (aU (v:=.ref (B 2)) rfl m2 rfl) ae))) (aa (am ba rfl T.isin boot_isinstance (aa (pv 0) (aa (aU (v:=.ref (B 3)) rfl m3 rfl) ae))) ae)))))) (ah (au (i:=1) ke.nd rfl (Or.inl rfl) (aM eG (pv 1) (bj (aa (am ba rfl T.isin boot_isinstance (aa (pv 0) (aa (aU (v:=.ref (B 4)) rfl m4 rfl) ae))) (aa (am ba rfl T.isin boot_isinstance (aa (pv 0) (aa (aU (v:=.ref (B 5)) rfl m5 rfl) ae))) (aa (am ba rfl T.isin boot_isinstance (aa (pv 0) (aa (aU (v:=.ref (B 6)) rfl m6 rfl) ae))) ae)))))) (ah (au (i:=1) ke.nd rfl (Or.inl rfl) (aM eG (pv 1) (bj (aa (am ba rfl T.isin boot_isinstance (aa (pv 0) (aa (aU (v:=.ref (B 7)) rfl m7 rfl) ae))) (aa (am ba rfl T.isin boot_isinstance (aa (pv 0) (aa (aU (v:=.ref (B 8)) rfl m8 rfl) ae))) (aa (am ba rfl T.isin boot_isinstance (aa (pv 0) (aa (aU (v:=.ref (B 9)) rfl m9 rfl) ae))) ae)))))) (ah (au (i:=1) ke.nd rfl (Or.inl rfl) (aM eG (pv 1) (bj (aa (am ba rfl T.isin boot_isinstance (aa (pv 0) (aa (aU (v:=.ref (B 10)) rfl m10 rfl) ae))) (aa (am ba rfl T.isin boot_isinstance (aa (pv 0) (aa (aU (v:=.ref (B 11)) rfl m11 rfl) ae))) ae))))) (ah (bu (PW.pt (pw_or (av eD (ff plainAttrs_list PySem.F.slot_list_count PySem.F.type_list_count sE (pv 1) (aa cq ae)) aj (aB _)) (pw_or1 (cX (cW (am ba rfl T.isin boot_isinstance (aa (pv 0) (aa (eT (v:=.ty "ValueError") rfl T.ValueError PyProof.Rows.Boot.«ValueError» rfl) ae))) (λ_=>rfl)))))) (al (ar bA)) aR) (ah (au (i:=2) ke.nd rfl (Or.inl rfl) (bj (aa bA (aa bA (aa bA (aa bA (aa bA (aa bA (aa bA (aa bA (aa bA ae))))))))))) (al (ar (aH dN (aM eG (pv 2) (bj (aa bA (aa bA (aa bA ae))))) (ff plainAttrs_list PySem.F.slot_list_index PySem.F.type_list_index sF (pv 1) (aa cq ae)) (λ_ _=>rfl))))))))),?_⟩;have e:∀j,j<12→kitOne K (.ref (B i)) (.ref (B j))=some (decide (i=j)):=O.is;refine⟨_,rfl,ea,B i,_,_,rfl,hea,O.xc,.inr ⟨_,rfl,e 0 (by decide)⟩,_,rfl,ea,B i,_,_,rfl,hea,O.xc,.inr ⟨_,rfl,e 1 (by decide)⟩,_,rfl,ea,B i,_,_,rfl,hea,O.xc,.inr ⟨_,rfl,e 2 (by decide)⟩,_,rfl,ea,B i,_,_,rfl,hea,O.xc,.inr ⟨_,rfl,e 3 (by decide)⟩,aA (show 4≤1000 by decide),λl0 hl0=>?_⟩;have s0:=af (o:=.lst [.bl (decide (i=0)),.bl (decide (i=1)),.bl (decide (i=2)),.bl (decide (i=3))]) hl0;have g0:upd H l0 (.lst [.bl (decide (i=0)),.bl (decide (i=1)),.bl (decide (i=2)),.bl (decide (i=3))]) l0=some (.lst [.bl (decide (i=0)),.bl (decide (i=1)),.bl (decide (i=2)),.bl (decide (i=3))]):=ac;generalize upd H l0 (.lst [.bl (decide (i=0)),.bl (decide (i=1)),.bl (decide (i=2)),.bl (decide (i=3))])=G0 at s0 g0⊢;refine⟨_,rfl,_,rfl,ea,B i,_,_,rfl,s0 _ _ hea,O.xc,.inr ⟨_,rfl,e 4 (by decide)⟩,_,rfl,ea,B i,_,_,rfl,s0 _ _ hea,O.xc,.inr ⟨_,rfl,e 5 (by decide)⟩,_,rfl,ea,B i,_,_,rfl,s0 _ _ hea,O.xc,.inr ⟨_,rfl,e 6 (by decide)⟩,aA (show 3≤1000 by decide),λk1 hk1=>?_⟩;have u1:=s0.trans (af (o:=.lst [.bl (decide (i=4)),.bl (decide (i=5)),.bl (decide (i=6))]) hk1);refine⟨l0,k1,[.bl (decide (i=0)),.bl (decide (i=1)),.bl (decide (i=2)),.bl (decide (i=3))],[.bl (decide (i=4)),.bl (decide (i=5)),.bl (decide (i=6))],rfl,rfl,aW hk1 g0,ac,aA (show 7≤1000 by decide),λl1 hl1=>?_⟩;have s1:=u1.trans (af (o:=.lst ([.bl (decide (i=0)),.bl (decide (i=1)),.bl (decide (i=2)),.bl (decide (i=3))]++[.bl (decide (i=4)),.bl (decide (i=5)),.bl (decide (i=6))])) hl1);have g1:upd (upd G0 k1 (.lst [.bl (decide (i=4)),.bl (decide (i=5)),.bl (decide (i=6))])) l1 (.lst ([.bl (decide (i=0)),.bl (decide (i=1)),.bl (decide (i=2)),.bl (decide (i=3))]++[.bl (decide (i=4)),.bl (decide (i=5)),.bl (decide (i=6))])) l1=some (.lst [.bl (decide (i=0)),.bl (decide (i=1)),.bl (decide (i=2)),.bl (decide (i=3)),.bl (decide (i=4)),.bl (decide (i=5)),.bl (decide (i=6))]):=ac;generalize upd (upd G0 k1 (.lst [.bl (decide (i=4)),.bl (decide (i=5)),.bl (decide (i=6))])) l1 (.lst ([.bl (decide (i=0)),.bl (decide (i=1)),.bl (decide (i=2)),.bl (decide (i=3))]++[.bl (decide (i=4)),.bl (decide (i=5)),.bl (decide (i=6))]))=G1 at s1 g1⊢;refine⟨_,rfl,_,rfl,ea,B i,_,_,rfl,s1 _ _ hea,O.xc,.inr ⟨_,rfl,e 7 (by decide)⟩,_,rfl,ea,B i,_,_,rfl,s1 _ _ hea,O.xc,.inr ⟨_,rfl,e 8 (by decide)⟩,_,rfl,ea,B i,_,_,rfl,s1 _ _ hea,O.xc,.inr ⟨_,rfl,e 9 (by decide)⟩,aA (show 3≤1000 by decide),λk2 hk2=>?_⟩;have u2:=s1.trans (af (o:=.lst [.bl (decide (i=7)),.bl (decide (i=8)),.bl (decide (i=9))]) hk2);refine⟨l1,k2,[.bl (decide (i=0)),.bl (decide (i=1)),.bl (decide (i=2)),.bl (decide (i=3)),.bl (decide (i=4)),.bl (decide (i=5)),.bl (decide (i=6))],[.bl (decide (i=7)),.bl (decide (i=8)),.bl (decide (i=9))],rfl,rfl,aW hk2 g1,ac,aA (show 10≤1000 by decide),λl2 hl2=>?_⟩;have s2:=u2.trans (af (o:=.lst ([.bl (decide (i=0)),.bl (decide (i=1)),.bl (decide (i=2)),.bl (decide (i=3)),.bl (decide (i=4)),.bl (decide (i=5)),.bl (decide (i=6))]++[.bl (decide (i=7)),.bl (decide (i=8)),.bl (decide (i=9))])) hl2);have g2:upd (upd G1 k2 (.lst [.bl (decide (i=7)),.bl (decide (i=8)),.bl (decide (i=9))])) l2 (.lst ([.bl (decide (i=0)),.bl (decide (i=1)),.bl (decide (i=2)),.bl (decide (i=3)),.bl (decide (i=4)),.bl (decide (i=5)),.bl (decide (i=6))]++[.bl (decide (i=7)),.bl (decide (i=8)),.bl (decide (i=9))])) l2=some (.lst [.bl (decide (i=0)),.bl (decide (i=1)),.bl (decide (i=2)),.bl (decide (i=3)),.bl (decide (i=4)),.bl (decide (i=5)),.bl (decide (i=6)),.bl (decide (i=7)),.bl (decide (i=8)),.bl (decide (i=9))]):=ac;generalize upd (upd G1 k2 (.lst [.bl (decide (i=7)),.bl (decide (i=8)),.bl (decide (i=9))])) l2 (.lst ([.bl (decide (i=0)),.bl (decide (i=1)),.bl (decide (i=2)),.bl (decide (i=3)),.bl (decide (i=4)),.bl (decide (i=5)),.bl (decide (i=6))]++[.bl (decide (i=7)),.bl (decide (i=8)),.bl (decide (i=9))]))=G2 at s2 g2⊢;refine⟨_,rfl,_,rfl,ea,B i,_,_,rfl,s2 _ _ hea,O.xc,.inr ⟨_,rfl,e 10 (by decide)⟩,_,rfl,ea,B i,_,_,rfl,s2 _ _ hea,O.xc,.inr ⟨_,rfl,e 11 (by decide)⟩,aA (show 2≤1000 by decide),λk3 hk3=>?_⟩;have u3:=s2.trans (af (o:=.lst [.bl (decide (i=10)),.bl (decide (i=11))]) hk3);refine⟨l2,k3,[.bl (decide (i=0)),.bl (decide (i=1)),.bl (decide (i=2)),.bl (decide (i=3)),.bl (decide (i=4)),.bl (decide (i=5)),.bl (decide (i=6)),.bl (decide (i=7)),.bl (decide (i=8)),.bl (decide (i=9))],[.bl (decide (i=10)),.bl (decide (i=11))],rfl,rfl,aW hk3 g2,ac,aA (show 12≤1000 by decide),λl3 hl3=>?_⟩;have s3:=u3.trans (af (o:=.lst ([.bl (decide (i=0)),.bl (decide (i=1)),.bl (decide (i=2)),.bl (decide (i=3)),.bl (decide (i=4)),.bl (decide (i=5)),.bl (decide (i=6)),.bl (decide (i=7)),.bl (decide (i=8)),.bl (decide (i=9))]++[.bl (decide (i=10)),.bl (decide (i=11))])) hl3);have g3:upd (upd G2 k3 (.lst [.bl (decide (i=10)),.bl (decide (i=11))])) l3 (.lst ([.bl (decide (i=0)),.bl (decide (i=1)),.bl (decide (i=2)),.bl (decide (i=3)),.bl (decide (i=4)),.bl (decide (i=5)),.bl (decide (i=6)),.bl (decide (i=7)),.bl (decide (i=8)),.bl (decide (i=9))]++[.bl (decide (i=10)),.bl (decide (i=11))])) l3=some (.lst [.bl (decide (i=0)),.bl (decide (i=1)),.bl (decide (i=2)),.bl (decide (i=3)),.bl (decide (i=4)),.bl (decide (i=5)),.bl (decide (i=6)),.bl (decide (i=7)),.bl (decide (i=8)),.bl (decide (i=9)),.bl (decide (i=10)),.bl (decide (i=11))]):=ac;generalize upd (upd G2 k3 (.lst [.bl (decide (i=10)),.bl (decide (i=11))])) l3 (.lst ([.bl (decide (i=0)),.bl (decide (i=1)),.bl (decide (i=2)),.bl (decide (i=3)),.bl (decide (i=4)),.bl (decide (i=5)),.bl (decide (i=6)),.bl (decide (i=7)),.bl (decide (i=8)),.bl (decide (i=9))]++[.bl (decide (i=10)),.bl (decide (i=11))]))=G3 at s3 g3⊢;obtain⟨b1,b2,b3⟩:=ug O.lt;have g6:G3 l3=some (.lst ((qY i).map V.bl)):=g3;refine⟨_,rfl,.inl ⟨rfl,_,SqL.of g6⟩,l3,qY i,rfl,rfl,g6,rfl,_,rfl,?_⟩;rw[b1];refine be ⟨_,rfl,ea,B i,_,_,rfl,s3 _ _ hea,O.xc,.inl ⟨_,rfl,O.val⟩,_,rfl,be ?_⟩;refine⟨aA (show 9≤1000 by decide),λk4 hk4=>?_⟩;have s4:=s3.trans (af (o:=.lst [.str "inside",.str "known",.str "no back",.str "no mark",.str "no match",.str "no node",.str "no reader",.str "no tag",.str "no text"]) hk4);have g7:=aW (o:=.lst [.str "inside",.str "known",.str "no back",.str "no mark",.str "no match",.str "no node",.str "no reader",.str "no tag",.str "no text"]) hk4 g6;have g8:upd G3 k4 (.lst [.str "inside",.str "known",.str "no back",.str "no mark",.str "no match",.str "no node",.str "no reader",.str "no tag",.str "no text"]) k4=some (.lst [.str "inside",.str "known",.str "no back",.str "no mark",.str "no match",.str "no node",.str "no reader",.str "no tag",.str "no text"]):=ac;generalize upd G3 k4 (.lst [.str "inside",.str "known",.str "no back",.str "no mark",.str "no match",.str "no node",.str "no reader",.str "no tag",.str "no text"])=G4 at s4 g7 g8⊢;refine⟨_,rfl,aA (show 3≤1000 by decide),λk5 hk5=>?_⟩;have s5:=s4.trans (af (o:=.lst [.str "not file",.str "not folder",.str "taken"]) hk5);refine⟨k4,k5,[.str "inside",.str "known",.str "no back",.str "no mark",.str "no match",.str "no node",.str "no reader",.str "no tag",.str "no text"],[.str "not file",.str "not folder",.str "taken"],rfl,rfl,aW hk5 g8,ac,aA (show 12≤1000 by decide),λk6 hk6=>?_⟩;have s6:=s5.trans (af (o:=.lst ([.str "inside",.str "known",.str "no back",.str "no mark",.str "no match",.str "no node",.str "no reader",.str "no tag",.str "no text"]++[.str "not file",.str "not folder",.str "taken"])) hk6);have g9:upd (upd G4 k5 (.lst [.str "not file",.str "not folder",.str "taken"])) k6 (.lst ([.str "inside",.str "known",.str "no back",.str "no mark",.str "no match",.str "no node",.str "no reader",.str "no tag",.str "no text"]++[.str "not file",.str "not folder",.str "taken"])) k6=some (.lst (W12.map V.str)):=ac;have g10:=aW (o:=.lst ([.str "inside",.str "known",.str "no back",.str "no mark",.str "no match",.str "no node",.str "no reader",.str "no tag",.str "no text"]++[.str "not file",.str "not folder",.str "taken"])) hk6 (aW (o:=.lst [.str "not file",.str "not folder",.str "taken"]) hk5 g7);generalize upd (upd G4 k5 (.lst [.str "not file",.str "not folder",.str "taken"])) k6 (.lst ([.str "inside",.str "known",.str "no back",.str "no mark",.str "no match",.str "no node",.str "no reader",.str "no tag",.str "no text"]++[.str "not file",.str "not folder",.str "taken"]))=G5 at s6 g9 g10⊢;refine⟨_,rfl,.inl ⟨rfl,_,SqL.of g10⟩,l3,i,qY i,rfl,rfl,g10,(show 12≤1000 by decide),b2,b3,k6,_,_,_,rfl,rfl,SqL.of g9,ix (v:=.str x) ?_,q _ s6⟩;rw[getElem?_map,hx];rfl
def oA(f:Addr)(spL:Sp)(B:Nat→Addr)(D:Addr)(K:PySem.W.Frag):Sp:=λvs H Q _=>vs=[.ref f]∧spL [] H Q (λcl _ H1=>∃i x,cl=.ref (B i)∧One12 K B D i∧W12[i]?=some x∧∀H2,Same H1 H2→Q (.str x) H2)
theorem uh:FnScope ["_law_deed","e"] ["_law_deed"] (ag dX):=fsc
theorem vS{g f fC D:Addr}{B:Nat→Addr}{fdg fdL fdC:FuncData}{oc:Value}{od:Option Addr}{osl:Array (Option Value)}{spL:Sp}{k:Nat}(F:Fun K "_law_told" "_law_told" dX g fdg)(L:Clss12 mg K B D)(ho:base.get? f=some ⟨oc,od,.func fdL,osl⟩)(FL:FnOk P w K mg base (CX1 P w) (k+1) f fdL [] spL)(hb:cj K fdL [] [])(GC:FnOkM P w K mg base CX0 1 fC fdC ["_law_kept"] (wo B D K))(mC:mg "_law_class"=some (.ref fC))(kC:keepIn K (.ref fC)=true)(bC:cj K fdC ["_law_kept"] [])(mono:∀(H:Hp) (Q:VK) (E E':XK),(∀c v H',E c v H'→E' c v H')→spL [] H Q E→spL [] H Q E'):FnOk P w K mg base CX0 (k+2) g fdg ["_law_deed"] (oA f spL B D K):=by
 refine F.ok uh (λvs H Q E h=>?_) (λcdv A outer s H vs Q E hr h=>?_)
 ·obtain⟨rfl,_⟩:=h;rfl
 ·obtain⟨rfl,h⟩:=h;refine⟨_,al (vN ⟨λ_ _ h=>h,rfl,rfl⟩ (l:=1) (n:="e") (T:=D) uh.nd rfl rfl (λpl xe E hx _=>al (ar (qO (pv 0) ho FL hr hb hx))) (λpl v=>al (ar (tW GC (RoomM.mono ⟨hr.dp,hr.un⟩ (by omega)) rfl mC kC bC .nil ap (aa (pv 1) ae)))) rfl L.tre L.base),?_⟩;refine⟨_,rfl,rfl,mono _ _ _ _ (λc v H1 h1=>?_) h⟩;obtain⟨i,x,rfl,O,hx,hq⟩:=h1;refine⟨B i,rfl,O.sub,λea σ' hσ hea=>?_⟩;obtain⟨y0,y1,rfl⟩:=kX hσ;exact⟨_,rfl,ea,i,x,rfl,O,ac,hx,λH2 s2=>hq H2 ((af hea).trans s2)⟩
end
theorem Tre.kp{H H':Hp}{d t:Addr}{zs:ZN}{kvs:List (Key×V)}(kp:∀b o,H b=some o→b≠d→H' b=some o)(hd:H d=some (.dK kvs))(h:Tre H t zs):Tre H' t zs :=
 ⟨kp _ _ h.tup (λe=>by have:=h.tup;rw[e,hd]at this;cases this),λz hz=>kp _ _ (h.nod z hz) (λe=>by have:=h.nod z hz;rw[e,hd]at this;cases this),h.tr,h.len⟩
theorem Ic.kp{H H':Hp}{d t m r:Addr}{zs us ws:ZN}{k:Int}{kvs:List (Key×V)}(kp:∀b o,H b=some o→b≠d→H' b=some o)(hd:H d=some (.dK kvs))(h:Ic H t m r zs us ws k):Ic H' t m r zs us ws k :=
 ⟨Tre.kp kp hd h.tr,Tre.kp kp hd h.tm,Tre.kp kp hd h.tw,h.em,h.ew,h.ok,h.len,h.fo,h.k0,h.k1⟩
section
variable{P:Program}{w:World}{K:PySem.W.Frag}{mg:Str→Option Value}{base:Heap}
def mX:Sp:=λvs H Q _=>∃t k zs,vs=[.ref t,.int k]∧Tre H t zs∧(∀n∈nds zs,ip n)∧zs.length≤20∧Fold zs k∧0≤k∧k≤60∧∀H',Same H H'→Q (.bl true) H'
theorem yb{f CT:Addr}{fd:FuncData}(F:Fun K "_law_is_cut" "_law_is_cut" aL f fd)(T:Txt mg)(CB:Has P w K mg base 1 "_law_book" ["_law_tree_here"] jl)(CC:Has P w K mg base 4 "cut_out" ["tree","number"] mM)(CW:Has P w K mg base 4 "without" ["tree","number"] ow)(CU:Has P w K mg base 1 "_law_under" ["_law_book_here","_law_number","_law_goal"] pE)(CI:Has P w K mg base 4 "is_tree" ["thing"] dq)(CO:Has P w K mg base 3 "total" ["tree","number"] pG)(CS:Has P w K mg base 3 "shape" ["tree","number"] pJ)(CG:gF P w K mg base 3 "grafted" ["tree","number","other"] (dI CT))(CH:Has P w K mg base 2 "_law_shown" ["_law_tree_here"] gO):FnOk P w K mg base CX0 6 f fd ["_law_tree_here","_law_folder"] mX:=by
 refine F.ok ua (λvs H Q E h=>?_) (λcdv A outer s H vs Q E hr h=>?_)
 ·obtain⟨t,k,zs,rfl,_⟩:=h;rfl
 ·obtain⟨t,k,zs,rfl,tr,ok,hl,fo,k0,k1,q⟩:=h;obtain⟨r0,p0,h0⟩:=ic0 (outer:=outer) (H0:=H) (E:=E) (cdv:=cdv) hr CB CC CW;obtain⟨r1,p1,h1⟩:=ic1 (outer:=outer) (H0:=H) (E:=E) (cdv:=cdv) hr CU;obtain⟨r2,p2,h2⟩:=ic2 (outer:=outer) (H0:=H) (E:=E) (cdv:=cdv) hr CI;obtain⟨r3,p3,h3⟩:=ic3 (outer:=outer) (H0:=H) (E:=E) (cdv:=cdv) T hr CO;obtain⟨r4,p4,h4⟩:=ic4 (outer:=outer) (H0:=H) (E:=E) (cdv:=cdv) T hr CC;obtain⟨r5,p5,h5⟩:=ic5 (outer:=outer) (H0:=H) (E:=E) (cdv:=cdv) hr CS CG CH;refine⟨_,ah p0 (ah p1 (ah p2 (ah p3 (ah p4 (al p5))))),?_⟩;refine h0 _ H t k zs _ _ _ _ tr ok hl fo k0 k1 λd m r as us ws H1 s1 hd0 hd bk I=>?_;refine h1 _ H H1 t d k as zs _ _ _ s1 hd0 hd bk tr.tr hl fo λl H2 kp hll=>?_;have I2:=Ic.kp kp hd I;have s2:Same H H2:=λb o e=>kp b o (s1 _ _ e) λz=>by rw[z,hd0]at e;cases e
  refine h2 _ H2 t d m r k zs us ws _ I2 λH3 s3=>?_;refine h3 _ H3 t d m r l k zs us ws (I2.same s3) (s3 _ _ hll) λH4 s4=>?_;refine h4 _ H4 t d m r l k zs us ws ((I2.same s3).same s4) (s4 _ _ (s3 _ _ hll)) λH5 s5=>?_;exact h5 _ H5 t d m r k zs us ws _ (((I2.same s3).same s4).same s5) λH6 s6=>q H6 ((((s2.trans s3).trans s4).trans s5).trans s6)
end
def CN2:List Str:=["_law_script","_law_tree_here","_law_other","_law_folders","_law_folder","_law_told_here","_law_names","_law_by","_law_ahead","_law_due","_law_first","_law_new"]
theorem scC:FnScope CN2 ["_law_script"] (ag fe):=fsc
abbrev CX2(P:Program)(w:World)(K:PySem.W.Frag)(mg:Str→Option Value)(base:Heap)(f cL:Addr)(A:Around)(outer:List Env)(s:Shared)(H:Hp)(E:XK):Cx:=(gd CX0 P w K mg base CN2 "law" (ag fe) f (.ref cL) A outer s H E).nox
def cS(i:Nat):Stmt:=(br fe).getD i (.Pass ⟨0,0,0,0⟩)
structure Dr(H:Hp)(t:Addr)(zs:ZN):Prop where
 tr:Tre H t zs
 ok:∀n∈nds zs,ip n
 lt:∀n∈nds zs,n.num≤12
 len:zs.length≤8
theorem Dr.same{H H':Hp}{t:Addr}{zs:ZN}(h:Dr H t zs)(s:Same H H'):Dr H' t zs:=⟨h.tr.same s,h.ok,h.lt,h.len⟩
section
variable{P:Program}{w:World}{K:PySem.W.Frag}{mg:Str→Option Value}{base:Heap}{f cL:Addr}{A:Around}{outer:List Env}{s:Shared}{H0:Hp}{E:XK}
theorem c0(hr:Room 8 (A.deeper (PyProof.Rows.envOfC "law" (ag fe) s.heap.objs.size f (.ref cL))))(CT:Has P w K mg base 3 "_law_tree" ["_law_script","_law_at","_law_most"] (gP K)):
  ∃rd,PS (CX2 P w K mg base f cL A outer s H0 E) (cS 0) rd∧∀(D:Ends)(H:Hp)(a:Addr)(x1 x2 x3 x4 x5 x6 x7 x8 x9 x10 x11:Option V),dZ K H a →
   (∀t o zs os H',Same H H'→Dr H' t zs→Dr H' o os→D.nx [some (.ref a),some (.ref t),some (.ref o),x3,x4,x5,x6,x7,x8,x9,x10,x11] H')→rd D [some (.ref a),x1,x2,x3,x4,x5,x6,x7,x8,x9,x10,x11] H:=by
 obtain⟨fT,fdT,GT,mT,kT,bT⟩:=CT;have hr3:Room 3 _:=hr.mono (by decide);refine⟨_,rl (bq (aa (ak GT hr3 rfl mT kT bT .nil ap (aa (pv 0) (aa aj (aa aj ae)))) (aa (ak GT hr3 rfl mT kT bT .nil ap (aa (pv 0) (aa aj (aa aj ae)))) ae)))
  (gR (n:=2) rfl (bo (ao (i:=1) scC.nd rfl (Or.inr rfl)) (bo (ao (i:=2) scC.nd rfl (Or.inr rfl)) eU))),?_⟩
 intro D H a x1 x2 x3 x4 x5 x6 x7 x8 x9 x10 x11 hS q;have mk:∀{H1:Hp}{t1:Addr}{z1:ZN},H1 t1=some (.tup (aI z1))→At H1 z1→(z1.length:Int)≤8→TW.Tree (nds z1)→(∀z∈z1,sM z.2)→Dr H1 t1 z1:=λ{H1 t1 z1} ht1 hA1 hl1 hT1 hG1 =>
  ⟨⟨ht1,hA1,⟨hT1,λn hn=>by obtain⟨z,hz,rfl⟩:=bn hn;exact(hG1 z hz).1⟩,by omega⟩,λn hn=>by obtain⟨z,hz,rfl⟩:=bn hn;exact(hG1 z hz).ok,λn hn=>by obtain⟨z,hz,rfl⟩:=bn hn;exact(hG1 z hz).2.1,by omega⟩
 refine⟨_,rfl,a,0,8,rfl,by decide,by decide,by decide,hS,λt1 z1 H1 ht1 hA1 hl1 hT1 hG1 s1=>?_⟩;refine⟨_,rfl,a,200,5,rfl,by decide,by decide,by decide,hS.same s1,λt2 z2 H2 ht2 hA2 hl2 hT2 hG2 s2=>?_⟩;refine⟨(show 2≤sizeLine from aA (by decide)),λtt htt=>?_⟩;have s3:=af (o:=.tup [.ref t1,.ref t2]) htt;refine⟨tt,_,rfl,SqT.of ac,rfl,_,_,rfl,_,_,rfl,rfl,?_⟩;exact q t1 t2 z1 z2 _ ((s1.trans s2).trans s3) (((mk ht1 hA1 (by omega) hT1 hG1).same s2).same s3) ((mk ht2 hA2 (by omega) hT2 hG2).same s3)
end
def fV(z:Addr×Nd):Bool:=!z.2.st.isSome
section
variable{P:Program}{w:World}{K:PySem.W.Frag}{mg:Str→Option Value}{base:Heap}{f cL:Addr}{A:Around}{outer:List Env}{s:Shared}{H0:Hp}{E:XK}
theorem c12(T:Txt mg)(hr:Room 8 (A.deeper (PyProof.Rows.envOfC "law" (ag fe) s.heap.objs.size f (.ref cL))))(CP:Has P w K mg base 2 "_law_pick" ["_law_script","_law_k","_law_many"] (fQ K))(rest:List Stmt)(tr:TS)(pr:PSs (CX2 P w K mg base f cL A outer s H0 E) rest tr):∃rd,PSs (CX2 P w K mg base f cL A outer s H0 E) (cS 1::cS 2::rest) rd∧∀(D:Ends)(H:Hp)(a t:Addr)(zs:ZN)(x2 x3 x4 x5 x6 x7 x8 x9 x10 x11:Option V),dZ K H a→Dr H t zs →
   (∀k x3 H',Same H H'→Fold zs k→0≤k→k≤60→tr D [some (.ref a),some (.ref t),x2,x3,some (.int k),x5,x6,x7,x8,x9,x10,x11] H')→rd D [some (.ref a),some (.ref t),x2,x3,x4,x5,x6,x7,x8,x9,x10,x11] H:=by
 obtain⟨fP,fdP,GP,mP,kP,bP⟩:=CP;have hr2:Room 2 _:=hr.mono (by decide);refine⟨_,ah (au (i:=3) scC.nd rfl (Or.inl rfl) (aM eG (bj (aa aj ae)) (fz (N:=["_law_node"]) (cl:=[]) (k:=1) (js:=[]) (g:=aO 0) rfl (cf rfl (by decide +kernel) (by decide +kernel) (by decide +kernel)) rfl (λi j x h=>by simp at h) (bD (pv 1)) (λs H fp=>ao (i:=0) (show(["_law_node"]:List Str).Nodup by decide +kernel) rfl (Or.inl rfl) (Or.inr rfl))
    (λs H fp=>av km (aH (r:=ck K) ay (pv 0) aj (λ_ _=>rfl)) fw (aB _)) (λs H fp=>aH (r:=ck K) ay (pv 0) aj (λ_ _=>rfl)))))
  (ah (au (i:=4) scC.nd rfl (Or.inr rfl) (aH dN (pv 3) (ak GP hr2 rfl mP kP bP .nil ap (aa (pv 0) (aa aj (aa (am aC rfl T.len boot_len (aa (pv 3) ae)) ae)))) (λ_ _=>rfl))) pr),?_⟩
 intro D H a t zs x2 x3 x4 x5 x6 x7 x8 x9 x10 x11 hS Z q;have hl:=Z.len;refine⟨aA (show 1≤1000 by decide),λl0 hl0=>?_⟩;have s1:=af (o:=.lst [.int 0]) hl0;have g1:upd H l0 (.lst [.int 0]) l0=some (.lst [.int 0]):=ac;generalize upd H l0 (.lst [.int 0])=H1 at s1 g1⊢;have Z1:=Z.same s1;refine⟨_,rfl,t,rfl,⟨_,SqT.of Z1.tr.tup⟩,λp hp=>?_⟩;refine eN (fr:=[]) zs (λz=>V.ref z.1) (by omega) hp (bE (by rw[aK];exact SqT.of Z1.tr.tup)) rfl fV (λz y _=>y=.int z.2.num) (λ_ _ _ _ h _=>h) (λz H' kk mz s2 _ hk=>?_) (λz H' kk mz _ s2 _ hk=>?_) (λys H2 s2 hp2 hys=>?_)
 ·refine⟨_,rfl,z.1,_,_,_,rfl,rfl,SqT.of (s2 _ _ (Z1.tr.nod z mz)),at3 z.2,rfl,_,rfl,?_⟩;have e:decide (stV z.2.st=V.non)=fV z:=by
   unfold fV;cases z.2.st<;>simp[stV]
  rw[e];exact hk H' (Same.refl _)
 ·exact⟨_,rfl,z.1,_,_,_,rfl,rfl,SqT.of (s2 _ _ (Z1.tr.nod z mz)),at0 z.2,hk _ H' (Same.refl _) rfl⟩
 have ey:=aQ (f:=λz:Addr×Nd=>V.int z.2.num) hys (λz y _ h=>h);have e:ys=(nums (zs.filter fV)).map V.int:=by rw[ey];unfold nums;rw[map_map];rfl
 rw[e]at hp2;have hfl:(nums (zs.filter fV)).length≤8:=by rw[gJ];exact le_trans (length_filter_le _ _) hl
 refine⟨l0,p,[.int 0],_,rfl,rfl,s2 _ _ g1,hp2,aA (by rw[length_map];show 1+_≤1000;omega),λl hll=>?_⟩;have s3:=af (o:=.lst ([.int 0]++(nums (zs.filter fV)).map V.int)) hll;have g3:upd H2 l (.lst ([.int 0]++(nums (zs.filter fV)).map V.int)) l=some (.lst (((0:Int)::nums (zs.filter fV)).map V.int)):=ac;generalize upd H2 l (.lst ([.int 0]++(nums (zs.filter fV)).map V.int))=H3 at s3 g3⊢;have s13:=(s1.trans s2).trans s3;refine⟨_,rfl,_,rfl,_,rfl,l,_,rfl,.inl (SqL.of g3),a,_,_,rfl,by decide,by rw[length_map,length_cons];omega,hS.same s13,λr H4 r0 r1 s4=>?_⟩;rw[length_map]at r1;obtain⟨i,rfl⟩:∃i:Nat,r=i:=⟨r.toNat,by omega⟩;have hi:i<((0:Int)::nums (zs.filter fV)).length:=by omega
 refine⟨l,_,_,_,rfl,rfl,SqL.of (s4 _ _ g3),ix (v:=.int (((0:Int)::nums (zs.filter fV))[i])) (by rw[getElem?_map,getElem?_eq_getElem hi];rfl),?_⟩;have hm:(((0:Int)::nums (zs.filter fV))[i])∈(0:Int)::nums (zs.filter fV):=getElem_mem hi;generalize (((0:Int)::nums (zs.filter fV))[i])=k at hm⊢;have hk:Fold zs k∧0≤k∧k≤60:=by
  rcases mem_cons.mp hm with e|h
  ·rw[e];exact⟨.inl rfl,by decide,by decide⟩
  ·unfold nums at h;obtain⟨z,hz,ez⟩:=mem_map.mp h;obtain⟨h1,h2⟩:=mem_filter.mp hz;have h3:=Z.lt z.2 (aw h1);have h4:=Z.tr.tr.pos z.2 (aw h1);have ez':z.2.num=k:=ez;refine⟨.inr ⟨z,h1,ez',?_⟩,by omega,by omega⟩;unfold fV at h2;cases e:z.2.st with
   |none=>rfl
   |some i=>rw[e]at h2;cases h2
 exact q k _ H4 (s13.trans s4) hk.1 hk.2.1 hk.2.2
theorem c3(hr:Room 8 (A.deeper (PyProof.Rows.envOfC "law" (ag fe) s.heap.objs.size f (.ref cL))))(CI:Has P w K mg base 6 "_law_is_cut" ["_law_tree_here","_law_folder"] mX):
  ∃rd,PS (CX2 P w K mg base f cL A outer s H0 E) (cS 3) rd∧∀(D:Ends)(H:Hp)(a t:Addr)(k:Int)(zs:ZN)(x2 x3 x5 x6 x7 x8 x9 x10 x11:Option V),Dr H t zs→Fold zs k→0≤k→k≤60 →
   (∀H',Same H H'→D.nx [some (.ref a),some (.ref t),x2,x3,some (.int k),x5,x6,x7,x8,x9,x10,x11] H')→rd D [some (.ref a),some (.ref t),x2,x3,some (.int k),x5,x6,x7,x8,x9,x10,x11] H:=by
 obtain⟨fI,fdI,GI,mI,kI,bI⟩:=CI;have hr6:Room 6 _:=hr.mono (by decide);refine⟨_,bu (cX (cW (ak GI hr6 rfl mI kI bI .nil ap (aa (pv 1) (aa (pv 4) ae))) (λ_=>rfl))) (al (ar cq)) aR,?_⟩;intro D H a t k zs x2 x3 x5 x6 x7 x8 x9 x10 x11 Z fo k0 k1 q;exact⟨_,rfl,_,rfl,t,k,zs,rfl,Z.tr,Z.ok,by have:=Z.len;omega,fo,k0,k1,λH' s'=>⟨true,rfl,be (q H' s')⟩⟩
theorem c5(hr:Room 8 (A.deeper (PyProof.Rows.envOfC "law" (ag fe) s.heap.objs.size f (.ref cL)))):
  ∃rd,PS (CX2 P w K mg base f cL A outer s H0 E) (cS 5) rd∧∀(D:Ends)(H:Hp)(a t:Addr)(k:Int)(zs:ZN)(x2 x3 x5 x6 x7 x8 x9 x10 x11:Option V),Dr H t zs →
   (∀(l:Addr)(ns:List Str)(H':Hp),Same H H'→H' l=some (.lst (ns.map V.str))→(∀x,x∈ns↔∃n∈nds zs,n.par=k∧n.nm=x)→D.nx [some (.ref a),some (.ref t),x2,x3,some (.int k),x5,some (.ref l),x7,x8,x9,x10,x11] H')→rd D [some (.ref a),some (.ref t),x2,x3,some (.int k),x5,x6,x7,x8,x9,x10,x11] H:=by
 refine⟨_,au (i:=6) scC.nd rfl (Or.inr rfl) (fz (N:=["_law_node","_law_folder"]) (cl:=[("_law_folder",s.heap.objs.size+4)]) (k:=1) (js:=[4]) (g:=aO 0) rfl
    (LcOk.mk' ["_law_folder"] rfl rfl (by decide +kernel) (by decide +kernel) ?hcl rfl (by decide +kernel)) rfl ?hj (bD (pv 1)) (λs H fp=>ao (i:=0) (show(["_law_node","_law_folder"]:List Str).Nodup by decide +kernel) rfl (Or.inl rfl) (Or.inr rfl))
    (λs H fp=>av jC (aH (r:=ck K) ay (pv 0) aj (λ_ _=>rfl)) (pv 1) (aB _)) (λs H fp=>aH (r:=ck K) ay (pv 0) aj (λ_ _=>rfl))),?_⟩
 case hcl =>
  intro y hy;rcases mem_cons.mp hy with e|hy
  ·rw[e];rfl
  ·cases hy
 case hj =>
  intro i j x h1 h2
  match i,h1,h2 with
  |0,h1,h2 =>
   cases h1;cases h2;exact⟨rfl,Or.inr (Or.inl rfl),(show((ag fe).names.lookup ("_law_folder":Str)≠some NameKind.local)by decide +kernel),by first|exact Or.inl rfl|exact Or.inr rfl⟩
  |i+1,h1,h2=>simp at h1
 intro D H a t k zs x2 x3 x5 x6 x7 x8 x9 x10 x11 Z q;have hl:=Z.len;refine⟨_,rfl,t,rfl,⟨_,SqT.of Z.tr.tup⟩,λp hp=>?_⟩;refine eN (fr:=[some (.int k)]) zs (λz=>V.ref z.1) (by omega) hp (bE (by rw[aK];exact SqT.of Z.tr.tup)) rfl (λz=>decide (z.2.par=k)) (λz y _=>y=.str z.2.nm) (λ_ _ _ _ h _=>h) (λz H' kk mz s2 _ hk=>?_) (λz H' kk mz _ s2 _ hk=>?_) (λys H2 s2 hp2 hys=>?_)
 ·refine⟨_,rfl,z.1,_,_,_,rfl,rfl,SqT.of (s2 _ _ (Z.tr.nod z mz)),at1 z.2,_,rfl,rfl,_,rfl,?_⟩;have e:decide (V.int z.2.par=V.int k)=decide (z.2.par=k):=by simp
  rw[e];exact hk H' (Same.refl _)
 ·exact⟨_,rfl,z.1,_,_,_,rfl,rfl,SqT.of (s2 _ _ (Z.tr.nod z mz)),at2 z.2,hk _ H' (Same.refl _) rfl⟩
 have ey:=aQ (f:=λz:Addr×Nd=>V.str z.2.nm) hys (λz y _ h=>h);refine q p ((zs.filter λz=>decide (z.2.par=k)).map λz=>z.2.nm) H2 s2 (by rw[hp2,ey,map_map];rfl) λx=>?_;rw[mem_map];constructor
 ·rintro⟨z,hz,e⟩;obtain⟨h1,h2⟩:=mem_filter.mp hz;exact⟨z.2,aw h1,of_decide_eq_true h2,e⟩
 ·rintro⟨n,hn,e1,e2⟩;obtain⟨z,hz,rfl⟩:=bn hn;exact⟨z,mem_filter.mpr ⟨hz,decide_eq_true e1⟩,e2⟩
end
def mY:Str:=("law"++".<locals>.")++"<lambda>"
theorem lk1{n x:Str}{c c':Addr}(h:[(n,c)].lookup x=some c'):x=n∧c'=c:=by
 by_cases e:x=n
 ·subst e;rw[lookup_cons,beq_self_eq_true]at h;exact⟨rfl,(Option.some.inj h).symm⟩
 ·rw[lookup_cons,show(x==n)=false by simpa using e]at h
  cases h
theorem lk3{n m r x:Str}{c d e' c':Addr}(h:[(n,c),(m,d),(r,e')].lookup x=some c'):(x=n∧c'=c)∨(x=m∧c'=d)∨(x=r∧c'=e'):=by
 by_cases e:x=n
 ·subst e;rw[lookup_cons,beq_self_eq_true]at h;exact .inl ⟨rfl,(Option.some.inj h).symm⟩
 ·rw[lookup_cons,show(x==n)=false by simpa using e]at h
  by_cases e2:x=m
  ·subst e2;rw[lookup_cons,beq_self_eq_true]at h;exact .inr (.inl ⟨rfl,(Option.some.inj h).symm⟩)
  ·rw[lookup_cons,show(x==m)=false by simpa using e2]at h
   exact .inr (.inr (lk1 h))
theorem zM{n m r x y:Str}{z i j k:Nat}{c:Addr}(hij:i≠j)(hik:i≠k)(hjk:j≠k)(h1:[(n,(z+i:Addr)),(m,(z+j:Addr)),(r,(z+k:Addr))].lookup x=some c)(h2:[(n,(z+i:Addr)),(m,(z+j:Addr)),(r,(z+k:Addr))].lookup y=some c):x=y:=by
 have no:∀{p q:Nat},p≠q→c=z+p→c=z+q→False:=λhn e1 e2=>hn (Nat.add_left_cancel (e1.symm.trans e2:z+_=z+_));rcases lk3 h1 with⟨a,b⟩|⟨a,b⟩|⟨a,b⟩<;>rcases lk3 h2 with⟨a',b'⟩|⟨a',b'⟩|⟨a',b'⟩<;>first|exact a.trans a'.symm|exact(no hij b b').elim|exact(no hik b b').elim|exact(no hjk b b').elim|exact(no hij b' b).elim|exact(no hik b' b).elim|exact(no hjk b' b).elim
theorem cI.ne{Pt:Addr}{q:Str}{H H':Hp}(T:eR H Pt q)(o:cI Pt H H'){b:Addr}{u:HO}(e:H b=some u)(n:∀ps,u≠.tbl ps):H' b=some u:=o b u (λz=>by
 obtain⟨ps,h1,_⟩:=T;rw[z,h1]at e;exact n ps (Option.some.inj e).symm) e
theorem cI.tre{Pt t:Addr}{q:Str}{H H':Hp}{z:ZN}(T:eR H Pt q)(o:cI Pt H H')(h:Tre H t z):Tre H' t z:=⟨cI.ne T o h.tup λps h=>(by cases h),λy hy=>cI.ne T o (h.nod y hy) λps h=>(by cases h),h.tr,h.len⟩
def zh(c:Addr)(inner:Hp→VK→XK→Prop):Sp:=λvs H Q E=>vs=[]∧H c=some (.ext (cdφ c mY))∧inner H Q E
theorem zk{P:Program}{w:World}{K:PySem.W.Frag}{mg:Str→Option Value}{base:Heap}{N:List Str}{qual:Str}{scope:Scope}{f:Addr}{cd:Value}{cl:List (Str×Addr)}{A:Around}{outer:List Env}{s:Shared}{H:Hp}{E:XK} :
  Lv (sW (CX1 P w) P w K mg base N qual scope f cd cl A outer s H E) E:=⟨rfl,rfl,rfl,rfl⟩
theorem ui{C:Addr}(vs:List V)(H:Hp)(Q:VK)(E E':XK)(hm:∀c v H',E c v H'→E' c v H')(h:dI C vs H Q E):dI C vs H Q E':=by
 obtain⟨t,k,o,zs,os,e,h1,h2,h3,h4,h5,q⟩:=h;exact⟨t,k,o,zs,os,e,h1,h2,h3,h4,h5,λgr hg=>⟨(q gr hg).1,λn H' s=>hm _ _ _ ((q gr hg).2 n H' s)⟩⟩
structure Gr(H:Hp)(w:Addr)(us zs os:ZN)(k g:Int):Prop where
 tup:H w=some (.tup (aI us))
 at':At H us
 en:nds us=nds zs++(nds os).map (TW.grN k g)
 pl:TW.aY (nds zs++(nds os).map (TW.grN k g))
 gr:GrS zs g
theorem Gr.same{H H':Hp}{w:Addr}{us zs os:ZN}{k g:Int}(h:Gr H w us zs os k g)(s:Same H H'):Gr H' w us zs os k g:=⟨s _ _ h.tup,λz hz=>s _ _ (h.at' z hz),h.en,h.pl,h.gr⟩
def Res(H:Hp)(v:V)(zs os:ZN)(k:Int):Prop:=(∃w us g,v=.ref w∧Gr H w us zs os k g)∨(v=.str "taken"∧∃g,GrS zs g∧¬TW.aY (nds zs++(nds os).map (TW.grN k g)))
theorem Res.same{H H':Hp}{v:V}{zs os:ZN}{k:Int}(h:Res H v zs os k)(s:Same H H'):Res H' v zs os k:=by
 rcases h with⟨w,us,g,e,h⟩|h
 ·exact .inl ⟨w,us,g,e,h.same s⟩
 ·exact .inr h
theorem cI.dr{Pt t:Addr}{q:Str}{H H':Hp}{z:ZN}(T:eR H Pt q)(o:cI Pt H H')(h:Dr H t z):Dr H' t z:=⟨cI.tre T o h.tr,h.ok,h.lt,h.len⟩
theorem uk{PL Dd t o:Addr}{B:Nat→Addr}{K:PySem.W.Frag}{js:List Nat}{fv:List V}{inner:List V→Hp→VK→XK→Prop}{σ:St}{H:Hp}{Q:VK}{zs os:ZN}{k:Int}(T:eR H PL mY)(hv:xz js σ fv)(hi:inner fv=dI (B 11) [.ref t,.int k,.ref o])(O:One12 K B Dd 11)(tr:Tre H t zs)(tro:Tre H o os)(k0:0≤k)(k1:k≤60)(fo:Fold zs k)(q:∀v H',cI PL H H'→eR H' PL mY→Res H' v zs os k→Q v H'):yP PL mY js (λf c fv=>oA f (zh c (inner fv)) B Dd K) σ H Q:=by
 refine⟨T,fv,hv,λf c H' off tq hc _=>⟨rfl,rfl,hc,?_⟩⟩;rw[hi];refine⟨t,k,o,zs,os,rfl,cI.tre T off tr,cI.tre T off tro,k0,k1,fo,λg hg=>?_⟩;rw[oy tro.tr.pos];refine⟨λhp us w H2 s2 hw hA en=>?_,λhn H2 s2=>⟨11,"taken",rfl,O,rfl,λH3 s3=>?_⟩⟩
 ·exact q _ H2 (λb o n e=>s2 _ _ (off b o n e)) (eZ tq s2) (.inl ⟨w,us,g,rfl,hw,hA,en,hp,hg⟩)
 ·exact q _ H3 (λb o n e=>s3 _ _ (s2 _ _ (off b o n e))) (eZ (eZ tq s2) s3) (.inr ⟨rfl,g,hg,hn⟩)
structure Tol(K:PySem.W.Frag)(mg:Str→Option Value)(base:Heap)(cL PL g fC Dd:Addr)(fdg fdC:FuncData)(B:Nat→Addr):Prop where
 KB:K.In base
 T:Txt mg
 C0:CodeHd base cL PL
 Bm:BmB base mg
 FT:Fun K "_law_told" "_law_told" dX g fdg
 mT:mg "_law_told"=some (.ref g)
 bT:cj K fdg ["_law_deed"] []
 FC:Fun K "_law_class" "_law_class" dl fC fdC
 mC:mg "_law_class"=some (.ref fC)
 bC:cj K fdC ["_law_kept"] []
 L:Clss12 mg K B Dd
section
variable{P:Program}{w:World}{K:PySem.W.Frag}{mg:Str→Option Value}{base:Heap}{f cL PL g fC Dd:Addr}{fdg fdC:FuncData}{B:Nat→Addr}{A:Around}{outer:List Env}{s:Shared}{H0:Hp}{E:XK}
theorem c4(hr:Room 8 (A.deeper (PyProof.Rows.envOfC "law" (ag fe) s.heap.objs.size f (.ref cL))))(O:Tol K mg base cL PL g fC Dd fdg fdC B)(O11:One12 K B Dd 11)(CG:∀base',K.In base'→BmB base' mg→gF P w K mg base' 3 "grafted" ["tree","number","other"] (dI (B 11))):
  ∃rd,PS (CX2 P w K mg base f cL A outer s H0 E) (cS 4) rd∧∀(D:Ends)(H:Hp)(a t o:Addr)(k:Int)(zs os:ZN)(x3 x5 x6 x7 x8 x9 x10 x11:Option V),Dr H t zs→Dr H o os→Fold zs k→0≤k→k≤60→eR H PL mY →
   (∀v H',cI PL H H'→eR H' PL mY→Res H' v zs os k→D.nx [some (.ref a),some (.ref t),some (.ref o),x3,some (.int k),some v,x6,x7,x8,x9,x10,x11] H')→rd D [some (.ref a),some (.ref t),some (.ref o),x3,some (.int k),x5,x6,x7,x8,x9,x10,x11] H:=by
 have hr':Room 5 _:=hr.mono (by decide);have kT:=O.FT.kp;refine⟨_,au (i:=5) scC.nd rfl (Or.inl rfl) (nY (k:=5) (cl:=[("_law_tree_here",s.heap.objs.size+6),("_law_other",s.heap.objs.size+5),("_law_folder",s.heap.objs.size+4)]) (fs:=["_law_folder","_law_other","_law_tree_here"]) (js:=[4,2,1]) (qual:=mY) (spG:=λf c fv=>oA f (zh c ((λfv=>dI (B 11) [fv.getD 2 .non,fv.getD 0 .non,fv.getD 1 .non]) fv)) B Dd K) O.C0 rfl O.Bm rfl rfl rfl ?O ?hG hr' rfl O.mT kT O.bT),?_⟩
 case O=>exact⟨rfl,λx c h=>by rcases lk3 h with⟨rfl,rfl⟩|⟨rfl,rfl⟩|⟨rfl,rfl⟩<;>rfl,λi j x h1 h2=>by
  match i,h1,h2 with
  |0,h1,h2=>cases h1;cases h2;exact⟨rfl,rfl,rfl,_,rfl⟩
  |1,h1,h2=>cases h1;cases h2;exact⟨rfl,rfl,rfl,_,rfl⟩
  |2,h1,h2=>cases h1;cases h2;exact⟨rfl,rfl,rfl,_,rfl⟩
  | i+3,h1,h2=>simp at h1,λ_=>rfl⟩
 case hG =>
  intro base' f' c pm ctv fv sub ho C;obtain⟨v0,v1,v2,rfl⟩:∃v u x,fv=[v,u,x]:=by
   have:=C.len
   match fv,this with
   |[v,u,x],_=>exact⟨v,u,x,rfl⟩
  obtain⟨fN,fdN,GN',mN,kN,bN⟩:=CG base' (O.KB.keeps sub) (O.Bm.sub sub);refine vS O.FT O.L ho (vp (k:=3) (ps:=[]) (fs:=["_law_folder","_law_other","_law_tree_here"]) (fv:=[v0,v1,v2]) ho (λvs H Q E h=>h.2.1) ⟨rfl,rfl,rfl,by decide +kernel,(λx hx=>by cases hx),nodup_nil,λx h=>?_,λx y c h1 h2=>zM (by decide) (by decide) (by decide) h1 h2⟩ C (λvs H Q E h=>by obtain⟨rfl,_⟩:=h;rfl) (λA outer s H vs Q E hr h=>?_)) (.all λus hl=>match us,hl with | [],_=>rfl) (ya O.FC O.T O.L) O.mC O.FC.kp O.bC (λH Q E E' hm h=>?_)
  ·have:=(by decide +kernel:∀y∈_,y.2=NameKind.free→y.1=("_law_folder":Str)∨y.1=("_law_other":Str)∨y.1=("_law_tree_here":Str)) _ (PySem.mem_of_lookup h) rfl;have e:x=("_law_folder":Str)∨x=("_law_other":Str)∨x=("_law_tree_here":Str):=this;rcases e with rfl|rfl|rfl
   ·exact⟨_,rfl⟩
   ·exact⟨_,rfl⟩
   ·exact⟨_,rfl⟩
  ·obtain⟨rfl,hc,h⟩:=h;exact⟨_,ak (E:=E) GN' hr rfl mN kN bN .nil (vY zk) (aa (pv 2) (aa (pv 0) (aa (pv 1) ae))),_,rfl,_,rfl,_,rfl,h⟩
  ·exact⟨h.1,h.2.1,ui _ _ _ _ _ hm h.2.2⟩
 intro D H a t o k zs os x3 x5 x6 x7 x8 x9 x10 x11 Z Zo fo k0 k1 tab q;exact uk (fv:=[.int k,.ref o,.ref t]) (inner:=λfv=>dI (B 11) [fv.getD 2 .non,fv.getD 0 .non,fv.getD 1 .non]) tab rfl rfl O11 Z.tr Zo.tr k0 k1 fo q
theorem c6(hr:Room 8 (A.deeper (PyProof.Rows.envOfC "law" (ag fe) s.heap.objs.size f (.ref cL)))){CT:Addr}(CW:Has P w K mg base 4 "without" ["tree","number"] ow)(CG:gF P w K mg base 3 "grafted" ["tree","number","other"] (dI CT)):
  ∃rd,PS (CX2 P w K mg base f cL A outer s H0 E) (cS 6) rd∧∀(D:Ends)(H:Hp)(a t o l:Addr)(k:Int)(zs os:ZN)(v:V)(ns:List Str)(x3 x7 x8 x9 x10 x11:Option V),Dr H t zs→Dr H o os→Fold zs k→0≤k→k≤60→Res H v zs os k→H l=some (.lst (ns.map V.str))→(∀x,x∈ns↔∃n∈nds zs,n.par=k∧n.nm=x) →
   (∀t' w z1 us g H',Same H H'→Dr H' t' z1→Fold z1 k→Gr H' w us z1 os k g→D.nx [some (.ref a),some (.ref t'),some (.ref o),x3,some (.int k),some (.ref w),some (.ref l),x7,x8,x9,x10,x11] H')→rd D [some (.ref a),some (.ref t),some (.ref o),x3,some (.int k),some v,some (.ref l),x7,x8,x9,x10,x11] H:=by
 obtain⟨fW,fdW,GW,mW,kW,bW⟩:=CW;obtain⟨fG,fdG,GG,mG,kG,bG⟩:=CG;have hr4:Room 4 _:=hr.mono (by decide);have hr3:Room 3 _:=hr.mono (by decide);have hu0:(CX2 P w K mg base f cL A outer s H0 E).A.units<cLine:=lt_of_le_of_lt (le_add_right _ 4) (cA hr);refine⟨_,bu (av (nV hu0) (fz (N:=["_law_node","_law_names"]) (cl:=[("_law_names",s.heap.objs.size+1)]) (k:=1) (js:=[6]) (g:=aO 0) rfl
    (LcOk.mk' ["_law_names"] rfl rfl (by decide +kernel) (by decide +kernel) ?hcl rfl (by decide +kernel)) rfl ?hj (bD (pv 2)) (λs H fp=>ao (i:=0) (show(["_law_node","_law_names"]:List Str).Nodup by decide +kernel) rfl (Or.inl rfl) (Or.inr rfl))
    (λs H fp=>PW.pt (pw_and (av jC (aH (r:=ck K) ay (pv 0) aj (λ_ _=>rfl)) aj (aB _)) (pw_and1 (av (r:=rIn K false) qf (aH (r:=ck K) ay (pv 0) aj (λ_ _=>rfl)) (pv 1) rfl)))) (λs H fp=>pv 0)) (bj ae) (aB _))
   (ah (bu (av (dU (cA hr)) (pv 5) bA (aB _)) (al (ar cq)) aR)
   (ah (au (i:=1) scC.nd rfl (Or.inr rfl) (ak GW hr4 rfl mW kW bW .nil ap (aa (pv 1) (aa (pv 4) ae))))
   (al (au (i:=5) scC.nd rfl (Or.inl rfl) (ak GG hr3 rfl mG kG bG .nil jf (aa (pv 1) (aa (pv 4) (aa (pv 2) ae)))))))) aR,?_⟩
 case hcl =>
  intro y hy;rcases mem_cons.mp hy with e|hy
  ·rw[e];rfl
  ·cases hy
 case hj =>
  intro i j x h1 h2
  match i,h1,h2 with
  |0,h1,h2 =>
   cases h1;cases h2;exact⟨rfl,Or.inr (Or.inl rfl),(show((ag fe).names.lookup ("_law_names":Str)≠some NameKind.local)by decide +kernel),by first|exact Or.inl rfl|exact Or.inr rfl⟩
  |i+1,h1,h2=>simp at h1
 intro D H a t o l k zs os v ns x3 x7 x8 x9 x10 x11 Z Zo fo k0 k1 hR hl hns q;have hol:=Zo.len;refine⟨_,rfl,o,rfl,⟨_,SqT.of Zo.tr.tup⟩,λp hp=>?_⟩;refine eN (fr:=[some (.ref l)]) os (λz=>V.ref z.1) (by omega) hp (bE (by rw[aK];exact SqT.of Zo.tr.tup)) rfl (λz=>decide (z.2.par=0)&&decide (z.2.nm∈ns)) (λz y _=>y=.ref z.1) (λ_ _ _ _ h _=>h) (λz H' kk mz s2 _ hk=>?_) (λz H' kk mz _ s2 _ hk=>?_) (λys H2 s2 hp2 hys=>?_)
 ·refine⟨_,rfl,z.1,_,_,_,rfl,rfl,SqT.of (s2 _ _ (Zo.tr.nod z mz)),at1 z.2,rfl,_,rfl,?_⟩
  by_cases e:z.2.par=0
  ·rw[show decide (V.int z.2.par=V.int 0)=true by rw[e];simp];refine cC ⟨_,rfl,z.1,_,_,_,rfl,rfl,SqT.of (s2 _ _ (Zo.tr.nod z mz)),at2 z.2,_,rfl,l,_,rfl,.inl (SqL.of (s2 _ _ hl)),rfl,?_,_,rfl,?_⟩
   ·rw[all_eq_true];intro x hx;obtain⟨y,_,rfl⟩:=mem_map.mp hx;rfl
   ·have e2:(if false=true then !inV (.str z.2.nm) (ns.map V.str)else inV (.str z.2.nm) (ns.map V.str))=(decide (z.2.par=0)&&decide (z.2.nm∈ns)):=by
     rw[if_neg (by decide),decide_eq_true e,Bool.true_and];unfold inV;rw[Bool.eq_iff_iff,any_eq_true,decide_eq_true_iff];constructor
     ·rintro⟨x,hx,h⟩;obtain⟨y,hy,rfl⟩:=mem_map.mp hx;have:y=z.2.nm:=by simpa [eqV]using h
      rw[←this];exact hy
     ·exact λh=>⟨_,mem_map.mpr ⟨_,h,rfl⟩,by simp[eqV]⟩
    rw[e2];exact hk H' (Same.refl _)
  ·rw[show decide (V.int z.2.par=V.int 0)=false by simp[e]];have h2:=hk H' (Same.refl _);rw[show(decide (z.2.par=0)&&decide (z.2.nm∈ns))=false by rw[decide_eq_false e];rfl]at h2;exact be h2
 ·exact⟨_,rfl,hk _ H' (Same.refl _) rfl⟩
 have ey:=aQ (f:=λz:Addr×Nd=>V.ref z.1) hys (λz y _ h=>h);refine⟨aA (show 0≤1000 by decide),λl2 hl2=>?_⟩;have s3:=s2.trans (af (o:=.lst []) hl2);refine⟨p,l2,_,rfl,rfl,SqL.of (af hl2 _ _ hp2),SqL.of ac,_,rfl,?_⟩;have hpl:∀{g:Int},GrS zs g→(TW.aY (nds zs++(nds os).map (TW.grN k g))↔ys=[]):=λ{g} hg=>by
  obtain⟨hg1,hg0⟩:=hg.le Z.tr.tr;rw[TW.kb Z.tr.tr Zo.tr.tr fo.t hg1 hg0,ey];constructor
  ·intro h;rw[map_eq_nil_iff,List.filter_eq_nil_iff];intro z hz hb;obtain⟨h1,h2⟩:=Bool.and_eq_true_iff.mp hb;obtain⟨n,hn,e1,e2⟩:=(hns _).mp (of_decide_eq_true h2);exact h z.2 (aw hz) (of_decide_eq_true h1) n hn e1 e2
  ·intro h m hm e n hn e1 e2;rw[map_eq_nil_iff,List.filter_eq_nil_iff]at h;obtain⟨z,hz,rfl⟩:=bn hm;exact h z hz (by rw[decide_eq_true e,decide_eq_true ((hns _).mpr ⟨n,hn,e1,e2⟩)];rfl)
 generalize upd H2 l2 (.lst [])=H3 at s3⊢
 by_cases hy:ys=[]
 ·rw[hy];refine be ?_;rcases hR with⟨w',us,g',rfl,G⟩|⟨_,g',hg,hn⟩
  ·exact q t w' zs us g' H3 s3 (Z.same s3) fo (G.same s3)
  ·exact absurd ((hpl hg).mpr hy) hn
 ·rw[decide_eq_false hy];refine cC ?_;rcases hR with⟨w',us,g',rfl,G⟩|⟨rfl,g',hg,hn⟩
  ·exact absurd ((hpl G.gr).mp G.pl) hy
  refine⟨_,rfl,.inl ⟨rfl,_,rfl,be ?_⟩⟩;have Z3:=Z.same s3;refine⟨_,rfl,_,rfl,t,k,zs,rfl,Z3.tr,k0,k1,fo,λt' ws H4 s4 tw ew=>?_⟩;have fow:Fold ws k:=Fold.of (by rw[ew];exact TW.fc Z.tr.tr fo.t);have Zo4:=(Zo.same s3).same s4;refine⟨_,rfl,_,rfl,_,rfl,t',k,o,ws,os,rfl,tw,Zo4.tr,k0,k1,fow,λg2 hg2=>?_⟩;obtain⟨hh1,hh0⟩:=hg2.le tw.tr;rw[oy Zo.tr.tr.pos];have hp2:TW.aY (nds ws++(nds os).map (TW.grN k g2)):=by
   rw[ew];rw[ew]at hh1;exact TW.dY Z.tr.tr fo.t hh1 hh0 Zo.tr.tr
  refine⟨λ_ us w' H5 s5 hw hA en=>?_,λh=>absurd hp2 h⟩;have sub:∀n∈nds ws,n∈nds zs:=λn hn=>by rw[ew]at hn;exact(TW.bi.mp hn).1
  have hwl:ws.length≤8:=by
   have h1:ws.length=(nds ws).length:=(aq ws).symm;rw[h1,ew,←lj,aq];exact le_trans (length_filter_le _ _) Z.len
  exact q t' w' ws us g2 H5 ((s3.trans s4).trans s5) ⟨tw.same s5,λn hn=>Z.ok n (sub n hn),λn hn=>Z.lt n (sub n hn),hwl⟩ fow ⟨hw,hA,en,hp2,hg2⟩
end
structure Hv(H:Hp)(t o w:Addr)(zs os us:ZN)(k g:Int):Prop where
 t:Dr H t zs
 o:Dr H o os
 fo:Fold zs k
 k0:0≤k
 k1:k≤60
 g:Gr H w us zs os k g
theorem Hv.same{H H':Hp}{t o w:Addr}{zs os us:ZN}{k g:Int}(h:Hv H t o w zs os us k g)(s:Same H H'):Hv H' t o w zs os us k g:=⟨h.t.same s,h.o.same s,h.fo,h.k0,h.k1,h.g.same s⟩
theorem Hv.tree{H:Hp}{t o w:Addr}{zs os us:ZN}{k g:Int}(h:Hv H t o w zs os us k g):TW.Tree1 (nds zs++(nds os).map (TW.grN k g)):=by
 obtain⟨h1,h0⟩:=h.g.gr.le h.t.tr.tr;exact TW.lm h.t.tr.tr h.o.tr.tr h.fo.t h1 h0 h.g.pl
theorem Hv.len{H:Hp}{t o w:Addr}{zs os us:ZN}{k g:Int}(h:Hv H t o w zs os us k g):us.length=zs.length+os.length:=by
 have:=congrArg length h.g.en
 rwa [aq,length_append,length_map,aq,aq]at this
theorem Hv.w{H:Hp}{t o w:Addr}{zs os us:ZN}{k g:Int}(h:Hv H t o w zs os us k g):Tre H w us:=⟨h.g.tup,h.g.at',by rw[h.g.en];exact h.tree,by have:=h.len;have:=h.t.len;have:=h.o.len;omega⟩
abbrev cσ(a t o:Addr)(x3:Option V)(k:Int)(w:Addr)(x6 x7 x8 x9 x10 x11:Option V):St:=[some (.ref a),some (.ref t),some (.ref o),x3,some (.int k),some (.ref w),x6,x7,x8,x9,x10,x11]
abbrev R8(A:Around)(s:Shared)(f cL:Addr):=Room 8 (A.deeper (PyProof.Rows.envOfC "law" (ag fe) s.heap.objs.size f (.ref cL)))
theorem yc{zs:ZN}{g b:Int}(T:TW.Tree1 (nds zs))(h:GrS zs g)(hb:GrI (0::nums zs) (0::nums zs).length b):b=g:=by
 obtain⟨h1,h0⟩:=h.le T;obtain⟨⟨i,hi,ei⟩,hall⟩:=hb;have hmem:∀x∈(0:Int)::nums zs,x≤b:=λx hx=>by
  obtain⟨j,hj,ej⟩:=mem_iff_getElem.mp hx;exact hall j x hj (by rw[getElem?_eq_getElem hj,ej])
 have b1:b≤g:=by
  rcases mem_cons.mp (mem_of_getElem? ei)with e|h
  ·omega
  ·obtain⟨z,hz,e⟩:=mem_map.mp h;have:=h1 z.2 (aw hz);have e':z.2.num=b:=e;omega
 have b2:g≤b:=by
  rcases h with⟨_,rfl⟩|⟨⟨j,_,ej⟩,_⟩
  ·exact hmem 0 mem_cons_self
  ·exact hmem g (mem_cons_of_mem _ (mem_of_getElem? ej))
 omega
section
variable{P:Program}{w:World}{K:PySem.W.Frag}{mg:Str→Option Value}{base:Heap}{f cL:Addr}{A:Around}{outer:List Env}{s:Shared}{H0:Hp}{E:XK}
theorem c7(T:Txt mg)(hr:R8 A s f cL):
  ∃rd,PS (CX2 P w K mg base f cL A outer s H0 E) (cS 7) rd∧∀(D:Ends)(H:Hp)(a t o p:Addr)(k g:Int)(zs os us:ZN)(x3 x6 x7 x8 x9 x10 x11:Option V),Hv H t o p zs os us k g →
   (∀H',Same H H'→D.nx (cσ a t o x3 k p x6 (some (.int g)) x8 x9 x10 x11) H')→rd D (cσ a t o x3 k p x6 x7 x8 x9 x10 x11) H:=by
 refine⟨_,au (i:=7) scC.nd rfl (Or.inr rfl) (am (qX rfl) rfl T.max boot_max (aa (aM eG (bj (aa aj ae)) (ce (N:=["_law_node"]) (cl:=[]) (k:=1) (js:=[]) (g:=aO 0) rfl (cf rfl (by decide +kernel) (by decide +kernel) (by decide +kernel)) rfl (λi j x h=>by simp at h) (bD (pv 1)) (λs H fp=>ao (i:=0) (show(["_law_node"]:List Str).Nodup by decide +kernel) rfl (Or.inl rfl) (Or.inr rfl))
    (λs H fp=>aH (r:=ck K) ay (pv 0) aj (λ_ _=>rfl)))) ae)),?_⟩
 intro D H a t o p k g zs os us x3 x6 x7 x8 x9 x10 x11 Z q;have hl:=Z.t.len;refine⟨aA (show 1≤1000 by decide),λl0 hl0=>?_⟩;have s1:=af (o:=.lst [.int 0]) hl0;have g1:upd H l0 (.lst [.int 0]) l0=some (.lst [.int 0]):=ac;generalize upd H l0 (.lst [.int 0])=H1 at s1 g1⊢;have Z1:=(Z.same s1).t;refine⟨_,rfl,t,rfl,⟨_,SqT.of Z1.tr.tup⟩,λp hp=>?_⟩;refine bH (fr:=[]) zs (λz=>V.ref z.1) (by omega) hp (bE (by rw[aK];exact SqT.of Z1.tr.tup)) rfl (λz y _=>y=.int z.2.num) (λ_ _ _ _ h _=>h) (λz H' kk mz s2 _ hk=>?_) (λys H2 s2 hp2 hys=>?_)
 ·exact⟨_,rfl,z.1,_,_,_,rfl,rfl,SqT.of (s2 _ _ (Z1.tr.nod z mz)),at0 z.2,hk _ H' (Same.refl _) rfl⟩
 have ey:=aQ (f:=λz:Addr×Nd=>V.int z.2.num) hys (λz y _ h=>h);have e:ys=(nums zs).map V.int:=by rw[ey];unfold nums;rw[map_map];rfl
 rw[e]at hp2;refine⟨l0,p,[.int 0],_,rfl,rfl,s2 _ _ g1,hp2,aA (by rw[length_map,gJ];show 1+_≤1000;omega),λl hll=>?_⟩;have s3:=af (o:=.lst ([.int 0]++(nums zs).map V.int)) hll;refine⟨l,0::nums zs,rfl,ac,(λh=>by cases h),λb hb=>?_⟩;rw[yc Z.t.tr.tr Z.g.gr hb];exact q _ ((s1.trans s2).trans s3)
theorem c8(hr:R8 A s f cL)(CP:Has P w K mg base 2 "path_of" ["tree","number"] jq):
  ∃rd,PS (CX2 P w K mg base f cL A outer s H0 E) (cS 8) rd∧∀(D:Ends)(H:Hp)(a t o p:Addr)(k g:Int)(zs os us:ZN)(x3 x6 x7 x8 x9 x10 x11:Option V),Hv H t o p zs os us k g →
   (∀pa pk H',Same H H'→TW.PathTo (nds zs) k pk→H' pa=some (.tup (pk.map V.str))→D.nx (cσ a t o x3 k p x6 x7 (some (.ref pa)) x9 x10 x11) H')→rd D (cσ a t o x3 k p x6 x7 x8 x9 x10 x11) H:=by
 obtain⟨fP,fdP,GP,mP,kP,bP⟩:=CP;have hr2:Room 2 _:=hr.mono (by decide);refine⟨_,au (i:=8) scC.nd rfl (Or.inr rfl) (rc (av eD (pv 4) aj (aB _)) (ak GP hr2 rfl mP kP bP .nil ap (aa (pv 1) (aa (pv 4) ae))) (bq ae)),?_⟩;intro D H a t o p k g zs os us x3 x6 x7 x8 x9 x10 x11 Z q;refine⟨_,rfl,rfl,_,rfl,?_⟩;rcases Z.fo with e|⟨z,hz,e,_⟩
 ·rw[show(!decide (V.int k=V.int 0))=false by rw[e];simp];refine be ⟨aA (show 0≤1000 by decide),λpa hpa=>?_⟩;exact q pa [] _ (af hpa) (by rw[e];exact .top) ac
 ·have h1:=Z.t.tr.tr.pos z.2 (aw hz);rw[show(!decide (V.int k=V.int 0))=true by rw[decide_eq_false (λh=>by injection h with h;omega)];rfl];obtain⟨pk,hpk⟩:=TW.PathTo.ex Z.t.tr.tr (aw hz);rw[e]at hpk;exact cC ⟨_,rfl,_,rfl,t,k,zs,pk,rfl,Z.t.tr,by omega,Z.k1,⟨z,hz,e⟩,hpk,λt' H' s' ht'=>q t' pk H' s' hpk ht'⟩
end
def wq(K:PySem.W.Frag):R2:=λx y H Q=>(∃a b ys,x=.ref a∧y=.ref b∧SqT K H a []∧SqT K H b ys∧Q (.ref b) H)∨oJ K x y H Q
theorem ul{K:PySem.W.Frag}{H:Hp}{Q:VK}{pa t:Addr}{pk p:List Str}(h1:H pa=some (.tup (pk.map V.str)))(h2:H t=some (.tup (p.map V.str)))(hl:pk.length+p.length≤1000)(q:∀tt H',Same H H'→H' tt=some (.tup ((pk++p).map V.str))→Q (.ref tt) H'):wq K (.ref pa) (.ref t) H Q:=by
 by_cases e:pk=[]
 ·subst e;exact .inl ⟨pa,t,_,rfl,rfl,SqT.of h1,SqT.of h2,q t H (Same.refl _) h2⟩
 ·refine .inr ⟨pa,t,_,_,rfl,rfl,SqT.of h1,SqT.of h2,(λh=>e (map_eq_nil_iff.mp h)),aA (by rw[length_map,length_map];exact hl),λh=>?_,λ_ tt htt=>?_⟩
  ·have:=map_eq_nil_iff.mp h;subst this;exact q pa H (Same.refl _) (by rw[append_nil];exact h1)
  ·exact q tt _ (af htt) (by rw[ac,map_append])
structure Due(H:Hp)(l:Addr)(zs os:ZN)(pk:List Str)(cs:List Cv):Prop where
 lst:H l=some (.lst (cs.map λc=>V.ref c.a))
 at':∀c∈cs,iq H c
 nd:(cs.map (·.p)).Nodup
 len:cs.length<64
 mem:∀p v,(∃c∈cs,c.p=p∧c.v=v)↔∃st,(TW.ShN (nds zs) p st∨∃r,p=pk++r∧TW.ShN (nds os) r st)∧v=.str (stT st)
theorem Due.same{H H':Hp}{l:Addr}{zs os:ZN}{pk:List Str}{cs:List Cv}(h:Due H l zs os pk cs)(s:Same H H'):Due H' l zs os pk cs:=⟨s _ _ h.lst,λc hc=>⟨s _ _ (h.at' c hc).1,s _ _ (h.at' c hc).2⟩,h.nd,h.len,h.mem⟩
theorem Shw.nd{H:Hp}{t:List Nd}{cs:List Cv}(h:Shw H t cs):(cs.map (·.p)).Nodup:=by
 unfold Nodup;rw[pairwise_map];exact h.up.imp λ{a b} hab e=>by rw[e,HT.cz]at hab;cases hab
theorem yd{t u:List Nd}{k g:Int}{pk:List Str}(T:TW.Tree1 t)(U:TW.Tree1 u)(W:TW.Tree1 (t++u.map (TW.grN k g)))(hk:TW.PathTo t k pk)(hg:∀n∈t,n.num≤g){r:List Str}{s1 s2:Option Int}(h1:TW.ShN t (pk++r) s1)(h2:TW.ShN u r s2):False:=by
 obtain⟨n,hn,hp,_⟩:=h1;obtain⟨m,hm,hq,_⟩:=h2;have h3:=TW.lp (g:=g) U hk hq;have h4:=U.pos m hm;rw[if_neg (by omega)]at h3;have:=TW.PathTo.key W (hp.mono λx hx=>mem_append_left _ hx) h3;have:=hg n hn;omega
section
variable{P:Program}{w:World}{K:PySem.W.Frag}{mg:Str→Option Value}{base:Heap}{f cL:Addr}{A:Around}{outer:List Env}{s:Shared}{H0:Hp}{E:XK}
theorem c9(hr:R8 A s f cL)(CS:Has P w K mg base 2 "_law_shown" ["_law_tree_here"] gO):
  ∃rd,PS (CX2 P w K mg base f cL A outer s H0 E) (cS 9) rd∧∀(D:Ends)(H:Hp)(a t o p pa:Addr)(pk:List Str)(k g:Int)(zs os us:ZN)(x3 x6 x7 x9 x10 x11:Option V),Hv H t o p zs os us k g→TW.PathTo (nds zs) k pk→H pa=some (.tup (pk.map V.str)) →
   (∀l cs H',Same H H'→Due H' l zs os pk cs→D.nx (cσ a t o x3 k p x6 x7 (some (.ref pa)) (some (.ref l)) x10 x11) H')→rd D (cσ a t o x3 k p x6 x7 (some (.ref pa)) x9 x10 x11) H:=by
 obtain⟨fS,fdS,GS,mS,kS,bS⟩:=CS;have hr2:Room 2 _:=hr.mono (by decide);refine⟨_,au (i:=9) scC.nd rfl (Or.inl rfl) (aM eG (ak GS hr2 rfl mS kS bS .nil ap (aa (pv 1) ae))
   (ce (N:=["_law_path_here","_law_stamp","_law_ahead"]) (cl:=[("_law_ahead",s.heap.objs.size+3)]) (k:=2) (js:=[8]) (g:=rh K 2 (fY (aO 0) (fY (aO 1) rf))) rfl
    (LcOk.mk' ["_law_ahead"] rfl rfl (by decide +kernel) (by decide +kernel) ?hcl rfl (by decide +kernel)) rfl ?hj (cP (ak GS hr2 rfl mS kS bS .nil ap (aa (pv 2) ae)))
    (λs H fp=>gR (n:=2) rfl (bo (ao (i:=0) (show(["_law_path_here","_law_stamp","_law_ahead"]:List Str).Nodup by decide +kernel) rfl (Or.inl rfl) (Or.inr rfl)) (bo (ao (i:=1) (show(["_law_path_here","_law_stamp","_law_ahead"]:List Str).Nodup by decide +kernel) rfl (Or.inl rfl) (Or.inr rfl)) eU)))
    (λs H fp=>bq (aa (aM (r:=wq K) (OpR.or lT iw) (pv 2) (pv 0)) (aa (pv 1) ae))))),?_⟩
 case hcl =>
  intro y hy;rcases mem_cons.mp hy with e|hy
  ·rw[e];rfl
  ·cases hy
 case hj =>
  intro i j x h1 h2
  match i,h1,h2 with
  |0,h1,h2 =>
   cases h1;cases h2;exact⟨rfl,Or.inr (Or.inl rfl),(show((ag fe).names.lookup ("_law_ahead":Str)≠some NameKind.local)by decide +kernel),by first|exact Or.inl rfl|exact Or.inr rfl⟩
  |i+1,h1,h2=>simp at h1
 intro D H a t o p pa pk k g zs os us x3 x6 x7 x9 x10 x11 Z hpk hpa q;have hzl:=Z.t.len;have hol:=Z.o.len;refine⟨_,rfl,t,zs,rfl,Z.t.tr,λn hn=>eS (Z.t.ok n hn).2.2.2,λl1 cs1 H1 s1 hl1 n1 S1=>?_⟩;have Z1:=Z.same s1;refine⟨_,rfl,o,os,rfl,Z1.o.tr,λn hn=>eS (Z.o.ok n hn).2.2.2,λl2 cs2 H2 s2 hl2 n2 S2=>?_⟩;refine⟨l2,rfl,⟨_,SqL.of hl2⟩,λr hr0=>?_⟩;refine mx (fr:=[some (.ref pa)]) cs2 (λc=>V.ref c.a) (by omega) hr0 (dW (SqL.of hl2)) ⟨_,rfl,rfl⟩ (λc y H'=>∃d:Cv,y=.ref d.a∧d.a≠r∧d.t≠r∧iq H' d∧d.v=c.v∧d.p=pk++c.p) (λc y H H' h ex=>?_) (λc σ0 H' kk hσ mc s3 hpl hk=>?_) (λys H3 s3 hp3 hys=>?_)
 ·obtain⟨d,e,n1,n2,⟨h1,h2⟩,h3⟩:=h;exact⟨d,e,n1,n2,⟨ex _ _ n1 h1,ex _ _ n2 h2⟩,h3⟩
 ·obtain⟨y0,y1,rfl⟩:=kX hσ;obtain⟨c1,c2⟩:=S2.at' c mc;have hcl:pk.length+c.p.length≤1000:=by
   obtain⟨st,⟨n,hn,hp,_⟩,_⟩:=(S2.mem c.p c.v).mp ⟨c,mc,rfl,rfl⟩;have a1:=TW.PathTo.len Z.o.tr.tr hp;have a2:=TW.PathTo.len Z.t.tr.tr hpk;rw[aq]at a1 a2;omega
  refine⟨c.a,_,rfl,SqT.of (s3 _ _ c1),rfl,_,_,rfl,_,_,rfl,rfl,?_⟩;refine⟨_,rfl,_,rfl,?_⟩;refine ul ((s1.trans (s2.trans s3)) _ _ hpa) (s3 _ _ c2) hcl λtt H4 s4 htt=>?_;refine⟨_,rfl,le2,λq1 hq1=>?_⟩;have s5:=af (o:=.tup [.ref tt,c.v]) hq1;have hpl4:∃ys,H4 r=some (.lst ys):=let⟨ys,e⟩:=hpl;⟨ys,s4 _ _ e⟩;have ntp:tt≠r:=λe=>by obtain⟨ys,e'⟩:=hpl4;rw[←e,htt]at e';cases e'
  exact hk _ _ _ ⟨[some (.ref c.t),some c.v],rfl,rfl⟩ (s4.trans s5) ⟨⟨q1,tt,pk++c.p,c.v⟩,rfl,cJ hpl4 hq1,ntp,⟨ac,s5 _ _ htt⟩,rfl,rfl⟩
 ·obtain⟨bs,e1,e2,e3⟩:=cw (val:=λc:Cv=>V.ref c.a) (S:=λ(c d:Cv)=>iq H3 d∧d.v=c.v∧d.p=pk++c.p) hys (λz y _ ⟨c,e,_,_,h1,h2,h3⟩=>⟨c,e,h1,h2,h3⟩);have s23:=s2.trans s3;have hbl:bs.length=cs2.length:=by rw[←e1,length_map]
  have hbm:∀b∈bs,b.1∈cs2:=λb hb=>by rw[←e1];exact mem_map.mpr ⟨b,hb,rfl⟩
  refine⟨l1,r,_,_,rfl,rfl,s23 _ _ hl1,hp3,aA (by rw[e2];simp only[length_map];omega),λl hl=>?_⟩;have s4:=af (o:=.lst ((cs1.map λc=>V.ref c.a)++ys)) hl;have W:=Z.tree;obtain⟨hg,_⟩:=Z.g.gr.le Z.t.tr.tr;refine q l (cs1++bs.map (·.2)) _ (s1.trans (s23.trans s4)) ⟨?_,λc hc=>?_,?_,by rw[length_append,length_map];omega,λp' v=>?_⟩
  ·rw[ac,e2,map_append,map_map];rfl
  ·rcases mem_append.mp hc with h|h
   ·exact⟨s4 _ _ (s23 _ _ (S1.at' c h).1),s4 _ _ (s23 _ _ (S1.at' c h).2)⟩
   ·obtain⟨b,hb,rfl⟩:=mem_map.mp h;exact⟨s4 _ _ (e3 b hb).1.1,s4 _ _ (e3 b hb).1.2⟩
  ·rw[map_append,nodup_append];refine⟨S1.nd,?_,λx hx y hy e=>?_⟩
   ·have:=S2.nd;rw[←e1,map_map]at this;rw[map_map];unfold Nodup at this⊢;rw[pairwise_map]at this⊢;refine this.imp_of_mem λ{a b} ha hb hab e=>hab ?_;have e':a.2.p=b.2.p:=e;rw[(e3 a ha).2.2,(e3 b hb).2.2]at e';exact List.append_cancel_left e'
   ·obtain⟨c,hc,rfl⟩:=mem_map.mp hx;obtain⟨d,hd,rfl⟩:=mem_map.mp hy;obtain⟨b,hb,rfl⟩:=mem_map.mp hd;obtain⟨st,h1,_⟩:=(S1.mem c.p c.v).mp ⟨c,hc,rfl,rfl⟩;obtain⟨st2,h2,_⟩:=(S2.mem b.1.p b.1.v).mp ⟨b.1,hbm b hb,rfl,rfl⟩;rw[e,(e3 b hb).2.2]at h1;exact yd Z.t.tr.tr Z.o.tr.tr W hpk hg h1 h2
  ·constructor
   ·rintro⟨c,hc,rfl,rfl⟩;rcases mem_append.mp hc with h|h
    ·obtain⟨st,h1,h2⟩:=(S1.mem c.p c.v).mp ⟨c,h,rfl,rfl⟩;exact⟨st,.inl h1,h2⟩
    ·obtain⟨b,hb,rfl⟩:=mem_map.mp h;obtain⟨st,h1,h2⟩:=(S2.mem b.1.p b.1.v).mp ⟨b.1,hbm b hb,rfl,rfl⟩;exact⟨st,.inr ⟨b.1.p,(e3 b hb).2.2,h1⟩,by rw[(e3 b hb).2.1];exact h2⟩
   ·rintro⟨st,h|⟨r',rfl,h⟩,rfl⟩
    ·obtain⟨c,hc,h1,h2⟩:=(S1.mem p' _).mpr ⟨st,h,rfl⟩;exact⟨c,mem_append_left _ hc,h1,h2⟩
    ·obtain⟨c,hc,h1,h2⟩:=(S2.mem r' _).mpr ⟨st,h,rfl⟩;rw[←e1]at hc;obtain⟨b,hb,rfl⟩:=mem_map.mp hc;exact⟨b.2,mem_append_right _ (mem_map.mpr ⟨b,hb,rfl⟩),by rw[(e3 b hb).2.2,h1],by rw[(e3 b hb).2.1,h2]⟩
end
theorem Hv.g12{H:Hp}{t o w:Addr}{zs os us:ZN}{k g:Int}(h:Hv H t o w zs os us k g):g≤12:=by
 rcases h.g.gr with⟨_,e⟩|⟨⟨i,_,e⟩,_⟩
 ·omega
 ·obtain⟨z,hz,ez⟩:=mem_map.mp (mem_of_getElem? e);have:=h.t.lt z.2 (aw hz);have ez':z.2.num=g:=ez;omega
theorem Hv.ok{H:Hp}{t o w:Addr}{zs os us:ZN}{k g:Int}(h:Hv H t o w zs os us k g):∀n∈nds us,ip n:=λn hn=>by
 rw[h.g.en]at hn;rcases mem_append.mp hn with h1|h1
 ·exact h.t.ok n h1
 ·obtain⟨m,hm,rfl⟩:=mem_map.mp h1;have a:=h.o.ok m hm;have b:=h.o.lt m hm;have c:=h.g12;obtain⟨_,d⟩:=h.g.gr.le h.t.tr.tr;have a1:=a.1;exact⟨(show 1≤m.num+g by omega),(show m.num+g≤60 by omega),a.2.2.1,a.2.2.2⟩
def vT(K:PySem.W.Frag):V→Option Int→Option Int→Hp→VK→Prop:=λx lo hi H Q=>nr K x lo hi H Q∨∃a xs,x=.ref a∧SqT K H a xs∧HT.sIx xs.length 0 lo=0∧HT.sIx xs.length xs.length hi=xs.length∧Q (.ref a) H
theorem vU{K:PySem.W.Frag}{H:Hp}{Q:VK}{p:Addr}{us:ZN}{n:Nat}(h:H p=some (.tup (aI us)))(hn:n≤us.length)(q:∀p' H',Same H H'→H' p'=some (.tup (aI (us.take n)))→Q (.ref p') H'):vT K (.ref p) none (some (n:Int)) H Q:=by
 by_cases e:n=us.length
 ·refine .inr ⟨p,_,rfl,SqT.of h,HT.cY _ _,by rw[HT.cx,aD];omega,q p H (Same.refl _) ?_⟩;rw[h,take_of_length_le (by omega)]
 ·refine .inl ⟨p,_,rfl,SqT.of h,(λhh=>?_),λp' hp'=>q p' _ (af hp') ?_⟩
  ·have h2:=hh.2;rw[HT.cx,aD]at h2;omega
  ·rw[ac];unfold gh;rw[HT.cY,HT.cx,aD,List.drop_zero,Nat.sub_zero,min_eq_left hn];rw[←aK,←aK,map_take]
theorem vV{K:PySem.W.Frag}{H:Hp}{Q:VK}{p:Addr}{us:ZN}{n:Nat}(h:H p=some (.tup (aI us)))(hn:n≤us.length)(q:∀p' H',Same H H'→H' p'=some (.tup (aI (us.drop n)))→Q (.ref p') H'):vT K (.ref p) (some (n:Int)) none H Q:=by
 by_cases e:n=0
 ·subst e;exact .inr ⟨p,_,rfl,SqT.of h,by rw[HT.cx,aD];omega,HT.cY _ _,q p H (Same.refl _) h⟩
 ·by_cases e0:us.length=0
  ·omega
  ·refine .inl ⟨p,_,rfl,SqT.of h,(λhh=>?_),λp' hp'=>q p' _ (af hp') ?_⟩
   ·have h2:=hh.1;rw[HT.cx,aD]at h2;omega
   ·rw[ac];unfold gh;rw[HT.cY,HT.cx,aD,min_eq_left hn];rw[←aK,←aK,take_of_length_le (by rw[length_drop,length_map];omega),map_drop]
section
variable{P:Program}{w:World}{K:PySem.W.Frag}{mg:Str→Option Value}{base:Heap}{f cL:Addr}{A:Around}{outer:List Env}{s:Shared}{H0:Hp}{E:XK}
theorem c10(T:Txt mg)(hr:R8 A s f cL)(CS:Has P w K mg base 2 "_law_shown" ["_law_tree_here"] gO)(CI:Has P w K mg base 4 "is_tree" ["thing"] dq):
  ∃rd,PS (CX2 P w K mg base f cL A outer s H0 E) (cS 10) rd∧∀(D:Ends)(H:Hp)(a t o p ld:Addr)(pk:List Str)(cs:List Cv)(k g:Int)(zs os us:ZN)(x3 x6 x7 x8 x10 x11:Option V),Hv H t o p zs os us k g→TW.PathTo (nds zs) k pk→Due H ld zs os pk cs →
   (∀H',Same H H'→D.nx (cσ a t o x3 k p x6 x7 x8 (some (.ref ld)) x10 x11) H')→rd D (cσ a t o x3 k p x6 x7 x8 (some (.ref ld)) x10 x11) H:=by
 obtain⟨fS,fdS,GS,mS,kS,bS⟩:=CS;obtain⟨fI,fdI,GI,mI,kI,bI⟩:=CI;have hr2:Room 2 _:=hr.mono (by decide);have hr4:Room 4 _:=hr.mono (by decide);refine⟨_,bu (PW.pt (pw_or (av dh (ak GI hr4 rfl mI kI bI .nil ap (aa (pv 5) ae)) cq (aB _))
   (pw_or (av (dU (cA hr)) (ak GS hr2 rfl mS kS bS .nil ap (aa (pv 5) ae)) (am (cN (la hr)) rfl T.sorted boot_sorted (aa (pv 9) ae)) (aB _))
   (pw_or1 (av (dU (cA hr)) (cG (r:=vT K) (SlR.or eE dQ) (pv 5) dM (cR (am aC rfl T.len boot_len (aa (pv 1) ae)))) (pv 1) (aB _)))))) (al (ar cq)) aR,?_⟩
 intro D H a t o p ld pk cs k g zs os us x3 x6 x7 x8 x10 x11 Z hpk hd q;have hul:=Z.w.len;refine⟨_,rfl,p,us,rfl,Z.w.tup,Z.w.nod,by omega,Z.ok,λb H1 hb s1=>?_⟩;have:b=true:=hb.mpr Z.w.tr.toTree;subst this;have Z1:=Z.same s1;refine⟨true,true,rfl,rfl,_,rfl,be ?_⟩;refine⟨_,rfl,p,us,rfl,Z1.w,λn hn=>eS (Z.ok n hn).2.2.2,λl2 cs2 H2 s2 hl2 n2 S2=>?_⟩;have hd2:=(hd.same s1).same s2;have hfl:∀c∈cs,∃x,c.v=.str x:=λc hc=>by
  obtain⟨st,_,e⟩:=(hd.mem c.p c.v).mp ⟨c,hc,rfl,rfl⟩;exact⟨_,e⟩
 refine⟨_,rfl,ld,cs,rfl,hd2.lst,hd2.at',λc hc=>?_,hd.nd,hd.len,λds hpm hup l3 hl3=>?_⟩
 ·obtain⟨x,e⟩:=hfl c hc;rw[e];exact⟨rfl,by simp[eqV]⟩
 have s3:=af (o:=.lst (ds.map λz=>V.ref z.a)) hl3;have AL:bX (upd H2 l3 (.lst (ds.map λz=>V.ref z.a))) (cs2.map λc=>V.ref c.a) (ds.map λc=>V.ref c.a):=by
  refine hV (S2.same s3).at' (λc hc=>(hd2.same s3).at' c (hpm.mem_iff.mp hc)) S2.flat S2.up hup λp' v=>?_;have h1:(∃c∈ds,c.p=p'∧c.v=v)↔∃c∈cs,c.p=p'∧c.v=v:=⟨λ⟨c,hc,h⟩=>⟨c,hpm.mem_iff.mp hc,h⟩,λ⟨c,hc,h⟩=>⟨c,hpm.mem_iff.mpr hc,h⟩⟩;rw[h1,S2.mem,hd.mem,Z.g.en];exact⟨λ⟨st,h,e⟩=>⟨st,(TW.tU Z.t.tr.tr Z.o.tr.tr Z.tree hpk).mp h,e⟩,λ⟨st,h,e⟩=>⟨st,(TW.tU Z.t.tr.tr Z.o.tr.tr Z.tree hpk).mpr h,e⟩⟩
 refine .inr ⟨l2,l3,_,_,rfl,rfl,AL,.inl ⟨s3 _ _ hl2,ac⟩,_,rfl,be ?_⟩;have s13:=s1.trans (s2.trans s3);generalize upd H2 l3 (.lst (ds.map λz=>V.ref z.a))=H3 at s13⊢;have Z3:=Z.same s13;have hlen:=Z.len;refine⟨_,rfl,_,rfl,t,_,rfl,.inr (SqT.of Z3.t.tr.tup),_,rfl,?_⟩;rw[aD];refine vU Z3.w.tup (by omega) λp' H4 s4 hp'=>?_;have Z4:=Z3.same s4;have ALT:bX H4 (aI (us.take zs.length)) (aI zs):=ic (by
  have e:nds (us.take zs.length)=(nds us).take zs.length:=by unfold nds;rw[map_take]
  rw[e,Z.g.en,List.take_append_of_le_length (by rw[aq];exact le_refl _),take_of_length_le (by rw[aq];exact le_refl _)]) (λz hz=>Z4.w.nod z (List.mem_of_mem_take hz)) Z4.t.tr.nod
 exact⟨_,rfl,.inr ⟨p',t,_,_,rfl,rfl,ALT,.inr ⟨hp',Z4.t.tr.tup⟩,_,rfl,be (q H4 (s13.trans s4))⟩⟩
theorem c11(T:Txt mg)(hr:R8 A s f cL):
  ∃rd,PS (CX2 P w K mg base f cL A outer s H0 E) (cS 11) rd∧∀(D:Ends)(H:Hp)(a t o p:Addr)(k g:Int)(zs os us:ZN)(x3 x6 x8 x9 x10 x11:Option V),Hv H t o p zs os us k g →
   (∀H',Same H H'→D.nx (cσ a t o x3 k p x6 (some (.int g)) x8 x9 x10 x11) H')→rd D (cσ a t o x3 k p x6 (some (.int g)) x8 x9 x10 x11) H:=by
 refine⟨_,bu (av (dU (cA hr)) (ce (N:=["_law_node"]) (cl:=[]) (k:=1) (js:=[]) (g:=aO 0) rfl (cf rfl (by decide +kernel) (by decide +kernel) (by decide +kernel)) rfl (λi j x h=>by simp at h) (bD (cG (r:=vT K) (SlR.or eE dQ) (pv 5) (cR (am aC rfl T.len boot_len (aa (pv 1) ae))) dM)) (λs H fp=>ao (i:=0) (show(["_law_node"]:List Str).Nodup by decide +kernel) rfl (Or.inl rfl) (Or.inr rfl))
    (λs H fp=>aH (r:=ck K) ay (pv 0) aj (λ_ _=>rfl)))
   (ce (N:=["_law_node","_law_by"]) (cl:=[("_law_by",s.heap.objs.size+2)]) (k:=1) (js:=[7]) (g:=aO 0) rfl
    (LcOk.mk' ["_law_by"] rfl rfl (by decide +kernel) (by decide +kernel) ?hcl rfl (by decide +kernel)) rfl ?hj (bD (pv 2)) (λs H fp=>ao (i:=0) (show(["_law_node","_law_by"]:List Str).Nodup by decide +kernel) rfl (Or.inl rfl) (Or.inr rfl))
    (λs H fp=>aM bp (aH (r:=ck K) ay (pv 0) aj (λ_ _=>rfl)) (pv 1))) (aB _)) (al (ar cq)) aR,?_⟩
 case hcl =>
  intro y hy;rcases mem_cons.mp hy with e|hy
  ·rw[e];rfl
  ·cases hy
 case hj =>
  intro i j x h1 h2
  match i,h1,h2 with
  |0,h1,h2 =>
   cases h1;cases h2;exact⟨rfl,Or.inr (Or.inl rfl),(show((ag fe).names.lookup ("_law_by":Str)≠some NameKind.local)by decide +kernel),by first|exact Or.inl rfl|exact Or.inr rfl⟩
  |i+1,h1,h2=>simp at h1
 intro D H a t o p k g zs os us x3 x6 x8 x9 x10 x11 Z q;have hlen:=Z.len;have hol:=Z.o.len;refine⟨_,rfl,_,rfl,t,_,rfl,.inr (SqT.of Z.t.tr.tup),_,rfl,?_⟩;rw[aD];refine vV Z.w.tup (by omega) λp' H1 s1 hp'=>?_;have Z1:=Z.same s1;have hdl:(us.drop zs.length).length=os.length:=by rw[length_drop];omega
 refine⟨p',rfl,⟨_,SqT.of hp'⟩,λr hr0=>?_⟩;refine bH (fr:=[]) (us.drop zs.length) (λz=>V.ref z.1) (by omega) hr0 (bE (by rw[aK];exact SqT.of hp')) rfl (λz y _=>y=.int z.2.num) (λ_ _ _ _ h _=>h) (λz H' kk mz s2 _ hk=>?_) (λys H2 s2 hp2 hys=>?_)
 ·exact⟨_,rfl,z.1,_,_,_,rfl,rfl,SqT.of (s2 _ _ (Z1.w.nod z (List.mem_of_mem_drop mz))),at0 z.2,hk _ H' (Same.refl _) rfl⟩
 have Z2:=Z1.same s2;refine⟨_,rfl,o,rfl,⟨_,SqT.of Z2.o.tr.tup⟩,λr2 hr2=>?_⟩;refine bH (fr:=[some (.int g)]) os (λz=>V.ref z.1) (by omega) hr2 (bE (by rw[aK];exact SqT.of Z2.o.tr.tup)) rfl (λz y _=>y=.int (z.2.num+g)) (λ_ _ _ _ h _=>h) (λz H' kk mz s3 _ hk=>?_) (λys2 H3 s3 hp3 hys2=>?_)
 ·exact⟨_,rfl,z.1,_,_,_,rfl,rfl,SqT.of (s3 _ _ (Z2.o.tr.nod z mz)),at0 z.2,_,rfl,_,_,rfl,rfl,hk _ H' (Same.refl _) rfl⟩
 have e1:=aQ (f:=λz:Addr×Nd=>V.int z.2.num) hys (λz y _ h=>h);have e2:=aQ (f:=λz:Addr×Nd=>V.int (z.2.num+g)) hys2 (λz y _ h=>h);have ee:ys=ys2:=by
  have a1:ys=(nds (us.drop zs.length)).map λn=>V.int n.num:=by rw[e1];unfold nds;rw[map_map];rfl
  have a2:ys2=(nds os).map λn=>V.int (n.num+g):=by rw[e2];unfold nds;rw[map_map];rfl
  have e:nds (us.drop zs.length)=(nds us).drop zs.length:=by unfold nds;rw[map_drop]
  rw[a1,a2,e,Z.g.en,List.drop_append_of_le_length (by rw[aq];exact le_refl _),List.drop_of_length_le (by rw[aq];exact le_refl _),nil_append,map_map];rfl
 have fl:ys.all cm=true:=by
  rw[all_eq_true];intro x hx;rw[e1]at hx;obtain⟨z,_,rfl⟩:=mem_map.mp hx;rfl
 rw[←ee]at hp3;exact .inr ⟨r,r2,_,_,rfl,rfl,dc fl,.inl ⟨s3 _ _ hp2,hp3⟩,_,rfl,be (q H3 (s1.trans (s2.trans s3)))⟩
end
theorem jr:∀{L M:List (List Str×Int)},L.Pairwise (λa b=>HT.bZ a.1 b.1=true)→M.Pairwise (λa b=>HT.bZ a.1 b.1=true)→(∀x,x∈L↔x∈M)→L=M
 |[],[],_,_,_=>rfl
 |[],d::M,_,_,h=>nomatch (h d).mpr mem_cons_self
 |c::L,[],_,_,h=>nomatch (h c).mp mem_cons_self
 |c::L,d::M,h1,h2,h=>by
  obtain⟨a1,a2⟩:=pairwise_cons.mp h1;obtain⟨b1,b2⟩:=pairwise_cons.mp h2;have irr:∀{p:List Str},HT.bZ p p=true→False:=λ{p} h=>by rw[HT.cz]at h;cases h
  have e:c=d:=by
   rcases mem_cons.mp ((h c).mp mem_cons_self)with e|h3
   ·exact e
   ·rcases mem_cons.mp ((h d).mpr mem_cons_self)with e|h4
    ·exact e.symm
    ·exact(irr (HT.gw (b1 c h3) (a1 d h4))).elim
  subst e;rw[jr a2 b2 λx=>⟨λhx=>?_,λhx=>?_⟩]
  ·rcases mem_cons.mp ((h x).mp (mem_cons_of_mem _ hx))with e|h3
   ·rw[e]at hx;exact(irr (a1 c hx)).elim
   ·exact h3
  ·rcases mem_cons.mp ((h x).mpr (mem_cons_of_mem _ hx))with e|h3
   ·rw[e]at hx;exact(irr (b1 c hx)).elim
   ·exact h3
structure Nw(H:Hp)(q:Addr)(us vs:ZN)(first:Int)(cs:List Cp)(g:Int→Int):Prop where
 tr:Tre H q vs
 W:∃Hc,Wl Hc us cs
 len:cs.length=us.length
 g0:g 0=0
 gj:∀(j:Nat) c,cs[j]?=some c→g c.n=first+j
 mem:∀n,n∈nds vs↔∃m∈nds us,n=TW.reG g m
 f1:1≤first
 f9:first≤9
theorem Nw.same{H H':Hp}{q:Addr}{us vs:ZN}{first:Int}{cs:List Cp}{g:Int→Int}(h:Nw H q us vs first cs g)(s:Same H H'):Nw H' q us vs first cs g:=⟨h.tr.same s,h.W,h.len,h.g0,h.gj,h.mem,h.f1,h.f9⟩
theorem Nw.ok{H:Hp}{q:Addr}{us vs:ZN}{first:Int}{cs:List Cp}{g:Int→Int}(h:Nw H q us vs first cs g)(T:TW.Tree1 (nds us))(hu:us.length≤30)(ok:∀n∈nds us,ip n):∀n∈nds vs,ip n:=λn hn=>by
 obtain⟨m,hm,rfl⟩:=(h.mem n).mp hn;obtain⟨Hc,W⟩:=h.W;obtain⟨p,hp⟩:=TW.PathTo.ex T hm;obtain⟨z,hz,rfl⟩:=bn hm;obtain⟨c,hc,_,e⟩:=(W.mem p z.2.num).mpr ⟨z,hz,rfl,hp⟩;obtain⟨j,hj,ej⟩:=mem_iff_getElem.mp hc;have h1:=h.gj j c (by rw[getElem?_eq_getElem hj,ej]);rw[e]at h1;have a:=ok _ hm;have b:=h.f1;have c:=h.f9;have d:=h.len;exact⟨(show 1≤g z.2.num by omega),(show g z.2.num≤60 by omega),a.2.2.1,a.2.2.2⟩
theorem Nw.nums{H H':Hp}{q:Addr}{us vs:ZN}{first:Int}{cs ds:List Cp}{g:Int→Int}(h:Nw H q us vs first cs g)(T:TW.Tree1 (nds us))(D:Wl H' vs ds):ds.map (λc=>V.int c.n)=(List.range us.length).map λ(j:Nat)=>V.int (first+(j:Int)):=by
 obtain⟨Hc,W⟩:=h.W;have U:=h.tr.tr;have hu:∀n∈nds us,TW.reG g n∈nds vs:=λn hn=>(h.mem _).mpr ⟨n,hn,rfl⟩;have e:ds.map (λc=>(c.p,c.n))=cs.map (λc=>(c.p,g c.n)):=by
  refine jr (by rw[pairwise_map];exact D.up) (by rw[pairwise_map];exact W.up) λx=>?_;obtain⟨p,n⟩:=x;rw[mem_map,mem_map];constructor
  ·rintro⟨d,hd,e⟩;injection e with e1 e2
   obtain⟨z',hz',ez,hp⟩:=(D.mem p n).mp ⟨d,hd,e1,e2⟩;obtain⟨m,hm,em⟩:=(h.mem _).mp (aw hz');have en:n=g m.num:=by rw[←ez,em];rfl
   obtain⟨r,hr⟩:=TW.PathTo.ex T hm;have h2:=TW.iE h.g0 hu hr;rw[←en]at h2;have ep:=TW.PathTo.uniq U hp h2;obtain⟨z,hz,rfl⟩:=bn hm;obtain⟨c,hc,c1,c2⟩:=(W.mem r z.2.num).mpr ⟨z,hz,rfl,hr⟩;exact⟨c,hc,by rw[c1,c2,ep,en]⟩
  ·rintro⟨c,hc,e⟩;injection e with e1 e2
   obtain⟨z,hz,ez,hp⟩:=(W.mem c.p c.n).mp ⟨c,hc,rfl,rfl⟩;have h2:=TW.iE h.g0 hu hp;obtain⟨z',hz',e'⟩:=bn (hu z.2 (aw hz));have en:z'.2.num=g c.n:=by rw[e',←ez];rfl
   obtain⟨d,hd,d1,d2⟩:=(D.mem c.p (g c.n)).mpr ⟨z',hz',en,h2⟩;exact⟨d,hd,by rw[d1,d2,←e1,←e2]⟩
 have e2:ds.map (λc=>V.int c.n)=cs.map (λc=>V.int (g c.n)):=by
  have:=congrArg (List.map λx:List Str×Int=>V.int x.2) e;rw[map_map,map_map]at this;exact this
 rw[e2];refine ext_getElem? λj=>?_;rw[getElem?_map,getElem?_map]
 by_cases hj:j<cs.length
 ·rw[getElem?_eq_getElem hj,getElem?_range (by rw[←h.len];exact hj)];have:=h.gj j _ (getElem?_eq_getElem hj);show some (V.int (g cs[j].n))=some (V.int (first+(j:Int)))
  rw[this]
 ·rw[getElem?_eq_none (by omega),getElem?_eq_none (by rw[length_range,←h.len];omega)];rfl
section
variable{P:Program}{w:World}{K:PySem.W.Frag}{mg:Str→Option Value}{base:Heap}{f cL:Addr}{A:Around}{outer:List Env}{s:Shared}{H0:Hp}{E:XK}
theorem c13(hr:R8 A s f cL)(CP:Has P w K mg base 2 "_law_pick" ["_law_script","_law_k","_law_many"] (fQ K))(CN:Has P w K mg base 3 "numbered_by_paths" ["tree","first"] mQ)(rest:List Stmt)(tr:TS)(pr:PSs (CX2 P w K mg base f cL A outer s H0 E) rest tr):∃rd,PSs (CX2 P w K mg base f cL A outer s H0 E) (cS 12::cS 13::rest) rd∧∀(D:Ends)(H:Hp)(a t o p:Addr)(k g:Int)(zs os us:ZN)(x3 x6 x7 x8 x9 x10 x11:Option V),dZ K H a→Hv H t o p zs os us k g →
   (∀q first vs cs h H',Same H H'→Nw H' q us vs first cs h→tr D (cσ a t o x3 k p x6 x7 x8 x9 (some (.int first)) (some (.ref q))) H')→rd D (cσ a t o x3 k p x6 x7 x8 x9 x10 x11) H:=by
 obtain⟨fP,fdP,GP,mP,kP,bP⟩:=CP;obtain⟨fN,fdN,GN,mN,kN,bN⟩:=CN;have hr2:Room 2 _:=hr.mono (by decide);have hr3:Room 3 _:=hr.mono (by decide);refine⟨_,ah (au (i:=10) scC.nd rfl (Or.inl rfl) (aM bp aj (ak GP hr2 rfl mP kP bP .nil ap (aa (pv 0) (aa aj (aa aj ae))))))
  (ah (au (i:=11) scC.nd rfl (Or.inl rfl) (ak GN hr3 rfl mN kN bN .nil ap (aa (pv 5) (aa (pv 10) ae)))) pr),?_⟩
 intro D H a t o p k g zs os us x3 x6 x7 x8 x9 x10 x11 hS Z q;refine⟨_,rfl,a,301,9,rfl,by decide,by decide,hS,λr H1 r0 r1 s1=>?_⟩;refine⟨_,_,rfl,rfl,?_⟩;refine⟨_,rfl,_,rfl,p,_,us,rfl,(Z.same s1).w,by omega,by omega,λvs t' H2 h cs Hc s2 tv W hl h0 hj hm=>?_⟩;exact q t' _ vs cs h H2 (s1.trans s2) ⟨tv,⟨Hc,W⟩,hl,h0,hj,hm,by omega,by omega⟩
theorem c14(hr:R8 A s f cL)(CS:Has P w K mg base 2 "_law_shown" ["_law_tree_here"] gO)(CI:Has P w K mg base 4 "is_tree" ["thing"] dq):
  ∃rd,PS (CX2 P w K mg base f cL A outer s H0 E) (cS 14) rd∧∀(D:Ends)(H:Hp)(a t o p r:Addr)(k g first:Int)(zs os us vs:ZN)(cs:List Cp)(h:Int→Int)(x3 x6 x7 x8 x9 x10:Option V),Hv H t o p zs os us k g→Nw H r us vs first cs h →
   (∀H',Same H H'→D.nx (cσ a t o x3 k p x6 x7 x8 x9 x10 (some (.ref r))) H')→rd D (cσ a t o x3 k p x6 x7 x8 x9 x10 (some (.ref r))) H:=by
 obtain⟨fS,fdS,GS,mS,kS,bS⟩:=CS;obtain⟨fI,fdI,GI,mI,kI,bI⟩:=CI;have hr2:Room 2 _:=hr.mono (by decide);have hr4:Room 4 _:=hr.mono (by decide);refine⟨_,bu (PW.pt (pw_or (av (dU (cA hr)) (ak GS hr2 rfl mS kS bS .nil ap (aa (pv 11) ae)) (ak GS hr2 rfl mS kS bS .nil ap (aa (pv 5) ae)) (aB _))
   (pw_or1 (av dh (ak GI hr4 rfl mI kI bI .nil ap (aa (pv 11) ae)) cq (aB _))))) (al (ar cq)) aR,?_⟩
 intro D H a t o p r k g first zs os us vs cs h x3 x6 x7 x8 x9 x10 Z N q
 have ok:=N.ok Z.w.tr Z.w.len Z.ok;refine⟨_,rfl,r,vs,rfl,N.tr,λn hn=>eS (ok n hn).2.2.2,λl1 c1 H1 s1 hl1 _ S1=>?_⟩;have Z1:=Z.same s1;refine⟨_,rfl,p,us,rfl,Z1.w,λn hn=>eS (Z.ok n hn).2.2.2,λl2 c2 H2 s2 hl2 _ S2=>?_⟩;refine .inr ⟨l1,l2,_,_,rfl,rfl,(S1.same s2).alike S2 λp' st=>TW.zd Z.w.tr N.tr.tr N.g0 N.mem,.inl ⟨s2 _ _ hl1,hl2⟩,_,rfl,be ?_⟩;have N2:=N.same (s1.trans s2);refine⟨_,rfl,r,vs,rfl,N2.tr.tup,N2.tr.nod,by have:=N.tr.len;omega,ok,λb H3 hb s3=>?_⟩;have:b=true:=hb.mpr N.tr.tr.toTree;subst this;exact⟨true,true,rfl,rfl,_,rfl,be (q H3 ((s1.trans s2).trans s3))⟩
theorem c15(T:Txt mg)(hr:R8 A s f cL)(CW:Has P w K mg base 2 "walked" ["tree"] jX):
  ∃rd,PS (CX2 P w K mg base f cL A outer s H0 E) (cS 15) rd∧∀(D:Ends)(H:Hp)(a t o p r:Addr)(k g first:Int)(zs os us vs:ZN)(cs:List Cp)(h:Int→Int)(x3 x6 x7 x8 x9:Option V),Hv H t o p zs os us k g→Nw H r us vs first cs h →
   (∀H',Same H H'→D.rt (.bl true) H')→rd D (cσ a t o x3 k p x6 x7 x8 x9 (some (.int first)) (some (.ref r))) H:=by
 obtain⟨fW,fdW,GW,mW,kW,bW⟩:=CW;have hr2:Room 2 _:=hr.mono (by decide);refine⟨_,ar (cQ (nM (cA hr)) (ce (N:=["_law_path_here","_law_number"]) (cl:=[]) (k:=2) (js:=[]) (g:=rh K 2 (fY (aO 0) (fY (aO 1) rf))) rfl (cf rfl (by decide +kernel) (by decide +kernel) (by decide +kernel)) rfl (λi j x h=>by simp at h)
    (cP (ak GW hr2 rfl mW kW bW .nil ap (aa (pv 11) ae)))
    (λs H fp=>gR (n:=2) rfl (bo (ao (i:=0) (show(["_law_path_here","_law_number"]:List Str).Nodup by decide +kernel) rfl (Or.inl rfl) (Or.inr rfl)) (bo (ao (i:=1) (show(["_law_path_here","_law_number"]:List Str).Nodup by decide +kernel) rfl (Or.inl rfl) (Or.inr rfl)) eU)))
    (λs H fp=>pv 1))
   (aS (fq rfl) rfl T.list rfl (aa (aS jP rfl T.range rfl (aa (pv 10) (aa (aM bp (pv 10) (am aC rfl T.len boot_len (aa (pv 5) ae))) ae))) ae)) (aB _)),?_⟩
 intro D H a t o p r k g first zs os us vs cs h x3 x6 x7 x8 x9 Z N q
 have hul:=Z.w.len;have hvl:=N.tr.len;have f1:=N.f1;have f9:=N.f9;refine⟨_,rfl,r,vs,rfl,N.tr,λds l H1 s1 W hdl hl=>?_⟩;refine⟨l,rfl,⟨_,SqL.of hl⟩,λr2 hr0=>?_⟩;refine mx (fr:=[]) ds (λc=>V.ref c.a) (by omega) hr0 (dW (SqL.of hl)) ⟨_,rfl,rfl⟩ (λc y _=>y=.int c.n) (λ_ _ _ _ h _=>h) (λc σ0 H' kk hσ mc s3 hpl hk=>?_) (λys H2 s2 hp2 hys=>?_)
 ·obtain⟨y0,y1,rfl⟩:=kX hσ;obtain⟨c1,c2⟩:=W.at' c mc;refine⟨c.a,_,rfl,SqT.of (s3 _ _ c1),rfl,_,_,rfl,_,_,rfl,rfl,?_⟩;exact⟨_,rfl,hk _ _ _ ⟨[some (.ref c.t),some (.int c.n)],rfl,rfl⟩ (Same.refl _) rfl⟩
 have ey:=aQ (f:=λc:Cp=>V.int c.n) hys (λz y _ h=>h);have Z2:=(Z.same s1).same s2;refine⟨_,rfl,_,rfl,_,rfl,p,_,rfl,.inr (SqT.of Z2.w.tup),_,_,rfl,rfl,_,_,rfl,λrg hrg=>?_⟩;rw[aD];have s3:=af (o:=.rng first (first+(us.length:Int))) hrg
 refine⟨rg,_,_,rfl,ac,⟨by omega,by omega,by omega,by omega⟩,by omega,λl3 hl3=>?_⟩;have e3:(first+(us.length:Int)-first).toNat=us.length:=by omega
 rw[e3];have s4:=af (o:=.lst ((List.range us.length).map λj=>V.int (first+(j:Nat)))) hl3
 have en:=N.nums Z.w.tr W;rw[ey,en]at hp2;refine .inr ⟨r2,l3,_,_,rfl,rfl,dc ?_,.inl ⟨s4 _ _ (s3 _ _ hp2),ac⟩,q _ (s1.trans (s2.trans (s3.trans s4)))⟩;rw[all_eq_true];intro x hx;obtain⟨j,_,rfl⟩:=mem_map.mp hx;rfl
end
section
variable{P:Program}{w:World}{K:PySem.W.Frag}{mg:Str→Option Value}{base:Heap}{f cL PL g fC Dd:Addr}{fd fdg fdC:FuncData}{B:Nat→Addr}
def pQ(PL:Addr)(K:PySem.W.Frag):Sp:=λvs H Q _=>∃(a:Addr) (ns:List Int),vs=[.ref a]∧SqL K H a (ns.map V.int)∧ns.length≤63∧H PL=some (.tbl #[])∧∀H',Q (.bl true) H'
theorem cI.scr{Pt a:Addr}{q:Str}{H H':Hp}{K:PySem.W.Frag}(T:eR H Pt q)(o:cI Pt H H')(h:dZ K H a):dZ K H' a:=by
 obtain⟨ns,(h|⟨u,h⟩)|h⟩:=h
 ·exact⟨ns,.inl (.inl (cI.ne T o h λps h=>by cases h))⟩
 ·exact⟨ns,.inl (.inr ⟨u,cI.ne T o h λps h=>by cases h⟩)⟩
 ·exact⟨ns,.inr h⟩
theorem ye(F:Fun K "law" "law" fe f fd)(hc:fd.code=.ref cL)(O:Tol K mg base cL PL g fC Dd fdg fdC B)(O11:One12 K B Dd 11)(CT:Has P w K mg base 3 "_law_tree" ["_law_script","_law_at","_law_most"] (gP K))(CP:Has P w K mg base 2 "_law_pick" ["_law_script","_law_k","_law_many"] (fQ K))(CC:Has P w K mg base 6 "_law_is_cut" ["_law_tree_here","_law_folder"] mX)(CW:Has P w K mg base 4 "without" ["tree","number"] ow)(CO:Has P w K mg base 2 "path_of" ["tree","number"] jq)(CS:Has P w K mg base 2 "_law_shown" ["_law_tree_here"] gO)(CI:Has P w K mg base 4 "is_tree" ["thing"] dq)(CN:Has P w K mg base 3 "numbered_by_paths" ["tree","first"] mQ)(CA:Has P w K mg base 2 "walked" ["tree"] jX)(CG:∀base',K.In base'→BmB base' mg→gF P w K mg base' 3 "grafted" ["tree","number","other"] (dI (B 11))):
  FnOk P w K mg base CX0 9 f fd ["_law_script"] (pQ PL K):=by
 have T:=O.T;refine F.okT hc scC (λvs H Q E h=>?_) (λA outer s H vs Q E hr h=>?_)
 ·obtain⟨a,ns,rfl,_⟩:=h;rfl
 ·obtain⟨a,ns,rfl,hS,hn,hPL,q⟩:=h;obtain⟨r0,p0,h0⟩:=c0 (outer:=outer) (H0:=H) (E:=E) (cL:=cL) hr CT;obtain⟨r3,p3,h3⟩:=c3 (outer:=outer) (H0:=H) (E:=E) (cL:=cL) hr CC;obtain⟨r4,p4,h4⟩:=c4 (outer:=outer) (H0:=H) (E:=E) hr O O11 CG;obtain⟨r5,p5,h5⟩:=c5 (P:=P) (w:=w) (K:=K) (mg:=mg) (base:=base) (outer:=outer) (H0:=H) (E:=E) (cL:=cL) hr;obtain⟨r6,p6,h6⟩:=c6 (outer:=outer) (H0:=H) (E:=E) (cL:=cL) hr CW (CG base O.KB O.Bm);obtain⟨r7,p7,h7⟩:=c7 (P:=P) (w:=w) (K:=K) (base:=base) (outer:=outer) (H0:=H) (E:=E) T hr;obtain⟨r8,p8,h8⟩:=c8 (outer:=outer) (H0:=H) (E:=E) (cL:=cL) hr CO;obtain⟨r9,p9,h9⟩:=c9 (outer:=outer) (H0:=H) (E:=E) (cL:=cL) hr CS;obtain⟨r10,p10,h10⟩:=c10 (outer:=outer) (H0:=H) (E:=E) (cL:=cL) T hr CS CI;obtain⟨r11,p11,h11⟩:=c11 (P:=P) (w:=w) (K:=K) (base:=base) (outer:=outer) (H0:=H) (E:=E) T hr;obtain⟨r14,p14,h14⟩:=c14 (outer:=outer) (H0:=H) (E:=E) (cL:=cL) hr CS CI;obtain⟨r15,p15,h15⟩:=c15 (outer:=outer) (H0:=H) (E:=E) (cL:=cL) T hr CA;obtain⟨r13,p13,h13⟩:=c13 (outer:=outer) (H0:=H) (E:=E) (cL:=cL) hr CP CN _ _ (ah p14 (al p15));obtain⟨r1,p1,h1⟩:=c12 (outer:=outer) (H0:=H) (E:=E) (cL:=cL) T hr CP _ _ (ah p3 (ah p4 (ah p5 (ah p6 (ah p7 (ah p8 (ah p9 (ah p10 (ah p11 p13)))))))));refine⟨_,ah p0 p1,?_⟩;have hS0:dZ K H a:=⟨ns,hS⟩;refine h0 _ H a _ _ _ _ _ _ _ _ _ _ _ hS0 λt o zs os H1 s1 Z Zo=>?_;have hS1:=hS0.same s1;refine h1 _ H1 a t zs _ _ _ _ _ _ _ _ _ _ hS1 Z λk x3 H2 s2 fo k0 k1=>?_;have Z2:=Z.same s2;refine h3 _ H2 a t k zs _ _ _ _ _ _ _ _ _ Z2 fo k0 k1 λH3 s3=>?_;have s13:=s1.trans (s2.trans s3);have TL3:eR H3 PL mY:=eZ (.start hPL) s13;have Z3:=Z2.same s3;have Zo3:=(Zo.same s2).same s3;have hS3:=hS0.same s13;refine h4 _ H3 a t o k zs os _ _ _ _ _ _ _ _ Z3 Zo3 fo k0 k1 TL3 λv H4 off TL4 hR=>?_;have Z4:=cI.dr TL3 off Z3;have Zo4:=cI.dr TL3 off Zo3;have hS4:=cI.scr TL3 off hS3;refine h5 _ H4 a t k zs _ _ _ _ _ _ _ _ _ Z4 λl nms H5 s5 hl hns=>?_;refine h6 _ H5 a t o l k zs os v nms _ _ _ _ _ _ (Z4.same s5) (Zo4.same s5) fo k0 k1 (hR.same s5) hl hns λt' p z1 us gr H6 s6 Zt fo6 G=>?_;have Z6:Hv H6 t' o p z1 os us k gr:=⟨Zt,(Zo4.same s5).same s6,fo6,k0,k1,G⟩;have hS6:=(hS4.same s5).same s6;refine h7 _ H6 a t' o p k gr z1 os us _ _ _ _ _ _ _ Z6 λH7 s7=>?_;have Z7:=Z6.same s7;refine h8 _ H7 a t' o p k gr z1 os us _ _ _ _ _ _ _ Z7 λpa pk H8 s8 hpk hpa=>?_;have Z8:=Z7.same s8;refine h9 _ H8 a t' o p pa pk k gr z1 os us _ _ _ _ _ _ Z8 hpk hpa λld cs H9 s9 hd=>?_;have Z9:=Z8.same s9;refine h10 _ H9 a t' o p ld pk cs k gr z1 os us _ _ _ _ _ _ Z9 hpk hd λH10 s10=>?_;have Z10:=Z9.same s10;refine h11 _ H10 a t' o p k gr z1 os us _ _ _ _ _ _ Z10 λH11 s11=>?_;have Z11:=Z10.same s11;have hS11:=((((hS6.same s7).same s8).same s9).same s10).same s11;refine h13 _ H11 a t' o p k gr z1 os us _ _ _ _ _ _ _ hS11 Z11 λr first vs cs2 hh H12 s12 N=>?_
  have Z12:=Z11.same s12;refine h14 _ H12 a t' o p r k gr first z1 os us vs cs2 hh _ _ _ _ _ _ Z12 N λH13 s13'=>?_
  exact h15 _ H13 a t' o p r k gr first z1 os us vs cs2 hh _ _ _ _ _ (Z12.same s13') (N.same s13') λH14 _=>q H14
end
end TK
namespace TK
open PySem PySem.W PyProof.Rows L2
theorem um{K:PySem.W.Frag}{h:Heap}{mg:Str→Option Value}{x:Str}{C:Addr}{bB:List Value}{nid:String}(X:K.In h)(hb:mg x=some (.ref C))(q:excIn K C bB nid=true):OwnCls x C bB nid mg h:=by
 have hobj:∃bm N nm q' bs hdct sn sub ab col dd k0 k1 k2 k3 k5 mN,h.get? C=some (excClassObj nm q' C N bs bm hdct sn sub ab col dd k0 k1 k2 k3 k5 nid)∧h.Ns N mN∧mN "__init__"=none∧OwnTail h bB bm:=by
  unfold excIn at q
  split at q
  case h_2=>exact absurd q (by simp)
  case h_1 d0 c0 s0 hK =>
   split at q
   case h_2=>exact absurd q (by simp)
   case h_1 C1 b1 u0 u1 u2 u3 u4 u5 e1 e2 =>
    rw[and_eq_true,and_eq_true,and_eq_true,and_eq_true,and_eq_true]at q;obtain⟨⟨⟨⟨⟨y1,y2⟩,y3⟩,g4⟩,g5⟩,y6⟩:=q;have g1:C1=C:=beq_iff_eq.mp y1;have g2:u4=nid:=beq_iff_eq.mp y2;have g3:c0.hasDel=false:=by simpa using y3
    have g6:nsIn K c0.ns "__init__"=some none:=beq_iff_eq.mp y6;clear y1 y2 y3 y6;cases c0;cases s0;dsimp only at e1 e2 g3 g5 g6;subst g1 g2 g3 e1 e2;exact⟨_,_,_,_,_,_,_,_,_,_,_,_,_,_,_,_,_,X _ _ hK,Heap.Ns.of_isNs (PySem.W.isNs_of_in X g5),PySem.W.nsMap_none_of_in X g5 g6,PySem.W.tail_of_in X g4⟩
 exact⟨hb,hobj⟩
theorem zN{α:Type}{P:List α→Prop}{us:List α}(hl:us.length=0)(h:P []):P us:=by cases us with|nil=>exact h|cons a r=>cases hl
theorem zl{α:Type}{P:List α→Prop}{us:List α}(hl:us.length=1)(h:∀a0,P [a0]):P us:=by cases us with|nil=>cases hl|cons a r=>exact zN (P:=λr=>P (a::r)) (Nat.succ.inj hl) (h a)
theorem zn{α:Type}{P:List α→Prop}{us:List α}(hl:us.length=2)(h:∀a0 a1,P [a0,a1]):P us:=by cases us with|nil=>cases hl|cons a r=>exact zl (P:=λr=>P (a::r)) (Nat.succ.inj hl) (h a)
theorem zO{α:Type}{P:List α→Prop}{us:List α}(hl:us.length=3)(h:∀a0 a1 a2,P [a0,a1,a2]):P us:=by cases us with|nil=>cases hl|cons a r=>exact zn (P:=λr=>P (a::r)) (Nat.succ.inj hl) (h a)
abbrev gA(K:PySem.W.Frag)(x:Str)(f:Addr):Prop:=nsIn K mainGlobals x=some (some (.ref f))
abbrev gN(K:PySem.W.Frag)(x:Str):Prop:=nsIn K mainGlobals x=some none
theorem fh{P:Program}{w:World}{K:PySem.W.Frag}{mg:Str→Option Value}{base h:Heap}{k:Nat}{x q:Str}{st:Stmt}{f:Addr}{fd:FuncData}{ps:List Str}{sp:Sp}(X:K.In h)(G:h.Ns mainGlobals mg)(F:Fun K x q st f fd)(a:gA K x f)(b:cj K fd ps [])(O:FnOk P w K mg base CX0 k f fd ps sp):Has P w K mg base k x ps sp:=⟨f,fd,O,mg_of X G a,F.kp,b⟩
theorem fhX{P:Program}{w:World}{K:PySem.W.Frag}{mg:Str→Option Value}{base h:Heap}{k:Nat}{x q:Str}{st:Stmt}{f:Addr}{fd:FuncData}{ps:List Str}{sp:Sp}(X:K.In h)(G:h.Ns mainGlobals mg)(F:Fun K x q st f fd)(a:gA K x f)(b:cj K fd ps [])(O:FnOk P w K mg base (CX1 P w) k f fd ps sp):gF P w K mg base k x ps sp:=⟨f,fd,O,mg_of X G a,F.kp,b⟩
theorem fb1{K:PySem.W.Frag}{x q a0:Str}{st:Stmt}{f:Addr}{fd:FuncData}(F:Fun K x q st f fd)(h:∀(kV doc pm:Value) (an:Option Addr) (cdv ct v0:Value),bindArgs (fnOf x q (dO st) (br st) (ag st) .none kV doc pm an cdv ct) ⟨[v0],[]⟩=pure (List.zip [a0] [v0]):=by intros;rfl):cj K fd [a0] []:=F.binds λkV doc pm an cdv ct us hl=>zl (P:=λus=>bindArgs _ ⟨us,[]⟩=pure (List.zip _ us)) hl (h kV doc pm an cdv ct)
theorem fb2{K:PySem.W.Frag}{x q a0 a1:Str}{st:Stmt}{f:Addr}{fd:FuncData}(F:Fun K x q st f fd)(h:∀(kV doc pm:Value) (an:Option Addr) (cdv ct v0 v1:Value),bindArgs (fnOf x q (dO st) (br st) (ag st) .none kV doc pm an cdv ct) ⟨[v0,v1],[]⟩=pure (List.zip [a0,a1] [v0,v1]):=by intros;rfl):cj K fd [a0,a1] []:=F.binds λkV doc pm an cdv ct us hl=>zn (P:=λus=>bindArgs _ ⟨us,[]⟩=pure (List.zip _ us)) hl (h kV doc pm an cdv ct)
theorem fb3{K:PySem.W.Frag}{x q a0 a1 a2:Str}{st:Stmt}{f:Addr}{fd:FuncData}(F:Fun K x q st f fd)(h:∀(kV doc pm:Value) (an:Option Addr) (cdv ct v0 v1 v2:Value),bindArgs (fnOf x q (dO st) (br st) (ag st) .none kV doc pm an cdv ct) ⟨[v0,v1,v2],[]⟩=pure (List.zip [a0,a1,a2] [v0,v1,v2]):=by intros;rfl):cj K fd [a0,a1,a2] []:=F.binds λkV doc pm an cdv ct us hl=>zO (P:=λus=>bindArgs _ ⟨us,[]⟩=pure (List.zip _ us)) hl (h kV doc pm an cdv ct)
theorem yf{l:PySem.W.OpenLaw}{w:World}{K:PySem.W.Frag}{h:Heap}{mg:Str→Option Value}{fa f1 f2 f3 f4 f5 f6 f7 f8 f9 f10 f11 f12 f13 f14 f15 f16 f17 f18 f19 f20 f21 f22 f23 f24 f25 f26 f27 f28 f29 f30 f31 f32 f33 f34 f35:Addr}(X:K.In h)(G:h.Ns mainGlobals mg)(hfa:mg "law"=some (.ref fa)){d1 d2 d3 d4 d5 d6 d7 d8 d9 d10 d11 d12 d13 d14 d15 d16 d17 d18 d19 d20 d21 d22 d23 d24 d25 d26 d27 d28 d29 d30 d31 d32 d33 d34 d35:FuncData}{t1:Tok}(a1:gA K "is_whole" f1)(F1:Fun K "is_whole" "is_whole" nP f1 d1)(a2:gA K "is_name" f2)(F2:Fun K "is_name" "is_name" sO f2 d2)(a3:gA K "is_stamp" f3)(F3:Fun K "is_stamp" "is_stamp" nQ f3 d3)(a4:gA K "is_node" f4)(F4:Fun K "is_node" "is_node" sP f4 d4)(a5:gA K "are_rising" f5)(F5:Fun K "are_rising" "are_rising" sQ f5 d5)(a6:gA K "have_own_places" f6)(F6:Fun K "have_own_places" "have_own_places" xk f6 d6)(a7:gA K "numbers_inside" f7)(F7:Fun K "numbers_inside" "numbers_inside" xl f7 d7)(a8:gA K "is_tree" f8)(F8:Fun K "is_tree" "is_tree" sR f8 d8)(a9:gA K "by_number" f9)(F9:Fun K "by_number" "by_number" xm f9 d9)(a10:gA K "node_of" f10)(F10:Fun K "node_of" "node_of" xn f10 d10)(a11:gA K "check_folder" f11)(F11:Fun K "check_folder" "check_folder" xo f11 d11)(a12:gA K "path_up" f12)(F12:Fun K "path_up" "path_up" xp f12 d12)(a13:gA K "path_of" f13)(F13:Fun K "path_of" "path_of" xq f13 d13)(a14:gA K "below" f14)(F14:Fun K "below" "below" xt f14 d14)(a15:gA K "walked" f15)(F15:Fun K "walked" "walked" vj f15 d15)(a16:gA K "total" f16)(F16:Fun K "total" "total" iC f16 d16)(a17:gA K "shape" f17)(F17:Fun K "shape" "shape" gG f17 d17)(a18:gA K "with_numbers" f18)(F18:Fun K "with_numbers" "with_numbers" bh f18 d18)(a19:gA K "inner_numbers" f19)(F19:Fun K "inner_numbers" "inner_numbers" cM f19 d19)(a20:gA K "cut_out" f20)(F20:Fun K "cut_out" "cut_out" eX f20 d20)(a21:gA K "without" f21)(F21:Fun K "without" "without" eY f21 d21)(a22:gA K "greatest_number" f22)(F22:Fun K "greatest_number" "greatest_number" cB f22 d22)(a23:gA K "grafted" f23)(F23:Fun K "grafted" "grafted" cE f23 d23)(a24:gA K "numbered_by_paths" f24)(F24:Fun K "numbered_by_paths" "numbered_by_paths" cg f24 d24)(a25:gA K "_law_cell" f25)(F25:Fun K "_law_cell" "_law_cell" sS f25 d25)(a26:gA K "_law_pick" f26)(F26:Fun K "_law_pick" "_law_pick" sT f26 d26)(a27:gA K "_law_tree" f27)(F27:Fun K "_law_tree" "_law_tree" hJ f27 d27)(a28:gA K "_law_book" f28)(F28:Fun K "_law_book" "_law_book" sU f28 d28)(a29:gA K "_law_under" f29)(F29:Fun K "_law_under" "_law_under" nT f29 d29)(a30:gA K "_law_path" f30)(F30:Fun K "_law_path" "_law_path" nR f30 d30)(a31:gA K "_law_shown" f31)(F31:Fun K "_law_shown" "_law_shown" dm f31 d31)(a32:gA K "_law_is_cut" f32)(F32:Fun K "_law_is_cut" "_law_is_cut" aL f32 d32)(a33:gA K "_law_class" f33)(F33:Fun K "_law_class" "_law_class" dl f33 d33)(a34:gA K "_law_told" f34)(F34:Fun K "_law_told" "_law_told" dX f34 d34)(a35:gA K "law" f35)(F35:Fun K "law" "law" fe f35 d35)(z1:gN K "isinstance")(z2:gN K "dict")(z3:gN K "len")(z4:gN K "tuple")(z5:gN K "list")(z6:gN K "range")(z7:gN K "sorted")(z8:gN K "reversed")(z9:gN K "ValueError")(z10:gN K "str")(z11:gN K "set")(z12:gN K "max")(z13:gN K "min")(z14:gN K "sum")(z15:gN K "zip")(z16:gN K "enumerate")(z17:gN K "all")(z18:gN K "int")(z19:gN K "bool")(v1t:nsIn K mainGlobals "TOP"=some (some (.int 0 t1))){t2:Tok}(v2t:nsIn K mainGlobals "LETTERS"=some (some (.str "abcdefghijklmnopqrstuvwxyz" t2))){t3:Tok}(v3t:nsIn K mainGlobals "LONGEST_NAME"=some (some (.int 5 t3))){t4:Tok}(v4t:nsIn K mainGlobals "GREATEST_STAMP"=some (some (.int 999 t4))){cL PL:Addr}(kL:d35.code=.ref cL)(eL:codeHdIn K cL PL=true){DT B0 B1 B2 B3 B4 B5 B6 B7 B8 B9 B10 B11:Addr}(xD:nsIn K mainGlobals "TreeError"=some (some (.ref DT)))(gD:PySem.W.ktsIn K DT "BaseException"=true)(x0:nsIn K mainGlobals "Inside"=some (some (.ref B0)))(x1:nsIn K mainGlobals "Known"=some (some (.ref B1)))(x2:nsIn K mainGlobals "NoBack"=some (some (.ref B2)))(x3:nsIn K mainGlobals "NoMark"=some (some (.ref B3)))(x4:nsIn K mainGlobals "NoMatch"=some (some (.ref B4)))(x5:nsIn K mainGlobals "NoNode"=some (some (.ref B5)))(x6:nsIn K mainGlobals "NoReader"=some (some (.ref B6)))(x7:nsIn K mainGlobals "NoTag"=some (some (.ref B7)))(x8:nsIn K mainGlobals "NoText"=some (some (.ref B8)))(x9:nsIn K mainGlobals "NotFile"=some (some (.ref B9)))(x10:nsIn K mainGlobals "NotFolder"=some (some (.ref B10)))(x11:nsIn K mainGlobals "Taken"=some (some (.ref B11)))(q5:excIn K B5 bmV "ValueError.__new__"=true)(e5_0:kitOne K (.ref B5) (.ref B0)=some false)(e5_1:kitOne K (.ref B5) (.ref B1)=some false)(e5_2:kitOne K (.ref B5) (.ref B2)=some false)(e5_3:kitOne K (.ref B5) (.ref B3)=some false)(e5_4:kitOne K (.ref B5) (.ref B4)=some false)(e5_5:kitOne K (.ref B5) (.ref B5)=some true)(e5_6:kitOne K (.ref B5) (.ref B6)=some false)(e5_7:kitOne K (.ref B5) (.ref B7)=some false)(e5_8:kitOne K (.ref B5) (.ref B8)=some false)(e5_9:kitOne K (.ref B5) (.ref B9)=some false)(e5_10:kitOne K (.ref B5) (.ref B10)=some false)(e5_11:kitOne K (.ref B5) (.ref B11)=some false)(v5:kitOne K (.ref B5) (.type "ValueError")=some true)(s5:subIn K (.ref B5) (.ref DT)=some true)(g51:PySem.W.ktsIn K B5 "object"=true)(g52:PySem.W.findIn K (.ref B5) "__getattribute__"=some (some (.builtin "BaseException.__getattribute__")))(g53:PySem.W.findIn K (.ref B5) "__getattr__"=some none)(g54:PySem.W.findIn K (.ref B5) "__class__"=some (some (.builtin "object.__class__")))(q11:excIn K B11 bmV "ValueError.__new__"=true)(e11_0:kitOne K (.ref B11) (.ref B0)=some false)(e11_1:kitOne K (.ref B11) (.ref B1)=some false)(e11_2:kitOne K (.ref B11) (.ref B2)=some false)(e11_3:kitOne K (.ref B11) (.ref B3)=some false)(e11_4:kitOne K (.ref B11) (.ref B4)=some false)(e11_5:kitOne K (.ref B11) (.ref B5)=some false)(e11_6:kitOne K (.ref B11) (.ref B6)=some false)(e11_7:kitOne K (.ref B11) (.ref B7)=some false)(e11_8:kitOne K (.ref B11) (.ref B8)=some false)(e11_9:kitOne K (.ref B11) (.ref B9)=some false)(e11_10:kitOne K (.ref B11) (.ref B10)=some false)(e11_11:kitOne K (.ref B11) (.ref B11)=some true)(v11:kitOne K (.ref B11) (.type "ValueError")=some true)(s11:subIn K (.ref B11) (.ref DT)=some true)(g111:PySem.W.ktsIn K B11 "object"=true)(g112:PySem.W.findIn K (.ref B11) "__getattribute__"=some (some (.builtin "BaseException.__getattribute__")))(g113:PySem.W.findIn K (.ref B11) "__getattr__"=some none)(g114:PySem.W.findIn K (.ref B11) "__class__"=some (some (.builtin "object.__class__"))):
  ∃fd:FuncData,(∀(s:Shared)(v:Value),BindsTo s fd ⟨[v],[]⟩ [("_law_script",v)])∧∀base:Heap,K.In base→base.Ns mainGlobals mg→BmB base mg→FnOk l.prog w K mg base CX0 9 fa fd ["_law_script"] (pQ PL K):=by
 have e:=hfa.symm.trans (mg_of X G a35);cases e;have T:Txt mg:=⟨mg_none_of X G z1,mg_none_of X G z2,mg_none_of X G z3,mg_none_of X G z4,mg_none_of X G z5,mg_none_of X G z6,mg_none_of X G z7,mg_none_of X G z8,mg_none_of X G z9,mg_none_of X G z10,mg_none_of X G z11,mg_none_of X G z12,mg_none_of X G z13,mg_none_of X G z14,mg_none_of X G z15,mg_none_of X G z16,mg_none_of X G z17,mg_none_of X G z18,mg_none_of X G z19,⟨_,mg_of X G v1t⟩,⟨_,mg_of X G v2t⟩,⟨_,mg_of X G v3t⟩,⟨_,mg_of X G v4t⟩⟩
 let B:Nat→Addr:=λi=>match i with | 0=>B0 | 1=>B1 | 2=>B2 | 3=>B3 | 4=>B4 | 5=>B5 | 6=>B6 | 7=>B7 | 8=>B8 | 9=>B9 | 10=>B10 | _=>B11
 have L:Clss12 mg K B DT:=⟨λi hi=>match i,hi with | 0,_=>mg_of X G x0 | 1,_=>mg_of X G x1 | 2,_=>mg_of X G x2 | 3,_=>mg_of X G x3 | 4,_=>mg_of X G x4 | 5,_=>mg_of X G x5 | 6,_=>mg_of X G x6 | 7,_=>mg_of X G x7 | 8,_=>mg_of X G x8 | 9,_=>mg_of X G x9 | 10,_=>mg_of X G x10 | 11,_=>mg_of X G x11,mg_of X G xD,gD⟩
 have O5:One12 K B DT 5:=⟨by decide,(by show XI.lY K B5=true;unfold XI.lY;rw[g51,g52,g53,g54];rfl),λj hj=>match j,hj with | 0,_=>e5_0 | 1,_=>e5_1 | 2,_=>e5_2 | 3,_=>e5_3 | 4,_=>e5_4 | 5,_=>e5_5 | 6,_=>e5_6 | 7,_=>e5_7 | 8,_=>e5_8 | 9,_=>e5_9 | 10,_=>e5_10 | 11,_=>e5_11,v5,s5⟩
 have O11:One12 K B DT 11:=⟨by decide,(by show XI.lY K B11=true;unfold XI.lY;rw[g111,g112,g113,g114];rfl),λj hj=>match j,hj with | 0,_=>e11_0 | 1,_=>e11_1 | 2,_=>e11_2 | 3,_=>e11_3 | 4,_=>e11_4 | 5,_=>e11_5 | 6,_=>e11_6 | 7,_=>e11_7 | 8,_=>e11_8 | 9,_=>e11_9 | 10,_=>e11_10 | 11,_=>e11_11,v11,s11⟩
 have hb:∀(s:Shared)(v:Value),BindsTo s d35 ⟨[v],[]⟩ [("_law_script",v)]:=by
  obtain⟨_,_,_,_,_,_,_,_,_,e,_,_⟩:=F35.ex;subst e;exact λs v=>.of_eq rfl
 have all:∀base:Heap,K.In base→BmB base mg→(gF l.prog w K mg base 3 "grafted" ["tree","number","other"] (dI (B 11)))∧(Has l.prog w K mg base 3 "_law_tree" ["_law_script","_law_at","_law_most"] (gP K))∧(Has l.prog w K mg base 2 "_law_pick" ["_law_script","_law_k","_law_many"] (fQ K))∧(Has l.prog w K mg base 6 "_law_is_cut" ["_law_tree_here","_law_folder"] mX)∧(Has l.prog w K mg base 4 "without" ["tree","number"] ow)∧(Has l.prog w K mg base 2 "path_of" ["tree","number"] jq)∧(Has l.prog w K mg base 2 "_law_shown" ["_law_tree_here"] gO)∧(Has l.prog w K mg base 4 "is_tree" ["thing"] dq)∧(Has l.prog w K mg base 3 "numbered_by_paths" ["tree","first"] mQ)∧(Has l.prog w K mg base 2 "walked" ["tree"] jX):=λbase KB Bm=>by
  let H:=Has l.prog w K mg base
  let HX:=gF l.prog w K mg base
  have ON:pw "NoNode" mg base (B 5):=um KB (mg_of X G x5) q5;have OT:pw "Taken" mg base (B 11):=um KB (mg_of X G x11) q11;have C_is_whole:H 1 "is_whole" ["thing"] iD:=fh X G F1 a1 (fb1 F1) (tJ F1 T);have C_is_name:H 1 "is_name" ["thing"] og:=fh X G F2 a2 (fb1 F2) (vx F2 T);have C_is_stamp:H 2 "is_stamp" ["thing"] lg:=fh X G F3 a3 (fb1 F3) (tK F3 T C_is_whole);have C_is_node:H 3 "is_node" ["thing"] om:=fh X G F4 a4 (fb1 F4) (vA F4 T C_is_whole C_is_name C_is_stamp);have C_are_rising:H 1 "are_rising" ["nodes"] oo:=fh X G F5 a5 (fb1 F5) (vB F5 T);have C_have_own_places:H 1 "have_own_places" ["nodes"] mH:=fh X G F6 a6 (fb1 F6) (xO F6 T);have C_numbers_inside:H 1 "numbers_inside" ["nodes","folder"] mt:=fh X G F7 a7 (fb2 F7) (xu F7 T);have C_is_tree:H 4 "is_tree" ["thing"] dq:=fh X G F8 a8 (fb1 F8) (tL F8 T C_is_node C_are_rising C_have_own_places C_numbers_inside);have C_by_number:H 1 "by_number" ["tree"] gH:=fh X G F9 a9 (fb1 F9) (xv F9 T);have C_node_of:HX 1 "node_of" ["nodes","number"] (mv (B 5)):=fhX X G F10 a10 (fb2 F10) (xw F10 ON);have C_check_folder:H 2 "check_folder" ["nodes","number"] jW:=fh X G F11 a11 (fb2 F11) (xE F11 T C_node_of);have C_path_up:H 1 "path_up" ["nodes","number"] mE:=fh X G F12 a12 (fb2 F12) (xB F12 T);have C_path_of:H 2 "path_of" ["tree","number"] jq:=fh X G F13 a13 (fb2 F13) (vO F13 C_by_number C_node_of C_path_up);have C_below:HX 2 "below" ["tree","number"] (mw (B 5)):=fhX X G F14 a14 (fb2 F14) (xx F14 T C_by_number C_node_of C_numbers_inside);have C_walked:H 2 "walked" ["tree"] jX:=fh X G F15 a15 (fb1 F15) (xH F15 T C_by_number C_path_up);have C_total:H 3 "total" ["tree","number"] pG:=fh X G F16 a16 (fb2 F16) (xJ F16 T C_by_number C_check_folder C_below);have C_shape:H 3 "shape" ["tree","number"] pJ:=fh X G F17 a17 (fb2 F17) (xK F17 T C_by_number C_check_folder C_path_up C_below);have C_with_numbers:H 1 "with_numbers" ["tree","numbers"] pL:=fh X G F18 a18 (fb2 F18) (xR F18 T);have C_with_numbers_L:H 1 "with_numbers" ["tree","numbers"] oq:=fh X G F18 a18 (fb2 F18) (vE F18 T);have C_inner_numbers:H 3 "inner_numbers" ["tree","number"] li:=fh X G F19 a19 (fb2 F19) (vF F19 T C_by_number C_check_folder C_below);have C_cut_out:H 4 "cut_out" ["tree","number"] mM:=fh X G F20 a20 (fb2 F20) (xT F20 T C_inner_numbers C_with_numbers_L);have C_without:H 4 "without" ["tree","number"] ow:=fh X G F21 a21 (fb2 F21) (yZ F21 T C_inner_numbers);have C_greatest_number:H 1 "greatest_number" ["tree"] tQ:=fh X G F22 a22 (fb1 F22) (xQ F22 T);have C_grafted:HX 3 "grafted" ["tree","number","other"] (dI (B 11)):=fhX X G F23 a23 (fb3 F23) (vH F23 T OT C_by_number C_check_folder C_greatest_number C_with_numbers C_have_own_places);have C_numbered_by_paths:H 3 "numbered_by_paths" ["tree","first"] mQ:=fh X G F24 a24 (fb2 F24) (xW F24 T C_walked C_with_numbers);have C__law_cell:H 1 "_law_cell" ["_law_script","_law_k"] (oz K):=fh X G F25 a25 (fb2 F25) (vQ F25 T);have C__law_pick:H 2 "_law_pick" ["_law_script","_law_k","_law_many"] (fQ K):=fh X G F26 a26 (fb3 F26) (vR F26 T C__law_cell);have C__law_tree:H 3 "_law_tree" ["_law_script","_law_at","_law_most"] (gP K):=fh X G F27 a27 (fb3 F27) (uf F27 T C__law_pick);have C__law_book:H 1 "_law_book" ["_law_tree_here"] jl:=fh X G F28 a28 (fb1 F28) (vk F28 T);have C__law_under:H 1 "_law_under" ["_law_book_here","_law_number","_law_goal"] pE:=fh X G F29 a29 (fb3 F29) (xF F29);have C__law_path:H 1 "_law_path" ["_law_book_here","_law_number"] xC:=fh X G F30 a30 (fb2 F30) (yQ F30 T);have C__law_shown:H 2 "_law_shown" ["_law_tree_here"] gO:=fh X G F31 a31 (fb1 F31) (xY F31 T C__law_book C__law_path);have C__law_is_cut:H 6 "_law_is_cut" ["_law_tree_here","_law_folder"] mX:=fh X G F32 a32 (fb2 F32) (yb F32 T C__law_book C_cut_out C_without C__law_under C_is_tree C_total C_shape C_grafted C__law_shown);exact⟨C_grafted,C__law_tree,C__law_pick,C__law_is_cut,C_without,C_path_of,C__law_shown,C_is_tree,C_numbered_by_paths,C_walked⟩
 refine⟨d35,hb,λbase KB _ Bm=>?_⟩;obtain⟨C_grafted,C__law_tree,C__law_pick,C__law_is_cut,C_without,C_path_of,C__law_shown,C_is_tree,C_numbered_by_paths,C_walked⟩:=all base KB Bm;exact ye F35 kL ⟨KB,T,codeHd_of_K KB eL,Bm,F34,mg_of X G a34,fb1 F34,F33,mg_of X G a33,fb1 F33,L⟩ O11 C__law_tree C__law_pick C__law_is_cut C_without C_path_of C__law_shown C_is_tree C_numbered_by_paths C_walked (λb k m=>(all b k m).1)
theorem walk{l:PySem.W.OpenLaw}{q:Program}{loose:List Str}{XP:(Str→Option Value)→Heap→Prop}{YP:World→Heap→Prop}{d:DefRec}{K:Params→PySem.W.Frag}(PL:Addr)(hn:l.most=some 63)(hdf:d.params.defaults=[])(hY:∀(w:World) (h:Heap),YP w h→(K w.params).In h){ts:List Addr}(hT:∀(w:World) (h:Heap),YP w h→∀t∈ts,h.get? t=some (tabObj #[]))(mL:PL∈ts)(cL:Addr)(eL:∀w:World,codeHdIn (K w.params) cL PL=true)(nL:∀w:World,(K w.params).lookup PL=none)(F:∀(w:World) (mg:Str→Option Value) (fa:Addr) (h:Heap),(K w.params).In h→h.Ns mainGlobals mg→mg d.name=some (.ref fa) →
   ∃fd:FuncData,(∀(s:Shared) (u:Value),BindsTo s fd ⟨[u],[]⟩ [("_law_script",u)])∧∀base:Heap,(K w.params).In base→base.Ns mainGlobals mg→BmB base mg→FnOk l.prog w (K w.params) mg base CX0 9 fa fd ["_law_script"] (pQ PL (K w.params))):
  PySem.W.WalkO q loose XP YP l.row.toRowW d [] (λf vs=>PySem.call f vs) :=
 L2.tD (tabs:=[PL]) (n:=63) (k:=9) (x:="_law_script") (sp:=λw=>pQ PL (K w.params)) hn (by decide) hdf ⟨rfl,by decide,by decide⟩ hY
  (λw h Y=>List.forall_mem_cons.mpr ⟨hT w h Y _ mL,λ_ h=>nomatch h⟩)
  (λw=>List.forall_mem_cons.mpr ⟨⟨⟨cL,eL w⟩,nL w⟩,λ_ h=>nomatch h⟩)
  F (λw H a ns hl hS hT=>⟨a,ns,rfl,hS,hl,hT PL (by simp),λ_=>rfl⟩)
end TK
end
open PySem PySem.W PyProof.Rows
def PySem.W.Fast.tw5337856804952491596:Unit:=()
def PySem.W.Fast.tw3575622406243144464:Unit:=()
def PySem.W.Fast.tw4453682304594354672:Unit:=()
def PySem.W.Fast.tw5792796320610282383:Unit:=()
def PySem.W.Fast.tw10795373576757530375:Unit:=()
def PySem.W.Fast.tw9761981653393473217:Unit:=()
def PySem.W.Fast.tw6004648008844020680:Unit:=()
def PySem.W.Fast.tw14509115596506910106:Unit:=()
def PySem.W.Fast.tw12196363463895575566:Unit:=()
def PySem.W.Fast.tw3846071563657769264:Unit:=()
def PySem.W.Fast.tw9289994116136924895:Unit:=()
def PySem.W.Fast.tw12273594703656843857:Unit:=()
def PySem.W.Fast.tw2412325749456760416:Unit:=()
def PySem.W.Fast.tw9562757607841203028:Unit:=()
def PySem.W.Fast.tw9814272733179625380:Unit:=()
def PySem.W.Fast.tw5617390675933274263:Unit:=()
def PySem.W.Fast.tw9107977865083239222:Unit:=()
def PySem.W.Fast.tw11304079398450173058:Unit:=()
def PySem.W.Fast.tw1080484928823361034:Unit:=()
def PySem.W.Fast.tw15914143191515552591:Unit:=()
def PySem.W.Fast.tw16149171376343477666:Unit:=()
set_option maxRecDepth 100000 in
set_option maxHeartbeats 0 in
theorem PySem.Challenge.cw_treewatch_k12_whole_cut_and_put_holds : PySem.Challenge.rw_treewatch_k12_whole_cut_and_put.Holds := by
 w_on; o_law; k_head; (case hw=>w_witness2)
 k_fill
 refine TK.walk (l:=PySem.Challenge.rw_treewatch_k12_whole_cut_and_put) 375 rfl rfl (λw h Y=>PySem.W.km_in_of Y) (λw h Y=>PySem.W.km_tabs_of Y) (by decide) 377 (λw=>by kernel_rfl) (λw=>by kernel_rfl) ?F
 case F =>
  intro w mg fa h KX G hmg
  refine' TK.yf KX G hmg ?a1 ?F1 ?a2 ?F2 ?a3 ?F3 ?a4 ?F4 ?a5 ?F5 ?a6 ?F6 ?a7 ?F7 ?a8 ?F8 ?a9 ?F9 ?a10 ?F10 ?a11 ?F11 ?a12 ?F12 ?a13 ?F13 ?a14 ?F14 ?a15 ?F15 ?a16 ?F16 ?a17 ?F17 ?a18 ?F18 ?a19 ?F19 ?a20 ?F20 ?a21 ?F21 ?a22 ?F22 ?a23 ?F23 ?a24 ?F24 ?a25 ?F25 ?a26 ?F26 ?a27 ?F27 ?a28 ?F28 ?a29 ?F29 ?a30 ?F30 ?a31 ?F31 ?a32 ?F32 ?a33 ?F33 ?a34 ?F34 ?a35 ?F35 ?z1 ?z2 ?z3 ?z4 ?z5 ?z6 ?z7 ?z8 ?z9 ?z10 ?z11 ?z12 ?z13 ?z14 ?z15 ?z16 ?z17 ?z18 ?z19 ?v1t ?v2t ?v3t ?v4t ?kL ?eL ?xD ?gD ?x0 ?x1 ?x2 ?x3 ?x4 ?x5 ?x6 ?x7 ?x8 ?x9 ?x10 ?x11 ?q5 ?e5_0 ?e5_1 ?e5_2 ?e5_3 ?e5_4 ?e5_5 ?e5_6 ?e5_7 ?e5_8 ?e5_9 ?e5_10 ?e5_11 ?v5 ?s5 ?g51 ?g52 ?g53 ?g54 ?q11 ?e11_0 ?e11_1 ?e11_2 ?e11_3 ?e11_4 ?e11_5 ?e11_6 ?e11_7 ?e11_8 ?e11_9 ?e11_10 ?e11_11 ?v11 ?s11 ?g111 ?g112 ?g113 ?g114
  (case a1|a2|a3|a4|a5|a6|a7|a8|a9|a10|a11|a12|a13|a14|a15|a16|a17|a18|a19|a20|a21|a22|a23|a24|a25|a26|a27|a28|a29|a30|a31|a32|a33|a34|a35=>unfold TK.gA; k_is)
  (case F1|F2|F3|F4|F5|F6|F7|F8|F9|F10|F11|F12|F13|F14|F15|F16|F17|F18|F19|F20|F21|F22|F23|F24|F25|F26|F27|F28|F29|F30|F31|F32|F33|F34|F35=>apply L2.wP <;> k_is)
  (case z1|z2|z3|z4|z5|z6|z7|z8|z9|z10|z11|z12|z13|z14|z15|z16|z17|z18|z19=>unfold TK.gN; k_is)
  (case v1t|v2t|v3t|v4t=>k_is)
  (case kL=>exact rfl)
  (case eL=>kernel_rfl)
  (case xD=>k_is)
  (case gD=>kts_isx)
  (case x0|x1|x2|x3|x4|x5|x6|x7|x8|x9|x10|x11=>k_is)
  (case q5=>k_exc)
  (case e5_0|e5_1|e5_2|e5_3|e5_4|e5_5|e5_6|e5_7|e5_8|e5_9|e5_10|e5_11|v5=>kit_is)
  (case s5=>k_is)
  (case g51=>kts_isx)
  (case g52|g53|g54=>k_is)
  (case q11=>k_exc)
  (case e11_0|e11_1|e11_2|e11_3|e11_4|e11_5|e11_6|e11_7|e11_8|e11_9|e11_10|e11_11|v11=>kit_is)
  (case s11=>k_is)
  (case g111=>kts_isx)
  (case g112|g113|g114=>k_is)
