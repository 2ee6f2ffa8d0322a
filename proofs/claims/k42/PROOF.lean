import PyProof.Rows.All
import Wide.All
import OpenK.AllK
import Wide.FinOn
import Lean
import PyProof.EqAt
import PyProof.EqKinds
import PyProof.TupleCall
import PyProof.CompFree
import PySem.SetTable
import PyProof.SetScanFacts
import PyProof.TupleKey
import PyProof.SetKind
import PyProof.IsRules
import PyProof.SetRoads
import PyProof.InstSpecial
import PyProof.Rows.SetFrom
import KE.KSortTup
import PyProof.StrWalks
import PyProof.EnumMake
import PyProof.ConsumeWalk
import PyProof.ListRange
import PyProof.NeKinds
import PyProof.ZipIter
import KE.KTryDeep
import OpenK.KOwn
import PyProof.RulesAs
import PyProof.NsDelKeeps
import PyProof.ExcArgsOwn
import PyProof.ExcAttrAll.ValueError
import KE.KIsAll
import OpenK.KNot
import PyProof.IsiH_list
import PyProof.Rows.FStr
import KE.KDictOf
import PyProof.AttrMissHeap
import PyProof.DictIter
import PyProof.DictWalks
import PyProof.Rows.DictUnroll
import KE.KRevIter
import KE.KDictList
import PyProof.CollectIter
import PyProof.TupleOfGen
import KE.KSortKey
import PyProof.FactsAll.NoneType_1
import PyProof.CompUse
import PyProof.Rows.FStrParts
import PySem.Challenge.RW_treewatch_k42_whole_from_mark_to_mark
set_option Elab.async false
set_option linter.all false
set_option maxRecDepth 100000
set_option maxHeartbeats 8000000
open PySem.W (instObj methodObj hideAll hideAll_get of_hideAll lookIn plainGet hasDictIn findIn handedIn plainGet_of isFn plainOver takerIn Looks makesIn emptyDict keepIn mroIn kitOne kia_one kitx_list kitx_dict callWith_K methodCall_KW fnOf codeIn kat_cons KatTups kat_lt_int KdlSrc excIn nsIn mg_of mg_none_of)
open PyProof.Rows (iadd_int boot_dict boot_sorted boot_isinstance boot_int boot_bool boot_str boot_all boot_tuple)
open PySem.F (slot_tuple_add entry_tuple_add args_tuple_add_2 slot_dict_pop slot_dict_get entry_dict_get plainAttrs_dict type_dict_get slot_dict_keyiterator_next plainAttrs_list slot_list_pop type_list_pop)
open List (mem_filter mem_range mem_cons_self mem_cons_of_mem mem_cons mem_append getElem_inj mem_filterMap mem_append_right size_toArray length_cons map_cons length_map append_nil nodup_cons of_mem_zip length length_take getElem?_append_right getElem?_append_left getElem?_map take_sublist mem_of_getElem? length_append length_drop map_nil any_cons length_singleton find?_cons cons_append length_nil filter_cons length_filter_le Pairwise mem_map any_eq_true forIn_cons forIn_nil all_eq_true pairwise_iff_getElem pairwise_cons mem_iff_getElem getElem_take filterMap_cons_none filterMap_cons_some length_range nodup_range append_assoc filter_cons_of_neg filter_cons_of_pos filter_sublist map_map getElem?_eq_getElem getElem_map map_drop perm_middle getD_eq_getElem?_getD ext_getElem? getElem?_range getElem?_eq_none getElem_mem map_congr_left nodup_nil Nodup mem_singleton not_mem_nil toArray find?_eq_none find?_some any_map range' length_eq_zero_iff take_succ map_append take_length all_map filter_congr pairwise_map filter_map Sublist nodup_append nil_append cons_ne_nil take_of_length_le getElem?_drop)
open Nat (lt_of_lt_of_le lt_irrefl ne_of_lt le_trans le_of_lt ne_of_gt le_refl zero_le lt_succ_self le_succ lt_trans lt_of_le_of_lt lt_succ_of_lt zero_add mod_lt add_zero lt_or_ge le_add_right sub_self)
open Array (length_toList toList getElem?_toList getD_eq_getD_getElem? replicate forIn_toList size_map isEmpty)
open Option (getD_none map_some isSome_map)
open Bool (and_eq_true or_eq_true false_eq_true)
open Int (toNat_natCast emod_nonneg toNat)
open PySem.Heap (lt_size SameBut get?_push_of_some get?_push_size size_push get?_update_self get?_update_ne ExtBut IsTuple FlyingW)
open PySem.Calls (Constant_str spliced_nil spliced_cons callWith_builtin evalArgs_plain)
open PySem.SeqAt (EqAt in_listAt eq_listAt RcNeAt)
open PySem.Value (bytes float)
open PySem (boot_len)
open PySem.Str (empty ofString)
noncomputable section
namespace L2
open PySem PySem.Spec PyProof.Rows
abbrev Key:=Sum Int Str
def jw:Key→Value→Bool
 |.inl k,v=>Value.isInt k v
 |.inr x,v=>Value.isStrOf x v
def AC(w:World):Key→Int
 |.inl k=>hashInt k
 |.inr x=>hashStr w x
theorem aV:∀{k:Key}{v:Value},jw k v=true→(∃i t,k=Sum.inl i∧v=Value.int i t)∨(∃x t,k=Sum.inr x∧v=Value.str x t)
 |.inl i,v,h=>by
  obtain⟨t,e⟩:=Value.isInt_shape (k:=i) (v:=v) h;exact .inl ⟨i,t,rfl,e⟩
 |.inr x,v,h=>by
  obtain⟨t,e⟩:=Value.isStrOf_shape (x:=x) (v:=v) h;exact .inr ⟨x,t,rfl,e⟩
theorem rV(i:Int)(t:Tok):jw (.inl i) (.int i t)=true:=by simp[jw,Value.isInt]
theorem rW(x:Str)(t:Tok):jw (.inr x) (.str x t)=true:=by simp[jw,Value.isStrOf]
theorem ya(a b:Int):decide ((Sum.inl a:Key)=Sum.inl b)=(a==b):=by
 by_cases e:a=b
 ·subst e;simp
 ·have h:¬(Sum.inl a:Key)=Sum.inl b:=λq=>e (Sum.inl.inj q);rw[decide_eq_false h];exact(beq_eq_false_iff_ne.mpr e).symm
theorem yb(a b:Str):decide ((Sum.inr a:Key)=Sum.inr b)=decide (a=b):=by
 by_cases e:a=b
 ·subst e;simp
 ·have h:¬(Sum.inr a:Key)=Sum.inr b:=λq=>e (Sum.inr.inj q);rw[decide_eq_false h,decide_eq_false e]
theorem yc(a:Int)(b:Str):decide ((Sum.inl a:Key)=Sum.inr b)=false:=decide_eq_false (λq=>nomatch q)
theorem yd(a:Str)(b:Int):decide ((Sum.inr a:Key)=Sum.inl b)=false:=decide_eq_false (λq=>nomatch q)
def aG(prog:Program)(w:World):PySem.KeyKind prog w Key where
 is:=jw
 hash:=AC w
 inj:=λv a b ha hb=>by
  rcases aV ha with⟨i,t,rfl,rfl⟩|⟨x,t,rfl,rfl⟩
  ·rcases aV hb with⟨j,u,rfl,e⟩|⟨y,u,rfl,e⟩
   ·injection e with e1 _;rw[e1]
   ·exact nomatch e
  ·rcases aV hb with⟨j,u,rfl,e⟩|⟨y,u,rfl,e⟩
   ·exact nomatch e
   ·injection e with e1 _;rw[e1]
 byValue:=λk v h=>by
  rcases aV h with⟨i,t,rfl,rfl⟩|⟨x,t,rfl,rfl⟩<;>rfl
 pyHash:=λhv h=>by
  rcases aV hv with⟨i,t,rfl,rfl⟩|⟨x,t,rfl,rfl⟩
  ·exact wpAny_pyHash_int h
  ·exact wpAny_pyHash_str h
 eqBool:=λhu hv h=>by
  rcases aV hu with⟨i,t,rfl,rfl⟩|⟨x,t,rfl,rfl⟩
  ·rcases aV hv with⟨j,u,rfl,rfl⟩|⟨y,u,rfl,rfl⟩
   ·rw[ya]at h;exact wpAny_eqBool_int h
   ·rw[yc]at h;exact EqAt.int_str i t y u _ _ _ _ h
  ·rcases aV hv with⟨j,u,rfl,rfl⟩|⟨y,u,rfl,rfl⟩
   ·rw[yd]at h;exact EqAt.str_int x t j u _ _ _ _ h
   ·rw[yb]at h;exact wpAny_eqBool_str h
 «strs»:=λk x t v h=>by
  rcases aV h with⟨i,u,rfl,e⟩|⟨y,u,rfl,e⟩
  ·exact nomatch e
  ·injection e with e1 _
   subst e1;cases v<;>rfl
theorem nN(prog:Program)(w:World)(i:Int)(t:Tok):(aG prog w).is (.inl i) (.int i t)=true:=rV i t
theorem nO(prog:Program)(w:World)(x:Str)(t:Tok):(aG prog w).is (.inr x) (.str x t)=true:=rW x t
inductive V where
 |non|bl (b:Bool)|int (i:Int)|str (x:Str)|byt (b:Array UInt8)|flt (b:UInt64)|ref (a:Addr)|ty (n:String)
 deriving DecidableEq
def aL:V→Value→Prop
 |.non,u=>u=Value.none
 |.bl b,u=>u=Value.bool b
 |.int i,u=>∃t,u=Value.int i t
 |.str x,u=>∃t,u=Value.str x t
 |.byt b,u=>∃t,u=bytes b t
 |.flt b,u=>∃t,u=float b t
 |.ref a,u=>u=Value.ref a
 |.ty n,u=>u=Value.type n
abbrev aH:List V→List Value→Prop:=Paired aL
theorem aH.length{xs:List V}{us:List Value}(r:aH xs us):xs.length=us.length:=Paired.length r
theorem aH.get:∀{xs:List V}{us:List Value}{i:Nat}{x:V},aH xs us→xs[i]?=some x→∃u,us[i]?=some u∧aL x u
 |_,_,_,_,.nil,e=>by simp at e
 |_,_,0,_,.cons r _,e=>by simp at e;subst e;exact⟨_,rfl,r⟩
 |_,_,i+1,x,.cons _ t,e=>by
  obtain⟨u,h1,h2⟩:=aH.get (i:=i) (x:=x) t (by simpa using e);exact⟨u,by simpa using h1,h2⟩
theorem aH.append:∀{xs ys:List V}{us ws:List Value},aH xs us→aH ys ws→aH (xs++ys) (us++ws)
 |_,_,_,_,.nil,s=>s
 |_,_,_,_,.cons r t,s=>.cons r (aH.append t s)
theorem aH.take:∀{xs:List V}{us:List Value}(n:Nat),aH xs us→aH (xs.take n) (us.take n)
 |_,_,0,_=>.nil
 |_,_,_+1,.nil=>.nil
 |_,_,n+1,.cons r t=>.cons r (aH.take n t)
theorem aH.drop:∀{xs:List V}{us:List Value}(n:Nat),aH xs us→aH (xs.drop n) (us.drop n)
 |_,_,0,r=>r
 |_,_,_+1,.nil=>.nil
 |_,_,n+1,.cons _ t=>aH.drop n t
def eA:Option V→Option Value→Prop
 |some v,some u=>aL v u
 |none,none=>True
 |_,_=>False
def KV{κ:Type}:List (κ×V)→List (κ×Value)→Prop:=Paired λ(p:κ×V) (q:κ×Value)=>p.1=q.1∧aL p.2 q.2
def kV:Key→V
 |.inl i=>.int i
 |.inr x=>.str x
inductive HO where
 |lst (xs:List V)
 |tup (xs:List V)
 |dK (kvs:List (Key×V))|dT (kvs:List (List Key×V))
 |set (S:Int→Bool) (n:Nat)
 |ins (C dx:Addr) (fs:List (Str×V))
 |own (x:Addr)
 |xd (fs:List (Str×V))
 |met (f x:Addr)
 |rng (lo hi:Int)
 |frz (o:Obj) (u:HO)
 |tbl (ps:Array Value)
 |ext (φ:Heap→Prop)
abbrev Hp:=Addr→Option HO
def upd(H:Hp)(a:Addr)(o:HO):Hp:=λb=>if b=a then some o else H b
theorem ac{H:Hp}{a:Addr}{o:HO}:upd H a o a=some o:=by unfold upd;rw[if_pos rfl]
theorem aj{H:Hp}{a b:Addr}{o:HO}(h:b≠a):upd H a o b=H b:=by unfold upd;rw[if_neg h]
theorem tq{H:Hp}{a b:Addr}{o u:HO}(h:H a=some o)(h':H b=some u)(d:o≠u):a≠b:=by
 intro e;subst e;rw[h]at h';exact d (Option.some.inj h')
theorem aq{H:Hp}{a b:Addr}{o:HO}(h:H a=some o)(h':H b=none):a≠b:=by
 intro e;subst e;rw[h]at h';cases h'
section
variable(P:Program)(w:World)
def bo(H:Hp)(h:Heap)(a:Addr):HO→Prop
 |.lst xs=>xs.length≤sizeLine∧∃(its:List Value) (n:Nat),aH xs its∧h.get? a=some {cls:=.type "list",data:=.seq its.toArray n}
 |.tup xs=>xs.length≤sizeLine∧∃its:List Value,aH xs its∧IsTup h a its.toArray
 |.dK kvs=>kvs.length≤sizeLine∧(a==sysModules)=false∧∃vs,KV kvs vs∧h.DictOf (aG P w) a vs
 |.dT kvs=>kvs.length≤sizeLine∧(a==sysModules)=false∧∃xs:List (List Key×Addr×Value),
   Paired (λ(p:List Key×V) (q:List Key×Addr×Value)=>p.1=q.1∧H q.2.1=some (.tup (p.1.map kV))∧aL p.2 q.2.2) kvs xs ∧
   ∃o es ep,h.get? a=some o∧o.ExactDict∧o.data=.dict es ep∧es.toList=xs.map (entryOfKey (tupleKind (aG P w)))∧(xs.map (·.1)).Nodup
 |.set S n=>h.SetOf (intKind P w) a S n
 |.ins C dx fs=>H dx=some (.own a)∧fs.length≤1000∧dx≠a∧h.get? a=some (instObj C dx) ∧
   ∃mA,h.Ns1 dx mA∧(∀f,eA (fs.lookup f) (mA f))∧PySem.Within mA (fs.map (·.1))
 |.own _=>∃o,h.get? a=some o
 |.xd fs=>∃mA,h.Ns1 a mA∧∀f,eA (fs.lookup f) (mA f)
 |.rng lo hi=>∃t u v,h.get? a=some {cls:=.type "range",data:=.fields #[.int lo t,.int hi u,.int 1 v]}
 |.frz o u=>h.get? a=some o∧bo H h a u
 |.tbl ps=>h.get? a=some {cls:=.none,data:=.fields ps}
 |.met f x=>h.get? a=some (methodObj (.ref f) (.ref x))
 |.ext φ=>φ h∧(∃o,h.get? a=some o)∧∀h1 h2:Heap,φ h1→(∀o,h1.get? a=some o→h2.get? a=some o)→φ h2
def HOk(H:Hp)(h:Heap):Prop:=∀a o,H a=some o→bo P w H h a o
end
section
variable{P:Program}{w:World}{H H':Hp}{h h':Heap}{a:Addr}{o:HO}
theorem bo.lt(x:bo P w H h a o):a<h.objs.size:=by
 cases o with
 |lst xs=>obtain⟨_,_,_,_,e⟩:=x;exact lt_size e
 |tup xs=>obtain⟨_,_,_,p⟩:=x;exact p.lt
 |dK kvs=>obtain⟨_,_,_,_,o,_,_,e,_⟩:=x;exact lt_size e
 |dT kvs=>obtain⟨_,_,_,_,o,_,_,e,_⟩:=x;exact lt_size e
 |set S n=>obtain⟨o,_,_,_,e,_⟩:=x;exact lt_size e
 |ins C dx fs=>obtain⟨_,_,_,e,_⟩:=x;exact lt_size e
 |own y=>obtain⟨_,e⟩:=x;exact lt_size e
 |xd fs=>obtain⟨_,⟨_,_,_,e,_⟩,_⟩:=x;exact lt_size e
 |rng lo hi=>obtain⟨_,_,_,e⟩:=x;exact lt_size e
 |frz ob u=>obtain⟨e,_⟩:=x;exact lt_size e
 |tbl ps=>exact lt_size (show h.get? a=some _ from x)
 |met f y=>exact lt_size (show h.get? a=some _ from x)
 |ext φ=>obtain⟨_,⟨_,e⟩,_⟩:=x;exact lt_size e
theorem Paired.mapP{α β:Type}{F G:α→β→Prop}:∀{l₁:List α}{l₂:List β},Paired F l₁ l₂→(∀a b,F a b→G a b)→Paired G l₁ l₂
 |_,_,.nil,_=>.nil
 |_,_,.cons r t,f=>.cons (f _ _ r) (Paired.mapP t f)
theorem bo.stay(x:bo P w H h a o)(k:∀b u,(b=a∨H b=some (.own a))→h.get? b=some u→h'.get? b=some u)(ho:∀b,H b=some (.own a)→H' b=some (.own a))(ht:∀b xs,H b=some (.tup xs)→H' b=some (.tup xs)):bo P w H' h' a o:=by
 induction o with
 |lst xs=>obtain⟨z,its,n,r,e⟩:=x;exact⟨z,its,n,r,k _ _ (.inl rfl) e⟩
 |tup xs=>obtain⟨z,its,r,ob,e,c⟩:=x;exact⟨z,its,r,ob,k _ _ (.inl rfl) e,c⟩
 |dK kvs=>obtain⟨z,y,vs,r,ob,es,ep,e,c⟩:=x;exact⟨z,y,vs,r,ob,es,ep,k _ _ (.inl rfl) e,c⟩
 |dT kvs =>
  obtain⟨z,y,xs,r,ob,es,ep,e,c⟩:=x;exact⟨z,y,xs,Paired.mapP r λp q z=>⟨z.1,ht _ _ z.2.1,z.2.2⟩,ob,es,ep,k _ _ (.inl rfl) e,c⟩
 |set S n=>obtain⟨ob,es,ep,t,e,c⟩:=x;exact⟨ob,es,ep,t,k _ _ (.inl rfl) e,c⟩
 |ins C dx fs =>
  obtain⟨d,z,ne,e,mA,⟨od,es,ep,e2,c⟩,r⟩:=x;exact⟨ho _ d,z,ne,k _ _ (.inl rfl) e,mA,⟨od,es,ep,k _ _ (.inr d) e2,c⟩,r⟩
 |own y=>obtain⟨ob,e⟩:=x;exact⟨ob,k _ _ (.inl rfl) e⟩
 |xd fs=>obtain⟨mA,⟨od,es,ep,e,c⟩,r⟩:=x;exact⟨mA,⟨od,es,ep,k _ _ (.inl rfl) e,c⟩,r⟩
 |rng lo hi=>obtain⟨t,u,v,e⟩:=x;exact⟨t,u,v,k _ _ (.inl rfl) e⟩
 |frz ob u ih=>obtain⟨e,q⟩:=x;exact⟨k _ _ (.inl rfl) e,ih q⟩
 |tbl ps =>
  have e:h.get? a=some {cls:=.none,data:=.fields ps}:=x;show h'.get? a=some {cls:=.none,data:=.fields ps};exact k a _ (.inl rfl) e
 |met f y =>
  have e:h.get? a=some (methodObj (.ref f) (.ref y)):=x;show h'.get? a=some (methodObj (.ref f) (.ref y));exact k a _ (.inl rfl) e
 |ext φ=>obtain⟨p,⟨o,e⟩,st⟩:=x;exact⟨st _ _ p λo q=>k _ _ (.inl rfl) q,⟨o,k _ _ (.inl rfl) e⟩,st⟩
theorem HOk.lt(x:HOk P w H h)(e:H a=some o):a<h.objs.size:=(x a o e).lt
theorem HOk.fresh(x:HOk P w H h)(e:h.objs.size≤a):H a=none:=by
 cases q:H a with
 |none=>rfl
 |some u=>exact absurd (lt_of_lt_of_le (x.lt q) e) (lt_irrefl _)
theorem HOk.kept(x:HOk P w H h)(k:∀b u,h.get? b=some u→h'.get? b=some u):HOk P w H h':=λa o e =>
 (x a o e).stay (λb u _ q=>k b u q) (λ_ q=>q) λ_ _ q=>q
theorem HOk.laid(x:HOk P w H h)(k:∀b u,h.get? b=some u→h'.get? b=some u)(hp:h.objs.size≤a)(new:bo P w (upd H a o) h' a o):HOk P w (upd H a o) h':=λb u e=>by
 have hn:=x.fresh hp
 by_cases hb:b=a
 ·subst hb;rw[ac]at e;cases e;exact new
 ·rw[aj hb]at e;exact(x b u e).stay (λc v _ q=>k c v q) (λc q=>by rw[aj (aq q hn)];exact q) λc xs q=>by rw[aj (aq q hn)];exact q
end
def Rd(H:Hp)(a:Addr)(u:HO):Prop:=H a=some u∨∃o,H a=some (.frz o u)
theorem Rd.of{H:Hp}{a:Addr}{u:HO}(h:H a=some u):Rd H a u:=.inl h
theorem Rd.ok{P:Program}{w:World}{H:Hp}{h:Heap}{a:Addr}{u:HO}(r:Rd H a u)(x:HOk P w H h):bo P w H h a u:=by
 rcases r with r|⟨o,r⟩
 ·exact x a u r
 ·obtain⟨_,q⟩:=x a _ r;exact q
def Mut:Option HO→Prop
 |some (.lst _)=>True
 |some (.dK _)=>True
 |some (.dT _)=>True
 |some (.set _ _)=>True
 |some (.ins _ _ _)=>True
 |some (.ext _)=>True
 |_=>False
section
variable{P:Program}{w:World}{H:Hp}{h h':Heap}{x e:Addr}{o':HO}
theorem HOk.write(ok:HOk P w H h)(mu:Mut (H x))(he:e=x∨H e=some (.own x))(k:∀b u,b≠e→h.get? b=some u→h'.get? b=some u)(heo:∃u,h'.get? e=some u)(new:bo P w (upd H x o') h' x o'):HOk P w (upd H x o') h':=λb u q=>by
 have nown:∀c y,H c=some (.own y)→c≠x:=λc y r z=>by subst z;rw[r]at mu;exact mu
 have ntup:∀c xs,H c=some (.tup xs)→c≠x:=λc xs r z=>by subst z;rw[r]at mu;exact mu
 by_cases hb:b=x
 ·subst hb;rw[ac]at q;cases q;exact new
 ·rw[aj hb]at q
  by_cases hbe:b=e
  ·have q':H b=some (.own x):=by
    rcases he with z|z
    ·exact absurd (hbe.trans z) hb
    ·rw[hbe];exact z
   rw[q]at q';cases q';obtain⟨v,hv⟩:=heo;exact⟨v,by rw[hbe];exact hv⟩
  ·refine(ok b u q).stay (λc v hc r=>k c v ?_ r) (λc r=>by rw[aj (nown c b r)];exact r) λc xs r=>by rw[aj (ntup c xs r)];exact r
   rcases hc with rfl|hc
   ·exact hbe
   ·rintro rfl;rcases he with z|z
    ·exact nown c b hc z
    ·rw[hc]at z;cases z;exact hb rfl
end
structure Un(fs ex:List Addr)(H H':Hp)(h h':Heap):Prop where
 keep:∀b o,h.get? b=some o→H b=none→b∉fs→b∉ex→h'.get? b=some o
 slot:∀b o,h.get? b=some o→H b=none→b∈fs→b∉ex→∃sl,h'.get? b=some {o with slots:=sl}
 free:∀b o,h.get? b=some o→H b=none→b∉ex→H' b=none
 there:∀b o,h.get? b=some o→b∉ex→∃o',h'.get? b=some o'
 tups:∀b xs,H b=some (.tup xs)→H' b=some (.tup xs)
 frzs:∀b o u,H b=some (.frz o u)→H' b=some (.frz o u)
 tbls:∀b ps,H b=some (.tbl ps)→∃more,H' b=some (.tbl (ps++more))
section
variable{fs fs' ex ex':List Addr}{H H1 H2:Hp}{h h1 h2 h':Heap}{a x e:Addr}{o:HO}
theorem Un.any(u:Un fs ex H H1 h h1){b:Addr}{ob:Obj}(q:h.get? b=some ob)(n:H b=none)(hx:b∉ex):∃sl,h1.get? b=some {ob with slots:=sl}:=by
 by_cases hb:b∈fs
 ·exact u.slot b ob q n hb hx
 ·exact⟨ob.slots,u.keep b ob q n hb hx⟩
theorem Un.kept(k:∀b u,h.get? b=some u→h'.get? b=some u):Un fs ex H H h h' :=
 ⟨λb ob q _ _ _=>k b ob q,λb ob q _ _ _=>⟨ob.slots,k b ob q⟩,λ_ _ _ n _=>n,λb ob q _=>⟨ob,k b ob q⟩,λ_ _ q=>q,λ_ _ _ q=>q,λ_ ps q=>⟨#[],by rw[q];simp⟩⟩
theorem Un.refl:Un fs ex H H h h:=Un.kept λ_ _ q=>q
theorem Un.laid(k:∀b u,h.get? b=some u→h'.get? b=some u)(hp:h.objs.size≤a)(hn:H a=none):Un fs ex H (upd H a o) h h' where
 keep:=λb u q _ _ _=>k b u q
 slot:=λb u q _ _ _=>⟨u.slots,k b u q⟩
 free:=λb u q n _=>by rw[aj (ne_of_lt (lt_of_lt_of_le (lt_size q) hp))];exact n
 there:=λb u q _=>⟨u,k b u q⟩
 tups:=λb xs q=>by rw[aj (aq q hn)];exact q
 frzs:=λb u xs q=>by rw[aj (aq q hn)];exact q
 tbls:=λb ps q=>⟨#[],by rw[aj (aq q hn),q];simp⟩
theorem Un.write(mu:Mut (H x))(he:e=x∨H e=some (.own x))(k:∀b u,b≠e→h.get? b=some u→h'.get? b=some u)(heo:∃u,h'.get? e=some u):Un fs ex H (upd H x o) h h':=by
 have hx:∀b,H b=none→b≠x:=λb n z=>by subst z;rw[n]at mu;exact mu
 have hb:∀b,H b=none→b≠e:=λb n z=>by
  subst z;rcases he with r|r
  ·exact hx b n r
  ·rw[n]at r;cases r
 have hm:∀b u,H b=some u→¬Mut (some u)→b≠x:=λb u q nm z=>by subst z;rw[q]at mu;exact nm mu
 refine⟨λb u q n _ _=>k b u (hb b n) q,λb u q n _ _=>⟨u.slots,k b u (hb b n) q⟩,λb u q n _=>by rw[aj (hx b n)];exact n,λb u q _=>?_,
  λb xs q=>by rw[aj (hm b _ q λz=>z)];exact q,λb u xs q=>by rw[aj (hm b _ q λz=>z)];exact q,λb ps q=>⟨#[],by rw[aj (hm b _ q λz=>z),q];simp⟩⟩
 by_cases hbe:b=e
 ·subst hbe;exact heo
 ·exact⟨u,k b u hbe q⟩
end
def trk(h:Heap)(H:Hp):List Addr:=(List.range h.objs.size).filter λa=>(H a).isSome
def lS(h:Heap)(H:Hp):Heap:=hideAll h (trk h H)
theorem rX(h:Heap)(H:Hp):(lS h H).objs.size=h.objs.size:=PySem.W.hideAll_size _ _
theorem tu{h:Heap}{H:Hp}{b:Addr}{o:Obj}(e:h.get? b=some o)(n:H b=none):(lS h H).get? b=some o :=
 hideAll_get _ e λhm=>by
  have q:(H b).isSome=true:=(mem_filter.mp hm).2;rw[n]at q;simp at q
theorem wc{h:Heap}{H:Hp}{b:Addr}{o:Obj}(e:(lS h H).get? b=some o):h.get? b=some o∧H b=none:=by
 have e':h.get? b=some o:=of_hideAll (trk h H) e;refine⟨e',?_⟩;cases q:H b with
 |none=>rfl
 |some x =>
  have hm:b∈trk h H:=mem_filter.mpr ⟨mem_range.mpr (lt_size e'),by simp[q]⟩;have z:(lS h H).get? b=none:=PySem.W.hideAll_none (trk h H) hm;rw[z]at e;cases e
structure Mod(K:PySem.W.Frag)(mg:Str→Option Value)(base:Heap):Prop where
 kin:K.In base
 glob:base.Ns mainGlobals mg
 blt:∃mb,base.Ns builtinsNs mb∧∀x:Str,x≠"__name__"→mb x=bootBuiltins x
 nolimit:base.NoLimit
structure Cx where
 prog:Program
 w:World
 K:PySem.W.Frag
 mg:Str→Option Value
 base:Heap
 A:Around
 N:List Str
 s₀:Shared
 H₀:Hp
 env:Env
 outer:List Env
 stack:List Env
 ex:List Addr
 fn:Str→Bool
 calm:Bool
 pn:List (Addr×Obj)
 xe:Value→Shared→Prop
def frs(l:List Env):List Addr:=l.filterMap (·.frame)
abbrev Cx.fs(X:Cx):List Addr:=frs X.outer
def Vis(sc:Scope)(x:Str):Prop:=sc.names.lookup x=some .local∨sc.names.lookup x=some .cell∨sc.names.lookup x=some .free
def Loc(sc:Scope)(x:Str):Prop:=sc.names.lookup x=some .local∨sc.names.lookup x=some .cell
def AD(env:Env)(h:Heap)(m:Str→Option Value)(x:Str)(u:Value):Prop :=
 (env.kindOf x=some .local∧m x=some u)∨((env.kindOf x=some .cell∨env.kindOf x=some .free)∧∃c,env.cells.lookup x=some c∧h.IsCell c (some u))
structure Cx.Ok(X:Cx):Prop where
 mod:Mod X.K X.mg X.base
 kind:X.env.scope.kind=.function
 glob:X.env.globals=mainGlobals
 blt:X.env.builtins=builtinsNs
 above:X.s₀.heap.objs.size≤X.env.locals
 inj:∀x y c,X.env.cells.lookup x=some c→X.env.cells.lookup y=some c→x=y
 has:∀x,(X.env.kindOf x=some .cell∨X.env.kindOf x=some .free)→∃c,X.env.cells.lookup x=some c
 cab:∀x c,X.fn x=true→X.env.cells.lookup x=some c→X.s₀.heap.objs.size≤c
 hd:X.calm=true→X.A.handled=none
 frames:X.A.frames=some X.stack
 stk:X.stack=X.outer∨(X.stack=X.env::X.outer∧X.env.frame=some X.env.locals)
 exf:∀b∈X.ex,b≠X.env.locals∧∀x c,X.env.cells.lookup x=some c→c≠b
 bs:∀b o,X.base.get? b=some o→X.s₀.heap.get? b=some o∧X.H₀ b=none
 bsz:X.base.objs.size≤X.s₀.heap.objs.size
 noex:∀b o,X.base.get? b=some o→b∉X.ex
 exfs:∀b∈X.ex,b∉X.fs
 funs:X.s₀.heap.FunFrames X.base X.outer
 frf:∀b∈X.fs,X.H₀ b=none
structure Inv(X:Cx)(pins:List (Addr×Obj))(σ:List (Option V))(H:Hp)(s:Shared):Prop where
 ok:X.Ok
 os:s.os=X.s₀.os
 bare:AllBare s.gens
 base:Un X.fs X.ex X.H₀ H X.s₀.heap s.heap
 loc:∃m,s.heap.Ns X.env.locals m∧∀(i:Nat)(x:Str)(v:V),X.N[i]?=some x→σ[i]?=some (some v)→Vis X.env.scope x→∃u,aL v u∧AD X.env s.heap m x u
 cell:∀x c,X.env.cells.lookup x=some c→∃v,s.heap.IsCell c v
 free:H X.env.locals=none
 freeC:∀x c,X.env.cells.lookup x=some c→H c=none
 pin:∀p∈X.pn++pins,s.heap.get? p.1=some p.2∧H p.1=none∧p.1≠X.env.locals∧p.1∉X.fs∧∀v,p.2.data≠.cell v
 hok:HOk X.prog X.w H s.heap
 len:σ.length=X.N.length
section
variable{X:Cx}{pins:List (Addr×Obj)}{σ:List (Option V)}{H H':Hp}{s:Shared}{h':Heap}
theorem Cx.Ok.nofr(ok:X.Ok){b:Addr}{o:Obj}(e:X.base.get? b=some o):b∉X.fs:=λhb=>by
 have:=(ok.funs.mem hb).1;rw[e]at this;cases this
theorem Inv.bs(I:Inv X pins σ H s):∀b o,X.base.get? b=some o→s.heap.get? b=some o∧H b=none:=λb o e =>
 ⟨I.base.keep b o (I.ok.bs b o e).1 (I.ok.bs b o e).2 (I.ok.nofr e) (I.ok.noex b o e),I.base.free b o (I.ok.bs b o e).1 (I.ok.bs b o e).2 (I.ok.noex b o e)⟩
theorem Inv.bk(I:Inv X pins σ H s):∀b o,X.base.get? b=some o→s.heap.get? b=some o:=λb o e=>(I.bs b o e).1
theorem Inv.mod(I:Inv X pins σ H s):Mod X.K X.mg X.base:=I.ok.mod
theorem Inv.kIn(I:Inv X pins σ H s):X.K.In s.heap:=I.ok.mod.kin.keeps I.bk
theorem Inv.lt(I:Inv X pins σ H s):X.env.locals<s.heap.objs.size:=let⟨_,hn,_⟩:=I.loc;hn.lt
theorem Inv.sz(I:Inv X pins σ H s):X.s₀.heap.objs.size≤s.heap.objs.size:=le_trans I.ok.above (le_of_lt I.lt)
theorem Inv.nofs(I:Inv X pins σ H s){a:Addr}(h:s.heap.objs.size≤a):a∉X.fs:=λhb=>by
 obtain⟨_,o,ho,_⟩:=I.ok.funs.mem hb;exact absurd (lt_of_lt_of_le (lt_size ho) (le_trans I.sz h)) (lt_irrefl _)
theorem Inv.cne(I:Inv X pins σ H s):∀x c,X.env.cells.lookup x=some c→c≠X.env.locals:=λx c e z=>by
 obtain⟨v,o,ho,hd⟩:=I.cell x c e;obtain⟨m,⟨o',es,ep,ho',hd',_⟩,_⟩:=I.loc;rw[z,ho']at ho;cases ho;rw[hd']at hd;cases hd
theorem Inv.funs(I:Inv X pins σ H s):s.heap.FunFrames X.base X.outer:=by
 have all:∀(l:List Env),(∀b∈frs l,b∈X.fs)→X.s₀.heap.FunFrames X.base l→s.heap.FunFrames X.base l:=by
  intro l
  induction l with
  |nil=>intro _ _;trivial
  |cons env r ih =>
   intro hs hl;obtain⟨hk,⟨L,o,hf,hn,ho,hd⟩,hr⟩:=hl;have hL:L∈X.fs:=hs L (by unfold frs;rw[List.filterMap_cons,hf];exact mem_cons_self);obtain⟨sl,e⟩:=I.base.slot L o ho (I.ok.frf L hL) hL λz=>I.ok.exfs L z hL;exact⟨hk,⟨L,_,hf,hn,e,hd⟩,ih (λb hb=>hs b (by unfold frs;rw[List.filterMap_cons,hf];exact mem_cons_of_mem _ hb)) hr⟩
 exact all X.outer (λ_ hb=>hb) I.ok.funs
theorem Inv.stack(I:Inv X pins σ H s):s.heap.FunFrames X.base X.stack:=by
 rcases I.ok.stk with e|⟨e,hf⟩
 ·rw[e];exact I.funs
 ·rw[e];obtain⟨m,hn,_⟩:=I.loc;refine .cons (by rw[I.ok.kind];decide) hf hn ?_ I.funs;exact Heap.get?_none_of_le (le_trans I.ok.bsz I.ok.above)
theorem Inv.stkSub(I:Inv X pins σ H s):∀b∈frs X.stack,b∈X.env.locals::X.fs:=λb hb=>by
 rcases I.ok.stk with e|⟨e,hf⟩
 ·rw[e]at hb;exact mem_cons_of_mem _ hb
 ·rw[e]at hb;unfold frs at hb;rw[List.filterMap_cons,hf]at hb;exact hb
theorem Inv.stkFree(I:Inv X pins σ H s):∀b∈frs X.stack,H b=none:=λb hb=>by
 rcases mem_cons.mp (I.stkSub b hb)with e|hb
 ·rw[e];exact I.free
 ·obtain⟨_,o,ho,_⟩:=I.ok.funs.mem hb;exact I.base.free b o ho (I.ok.frf b hb) λz=>I.ok.exfs b z hb
theorem Inv.step{g':Array GenState}{t':Nat}{d':Drawn}{ch:List Addr}(I:Inv X pins σ H s)(hch:∀b∈ch,(b∈X.ex∨X.s₀.heap.objs.size≤b)∧b≠X.env.locals∧(∀x c,X.env.cells.lookup x=some c→c≠b)∧∀p∈X.pn++pins,p.1≠b)(keep:∀b o,b≠X.env.locals→b∉X.fs→b∉ch→s.heap.get? b=some o→H b=none→h'.get? b=some o)(slot:∀b o,b≠X.env.locals→b∈X.fs→b∉ch→s.heap.get? b=some o→H b=none→∃sl,h'.get? b=some {o with slots:=sl})(free:∀b o,b∉ch→s.heap.get? b=some o→H b=none→H' b=none)(there:∀b o,b∉ch→s.heap.get? b=some o→∃o',h'.get? b=some o')(tups:∀b xs,H b=some (.tup xs)→H' b=some (.tup xs))(frzs:∀b o u,H b=some (.frz o u)→H' b=some (.frz o u))(tbls:∀b ps,H b=some (.tbl ps)→∃more,H' b=some (.tbl (ps++more)))(ns:∀m,s.heap.Ns X.env.locals m→h'.Ns X.env.locals m)(hok:HOk X.prog X.w H' h')(hg:AllBare g'):
  Inv X pins σ H' {s with heap:=h',gens:=g',drawn:=d',toks:=t'}:=by
 have neL:∀b o,X.s₀.heap.get? b=some o→b≠X.env.locals:=λb o e=>ne_of_lt (lt_of_lt_of_le (lt_size e) I.ok.above);have neC:∀b o,X.s₀.heap.get? b=some o→b∉X.ex→b∉ch:=λb o e hx hb=>by
  rcases (hch b hb).1 with z|z
  ·exact hx z
  ·exact absurd (lt_of_lt_of_le (lt_size e) z) (lt_irrefl _)
 have cellK:∀x c,X.env.cells.lookup x=some c→∀v,s.heap.IsCell c v→h'.IsCell c v:=λx c e v ⟨o,ho,hd⟩=>by
  have nch:c∉ch:=λz=>(hch c z).2.2.1 x c e rfl
  by_cases hc:c∈X.fs
  ·obtain⟨sl,q⟩:=slot c o (I.cne x c e) hc nch ho (I.freeC x c e);exact⟨_,q,hd⟩
  ·exact⟨o,keep c o (I.cne x c e) hc nch ho (I.freeC x c e),hd⟩
 refine⟨I.ok,I.os,hg,⟨λb o e n hb hx=>?_,λb o e n hb hx=>?_,λb o e n hx=>?_,λb o e hx=>?_,λb xs e=>tups b xs (I.base.tups b xs e),λb o xs e=>frzs b o xs (I.base.frzs b o xs e),λb ps e=>?_⟩,?_,λx c e=>?_,?_,λx c e=>?_,λp hp=>?_,hok,I.len⟩
 ·exact keep b o (neL b o e) hb (neC b o e hx) (I.base.keep b o e n hb hx) (I.base.free b o e n hx)
 ·obtain⟨sl,e1⟩:=I.base.slot b o e n hb hx;obtain⟨sl',e2⟩:=slot b _ (neL b o e) hb (neC b o e hx) e1 (I.base.free b o e n hx);exact⟨sl',e2⟩
 ·obtain⟨o',e1⟩:=I.base.there b o e hx;exact free b o' (neC b o e hx) e1 (I.base.free b o e n hx)
 ·obtain⟨o',e1⟩:=I.base.there b o e hx;exact there b o' (neC b o e hx) e1
 ·obtain⟨m1,e1⟩:=I.base.tbls b ps e;obtain⟨m2,e2⟩:=tbls b _ e1;exact⟨m1++m2,by rw[e2,Array.append_assoc]⟩
 ·obtain⟨m,hn,hl⟩:=I.loc;refine⟨m,ns m hn,λi x v e1 e2 e3=>?_⟩;obtain⟨u,r,l⟩:=hl i x v e1 e2 e3;refine⟨u,r,?_⟩;rcases l with l|⟨k,c,e,z⟩
  ·exact .inl l
  ·exact .inr ⟨k,c,e,cellK x c e _ z⟩
 ·obtain⟨v,z⟩:=I.cell x c e;exact⟨v,cellK x c e v z⟩
 ·obtain⟨m,⟨o,_,_,ho,_⟩,_⟩:=I.loc;exact free _ o (λz=>(hch _ z).2.1 rfl) ho I.free
 ·obtain⟨v,o,ho,hd⟩:=I.cell x c e;exact free c o (λz=>(hch c z).2.2.1 x c e rfl) ho (I.freeC x c e)
 ·obtain⟨e,n,ne,nf,d⟩:=I.pin p hp;have nch:p.1∉ch:=λz=>(hch p.1 z).2.2.2 p hp rfl;exact⟨keep p.1 p.2 ne nf nch e n,free p.1 p.2 nch e n,ne,nf,d⟩
theorem Inv.un{t':Nat}(I:Inv X pins σ H s)(u:Un X.fs [] H H' s.heap h')(hok:HOk X.prog X.w H' h'):Inv X pins σ H' {s with heap:=h',toks:=t'}:=by
 obtain⟨m,⟨o,es,ep,ho,r⟩,_⟩:=id I.loc;obtain⟨sl,hL⟩:=u.any ho I.free (by simp);exact I.step (g':=s.gens) (d':=s.drawn) (ch:=[]) (λ_ z=>nomatch z) (λb o _ hb _ e n=>u.keep b o e n hb (by simp)) (λb o _ hb _ e n=>u.slot b o e n hb (by simp)) (λb o _ e n=>u.free b o e n (by simp)) (λb o _ e=>u.there b o e (by simp)) u.tups u.frzs u.tbls (λm' hm=>by
  obtain⟨o',es',ep',ho',r'⟩:=hm;rw[ho]at ho';cases ho';exact⟨_,es',ep',hL,r'⟩) hok I.bare
theorem Inv.call{g':Array GenState}{t':Nat}{d':Drawn}{ch:List Addr}(I:Inv X pins σ H s)(u:Un (frs X.stack) ch H H' s.heap h')(hok:HOk X.prog X.w H' h')(hg:AllBare g')(hch:∀b∈ch,(b∈X.ex∨X.s₀.heap.objs.size≤b)∧b≠X.env.locals∧(∀x c,X.env.cells.lookup x=some c→c≠b)∧∀p∈X.pn++pins,p.1≠b):
  Inv X pins σ H' {s with heap:=h',gens:=g',drawn:=d',toks:=t'}:=by
 obtain⟨m,⟨o,es,ep,ho,r⟩,_⟩:=id I.loc;obtain⟨sl,hL⟩:=u.any ho I.free λz=>(hch _ z).2.1 rfl;exact I.step (ch:=ch) hch (λb o hL hb hc e n=>u.keep b o e n (λz=>(mem_cons.mp (I.stkSub b z)).elim hL hb) hc) (λb o _ _ hc e n=>u.any e n hc) (λb o hc e n=>u.free b o e n hc) (λb o hc e=>u.there b o e hc) u.tups u.frzs u.tbls (λm' hm=>by
  obtain⟨o',es',ep',ho',r'⟩:=hm;rw[ho]at ho';cases ho';exact⟨_,es',ep',hL,r'⟩) hok hg
theorem Inv.turned{t':Nat}{it:Addr}(I:Inv X pins σ H s)(k:∀b o,b≠it→s.heap.get? b=some o→h'.get? b=some o)(hn:H it=none)(hL:it≠X.env.locals)(h1:it∈X.ex∨X.s₀.heap.objs.size≤it)(h2:∀x c,X.env.cells.lookup x=some c→c≠it)(h3:∀p∈X.pn++pins,p.1≠it):Inv X pins σ H {s with heap:=h',toks:=t'}:=by
 have nit:∀b u,H b=some u→b≠it:=λb u e z=>by rw[z,hn]at e;cases e
 refine I.step (g':=s.gens) (d':=s.drawn) (ch:=[it]) (λb hb=>?_) (λb o _ _ hc e _=>k b o (λz=>hc (by simp[z])) e) (λb o _ _ hc e _=>⟨o.slots,k b o (λz=>hc (by simp[z])) e⟩) (λ_ _ _ _ n=>n)
  (λb o hc e=>⟨o,k b o (λz=>hc (by simp[z])) e⟩) (λ_ _ e=>e) (λ_ _ _ e=>e) (λb ps e=>⟨#[],by rw[e];simp⟩) (λm hm=>?_) (λb u e=>?_) I.bare
 ·have e:b=it:=by simpa using hb
  subst e;exact⟨h1,hL,h2,h3⟩
 ·obtain⟨o,es,ep,ho,r⟩:=hm;exact⟨o,es,ep,k _ o (Ne.symm hL) ho,r⟩
 ·refine(I.hok b u e).stay (λc v hc q=>k c v ?_ q) (λ_ q=>q) λ_ _ q=>q;rcases hc with z|z
  ·rw[z];exact nit b u e
  ·exact nit c _ z
theorem Inv.tok(I:Inv X pins σ H s)(t:Nat):Inv X pins σ H {s with toks:=t}:=I.un (h':=s.heap) (t':=t) Un.refl I.hok
theorem Inv.kept{t':Nat}(I:Inv X pins σ H s)(k:∀b u,s.heap.get? b=some u→h'.get? b=some u):Inv X pins σ H {s with heap:=h',toks:=t'}:=I.un (Un.kept k) (I.hok.kept k)
theorem Inv.laid{a:Addr}{o:HO}{t':Nat}(I:Inv X pins σ H s)(k:∀b u,s.heap.get? b=some u→h'.get? b=some u)(hp:s.heap.objs.size≤a)(new:bo X.prog X.w (upd H a o) h' a o):
  Inv X pins σ (upd H a o) {s with heap:=h',toks:=t'}:=I.un (Un.laid k hp (I.hok.fresh hp)) (I.hok.laid k hp new)
theorem Inv.write{x e:Addr}{o:HO}{t':Nat}(I:Inv X pins σ H s)(mu:Mut (H x))(he:e=x∨H e=some (.own x))(k:∀b u,b≠e→s.heap.get? b=some u→h'.get? b=some u)(heo:∃u,h'.get? e=some u)(new:bo X.prog X.w (upd H x o) h' x o):Inv X pins σ (upd H x o) {s with heap:=h',toks:=t'}:=I.un (Un.write mu he k heo) (I.hok.write mu he k heo new)
theorem Inv.pins_of{pins':List (Addr×Obj)}(I:Inv X pins σ H s)(h:∀p∈pins',s.heap.get? p.1=some p.2∧H p.1=none∧p.1≠X.env.locals∧p.1∉X.fs∧∀v,p.2.data≠.cell v):Inv X pins' σ H s :=
 ⟨I.ok,I.os,I.bare,I.base,I.loc,I.cell,I.free,I.freeC,λp hp=>(mem_append.mp hp).elim (λz=>I.pin p (List.mem_append_left _ z)) (h p),I.hok,I.len⟩
theorem nP{N:List Str}(hN:N.Nodup){i j:Nat}{x:Str}(a:N[i]?=some x)(b:N[j]?=some x):i=j:=by
 obtain⟨h1,e1⟩:=List.getElem?_eq_some_iff.mp a;obtain⟨h2,e2⟩:=List.getElem?_eq_some_iff.mp b;exact(getElem_inj hN).mp (e1.trans e2.symm)
theorem lm{M:Model}{A:Around}{E:Value→Shared→Prop}{i:Nat}{x:Str}{v:V}{u:Value}{Q:Unit→Shared→Prop}(I:Inv X pins σ H s)(hN:X.N.Nodup)(hi:X.N[i]?=some x)(hx:Loc X.env.scope x)(r:aL v u)(h:∀s',Inv X pins (σ.set i (some v)) H s'→(∃a,SameBut a s.heap s'.heap∧(a=X.env.locals∨X.env.cells.lookup x=some a))→Q () s')(hf:X.fn x=true∨X.env.scope.names.lookup x=some .local:=by first|exact .inl rfl|exact .inr rfl|assumption):wpAny M A (storeName X.env x u) Q E s:=by
 obtain⟨m,hn,hl⟩:=id I.loc;have hcls:(X.env.scope.kind==.class||(X.env.scope.kind==.module&&X.env.locals != X.env.globals))=false:=by rw[I.ok.kind];rfl
 have hiσ:i<σ.length:=by rw[I.len];exact(List.getElem?_eq_some_iff.mp hi).1
 have cne:=I.cne;have tracked:∀{a:Addr}{h':Heap},(∃o,s.heap.get? a=some o∧H a=none)→SameBut a s.heap h'→HOk X.prog X.w H h':=λ{a h'} ha hs b ob e=>by
  obtain⟨_,_,hfree⟩:=ha;refine(I.hok b ob e).stay (λc w' hc q=>(hs.2 c ?_).trans q) (λ_ q=>q) λ_ _ q=>q;rintro rfl;rcases hc with rfl|hc
  ·rw[hfree]at e;cases e
  ·rw[hfree]at hc;cases hc
 rcases hx with hk|hk
 ·refine wpAny_storeName_local hk hn (λh' hn' hs=>?_) hcls;obtain⟨oL,_,_,hoL,_⟩:=id hn;refine h _ ⟨I.ok,I.os,I.bare,⟨λb o e n hb hx=>?_,λb o e n hb hx=>?_,I.base.free,λb o e hx=>?_,I.base.tups,I.base.frzs,I.base.tbls⟩,⟨_,hn',λj y v' e1 e2 e3=>?_⟩,λy c e=>?_,I.free,I.freeC,λp hp=>?_,tracked ⟨oL,hoL,I.free⟩ hs,by simpa using I.len⟩ ⟨_,hs,.inl rfl⟩
  ·exact(hs.2 b (ne_of_lt (lt_of_lt_of_le (lt_size e) I.ok.above))).trans (I.base.keep b o e n hb hx)
  ·obtain⟨sl,e1⟩:=I.base.slot b o e n hb hx;exact⟨sl,(hs.2 b (ne_of_lt (lt_of_lt_of_le (lt_size e) I.ok.above))).trans e1⟩
  ·obtain⟨o',e1⟩:=I.base.there b o e hx;exact⟨o',(hs.2 b (ne_of_lt (lt_of_lt_of_le (lt_size e) I.ok.above))).trans e1⟩
  ·by_cases hj:j=i
   ·subst hj;rw[hi]at e1;cases e1;rw[List.getElem?_set_self hiσ]at e2;cases e2;exact⟨u,r,.inl ⟨hk,by simp⟩⟩
   ·rw[List.getElem?_set_ne (Ne.symm hj)]at e2;obtain⟨u',r',q⟩:=hl j y v' e1 e2 e3;refine⟨u',r',?_⟩;rcases q with⟨k,e⟩|⟨k,c,e,z⟩
    ·refine .inl ⟨k,?_⟩;have:y≠x:=λe=>hj (nP hN e1 (e ▸ hi));simp[this,e]
    ·exact .inr ⟨k,c,e,z.sameBut hs (cne y c e)⟩
  ·obtain⟨w',z⟩:=I.cell y c e;exact⟨w',z.sameBut hs (cne y c e)⟩
  ·obtain⟨e,n,ne,nf,d⟩:=I.pin p hp;exact⟨(hs.2 p.1 ne).trans e,n,ne,nf,d⟩
 ·have hfn:X.fn x=true:=by
   rcases hf with z|z
   ·exact z
   ·rw[z]at hk;cases hk
  obtain⟨c,hc⟩:=I.ok.has x (.inl hk);obtain⟨w',z⟩:=I.cell x c hc;refine wpAny_storeName_cell I.ok.kind hk hc z (λh' hc' hs=>?_);obtain⟨oc,hoc,hocd⟩:=id z;refine h {s with heap:=h'} ⟨I.ok,I.os,I.bare,⟨λb o e n hb hx=>?_,λb o e n hb hx=>?_,I.base.free,λb o e hx=>?_,I.base.tups,I.base.frzs,I.base.tbls⟩,⟨m,hn.sameBut hs (Ne.symm (cne x c hc)),λj y v' e1 e2 e3=>?_⟩,λy c' e=>?_,I.free,I.freeC,λp hp=>?_,tracked ⟨oc,hoc,I.freeC x c hc⟩ hs,by simpa using I.len⟩ ⟨c,hs,.inr hc⟩
  ·exact(hs.2 b (ne_of_lt (lt_of_lt_of_le (lt_size e) (I.ok.cab x c hfn hc)))).trans (I.base.keep b o e n hb hx)
  ·obtain⟨sl,e1⟩:=I.base.slot b o e n hb hx;exact⟨sl,(hs.2 b (ne_of_lt (lt_of_lt_of_le (lt_size e) (I.ok.cab x c hfn hc)))).trans e1⟩
  ·obtain⟨o',e1⟩:=I.base.there b o e hx;exact⟨o',(hs.2 b (ne_of_lt (lt_of_lt_of_le (lt_size e) (I.ok.cab x c hfn hc)))).trans e1⟩
  ·by_cases hj:j=i
   ·subst hj;rw[hi]at e1;cases e1;rw[List.getElem?_set_self hiσ]at e2;cases e2;exact⟨u,r,.inr ⟨.inl hk,c,hc,hc'⟩⟩
   ·rw[List.getElem?_set_ne (Ne.symm hj)]at e2;obtain⟨u',r',q⟩:=hl j y v' e1 e2 e3;refine⟨u',r',?_⟩;rcases q with q|⟨k,c',e,z'⟩
    ·exact .inl q
    ·refine .inr ⟨k,c',e,z'.sameBut hs ?_⟩;rintro rfl;exact hj (nP hN e1 (I.ok.inj _ _ _ e hc ▸ hi))
  ·by_cases hcc:c'=c
   ·subst hcc;exact⟨_,hc'⟩
   ·obtain⟨w2,z2⟩:=I.cell y c' e;exact⟨w2,z2.sameBut hs hcc⟩
  ·obtain⟨e,n,ne,nf,d⟩:=I.pin p hp;refine⟨(hs.2 p.1 ?_).trans e,n,ne,nf,d⟩;intro q;rw[q,hoc]at e;have q':oc=p.2:=Option.some.inj e;exact d w' (by rw[←q'];exact hocd)
theorem nQ{M:Model}{A:Around}{E:Value→Shared→Prop}{i:Nat}{x:Str}{v:V}{u:Value}{Q:Unit→Shared→Prop}(I:Inv X pins σ H s)(hN:X.N.Nodup)(hi:X.N[i]?=some x)(hx:Loc X.env.scope x)(r:aL v u)(h:∀s',Inv X pins (σ.set i (some v)) H s'→Q () s')(hf:X.fn x=true∨X.env.scope.names.lookup x=some .local:=by first|exact .inl rfl|exact .inr rfl|assumption):wpAny M A (storeName X.env x u) Q E s :=
 lm I hN hi hx r (λs' I' _=>h s' I') hf
theorem Inv.call'{s':Shared}{ch:List Addr}(I:Inv X pins σ H s)(ho:s'.os=s.os)(u:Un (frs X.stack) ch H H' s.heap s'.heap)(hok:HOk X.prog X.w H' s'.heap)(hg:AllBare s'.gens)(hch:∀b∈ch,(b∈X.ex∨X.s₀.heap.objs.size≤b)∧b≠X.env.locals∧(∀x c,X.env.cells.lookup x=some c→c≠b)∧∀p∈X.pn++pins,p.1≠b):Inv X pins σ H' s':=by
 obtain⟨h',g',d',t',o'⟩:=s';have e:o'=s.os:=ho;subst e;exact I.call (g':=g') (t':=t') (d':=d') u hok hg hch
end
abbrev XK:=Value→Option Addr→Hp→Prop
abbrev St:=List (Option V)
abbrev VK:=V→Hp→Prop
abbrev TE:=St→Hp→VK→Prop
abbrev TT:=St→Hp→(Bool→Hp→Prop)→Prop
abbrev TA:=St→Hp→(List V→Hp→Prop)→Prop
structure Ends where
 nx:St→Hp→Prop
 rt:VK
 bk:St→Hp→Prop:=λ_ _=>False
 ct:St→Hp→Prop:=λ_ _=>False
abbrev TS:=Ends→St→Hp→Prop
def EP(X:Cx)(pins:List (Addr×Obj))(σ:St)(Q:VK)(u:Value)(s':Shared):Prop:=∃v H',Inv X pins σ H' s'∧aL v u∧Q v H'
def TP(X:Cx)(pins:List (Addr×Obj))(σ:St)(Q:Bool→Hp→Prop)(b:Bool)(s':Shared):Prop:=∃H',Inv X pins σ H' s'∧Q b H'
def AP(X:Cx)(pins:List (Addr×Obj))(σ:St)(Q:List V→Hp→Prop)(us:List Value)(s':Shared):Prop:=∃vs H',Inv X pins σ H' s'∧aH vs us∧Q vs H'
def SP(X:Cx)(pins:List (Addr×Obj))(D:Ends)(f:Flow)(s':Shared):Prop :=
 match f with
 |.next=>∃σ' H',Inv X pins σ' H' s'∧D.nx σ' H'
 |.brk=>∃σ' H',Inv X pins σ' H' s'∧D.bk σ' H'
 |.cont=>∃σ' H',Inv X pins σ' H' s'∧D.ct σ' H'
 |.ret u=>∃v σ' H',Inv X pins σ' H' s'∧aL v u∧D.rt v H'
def PE(X:Cx)(e:Expr)(t:TE):Prop :=
 ∀(pins:List (Addr×Obj))(s:Shared)(σ:St)(H:Hp)(Q:VK),Inv X pins σ H s→t σ H Q→wpAny (model X.prog X.w) X.A (eval e X.env) (EP X pins σ Q) X.xe s
def PT(X:Cx)(e:Expr)(t:TT):Prop :=
 ∀(pins:List (Addr×Obj))(s:Shared)(σ:St)(H:Hp)(Q:Bool→Hp→Prop),Inv X pins σ H s→t σ H Q→wpAny (model X.prog X.w) X.A (isTrue e X.env (eval e X.env)) (TP X pins σ Q) X.xe s
def PW(X:Cx)(e:Expr)(t:TT):Prop :=
 ∀(whole:Sem Value)(pins:List (Addr×Obj))(s:Shared)(σ:St)(H:Hp)(Q:Bool→Hp→Prop),Inv X pins σ H s→t σ H Q→wpAny (model X.prog X.w) X.A (isTrue e X.env whole) (TP X pins σ Q) X.xe s
theorem PW.pt{X:Cx}{e:Expr}{t:TT}(h:PW X e t):PT X e t:=h _
def PA(X:Cx)(es:List Expr)(t:TA):Prop :=
 ∀(pos:Pos)(pins:List (Addr×Obj))(s:Shared)(σ:St)(H:Hp)(Q:List V→Hp→Prop),Inv X pins σ H s→t σ H Q→wpAny (model X.prog X.w) X.A (spliced (backTo pos (starEach es X.env))) (AP X pins σ Q) X.xe s
def PS(X:Cx)(st:Stmt)(t:TS):Prop :=
 ∀(pins:List (Addr×Obj))(s:Shared)(σ:St)(H:Hp)(D:Ends),Inv X pins σ H s→t D σ H→wpAny (model X.prog X.w) X.A (exec st X.env) (SP X pins D) X.xe s
def PSs(X:Cx)(st:List Stmt)(t:TS):Prop :=
 ∀(pins:List (Addr×Obj))(s:Shared)(σ:St)(H:Hp)(D:Ends),Inv X pins σ H s→t D σ H→wpAny (model X.prog X.w) X.A (execs st X.env) (SP X pins D) X.xe s
theorem thn{α:Type}{t:Sem α}{Q Q':α→Shared→Prop}{M:Model}{A:Around}{E:Value→Shared→Prop}{s:Shared}(h:wpAny M A t Q E s)(hQ:∀a s,Q a s→Q' a s):wpAny M A t Q' E s:=wpAny_mono h hQ λ_ _ x=>x
section
variable{X:Cx}
def fb(i:Nat):TE:=λσ H Q=>∃v,σ[i]?=some (some v)∧Q v H
def tC(v:V):TE:=λ_ H Q=>Q v H
theorem ye{i:Nat}{x:Str}{pos:Pos}(hN:X.N[i]?=some x)(hv:Vis X.env.scope x)(hd:(x==("__debug__":Str))=false:=by decide)(hcd:(x==("__classdict__":Str))=false:=by decide):PE X (.Name x pos) (fb i):=by
 intro pins s σ H Q I h;obtain⟨v,e,h⟩:=h;obtain⟨m,hn,hl⟩:=I.loc;obtain⟨u,r,l⟩:=hl i x v hN e hv;have fin:EP X pins σ Q u s:=⟨v,H,I,r,h⟩;rcases l with⟨hk,hm⟩|⟨hk,c,hc,hcell⟩
 ·exact wpAny_Name (wpAny_loadName_local I.ok.kind hk hn hm fin) hd
 ·rcases hk with hk|hk
  ·exact wpAny_Name (wpAny_loadName_cell I.ok.kind hk hc hcell fin) hd
  ·exact wpAny_Name (wpAny_loadName_free I.ok.kind hk hc hcell fin hcd) hd
theorem ah{i j pos}:PE X (.Constant (.int i) j pos) (tC (.int i)):=λ_ _ _ H _ I h=>wpAny_Constant_int ⟨.int i,H,I.tok _,⟨_,rfl⟩,h⟩
theorem eW{b j pos}:PE X (.Constant (.bool b) j pos) (tC (.bl b)):=λ_ _ _ H _ I h=>Constant_bool ⟨.bl b,H,I,rfl,h⟩
theorem cM{j pos}:PE X (.Constant .none j pos) (tC .non):=λ_ _ _ H _ I h=>Constant_none ⟨.non,H,I,rfl,h⟩
theorem aY{x j pos}:PE X (.Constant (.str x) j pos) (tC (.str x)):=λ_ _ _ H _ I h=>Constant_str ⟨.str x,H,I.tok _,⟨_,rfl⟩,h⟩
def Gl(X:Cx)(x:Str):Prop:=X.env.kindOf x=some .globalImplicit
theorem jj{E:Value→Shared→Prop}{pins:List (Addr×Obj)}{s:Shared}{σ:St}{H:Hp}{x:Str}{u:Value}{pos:Pos}{Q:Value→Shared→Prop}(I:Inv X pins σ H s)(hg:Gl X x)(hm:X.mg x=some u)(h:Q u s)(hd:(x==("__debug__":Str))=false:=by decide):wpAny (model X.prog X.w) X.A (eval (.Name x pos) X.env) Q E s :=
 Calls.Name_function_global I.ok.kind hg (Calls.loadGlobal_global (by rw[I.ok.glob];exact I.mod.glob.keeps I.bk) hm h) hd
theorem jx{E:Value→Shared→Prop}{pins:List (Addr×Obj)}{s:Shared}{σ:St}{H:Hp}{x:Str}{u:Value}{pos:Pos}{Q:Value→Shared→Prop}(I:Inv X pins σ H s)(hg:Gl X x)(hm:X.mg x=none)(hv:bootBuiltins x=some u)(h:Q u s)(hn:x≠"__name__":=by decide)(hd:(x==("__debug__":Str))=false:=by decide):wpAny (model X.prog X.w) X.A (eval (.Name x pos) X.env) Q E s:=by
 obtain⟨mb,h1,h2⟩:=I.mod.blt;exact Calls.Name_function_global I.ok.kind hg (Calls.loadGlobal_builtin (by rw[I.ok.glob];exact I.mod.glob.keeps I.bk) hm (by rw[I.ok.blt];exact h1.keeps I.bk) ((h2 x hn).trans hv) h) hd
theorem gf{x:Str}{v:V}{u:Value}{pos:Pos}(hg:Gl X x)(hm:X.mg x=some u)(r:aL v u)(hd:(x==("__debug__":Str))=false:=by decide):PE X (.Name x pos) (tC v) :=
 λ_ _ _ H _ I h=>jj I hg hm ⟨v,H,I,r,h⟩ hd
theorem gg{x:Str}{v:V}{u:Value}{pos:Pos}(hg:Gl X x)(hm:X.mg x=none)(hv:bootBuiltins x=some u)(r:aL v u)(hn:x≠"__name__":=by decide)(hd:(x==("__debug__":Str))=false:=by decide):PE X (.Name x pos) (tC v) :=
 λ_ _ _ H _ I h=>jx I hg hm hv ⟨v,H,I,r,h⟩ hn hd
variable{a b:Expr}{ta tb:TE}{pos:Pos}
def PC(X:Cx)(op:CmpOp)(a b:Expr)(t:TE):Prop :=
 ∀(pins:List (Addr×Obj))(s:Shared)(σ:St)(H:Hp)(Q:VK),Inv X pins σ H s→t σ H Q →
  wpAny (model X.prog X.w) X.A (eval a X.env) (λv s₁=>wpAny (model X.prog X.w) X.A (eval b X.env) (λu s₂=>wpAny (model X.prog X.w) X.A (compareOp op v u) (EP X pins σ Q) X.xe s₂) X.xe s₁) X.xe s
def tB(t:TE):TT:=λσ H Q=>t σ H λx H1=>∃c,x=.bl c∧Q c H1
theorem fc{op:CmpOp}{t:TE}(h:PC X op a b t)(h1:behindInMarks op b=false:=by first|exact nobehind _ (by decide) (by decide)|rfl):PT X (.Compare a [op] [b] pos) (tB t):=by
 intro pins s σ H Q I hw;refine wpAny_isTrue_Compare1 (thn (h pins s σ H _ I hw) λv s1 h1=>thn h1 λu s2 h2=>thn h2 λc s3 ⟨x,H1,I1,r1,q1⟩=>?_) h1;obtain⟨d,rfl,q⟩:=q1;cases r1;exact wpAny_truthy_bool ⟨H1,I1,q⟩
theorem db{e:Expr}{t:TE}(h:PE X e t)(he:∀whole,isTrue e X.env whole=(do let v ← whole;standAt e.pos;holding [v] (truthy v)):=by intro _;rfl):PT X e (tB t):=by
 intro pins s σ H Q I hw;refine isTrue_plain (thn (h pins s σ H _ I hw) λv s1 ⟨x,H1,I1,r1,q1⟩=>?_) (he _);obtain⟨d,rfl,q⟩:=q1;cases r1;exact wpAny_truthy_bool ⟨H1,I1,q⟩
variable{tA tB':TT}{rest:List Expr}
def AE(t u:TT):TT:=λσ H Q=>t σ H λc H1=>if c=true then u σ H1 Q else Q false H1
def tOr(t u:TT):TT:=λσ H Q=>t σ H λc H1=>if c=true then Q true H1 else u σ H1 Q
def AF(t:TT):TT:=λσ H Q=>t σ H λc H1=>Q (!c) H1
theorem pw_and1(ha:PT X a tA):PW X (.BoolOp .And [a] pos) tA:=by
 intro wh pins s σ H Q I h;refine isTrue_and (thn (ha pins s σ H Q I h) λc s1 e=>?_);cases c with
 |true=>exact isTrue_and_nil e
 |false=>exact e
theorem pw_or1(ha:PT X a tA):PW X (.BoolOp .Or [a] pos) tA:=by
 intro wh pins s σ H Q I h;refine isTrue_or (thn (ha pins s σ H Q I h) λc s1 e=>?_);cases c with
 |false=>exact isTrue_or_nil e
 |true=>exact e
theorem pw_and(ha:PT X a tA)(hb:PW X (.BoolOp .And (b::rest) pos) tB'):PW X (.BoolOp .And (a::b::rest) pos) (AE tA tB'):=by
 intro wh pins s σ H Q I h;refine isTrue_and (thn (ha pins s σ H _ I h) λc s1 hpt=>?_);obtain⟨H1,I1,q1⟩:=hpt;cases c with
 |true=>exact hb wh pins s1 σ H1 Q I1 q1
 |false=>exact⟨H1,I1,q1⟩
theorem pw_or(ha:PT X a tA)(hb:PW X (.BoolOp .Or (b::rest) pos) tB'):PW X (.BoolOp .Or (a::b::rest) pos) (tOr tA tB'):=by
 intro wh pins s σ H Q I h;refine isTrue_or (thn (ha pins s σ H _ I h) λc s1 hpt=>?_);obtain⟨H1,I1,q1⟩:=hpt;cases c with
 |true=>exact⟨H1,I1,q1⟩
 |false=>exact hb wh pins s1 σ H1 Q I1 q1
theorem dc(ha:PT X a tA):PT X (.UnaryOp .Not a pos) (AF tA):=by
 intro pins s σ H Q I h;exact isTrue_not (ha pins s σ H (λc H1=>Q (!c) H1) I h)
def zK(ta tb:TE):TE:=λσ H Q=>ta σ H λx H1=>∃c,x=.bl c∧if c=true then tb σ H1 Q else Q (.bl false) H1
def AG(ta tb:TE):TE:=λσ H Q=>ta σ H λx H1=>∃c,x=.bl c∧if c=true then Q (.bl true) H1 else tb σ H1 Q
def zL(ta:TE):TE:=λσ H Q=>ta σ H λx H1=>∃c,x=.bl c∧Q (.bl (!c)) H1
theorem jy{op}{t:TE}(h:PE X a t):PE X (.BoolOp op [a] pos) t:=λpins s σ H Q I hw=>BoolOp_one (h pins s σ H Q I hw)
theorem iu(ha:PE X a ta)(hb:PE X (.BoolOp .And (b::rest) pos) tb):PE X (.BoolOp .And (a::b::rest) pos) (zK ta tb):=by
 intro pins s σ H Q I h;refine BoolOp_and (thn (ha pins s σ H _ I h) λv s1 hpt=>?_);obtain⟨x,H1,I1,r1,q1⟩:=hpt;obtain⟨c,rfl,q1⟩:=q1;cases r1;refine wpAny_truthy_bool ?_;cases c with
 |true=>exact hb pins s1 σ H1 Q I1 q1
 |false=>exact⟨.bl false,H1,I1,rfl,q1⟩
theorem zM(ha:PE X a ta)(hb:PE X (.BoolOp .Or (b::rest) pos) tb):PE X (.BoolOp .Or (a::b::rest) pos) (AG ta tb):=by
 intro pins s σ H Q I h;refine BoolOp_or (thn (ha pins s σ H _ I h) λv s1 hpt=>?_);obtain⟨x,H1,I1,r1,q1⟩:=hpt;obtain⟨c,rfl,q1⟩:=q1;cases r1;refine wpAny_truthy_bool ?_;cases c with
 |false=>exact hb pins s1 σ H1 Q I1 q1
 |true=>exact⟨.bl true,H1,I1,rfl,q1⟩
theorem yf(ha:PE X a ta):PE X (.UnaryOp .Not a pos) (zL ta):=by
 intro pins s σ H Q I h;refine UnaryOp_ (thn (ha pins s σ H _ I h) λv s1 hpt=>?_);obtain⟨x,H1,I1,r1,q1⟩:=hpt;obtain⟨c,rfl,q1⟩:=q1;cases r1;exact not_of (wpAny_truthy_bool ⟨.bl (!c),H1,I1,rfl,q1⟩)
def tIf(t:TT)(ta tb:TE):TE:=λσ H Q=>t σ H λc H1=>if c=true then ta σ H1 Q else tb σ H1 Q
theorem nR{c:Expr}(hc:PT X c tA)(ha:PE X a ta)(hb:PE X b tb):PE X (.IfExp c a b pos) (tIf tA ta tb):=by
 intro pins s σ H Q I h;refine wpAny_IfExp (thn (hc pins s σ H _ I h) λd s1 hpt=>?_);obtain⟨H1,I1,q1⟩:=hpt;cases d with
 |true=>exact ha pins s1 σ H1 Q I1 q1
 |false=>exact hb pins s1 σ H1 Q I1 q1
end
def SqL(K:PySem.W.Frag)(H:Hp)(a:Addr)(xs:List V):Prop :=
 Rd H a (.lst xs) ∨
  ∃(o:Obj) (its:Array Value) (n:Nat),K.lookup a=some o∧o.cls=.type "list"∧o.dict=none∧o.data=.seq its n∧its.size≤sizeLine∧aH xs its.toList
def SqT(K:PySem.W.Frag)(H:Hp)(a:Addr)(xs:List V):Prop :=
 Rd H a (.tup xs) ∨
  ∃(o:Obj) (its:Array Value) (n:Nat),K.lookup a=some o∧o.cls=.type "tuple"∧o.data=.seq its n∧its.size≤sizeLine∧aH xs its.toList
def AH:Value→Option V
 |.none=>some .non
 |.bool b=>some (.bl b)
 |.int i _=>some (.int i)
 |.str x _=>some (.str x)
 |.bytes b _=>some (.byt b)
 |.float b _=>some (.flt b)
 |.ref a=>some (.ref a)
 |.type n=>some (.ty n)
 |_=>none
theorem aL.abs{x:V}{u:Value}(r:aL x u):AH u=some x:=by
 cases x with
 |non=>cases r;rfl
 |bl _=>cases r;rfl
 |int _=>obtain⟨t,rfl⟩:=r;rfl
 |str _=>obtain⟨t,rfl⟩:=r;rfl
 |byt _=>obtain⟨t,rfl⟩:=r;rfl
 |flt _=>obtain⟨t,rfl⟩:=r;rfl
 |ref _=>cases r;rfl
 |ty _=>cases r;rfl
theorem aL.inj{x y:V}{u:Value}(r:aL x u)(q:aL y u):x=y:=Option.some.inj (r.abs.symm.trans q.abs)
theorem aH.inj:∀{xs ys:List V}{us:List Value},aH xs us→aH ys us→xs=ys
 |_,_,_,.nil,.nil=>rfl
 |_,_,_,.cons r t,.cons r' t'=>by rw[r.inj r',aH.inj t t']
section
variable{X:Cx}{pins:List (Addr×Obj)}{σ:St}{H:Hp}{s:Shared}{a:Addr}{xs ys:List V}
theorem SqL.of{K:PySem.W.Frag}(h:H a=some (.lst xs)):SqL K H a xs:=.inl (.inl h)
theorem SqT.of{K:PySem.W.Frag}(h:H a=some (.tup xs)):SqT K H a xs:=.inl (.inl h)
theorem Inv.list(I:Inv X pins σ H s)(h:SqL X.K H a xs):∃its:List Value,aH xs its∧PlainL s.heap a its.toArray∧xs.length≤sizeLine:=by
 rcases h with h|⟨o,its,n,hk,hc,hd,hs,hz,r⟩
 ·obtain⟨z,its,n,r,e⟩:=h.ok I.hok;exact⟨its,r,⟨_,n,e,rfl,rfl,rfl⟩,z⟩
 ·refine⟨its.toList,r,⟨o,n,I.kIn a o hk,hc,hd,by simpa using hs⟩,?_⟩
  have e:=r.length;simp only[length_toList]at e;omega
theorem Inv.tuple(I:Inv X pins σ H s)(h:SqT X.K H a xs):∃its:List Value,aH xs its∧IsTup s.heap a its.toArray∧xs.length≤sizeLine:=by
 rcases h with h|⟨o,its,n,hk,hc,hs,hz,r⟩
 ·obtain⟨z,its,r,p⟩:=h.ok I.hok;exact⟨its,r,p,z⟩
 ·refine⟨its.toList,r,⟨o,I.kIn a o hk,hc,n,by simpa using hs⟩,?_⟩
  have e:=r.length;simp only[length_toList]at e;omega
theorem Inv.list_inj(I:Inv X pins σ H s)(h:SqL X.K H a xs)(h':SqL X.K H a ys):xs=ys:=by
 obtain⟨its,r,⟨o,n,e,_,_,d⟩,_⟩:=I.list h;obtain⟨its',r',⟨o',n',e',_,_,d'⟩,_⟩:=I.list h';rw[e]at e';cases e';rw[d]at d';injection d' with d1 _
 have:its=its':=by simpa using congrArg toList d1
 subst this;exact r.inj r'
theorem Inv.tuple_inj(I:Inv X pins σ H s)(h:SqT X.K H a xs)(h':SqT X.K H a ys):xs=ys:=by
 obtain⟨its,r,⟨o,e,_,n,d⟩,_⟩:=I.tuple h;obtain⟨its',r',⟨o',e',_,n',d'⟩,_⟩:=I.tuple h';rw[e]at e';cases e';rw[d]at d';injection d' with d1 _
 have:its=its':=by simpa using congrArg toList d1
 subst this;exact r.inj r'
end
abbrev Cx.wish(X:Cx)(E:Value→Shared→Prop):Cx:={X with xe:=E}
abbrev Cx.nox(X:Cx):Cx:=X.wish λ_ _=>False
theorem Cx.Ok.wish{X:Cx}(ok:X.Ok)(E:Value→Shared→Prop):(X.wish E).Ok :=
 ⟨ok.mod,ok.kind,ok.glob,ok.blt,ok.above,ok.inj,ok.has,ok.cab,ok.hd,ok.frames,ok.stk,ok.exf,ok.bs,ok.bsz,ok.noex,ok.exfs,ok.funs,ok.frf⟩
theorem Cx.Ok.unwish{X:Cx}{E:Value→Shared→Prop}(ok:(X.wish E).Ok):X.Ok :=
 ⟨ok.mod,ok.kind,ok.glob,ok.blt,ok.above,ok.inj,ok.has,ok.cab,ok.hd,ok.frames,ok.stk,ok.exf,ok.bs,ok.bsz,ok.noex,ok.exfs,ok.funs,ok.frf⟩
section
variable{X:Cx}{pins:List (Addr×Obj)}{σ:St}{H:Hp}{s:Shared}{E:Value→Shared→Prop}
theorem Inv.wish(I:Inv X pins σ H s)(E:Value→Shared→Prop):Inv (X.wish E) pins σ H s:=⟨I.ok.wish E,I.os,I.bare,I.base,I.loc,I.cell,I.free,I.freeC,I.pin,I.hok,I.len⟩
theorem Inv.unwish(I:Inv (X.wish E) pins σ H s):Inv X pins σ H s:=⟨I.ok.unwish,I.os,I.bare,I.base,I.loc,I.cell,I.free,I.freeC,I.pin,I.hok,I.len⟩
theorem SP.unwish{D:Ends}{f:Flow}{s':Shared}(h:SP (X.wish E) pins D f s'):SP X pins D f s':=by
 cases f with
 |next=>obtain⟨σ',H',I,q⟩:=h;exact⟨σ',H',I.unwish,q⟩
 |brk=>obtain⟨σ',H',I,q⟩:=h;exact⟨σ',H',I.unwish,q⟩
 |cont=>obtain⟨σ',H',I,q⟩:=h;exact⟨σ',H',I.unwish,q⟩
 |ret u=>obtain⟨v,σ',H',I,r,q⟩:=h;exact⟨v,σ',H',I.unwish,r,q⟩
theorem PSs.nox{st:List Stmt}{t:TS}(h:PSs X.nox st t):PSs X st t:=λpins s σ H D I hw =>
 wpAny_mono (h pins s σ H D (I.wish _) hw) (λ_ _ q=>q.unwish) λ_ _ z=>False.elim z
end
section
variable{X:Cx}{st:Stmt}{rest:List Stmt}{t u:TS}{e:Expr}{te:TE}{pos:Pos}
def zN:TS:=λD σ H=>D.nx σ H
def rY(t u:TS):TS:=λD σ H=>t {D with nx:=u D} σ H
theorem ay:PSs X [] zN:=λ_ _ σ H _ I h=>wpAny_execs_nil ⟨σ,H,I,h⟩
theorem ag(h1:PS X st t)(h2:PSs X rest u):PSs X (st::rest) (rY t u):=by
 intro pins s σ H D I h;refine wpAny_execs_cons (thn (h1 pins s σ H {D with nx:=u D} I h) λf s1 q=>?_);cases f with
 |next =>
  obtain⟨σ',H',I',q⟩:=q;exact h2 pins s1 σ' H' D I' q
 |ret v=>exact q
 |brk=>exact q
 |cont=>exact q
theorem ak(h1:PS X st t):PSs X [st] t:=by
 intro pins s σ H D I h;refine wpAny_execs_cons (thn (h1 pins s σ H D I h) λf s1 q=>?_);cases f with
 |next=>exact wpAny_execs_nil q
 |ret v=>exact q
 |brk=>exact q
 |cont=>exact q
def yg:TS:=λD σ H=>D.bk σ H
theorem tw:PS X (.Break pos) yg:=λ_ _ σ H _ I h=>wpAny_Break ⟨σ,H,I,h⟩
theorem Inv.quiet{pins:List (Addr×Obj)}{σ:St}{H:Hp}{s:Shared}(I:Inv X pins σ H s):interactive X.env=false:=by simp[interactive,I.ok.kind]
def xO(te:TE):TS:=λD σ H=>te σ H λ_ H1=>D.nx σ H1
theorem bq(he:PE X e te)(hs:swapsWith e none pos.line X.env=pure false:=by rfl):PS X (.Expr e pos) (xO te):=by
 intro pins s σ H D I h;exact wpAny_Expr_any (thn (he pins s σ H _ I h) λv s1 ⟨x,H1,I1,r1,q1⟩=>⟨σ,H1,I1,q1⟩) I.quiet hs
def yh(te:TE):TS:=λD σ H=>te σ H D.rt
theorem av(he:PE X e te):PS X (.Return (some e) pos) (yh te):=by
 intro pins s σ H D I h;exact wpAny_Return_some (thn (he pins s σ H _ I h) λv s1 ⟨x,H1,I1,r1,q1⟩=>⟨x,σ,H1,I1,r1,q1⟩)
def AI(c:TT)(t u:TS):TS:=λD σ H=>c σ H λb H1=>if b=true then t D σ H1 else u D σ H1
theorem aP{c:Expr}{a b:List Stmt}{tc:TT}(hc:PT X c tc)(ha:PSs X a t)(hb:PSs X b u):PS X (.If c a b pos) (AI tc t u):=by
 intro pins s σ H D I h;refine wpAny_If (thn (hc pins s σ H _ I h) λd s1 hpt=>?_);obtain⟨H1,I1,q1⟩:=hpt;cases d with
 |true=>exact ha pins s1 σ H1 D I1 q1
 |false=>exact hb pins s1 σ H1 D I1 q1
def yi:TS:=λ_ _ _=>False
theorem nU:PS X st yi:=λ_ _ _ _ _ _ h=>h.elim
end
abbrev TG:=V→St→Hp→(St→Hp→Prop)→Prop
abbrev TGs:=List V→St→Hp→(St→Hp→Prop)→Prop
def PG(X:Cx)(target:Expr)(t:TG):Prop :=
 ∀(pins:List (Addr×Obj))(s:Shared)(σ:St)(H:Hp)(v:V)(u:Value)(Q:St→Hp→Prop),Inv X pins σ H s→aL v u→t v σ H Q →
  wpAny (model X.prog X.w) X.A (assign target X.env u) (λ_ s'=>∃σ' H',Inv X pins σ' H' s'∧Q σ' H') X.xe s
def PGs(X:Cx)(ts:List Expr)(t:TGs):Prop :=
 ∀(pins:List (Addr×Obj))(s:Shared)(σ:St)(H:Hp)(vs:List V)(us:List Value)(Q:St→Hp→Prop),Inv X pins σ H s→aH vs us→t vs σ H Q →
  wpAny (model X.prog X.w) X.A (assignInOrder ((assignEach ts X.env).map (·.2)) us) (λ_ s'=>∃σ' H',Inv X pins σ' H' s'∧Q σ' H') X.xe s
section
variable{X:Cx}{pos:Pos}
def bj(i:Nat):TG:=λv σ H Q=>Q (σ.set i (some v)) H
theorem aE{i:Nat}{x:Str}(hN:X.N.Nodup)(hi:X.N[i]?=some x)(hx:Loc X.env.scope x)(hf:X.fn x=true∨X.env.scope.names.lookup x=some .local:=by first|exact .inl rfl|exact .inr rfl|assumption):PG X (.Name x pos) (bj i):=by
 intro pins s σ H v u Q I r h;exact wpAny_assign_Name (nQ I hN hi hx r (λs' I'=>⟨_,H,I',h⟩) hf)
def we:TGs:=λvs σ H Q=>vs=[]∧Q σ H
def iS(t:TG)(u:TGs):TGs:=λvs σ H Q=>∃v r,vs=v::r∧t v σ H λσ' H'=>u r σ' H' Q
theorem lT:PGs X [] we:=by
 intro pins s σ H vs us Q I r h;obtain⟨e,h⟩:=h;subst e;cases r;exact assignInOrder_nil ⟨σ,H,I,h⟩
theorem cV{e:Expr}{es:List Expr}{t:TG}{u:TGs}(h1:PG X e t)(h2:PGs X es u)(hs:(assignEach (e::es) X.env).map (·.2)=assign e X.env::(assignEach es X.env).map (·.2):=by rfl):PGs X (e::es) (iS t u):=by
 intro pins s σ H vs us Q I r h;obtain⟨v,vr,e1,h⟩:=h;subst e1;cases r with
 |cons r rr =>
  rw[hs];refine assignInOrder_cons (thn (h1 pins s σ H _ _ _ I r h) λ_ s1 hpt=>?_);obtain⟨σ1,H1,I1,q1⟩:=hpt;exact h2 pins s1 σ1 H1 _ _ Q I1 rr q1
def wf(K:PySem.W.Frag)(n:Nat)(t:TGs):TG:=λv σ H Q=>∃a xs,v=.ref a∧SqT K H a xs∧xs.length=n∧t xs σ H Q
theorem pE{es:List Expr}{k:Nat}{t:TGs}{n:Nat}(hc:X.calm=true)(h:PGs X es t)(hn:(assignEach es X.env).length=n:=by rfl)(hst:(assignEach es X.env).findIdx? (·.1)=none:=by rfl):PG X (.Tuple es k pos) (wf X.K n t):=by
 intro pins s σ H v u Q I r hw;obtain⟨a,xs,e1,hq,hl,hw⟩:=hw;subst e1;cases r;obtain⟨its,rv,ht,hz⟩:=I.tuple hq;refine assign_Tuple_tuple (I.ok.hd hc) ht (by simp[hn,←hl,rv.length]) hst λh' hx=>?_;have I1:Inv X pins σ H {s with heap:=h'}:=I.kept (t':=s.toks) λb o e=>hx b o (ne_of_lt (lt_size e)) e
 exact h pins _ σ H xs _ Q I1 (by simpa using rv) hw
def zO(te:TE)(g:TG):TS:=λD σ H=>te σ H λx H1=>g x σ H1 D.nx
theorem aA{i:Nat}{x:Str}{e:Expr}{te:TE}{pos':Pos}(hN:X.N.Nodup)(hi:X.N[i]?=some x)(hx:Loc X.env.scope x)(he:PE X e te)(hs:swapsWith e (some (.Name x pos')) pos.line X.env=pure false:=by rfl)(hf:X.fn x=true∨X.env.scope.names.lookup x=some .local:=by first|exact .inl rfl|exact .inr rfl|assumption):
  PS X (.Assign [.Name x pos'] e pos) (zO te (bj i)):=by
 intro pins s σ H D I h;refine wpAny_Assign_Name (thn (he pins s σ H _ I h) λv s1 ⟨y,H1,I1,r1,q1⟩=>?_) hs;exact nQ I1 hN hi hx r1 (λs2 I2=>⟨_,H1,I2,q1⟩) hf
def tD(c:TT)(tb:TS):TS:=λD σ H=>∃W:Nat→St→Hp→Prop,(∃m,W m σ H)∧∀m σ H,W m σ H →
 c σ H λb H1=>if b=true then ∃N:St→Hp→Prop,(∀σ' H',N σ' H'→∃m',m'<m∧W m' σ' H')∧tb {D with nx:=N,ct:=N,bk:=D.nx} σ H1 else D.nx σ H1
theorem nV{c:Expr}{body:List Stmt}{tc:TT}{tb:TS}(hp:PassesOwn (model X.prog X.w) X.A X.env X.xe)(hc:PT X c tc)(hb:PSs X body tb):PS X (.While c body [] pos) (tD tc tb):=by
 intro pins s σ H D I h;obtain⟨W,⟨m0,w0⟩,turn⟩:=h;refine wpAny_While (codeAny_whileLoop (λn s'=>∃σ' H',Inv X pins σ' H' s'∧W n σ' H') ?_ m0 ⟨σ,H,I,w0⟩);rintro n s1 ⟨σ1,H1,I1,w1⟩;refine wpAny_passesOwn hp (thn (hc pins s1 σ1 H1 _ I1 (turn n σ1 H1 w1)) λb s2 hpt=>?_);obtain⟨H2,I2,q2⟩:=hpt;cases b with
 |true =>
  obtain⟨N,hN,q2⟩:=q2;rw[if_pos rfl];refine wpAny_passesOwn hp (thn (hb pins s2 σ1 H2 _ I2 q2) λf s3 q3=>?_);cases f with
  |next =>
   obtain⟨σ3,H3,I3,n3⟩:=q3;obtain⟨m',hm,w3⟩:=hN σ3 H3 n3;exact⟨m',hm,σ3,H3,I3,w3⟩
  |cont =>
   obtain⟨σ3,H3,I3,n3⟩:=q3;obtain⟨m',hm,w3⟩:=hN σ3 H3 n3;exact⟨m',hm,σ3,H3,I3,w3⟩
  |brk=>exact q3
  |ret v=>exact q3
 |false =>
  rw[if_neg Bool.false_ne_true];exact wpAny_execs_nil ⟨σ1,H2,I2,q2⟩
end
structure It where
 go:Nat→Hp→Prop
 yld:Nat→Hp→V→Hp→Prop
 stop:Nat→Hp→Prop
def gE(X:Cx)(pins:List (Addr×Obj))(H:Hp)(b:Addr):Prop :=
 H b=none∧b≠X.env.locals∧b∉X.fs∧(b∈X.ex∨X.s₀.heap.objs.size≤b)∧(∀x c,X.env.cells.lookup x=some c→c≠b)∧∀p∈X.pn++pins,p.1≠b
theorem Inv.fpOk{X:Cx}{pins:List (Addr×Obj)}{σ:St}{H H':Hp}{s:Shared}{b:Addr}(I:Inv X pins σ H s)(hb:s.heap.objs.size≤b)(hn:H' b=none):gE X pins H' b:=by
 refine⟨hn,ne_of_gt (lt_of_lt_of_le I.lt hb),I.nofs hb,.inr (le_trans I.sz hb),λx c e z=>?_,λp hp z=>?_⟩
 ·obtain⟨v,q⟩:=I.cell x c e;exact absurd (lt_of_lt_of_le q.lt (by rw[z];exact hb)) (lt_irrefl _)
 ·exact absurd (lt_of_lt_of_le (lt_size (I.pin p hp).1) (by rw[z];exact hb)) (lt_irrefl _)
structure Turn(P:Program)(w:World)(K:PySem.W.Frag)(tg:Expr)(J:It)(fp:List Addr)(it:Addr)(tn:Nat→Heap→Prop):Prop where
 mem:it∈fp
 obj:∀i h,tn i h→∀b∈fp,∃o,h.get? b=some o∧∀v,o.data≠.cell v
 keep:∀i h h',tn i h→(∀b∈fp,∀o,h.get? b=some o→h'.get? b=some o)→tn i h'
 item:∀(X:Cx),X.prog=P→X.w=w→X.K=K→X.calm=true→∀(i:Nat)(pins:List (Addr×Obj))(s:Shared)(σ:St)(H:Hp)(E:Value→Shared→Prop),Inv X pins σ H s→(∀b∈fp,gE X pins H b)→tn i s.heap→J.go i H →
  wpAny (model P w) X.A (pyNext (.ref it)) (λr s1=>∃u,r=some u ∧
   wpAny (model P w) X.A (letOwnedTupleGo tg (.ref it) u) (λ_ s2=>∃x H',Inv X pins σ H' s2∧aL x u∧J.yld i H x H'∧tn (i+1) s2.heap∧∀b∈fp,H' b=none) E s1) E s
 done:∀(X:Cx),X.prog=P→X.w=w→X.K=K→X.calm=true→∀(i:Nat)(pins:List (Addr×Obj))(s:Shared)(σ:St)(H:Hp)(E:Value→Shared→Prop),Inv X pins σ H s→(∀b∈fp,gE X pins H b)→tn i s.heap→J.stop i H →
  wpAny (model P w) X.A (pyNext (.ref it)) (λr s1=>r=none∧Inv X pins σ H s1) E s
 self:∀(A:Around)(i:Nat)(s:Shared)(Q:Value→Shared→Prop)(E:Value→Shared→Prop),tn i s.heap→Q (.ref it) s→wpAny (model P w) A (pyIter (.ref it)) Q E s
abbrev TI:=St→Hp→(It→Hp→Prop)→Prop
def PIE(X:Cx)(pins:List (Addr×Obj))(σ:St)(tg:Expr)(R:It→Hp→Prop)(itv:Value)(s2:Shared):Prop :=
 ∃(it:Addr) (fp:List Addr) (tn:Nat→Heap→Prop) (J:It) (H':Hp),itv=.ref it∧Inv X pins σ H' s2∧Turn X.prog X.w X.K tg J fp it tn∧tn 0 s2.heap∧(∀b∈fp,gE X pins H' b)∧R J H'
def PI(X:Cx)(tg iter:Expr)(wi:TI):Prop :=
 ∀(pins:List (Addr×Obj))(s:Shared)(σ:St)(H:Hp)(R:It→Hp→Prop),Inv X pins σ H s→wi σ H R →
  wpAny (model X.prog X.w) X.A (eval iter X.env) (λv s1=>wpAny (model X.prog X.w) X.A (pyIter v) (PIE X pins σ tg R) X.xe s1) X.xe s
theorem nW{M:Model}{A:Around}{E:Value→Shared→Prop}{s:Shared}{tg:Expr}{it:Addr}{u:Value}{o:Obj}{n:String}{vs:Array Value}{Q:Unit→Shared→Prop}(ho:s.heap.get? it=some o)(hc:o.cls=.type n)(hd:o.data=.fields vs)(hn:["enumerate","zip","dict_itemiterator","dict_reverseitemiterator","odict_iterator","itertools.zip_longest","itertools.pairwise"].contains n=false)(hQ:Q () s):wpAny M A (letOwnedTupleGo tg (.ref it) u) Q E s:=by
 unfold letOwnedTupleGo;cases tg<;>first
  |exact wpAny_pure hQ
  | (cases u<;>first
    |exact wpAny_pure hQ
    | (refine wpAny_bind (wpAny_load ho ?_)
       rw[hc,hd];show wpAny M A (if (["enumerate","zip","dict_itemiterator","dict_reverseitemiterator","odict_iterator","itertools.zip_longest","itertools.pairwise"].contains n&&vs[0]?==some (rawInt _))=true then _ else _) Q E s
       rw[if_neg (by intro h;rw[hn,Bool.false_and]at h;cases h)];exact wpAny_pure hQ))
def Itl(K:PySem.W.Frag)(a:Addr):It :=
 ⟨λi H=>∃xs x,SqL K H a xs∧xs[i]?=some x,λi H x H'=>H'=H∧∀xs,SqL K H a xs→xs[i]?=some x,λi H=>∃xs,SqL K H a xs∧xs.length≤i⟩
def Itt(K:PySem.W.Frag)(a:Addr):It :=
 ⟨λi H=>∃xs x,SqT K H a xs∧xs[i]?=some x,λi H x H'=>H'=H∧∀xs,SqT K H a xs→xs[i]?=some x,λi H=>∃xs,SqT K H a xs∧xs.length≤i⟩
def Itr(lo:Int)(n:Nat):It:=⟨λi _=>i<n,λi H x H'=>H'=H∧x=.int (lo+i),λi _=>n≤i⟩
theorem rZ{P:Program}{w:World}{K:PySem.W.Frag}{tg:Expr}(a it:Addr):Turn P w K tg (Itl K a) [it] it (λi h=>h.IsListIter it a i) where
 mem:=by simp
 obj:=λi h st b hb=>by
  have e:b=it:=by simpa using hb
  subst e;obtain⟨o,e,c,d⟩:=st;exact⟨o,e,λv z=>by rw[d]at z;cases z⟩
 keep:=λi h h' st k=>st.at λo e=>k it (by simp) o e
 item:=by
  intro X hP hw hK hc i pins s σ H E I hf st hg;subst hP hw hK;obtain⟨xs,x,hq,hx⟩:=hg;obtain⟨its,rv,p,hz⟩:=I.list hq;obtain⟨u,hu,ru⟩:=rv.get hx;obtain⟨f0,f1,f2,f3,f4,f5⟩:=hf it (by simp);refine wpAny_pyNext_list_item st p.isList (x:=u) (by simpa using hu) λh' st' sb=>?_;have I1:Inv X pins σ H {s with heap:=h'}:=I.turned (t':=s.toks) (λb o hb e=>(sb.2 b hb).trans e) f0 f1 f3 f4 f5
  obtain⟨o,e,c,d⟩:=id st';exact⟨u,rfl,nW (s:={s with heap:=h'}) e c d (by decide) ⟨x,H,I1,ru,⟨rfl,λys hy=>by rw[I.list_inj hy hq];exact hx⟩,st',λb hb=>(hf b hb).1⟩⟩
 done:=by
  intro X hP hw hK hc i pins s σ H E I hf st hg;subst hP hw hK;obtain⟨xs,hq,hx⟩:=hg;obtain⟨its,rv,p,hz⟩:=I.list hq;obtain⟨f0,f1,f2,f3,f4,f5⟩:=hf it (by simp);have hl:=rv.length;exact wpAny_pyNext_list_end (I.ok.hd hc) st p.isList (by simp;omega) λh' eb=>⟨rfl,I.turned (t':=s.toks) (λb o hb e=>eb b o hb e) f0 f1 f3 f4 f5⟩
 self:=λ_ _ _ _ _ st h=>wpAny_pyIter_listiter st h
theorem pF{P:Program}{w:World}{K:PySem.W.Frag}{tg:Expr}(a it:Addr):Turn P w K tg (Itt K a) [it] it (λi h=>h.IsTupleIter it a i) where
 mem:=by simp
 obj:=λi h st b hb=>by
  have e:b=it:=by simpa using hb
  subst e;obtain⟨o,e,c,d⟩:=st;exact⟨o,e,λv z=>by rw[d]at z;cases z⟩
 keep:=λi h h' st k=>st.at λo e=>k it (by simp) o e
 item:=by
  intro X hP hw hK hc i pins s σ H E I hf st hg;subst hP hw hK;obtain⟨xs,x,hq,hx⟩:=hg;obtain⟨its,rv,p,hz⟩:=I.tuple hq;obtain⟨u,hu,ru⟩:=rv.get hx;obtain⟨f0,f1,f2,f3,f4,f5⟩:=hf it (by simp);refine wpAny_pyNext_tuple_item st (show s.heap.IsTuple a its.toArray from p) (x:=u) (by simpa using hu) λh' st' sb=>?_;have I1:Inv X pins σ H {s with heap:=h'}:=I.turned (t':=s.toks) (λb o hb e=>(sb.2 b hb).trans e) f0 f1 f3 f4 f5
  obtain⟨o,e,c,d⟩:=id st';exact⟨u,rfl,nW (s:={s with heap:=h'}) e c d (by decide) ⟨x,H,I1,ru,⟨rfl,λys hy=>by rw[I.tuple_inj hy hq];exact hx⟩,st',λb hb=>(hf b hb).1⟩⟩
 done:=by
  intro X hP hw hK hc i pins s σ H E I hf st hg;subst hP hw hK;obtain⟨xs,hq,hx⟩:=hg;obtain⟨its,rv,p,hz⟩:=I.tuple hq;obtain⟨f0,f1,f2,f3,f4,f5⟩:=hf it (by simp);have hl:=rv.length;exact wpAny_pyNext_tuple_end (I.ok.hd hc) st (show s.heap.IsTuple a its.toArray from p) (by simp;omega) λh' eb=>⟨rfl,I.turned (t':=s.toks) (λb o hb e=>eb b o hb e) f0 f1 f3 f4 f5⟩
 self:=λ_ _ _ _ _ st h=>wpAny_pyIter_tupleiter st h
theorem pG{P:Program}{w:World}{K:PySem.W.Frag}{tg:Expr}(it:Addr)(lo:Int)(n:Nat):Turn P w K tg (Itr lo n) [it] it (λi h=>IsRangeIter h it (lo+(i:Nat)*1) ((n:Int)-(i:Nat)) 1) where
 mem:=by simp
 obj:=λi h st b hb=>by
  have e:b=it:=by simpa using hb
  subst e;exact⟨_,st,λv z=>by
   have z':Data.fields _=Data.cell v:=z;cases z'⟩
 keep:=λi h h' st k=>k it (by simp) _ st
 item:=by
  intro X hP hw hK hc i pins s σ H E I hf st hg;subst hP hw hK;obtain⟨f0,f1,f2,f3,f4,f5⟩:=hf it (by simp);have W:=Walks.range (prog:=X.prog) (w:=X.w) (I.ok.hd hc) it lo 1 n;refine W.item i s _ _ hg st λv h' tk hv st' kk=>?_;obtain⟨t,rfl⟩:=hv;have I1:Inv X pins σ H {s with heap:=h',toks:=tk}:=I.turned (λb o hb e=>kk b o (by simpa using hb) e) f0 f1 f3 f4 f5
  refine⟨_,rfl,nW (s:={s with heap:=h',toks:=tk}) (n:="range_iterator") st' rfl rfl (by decide) ⟨.int (lo+i),H,I1,⟨t,?_⟩,⟨rfl,rfl⟩,st',λb hb=>(hf b hb).1⟩⟩;rw[Int.mul_one]
 done:=by
  intro X hP hw hK hc i pins s σ H E I hf st hg;subst hP hw hK;obtain⟨f0,f1,f2,f3,f4,f5⟩:=hf it (by simp);exact wpAny_pyNext_range_end (I.ok.hd hc) st (by have:n≤i:=hg;omega) λh' eb=>⟨rfl,I.turned (t':=s.toks) (λb o hb e=>eb b o hb e) f0 f1 f3 f4 f5⟩
 self:=λ_ _ _ _ _ st h=>wpAny_pyIter_rangeiter st h
section
variable{X:Cx}{tg:Expr}
def zP(K:PySem.W.Frag)(tl:TE):TI:=λσ H R=>tl σ H λx H1=>∃a,x=.ref a∧(∃xs,SqL K H1 a xs)∧R (Itl K a) H1
def AJ(K:PySem.W.Frag)(tl:TE):TI:=λσ H R=>tl σ H λx H1=>∃a,x=.ref a∧(∃xs,SqT K H1 a xs)∧R (Itt K a) H1
theorem cR{l:Expr}{tl:TE}(hl:PE X l tl):PI X tg l (zP X.K tl):=by
 intro pins s σ H R I h;refine thn (hl pins s σ H _ I h) λv s1 hpt=>?_;obtain⟨x,H1,I1,r1,q1⟩:=hpt;obtain⟨a,e,⟨xs,hq⟩,q⟩:=q1;subst e;cases r1;obtain⟨its,rv,p,hz⟩:=I1.list hq;refine wpAny_pyIter_list p.isList ?_;refine⟨s1.heap.objs.size,[s1.heap.objs.size],_,_,H1,rfl,I1.kept (t':=s1.toks) λb o e=>get?_push_of_some _ e,rZ a _,⟨_,get?_push_size _ rfl,rfl,rfl⟩,λb hb=>?_,q⟩;have e:b=s1.heap.objs.size:=by simpa using hb
 subst e;exact I1.fpOk (le_refl _) (I1.hok.fresh (le_refl _))
theorem cx{l:Expr}{tl:TE}(hl:PE X l tl):PI X tg l (AJ X.K tl):=by
 intro pins s σ H R I h;refine thn (hl pins s σ H _ I h) λv s1 hpt=>?_;obtain⟨x,H1,I1,r1,q1⟩:=hpt;obtain⟨a,e,⟨xs,hq⟩,q⟩:=q1;subst e;cases r1;obtain⟨its,rv,p,hz⟩:=I1.tuple hq;refine wpAny_pyIter_tuple (show s1.heap.IsTuple a its.toArray from p) ?_;refine⟨s1.heap.objs.size,[s1.heap.objs.size],_,_,H1,rfl,I1.kept (t':=s1.toks) λb o e=>get?_push_of_some _ e,pF a _,⟨_,get?_push_size _ rfl,rfl,rfl⟩,λb hb=>?_,q⟩;have e:b=s1.heap.objs.size:=by simpa using hb
 subst e;exact I1.fpOk (le_refl _) (I1.hok.fresh (le_refl _))
theorem tE{pins:List (Addr×Obj)}{σ:St}{H:Hp}{s:Shared}{R:It→Hp→Prop}{E:Value→Shared→Prop}{lo hi:Int}{t u v:Tok}{tk:Nat}(I:Inv X pins σ H s)(h1:-(2 ^ 62)≤lo)(h2:lo<2 ^ 62)(h3:-(2 ^ 62)≤hi)(h4:hi<2 ^ 62)(q:R (Itr lo (hi-lo).toNat) H):wpAny (model X.prog X.w) X.A (pyIter (.ref s.heap.objs.size)) (PIE X pins σ tg R) E {s with heap:=s.heap.push {cls:=.type "range",data:=.fields #[.int lo t,.int hi u,.int 1 v]},toks:=tk}:=by
 refine wpAny_pyIter_range (IsRange.new ..) (small_one h1 h2 h3 h4) ?_;have I1:Inv X pins σ H {s with heap:=s.heap.push {cls:=.type "range",data:=.fields #[.int lo t,.int hi u,.int 1 v]},toks:=tk}:=I.kept λb o e=>get?_push_of_some _ e
 refine⟨(s.heap.push {cls:=.type "range",data:=.fields #[.int lo t,.int hi u,.int 1 v]}).objs.size,[(s.heap.push {cls:=.type "range",data:=.fields #[.int lo t,.int hi u,.int 1 v]}).objs.size],_,_,H,rfl,
  I1.kept (t':=tk) λb o e=>get?_push_of_some _ e,pG _ lo (hi-lo).toNat,?_,λb hb=>?_,q⟩
 ·have e1:lo+((0:Nat):Int)*1=lo:=by simp
  have e2:(((hi-lo).toNat:Nat):Int)-((0:Nat):Int)=Builtin.Range.rangeSize lo hi 1:=by rw[rangeSize_one];split<;>omega
  show IsRangeIter _ _ (lo+((0:Nat):Int)*1) ((((hi-lo).toNat:Nat):Int)-((0:Nat):Int)) 1;rw[e1,e2];exact get?_push_size _ rfl
 ·have e:b=(s.heap.push {cls:=.type "range",data:=.fields #[.int lo t,.int hi u,.int 1 v]}).objs.size:=by simpa using hb
  subst e;exact I1.fpOk (le_refl _) (I1.hok.fresh (le_refl _))
def zQ(ta:TA):TI:=λσ H R=>ta σ H λvs H1=>∃j:Int,vs=[.int j]∧-(2 ^ 62)≤j∧j<2 ^ 62∧R (Itr 0 j.toNat) H1
theorem iw{a:Expr}{ta:TA}{p pos:Pos}(hg:Gl X "range")(hm:X.mg "range"=none)(ha:PA X [a] ta)(hs:starEach [a] X.env=[(false,eval a X.env)]:=by rfl):PI X tg (.Call (.Name "range" p) [a] [] pos) (zQ ta):=by
 intro pins s σ H R I h;refine Call_ (jx I hg hm boot_range (PyProof.Rows.callWith_type1 (thn (ha pos pins s σ H _ I h) λus s1 ⟨vs,H1,I1,r1,q1⟩=>?_) hs rfl));obtain⟨j,e,q1,q2,q⟩:=q1;subst e;cases r1 with
 |cons r rr =>
  cases rr;obtain⟨t,rfl⟩:=r;exact call_range_1 (tE I1 (by omega) (by omega) q1 q2 (by simpa using q))
def AK(wi:TI)(g:TG)(tb:TS):TS:=λD σ H=>wi σ H λJ H1=>∃W:Nat→Nat→St→Hp→Prop,(∃m,W 0 m σ H1)∧∀i m σ H,W i m σ H →
 (J.stop i H∧D.nx σ H)∨(J.go i H∧∃N:St→Hp→Prop,(∀σ' H',N σ' H'→∃m',m'<m∧W (i+1) m' σ' H')∧∀x H',J.yld i H x H'→g x σ H' λσ2 H2=>tb {D with nx:=N,ct:=N,bk:=D.nx} σ2 H2)
def lU(fp:List Addr)(h:Heap):List (Addr×Obj):=fp.filterMap λb=>(h.get? b).map λo=>(b,o)
theorem bx{fp:List Addr}{h:Heap}{b:Addr}{o:Obj}(hb:b∈fp)(e:h.get? b=some o):(b,o)∈lU fp h:=mem_filterMap.mpr ⟨b,hb,by rw[e];rfl⟩
theorem se{fp:List Addr}{h:Heap}{p:Addr×Obj}(hp:p∈lU fp h):p.1∈fp∧h.get? p.1=some p.2:=by
 obtain⟨b,hb,e⟩:=mem_filterMap.mp hp;cases q:h.get? b with
 |none=>rw[q]at e;cases e
 |some o =>
  rw[q]at e;have e':(b,o)=p:=Option.some.inj e;subst e';exact⟨hb,q⟩
theorem Inv.pinned{pins:List (Addr×Obj)}{σ:St}{H:Hp}{s:Shared}{fp:List Addr}(I:Inv X pins σ H s)(hf:∀b∈fp,gE X pins H b)(ho:∀b∈fp,∃o,s.heap.get? b=some o∧∀v,o.data≠.cell v):Inv X (pins++lU fp s.heap) σ H s :=
 I.pins_of λp hp=>(mem_append.mp hp).elim (λz=>I.pin p (mem_append_right _ z)) λz=>by
  obtain⟨hb,e⟩:=se z;obtain⟨f0,f1,f2,_⟩:=hf p.1 hb;obtain⟨o,e',d⟩:=ho p.1 hb;rw[e]at e';cases e';exact⟨e,f0,f1,f2,d⟩
theorem Inv.unpinned{pins pl:List (Addr×Obj)}{σ:St}{H:Hp}{s:Shared}(I:Inv X (pins++pl) σ H s):Inv X pins σ H s:=I.pins_of λp hp=>I.pin p (mem_append_right _ (List.mem_append_left _ hp))
theorem dQ{iter:Expr}{body:List Stmt}{wi:TI}{g:TG}{tb:TS}{pos:Pos}(hp:PassesOwn (model X.prog X.w) X.A X.env X.xe)(hc:X.calm=true)(hi:PI X tg iter wi)(hg:PG X tg g)(hb:PSs X body tb)(hs:∀x,foldedSetIterable iter X.env x=pure x:=by intro _;rfl):PS X (.For tg iter body [] pos) (AK wi g tb):=by
 intro pins s σ H D I h;refine wpAny_For (thn (hi pins s σ H _ I h) λv s1 h1=>thn h1 λitv s2 h2=>?_) hs;obtain⟨it,fp,tn,J,H2,e,I2,T,st2,f2,W,⟨m0,w0⟩,turn⟩:=h2;subst e;have stat:∀{H':Hp},(∀b∈fp,H' b=none)→∀b∈fp,gE X pins H' b:=λhn b hb=>⟨hn b hb,(f2 b hb).2⟩;refine codeAny_forLoop_any (λn s'=>∃i σ' H',Inv X pins σ' H' s'∧tn i s'.heap∧(∀b∈fp,H' b=none)∧W i n σ' H') ?_ m0 ⟨0,σ,H2,I2,st2,λb hb=>(f2 b hb).1,w0⟩;rintro n s3 ⟨i,σ3,H3,I3,st3,fr3,w3⟩;rcases turn i n σ3 H3 w3 with⟨stop,qn⟩|⟨go,N,hN,step⟩
 ·refine wpAny_passesOwn hp (thn (T.done X rfl rfl rfl hc i pins s3 σ3 H3 X.xe I3 (stat fr3) st3 stop) λr s4 hpt=>?_);obtain⟨hr,I4⟩:=hpt;subst hr;exact wpAny_execs_nil ⟨σ3,H3,I4,qn⟩
 ·refine wpAny_passesOwn hp (thn (T.item X rfl rfl rfl hc i pins s3 σ3 H3 X.xe I3 (stat fr3) st3 go) λr s4 hpt=>?_);obtain⟨u,hr,h4⟩:=hpt;subst hr;refine wpAny_passesOwn hp (thn h4 λ_ s5 hpt=>?_);obtain⟨x,H5,I5,r5,y5,st5,fr5⟩:=hpt;have I5':=I5.pinned (stat fr5) (T.obj _ _ st5);refine wpAny_passesOwn hp (thn (hg _ s5 σ3 H5 x u _ I5' r5 (step x H5 y5)) λ_ s6 hpt=>?_);obtain⟨σ6,H6,I6,q6⟩:=hpt;refine wpAny_passesOwn hp (thn (hb _ s6 σ6 H6 _ I6 q6) λf s7 q7=>?_);have again:∀{σ7:St}{H7:Hp},Inv X (pins++lU fp s5.heap) σ7 H7 s7→N σ7 H7→∃m,m<n∧∃i σ' H',Inv X pins σ' H' s7∧tn i s7.heap∧(∀b∈fp,H' b=none)∧W i m σ' H':=λ{σ7 H7} I7 n7=>by
   obtain⟨m',hm,w7⟩:=hN σ7 H7 n7;refine⟨m',hm,i+1,σ7,H7,I7.unpinned,T.keep _ _ _ st5 λb hb o e=>(I7.pin (b,o) (mem_append_right _ (mem_append_right _ (bx hb e)))).1,λb hb=>?_,w7⟩;obtain⟨o,e,d⟩:=T.obj _ _ st5 b hb;exact(I7.pin (b,o) (mem_append_right _ (mem_append_right _ (bx hb e)))).2.1
  cases f with
  |next=>obtain⟨σ7,H7,I7,n7⟩:=q7;exact again I7 n7
  |cont=>obtain⟨σ7,H7,I7,n7⟩:=q7;exact again I7 n7
  |brk=>obtain⟨σ7,H7,I7,q7⟩:=q7;exact⟨σ7,H7,I7.unpinned,q7⟩
  |ret v=>obtain⟨x7,σ7,H7,I7,r7,q7⟩:=q7;exact⟨x7,σ7,H7,I7.unpinned,r7,q7⟩
end
theorem gS{K:PySem.W.Frag}{a:Addr}{xs:List V}{g:TG}{tb:TS}{D:Ends}{σ:St}{H:Hp}(Pv:Nat→St→Hp→Prop)(h0:Pv 0 σ H)(hl:∀i σ H,i≤xs.length→Pv i σ H→SqL K H a xs)(hs:∀i x σ H,xs[i]?=some x→Pv i σ H→g x σ H λσ2 H2=>tb {D with nx:=Pv (i+1),ct:=Pv (i+1),bk:=D.nx} σ2 H2)(hd:∀σ H,Pv xs.length σ H→D.nx σ H):
  ∃W:Nat→Nat→St→Hp→Prop,(∃m,W 0 m σ H)∧∀i m σ H,W i m σ H →
   ((Itl K a).stop i H∧D.nx σ H)∨((Itl K a).go i H∧∃N:St→Hp→Prop,(∀σ' H',N σ' H'→∃m',m'<m∧W (i+1) m' σ' H')∧∀x H',(Itl K a).yld i H x H'→g x σ H' λσ2 H2=>tb {D with nx:=N,ct:=N,bk:=D.nx} σ2 H2):=by
 refine⟨λi m σ H=>m=xs.length-i∧i≤xs.length∧Pv i σ H,⟨xs.length,by simp,zero_le _,h0⟩,?_⟩;rintro i m σ H ⟨rfl,hi,p⟩;have q:=hl i σ H hi p
 by_cases hlt:i<xs.length
 ·refine .inr ⟨⟨xs,xs[i],q,by simp[hlt]⟩,Pv (i+1),λσ' H' p'=>⟨xs.length-(i+1),by omega,rfl,hlt,p'⟩,λx H' y=>?_⟩;obtain⟨e,y⟩:=y;subst e;exact hs i x σ _ (y xs q) p
 ·have e:i=xs.length:=by omega
  subst e;exact .inl ⟨⟨xs,q,le_refl _⟩,hd σ H p⟩
theorem lV{K:PySem.W.Frag}{a:Addr}{xs:List V}{g:TG}{tb:TS}{D:Ends}{σ:St}{H:Hp}(Pv:Nat→St→Hp→Prop)(h0:Pv 0 σ H)(hl:∀i σ H,i≤xs.length→Pv i σ H→SqT K H a xs)(hs:∀i x σ H,xs[i]?=some x→Pv i σ H→g x σ H λσ2 H2=>tb {D with nx:=Pv (i+1),ct:=Pv (i+1),bk:=D.nx} σ2 H2)(hd:∀σ H,Pv xs.length σ H→D.nx σ H):
  ∃W:Nat→Nat→St→Hp→Prop,(∃m,W 0 m σ H)∧∀i m σ H,W i m σ H →
   ((Itt K a).stop i H∧D.nx σ H)∨((Itt K a).go i H∧∃N:St→Hp→Prop,(∀σ' H',N σ' H'→∃m',m'<m∧W (i+1) m' σ' H')∧∀x H',(Itt K a).yld i H x H'→g x σ H' λσ2 H2=>tb {D with nx:=N,ct:=N,bk:=D.nx} σ2 H2):=by
 refine⟨λi m σ H=>m=xs.length-i∧i≤xs.length∧Pv i σ H,⟨xs.length,by simp,zero_le _,h0⟩,?_⟩;rintro i m σ H ⟨rfl,hi,p⟩;have q:=hl i σ H hi p
 by_cases hlt:i<xs.length
 ·refine .inr ⟨⟨xs,xs[i],q,by simp[hlt]⟩,Pv (i+1),λσ' H' p'=>⟨xs.length-(i+1),by omega,rfl,hlt,p'⟩,λx H' y=>?_⟩;obtain⟨e,y⟩:=y;subst e;exact hs i x σ _ (y xs q) p
 ·have e:i=xs.length:=by omega
  subst e;exact .inl ⟨⟨xs,q,le_refl _⟩,hd σ H p⟩
theorem ix{lo:Int}{n:Nat}{g:TG}{tb:TS}{D:Ends}{σ:St}{H:Hp}(Pv:Nat→St→Hp→Prop)(h0:Pv 0 σ H)(hs:∀i σ H,i<n→Pv i σ H→g (.int (lo+i)) σ H λσ2 H2=>tb {D with nx:=Pv (i+1),ct:=Pv (i+1),bk:=D.nx} σ2 H2)(hd:∀σ H,Pv n σ H→D.nx σ H):
  ∃W:Nat→Nat→St→Hp→Prop,(∃m,W 0 m σ H)∧∀i m σ H,W i m σ H →
   ((Itr lo n).stop i H∧D.nx σ H)∨((Itr lo n).go i H∧∃N:St→Hp→Prop,(∀σ' H',N σ' H'→∃m',m'<m∧W (i+1) m' σ' H')∧∀x H',(Itr lo n).yld i H x H'→g x σ H' λσ2 H2=>tb {D with nx:=N,ct:=N,bk:=D.nx} σ2 H2):=by
 refine⟨λi m σ H=>m=n-i∧i≤n∧Pv i σ H,⟨n,by simp,zero_le _,h0⟩,?_⟩;rintro i m σ H ⟨rfl,hi,p⟩
 by_cases hlt:i<n
 ·refine .inr ⟨hlt,Pv (i+1),λσ' H' p'=>⟨n-(i+1),by omega,rfl,hlt,p'⟩,λx H' y=>?_⟩;obtain⟨e,y⟩:=y;subst e y;exact hs i σ _ hlt p
 ·have e:i=n:=by omega
  subst e;exact .inl ⟨le_refl _,hd σ H p⟩
theorem nX{c:TT}{tb:TS}{D:Ends}{σ:St}{H:Hp}(Pv:St→Hp→Prop)(μ:St→Hp→Nat)(h0:Pv σ H)(hs:∀σ H,Pv σ H→c σ H λb H1=>if b=true then tb {D with nx:=λσ' H'=>Pv σ' H'∧μ σ' H'<μ σ H,ct:=λσ' H'=>Pv σ' H'∧μ σ' H'<μ σ H,bk:=D.nx} σ H1 else D.nx σ H1)(mono:∀σ H Q Q',(∀b H1,Q b H1→Q' b H1)→c σ H Q→c σ H Q'):tD c tb D σ H:=by
 refine⟨λm σ H=>m=μ σ H∧Pv σ H,⟨_,rfl,h0⟩,?_⟩;rintro m σ H ⟨rfl,p⟩;refine mono σ H _ _ (λb H1 q=>?_) (hs σ H p);cases b with
 |true=>exact⟨_,λσ' H' ⟨p',l⟩=>⟨_,l,rfl,p'⟩,q⟩
 |false=>exact q
abbrev R2:=V→V→Hp→VK→Prop
def OpR(X:Cx)(f:Value→Value→Sem Value)(r:R2):Prop :=
 ∀(pins:List (Addr×Obj))(s:Shared)(σ:St)(H:Hp)(x y:V)(v u:Value)(Q:VK),Inv X pins σ H s→aL x v→aL y u→r x y H Q →
  wpAny (model X.prog X.w) X.A (f v u) (EP X pins σ Q) X.xe s
def UnR(X:Cx)(f:Value→Sem Value)(r:V→Hp→VK→Prop):Prop :=
 ∀(pins:List (Addr×Obj))(s:Shared)(σ:St)(H:Hp)(x:V)(v:Value)(Q:VK),Inv X pins σ H s→aL x v→r x H Q →
  wpAny (model X.prog X.w) X.A (f v) (EP X pins σ Q) X.xe s
def cz(X:Cx)(f:Value)(r:List V→Hp→VK→Prop):Prop :=
 ∀(pins:List (Addr×Obj))(s:Shared)(σ:St)(H:Hp)(xs:List V)(us:List Value)(Q:VK),Inv X pins σ H s→aH xs us→r xs H Q →
  wpAny (model X.prog X.w) X.A (call f us) (EP X pins σ Q) X.xe s
def AL(X:Cx)(r:V→Hp→(Bool→Hp→Prop)→Prop):Prop :=
 ∀(pins:List (Addr×Obj))(s:Shared)(σ:St)(H:Hp)(x:V)(v:Value)(Q:Bool→Hp→Prop),Inv X pins σ H s→aL x v→r x H Q →
  wpAny (model X.prog X.w) X.A (truthy v) (TP X pins σ Q) X.xe s
def tOp(r:R2)(ta tb:TE):TE:=λσ H Q=>ta σ H λx H1=>tb σ H1 λy H2=>r x y H2 Q
def tUn(r:V→Hp→VK→Prop)(ta:TE):TE:=λσ H Q=>ta σ H λx H1=>r x H1 Q
def rI(C:Int→Int→Prop)(g:Int→Int→V):R2:=λx y H Q=>∃i j,x=.int i∧y=.int j∧C i j∧Q (g i j) H
def rI0(g:Int→Int→V):R2:=λx y H Q=>∃i j,x=.int i∧y=.int j∧Q (g i j) H
def rU(g:Int→V):V→Hp→VK→Prop:=λx H Q=>∃i,x=.int i∧Q (g i) H
section
variable{X:Cx}{a b c:Expr}{ta tb tc:TE}{pos:Pos}
theorem yj(ha:PE X a ta)(hb:PE X b tb){pins:List (Addr×Obj)}{s:Shared}{σ:St}{H:Hp}{R:V→V→Hp→Prop}(I:Inv X pins σ H s)(h:ta σ H λx H1=>tb σ H1 λy H2=>R x y H2){Q:Value→Shared→Prop}{f:Value→Value→Sem Value}(hf:∀v u s2 x y H2,Inv X pins σ H2 s2→aL x v→aL y u→R x y H2→wpAny (model X.prog X.w) X.A (f v u) Q X.xe s2):
  wpAny (model X.prog X.w) X.A (eval a X.env) (λv s₁=>wpAny (model X.prog X.w) X.A (eval b X.env) (λu s₂=>wpAny (model X.prog X.w) X.A (f v u) Q X.xe s₂) X.xe s₁) X.xe s:=by
 refine thn (ha pins s σ H _ I h) λv s1 hpt=>?_;obtain⟨x,H1,I1,r1,q1⟩:=hpt;refine thn (hb pins s1 σ H1 _ I1 q1) λu s2 hpt=>?_;obtain⟨y,H2,I2,r2,q2⟩:=hpt;exact hf v u s2 x y H2 I2 r1 r2 q2
theorem aD{op:Operator}{r:R2}(ho:OpR X (binaryOp op) r)(ha:PE X a ta)(hb:PE X b tb):PE X (.BinOp a op b pos) (tOp r ta tb):=by
 intro pins s σ H Q I h;exact wpAny_BinOp (yj ha hb I h λv u s2 x y H2 I2 rx ry q=>ho pins s2 σ H2 x y v u Q I2 rx ry q)
theorem qH{op:UnaryOp}{r:V→Hp→VK→Prop}(ho:UnR X (unaryOp op) r)(ha:PE X a ta):PE X (.UnaryOp op a pos) (tUn r ta):=by
 intro pins s σ H Q I h;exact UnaryOp_ (thn (ha pins s σ H _ I h) λv s1 ⟨x,H1,I1,r1,q1⟩=>ho pins s1 σ H1 x v Q I1 r1 q1)
theorem opI{f:Value→Value→Sem Value}{C:Int→Int→Prop}{g:Int→Int→Int}(rule:∀(i j:Int) (t u:Tok) (s:Shared) (Q:Value→Shared→Prop) (E:Value→Shared→Prop),C i j→Q (.int (g i j) s.toks) {s with toks:=s.toks+1}→wpAny (model X.prog X.w) X.A (f (.int i t) (.int j u)) Q E s):
  OpR X f (rI C λi j=>.int (g i j)):=by
 intro pins s σ H x y v u Q I rx ry h;obtain⟨i,j,rfl,rfl,hc,q⟩:=h;obtain⟨t,rfl⟩:=rx;obtain⟨t',rfl⟩:=ry;exact rule i j t t' s _ _ hc ⟨.int (g i j),H,I.tok _,⟨_,rfl⟩,q⟩
theorem zR{f:Value→Value→Sem Value}{g:Int→Int→Int}(rule:∀(i j:Int) (t u:Tok) (s:Shared) (Q:Value→Shared→Prop) (E:Value→Shared→Prop),Q (.int (g i j) s.toks) {s with toks:=s.toks+1}→wpAny (model X.prog X.w) X.A (f (.int i t) (.int j u)) Q E s):
  OpR X f (rI0 λi j=>.int (g i j)):=by
 intro pins s σ H x y v u Q I rx ry h;obtain⟨i,j,rfl,rfl,q⟩:=h;obtain⟨t,rfl⟩:=rx;obtain⟨t',rfl⟩:=ry;exact rule i j t t' s _ _ ⟨.int (g i j),H,I.tok _,⟨_,rfl⟩,q⟩
theorem yk{f:Value→Value→Sem Value}{g:Int→Int→Bool}(rule:∀(i j:Int) (t u:Tok) (s:Shared) (Q:Value→Shared→Prop) (E:Value→Shared→Prop),Q (.bool (g i j)) s→wpAny (model X.prog X.w) X.A (f (.int i t) (.int j u)) Q E s):
  OpR X f (rI0 λi j=>.bl (g i j)):=by
 intro pins s σ H x y v u Q I rx ry h;obtain⟨i,j,rfl,rfl,q⟩:=h;obtain⟨t,rfl⟩:=rx;obtain⟨t',rfl⟩:=ry;exact rule i j t t' s _ _ ⟨.bl (g i j),H,I,rfl,q⟩
def AM(i j:Int):Prop:=0<j∧j<1073741824
def ym(i j:Int):Prop:=(-(2 ^ 64)<i∧i<2 ^ 64)∨(-(2 ^ 64)<j∧j<2 ^ 64)
theorem ym.ok{i j:Int}(h:ym i j):IntMulOk i j:=by
 rcases h with⟨h1,h2⟩|⟨h1,h2⟩
 ·exact .of_left (intBits_le_64 h1 h2)
 ·exact .of_right (intBits_le_64 h1 h2)
theorem aZ:OpR X (binaryOp .Add) (rI0 λi j=>.int (i+j)):=zR λ_ _ _ _ _ _ _ q=>add_int q
theorem lW:OpR X (binaryOp .Sub) (rI0 λi j=>.int (i-j)):=zR λ_ _ _ _ _ _ _ q=>sub_int q
theorem de:OpR X (binaryOp .Mult) (rI ym λi j=>.int (i*j)):=opI λ_ _ _ _ _ _ _ hc q=>mul_int q hc.ok
theorem qI:OpR X (binaryOp .FloorDiv) (rI AM λi j=>.int (i / j)):=opI λi j _ _ _ _ _ hc q=>by
 have h1:(0:Int)<j:=hc.1;have h2:j<1073741824:=hc.2;exact floordiv_int (by omega) (by rw[Int.fdiv_eq_ediv_of_nonneg i (by omega)];exact q) (.inl (PyProof.noPylong_small (by omega)))
theorem lX:OpR X (binaryOp .Mod) (rI (λ_ j=>0<j) λi j=>.int (i % j)):=opI λi j _ _ _ _ _ hc q=>by
 have h1:(0:Int)<j:=hc;exact mod_int' (by omega) (by rw[Int.fmod_eq_emod_of_nonneg i (by omega)];exact q)
theorem unI{f:Value→Sem Value}{g:Int→Int}(rule:∀(i:Int) (t:Tok) (s:Shared) (Q:Value→Shared→Prop) (E:Value→Shared→Prop),Q (.int (g i) s.toks) {s with toks:=s.toks+1}→wpAny (model X.prog X.w) X.A (f (.int i t)) Q E s):
  UnR X f (rU λi=>.int (g i)):=by
 intro pins s σ H x v Q I rx h;obtain⟨i,rfl,q⟩:=h;obtain⟨t,rfl⟩:=rx;exact rule i t s _ _ ⟨.int (g i),H,I.tok _,⟨_,rfl⟩,q⟩
theorem lY:UnR X (unaryOp .USub) (rU λi=>.int (-i)):=unI λ_ _ _ _ _ q=>neg_int q
end
def zS:V→V→Bool
 |.non,.non=>true | .non,.int _=>true | .int _,.non=>true | .non,.bl _=>true | .bl _,.non=>true | .non,.str _=>true | .str _,.non=>true
 |.int _,.int _=>true | .bl _,.bl _=>true | .str _,.str _=>true | .byt _,.byt _=>true
 |.int _,.str _=>true | .str _,.int _=>true | .bl _,.str _=>true | .str _,.bl _=>true
 |_,_=>false
def rEq:R2:=λx y H Q=>zS x y=true∧Q (.bl (decide (x=y))) H
def rNe:R2:=λx y H Q=>zS x y=true∧Q (.bl (!decide (x=y))) H
theorem qJ{i j:Int}:decide (V.int i=V.int j)=(i==j):=by
 rw[Bool.eq_iff_iff];simp
theorem tF{i j:Bool}:decide (V.bl i=V.bl j)=(i==j):=by
 rw[Bool.eq_iff_iff];simp
theorem qK{i j:Str}:decide (V.str i=V.str j)=(i==j):=by
 rw[Bool.eq_iff_iff];simp
theorem qL{i j:Array UInt8}:decide (V.byt i=V.byt j)=(i.toList==j.toList):=by
 rw[Bool.eq_iff_iff];cases i;cases j;simp
section
variable{X:Cx}{a b c:Expr}{ta tb tc:TE}{pos:Pos}
theorem aS{pins:List (Addr×Obj)}{σ:St}{H:Hp}{s:Shared}{Q:VK}{k k':Bool}(I:Inv X pins σ H s)(q:Q (.bl k) H)(e:k=k'):EP X pins σ Q (.bool k') s:=by
 subst e;exact⟨.bl k,H,I,rfl,q⟩
theorem cD:OpR X (compareOp .Eq) rEq:=by
 intro pins s σ H x y v u Q I rx ry h;obtain⟨hs,q⟩:=h;cases x with
 |non =>
  cases rx;cases y with
  |non=>cases ry;exact PySem.EqNone.eq_none_none (aS I q (by simp))
  |bl j=>cases ry;exact PySem.EqNone.eq_none_bool (aS I q (by simp))
  |int j=>obtain⟨t',rfl⟩:=ry;exact PySem.EqNone.eq_none_int (aS I q (by simp))
  |str j=>obtain⟨t',rfl⟩:=ry;exact PySem.EqNone.eq_none_str (aS I q (by simp))
  |_=>exact absurd (show false=true from hs) Bool.false_ne_true
 |bl i =>
  cases rx;cases y with
  |non=>cases ry;exact PySem.EqNone.eq_bool_none (aS I q (by simp))
  |bl j=>cases ry;exact eq_bool (aS I q tF)
  |str j=>obtain⟨t',rfl⟩:=ry;exact PySem.EqMixed.eq_bool_str (aS I q (by simp))
  |_=>exact absurd (show false=true from hs) Bool.false_ne_true
 |int i =>
  obtain⟨t,rfl⟩:=rx;cases y with
  |non=>cases ry;exact PySem.EqNone.eq_int_none (aS I q (by simp))
  |int j=>obtain⟨t',rfl⟩:=ry;exact eq_int (aS I q qJ)
  |str j=>obtain⟨t',rfl⟩:=ry;exact PySem.EqMixed.eq_int_str (aS I q (by simp))
  |_=>exact absurd (show false=true from hs) Bool.false_ne_true
 |str i =>
  obtain⟨t,rfl⟩:=rx;cases y with
  |non=>cases ry;exact PySem.EqNone.eq_str_none (aS I q (by simp))
  |bl j=>cases ry;exact PySem.EqMixed.eq_str_bool (aS I q (by simp))
  |int j=>obtain⟨t',rfl⟩:=ry;exact PySem.EqMixed.eq_str_int (aS I q (by simp))
  |str j=>obtain⟨t',rfl⟩:=ry;exact eq_str (aS I q qK)
  |_=>exact absurd (show false=true from hs) Bool.false_ne_true
 |byt i =>
  obtain⟨t,rfl⟩:=rx;cases y with
  |byt j=>obtain⟨t',rfl⟩:=ry;exact PySem.W.eq_bytes (aS I q qL)
  |_=>exact absurd (show false=true from hs) Bool.false_ne_true
 |_=>cases y<;>exact absurd (show false=true from hs) Bool.false_ne_true
theorem eX:OpR X (compareOp .NotEq) rNe:=by
 intro pins s σ H x y v u Q I rx ry h;obtain⟨hs,q⟩:=h;cases x with
 |non =>
  cases rx;cases y with
  |non=>cases ry;exact PySem.EqNone.ne_none_none (aS I q (by simp))
  |bl j=>cases ry;exact PySem.EqNone.ne_none_bool (aS I q (by simp))
  |int j=>obtain⟨t',rfl⟩:=ry;exact PySem.EqNone.ne_none_int (aS I q (by simp))
  |str j=>obtain⟨t',rfl⟩:=ry;exact PySem.EqNone.ne_none_str (aS I q (by simp))
  |_=>exact absurd (show false=true from hs) Bool.false_ne_true
 |bl i =>
  cases rx;cases y with
  |non=>cases ry;exact PySem.EqNone.ne_bool_none (aS I q (by simp))
  |bl j=>cases ry;exact ne_bool (aS I q (congrArg not tF))
  |str j=>obtain⟨t',rfl⟩:=ry;exact PySem.EqMixed.ne_bool_str (aS I q (by simp))
  |_=>exact absurd (show false=true from hs) Bool.false_ne_true
 |int i =>
  obtain⟨t,rfl⟩:=rx;cases y with
  |non=>cases ry;exact PySem.EqNone.ne_int_none (aS I q (by simp))
  |int j=>obtain⟨t',rfl⟩:=ry;exact ne_int (aS I q (congrArg not qJ))
  |str j=>obtain⟨t',rfl⟩:=ry;exact PySem.EqMixed.ne_int_str (aS I q (by simp))
  |_=>exact absurd (show false=true from hs) Bool.false_ne_true
 |str i =>
  obtain⟨t,rfl⟩:=rx;cases y with
  |non=>cases ry;exact PySem.EqNone.ne_str_none (aS I q (by simp))
  |bl j=>cases ry;exact PySem.EqMixed.ne_str_bool (aS I q (by simp))
  |int j=>obtain⟨t',rfl⟩:=ry;exact PySem.EqMixed.ne_str_int (aS I q (by simp))
  |str j=>obtain⟨t',rfl⟩:=ry;exact ne_str (aS I q (congrArg not qK))
  |_=>exact absurd (show false=true from hs) Bool.false_ne_true
 |byt i =>
  obtain⟨t,rfl⟩:=rx;cases y with
  |byt j=>obtain⟨t',rfl⟩:=ry;exact PySem.W.ne_bytes (aS I q (congrArg not qL))
  |_=>exact absurd (show false=true from hs) Bool.false_ne_true
 |_=>cases y<;>exact absurd (show false=true from hs) Bool.false_ne_true
theorem jz:OpR X (compareOp .Lt) (rI0 λi j=>.bl (decide (i<j))):=yk λ_ _ _ _ _ _ _ q=>lt_int q
theorem qO:OpR X (compareOp .LtE) (rI0 λi j=>.bl (decide (i≤j))):=yk λ_ _ _ _ _ _ _ q=>le_int q
theorem tG:OpR X (compareOp .Gt) (rI0 λi j=>.bl (decide (j<i))):=yk λ_ _ _ _ _ _ _ q=>gt_int q
theorem sf:OpR X (compareOp .In) (λx y H Q=>∃i j,x=.str i∧y=.str j∧Q (.bl (!(Builtin.Str.occurrences j i 0 j.length 1).isEmpty)) H):=by
 intro pins s σ H x y v u Q I rx ry h;obtain⟨i,j,rfl,rfl,q⟩:=h;obtain⟨t,rfl⟩:=rx;obtain⟨t',rfl⟩:=ry;exact in_str (aS I q rfl)
theorem iy:OpR X (compareOp .Is) (λx y H Q=>y=.non∧Q (.bl (decide (x=.non))) H):=by
 intro pins s σ H x y v u Q I rx ry h;obtain⟨rfl,q⟩:=h;cases ry;refine is_none_gen (aS I q ?_);cases x<;>first
  |(cases rx;rfl)
  |(obtain⟨t,rfl⟩:=rx;rfl)
theorem lZ:OpR X (compareOp .IsNot) (λx y H Q=>y=.non∧Q (.bl (!decide (x=.non))) H):=by
 intro pins s σ H x y v u Q I rx ry h;obtain⟨rfl,q⟩:=h;cases ry;refine isnot_none_gen (aS I q ?_);cases x<;>first
  |(cases rx;rfl)
  |(obtain⟨t,rfl⟩:=rx;rfl)
theorem OpR.or{f:Value→Value→Sem Value}{r r':R2}(h:OpR X f r)(h':OpR X f r'):OpR X f (λx y H Q=>r x y H Q∨r' x y H Q):=by
 intro pins s σ H x y v u Q I rx ry q;rcases q with q|q
 ·exact h pins s σ H x y v u Q I rx ry q
 ·exact h' pins s σ H x y v u Q I rx ry q
theorem aw(b:Expr){op:CmpOp}(h:op≠.In:=by decide)(h2:op≠.NotIn:=by decide):behindInMarks op b=false:=by
 have e1:(op==CmpOp.In)=false:=by cases op<;>first|rfl|exact absurd rfl h
 have e2:(op==CmpOp.NotIn)=false:=by cases op<;>first|rfl|exact absurd rfl h2
 cases b<;>simp[behindInMarks,e1,e2]
theorem dt{op:CmpOp}{r:R2}(ho:OpR X (compareOp op) r)(ha:PE X a ta)(hb:PE X b tb)(hm:behindInMarks op b=false):PE X (.Compare a [op] [b] pos) (tOp r ta tb):=by
 intro pins s σ H Q I h;exact wpAny_Compare1 (yj ha hb I h λv u s2 x y H2 I2 rx ry q=>ho pins s2 σ H2 x y v u Q I2 rx ry q) hm
def xP(t:TE):TT:=λσ H Q=>t σ H λx H'=>∃k,x=.bl k∧Q k H'
theorem am{op:CmpOp}{r:R2}(ho:OpR X (compareOp op) r)(ha:PE X a ta)(hb:PE X b tb)(hm:behindInMarks op b=false):PT X (.Compare a [op] [b] pos) (xP (tOp r ta tb)):=by
 intro pins s σ H Q I h;refine wpAny_isTrue_Compare1 (thn (ha pins s σ H _ I h) λv s1 ⟨x,H1,I1,r1,q1⟩=>thn (hb pins s1 σ H1 _ I1 q1) λu s2 ⟨y,H2,I2,r2,q2⟩ =>
  thn (ho pins s2 σ H2 x y v u _ I2 r1 r2 q2) λc s3 ⟨z,H3,I3,r3,k,e,q3⟩=>?_) hm
 subst e;cases r3;exact wpAny_truthy_bool ⟨H3,I3,q3⟩
def tH(r r':R2)(ta tb tc:TE):TE:=λσ H Q=>ta σ H λx H1=>tb σ H1 λy H2=>r x y H2 λz H3=>∃k,z=.bl k ∧
 (if k=true then tc σ H3 λw' H4=>r' y w' H4 Q else Q (.bl false) H3)
theorem tI{op op':CmpOp}{r r':R2}(ho:OpR X (compareOp op) r)(ho':OpR X (compareOp op') r')(ha:PE X a ta)(hb:PE X b tb)(hc:PE X c tc)(hm:lastMarks [op,op'] [b,c]=false:=by with_unfolding_all rfl):PE X (.Compare a [op,op'] [b,c] pos) (tH r r' ta tb tc):=by
 intro pins s σ H Q I h;refine Compare_chain (thn (ha pins s σ H _ I h) λv s1 ⟨x,H1,I1,r1,q1⟩=>chain_link (thn (hb pins s1 σ H1 _ I1 q1) λu s2 ⟨y,H2,I2,r2,q2⟩ =>
  thn (ho pins s2 σ H2 x y v u _ I2 r1 r2 q2) λd s3 ⟨z,H3,I3,r3,k,e,q3⟩=>?_)) hm
 subst e;cases r3;refine wpAny_truthy_bool ?_;cases k with
 |false=>exact ite_ff ⟨.bl false,H3,I3,rfl,q3⟩
 |true=>exact ite_tt (chain_last (thn (hc pins s3 σ H3 _ I3 q3) λw' s4 ⟨z',H4,I4,r4,q4⟩=>ho' pins s4 σ H4 y z' u w' Q I4 r2 r4 q4))
theorem tJ{op op':CmpOp}{r r':R2}(ho:OpR X (compareOp op) r)(ho':OpR X (compareOp op') r')(ha:PE X a ta)(hb:PE X b tb)(hc:PE X c tc)(hm:lastMarks [op,op'] [b,c]=false:=by with_unfolding_all rfl):PT X (.Compare a [op,op'] [b,c] pos) (xP (tH r r' ta tb tc)):=by
 intro pins s σ H Q I h;refine isTrue_chain (thn (ha pins s σ H _ I h) λv s1 ⟨x,H1,I1,r1,q1⟩=>test_link (thn (hb pins s1 σ H1 _ I1 q1) λu s2 ⟨y,H2,I2,r2,q2⟩ =>
  thn (ho pins s2 σ H2 x y v u _ I2 r1 r2 q2) λd s3 ⟨z,H3,I3,r3,k,e,q3⟩=>?_)) hm
 subst e;cases r3;refine wpAny_truthy_bool ?_;cases k with
 |false =>
  obtain⟨k',e',q'⟩:=q3;cases e';exact ite_ff ⟨H3,I3,q'⟩
 |true =>
  refine ite_tt (test_last (thn (hc pins s3 σ H3 _ I3 q3) λw' s4 ⟨z',H4,I4,r4,q4⟩=>thn (ho' pins s4 σ H4 y z' u w' _ I4 r2 r4 q4) λd' s5 hpt=>?_));obtain⟨z2,H5,I5,r5,k2,e2,q5⟩:=hpt;subst e2;cases r5;exact wpAny_truthy_bool ⟨H5,I5,q5⟩
def zT(K:PySem.W.Frag)(x:V)(H:Hp)(k:Bool):Prop :=
 match x with
 |.non=>k=false
 |.bl b=>k=b
 |.int i=>k=(i != 0)
 |.str y=>y.length≤sizeLine∧k=((y.length:Int) != 0)
 |.byt y=>y.size≤sizeLine∧k=((y.size:Int) != 0)
 |.ref p=>(∃xs,SqL K H p xs∧k = !xs.isEmpty)∨(∃xs,SqT K H p xs∧k = !xs.isEmpty)∨∃kvs,H p=some (.dK kvs)∧k = !kvs.isEmpty
 |_=>False
theorem pH{κ:Type}{kvs:List (κ×V)}{vs:List (κ×Value)}(r:KV kvs vs):(!vs.isEmpty) = !kvs.isEmpty:=by
 cases r<;>rfl
theorem jA{xs:List V}{its:List Value}(r:aH xs its):(!its.toArray.isEmpty) = !xs.isEmpty:=by
 cases r<;>simp
theorem jB:(sizeLine:Nat)<2 ^ 63:=by rw[sizeLine_eq];decide
theorem yn:AL X (λx H Q=>∃k,zT X.K x H k∧Q k H):=by
 intro pins s σ H x v Q I rx h;obtain⟨k,e,q⟩:=h;have hl:=jB;have hs:sizeLine=16777216:=sizeLine_eq;cases x with
 |non =>
  cases rx;have e':k=false:=e;subst e';exact truthy_none ⟨H,I,q⟩
 |bl b =>
  cases rx;have e':k=b:=e;subst e';exact wpAny_truthy_bool ⟨H,I,q⟩
 |int i =>
  obtain⟨t,rfl⟩:=rx;have e':k=(i != 0):=e;subst e';exact PySem.P.truthy_int ⟨H,I,q⟩
 |str y =>
  obtain⟨t,rfl⟩:=rx;obtain⟨hy,e'⟩:y.length≤sizeLine∧k=((y.length:Int) != 0):=e;subst e';exact PySem.P.truthy_str (by omega) ⟨H,I.tok _,q⟩
 |byt y =>
  obtain⟨t,rfl⟩:=rx;obtain⟨hy,e'⟩:y.size≤sizeLine∧k=((y.size:Int) != 0):=e;subst e';exact PySem.W.truthy_bytes (by omega) ⟨H,I.tok _,q⟩
 |ref p =>
  cases rx;have e':(∃xs,SqL X.K H p xs∧k = !xs.isEmpty)∨(∃xs,SqT X.K H p xs∧k = !xs.isEmpty)∨∃kvs,H p=some (.dK kvs)∧k = !kvs.isEmpty:=e;rcases e' with⟨xs,hx,e'⟩|⟨xs,hx,e'⟩|⟨kvs,hx,e'⟩
  ·subst e';obtain⟨its,r,pl,hz⟩:=I.list hx;have hlen:=r.length;exact wpAny_truthy_list pl.isList (by simp only[size_toArray];omega) ⟨H,I.tok _,by rw[jA r];exact q⟩
  ·subst e';obtain⟨its,r,pl,hz⟩:=I.tuple hx;have hlen:=r.length;exact truthy_tuple pl (by simp only[size_toArray];omega) ⟨H,I.tok _,by rw[jA r];exact q⟩
  ·subst e';obtain⟨hz,hS,vs,r,m⟩:kvs.length≤sizeLine∧(p==sysModules)=false∧∃vs,KV kvs vs∧s.heap.DictOf (aG X.prog X.w) p vs:=I.hok p _ hx;have hlen:kvs.length=vs.length:=Paired.length r;exact wpAny_truthy_dict hS m (by omega) ⟨H,I.tok _,by rw[pH r];exact q⟩
 |_=>exact(show False from e).elim
theorem tK(ha:PE X a ta)(he:∀whole,isTrue a X.env whole=(do let v ← whole;standAt a.pos;holding [v] (truthy v))):
  PT X a (λσ H Q=>ta σ H λx H'=>∃k,zT X.K x H' k∧Q k H'):=by
 intro pins s σ H Q I h;exact isTrue_plain (thn (ha pins s σ H _ I h) λv s1 ⟨x,H1,I1,r1,q1⟩=>yn pins s1 σ H1 x v Q I1 r1 q1) (he _)
theorem eB{x:V}{us:List Value}(r:aH [x] us):∃u,us=[u]∧aL x u:=by
 cases r with
 |cons r1 r2=>cases r2;exact⟨_,rfl,r1⟩
theorem tL{x y:V}{us:List Value}(r:aH [x,y] us):∃u w',us=[u,w']∧aL x u∧aL y w':=by
 cases r with
 |cons r1 r2 =>
  cases r2 with
  |cons r3 r4=>cases r4;exact⟨_,_,rfl,r1,r3⟩
end
structure ObjM(h:Heap)(x dx C:Addr)(mA:Str→Option Value):Prop where
 obj:h.get? x=some (instObj C dx)
 ns:h.Ns1 dx mA
 ne:dx≠x
theorem sg{h:Heap}{dx:Addr}{mA:Str→Option Value}(n:h.Ns1 dx mA):∃od,h.get? dx=some od∧∀name,lookIn name od=some (mA name):=by
 obtain⟨o,es,ep,ho,hd,hk,_,hm⟩:=n;refine⟨o,ho,λname=>?_⟩;have e:=hm name;unfold nsFind findBy at e;rw[←Array.find?_toList]at e;unfold lookIn;rw[hd];dsimp only
 split
 ·rename_i y q
  rw[q]at e;exact congrArg some e
 ·rename_i q
  rw[q]at e;have a:es.toList.any (·.refKey)=false:=by
   rw[List.any_eq_false];intro y hy;obtain⟨z,t,hkey⟩:=hk y (Array.mem_toList_iff.mp hy);simp[DictEntry.refKey,hkey]
  have a':¬es.toList.any (·.refKey)=true:=by rw[a];exact Bool.false_ne_true
  rw[if_neg a'];exact congrArg some e
theorem ObjM.look{h:Heap}{x dx C:Addr}{mA:Str→Option Value}(I:ObjM h x dx C mA):∃od,PySem.W.InstAt h x (instObj C dx) C (some od)∧∀name,lookIn name od=some (mA name) :=
 let⟨od,ho,hl⟩:=sg I.ns
 ⟨od,⟨I.obj,rfl,rfl,ho⟩,hl⟩
section
variable{prog:Program}{w:World}{A:Around}{E:Value→Shared→Prop}{s:Shared}{K:PySem.W.Frag}{x dx C f:Addr}{mA:Str→Option Value}{name:Str}{v:Value}
theorem wg{expr:Bool}{Q:Value→Shared→Prop}(X:K.In s.heap)(I:ObjM s.heap x dx C mA)(hg:plainGet K C name=true)(hh:hasDictIn K C=true)(ha:findIn K (.ref C) name=some none)(hv:mA name=some v)(hv':handedIn v=true)(h:Q v {s with toks:=s.toks+1}):
  wpAny (model prog w) A (getAttr (.ref x) name expr) Q E s:=by
 obtain⟨od,J,hl⟩:=I.look;exact PySem.W.get_value X J (plainGet_of hg).1 (PySem.W.findObj_own hh ha rfl (by rw[hl,hv])) hv' h
theorem tN{pl:Sem Bool}{Q:Value×List Value→Shared→Prop}(X:K.In s.heap)(I:ObjM s.heap x dx C mA)(hg:plainGet K C name=true)(hf:findIn K (.ref C) name=some (some (.ref f)))(ht:isFn K (.ref f)=true)(hv:mA name=none)(h:Q (.ref f,[.ref x]) s):
  wpAny (model prog w) A (getMethod (.ref x) name pl) Q E s:=by
 obtain⟨od,J,hl⟩:=I.look;exact PySem.W.method_fn X J (plainGet_of hg).1 (plainGet_of hg).2 hf (beq_iff_eq.mp ht) (by show(lookIn name od).map (·.isSome)=some false;rw[hl,hv];rfl) h
theorem wj{ns:List Str}{Q:Unit→Shared→Prop}(X:K.In s.heap)(I:ObjM s.heap x dx C mA)(hs:findIn K (.ref C) "__setattr__"=some (some (.builtin "object.__setattr__")))(hp:plainOver K C=true)(ht:takerIn K C name=some none)(hh:hasDictIn K C=true)(hw:PySem.Within mA ns)(hsz:ns.length≤sizeLine)(h:∀h',ObjM h' x dx C (λy=>if y=name then some v else mA y)→SameBut dx s.heap h'→Q () {s with heap:=h',toks:=s.toks+2}):
  wpAny (model prog w) A (setAttr (.ref x) name v) Q E s:=by
 obtain⟨od,J,hl⟩:=I.look;refine PySem.W.set_plain X J hs (PySem.W.osa_open (s:={s with toks:=s.toks+1}) (r:=none) X J hp ht λb=>?_);obtain⟨cd,hc,hd'⟩:=PySem.W.any_some hh;have hx:s.heap.get? x=some ⟨.ref C,some dx,.plain,#[]⟩:=I.obj;refine wpAny_bind (wpAny_pure (wpAny_bind (wpAny_bind (wpAny_loadPart hx (wpAny_bind (Looks.here (s:={s with toks:=s.toks+1}) (PySem.W.looks_clsIn X hc) ?_))))));rw[hd'];refine wpAny_pure (a:=some dx) (wpAny_bind (wpAny_pure (wpAny_bind ?_)));refine wpAny_nsSet1 (s:={s with toks:=s.toks+1}) I.ns λh' hn2 hs2=>?_;obtain⟨oD,esD,epD,hoD,hdD,hcD⟩:=hn2.count (PySem.Within.cons name v hw);refine wpAny_bind (wpAny_lookBehind hoD (by rw[hdD];exact pastItsLine_dict (le_trans hcD (by rw[length_cons];omega))) ?_);exact wpAny_pure (h _ ⟨(hs2.2 _ (Ne.symm I.ne)).trans I.obj,hn2,I.ne⟩ hs2)
theorem tO{R:Result→Shared→Prop}{vs:List Value}{kw:List (Str×Value)}(X:K.In s.heap)(hm:makesIn K C=true)(hi:findIn K (.ref C) "__init__"=some (some (.ref f)))(hf:PySem.W.typeIn K (.ref f)=some (.type "function"))(h:codeAny (model prog w) (A.under (.builtin "type.__call__" ⟨.ref C::vs,kw⟩)) (.call (.ref f) ⟨.ref (s.heap.objs.size+1)::vs,kw⟩) (PySem.W.InitBack (s.heap.objs.size+1) R)
   {s with heap:=(s.heap.push emptyDict).push (instObj C s.heap.objs.size)}):
  codeAny (model prog w) A (.call (.ref C) ⟨vs,kw⟩) R s:=by
 obtain⟨hh,g,d,t,os⟩:=s;exact PySem.W.make_core (PySem.W.makes_of X hm) (PySem.W.looks_findIn X hi) (λself=>PySem.W.bind_fn X self hf) (.inl rfl) h
end
def bG(f:Str)(v:V):List (Str×V)→List (Str×V)
 |[]=>[(f,v)]
 |(g,x)::r=>if g=f then (g,v)::r else (g,x)::bG f v r
theorem iT(f g:Str)(v:V):∀fs:List (Str×V),(bG f v fs).lookup g=if g=f then some v else fs.lookup g
 |[]=>by
  show List.lookup g [(f,v)]=_
  by_cases h:g=f
  ·have hb:(g==f)=true:=beq_iff_eq.mpr h;simp only[List.lookup,hb,if_pos h]
  ·have hb:(g==f)=false:=beq_eq_false_iff_ne.mpr h;simp only[List.lookup,hb,if_neg h]
 |(k,x)::r=>by
  have ih:=iT f g v r;rw[show bG f v ((k,x)::r)=(if k=f then (k,v)::r else (k,x)::bG f v r)from rfl]
  by_cases hk:k=f
  ·rw[if_pos hk]
   by_cases h:g=k
   ·have hb:(g==k)=true:=beq_iff_eq.mpr h;simp only[List.lookup,hb,if_pos (h.trans hk)]
   ·have hb:(g==k)=false:=beq_eq_false_iff_ne.mpr h;simp only[List.lookup,hb,if_neg (λe:g=f=>h (e.trans hk.symm))]
  ·rw[if_neg hk]
   by_cases h:g=k
   ·have hb:(g==k)=true:=beq_iff_eq.mpr h;simp only[List.lookup,hb,if_neg (λe:g=f=>hk (h.symm.trans e))]
   ·have hb:(g==k)=false:=beq_eq_false_iff_ne.mpr h;simp only[List.lookup,hb];exact ih
theorem iz(f:Str)(v:V):∀fs:List (Str×V),f∈(bG f v fs).map (·.1)∧∀g,g∈fs.map (·.1)→g∈(bG f v fs).map (·.1)
 |[]=>⟨by simp[bG],λg h=>by simp at h⟩
 |(k,x)::r=>by
  obtain⟨i1,i2⟩:=iz f v r;rw[show bG f v ((k,x)::r)=(if k=f then (k,v)::r else (k,x)::bG f v r)from rfl]
  by_cases hk:k=f
  ·rw[if_pos hk];subst hk;exact⟨by simp,λg h=>by simpa using h⟩
  ·rw[if_neg hk];refine⟨?_,λg h=>?_⟩
   ·rw[map_cons];exact mem_cons_of_mem _ i1
   ·rw[map_cons]at h⊢;rcases mem_cons.mp h with e|e
    ·exact mem_cons.mpr (.inl e)
    ·exact mem_cons_of_mem _ (i2 g e)
theorem iU(f:Str)(v:V):∀fs:List (Str×V),(bG f v fs).length≤fs.length+1
 |[]=>by simp[bG]
 |(k,x)::r=>by
  have ih:=iU f v r;rw[show bG f v ((k,x)::r)=(if k=f then (k,v)::r else (k,x)::bG f v r)from rfl]
  by_cases hk:k=f
  ·rw[if_pos hk,length_cons,length_cons];omega
  ·rw[if_neg hk,length_cons,length_cons];omega
theorem eA.some_of{v:V}{o:Option Value}(r:eA (some v) o):∃u,o=some u∧aL v u:=by
 cases o with
 |none=>exact(show False from r).elim
 |some u=>exact⟨u,rfl,r⟩
theorem eA.none_of{o:Option Value}(r:eA none o):o=none:=by
 cases o with
 |none=>rfl
 |some u=>exact(show False from r).elim
theorem sh{v:V}{u:Value}(r:aL v u):handedIn u=true:=by
 cases v with
 |non=>cases (show u=Value.none from r);rfl
 |bl b=>cases (show u=Value.bool b from r);rfl
 |int i=>obtain⟨t,e⟩:=(show ∃t,u=Value.int i t from r);cases e;rfl
 |str x=>obtain⟨t,e⟩:=(show ∃t,u=Value.str x t from r);cases e;rfl
 |byt b=>obtain⟨t,e⟩:=(show ∃t,u=bytes b t from r);cases e;rfl
 |flt b=>obtain⟨t,e⟩:=(show ∃t,u=float b t from r);cases e;rfl
 |ref a=>cases (show u=Value.ref a from r);rfl
 |ty n=>cases (show u=Value.type n from r);rfl
section
variable{P:Program}{w:World}{H H':Hp}{h h':Heap}{a C dx:Addr}{fs fs':List (Str×V)}
theorem jk(hok:HOk P w H h)(e:H a=some (.ins C dx fs)):∃mA,ObjM h a dx C mA∧(∀f,eA (fs.lookup f) (mA f))∧PySem.Within mA (fs.map (·.1))∧fs.length≤1000∧H dx=some (.own a):=by
 obtain⟨d,z,ne,ob,mA,n,r,q⟩:=(show bo P w H h a (.ins C dx fs)from hok a _ e);exact⟨mA,⟨ob,n,ne⟩,r,q,z,d⟩
end
structure Cls(K:PySem.W.Frag)(C:Addr):Prop where
 pg:plainGet K C empty=true
 hd:hasDictIn K C=true
 po:plainOver K C=true
 sa:findIn K (.ref C) "__setattr__"=some (some (.builtin "object.__setattr__"))
theorem Cls.get{K:PySem.W.Frag}{C:Addr}(c:Cls K C)(f:Str):plainGet K C f=true:=c.pg
def dg(K:PySem.W.Frag)(C:Addr)(f:Str):Prop:=findIn K (.ref C) f=some none
theorem dg.taker{K:PySem.W.Frag}{C:Addr}{f:Str}(n:dg K C f):takerIn K C f=some none:=by
 unfold takerIn;rw[show findIn K (.ref C) f=some none from n];rfl
structure Meth(K:PySem.W.Frag)(C:Addr)(m:Str)(f:Addr):Prop where
 at_:findIn K (.ref C) m=some (some (.ref f))
 fn:isFn K (.ref f)=true
 kp:keepIn K (.ref f)=true
section
variable{X:Cx}{pins:List (Addr×Obj)}{σ:St}{H:Hp}{s:Shared}{a C dx:Addr}{fs:List (Str×V)}{f:Str}{v:V}{A:Around}{E:Value→Shared→Prop}
theorem jC{b:Bool}{Q:Value→Shared→Prop}(I:Inv X pins σ H s)(e:H a=some (.ins C dx fs))(c:Cls X.K C)(n:dg X.K C f)(l:fs.lookup f=some v)(h:∀u s',Inv X pins σ H s'→aL v u→Q u s'):wpAny (model X.prog X.w) A (getAttr (.ref a) f b) Q E s:=by
 obtain⟨mA,O,r,_,_,_⟩:=jk I.hok e;obtain⟨u,hu,ru⟩:=eA.some_of (v:=v) (o:=mA f) (by rw[←l];exact r f);exact wg I.kIn O (c.get f) c.hd n hu (sh ru) (h u _ (I.tok _) ru)
theorem jD{m:Str}{g:Addr}{pl:Sem Bool}{Q:Value×List Value→Shared→Prop}(I:Inv X pins σ H s)(e:H a=some (.ins C dx fs))(c:Cls X.K C)(k:Meth X.K C m g)(l:fs.lookup m=none)(h:Q (.ref g,[.ref a]) s):wpAny (model X.prog X.w) A (getMethod (.ref a) m pl) Q E s:=by
 obtain⟨mA,O,r,_,_,_⟩:=jk I.hok e;have hn:mA m=none:=eA.none_of (by rw[←l];exact r m);exact tN I.kIn O (c.get m) k.at_ k.fn hn h
theorem jE{y:V}{u:Value}{Q:Unit→Shared→Prop}(I:Inv X pins σ H s)(e:H a=some (.ins C dx fs))(c:Cls X.K C)(n:dg X.K C f)(hl:fs.length<1000)(ry:aL y u)(h:∀s',Inv X pins σ (upd H a (.ins C dx (bG f y fs))) s'→Q () s'):wpAny (model X.prog X.w) A (setAttr (.ref a) f u) Q E s:=by
 obtain⟨mA,O,r,wi,_,ho⟩:=jk I.hok e;have hz:(fs.map (·.1)).length≤sizeLine:=by rw[length_map,sizeLine_eq];omega
 refine wj I.kIn O c.sa c.po n.taker c.hd wi hz λh' O' sb=>h _ ?_;have hd:∃o,h'.get? dx=some o:=let⟨o,_,_,e',_⟩:=O'.ns;⟨o,e'⟩;refine I.write (x:=a) (e:=dx) (by rw[e];exact True.intro) (.inr ho) (λb q hb z=>(sb.2 b hb).trans z) hd ?_;refine⟨by rw[aj O.ne];exact ho,?_,O.ne,O'.obj,_,O'.ns,λg=>?_,λg hg=>?_⟩
 ·have:=iU f y fs;omega
 ·show eA ((bG f y fs).lookup g) (if g=f then some u else mA g);rw[iT]
  by_cases q:g=f
  ·rw[if_pos q,if_pos q];exact ry
  ·rw[if_neg q,if_neg q];exact r g
 ·by_cases q:g=f
  ·rw[q];exact(iz f y fs).1
  ·refine(iz f y fs).2 g (wi g λz=>hg ?_);show(if g=f then some u else mA g)=none;rw[if_neg q];exact z
theorem Inv.made(I:Inv X pins σ H s):Inv X pins σ (upd (upd H s.heap.objs.size (.own (s.heap.objs.size+1))) (s.heap.objs.size+1) (.ins C s.heap.objs.size []))
  {s with heap:=(s.heap.push emptyDict).push (instObj C s.heap.objs.size)}:=by
 have e1:(s.heap.push emptyDict).get? s.heap.objs.size=some emptyDict:=get?_push_size s.heap rfl;have e2:((s.heap.push emptyDict).push (instObj C s.heap.objs.size)).get? (s.heap.objs.size+1)=some (instObj C s.heap.objs.size):=by
  have:=get?_push_size (s.heap.push emptyDict) (o:=instObj C s.heap.objs.size) rfl
  rwa [size_push]at this
 have e3:(s.heap.push emptyDict).Ns s.heap.objs.size (λ_=>none):=⟨emptyDict,#[],_,e1,rfl,(λe he=>absurd he (by simp)),λ_=>rfl⟩;have I1:=I.laid (a:=s.heap.objs.size) (o:=.own (s.heap.objs.size+1)) (h':=s.heap.push emptyDict) (t':=s.toks) (λb u q=>get?_push_of_some _ q) (le_refl _) ⟨_,e1⟩;refine I1.laid (a:=s.heap.objs.size+1) (o:=.ins C s.heap.objs.size []) (t':=s.toks) (λb u q=>get?_push_of_some _ q) (Nat.le_of_eq (size_push _ _)) ?_;have ne:s.heap.objs.size≠s.heap.objs.size+1:=ne_of_lt (lt_succ_self _);refine⟨by rw[aj ne,ac],zero_le _,ne,e2,λ_=>none,(Heap.Ns1.of_empty e3).at λo q=>get?_push_of_some _ q,λ_=>True.intro,λy hy=>absurd rfl hy⟩
theorem wl{prog:Program}{w:World}{env:Env}{e:Expr}{f:Str}{pos:Pos}{s:Shared}{Q:Value→Shared→Prop}(hb:attributeBase e f env (eval e env)=eval e env)(h:wpAny (model prog w) A (eval e env) (λo s₁=>wpAny (model prog w) A (getAttr o f true) Q E s₁) E s):wpAny (model prog w) A (eval (.Attribute e f pos) env) Q E s :=
 Attribute_any_ h (by rw[arm_eval_Attribute,hb])
end
def AO(K:PySem.W.Frag)(ta:TE)(f:Str):TE:=λσ H Q=>ta σ H λx H1=>∃a C dx fs v,x=.ref a∧H1 a=some (.ins C dx fs)∧Cls K C∧dg K C f∧fs.lookup f=some v∧Q v H1
def zU(K:PySem.W.Frag)(ta tv:TE)(f:Str):TS:=λD σ H=>tv σ H λy H1=>ta σ H1 λx H2=>∃a C dx fs,x=.ref a∧H2 a=some (.ins C dx fs)∧Cls K C∧dg K C f∧fs.length<1000 ∧
 D.nx σ (upd H2 a (.ins C dx (bG f y fs)))
def zV(X:Cx)(op:Operator)(rd:V→V→Hp→VK→Prop):Prop :=
 ∀(pins:List (Addr×Obj))(s:Shared)(σ:St)(H:Hp)(x y:V)(u v:Value)(Q:VK),Inv X pins σ H s→aL x u→aL y v→rd x y H Q→wpAny (model X.prog X.w) X.A (inplaceOp op u v) (EP X pins σ Q) X.xe s
def qP(K:PySem.W.Frag)(ta tv:TE)(rd:V→V→Hp→VK→Prop)(f:Str):TS:=λD σ H=>ta σ H λx H1=>∃a C dx fs v,x=.ref a∧H1 a=some (.ins C dx fs)∧Cls K C∧dg K C f∧fs.lookup f=some v ∧
 tv σ H1 λy H2=>rd v y H2 λz H3=>∃dx' fs',H3 a=some (.ins C dx' fs')∧fs'.length<1000∧D.nx σ (upd H3 a (.ins C dx' (bG f z fs')))
section
variable{X:Cx}{o e value:Expr}{f:Str}{pos pos' tpos:Pos}{ta tv:TE}
theorem dh(he:PE X e ta)(hb:attributeBase e f X.env (eval e X.env)=eval e X.env):PE X (.Attribute e f pos) (AO X.K ta f):=by
 intro pins s σ H Q I h;refine wl hb (thn (he pins s σ H _ I h) λu s1 hpt=>?_);obtain⟨x,H1,I1,rx,a,C,dx,fs,v,ex,ea,c,n,l,q⟩:=hpt;subst ex;obtain rfl:u=Value.ref a:=rx;exact jC I1 ea c n l λu' s2 I2 ru=>⟨v,H1,I2,ru,q⟩
theorem iA(ha:PE X o ta)(hv:PE X value tv)(hs:swapsWith value (some (.Attribute o f pos')) pos.line X.env=pure false):PS X (.Assign [.Attribute o f pos'] value pos) (zU X.K ta tv f):=by
 intro pins s σ H D I h;refine plainObj_wpAny_Assign_Attribute (thn (hv pins s σ H _ I h) λu s1 ⟨y,H1,I1,ry,q⟩=>thn (ha pins s1 σ H1 _ I1 q) λov s2 ⟨x,H2,I2,rx,a,C,dx,fs,ex,ea,c,n,l,q2⟩=>?_) hs;subst ex;obtain rfl:ov=Value.ref a:=rx;exact jE I2 ea c n l ry λs3 I3=>⟨σ,_,I3,q2⟩
theorem si{op:Operator}{rd:V→V→Hp→VK→Prop}(ha:PE X o ta)(hv:PE X value tv)(hop:zV X op rd):PS X (.AugAssign (.Attribute o f tpos) op value pos) (qP X.K ta tv rd f):=by
 intro pins s σ H D I h;refine wpAny_AugAssign_AttributeAny (thn (ha pins s σ H _ I h) λov s1 hpt=>?_);obtain⟨x,H1,I1,rx,a,C,dx,fs,v,ex,ea,c,n,l,q⟩:=hpt;subst ex;obtain rfl:ov=Value.ref a:=rx;refine jC I1 ea c n l λu s2 I2 ru=>thn (hv pins s2 σ H1 _ I2 q) λw3 s3 ⟨y,H2,I3,ry,q3⟩=>thn (hop pins s3 σ H2 v y u w3 _ I3 ru ry q3) λw4 s4 hpt=>?_;obtain⟨z,H3,I4,rz,dx',fs',ea',l',q4⟩:=hpt;exact jE I4 ea' c n l' rz λs5 I5=>⟨σ,_,I5,q4⟩
def zW:V→V→Hp→VK→Prop:=λx y H Q=>∃i j,x=.int i∧y=.int j∧Q (.int (i+j)) H
theorem yo:zV X .Add zW:=by
 rintro pins s σ H x y u v Q I rx ry ⟨i,j,rfl,rfl,q⟩;obtain⟨t,rfl⟩:=(show ∃t,u=Value.int i t from rx);obtain⟨t',rfl⟩:=(show ∃t',v=Value.int j t' from ry);exact iadd_int ⟨.int (i+j),H,I.tok _,⟨_,rfl⟩,q⟩
end
section
variable{X:Cx}{pins:List (Addr×Obj)}{σ:St}{H:Hp}{s:Shared}{A:Around}{E:Value→Shared→Prop}{Q:Value→Shared→Prop}{c:Value}{b:Bool}
inductive TyOf(K:PySem.W.Frag)(H:Hp):V→Value→Prop where
 |non:TyOf K H .non (.type "NoneType")
 |bl (x:Bool):TyOf K H (.bl x) (.type "bool")
 |int (i:Int):TyOf K H (.int i) (.type "int")
 |str (x:Str):TyOf K H (.str x) (.type "str")
 |flt (x:UInt64):TyOf K H (.flt x) (.type "float")
 |lst {a:Addr} {xs:List V} (e:H a=some (.lst xs)):TyOf K H (.ref a) (.type "list")
 |frz {a:Addr} {o:Obj} {xs:List V} (e:H a=some (.frz o (.lst xs))):TyOf K H (.ref a) (.type "list")
 |tup {a:Addr} {xs:List V} (e:H a=some (.tup xs)):TyOf K H (.ref a) (.type "tuple")
 |dK {a:Addr} {kvs:List (Key×V)} (e:H a=some (.dK kvs)):TyOf K H (.ref a) (.type "dict")
 |dT {a:Addr} {kvs:List (List Key×V)} (e:H a=some (.dT kvs)):TyOf K H (.ref a) (.type "dict")
 |ins {a C dx:Addr} {fs:List (Str×V)} (e:H a=some (.ins C dx fs)) (cl:Cls K C) (ha:findIn K (.ref C) "__class__"=some (some (.builtin "object.__class__")))
   (hn:PySem.W.specialIn K (.builtin "object.__class__") "__get__"=some (some (.builtin "getset_descriptor.__get__"))) (htk:PySem.W.takesIn K (.builtin "object.__class__")=some true)
   (hm:mroIn K C (.type "object")=some true):TyOf K H (.ref a) (.ref C)
theorem sj{x:V}{u t:Value}(I:Inv X pins σ H s)(rx:aL x u)(ty:TyOf X.K H x t)(e:kitOne X.K t c=some b)(h:∀tk,Q (.bool b) {s with toks:=tk}):
  wpAny (model X.prog X.w) A (call (.builtin "isinstance") [u,c]) Q E s:=by
 cases ty with
 |non=>cases (show u=Value.none from rx);exact kia_one PySem.W.kitx_none I.kIn True.intro e (λz=>nomatch z) h
 |bl y=>cases (show u=Value.bool y from rx);exact kia_one PySem.W.kitx_bool I.kIn True.intro e (λz=>nomatch z) h
 |int i=>obtain⟨t,q⟩:=(show ∃t,u=Value.int i t from rx);cases q;exact kia_one PySem.W.kitx_int I.kIn True.intro e (λz=>nomatch z) h
 |str y=>obtain⟨t,q⟩:=(show ∃t,u=Value.str y t from rx);cases q;exact kia_one PySem.W.kitx_str I.kIn True.intro e (λz=>nomatch z) h
 |flt y=>obtain⟨t,q⟩:=(show ∃t,u=float y t from rx);cases q;exact kia_one PySem.W.kitx_float I.kIn True.intro e (λz=>nomatch z) h
 |@lst a xs ea =>
  cases (show u=Value.ref a from rx);obtain⟨_,_,n,_,h1⟩:=(show bo X.prog X.w H s.heap a (.lst xs)from I.hok a _ ea);exact kia_one kitx_list I.kIn ⟨_,h1,rfl⟩ e (λz=>nomatch z) h
 |@frz a ob xs ea =>
  cases (show u=Value.ref a from rx);obtain⟨_,_,_,n,_,h1⟩:=(show bo X.prog X.w H s.heap a (.frz ob (.lst xs))from I.hok a _ ea);exact kia_one kitx_list I.kIn ⟨_,h1,rfl⟩ e (λz=>nomatch z) h
 |@tup a xs ea =>
  cases (show u=Value.ref a from rx);obtain⟨_,_,_,p⟩:=(show bo X.prog X.w H s.heap a (.tup xs)from I.hok a _ ea);obtain⟨o,h1,h2,_⟩:=p;exact kia_one PySem.W.kitx_tuple I.kIn ⟨o,h1,h2⟩ e (λz=>nomatch z) h
 |@dK a kvs ea =>
  cases (show u=Value.ref a from rx);obtain⟨_,_,vs,_,p⟩:=(show bo X.prog X.w H s.heap a (.dK kvs)from I.hok a _ ea);obtain⟨o,es,ep,h1,h2,_⟩:=p;exact kia_one kitx_dict I.kIn ⟨o,h1,h2.1⟩ e (λz=>nomatch z) h
 |@dT a kvs ea =>
  cases (show u=Value.ref a from rx);obtain⟨_,_,xs,_,o,es,ep,h1,h2,_⟩:=(show bo X.prog X.w H s.heap a (.dT kvs)from I.hok a _ ea);exact kia_one kitx_dict I.kIn ⟨o,h1,h2.1⟩ e (λz=>nomatch z) h
 |@ins a C dx fs ea cl ha hn htk hm =>
  cases (show u=Value.ref a from rx);obtain⟨mA,O,_⟩:=jk I.hok ea;obtain⟨od,J,_⟩:=O.look;exact kia_one (PySem.W.kitx_own (cl.get _) cl.hd ha hn htk hm) I.kIn J e (λz=>nomatch z) h
end
structure Room(k:Nat)(A:Around):Prop where
 hd:A.handled=none
 dp:A.depth+3*k+5<recursionLimit
 un:A.units+16*k+200<cLine
theorem Room.mono{j k:Nat}{A:Around}(r:Room k A)(h:j≤k):Room j A:=⟨r.hd,by have:=r.dp;omega,by have:=r.un;omega⟩
theorem Room.deeper{k:Nat}{A:Around}(r:Room (k+1) A)(env:Env):Room k (A.deeper env) :=
 ⟨r.hd,by have:=r.dp;show A.depth+1+3*k+5<_;omega,by have:=r.un;show A.units+3+16*k+200<_;omega⟩
theorem pI{A:Around}{C:Addr}{us:List Value}{kw:List (Str×Value)}:(A.under (.builtin "type.__call__" ⟨.ref C::us,kw⟩)).depth=A.depth+1:=by
 first|rfl|simp[Around.under,Code.weight,Code.isCreation,Code.isGuard,Code.isCaller,Code.frames,Code.isFrame,guardIds]
theorem pJ{A:Around}{C:Addr}{us:List Value}{kw:List (Str×Value)}:(A.under (.builtin "type.__call__" ⟨.ref C::us,kw⟩)).units=A.units+1:=by
 first|rfl|simp[Around.under,Code.cUnits,Code.frames,Code.isFrame]
theorem Room.make{k:Nat}{A:Around}(r:Room (k+1) A)(C:Addr)(us:List Value)(kw:List (Str×Value)):Room k (A.under (.builtin "type.__call__" ⟨.ref C::us,kw⟩)) :=
 ⟨r.hd,by have:=r.dp;rw[pI];omega,by have:=r.un;rw[pJ];omega⟩
theorem Room.depth{k:Nat}{A:Around}(r:Room k A):A.depth<recursionLimit:=by have:=r.dp;omega
theorem Room.units{k:Nat}{A:Around}(r:Room k A):A.units+64<cLine:=by have:=r.un;omega
theorem Room.units0{k:Nat}{A:Around}(r:Room k A):A.units<cLine:=by have:=r.un;omega
def gr:TA:=λ_ H Q=>Q [] H
def cL(ta:TE)(tr:TA):TA:=λσ H Q=>ta σ H λx H1=>tr σ H1 λxs H2=>Q (x::xs) H2
section
variable{X:Cx}{e:Expr}{es:List Expr}{te:TE}{t:TA}{pos:Pos}
theorem ae:PA X [] gr:=λ_ _ _ _ H Q I h=>spliced_nil ⟨[],H,I,.nil,h⟩
theorem aa(ha:PE X e te)(hr:PA X es t)(hs:starEach (e::es) X.env=(false,eval e X.env)::starEach es X.env:=by rfl):PA X (e::es) (cL te t):=by
 intro pos pins s σ H Q I h;rw[hs];show wpAny _ _ (spliced ((false,eval e X.env)::backTo pos (starEach es X.env))) _ _ s;refine spliced_cons (thn (ha pins s σ H _ I h) λu s1 hpt=>?_);obtain⟨x,H1,I1,r1,q1⟩:=hpt;exact thn (hr pos pins s1 σ H1 _ I1 q1) λus s2 ⟨xs,H2,I2,r2,q2⟩=>⟨x::xs,H2,I2,.cons r1 r2,q2⟩
def zX(t:TA):TE:=λσ H Q=>t σ H λxs H1=>xs.length≤sizeLine∧∀p,H1 p=none→Q (.ref p) (upd H1 p (.tup xs))
def AQ(t:TA):TE:=λσ H Q=>t σ H λxs H1=>xs.length≤sizeLine∧∀p,H1 p=none→Q (.ref p) (upd H1 p (.lst xs))
theorem bn{x1}(h:PA X es t):PE X (.Tuple es x1 pos) (zX t):=by
 intro pins s σ H Q I hq;refine wpAny_Tuple_spliced (thn (h pos pins s σ H _ I hq) λus s1 ⟨xs,H1,I1,r,z,q⟩=>⟨by rw[←r.length];exact z,?_⟩);have hf:H1 s1.heap.objs.size=none:=I1.hok.fresh (le_refl _);refine⟨.ref s1.heap.objs.size,upd H1 s1.heap.objs.size (.tup xs),I1.laid (t':=s1.toks) (λb u e=>get?_push_of_some _ e) (le_refl _) ?_,rfl,q _ hf⟩;exact⟨z,us,r,⟨_,get?_push_size _ rfl,rfl,_,rfl⟩⟩
theorem bu(h:PA X es t):PE X (.List es pos) (AQ t):=by
 intro pins s σ H Q I hq;refine wpAny_List_spliced (thn (h pos pins s σ H _ I hq) λus s1 ⟨xs,H1,I1,r,z,q⟩=>⟨by rw[←r.length];exact z,?_⟩);have hf:H1 s1.heap.objs.size=none:=I1.hok.fresh (le_refl _);refine⟨.ref s1.heap.objs.size,upd H1 s1.heap.objs.size (.lst xs),I1.laid (t':=s1.toks) (λb u e=>get?_push_of_some _ e) (le_refl _) ?_,rfl,q _ hf⟩;exact⟨z,us,0,r,get?_push_size _ rfl⟩
end
abbrev Sp:=List V→Hp→VK→XK→Prop
abbrev CXT:=List Env→Hp→Shared→XK→Value→Shared→Prop
structure Env0(P:Program)(w:World)(K:PySem.W.Frag)(mg:Str→Option Value)(base:Heap)(A:Around)(outer:List Env)(s:Shared)(H:Hp):Prop where
 frames:A.frames=some outer
 mod:Mod K mg base
 bs:∀b o,base.get? b=some o→s.heap.get? b=some o∧H b=none
 bsz:base.objs.size≤s.heap.objs.size
 funs:s.heap.FunFrames base outer
 frf:∀b∈frs outer,H b=none
 hok:HOk P w H s.heap
 bare:AllBare s.gens
def CE(outer:List Env)(P:Program)(w:World)(H:Hp)(s:Shared)(Q:VK)(u:Value)(s':Shared):Prop :=
 ∃v H',s'.os=s.os∧AllBare s'.gens∧Un (frs outer) [] H H' s.heap s'.heap∧HOk P w H' s'.heap∧aL v u∧Q v H'
def CR(CX:CXT)(outer:List Env)(P:Program)(w:World)(H:Hp)(s:Shared)(Q:VK)(E:XK)(r:Result)(s':Shared):Prop :=
 match r with
 |.ok (.ret u)=>CE outer P w H s Q u s'
 |.ok _=>False
 |.error e=>CX outer H s E e s'
structure FnOk(P:Program)(w:World)(K:PySem.W.Frag)(mg:Str→Option Value)(base:Heap)(CX:CXT)(k:Nat)(f:Addr)(fd:FuncData)(ps:List Str)(sp:Sp):Prop where
 len:∀vs H Q E,sp vs H Q E→vs.length=ps.length
 run:∀(A:Around)(outer:List Env)(s:Shared)(H:Hp)(args:Args)(us:List Value)(vs:List V)(Q:VK)(E:XK),Room k A→Env0 P w K mg base A outer s H→BindsTo s fd args (ps.zip us)→aH vs us→sp vs H Q E →
  codeAny (model P w) A (.call (.ref f) args) (CR CX outer P w H s Q E) s
theorem Env0.make{P:Program}{w:World}{K:PySem.W.Frag}{mg:Str→Option Value}{base:Heap}{A:Around}{outer:List Env}{s:Shared}{H:Hp}(e:Env0 P w K mg base A outer s H)(C:Addr)(us:List Value)(kw:List (Str×Value)):
  Env0 P w K mg base (A.under (.builtin "type.__call__" ⟨.ref C::us,kw⟩)) outer s H:=⟨by first|exact e.frames|(simpa [Around.under,Code.envs,Code.isFrame,pushEnvs]using e.frames),e.mod,e.bs,e.bsz,e.funs,e.frf,e.hok,e.bare⟩
section
variable{X:Cx}{pins:List (Addr×Obj)}{σ:St}{H:Hp}{s s':Shared}
theorem Inv.env0(I:Inv X pins σ H s):Env0 X.prog X.w X.K X.mg X.base X.A X.stack s H :=
 ⟨I.ok.frames,I.ok.mod,I.bs,le_trans I.ok.bsz I.sz,I.stack,I.stkFree,I.hok,I.bare⟩
theorem Inv.after{Q:VK}{u:Value}(I:Inv X pins σ H s)(h:CE X.stack X.prog X.w H s Q u s'):EP X pins σ Q u s':=by
 obtain⟨v,H',os,bare,un,hok,r,q⟩:=h;obtain⟨hh,g,d,t,os'⟩:=s';obtain rfl:os'=s.os:=os;exact⟨v,H',I.call (h':=hh) (g':=g) (d':=d) (t':=t) (ch:=[]) un hok bare (λb z=>absurd z (by simp)),r,q⟩
end
def qQ(sp:Sp)(dvs:List V)(E:XK)(t:TA):TE:=λσ H Q=>t σ H λvs H1=>sp (vs++dvs) H1 Q E
def xQ(C:Addr)(m:Str)(sp:Sp)(dvs:List V)(E:XK)(ta:TE)(t:TA):TE:=λσ H Q=>ta σ H λx H1=>∃a dx fs,x=.ref a∧H1 a=some (.ins C dx fs)∧fs.lookup m=none ∧
 t σ H1 λvs H2=>sp (x::(vs++dvs)) H2 Q E
def zY(C:Addr)(sp:Sp)(dvs:List V)(E:XK)(t:TA):TE:=λσ H Q=>t σ H λvs H1=>∀x dx,H1 x=none→H1 dx=none→dx≠x →
 sp (.ref x::(vs++dvs)) (upd (upd H1 dx (.own x)) x (.ins C dx [])) (λv H2=>v=.non∧Q (.ref x) H2) E
def bf(K:PySem.W.Frag)(fd:FuncData)(ps:List Str)(ds:List Value):Prop :=
 ∀(s:Shared)(us:List Value),K.In s.heap→(us++ds).length=ps.length→BindsTo s fd ⟨us,[]⟩ (ps.zip (us++ds))
theorem bf.all{K:PySem.W.Frag}{fd:FuncData}{ps:List Str}(h:∀us:List Value,us.length=ps.length→bindArgs fd ⟨us,[]⟩=pure (ps.zip us)):bf K fd ps []:=λs us _ hl=>by
 rw[append_nil]at hl⊢;exact .of_eq (h us hl)
def eL(CX:CXT)(X:Cx)(E:XK):Prop:=∀(pins:List (Addr×Obj))(σ:St)(H:Hp)(s:Shared)(e:Value)(s':Shared),Inv X pins σ H s→CX X.stack H s E e s'→X.xe e s'
section
variable{X:Cx}{CX:CXT}{k:Nat}{f C:Addr}{fd:FuncData}{ps:List Str}{sp:Sp}{dvs:List V}{ds:List Value}{E:XK}{x m:Str}{p pos apos:Pos}{e o:Expr}{es:List Expr}{ta:TE}{t:TA}
theorem pK{pins:List (Addr×Obj)}{σ:St}{H:Hp}{s:Shared}{Q:VK}{us:List Value}{vs:List V}(F:FnOk X.prog X.w X.K X.mg X.base CX k f fd ps sp)(hr:Room k X.A)(hb:bf X.K fd ps ds)(hd:aH dvs ds)(hx:eL CX X E)(I:Inv X pins σ H s)(r:aH vs us)(h:sp (vs++dvs) H Q E):wpAny (model X.prog X.w) X.A (call (.ref f) us) (EP X pins σ Q) X.xe s:=by
 have r2:aH (vs++dvs) (us++ds):=r.append hd;have hl:(us++ds).length=ps.length:=by rw[←r2.length];exact F.len _ _ _ _ h
 refine wpAny_call (codeAny_mono (F.run X.A X.stack s H ⟨us,[]⟩ (us++ds) (vs++dvs) Q E hr I.env0 (hb s us I.kIn hl) r2 h) λr s' hq=>?_);cases r with
 |error e=>exact hx pins σ H s e s' I hq
 |ok fl =>
  cases fl with
  |ret u=>exact I.after hq
  |next=>exact False.elim hq
  |brk=>exact False.elim hq
  |cont=>exact False.elim hq
theorem al(F:FnOk X.prog X.w X.K X.mg X.base CX k f fd ps sp)(hr:Room k X.A)(hg:Gl X x)(hm:X.mg x=some (.ref f))(hk:keepIn X.K (.ref f)=true)(hb:bf X.K fd ps ds)(hd:aH dvs ds)(hx:eL CX X E)(ha:PA X (e::es) t)(hdb:(x==("__debug__":Str))=false:=by decide)(he:starEach (e::es) X.env=(false,eval e X.env)::starEach es X.env:=by rfl)(hpl:(backTo pos (starEach es X.env)).any (·.1)=false:=by rfl):
  PE X (.Call (.Name x p) (e::es) [] pos) (qQ sp dvs E t):=by
 intro pins s σ H Q I h;refine wpAny_Call_Name_kw (jj I hg hm ?_ hdb);refine callWith_K (h₀:=X.base) I.ok.mod.kin hk (thn (ha pos pins s σ H _ I h) λus s1 ⟨vs,H1,I1,r,q⟩=>⟨I1.kIn,?_⟩) he hpl;exact pK F hr hb hd hx I1 r q
theorem dG{pl:Sem Bool}(he:PE X o ta)(c:Cls X.K C)(hm:Meth X.K C m f)(F:FnOk X.prog X.w X.K X.mg X.base CX k f fd ps sp)(hr:Room k X.A)(hb:bf X.K fd ps ds)(hd:aH dvs ds)(hx:eL CX X E)(ha:PA X (e::es) t)(hst:starEach (e::es) X.env=(false,eval e X.env)::starEach es X.env:=by rfl)(hpl:(backTo pos (starEach es X.env)).any (·.1)=false:=by rfl)(ht:eval (.Call (.Attribute o m apos) (e::es) [] pos) X.env=(do
   let ov ← eval o X.env
   standAt apos.atName
   let(f,first) ← holding [ov] (getMethod ov m pl)
   callWith pos f first (backTo pos (starEach (e::es) X.env)) (backToKw pos (keywordEach [] X.env))):=by rfl):
  PE X (.Call (.Attribute o m apos) (e::es) [] pos) (xQ C m sp dvs E ta t):=by
 intro pins s σ H Q I h;refine methodCall_KW (pl:=pl) (thn (he pins s σ H _ I h) λu s1 ⟨x,H1,I1,rx,a,dx,fs,ex,ea,l,q⟩=>?_) ht;subst ex;obtain rfl:u=Value.ref a:=rx;refine jD I1 ea c hm l ?_;refine callWith_K (first:=[.ref a]) (h₀:=X.base) I.ok.mod.kin hm.kp (thn (ha pos pins s1 σ H1 _ I1 q) λus s2 ⟨vs,H2,I2,r,q2⟩=>⟨I2.kIn,?_⟩) hst hpl;exact pK (us:=.ref a::us) (vs:=.ref a::vs) F hr hb hd hx I2 (.cons rfl r) q2
theorem jF{pl:Sem Bool}(he:PE X o ta)(c:Cls X.K C)(hm:Meth X.K C m f)(F:FnOk X.prog X.w X.K X.mg X.base CX k f fd ps sp)(hr:Room k X.A)(hb:bf X.K fd ps ds)(hd:aH dvs ds)(hx:eL CX X E)(ht:eval (.Call (.Attribute o m apos) [] [] pos) X.env=(do
   let ov ← eval o X.env
   standAt apos.atName
   let(f,first) ← holding [ov] (getMethod ov m pl)
   callWith pos f first (backTo pos (starEach [] X.env)) (backToKw pos (keywordEach [] X.env))):=by rfl):
  PE X (.Call (.Attribute o m apos) [] [] pos) (xQ C m sp dvs E ta gr):=by
 intro pins s σ H Q I h;refine methodCall_KW (pl:=pl) (thn (he pins s σ H _ I h) λu s1 ⟨x,H1,I1,rx,a,dx,fs,ex,ea,l,q⟩=>?_) ht;subst ex;obtain rfl:u=Value.ref a:=rx;refine jD I1 ea c hm l ?_;exact PySem.W.callWith_K0 (first:=[.ref a]) I1.kIn hm.kp (pK (us:=[.ref a]) (vs:=[.ref a]) F hr hb hd hx I1 (.cons rfl .nil) q)
structure Mk(K:PySem.W.Frag)(C f:Addr):Prop where
 makes:makesIn K C=true
 init:findIn K (.ref C) "__init__"=some (some (.ref f))
 fn:isFn K (.ref f)=true
 kp:keepIn K (.ref C)=true
theorem tP{pins:List (Addr×Obj)}{σ:St}{H:Hp}{s:Shared}{Q:VK}{us:List Value}{vs:List V}(M:Mk X.K C f)(F:FnOk X.prog X.w X.K X.mg X.base CX k f fd ps sp)(hr:Room (k+1) X.A)(hb:bf X.K fd ps ds)(hd:aH dvs ds)(hx:eL CX X E)(I:Inv X pins σ H s)(r:aH vs us)(h:∀x dx,H x=none→H dx=none→dx≠x→sp (.ref x::(vs++dvs)) (upd (upd H dx (.own x)) x (.ins C dx [])) (λv H2=>v=.non∧Q (.ref x) H2) E):
  wpAny (model X.prog X.w) X.A (call (.ref C) us) (EP X pins σ Q) X.xe s:=by
 have hq:=h (s.heap.objs.size+1) s.heap.objs.size (I.hok.fresh (le_succ _)) (I.hok.fresh (le_refl _)) (ne_of_lt (lt_succ_self _));have I2:=Inv.made (C:=C) I;have r2:aH (V.ref (s.heap.objs.size+1)::(vs++dvs)) (Value.ref (s.heap.objs.size+1)::(us++ds)):=.cons rfl (r.append hd);have hl:(Value.ref (s.heap.objs.size+1)::us++ds).length=ps.length:=by
  have e:=r2.length;rw[F.len _ _ _ _ hq]at e;exact e.symm
 refine wpAny_call (tO (f:=f) I.kIn M.makes M.init (beq_iff_eq.mp M.fn) (codeAny_mono (F.run _ X.stack _ _ ⟨Value.ref (s.heap.objs.size+1)::us,[]⟩ (Value.ref (s.heap.objs.size+1)::(us++ds)) _ _ E (hr.make C us [])
  (I2.env0.make C us []) (hb _ (Value.ref (s.heap.objs.size+1)::us) I2.kIn hl) r2 hq) λr s' hq'=>?_))
 cases r with
 |error e=>exact hx pins σ _ _ e s' I2 hq'
 |ok fl =>
  cases fl with
  |ret u =>
   obtain⟨v,H',I3,rv,ev,q3⟩:=I2.after hq';subst ev;exact⟨rv,⟨V.ref (s.heap.objs.size+1),H',I3,rfl,q3⟩⟩
  |next=>exact False.elim hq'
  |brk=>exact False.elim hq'
  |cont=>exact False.elim hq'
theorem qR(M:Mk X.K C f)(F:FnOk X.prog X.w X.K X.mg X.base CX k f fd ps sp)(hr:Room (k+1) X.A)(hg:Gl X x)(hm:X.mg x=some (.ref C))(hb:bf X.K fd ps ds)(hd:aH dvs ds)(hx:eL CX X E)(ha:PA X (e::es) t)(hdb:(x==("__debug__":Str))=false:=by decide)(he:starEach (e::es) X.env=(false,eval e X.env)::starEach es X.env:=by rfl)(hpl:(backTo pos (starEach es X.env)).any (·.1)=false:=by rfl):
  PE X (.Call (.Name x p) (e::es) [] pos) (zY C sp dvs E t):=by
 intro pins s σ H Q I h;refine wpAny_Call_Name_kw (jj I hg hm ?_ hdb);refine callWith_K (h₀:=X.base) I.ok.mod.kin M.kp (thn (ha pos pins s σ H _ I h) λus s1 ⟨vs,H1,I1,r,q⟩=>⟨I1.kIn,?_⟩) he hpl;exact tP M F hr hb hd hx I1 r q
end
section
variable{X:Cx}{CX:CXT}{k:Nat}{f C:Addr}{fd:FuncData}{ps ks:List Str}{sp:Sp}{E:XK}{x m:Str}{p pos apos kpos:Pos}{e o:Expr}{es:List Expr}{kws:List Keyword}{te ta:TE}{t tk:TA}{nm:Option Str}
variable{g:List Value→List Value→List Value}{gV:List V→List V→List V}
end
structure FnScope(N P:List Str)(sc:Scope):Prop where
 kind:sc.kind=.function
 co:sc.isCoroutine=false
 gen:sc.isGenerator=false
 nd:N.Nodup
 pre:N.take P.length=P
 par:∀x∈P,sc.names.lookup x=some .local∨sc.names.lookup x=some .cell
 nofree:∀y∈sc.names,y.2≠.free
theorem fsc{N P:List Str}{c:Scope}(a:c.kind=.function:=by rfl)(b:c.isCoroutine=false:=by rfl)(d:c.isGenerator=false:=by rfl)(e:N.Nodup:=by decide +kernel)(f:N.take P.length=P:=by rfl)(g:∀x∈P,c.names.lookup x=some .local∨c.names.lookup x=some .cell:=by decide +kernel)(h:∀y∈c.names,y.2≠.free:=by decide +kernel):FnScope N P c:=⟨a,b,d,e,f,g,h⟩
theorem ln{kindOf:Str→Option NameKind}{x:Str}:∀{binds:List (Str×Value)}{m:Str→Option Value},(∀v,(x,v)∉binds)→bindL kindOf binds m x=m x
 |[],_,_=>rfl
 |(n,v)::r,m,h=>by
  unfold bindL;rw[ln λw hw=>h w (mem_cons_of_mem _ hw)]
  split
  ·have:x≠n:=by rintro rfl;exact h v mem_cons_self
   simp[this]
  ·rfl
theorem lp{kindOf:Str→Option NameKind}{x:Str}:∀{binds:List (Str×Value)}{m:Str→Option Value},(∀v,(x,v)∉binds)→bindC kindOf binds m x=m x
 |[],_,_=>rfl
 |(n,v)::r,m,h=>by
  unfold bindC;rw[lp λw hw=>h w (mem_cons_of_mem _ hw)]
  split
  ·rfl
  ·have:x≠n:=by rintro rfl;exact h v mem_cons_self
   simp[this]
theorem lr{kindOf:Str→Option NameKind}{x:Str}{v:Value}:∀{P:List Str}{vs:List Value}{i:Nat}{m:Str→Option Value},P.Nodup→P[i]?=some x→vs[i]?=some v→kindOf x=some .local →
  bindL kindOf (P.zip vs) m x=some v
 |[],_,_,_,_,h,_,_=>by simp at h
 |_::_,[],_,_,_,_,h,_=>by simp at h
 |p::P,w::vs,0,m,nd,h1,h2,hk=>by
  simp at h1 h2;subst h1;subst h2;show bindL kindOf ((p,w)::P.zip vs) m p=_;unfold bindL;rw[ln λv hv=>(nodup_cons.mp nd).1 (of_mem_zip hv).1,if_pos hk];simp
 |p::P,w::vs,i+1,m,nd,h1,h2,hk=>by
  show bindL kindOf ((p,w)::P.zip vs) m x=_;unfold bindL;exact lr (i:=i) (nodup_cons.mp nd).2 (by simpa using h1) (by simpa using h2) hk
theorem ls{kindOf:Str→Option NameKind}{x:Str}{v:Value}:∀{P:List Str}{vs:List Value}{i:Nat}{m:Str→Option Value},P.Nodup→P[i]?=some x→vs[i]?=some v→kindOf x≠some .local →
  bindC kindOf (P.zip vs) m x=some v
 |[],_,_,_,_,h,_,_=>by simp at h
 |_::_,[],_,_,_,_,h,_=>by simp at h
 |p::P,w::vs,0,m,nd,h1,h2,hk=>by
  simp at h1 h2;subst h1;subst h2;show bindC kindOf ((p,w)::P.zip vs) m p=_;unfold bindC;rw[lp λv hv=>(nodup_cons.mp nd).1 (of_mem_zip hv).1,if_neg hk];simp
 |p::P,w::vs,i+1,m,nd,h1,h2,hk=>by
  show bindC kindOf ((p,w)::P.zip vs) m x=_;unfold bindC;exact ls (i:=i) (nodup_cons.mp nd).2 (by simpa using h1) (by simpa using h2) hk
def start(N:List Str)(vs:List V):St:=vs.map some++List.replicate (N.length-vs.length) none
def gF(CX:CXT)(P:Program)(w:World)(K:PySem.W.Frag)(mg:Str→Option Value)(base:Heap)(N:List Str)(qual:Str)(scope:Scope)(f:Addr)(cd:Value)(A:Around)(outer:List Env)(s:Shared)(H:Hp)(E:XK):Cx where
 prog:=P
 w:=w
 K:=K
 mg:=mg
 base:=base
 A:=A.deeper (envOfC qual scope s.heap.objs.size f cd)
 N:=N
 s₀:=s
 H₀:=H
 env:=envOfC qual scope s.heap.objs.size f cd
 outer:=outer
 stack:=envOfC qual scope s.heap.objs.size f cd::outer
 ex:=[]
 calm:=true
 fn:=λ_=>true
 pn:=[]
 xe:=λe s'=>wpAny (model P w) (A.deeper (envOfC qual scope s.heap.objs.size f cd)) (leaving (envOfC qual scope s.heap.objs.size f cd) e) (λ_ s''=>CX outer H s E e s'') (λe' s''=>CX outer H s E e' s'') s'
theorem nY{sc:Scope}{n:Nat}{x:Str}(h:sc.names.lookup x=some .cell):∃c,(cellsFrom n sc.names []).lookup x=some c:=by
 have q:=PySem.W.cellsFrom_some sc.names n [] (.inl h);exact Option.isSome_iff_exists.mp q
theorem sk{CX:CXT}{P:Program}{w:World}{K:PySem.W.Frag}{mg:Str→Option Value}{base:Heap}{N ps:List Str}{qual:Str}{scope:Scope}{f:Addr}{cd:Value}{A:Around}{outer:List Env}{s s1:Shared}{H:Hp}{E:XK}{us:List Value}{vs:List V}(S:FnScope N ps scope)(hd:A.handled=none)(e0:Env0 P w K mg base A outer s H)(hl:vs.length=ps.length)(r:aH vs us)(x:InCallC s s.heap.objs.size (bindL (envOfC qual scope s.heap.objs.size f cd).kindOf (ps.zip us) λ_=>none) (cellsFrom (s.heap.objs.size+1) scope.names []) (bindC (envOfC qual scope s.heap.objs.size f cd).kindOf (ps.zip us) λ_=>none) s1):
  Inv (gF CX P w K mg base N qual scope f cd A outer s H E) [] (start N vs) H s1:=by
 have hpl:ps.length≤N.length:=by have:=congrArg length S.pre;rw[length_take]at this;omega
 obtain⟨h1,tk,rfl,hk⟩:=x.done;have noA:∀b:Addr,b∉(gF CX P w K mg base N qual scope f cd A outer s H E).ex:=λb z=>absurd (show b∈([]:List Addr)from z) (by simp);refine⟨⟨e0.mod,S.kind,rfl,rfl,le_refl _,λy z c h1 h2=>?_,λy hy=>?_,λy c _ h=>?_,λ_=>hd,Around.frames_deeper e0.frames,.inr ⟨rfl,rfl⟩,λb z=>absurd z (noA b),e0.bs,e0.bsz,λb _ _=>noA b,λb z=>absurd z (noA b),e0.funs,e0.frf⟩,
  rfl,e0.bare,Un.kept hk,⟨_,x.toInCall.ns,λi y v h1 h2 h3=>?_⟩,λy c h=>⟨_,x.cell y c h⟩,e0.hok.fresh (le_refl _),λy c h=>?_,λp hp=>absurd (show p∈([]:List (Addr×Obj))from hp) (by simp),e0.hok.kept hk,?_⟩
 ·exact name_of_addr x.apart (PySem.mem_of_lookup h1) (PySem.mem_of_lookup h2)
 ·have hy:scope.names.lookup y=some .cell∨scope.names.lookup y=some .free:=hy;rcases hy with hy|hy
  ·exact nY hy
  ·exact absurd rfl (S.nofree _ (PySem.mem_of_lookup hy))
 ·exact le_of_lt (x.above y c (PySem.mem_of_lookup h))
 ·have hi:i<vs.length:=by
   unfold start at h2
   by_cases hi:i<vs.length
   ·exact hi
   ·rw[getElem?_append_right (by simpa using hi)]at h2;rw[List.getElem?_replicate]at h2
    split at h2<;>cases h2
  have ha:vs[i]?=some v:=by
   unfold start at h2;rw[getElem?_append_left (by simpa using hi),getElem?_map]at h2;cases e:vs[i]? with
   |none=>rw[e]at h2;cases h2
   |some a=>rw[e]at h2;cases h2;rfl
  obtain⟨u,hu,rv⟩:=r.get ha;have hp:ps[i]?=some y:=by
   rw[←S.pre,List.getElem?_take_of_lt (by omega)];exact h1
  have ndP:ps.Nodup:=by rw[←S.pre];exact S.nd.sublist (take_sublist _ _)
  refine⟨u,rv,?_⟩;rcases S.par y (mem_of_getElem? hp)with k|k
  ·exact .inl ⟨k,lr ndP hp hu k⟩
  ·obtain⟨c,e⟩:=nY (n:=s.heap.objs.size+1) k;refine .inr ⟨.inl k,c,e,?_⟩;have q:=x.cell y c e;rw[ls ndP hp hu (by show scope.names.lookup y≠_;rw[k];decide)]at q;exact q
 ·exact e0.hok.fresh (le_of_lt (x.above y c (PySem.mem_of_lookup h)))
 ·unfold start;show _=N.length;rw[length_append,length_map,List.length_replicate];omega
theorem xR{CX:CXT}{P:Program}{w:World}{K:PySem.W.Frag}{mg:Str→Option Value}{base:Heap}{k:Nat}{f:Addr}{name qual:Str}{params:Arguments}{body:List Stmt}{scope:Scope}{dV kV doc pm cdv ct oc:Value}{an od:Option Addr}{osl:Array (Option Value)}{N ps:List Str}{sp:Sp}(lk:K.lookup f=some ⟨oc,od,.func (fnOf name qual params body scope dV kV doc pm an cdv ct),osl⟩)(hcd:codeIn K cdv qual=true)(S:FnScope N ps scope)(len:∀vs H Q E,sp vs H Q E→vs.length=ps.length)(hbody:∀(A:Around) (outer:List Env) (s:Shared) (H:Hp) (vs:List V) (Q:VK) (E:XK),Room k (A.deeper (envOfC qual scope s.heap.objs.size f cdv))→sp vs H Q E →
   ∃t,PSs (gF CX P w K mg base N qual scope f cdv A outer s H E) body t∧t {nx:=λ_ H'=>Q .non H',rt:=Q} (start N vs) H):
  FnOk P w K mg base CX (k+1) f (fnOf name qual params body scope dV kV doc pm an cdv ct) ps sp:=by
 refine⟨len,λA outer s H args us vs Q E hr e0 hb r hsp=>?_⟩;have hl:=len _ _ _ _ hsp;have KX:K.In s.heap:=e0.mod.kin.keeps λb o e=>(e0.bs b o e).1;have lim:s.heap.NoLimit:=e0.mod.nolimit.keeps λb o e=>(e0.bs b o e).1;have hkind:∀y∈ps.zip us,scope.names.lookup y.1=some .local∨(scope.names.lookup y.1=some .cell∧((cellsFrom (s.heap.objs.size+1) scope.names []).lookup y.1).isSome=true):=λ⟨n,v⟩ hy=>by
  rcases S.par n (of_mem_zip hy).1 with q|q
  ·exact .inl q
  ·exact .inr ⟨q,PySem.W.cellsFrom_some _ _ _ (.inl q)⟩
 refine codeAny_call_function hr.depth (KX _ _ lk) rfl S.co S.gen rfl (PySem.W.codeRec_of KX hcd) (hb _ _ _ _ ?_);refine wpAny_newFunctionEnv_cells S.kind hkind λenv he s1 x=>?_;subst he;refine⟨lim.keeps x.toInCall.keep,codeAny_func ?_⟩;obtain⟨t,ht,hq⟩:=hbody A outer s H vs Q E (hr.deeper _) hsp;have I:Inv (gF CX P w K mg base N qual scope f cdv A outer s H E) [] (start N vs) H s1:=sk S hr.hd e0 hl r x;refine wpAny_mono (ht [] s1 (start N vs) H _ I hq) (λfl s' hs=>?_) λe s' hs=>hs;have fin:∀{σ':St}{H':Hp}{v:V}{u:Value},Inv (gF CX P w K mg base N qual scope f cdv A outer s H E) [] σ' H' s'→aL v u→Q v H'→CE outer P w H s Q u s' :=
  λ{σ' H' v u} J rv q=>⟨v,H',J.os,J.bare,J.base,J.hok,rv,q⟩
 cases fl with
 |ret u =>
  obtain⟨v,σ',H',J,rv,q⟩:=hs;exact fin J rv q
 |next =>
  obtain⟨σ',H',J,q⟩:=hs;exact fin (v:=V.non) (u:=Value.none) J rfl q
 |brk =>
  obtain⟨_,_,_,q⟩:=hs;exact False.elim q
 |cont =>
  obtain⟨_,_,_,q⟩:=hs;exact False.elim q
section
variable{X:Cx}{x:Str}{p pos:Pos}{e:Expr}{es:List Expr}{t:TA}{id T:String}{r:List V→Hp→VK→Prop}
def tCB(r:List V→Hp→VK→Prop)(t:TA):TE:=λσ H Q=>t σ H λvs H1=>r vs H1 Q
theorem aB(hc:cz X (.builtin id) r)(hg:Gl X x)(hm:X.mg x=none)(hv:bootBuiltins x=some (.builtin id))(ha:PA X (e::es) t)(hn:x≠"__name__":=by decide)(hdb:(x==("__debug__":Str))=false:=by decide)(he:starEach (e::es) X.env=(false,eval e X.env)::starEach es X.env:=by rfl)(hpl:(backTo pos (starEach es X.env)).any (·.1)=false:=by rfl):PE X (.Call (.Name x p) (e::es) [] pos) (tCB r t):=by
 intro pins s σ H Q I h;refine wpAny_Call_Name_kw (jx I hg hm hv ?_ hn hdb);exact PyProof.Rows.callWith_builtin1 (thn (ha pos pins s σ H _ I h) λus s1 ⟨vs,H1,I1,r1,q1⟩=>hc pins s1 σ H1 vs us Q I1 r1 q1) he hpl
theorem aO(hc:cz X (.type T) r)(hg:Gl X x)(hm:X.mg x=none)(hv:bootBuiltins x=some (.type T))(ha:PA X (e::es) t)(hn:x≠"__name__":=by decide)(hdb:(x==("__debug__":Str))=false:=by decide)(he:starEach (e::es) X.env=(false,eval e X.env)::starEach es X.env:=by rfl)(hpl:(backTo pos (starEach es X.env)).any (·.1)=false:=by rfl):PE X (.Call (.Name x p) (e::es) [] pos) (tCB r t):=by
 intro pins s σ H Q I h;refine wpAny_Call_Name_kw (jx I hg hm hv ?_ hn hdb);exact PyProof.Rows.callWith_type1 (thn (ha pos pins s σ H _ I h) λus s1 ⟨vs,H1,I1,r1,q1⟩=>hc pins s1 σ H1 vs us Q I1 r1 q1) he hpl
end
end L2
namespace HT
open PySem PyProof.Rows
section
open PySem.SeqAt
open PySem.AutoSeq1 (wpAny_loadPart')
open PySem.MeetsSeq PySem.MeetsSeq2 PySem.MeetsSeq3
end
section
variable{prog:Program}{w:World}{A:Around}{E:Value→Shared→Prop}{s:Shared}
theorem wm{t b:Addr}{vs ws:List Value}{Q:Value→Shared→Prop}(ht:IsTup s.heap t vs.toArray)(hb:IsTup s.heap b ws.toArray)(hv:vs≠[])(h1:ws=[]→Q (.ref t) s)(h2:ws≠[]→Q (.ref s.heap.objs.size) {s with heap:=s.heap.push {cls:=.type "tuple",data:=.seq (vs++ws).toArray}})(hsz:vs.length+ws.length≤sizeLine):wpAny (model prog w) A (binaryOp .Add (.ref t) (.ref b)) Q E s:=by
 obtain⟨⟨cls,dd,data,sl⟩,ho,hc,n,hd⟩:=id ht;obtain⟨⟨cls2,dd2,data2,sl2⟩,ho2,hc2,n2,hd2⟩:=id hb;simp only at hc hd hc2 hd2;subst hc hd hc2 hd2;have e:vs.toArray++ws.toArray=(vs++ws).toArray:=by simp
 by_cases hw:ws=[]
 ·exact concat_meets ⟨_,ho,rfl⟩ ⟨_,ho2,rfl⟩ noFill_tuple_add seq_tuple_add slot_tuple_add entry_tuple_add (args_tuple_add_2 _ _)
   (tuple_addW1 t b vs.toArray ws.toArray n n2 dd dd2 sl sl2 (by simpa using hv) (by simp[hw])) ⟨ho,ho2,h1 hw⟩
 ·refine concat_meets ⟨_,ho,rfl⟩ ⟨_,ho2,rfl⟩ noFill_tuple_add seq_tuple_add slot_tuple_add entry_tuple_add (args_tuple_add_2 _ _)
   (tuple_addW2 t b vs.toArray ws.toArray n n2 dd dd2 sl sl2 (by simpa using hv) (by simpa using hw) (by rw[size_toArray,size_toArray];exact hsz)) ⟨ho,ho2,?_⟩
  rw[e];exact h2 hw
def sIx(n d:Nat):Option Int→Nat
 |none=>d
 |some v=>if v<0 then (v+(n:Int)).toNat else min v.toNat n
theorem nZ(n d:Nat):sIx n d none=d:=rfl
theorem ma(n d k:Nat):sIx n d (some (k:Int))=min k n:=by
 show(if (k:Int)<0 then ((k:Int)+(n:Int)).toNat else min (k:Int).toNat n)=min k n
 rw[if_neg (by omega),toNat_natCast]
theorem yp(n d:Nat)(hd:d≤n)(o:Option Int):sIx n d o≤n:=by
 cases o with
 |none=>exact hd
 |some v =>
  show(if v<0 then (v+(n:Int)).toNat else min v.toNat n)≤n
  by_cases hv:v<0
  ·rw[if_pos hv];omega
  ·rw[if_neg hv];exact Nat.min_le_right _ _
theorem qS(v:Int)(n d:Nat):(if v<0 then max (v+(n:Int)) 0 else min v (n:Int))=((sIx n d (some v):Nat):Int):=by
 show(if v<0 then max (v+(n:Int)) 0 else min v (n:Int))=(((if v<0 then (v+(n:Int)).toNat else min v.toNat n):Nat):Int)
 by_cases hv:v<0
 ·simp only[if_pos hv];omega
 ·simp only[if_neg hv];omega
theorem pL(lo hi:Option Int)(n:Nat):Builtin.Slice.sliceAdjust lo hi 1 (n:Int)=(((sIx n 0 lo:Nat):Int),((sIx n n hi:Nat):Int)):=by
 have h1:¬((1:Int)<0):=by omega
 unfold Builtin.Slice.sliceAdjust;simp only[h1,if_false];refine Prod.ext ?_ ?_
 ·cases lo with
  |none=>rfl
  |some v=>exact qS v n 0
 ·cases hi with
  |none=>rfl
  |some v=>exact qS v n n
theorem pN(i j:Nat):Builtin.Slice.slicePlaces (i:Int) (j:Int) 1=j-i:=by
 unfold Builtin.Slice.slicePlaces;have h1:(1:Int)>0:=by omega
 simp only[h1,if_true,Int.ediv_one]
 split<;>omega
theorem jG{v:Value}{o:Option Int}{Q:Option Int→Shared→Prop}(p:IsPart v o)(h:Q o s):wpAny (model prog w) A (Builtin.Slice.slicePartIndex v) Q E s:=by
 cases p with
 |none=>exact slicePart_none h
 |int i t=>exact slicePart_int h
theorem eC{sl:Addr}{vl vu:Value}{lo hi:Option Int}{n:Nat}{Q:Int×Int×Nat→Shared→Prop}(hs:s.heap.IsSliceOf sl vl vu .none)(pl:IsPart vl lo)(pu:IsPart vu hi)(h:Q (((sIx n 0 lo:Nat):Int),1,sIx n n hi-sIx n 0 lo) s):wpAny (model prog w) A (Builtin.Slice.sliceApplied (.ref sl) (pure (n:Int))) Q E s:=by
 obtain⟨os,hos,hcs,hds⟩:=id hs;unfold Builtin.Slice.sliceApplied Builtin.Slice.sliceFields;refine wpAny_bind (wpAny_bind (wpAny_field hos hds (x:=vl) rfl (wpAny_bind (wpAny_field hos hds (x:=vu) rfl (wpAny_bind (wpAny_field hos hds (x:=.none) rfl (wpAny_pure ?_)))))));refine wpAny_bind (slicePart_none ?_);show wpAny _ _ (if ((1:Int)==0)=true then _ else _) _ _ s
 rw[if_neg (by decide)];refine wpAny_bind (jG pl (wpAny_bind (jG pu (wpAny_bind (wpAny_pure ?_)))));show wpAny _ _ (match Builtin.Slice.sliceAdjust lo hi 1 (n:Int)with|(lo,hi)=>pure (lo,(1:Int),Builtin.Slice.slicePlaces lo hi 1)) _ _ s
 rw[pL lo hi n];show wpAny _ _ (pure (((sIx n 0 lo:Nat):Int),(1:Int),Builtin.Slice.slicePlaces ((sIx n 0 lo:Nat):Int) ((sIx n n hi:Nat):Int) 1)) _ _ s;rw[pN];exact wpAny_pure h
theorem tQ(xs:Array Value)(i k:Nat):((List.range k).filterMap λ(m:Nat)=>xs[((i:Int)+(m:Int)*1).toNat]?).toArray=((xs.toList.drop i).take k).toArray:=by
 have e:(λ(m:Nat)=>xs[((i:Int)+(m:Int)*1).toNat]?)=λm=>xs[i+m]?:=by
  funext m
  have:((i:Int)+(m:Int)*1).toNat=i+m:=by omega
  rw[this]
 rw[e];have:=pick_run xs i k;rw[List.filterMap_map]at this;have e2:((λx=>xs[x]?)∘λx=>i+x)=λm=>xs[i+m]?:=rfl;rw[e2]at this;rw[this]
theorem gT{t sl:Addr}{items:Array Value}{vl vu:Value}{lo hi:Option Int}{Q:Value→Shared→Prop}(ht:IsTup s.heap t items)(hs:s.heap.IsSliceOf sl vl vu .none)(pl:IsPart vl lo)(pu:IsPart vu hi)(hw:¬(sIx items.size 0 lo=0∧sIx items.size items.size hi=items.size))(h:Q (.ref s.heap.objs.size) {s with heap:=s.heap.push {cls:=.type "tuple",data:=.seq ((items.toList.drop (sIx items.size 0 lo)).take (sIx items.size items.size hi-sIx items.size 0 lo)).toArray}})(hsz:items.size≤sizeLine):wpAny (model prog w) A (getItem (.ref t) (.ref sl)) Q E s:=by
 have htake:sizeOk (.seq ((items.toList.drop (sIx items.size 0 lo)).take (sIx items.size items.size hi-sIx items.size 0 lo)).toArray):=by
  show((items.toList.drop (sIx items.size 0 lo)).take (sIx items.size items.size hi-sIx items.size 0 lo)).toArray.size≤sizeLine;rw[size_toArray,length_take,length_drop,length_toList];omega
 have hj:sIx items.size items.size hi≤items.size:=yp _ _ (le_refl _) hi;obtain⟨os,hos,hcs,hds⟩:=id hs;have hTs:s.TypeIs (.ref sl) "slice":=⟨os,hos,hcs⟩;unfold getItem
 try with_reducible refine wpAny_holding ?_
 first|refine wpAny_bind (wpAny_pure ?_)|skip
 refine wpAny_bind (wpAny_sequenceKey ht.typeIs (by decide) ?_);refine wpAny_bind (wpAny_callSpecial?_slot (name:=ofString "__getitem__") ht.typeIs PyProof.Rows.slot_tuple_getitem
  (wpAny_call_entry PyProof.Rows.slot_tuple_getitem ht.typeIs entry_tuple_getitem ?_ (args_tuple_getitem _ _)))
 show wpAny _ _ (Builtin.Tuple.tupleItemsOf (.ref t) >>= _) _ _ s;refine wpAny_bind (tupleItemsOf_ ht ?_);refine wpAny_bind (wpAny_typeOf hTs ?_);rw[if_pos (by decide)];refine wpAny_bind (eC hs pl pu ?_);have hno:¬((((sIx items.size 0 lo:Nat):Int)==0&&(1:Int)==1&&(sIx items.size items.size hi-sIx items.size 0 lo)==items.size)=true):=by
  intro q;rw[and_eq_true,and_eq_true]at q;have q1:((sIx items.size 0 lo:Nat):Int)=0:=eq_of_beq q.1.1;have q2:sIx items.size items.size hi-sIx items.size 0 lo=items.size:=eq_of_beq q.2;exact hw ⟨by omega,by omega⟩
 show wpAny _ _ (if (((sIx items.size 0 lo:Nat):Int)==0&&(1:Int)==1&&(sIx items.size items.size hi-sIx items.size 0 lo)==items.size)=true then _ else _) _ _ s
 rw[if_neg hno,tQ]
 first
  |exact wpAny_bind (m:=Builtin.Tuple.tupleExact _) (wpAny_newObj_type (wpAny_pure ⟨_,rfl,wpAny_pure h⟩) htake)
  |exact wpAny_bind (m:=Builtin.Tuple.tupleExact _) (wpAny_newObj_type (wpAny_bind (wpAny_pure (wpAny_pure ⟨_,rfl,wpAny_pure h⟩))) htake)
  |exact wpAny_bind (wpAny_bind (m:=Builtin.Tuple.tupleExact _) (wpAny_newObj_type (wpAny_pure (wpAny_pure ⟨_,rfl,wpAny_pure h⟩)) htake))
  |exact wpAny_bind (wpAny_bind (m:=Builtin.Tuple.tupleExact _) (wpAny_newObj_type (wpAny_pure ⟨_,rfl,wpAny_pure h⟩) htake))
end
end HT
namespace L2
open PySem PySem.Spec PyProof.Rows
abbrev TO:=St→Hp→(Option Int→Hp→Prop)→Prop
def PO(X:Cx)(e:Option Expr)(t:TO):Prop :=
 ∀(pins:List (Addr×Obj))(s:Shared)(σ:St)(H:Hp)(Q:Option Int→Hp→Prop),Inv X pins σ H s→t σ H Q →
  wpAny (model X.prog X.w) X.A (evalPart e X.env) (λu s'=>∃o H',Inv X pins σ H' s'∧IsPart u o∧Q o H') X.xe s
def wp:TO:=λ_ H Q=>Q none H
def zZ(t:TE):TO:=λσ H Q=>t σ H λx H1=>∃i,x=.int i∧Q (some i) H1
theorem pO{ns:List Int}:∀{us:List Value},aH (ns.map V.int) us→IntsAre us ns:=by
 induction ns with
 |nil=>intro us r;rw[map_nil]at r;cases r;exact .nil
 |cons n ns ih =>
  intro us r;rw[map_cons]at r;cases r with
  |cons r1 r2 =>
   obtain⟨t,e⟩:=r1;subst e;exact .cons n t (ih r2)
section
variable{X:Cx}{e:Expr}{te:TE}{lo hi:Option Expr}{tl th:TO}{pos p2:Pos}
theorem eM:PO X none wp:=by
 intro pins s σ H Q I h;rw[evalPart_none];exact wpAny_pure ⟨none,H,I,.none,h⟩
theorem cp(h:PE X e te):PO X (some e) (zZ te):=by
 intro pins s σ H Q I hw;rw[evalPart_some];refine thn (h pins s σ H _ I hw) λu s1 hpt=>?_;obtain⟨x,H1,I1,r1,q1⟩:=hpt;obtain⟨i,rfl,q⟩:=q1;obtain⟨t,rfl⟩:=r1;exact⟨some i,H1,I1,.int i t,q⟩
def SlR(X:Cx)(r:V→Option Int→Option Int→Hp→VK→Prop):Prop :=
 ∀(pins:List (Addr×Obj))(s:Shared)(σ:St)(H:Hp)(x:V)(v vl vu:Value)(lo hi:Option Int)(sl:Addr)(Q:VK),Inv X pins σ H s→aL x v→s.heap.IsSliceOf sl vl vu .none→IsPart vl lo→IsPart vu hi→r x lo hi H Q →
  ∃T id,typeLookup (.type T) "__getitem__"=pure (some (.builtin id))∧s.TypeIs v T∧wpAny (model X.prog X.w) X.A (getItem v (.ref sl)) (EP X pins σ Q) X.xe s
theorem SlR.or{r r':V→Option Int→Option Int→Hp→VK→Prop}(h:SlR X r)(h':SlR X r'):SlR X (λx lo hi H Q=>r x lo hi H Q∨r' x lo hi H Q):=by
 intro pins s σ H x v vl vu lo hi sl Q I rx hs pl pu q;rcases q with q|q
 ·exact h pins s σ H x v vl vu lo hi sl Q I rx hs pl pu q
 ·exact h' pins s σ H x v vl vu lo hi sl Q I rx hs pl pu q
def tSl(r:V→Option Int→Option Int→Hp→VK→Prop)(te:TE)(tl th:TO):TE:=λσ H Q=>te σ H λx H1=>tl σ H1 λl H2=>th σ H2 λu H3=>r x l u H3 Q
theorem cu{r:V→Option Int→Option Int→Hp→VK→Prop}(hr:SlR X r)(he:PE X e te)(hl:PO X lo tl)(hu:PO X hi th):PE X (.Subscript e (.Slice lo hi none p2) pos) (tSl r te tl th):=by
 intro pins s σ H Q I h;refine Subscript_ (thn (he pins s σ H _ I h) λv s1 hpt=>?_);obtain⟨x,H1,I1,r1,q1⟩:=hpt;refine wpAny_Slice (thn (hl pins s1 σ H1 _ I1 q1) λvl s2 ⟨l,H2,I2,pl,q2⟩=>thn (hu pins s2 σ H2 _ I2 q2) λvu s3 hpt=>?_);obtain⟨u,H3,I3,pu,q3⟩:=hpt;rw[evalPart_none];refine wpAny_pure ?_;have I4:Inv X pins σ H3 {s3 with heap:=s3.heap.push {cls:=.type "slice",data:=.fields #[vl,vu,.none]}}:=I3.kept (t':=s3.toks) λb ob q=>get?_push_of_some _ q
 obtain⟨T,id,hT,ht,hg⟩:=hr pins {s3 with heap:=s3.heap.push {cls:=.type "slice",data:=.fields #[vl,vu,.none]}} σ H3 x v vl vu l u s3.heap.objs.size Q I4 r1 (Heap.IsSliceOf.new ..) pl pu q3
 show wpAny (model X.prog X.w) X.A (subscriptTail e (.Slice lo hi none p2) v (.ref s3.heap.objs.size)) (EP X pins σ Q) X.xe {s3 with heap:=s3.heap.push {cls:=.type "slice",data:=.fields #[vl,vu,.none]}}
 exact tail_any (ops:=[.ref s3.heap.objs.size,v]) ht hT hg (by with_unfolding_all rfl)
def dR(xs:List V)(lo hi:Option Int):List V:=(xs.drop (HT.sIx xs.length 0 lo)).take (HT.sIx xs.length xs.length hi-HT.sIx xs.length 0 lo)
theorem iV(xs:List V)(lo hi:Option Int):(dR xs lo hi).length≤xs.length:=by
 unfold dR;rw[length_take,length_drop];omega
def tR(K:PySem.W.Frag):V→Option Int→Option Int→Hp→VK→Prop:=λx lo hi H Q=>∃a xs,x=.ref a∧SqT K H a xs ∧
 ¬(HT.sIx xs.length 0 lo=0∧HT.sIx xs.length xs.length hi=xs.length)∧∀p,H p=none→Q (.ref p) (upd H p (.tup (dR xs lo hi)))
theorem fe:SlR X (tR X.K):=by
 intro pins s σ H x v vl vu lo hi sl Q I rx hs pl pu h;obtain⟨a,xs,rfl,hx,hw,q⟩:=h;cases rx;obtain⟨its,r,ht,hz⟩:=I.tuple hx;have hlen:its.toArray.size=xs.length:=by rw[size_toArray];exact r.length.symm
 refine⟨"tuple",_,PyProof.Rows.slot_tuple_getitem.lookup,ht.typeIs,?_⟩;refine HT.gT ht hs pl pu (by rw[hlen];exact hw) ?_ (by rw[hlen];exact hz);rw[hlen];refine⟨.ref s.heap.objs.size,_,I.laid (t':=s.toks) (o:=.tup (dR xs lo hi)) (λb ob q=>get?_push_of_some _ q) (le_refl _) ?_,rfl,q _ (I.hok.fresh (le_refl _))⟩;exact⟨le_trans (iV xs lo hi) hz,_,(r.drop (HT.sIx xs.length 0 lo)).take (HT.sIx xs.length xs.length hi-HT.sIx xs.length 0 lo),IsTup.new _ _⟩
def tT(K:PySem.W.Frag):R2:=λx y H Q=>∃a b xs ys,x=.ref a∧y=.ref b∧SqT K H a xs∧SqT K H b ys∧xs≠[]∧xs.length+ys.length≤sizeLine ∧
 (ys=[]→Q (.ref a) H)∧(ys≠[]→∀p,H p=none→Q (.ref p) (upd H p (.tup (xs++ys))))
theorem aH.nil_iff{xs:List V}{us:List Value}(r:aH xs us):us=[]↔xs=[]:=by
 cases r with
 |nil=>simp
 |cons _ _=>simp
theorem gU:OpR X (binaryOp .Add) (tT X.K):=by
 intro pins s σ H x y v u Q I rx ry h;obtain⟨a,b,xs,ys,rfl,rfl,ha,hb,hx,hz,q1,q2⟩:=h;cases rx;cases ry;obtain⟨its,r1,p1,_⟩:=I.tuple ha;obtain⟨its2,r2,p2,_⟩:=I.tuple hb;refine HT.wm p1 p2 (λz=>hx (r1.nil_iff.mp z)) (λz=>⟨.ref a,H,I,rfl,q1 (r2.nil_iff.mp z)⟩) (λz=>?_) (by rw[←r1.length,←r2.length];exact hz);refine⟨.ref s.heap.objs.size,_,I.laid (t':=s.toks) (o:=.tup (xs++ys)) (λb ob q=>get?_push_of_some _ q) (le_refl _) ?_,rfl,q2 (λw=>z (r2.nil_iff.mpr w)) _ (I.hok.fresh (le_refl _))⟩;exact⟨by rw[length_append];exact hz,_,r1.append r2,IsTup.new _ _⟩
end
def ixN(n:Nat)(i:Int):Option Nat:=if 0≤i then (if i<n then some i.toNat else none)else if -(n:Int)≤i then some (i+n).toNat else none
def atI{α:Type}(xs:List α)(i:Int):Option α:=(ixN xs.length i).bind λj=>xs[j]?
theorem qT{n:Nat}{i:Int}{j:Nat}(h:ixN n i=some j):seqIndex? i n=some j∧j<n∧-(n:Int)≤i∧i<n:=by
 unfold ixN at h
 by_cases h0:0≤i
 ·rw[if_pos h0]at h
  by_cases h1:i<n
  ·rw[if_pos h1]at h;have e:i.toNat=j:=Option.some.inj h;exact⟨by rw[seqIndex_of h0 h1,e],by omega,by omega,h1⟩
  ·rw[if_neg h1]at h;cases h
 ·rw[if_neg h0]at h
  by_cases h1:-(n:Int)≤i
  ·rw[if_pos h1]at h;have e:(i+n).toNat=j:=Option.some.inj h;exact⟨by rw[seqIndex_neg (by omega) h1,e],by omega,h1,by omega⟩
  ·rw[if_neg h1]at h;cases h
theorem qU{α:Type}{xs:List α}{i:Int}{v:α}(h:atI xs i=some v):∃j,seqIndex? i xs.length=some j∧xs[j]?=some v∧j<xs.length∧-(xs.length:Int)≤i∧i<xs.length:=by
 unfold atI at h;cases e:ixN xs.length i with
 |none=>rw[e]at h;cases h
 |some j =>
  rw[e]at h;obtain⟨h1,h2,h3,h4⟩:=qT e;exact⟨j,h1,h,h2,h3,h4⟩
theorem md{α:Type}{xs:List α}{j:Nat}{v:α}(h:xs[j]?=some v):atI xs (j:Int)=some v:=by
 have hj:j<xs.length:=(List.getElem?_eq_some_iff.mp h).1;have e:ixN xs.length (j:Int)=some j:=by
  unfold ixN;rw[if_pos (by omega),if_pos (by omega)];simp
 unfold atI;rw[e];exact h
def wq(b:Expr):Prop:=∀o i,subscripted b false o i=operate [o,i] (getItem o i)
def IxR(X:Cx)(r:R2):Prop :=
 ∀(value slice:Expr)(pins:List (Addr×Obj))(s:Shared)(σ:St)(H:Hp)(x y:V)(v u:Value)(Q:VK),Inv X pins σ H s→aL x v→aL y u→r x y H Q →
  subscripted slice false v u=operate [v,u] (getItem v u)→wpAny (model X.prog X.w) X.A (subscriptTail value slice v u) (EP X pins σ Q) X.xe s
def MtR(X:Cx)(id:String)(r:V→List V→Hp→VK→Prop):Prop :=
 ∀(pins:List (Addr×Obj))(s:Shared)(σ:St)(H:Hp)(x:V)(xs:List V)(v:Value)(us:List Value)(Q:VK),Inv X pins σ H s→aL x v→aH xs us→r x xs H Q →
  wpAny (model X.prog X.w) X.A (call (.builtin id) (v::us)) (EP X pins σ Q) X.xe s
section
variable{X:Cx}{a b:Expr}{ta tb:TE}{pos:Pos}
theorem au{r:R2}(hr:IxR X r)(ha:PE X a ta)(hb:PE X b tb)(hs:wq b):PE X (.Subscript a b pos) (tOp r ta tb):=by
 intro pins s σ H Q I h;exact Subscript_ (yj ha hb I h λv u s2 x y H2 I2 rx ry q=>hr a b pins s2 σ H2 x y v u Q I2 rx ry q (hs _ _))
def AR(K:PySem.W.Frag):R2:=λx y H Q=>∃p xs i v,x=.ref p∧y=.int i∧SqL K H p xs∧atI xs i=some v∧Q v H
def dS(K:PySem.W.Frag):R2:=λx y H Q=>∃p xs i v,x=.ref p∧y=.int i∧SqT K H p xs∧atI xs i=some v∧Q v H
theorem bg:IxR X (AR X.K):=by
 intro value slice pins s σ H x y v u Q I rx ry h hs;obtain⟨p,xs,i,z,rfl,rfl,hq,he,q⟩:=h;cases rx;obtain⟨t,rfl⟩:=ry;obtain⟨its,r,pl,hz⟩:=I.list hq;obtain⟨j,h1,h2,h3,h4,h5⟩:=qU he;obtain⟨w,ew,rw'⟩:=r.get h2;have hl:=r.length;have hn:=jB;have fin:EP X pins σ Q w s:=⟨z,H,I,rw',q⟩
 by_cases h0:0≤i
 ·have hj:i.toNat=j:=by
   rw[seqIndex_of h0 h5]at h1;exact Option.some.inj h1
  exact item_listR pl.isList h0 (by omega) (by rw[hj];simpa using ew) fin hs
 ·have hj:(i+(its.toArray.size:Int)).toNat=j:=by
   rw[seqIndex_neg (by omega) h4]at h1;rw[size_toArray,←hl];exact Option.some.inj h1
  exact subscriptTail_builtinR (x:=w) pl.isList.typeIs slot_list_getitem.lookup
   (wpAny_getItem_list_neg (Q:=λr s'=>r=w∧EP X pins σ Q r s') pl.isList (by omega) (by rw[size_toArray]<;>omega) (by omega) (by rw[hj];simpa using ew) ⟨rfl,fin⟩) hs
theorem ar:IxR X (dS X.K):=by
 intro value slice pins s σ H x y v u Q I rx ry h hs;obtain⟨p,xs,i,z,rfl,rfl,hq,he,q⟩:=h;cases rx;obtain⟨t,rfl⟩:=ry;obtain⟨its,r,pl,hz⟩:=I.tuple hq;obtain⟨j,h1,h2,h3,h4,h5⟩:=qU he;obtain⟨w,ew,rw'⟩:=r.get h2;have hl:=r.length;have hn:=jB;have fin:EP X pins σ Q w s:=⟨z,H,I,rw',q⟩;exact subscriptTail_builtinR (x:=w) pl.typeIs slot_tuple_getitem.lookup
  (getItem_tuple (j:=j) (Q:=λr s'=>r=w∧EP X pins σ Q r s') pl (by omega) (by omega) (by rw[size_toArray,←hl];exact h1) (by simpa using ew) ⟨rfl,fin⟩) hs
theorem mf(lo hi:Option Int)(n:Nat):(sliceBounds lo hi none n).1=((HT.sIx n 0 lo:Nat):Int)∧(sliceBounds lo hi none n).2.1=((HT.sIx n n hi:Nat):Int)∧(sliceBounds lo hi none n).2.2=1:=by
 refine⟨?_,?_,rfl⟩
 ·cases lo with
  |none=>simp[sliceBounds,HT.sIx]
  |some i =>
   simp only[sliceBounds,HT.sIx,getD_none,show(1:Int)>0 by decide,if_true]
   by_cases h:i<0
   ·simp only[h,if_true]<;>omega
   ·simp only[h,if_false]<;>omega
 ·cases hi with
  |none=>simp[sliceBounds,HT.sIx]
  |some i =>
   simp only[sliceBounds,HT.sIx,getD_none,show(1:Int)>0 by decide,if_true]
   by_cases h:i<0
   ·simp only[h,if_true]<;>omega
   ·simp only[h,if_false]<;>omega
theorem kZ(its:List Value)(lo hi:Option Int):slicePick its.toArray lo hi none=((its.drop (HT.sIx its.length 0 lo)).take (HT.sIx its.length its.length hi-HT.sIx its.length 0 lo)).toArray:=by
 obtain⟨h1,h2,h3⟩:=mf lo hi its.toArray.size;unfold slicePick;rw[h1,h2,h3];simp only[sliceRange_one,pick_run,size_toArray]<;>rfl
def AS(K:PySem.W.Frag):V→Option Int→Option Int→Hp→VK→Prop:=λx lo hi H Q=>∃a xs,x=.ref a∧SqL K H a xs∧∀p,H p=none→Q (.ref p) (upd H p (.lst (dR xs lo hi)))
theorem qV:SlR X (AS X.K):=by
 intro pins s σ H x v vl vu lo hi sl Q I rx hs pl pu h;obtain⟨a,xs,rfl,hx,q⟩:=h;cases rx;obtain⟨its,r,ht,hz⟩:=I.list hx;have hlen:=r.length;refine⟨"list",_,slot_list_getitem.lookup,ht.isList.typeIs,?_⟩;refine wpAny_getItem_list_slice ht.isList hs pl pu .none (by simp) ?_ (by rw[size_toArray]<;>omega);rw[kZ,←hlen];refine⟨.ref s.heap.objs.size,_,I.laid (t':=s.toks) (o:=.lst (dR xs lo hi)) (λb ob q=>get?_push_of_some _ q) (le_refl _) ?_,rfl,q _ (I.hok.fresh (le_refl _))⟩;exact⟨le_trans (iV xs lo hi) hz,_,0,(r.drop (HT.sIx xs.length 0 lo)).take (HT.sIx xs.length xs.length hi-HT.sIx xs.length 0 lo),get?_push_size _ rfl⟩
def dz:V→Bool
 |.non=>true
 |.bl _=>true
 |.int _=>true
 |.str _=>true
 |_=>false
def eqV:V→V→Bool
 |.non,.non=>true
 |.bl a,.bl b=>a==b
 |.bl a,.int b=>(if a then 1 else 0)==b
 |.int a,.bl b=>a==(if b then 1 else 0)
 |.int a,.int b=>a==b
 |.str a,.str b=>a==b
 |_,_=>false
theorem mh{A:Around}{s:Shared}{y x:V}{u v:Value}(ry:aL y u)(rx:aL x v)(fy:dz y=true)(fx:dz x=true):EqAt A s u v (eqV y x):=by
 cases y with
 |non =>
  cases ry;cases x with
  |non=>cases rx;exact EqAt.same _
  |bl b=>cases rx;exact EqAt.none_bool b
  |int b=>obtain⟨t,rfl⟩:=rx;exact EqAt.none_int b t
  |str b=>obtain⟨t,rfl⟩:=rx;exact EqAt.none_str b t
  |_=>exact absurd (show false=true from fx) Bool.false_ne_true
 |bl a =>
  cases ry;cases x with
  |non=>cases rx;exact EqAt.bool_none a
  |bl b=>cases rx;exact EqAt.bool_bool a b
  |int b=>obtain⟨t,rfl⟩:=rx;exact EqAt.bool_int a b t
  |str b=>obtain⟨t,rfl⟩:=rx;exact EqAt.bool_str a b t
  |_=>exact absurd (show false=true from fx) Bool.false_ne_true
 |int a =>
  obtain⟨t',rfl⟩:=ry;cases x with
  |non=>cases rx;exact EqAt.int_none a t'
  |bl b=>cases rx;exact EqAt.int_bool a t' b
  |int b=>obtain⟨t,rfl⟩:=rx;exact EqAt.int_int a t' b t
  |str b=>obtain⟨t,rfl⟩:=rx;exact EqAt.int_str a t' b t
  |_=>exact absurd (show false=true from fx) Bool.false_ne_true
 |str a =>
  obtain⟨t',rfl⟩:=ry;cases x with
  |non=>cases rx;exact EqAt.str_none a t'
  |bl b=>cases rx;exact EqAt.str_bool a t' b
  |int b=>obtain⟨t,rfl⟩:=rx;exact EqAt.str_int a t' b t
  |str b=>obtain⟨t,rfl⟩:=rx;exact EqAt.str_str a t' b t
  |_=>exact absurd (show false=true from fx) Bool.false_ne_true
 |_=>exact absurd (show false=true from fy) Bool.false_ne_true
def eqU(x:V)(u:Value):Bool:=match u with
 |.none=>eqV .non x
 |.bool b=>eqV (.bl b) x
 |.int i _=>eqV (.int i) x
 |.str z _=>eqV (.str z) x
 |_=>false
theorem tU{x y:V}{u:Value}(r:aL y u)(f:dz y=true):eqU x u=eqV y x:=by
 cases y with
 |non=>cases r;rfl
 |bl b=>cases r;rfl
 |int i=>obtain⟨t,rfl⟩:=r;rfl
 |str z=>obtain⟨t,rfl⟩:=r;rfl
 |_=>exact absurd (show false=true from f) Bool.false_ne_true
theorem mq{x:V}:∀{xs:List V}{us:List Value},aH xs us→xs.all dz=true→us.any (eqU x)=xs.any λy=>eqV y x
 |_,_,.nil,_=>rfl
 |y::xs,u::us,.cons r t,f=>by
  rw[List.all_cons,and_eq_true]at f;rw[any_cons,any_cons,tU r f.1,mq t f.2]
theorem jH{A:Around}{s:Shared}{x:V}{v:Value}(rx:aL x v)(fx:dz x=true):∀{xs:List V}{us:List Value},aH xs us→xs.all dz=true→∀u∈us,EqAt A s u v (eqU x u)
 |_,_,.nil,_=>λu hu=>by cases hu
 |y::xs,u::us,.cons r t,f=>λu' hu=>by
  rw[List.all_cons,and_eq_true]at f;rcases mem_cons.mp hu with rfl|hu
  ·rw[tU r f.1];exact mh r rx f.1 fx
  ·exact jH rx fx t f.2 u' hu
def inV(x:V)(xs:List V):Bool:=xs.any λy=>eqV y x
def rIn(K:PySem.W.Frag)(neg:Bool):R2:=λx y H Q=>∃p xs,y=.ref p∧(SqL K H p xs∨SqT K H p xs)∧dz x=true∧xs.all dz=true∧Q (.bl (if neg then !inV x xs else inV x xs)) H
theorem sm:OpR X (compareOp .In) (rIn X.K false):=by
 intro pins s σ H x y v u Q I rx ry h;obtain⟨p,xs,rfl,hq,fx,fs,q⟩:=h;cases ry;rcases hq with hq|hq
 ·obtain⟨its,r,pl,hz⟩:=I.list hq;refine in_listAt (eqU x) pl.isList (λw hw=>jH rx fx r fs w (by simpa using hw)) ⟨.bl _,H,I,rfl,?_⟩;rw[show its.toArray.any (eqU x)=its.any (eqU x)by simp,mq r fs];exact q
 ·obtain⟨its,r,pl,hz⟩:=I.tuple hq;refine SeqAt.in_tupleAt (eqU x) pl (λw hw=>jH rx fx r fs w (by simpa using hw)) ⟨.bl _,H,I,rfl,?_⟩;rw[show its.toArray.any (eqU x)=its.any (eqU x)by simp,mq r fs];exact q
theorem aK:cz X (.builtin "len") (λxs H Q=>∃p ys,xs=[.ref p]∧(SqL X.K H p ys∨SqT X.K H p ys)∧Q (.int ys.length) H):=by
 intro pins s σ H xs us Q I r h;obtain⟨p,ys,rfl,hq,q⟩:=h;obtain⟨u,rfl,rx⟩:=eB r;cases rx;have hn:=jB;rcases hq with hq|hq
 ·obtain⟨its,r',pl,hz⟩:=I.list hq;have hlen:=r'.length;exact Calls.call_len_list pl.isList (by simp only[size_toArray]<;>omega) ⟨.int ys.length,H,I.tok _,⟨s.toks+1,by rw[size_toArray,hlen]⟩,q⟩
 ·obtain⟨its,r',pl,hz⟩:=I.tuple hq;have hlen:=r'.length;exact len_tuple pl (by simp only[size_toArray]<;>omega) ⟨.int ys.length,H,I.tok _,⟨s.toks+1,by rw[size_toArray,hlen]⟩,q⟩
theorem mr:cz X (.builtin "len") (λxs H Q=>∃z,xs=[.str z]∧z.length≤sizeLine∧Q (.int z.length) H):=by
 intro pins s σ H xs us Q I r h;obtain⟨z,rfl,hz,q⟩:=h;obtain⟨u,rfl,t,rfl⟩:=eB r;have hn:=jB;exact len_str (by omega) ⟨.int z.length,H,I.tok _,⟨_,rfl⟩,q⟩
theorem bh:cz X (.type "tuple") (λxs H Q=>∃p ys,xs=[.ref p]∧((SqL X.K H p ys∧∀l,H l=none→Q (.ref l) (upd H l (.tup ys)))∨(SqT X.K H p ys∧Q (.ref p) H))):=by
 intro pins s σ H xs us Q I r h;obtain⟨p,ys,rfl,h⟩:=h;obtain⟨u,rfl,rx⟩:=eB r;cases rx;rcases h with⟨hq,q⟩|⟨hq,q⟩
 ·obtain⟨its,r',pl,hz⟩:=I.list hq;have hlen:=r'.length;refine call_tuple_list pl.isList (λh' kp=>?_) (by simp only[size_toArray]<;>omega);have I1:Inv X pins σ H {s with heap:=h'}:=I.kept (t':=s.toks) kp
  have I2:Inv X pins σ (upd H h'.objs.size (.tup ys)) {s with heap:=h'.push {cls:=.type "tuple",data:=.seq its.toArray}} :=
   I1.laid (t':=s.toks) (λb o e=>get?_push_of_some _ e) (le_refl _) (show bo X.prog X.w _ _ _ (.tup ys)from⟨hz,its,r',IsTup.new _ _⟩)
  exact⟨.ref h'.objs.size,_,I2,rfl,q _ (I1.hok.fresh (le_refl _))⟩
 ·obtain⟨its,r',pl,hz⟩:=I.tuple hq;exact call_tuple_same pl ⟨.ref p,H,I,rfl,q⟩
def tyV(K:PySem.W.Frag)(T:String)(x:V)(H:Hp):Prop:=match x with
 |.str _=>T="str"
 |.int _=>T="int"
 |.ref p=>(T="list"∧∃xs,SqL K H p xs)∨(T="tuple"∧∃o,K.lookup p=some o∧o.cls=.type "tuple"∧o.dict=none) ∨
   (T="dict"∧((∃kvs,H p=some (.dK kvs))∨∃kvs,H p=some (.dT kvs)))∨(T="set"∧∃S n,H p=some (.set S n))
 |_=>False
theorem tV{pins:List (Addr×Obj)}{σ:St}{H:Hp}{s:Shared}{T:String}{x:V}{v:Value}(I:Inv X pins σ H s)(r:aL x v)(ty:tyV X.K T x H):
  s.TypeIs v T∧∀a,v=.ref a→∃ob,s.heap.get? a=some ob∧ob.dict=none:=by
 cases x with
 |str z =>
  obtain⟨t,rfl⟩:=r;cases (show T="str" from ty);exact⟨typeIs_str s z t,λ_ e=>nomatch e⟩
 |int i =>
  obtain⟨t,rfl⟩:=r;cases (show T="int" from ty);exact⟨typeIs_int s i t,λ_ e=>nomatch e⟩
 |ref p =>
  cases r;rcases ty with⟨rfl,xs,hq⟩|⟨rfl,o,hk,hc,hd⟩|⟨rfl,hk⟩|⟨rfl,S,n,hk⟩
  ·obtain⟨its,_,pl,_⟩:=I.list hq;refine⟨pl.isList.typeIs,λa e=>?_⟩;cases e;obtain⟨o,n,e,c,hd,_⟩:=pl;exact⟨o,e,hd⟩
  ·refine⟨⟨o,I.kIn p o hk,hc⟩,λa e=>?_⟩;cases e;exact⟨o,I.kIn _ o hk,hd⟩
  ·have z:∃o,s.heap.get? p=some o∧o.ExactDict:=by
    rcases hk with⟨kvs,hk⟩|⟨kvs,hk⟩
    ·obtain⟨_,_,_,_,o,_,_,e,ex,_⟩:=I.hok p _ hk;exact⟨o,e,ex⟩
    ·obtain⟨_,_,_,_,o,_,_,e,ex,_⟩:=I.hok p _ hk;exact⟨o,e,ex⟩
   obtain⟨o,e,ex⟩:=z;refine⟨⟨o,e,ex.1⟩,λa e2=>?_⟩;cases e2;exact⟨o,e,ex.2.1⟩
  ·obtain⟨o,_,_,_,e,ex,_⟩:=I.hok p _ hk;refine⟨⟨o,e,ex.1⟩,λa e2=>?_⟩;cases e2;exact⟨o,e,ex.2.1⟩
 |_=>exact False.elim ty
def AT(K:PySem.W.Frag)(T:String)(r:V→List V→Hp→VK→Prop)(to:TE):TE:=λσ H Q=>to σ H λx H1=>tyV K T x H1∧r x [] H1 Q
def tBM(K:PySem.W.Frag)(T:String)(r:V→List V→Hp→VK→Prop)(to:TE)(t:TA):TE:=λσ H Q=>to σ H λx H1=>tyV K T x H1∧t σ H1 λxs H2=>r x xs H2 Q
variable{o e:Expr}{es:List Expr}{to:TE}{t:TA}{name:Str}{apos cpos:Pos}{T id:String}{r:V→List V→Hp→VK→Prop}
theorem yq(pa:PlainAttrs T)(slot:Slot T name id)(hty:typeOf (.builtin id)=pure (.type "method_descriptor"))(hm:MtR X id r)(ho:PE X o to)(hbase:attributeBase o name X.env (eval o X.env)=eval o X.env:=by rfl)(hline:(apos.endLine==cpos.line)=true:=by rfl):PE X (.Call (.Attribute o name apos) [] [] cpos) (AT X.K T r to):=by
 intro pins s σ H Q I h;refine wpAny_Call_method0_late hbase hline (thn (ho pins s σ H _ I h) λv s1 hpt=>?_);obtain⟨x,H1,I1,r1,ty,q1⟩:=hpt;obtain⟨h1,h2⟩:=tV I1 r1 ty;exact⟨T,id,pa,slot,hty,h1,h2,callWith_builtin rfl (PySem.evalArgs_none (hm pins s1 σ H1 x [] v [] Q I1 r1 .nil q1))⟩
theorem eY(pa:PlainAttrs T)(slot:Slot T name id)(hty:typeOf (.builtin id)=pure (.type "method_descriptor"))(hm:MtR X id r)(ho:PE X o to)(ha:PA X (e::es) t)(hbase:attributeBase o name X.env (eval o X.env)=eval o X.env:=by rfl)(hfew:((backTo cpos (starEach (e::es) X.env)).all (λx=>!x.1)&&(backToKw cpos (keywordEach [] X.env)).all (λx=>x.1.isSome)
   && decide ((e::es).length+([]:List Keyword).length+(if ([]:List Keyword).isEmpty then 0 else 1)<30))=true:=by rfl)(hline:(apos.endLine==cpos.line)=true:=by rfl)(hs:starEach (e::es) X.env=(false,eval e X.env)::starEach es X.env:=by rfl)(hplain:(backTo cpos (starEach es X.env)).any (·.1)=false:=by rfl):
  PE X (.Call (.Attribute o name apos) (e::es) [] cpos) (tBM X.K T r to t):=by
 intro pins s σ H Q I h;refine wpAny_Call_method_late hbase hfew hline rfl (thn (ho pins s σ H _ I h) λv s1 hpt=>?_);obtain⟨x,H1,I1,r1,ty,q1⟩:=hpt;obtain⟨h1,h2⟩:=tV I1 r1 ty;refine⟨T,id,pa,slot,hty,h1,h2,?_⟩;have hA:=ha cpos pins s1 σ H1 _ I1 q1;rw[hs]at hA⊢;refine callWith_builtin (by show(false||(backTo cpos (starEach es X.env)).any (·.1))=false;rw[hplain]<;>rfl) (evalArgs_plain ?_);exact thn hA λus s2 ⟨vs,H2,I2,r2,q2⟩=>hm pins s2 σ H2 x vs v us Q I2 r1 r2 q2
end
def MtM(X:Cx)(id:String)(r:V→List V→Hp→VK→Prop):Prop :=
 ∀(pins:List (Addr×Obj))(s:Shared)(σ:St)(H:Hp)(x:V)(xs:List V)(v:Value)(us:List Value)(Q:VK),Inv X pins σ H s→aL x v→aH xs us→r x xs H Q →
  wpAny (model X.prog X.w) X.A (call (.builtin id) (v::us)) (EP X pins σ Q) X.xe s
theorem aH.one:∀{x:V}{us:List Value},aH [x] us→∃u,us=[u]∧aL x u
 |_,_,.cons r .nil=>⟨_,rfl,r⟩
theorem aH.two:∀{x y:V}{us:List Value},aH [x,y] us→∃u v,us=[u,v]∧aL x u∧aL y v
 |_,_,_,.cons r (.cons q .nil)=>⟨_,_,rfl,r,q⟩
theorem aH.zero:∀{us:List Value},aH [] us→us=[]
 |_,.nil=>rfl
theorem aH.dropLast{xs:List V}{us:List Value}(h:aH xs us):aH xs.dropLast us.dropLast:=by
 induction h with
 |nil=>exact .nil
 |cons r t ih =>
  cases t with
  |nil=>exact .nil
  |cons q t'=>exact .cons r ih
theorem aH.eraseIdx:∀{xs:List V}{us:List Value}(i:Nat),aH xs us→aH (xs.eraseIdx i) (us.eraseIdx i)
 |_,_,_,.nil=>.nil
 |_,_,0,.cons _ t=>t
 |_,_,i+1,.cons r t=>.cons r (aH.eraseIdx i t)
theorem pP{α:Type}(l:List α):l.eraseIdx (l.length-1)=l.dropLast:=by
 induction l with
 |nil=>rfl
 |cons a r ih =>
  cases r with
  |nil=>rfl
  |cons b r =>
   have e:(a::b::r).length-1=((b::r).length-1)+1:=by
    have h1:(a::b::r).length=r.length+2:=rfl;have h2:(b::r).length=r.length+1:=rfl;omega
   rw[e,List.eraseIdx_cons_succ,ih]
   all_goals rfl
theorem lu{α:Type}:∀(l:List α)(i:Nat),(l.eraseIdx i).length≤l.length
 |[],_=>le_refl _
 |_::_,0=>le_succ _
 |_::r,i+1=>Nat.succ_le_succ (lu r i)
section
variable{X:Cx}{pins:List (Addr×Obj)}{σ:St}{H:Hp}{s:Shared}{l b:Addr}{xs ys zs:List V}
theorem Inv.lset{its its':List Value}{n:Nat}{f:Array Value→Array Value}{t':Nat}(I:Inv X pins σ H s)(hH:H l=some (.lst xs))(e:s.heap.get? l=some {cls:=.type "list",data:=.seq its.toArray n})(hf:f its.toArray=its'.toArray)(hv:aH ys its')(hz:ys.length≤sizeLine):
  Inv X pins σ (upd H l (.lst ys)) {s with heap:=s.heap.update l (Obj.mapSeq f),toks:=t'}:=by
 have q:=PySem.IsL.update e f;rw[hf]at q;refine I.write (x:=l) (e:=l) (by rw[hH];exact trivial) (.inl rfl) (λb' u hb hu=>(Heap.get?_update_other s.heap (Obj.mapSeq f) (Ne.symm hb)).trans hu) ⟨_,q⟩ ?_;exact⟨hz,its',_,hv,q⟩
theorem Inv.lnew{its:List Value}{t':Nat}(I:Inv X pins σ H s)(hv:aH ys its)(hz:ys.length≤sizeLine):
  Inv X pins σ (upd H s.heap.objs.size (.lst ys)) {s with heap:=s.heap.push {cls:=.type "list",data:=.seq its.toArray},toks:=t'} :=
 I.laid (λ_ _ q=>get?_push_of_some _ q) (le_refl _) ⟨hz,its,0,hv,get?_push_size _ rfl⟩
theorem Inv.fresh(I:Inv X pins σ H s):H s.heap.objs.size=none:=I.hok.fresh (le_refl _)
theorem Inv.lstM(I:Inv X pins σ H s)(hH:H l=some (.lst xs)):xs.length≤sizeLine∧∃(its:List Value) (n:Nat),aH xs its∧xs.length=its.length∧s.heap.get? l=some {cls:=.type "list",data:=.seq its.toArray n}:=by
 obtain⟨z,its,n,r,e⟩:=I.hok l _ hH;exact⟨z,its,n,r,r.length,e⟩
def wt:V→List V→Hp→VK→Prop:=λx vs H Q=>∃l xs y,x=.ref l∧vs=[y]∧H l=some (.lst xs)∧xs.length<sizeLine∧Q .non (upd H l (.lst (xs++[y])))
theorem bv:MtM X "list.append" wt:=by
 intro pins s σ H x vs v us Q I rx rv h;obtain⟨l,xs,y,rfl,rfl,hH,hz,q⟩:=h;cases rx;obtain⟨u,rfl,ru⟩:=rv.one;obtain⟨z,its,n,r,hl,e⟩:=I.lstM hH;refine call_meets F.slot_list_append ⟨_,e,rfl⟩ F.entry_list_append (F.args_list_append_2 _ _) (PySem.list_append l its.toArray n u (by rw[size_toArray];omega)) ⟨e,?_⟩;refine⟨.non,_,I.lset (its':=its++[u]) hH e (by simp) (r.append (.cons ru .nil)) ?_,rfl,q⟩;rw[length_append,length_singleton];omega
def AU:V→List V→Hp→VK→Prop:=λx vs H Q=>∃l xs y,x=.ref l∧vs=[]∧H l=some (.lst xs)∧xs[xs.length-1]?=some y∧Q y (upd H l (.lst xs.dropLast))
theorem yr:MtM X "list.pop" AU:=by
 intro pins s σ H x vs v us Q I rx rv h;obtain⟨l,xs,y,rfl,rfl,hH,hy,q⟩:=h;cases rx;have hus:=rv.zero;subst hus;obtain⟨z,its,n,r,hl,e⟩:=I.lstM hH;obtain⟨u,hu,ru⟩:=r.get hy;have hy':its.toArray[its.toArray.size-1]?=some u:=by
  show its.toArray[its.length-1]?=some u;rw[←getElem?_toList,←hl];exact hu
 refine call_meets F.slot_list_pop ⟨_,e,rfl⟩ F.entry_list_pop (F.args_list_pop_1 _) (MeetsSeq.list_pop_last l its.toArray n u hy' (by rw[size_toArray];omega)) ⟨e,?_⟩;refine⟨y,_,I.lset (its':=its.dropLast) hH e ?_ r.dropLast ?_,ru,q⟩
 ·show its.toArray.eraseIdxIfInBounds (its.toArray.size-1)=its.dropLast.toArray;rw[size_toArray,List.eraseIdxIfInBounds_toArray,pP]
 ·rw[List.length_dropLast];omega
def yt:V→List V→Hp→VK→Prop:=λx vs H Q=>∃l xs i k y,x=.ref l∧vs=[.int i]∧H l=some (.lst xs)∧-(2 ^ 63)≤i∧i<2 ^ 63∧seqIndex? i xs.length=some k∧xs[k]?=some y∧Q y (upd H l (.lst (xs.eraseIdx k)))
theorem og:MtM X "list.pop" yt:=by
 intro pins s σ H x vs v us Q I rx rv h;obtain⟨l,xs,i,k,y,rfl,rfl,hH,h1,h2,hk,hy,q⟩:=h;cases rx;obtain⟨u,rfl,ru⟩:=rv.one;obtain⟨t,rfl⟩:=ru;obtain⟨z,its,n,r,hl,e⟩:=I.lstM hH;obtain⟨w,hw,rw'⟩:=r.get hy;refine call_meets F.slot_list_pop ⟨_,e,rfl⟩ F.entry_list_pop (F.args_list_pop_2 _ _)
  (MeetsSeq.list_pop_at l its.toArray n i t k w (fitsIndex_both h1 h2) (by rw[size_toArray,←hl];exact hk) (by rw[←getElem?_toList];exact hw) (by rw[size_toArray];omega)) ⟨e,?_⟩
 refine⟨y,_,I.lset (its':=its.eraseIdx k) hH e ?_ (r.eraseIdx k) ?_,rw',q⟩
 ·show its.toArray.eraseIdxIfInBounds k=(its.eraseIdx k).toArray;rw[List.eraseIdxIfInBounds_toArray]
 ·have:=lu xs k;omega
def AV:R2:=λx y H Q=>∃l b xs zs,x=.ref l∧y=.ref b∧H l=some (.lst xs)∧H b=some (.lst zs)∧xs.length+zs.length≤sizeLine∧∀p,H p=none→Q (.ref p) (upd H p (.lst (xs++zs)))
theorem iB:OpR X (binaryOp .Add) AV:=by
 intro pins s σ H x y v u Q I rx ry h;obtain⟨l,b,xs,zs,rfl,rfl,hH,hB,hz,q⟩:=h;cases rx;cases ry;obtain⟨z,its,n,r,hl,e⟩:=I.lstM hH;obtain⟨z2,its2,n2,r2,hl2,e2⟩:=I.lstM hB;refine PySem.P.add_list e e2 ?_ (by rw[size_toArray,size_toArray];omega);have ea:its.toArray++its2.toArray=(its++its2).toArray:=by simp
 rw[ea];exact⟨.ref _,_,I.lnew (t':=s.toks) (r.append r2) (by rw[length_append];omega),rfl,q _ I.fresh⟩
end
section
variable{prog:Program}{w:World}{A:Around}{E:Value→Shared→Prop}{s:Shared}
end
section
variable{X:Cx}
end
section
variable{κ:Type}[DecidableEq κ]
def bc(kvs:List (κ×V))(k:κ):Option V:=(kvs.find? λkv=>decide (kv.1=k)).map (·.2)
def cj(kvs:List (κ×V))(k:κ)(v:V):List (κ×V) :=
 if (kvs.any λkv=>decide (kv.1=k))=true then kvs.map (λkv=>if kv.1=k then (kv.1,v)else kv)else kvs++[(k,v)]
def dm(kvs:List (κ×V))(k:κ):List (κ×V):=kvs.filter λkv=>decide (kv.1≠k)
theorem bp{p:κ×V}{r:List (κ×V)}{k:κ}(e:p.1=k):bc (p::r) k=some p.2:=by simp[bc,find?_cons,e]
theorem bd{p:κ×V}{r:List (κ×V)}{k:κ}(e:¬p.1=k):bc (p::r) k=bc r k:=by simp[bc,find?_cons,e]
theorem cW(k:κ):∀kvs:List (κ×V),(kvs.any λkv=>decide (kv.1=k))=(bc kvs k).isSome
 |[]=>rfl
 |p::r=>by
  rw[any_cons]
  by_cases e:p.1=k
  ·simp only[bp e,decide_eq_true e,Bool.true_or,Option.isSome_some]
  ·rw[bd e,decide_eq_false e,Bool.false_or];exact cW k r
theorem om(k j:κ)(y:V):∀kvs:List (κ×V),bc (kvs.map λkv=>if kv.1=k then (kv.1,y)else kv) j=(bc kvs j).map λx=>if j=k then y else x
 |[]=>rfl
 |p::r=>by
  have ih:=om k j y r;rw[map_cons]
  by_cases h:p.1=k
  ·rw[if_pos h]
   by_cases e:p.1=j
   ·rw[bp (p:=(p.1,y)) e,bp e,map_some,if_pos (e.symm.trans h)]
   ·rw[bd (p:=(p.1,y)) e,bd e,ih]
  ·rw[if_neg h]
   by_cases e:p.1=j
   ·rw[bp (p:=p) e,bp e,map_some,if_neg (λz=>h (e.trans z))]
   ·rw[bd (p:=p) e,bd e,ih]
theorem lx(k j:κ)(y:V):∀kvs:List (κ×V),bc kvs k=none→bc (kvs++[(k,y)]) j=if j=k then some y else bc kvs j
 |[],_=>by
  by_cases e:k=j
  ·rw[if_pos e.symm];exact bp (p:=(k,y)) e
  ·rw[if_neg (λz=>e z.symm)];exact bd (p:=(k,y)) e
 |p::r,hn=>by
  rw[cons_append];have hk:¬p.1=k:=λz=>by rw[bp z]at hn;cases hn
  rw[bd hk]at hn;have ih:=lx k j y r hn
  by_cases e:p.1=j
  ·rw[bp e,bp e,if_neg (λz=>hk (e.trans z))]
  ·rw[bd e,bd e,ih]
theorem jI(kvs:List (κ×V))(k j:κ)(y:V):bc (cj kvs k y) j=if j=k then some y else bc kvs j:=by
 unfold cj
 by_cases a:(kvs.any λkv=>decide (kv.1=k))=true
 ·rw[if_pos a,om];rw[cW]at a
  by_cases e:j=k
  ·obtain⟨x,hx⟩:=Option.isSome_iff_exists.mp a;rw[if_pos e,e,hx,map_some,if_pos rfl]
  ·rw[if_neg e];cases bc kvs j with
   |none=>rfl
   |some x=>rw[map_some,if_neg e]
 ·rw[if_neg a];refine lx k j y kvs ?_;rw[cW]at a;cases q:bc kvs k with
  |none=>rfl
  |some x=>rw[q]at a;exact(a rfl).elim
theorem dH(kvs:List (κ×V))(k:κ)(v:V):(cj kvs k v).length≤kvs.length+1:=by
 unfold cj
 split
 ·rw[length_map];omega
 ·rw[length_append,length_cons,length_nil];omega
theorem tW{kvs:List (κ×V)}{k:κ}(v:V)(h:bc kvs k=none):cj kvs k v=kvs++[(k,v)]:=by
 unfold cj;rw[cW,h];exact if_neg (by decide)
theorem eA.isSome_eq{o:Option V}{u:Option Value}(r:eA o u):o.isSome=u.isSome:=by
 cases o with
 |none=>cases u with
  |none=>rfl
  |some _=>exact(show False from r).elim
 |some _=>cases u with
  |none=>exact(show False from r).elim
  |some _=>rfl
theorem eA.getD{o:Option V}{u:Option Value}{d:V}{d':Value}(r:eA o u)(rd:aL d d'):aL (o.getD d) (u.getD d'):=by
 cases o with
 |none=>cases u with
  |none=>exact rd
  |some _=>exact(show False from r).elim
 |some _=>cases u with
  |none=>exact(show False from r).elim
  |some _=>exact r
theorem KV.val{kvs:List (κ×V)}{vs:List (κ×Value)}(r:KV kvs vs)(k:κ):eA (bc kvs k) (valueAt vs k):=by
 unfold KV at r
 induction r with
 |nil=>exact True.intro
 |@cons p q ps qs h t ih =>
  obtain⟨h1,h2⟩:=h
  by_cases e:p.1=k
  ·have e':q.1=k:=h1.symm.trans e;have b:valueAt (q::qs) k=some q.2:=by simp[valueAt,find?_cons,e']
   rw[bp e,b];exact h2
  ·have e':¬q.1=k:=λz=>e (h1.trans z);have b:valueAt (q::qs) k=valueAt qs k:=by simp[valueAt,find?_cons,e']
   rw[bd e,b];exact ih
theorem KV.any{kvs:List (κ×V)}{vs:List (κ×Value)}(r:KV kvs vs)(k:κ):(kvs.any λkv=>decide (kv.1=k))=vs.any λkv=>decide (kv.1=k):=by
 unfold KV at r
 induction r with
 |nil=>rfl
 |cons h t ih=>rw[any_cons,any_cons,ih,h.1]
theorem KV.repl{kvs:List (κ×V)}{vs:List (κ×Value)}(r:KV kvs vs)(k:κ){y:V}{u:Value}(ry:aL y u):
  KV (kvs.map λkv=>if kv.1=k then (kv.1,y)else kv) (vs.map λkv=>if kv.1=k then (kv.1,u)else kv):=by
 unfold KV at r⊢
 induction r with
 |nil=>exact .nil
 |@cons p q ps qs h t ih =>
  rw[map_cons,map_cons];refine .cons ?_ ih;obtain⟨h1,h2⟩:=h
  by_cases e:p.1=k
  ·rw[if_pos e,if_pos (h1.symm.trans e)];exact⟨h1,ry⟩
  ·rw[if_neg e,if_neg (λz=>e (h1.trans z))];exact⟨h1,h2⟩
theorem KV.put{kvs:List (κ×V)}{vs:List (κ×Value)}(r:KV kvs vs)(k:κ){y:V}{u:Value}(ry:aL y u):KV (cj kvs k y) (stored vs k u):=by
 unfold cj stored;rw[r.any k]
 by_cases e:(vs.any λkv=>decide (kv.1=k))=true
 ·rw[if_pos e,if_pos e];exact r.repl k ry
 ·rw[if_neg e,if_neg e];exact Paired.snoc r ⟨rfl,ry⟩
theorem KV.drop{kvs:List (κ×V)}{vs:List (κ×Value)}(r:KV kvs vs)(k:κ):KV (dm kvs k) (without vs k):=by
 unfold KV at r⊢;unfold dm without
 induction r with
 |nil=>exact .nil
 |@cons p q ps qs h t ih =>
  obtain⟨h1,h2⟩:=h;rw[filter_cons,filter_cons]
  by_cases e:p.1=k
  ·have a:¬decide (p.1≠k)=true:=by simp[e]
   have b:¬decide (q.1≠k)=true:=by simp[h1.symm.trans e]
   rw[if_neg a,if_neg b];exact ih
  ·have e':¬q.1=k:=λz=>e (h1.trans z);have a:decide (p.1≠k)=true:=by simp[e]
   have b:decide (q.1≠k)=true:=by simp[e']
   rw[if_pos a,if_pos b];exact .cons ⟨h1,h2⟩ ih
theorem KV.length{kvs:List (κ×V)}{vs:List (κ×Value)}(r:KV kvs vs):kvs.length=vs.length:=Paired.length r
theorem oo(kvs:List (κ×V))(k:κ):(dm kvs k).length≤kvs.length:=length_filter_le _ _
end
theorem ff{P:Program}{w:World}{k:Key}{u:Value}(r:aL (kV k) u):(aG P w).is k u=true:=by
 cases k with
 |inl i=>obtain⟨t,e⟩:=(show ∃t,u=Value.int i t from r);subst e;exact nN P w i t
 |inr x=>obtain⟨t,e⟩:=(show ∃t,u=Value.str x t from r);subst e;exact nO P w x t
theorem yu{a b:Key}(e:kV a=kV b):a=b:=by
 cases a with
 |inl i=>cases b with
  |inl j=>have e':V.int i=V.int j:=e;injection e' with e';rw[e']
  |inr y=>exact nomatch (show V.int i=V.str y from e)
 |inr x=>cases b with
  |inl j=>exact nomatch (show V.str x=V.int j from e)
  |inr y=>have e':V.str x=V.str y:=e;injection e' with e';rw[e']
theorem mt:∀{a b:List Key},a.map kV=b.map kV→a=b
 |[],[],_=>rfl
 |[],_::_,e=>by simp at e
 |_::_,[],e=>by simp at e
 |x::xs,y::ys,e=>by
  rw[map_cons,map_cons]at e;injection e with e1 e2
  rw[yu e1,mt e2]
theorem iC{P:Program}{w:World}:∀{ks:List Key}{us:List Value},aH (ks.map kV) us→ItemsAre (aG P w) ks us
 |[],_,r=>by rw[map_nil]at r;cases r;exact .nil
 |k::ks,_,r=>by
  rw[map_cons]at r;cases r with
  |cons h t=>exact .cons (ff h) (iC t)
abbrev KT(H:Hp):List (List Key×V)→List (List Key×Addr×Value)→Prop:=Paired λp q=>p.1=q.1∧H q.2.1=some (.tup (p.1.map kV))∧aL p.2 q.2.2
theorem KT.val{H:Hp}{kvs:List (List Key×V)}{xs:List (List Key×Addr×Value)}(r:KT H kvs xs)(k:List Key):eA (bc kvs k) ((atKey xs k).map (·.2)):=by
 induction r with
 |nil=>exact True.intro
 |@cons p q ps qs h t ih =>
  obtain⟨h1,_,h2⟩:=h
  by_cases e:p.1=k
  ·have e':q.1=k:=h1.symm.trans e;have b:atKey (q::qs) k=some q.2:=by simp[atKey,find?_cons,e']
   rw[bp e,b];exact h2
  ·have e':¬q.1=k:=λz=>e (h1.trans z);have b:atKey (q::qs) k=atKey qs k:=by simp[atKey,find?_cons,e']
   rw[bd e,b];exact ih
theorem KT.repl{H:Hp}{kvs:List (List Key×V)}{xs:List (List Key×Addr×Value)}(r:KT H kvs xs)(k:List Key){y:V}{u:Value}(ry:aL y u):
  KT H (kvs.map λkv=>if kv.1=k then (kv.1,y)else kv) (xs.map (putAt k u)):=by
 induction r with
 |nil=>exact .nil
 |@cons p q ps qs h t ih =>
  rw[map_cons,map_cons];refine .cons ?_ ih;obtain⟨h1,h2,h3⟩:=h;unfold putAt
  by_cases e:p.1=k
  ·rw[if_pos e,if_pos (h1.symm.trans e)];exact⟨h1,h2,ry⟩
  ·rw[if_neg e,if_neg (λz=>e (h1.trans z))];exact⟨h1,h2,h3⟩
theorem KT.put{H:Hp}{kvs:List (List Key×V)}{xs:List (List Key×Addr×Value)}(r:KT H kvs xs)(k:List Key){b:Addr}{y:V}{u:Value}(hb:H b=some (.tup (k.map kV)))(ry:aL y u):
  KT H (cj kvs k y) (storedH xs k b u):=by
 have e:(kvs.any λkv=>decide (kv.1=k))=(atKey xs k).isSome:=by
  rw[cW,(r.val k).isSome_eq,isSome_map]
 unfold cj storedH;rw[e]
 by_cases q:(atKey xs k).isSome=true
 ·rw[if_pos q,if_pos q];exact r.repl k ry
 ·rw[if_neg q,if_neg q];exact Paired.snoc r ⟨rfl,hb,ry⟩
theorem KT.keeps{H H':Hp}{kvs:List (List Key×V)}{xs:List (List Key×Addr×Value)}(r:KT H kvs xs)(ht:∀b ys,H b=some (.tup ys)→H' b=some (.tup ys)):KT H' kvs xs :=
 Paired.mapP r λ_ _ z=>⟨z.1,ht _ _ z.2.1,z.2.2⟩
section
variable{P:Program}{w:World}{H:Hp}{h:Heap}{a:Addr}
theorem xS{u:HO}(ok:HOk P w H h)(e:Rd H a u):bo P w H h a u:=e.ok ok
theorem iW{kvs:List (Key×V)}(ok:HOk P w H h)(e:Rd H a (.dK kvs)):kvs.length≤sizeLine∧(a==sysModules)=false∧∃vs,KV kvs vs∧h.DictOf (aG P w) a vs :=
 show bo P w H h a (.dK kvs)from xS ok e
theorem qW{kvs:List (Key×V)}(ok:HOk P w H h)(e:H a=some (.dK kvs)):kvs.length≤sizeLine∧(a==sysModules)=false∧∃vs,KV kvs vs∧h.DictOf (aG P w) a vs:=iW ok (.inl e)
theorem gG{ks:List Key}(ok:HOk P w H h)(e:H a=some (.tup (ks.map kV))):(tupleKind (aG P w)).is h ks a:=by
 obtain⟨_,its,r,o,h1,h2,n,h3⟩:=(show bo P w H h a (.tup (ks.map kV))from ok a _ e);exact⟨o,its.toArray,n,h1,h2,h3,by simpa using iC r⟩
theorem iX{kvs:List (List Key×V)}(ok:HOk P w H h)(e:Rd H a (.dT kvs)):kvs.length≤sizeLine∧(a==sysModules)=false ∧
  ∃xs,KT H kvs xs∧h.DictOfH (tupleKind (aG P w)) a xs:=by
 obtain⟨z,y,xs,r,o,es,ep,h1,h2,h3,h4,h5⟩:=(show bo P w H h a (.dT kvs)from xS ok e);refine⟨z,y,xs,r,o,es,ep,h1,h2,h3,h4,λx hx=>?_,h5⟩;have all:∀{l:List (List Key×V)}{m:List (List Key×Addr×Value)},KT H l m→∀x∈m,(tupleKind (aG P w)).is h x.1 x.2.1:=by
  intro l m q
  induction q with
  |nil=>intro x hx;exact nomatch hx
  |@cons p q ps qs hq t ih =>
   intro x hx;rcases mem_cons.mp hx with e|hx
   ·subst e;exact gG ok (by rw[←hq.1];exact hq.2.1)
   ·exact ih x hx
 exact all r x hx
theorem Aa{kvs:List (List Key×V)}(ok:HOk P w H h)(e:H a=some (.dT kvs)):kvs.length≤sizeLine∧(a==sysModules)=false ∧
  ∃xs,KT H kvs xs∧h.DictOfH (tupleKind (aG P w)) a xs:=iX ok (.inl e)
end
def cN(H:Hp)(a:Addr)(y:V)(r:Option V):Prop :=
 (∃kvs k,Rd H a (.dK kvs)∧y=kV k∧r=bc kvs k)∨∃kvs k b,Rd H a (.dT kvs)∧y=.ref b∧H b=some (.tup (k.map kV))∧r=bc kvs k
def mv(H:Hp)(a:Addr)(y v:V)(H':Hp):Prop :=
 (∃kvs k,H a=some (.dK kvs)∧y=kV k∧kvs.length<sizeLine∧H'=upd H a (.dK (cj kvs k v))) ∨
 ∃kvs k b,H a=some (.dT kvs)∧y=.ref b∧H b=some (.tup (k.map kV))∧kvs.length<sizeLine∧H'=upd H a (.dT (cj kvs k v))
theorem cN.k{H:Hp}{a:Addr}{kvs:List (Key×V)}{k:Key}(e:H a=some (.dK kvs)):cN H a (kV k) (bc kvs k):=.inl ⟨kvs,k,.inl e,rfl,rfl⟩
theorem mv.k{H:Hp}{a:Addr}{kvs:List (Key×V)}{k:Key}{v:V}(e:H a=some (.dK kvs))(hl:kvs.length<sizeLine):mv H a (kV k) v (upd H a (.dK (cj kvs k v))):=.inl ⟨kvs,k,e,rfl,hl,rfl⟩
section
variable{X:Cx}{pins:List (Addr×Obj)}{σ:St}{H:Hp}{s:Shared}{a:Addr}{y v:V}{u r:Value}{o:Option V}{A:Around}{E:Value→Shared→Prop}
theorem Inv.big(I:Inv X pins σ H s):sysModules<s.heap.objs.size:=by
 have h:mainGlobals<s.heap.objs.size:=(I.mod.glob.keeps I.bk).lt;exact lt_trans (by decide) h
theorem so{Q:Value→Shared→Prop}(hu:A.units+1<cLine)(I:Inv X pins σ H s)(g:cN H a y (some v))(ry:aL y u)(h:∀w' s',Inv X pins σ H s'→aL v w'→Q w' s'):
  wpAny (model X.prog X.w) A (getItem (.ref a) u) Q E s:=by
 rcases g with⟨kvs,k,e,ey,l⟩|⟨kvs,k,b,e,ey,eb,l⟩
 ·subst ey;obtain⟨z,hd,vs,rel,dd⟩:=iW I.hok e;obtain⟨w',hw,rw'⟩:=eA.some_of (v:=v) (o:=valueAt vs k) (by rw[l];exact rel.val k);exact wpAny_getItem_of (ff ry) dd.mapOf hw (h w' _ (I.tok _) rw')
 ·subst ey;cases (show u=Value.ref b from ry);obtain⟨z,hd,xs,rel,dd⟩:=iX I.hok e;obtain⟨w',hw,rw'⟩:=eA.some_of (v:=v) (o:=(atKey xs k).map (·.2)) (by rw[l];exact rel.val k);obtain⟨p,hp,hp2⟩:=Option.map_eq_some_iff.mp hw;refine wpAny_getItem_heap (tupleKind_room_in1 hu) (gG I.hok eb) dd hp ?_;rw[hp2];exact h w' _ (I.tok _) rw'
theorem AW{Q:Value→Shared→Prop}(hu:A.units+1<cLine)(I:Inv X pins σ H s)(g:cN H a y o)(ry:aL y u)(h:∀s',Inv X pins σ H s'→Q (.bool o.isSome) s'):
  wpAny (model X.prog X.w) A (compareOp .In u (.ref a)) Q E s:=by
 rcases g with⟨kvs,k,e,ey,l⟩|⟨kvs,k,b,e,ey,eb,l⟩
 ·subst ey;obtain⟨z,hd,vs,rel,dd⟩:=iW I.hok e;refine wpAny_in_of (ff ry) hd dd.mapOf ?_;rw[←(rel.val k).isSome_eq,←l];exact h _ (I.tok _)
 ·subst ey;cases (show u=Value.ref b from ry);obtain⟨z,hd,xs,rel,dd⟩:=iX I.hok e;refine wpAny_in_heap (tupleKind_room_in1 hu) (gG I.hok eb) hd dd ?_;have q:=(rel.val k).isSome_eq;rw[isSome_map]at q;rw[←q,←l];exact h _ (I.tok _)
theorem wu{Q:Value→Shared→Prop}(hu:A.units+1<cLine)(I:Inv X pins σ H s)(g:cN H a y o)(ry:aL y u)(h:∀s',Inv X pins σ H s'→Q (.bool (!o.isSome)) s'):
  wpAny (model X.prog X.w) A (compareOp .NotIn u (.ref a)) Q E s:=by
 rcases g with⟨kvs,k,e,ey,l⟩|⟨kvs,k,b,e,ey,eb,l⟩
 ·subst ey;obtain⟨z,hd,vs,rel,dd⟩:=iW I.hok e;refine wpAny_notIn_of (ff ry) hd dd.mapOf ?_;rw[←(rel.val k).isSome_eq,←l];exact h _ (I.tok _)
 ·subst ey;cases (show u=Value.ref b from ry);obtain⟨z,hd,xs,rel,dd⟩:=iX I.hok e;refine wpAny_notIn_heap (tupleKind_room_in1 hu) (gG I.hok eb) hd dd ?_;have q:=(rel.val k).isSome_eq;rw[isSome_map]at q;rw[←q,←l];exact h _ (I.tok _)
theorem jl{h':Heap}{t':Nat}{ob:HO}(I:Inv X pins σ H s)(mu:Mut (H a))(hs:SameBut a s.heap h')(he:∃q,h'.get? a=some q)(new:bo X.prog X.w (upd H a ob) h' a ob):
  Inv X pins σ (upd H a ob) {s with heap:=h',toks:=t'} :=
 I.write (x:=a) (e:=a) mu (.inl rfl) (λb q hb z=>(hs.2 b hb).trans z) he new
theorem mw{P:Program}{w:World}{H':Hp}{h':Heap}{kvs:List (Key×V)}{vs:List (Key×Value)}(z:kvs.length≤sizeLine)(hd:(a==sysModules)=false)(rel:KV kvs vs)(dd:h'.DictOf (aG P w) a vs):
  bo P w H' h' a (.dK kvs):=⟨z,hd,vs,rel,dd⟩
theorem sr{H':Hp}{Q:Unit→Shared→Prop}(hu:A.units+1<cLine)(I:Inv X pins σ H s)(g:mv H a y v H')(ry:aL y u)(rv:aL v r)(h:∀s',Inv X pins σ H' s'→Q () s'):
  wpAny (model X.prog X.w) A (setItem (.ref a) u r) Q E s:=by
 rcases g with⟨kvs,k,e,ey,l,eH⟩|⟨kvs,k,b,e,ey,eb,l,eH⟩
 ·subst ey eH;obtain⟨z,hd,vs,rel,dd⟩:=qW I.hok e;have hz:vs.length≤sizeLine:=by rw[←rel.length];exact z
  have hl:(cj kvs k v).length≤sizeLine:=by have:=dH kvs k v;omega
  refine wpAny_setItem_pairs (hsz:=hz) (ff ry) dd λh' dd' hs=>h _ ?_;have he:∃q,h'.get? a=some q:=let⟨q,_,_,hq,_⟩:=dd';⟨q,hq⟩;exact jl I (by rw[e];exact True.intro) hs he (mw hl hd (rel.put k rv) dd')
 ·subst ey eH;cases (show u=Value.ref b from ry);obtain⟨z,hd,xs,rel,dd⟩:=Aa I.hok e;have hz:xs.length≤sizeLine:=by rw[←Paired.length rel];exact z
  have hl:(cj kvs k v).length≤sizeLine:=by have:=dH kvs k v;omega
  refine wpAny_setItem_heap (hsz:=hz) (tupleKind_room_in1 hu) (gG I.hok eb) dd λh' dd' hs=>h _ ?_;obtain⟨q,es,ep,hq,h2,h3,h4,_,h5⟩:=dd';refine jl I (by rw[e];exact True.intro) hs ⟨q,hq⟩ ⟨hl,hd,_,(rel.put k eb rv).keeps λc ys ec=>?_,q,es,ep,hq,h2,h3,h4,h5⟩;rw[aj (tq ec e (λz=>nomatch z))];exact ec
end
section
variable{X:Cx}{pins:List (Addr×Obj)}{σ:St}{H:Hp}{s:Shared}{a:Addr}{kvs:List (Key×V)}{k:Key}{u:Value}{A:Around}{E:Value→Shared→Prop}
theorem Ab{v:V}{more:List Value}{Q:Value→Shared→Prop}(I:Inv X pins σ H s)(e:H a=some (.dK kvs))(ry:aL (kV k) u)(l:bc kvs k=some v)(hm:more=[]∨∃x,more=[x])(h:∀w' s',Inv X pins σ (upd H a (.dK (dm kvs k))) s'→aL v w'→Q w' s'):wpAny (model X.prog X.w) A (call (.builtin "dict.pop") (.ref a::u::more)) Q E s:=by
 obtain⟨z,hd,vs,rel,dd⟩:=qW I.hok e;obtain⟨w',hw,rw'⟩:=eA.some_of (v:=v) (o:=valueAt vs k) (by rw[←l];exact rel.val k);have hp:(keyPart u).isSome=true:=by
  cases k with
  |inl i=>obtain⟨t,q⟩:=(show ∃t,u=Value.int i t from ry);subst q;rfl
  |inr x=>obtain⟨t,q⟩:=(show ∃t,u=Value.str x t from ry);subst q;rfl
 have ha:argsOk "dict.pop" ⟨.ref a::u::more,[]⟩:=by
  rcases hm with q|⟨x,q⟩
  ·subst q;exact PySem.F.args_dict_pop_2 _ _
  ·subst q;exact PySem.F.args_dict_pop_3 _ _ _
 refine call_meetsIn slot_dict_pop dd.typeIs PySem.F.entry_dict_pop ha (meets_dict_pop_there (aG X.prog X.w) a (ff ry) more hm hp)
  ⟨vs,w',dd,by rw[←rel.length];exact z,hw,λh' dd' hs=>h w' _ ?_ rw'⟩
 have he:∃q,h'.get? a=some q:=let⟨q,_,_,hq,_⟩:=dd';⟨q,hq⟩;exact jl I (by rw[e];exact True.intro) hs he (mw (le_trans (oo kvs k) z) hd (rel.drop k) dd')
theorem yv{r:Value}{Q:Value→Shared→Prop}(I:Inv X pins σ H s)(e:H a=some (.dK kvs))(ry:aL (kV k) u)(l:bc kvs k=none)(h:∀s',Inv X pins σ H s'→Q r s'):
  wpAny (model X.prog X.w) A (call (.builtin "dict.pop") [.ref a,u,r]) Q E s:=by
 obtain⟨z,hd,vs,rel,dd⟩:=qW I.hok e;have hn:valueAt vs k=none:=eA.none_of (by rw[←l];exact rel.val k);have hp:(keyPart u).isSome=true:=by
  cases k with
  |inl i=>obtain⟨t,q⟩:=(show ∃t,u=Value.int i t from ry);subst q;rfl
  |inr x=>obtain⟨t,q⟩:=(show ∃t,u=Value.str x t from ry);subst q;rfl
 exact call_meetsIn slot_dict_pop dd.typeIs PySem.F.entry_dict_pop (PySem.F.args_dict_pop_3 _ _ _) (meets_dict_pop_default (aG X.prog X.w) a (ff ry) hd hp r) ⟨vs,dd,hn,h _ (I.tok _)⟩
end
def Ac(i:Expr):Prop:=∀ov iv,subscripted i false ov iv=operate [ov,iv] (getItem ov iv)
theorem wv{prog:Program}{w:World}{A:Around}{E:Value→Shared→Prop}{s:Shared}{env:Env}{value slice:Expr}{pos:Pos}{T id:String}{Q:Value→Shared→Prop}(hl:typeLookup (.type T) "__getitem__"=pure (some (.builtin id)))(hs:Ac slice)(h:wpAny (model prog w) A (eval value env) (λo s₁=>wpAny (model prog w) A (eval slice env) (λi s₂=>s₂.TypeIs o T∧wpAny (model prog w) A (getItem o i) Q E s₂) E s₁) E s):
  wpAny (model prog w) A (eval (.Subscript value slice pos) env) Q E s:=by
 refine Subscript_ (wpAny_mono h (λo s₁ h₁=>wpAny_mono h₁ (λi s₂ h₂=>?_) λ_ _ x=>x) λ_ _ x=>x);obtain⟨hT,h₂⟩:=h₂;unfold subscriptTail;refine wpAny_bind ?_;rw[getitemInPython_of_ne hT.not_modules];refine wpAny_bind (wpAny_specialOf hT hl ?_);have fin:wpAny (model prog w) A (subscripted slice false o i) (λr s₃=>wpAny (model prog w) A (letTemporaryGo value o r >>= λ_=>pure r) Q E s₃) E s₂:=by
  rw[hs o i];exact wpAny_operating (wpAny_mono h₂ (λr s₃ h₃=>wpAny_bind (wpAny_letTemporaryGo (wpAny_pure h₃))) λ_ _ x=>x)
 first
  |exact wpAny_pure (wpAny_bind fin)
  |exact wpAny_bind (wpAny_pure (wpAny_bind fin))
  |exact wpAny_bind fin
theorem oq{X:Cx}{pins:List (Addr×Obj)}{σ:St}{H:Hp}{s:Shared}{a:Addr}{y:V}{o:Option V}(I:Inv X pins σ H s)(g:cN H a y o):s.TypeIs (.ref a) "dict":=by
 rcases g with⟨kvs,k,e,_,_⟩|⟨kvs,k,b,e,_,_,_⟩
 ·obtain⟨_,_,vs,_,dd⟩:=iW I.hok e;exact dd.typeIs
 ·obtain⟨_,_,xs,_,dd⟩:=iX I.hok e;exact dd.typeIs
def Ad(td ty:TE):TE:=λσ H Q=>td σ H λx H1=>ty σ H1 λy H2=>∃a v,x=.ref a∧cN H2 a y (some v)∧Q v H2
def AX(ty td:TE):TE:=λσ H Q=>ty σ H λy H1=>td σ H1 λx H2=>∃a o,x=.ref a∧cN H2 a y o∧Q (.bl o.isSome) H2
def ww(ty td:TE):TE:=λσ H Q=>ty σ H λy H1=>td σ H1 λx H2=>∃a o,x=.ref a∧cN H2 a y o∧Q (.bl (!o.isSome)) H2
def Ae(td ty tv:TE):TS:=λD σ H=>tv σ H λv H1=>td σ H1 λx H2=>ty σ H2 λy H3=>∃a H4,x=.ref a∧mv H3 a y v H4∧D.nx σ H4
section
variable{X:Cx}{o i e value:Expr}{pos pos' tpos:Pos}{td ty tv:TE}
theorem cS(hu:X.A.units+1<cLine)(ho:PE X o td)(hi:PE X i ty)(hs:Ac i):PE X (.Subscript o i pos) (Ad td ty):=by
 intro pins s σ H Q I h;refine wv PySem.F.slot_dict_getitem.lookup hs (thn (ho pins s σ H _ I h) λu s1 ⟨x,H1,I1,rx,q1⟩=>thn (hi pins s1 σ H1 _ I1 q1) λiv s2 hpt=>?_);obtain⟨y,H2,I2,ry,a,v,ex,g,q2⟩:=hpt;subst ex;obtain rfl:u=Value.ref a:=rx;exact⟨oq I2 g,so hu I2 g ry λw' s3 I3 rw'=>⟨v,H2,I3,rw',q2⟩⟩
theorem my(hu:X.A.units+1<cLine)(hi:PE X i ty)(ho:PE X o td):PC X .In i o (AX ty td):=by
 intro pins s σ H Q I h;refine thn (hi pins s σ H _ I h) λiv s1 ⟨y,H1,I1,ry,q1⟩=>thn (ho pins s1 σ H1 _ I1 q1) λu s2 hpt=>?_;obtain⟨x,H2,I2,rx,a,ov,ex,g,q2⟩:=hpt;subst ex;obtain rfl:u=Value.ref a:=rx;exact AW hu I2 g ry λs3 I3=>⟨.bl ov.isSome,H2,I3,rfl,q2⟩
theorem gh(hu:X.A.units+1<cLine)(hi:PE X i ty)(ho:PE X o td):PC X .NotIn i o (ww ty td):=by
 intro pins s σ H Q I h;refine thn (hi pins s σ H _ I h) λiv s1 ⟨y,H1,I1,ry,q1⟩=>thn (ho pins s1 σ H1 _ I1 q1) λu s2 hpt=>?_;obtain⟨x,H2,I2,rx,a,ov,ex,g,q2⟩:=hpt;subst ex;obtain rfl:u=Value.ref a:=rx;exact wu hu I2 g ry λs3 I3=>⟨.bl (!ov.isSome),H2,I3,rfl,q2⟩
theorem jm(hu:X.A.units+1<cLine)(ho:PE X o td)(hi:PE X i ty)(hv:PE X value tv)(hs:swapsWith value (some (.Subscript o i pos')) pos.line X.env=pure false):
  PS X (.Assign [.Subscript o i pos'] value pos) (Ae td ty tv):=by
 intro pins s σ H D I h;refine wpAny_Assign_Subscript (thn (hv pins s σ H _ I h) λr s1 ⟨v,H1,I1,rv,q1⟩=>thn (ho pins s1 σ H1 _ I1 q1) λu s2 ⟨x,H2,I2,rx,q2⟩=>thn (hi pins s2 σ H2 _ I2 q2) λiv s3 ⟨y,H3,I3,ry,a,H4,ex,g,q3⟩=>?_) hs;subst ex;obtain rfl:u=Value.ref a:=rx;exact sr hu I3 g ry rv λs4 I4=>⟨σ,H4,I4,q3⟩
end
theorem tX{P:Program}{w:World}{H:Hp}(h:Heap)(hb:sysModules<h.objs.size):bo P w H (h.push {cls:=.type "dict",data:=.dict #[]}) h.objs.size (.dK []) :=
 ⟨zero_le _,beq_eq_false_iff_ne.mpr (Ne.symm (ne_of_lt hb)),[],.nil,Heap.DictOf.new h⟩
def yw:TE:=λ_ H Q=>∀p,H p=none→Q (.ref p) (upd H p (.dK []))
section
variable{X:Cx}{pos:Pos}
theorem tY:PE X (.Dict [] [] pos) yw:=λpins s σ H Q I h =>
 wpAny_Dict_empty ⟨.ref s.heap.objs.size,_,I.laid (a:=s.heap.objs.size) (o:=.dK []) (t':=s.toks) (λ_ _ q=>get?_push_of_some _ q) (le_refl _) (tX s.heap I.big),rfl,h _ (I.hok.fresh (le_refl _))⟩
end
structure M1(X:Cx)(o:Expr)(m:Str)(apos:Pos)(e:Expr)(cpos:Pos):Prop where
 base:attributeBase o m X.env (eval o X.env)=eval o X.env
 few:((backTo cpos (starEach [e] X.env)).all (λx=>!x.1)&&(backToKw cpos (keywordEach [] X.env)).all (λx=>x.1.isSome)
  && decide (([e]:List Expr).length+([]:List Keyword).length+(if ([]:List Keyword).isEmpty then 0 else 1)<30))=true
 line:(apos.endLine==cpos.line)=true
 trees:backTo cpos (starEach [e] X.env)=[(false,eval e X.env)]
structure M2(X:Cx)(o:Expr)(m:Str)(apos:Pos)(e f:Expr)(cpos:Pos):Prop where
 base:attributeBase o m X.env (eval o X.env)=eval o X.env
 few:((backTo cpos (starEach [e,f] X.env)).all (λx=>!x.1)&&(backToKw cpos (keywordEach [] X.env)).all (λx=>x.1.isSome)
  && decide (([e,f]:List Expr).length+([]:List Keyword).length+(if ([]:List Keyword).isEmpty then 0 else 1)<30))=true
 line:(apos.endLine==cpos.line)=true
 trees:backTo cpos (starEach [e,f] X.env)=[(false,eval e X.env),(false,eval f X.env)]
def IsD(H:Hp)(a:Addr):Prop:=(∃kvs,Rd H a (.dK kvs))∨∃kvs,Rd H a (.dT kvs)
theorem pQ{X:Cx}{pins:List (Addr×Obj)}{σ:St}{H:Hp}{s:Shared}{a:Addr}(I:Inv X pins σ H s)(d:IsD H a):
  s.TypeIs (.ref a) "dict"∧(∀b,Value.ref a=.ref b→∃ob,s.heap.get? b=some ob∧ob.dict=none)∧(a==sysModules)=false:=by
 rcases d with⟨kvs,e⟩|⟨kvs,e⟩
 ·obtain⟨_,hd,vs,_,dd⟩:=iW I.hok e;refine⟨dd.typeIs,λb q=>?_,hd⟩;cases q;obtain⟨ob,_,_,h1,h2,_⟩:=dd;exact⟨ob,h1,h2.2.1⟩
 ·obtain⟨_,hd,xs,_,dd⟩:=iX I.hok e;refine⟨dd.typeIs,λb q=>?_,hd⟩;cases q;obtain⟨ob,_,_,h1,h2,_⟩:=dd;exact⟨ob,h1,h2.2.1⟩
section
variable{X:Cx}{pins:List (Addr×Obj)}{σ:St}{H:Hp}{s:Shared}{a:Addr}{y d:V}{u r:Value}{o:Option V}{A:Around}{E:Value→Shared→Prop}
theorem yx{Q:Value→Shared→Prop}(hu:A.units+1<cLine)(I:Inv X pins σ H s)(g:cN H a y o)(ry:aL y u)(h:∀w' s',Inv X pins σ H s'→aL (o.getD .non) w'→Q w' s'):
  wpAny (model X.prog X.w) A (call (.builtin "dict.get") [.ref a,u]) Q E s:=by
 rcases g with⟨kvs,k,e,ey,l⟩|⟨kvs,k,b,e,ey,eb,l⟩
 ·subst ey;obtain⟨z,hd,vs,rel,dd⟩:=iW I.hok e;refine call_meetsIn slot_dict_get dd.typeIs entry_dict_get (PySem.F.args_dict_get_2 _ _) (meets_dict_get (aG X.prog X.w) a (ff ry) hd) ⟨_,dd.mapOf,h _ _ (I.tok _) ?_⟩;rw[l];exact(rel.val k).getD rfl
 ·subst ey;cases (show u=Value.ref b from ry);obtain⟨z,hd,xs,rel,dd⟩:=iX I.hok e;refine call_meetsIn slot_dict_get dd.typeIs entry_dict_get (PySem.F.args_dict_get_2 _ _) (meetsH_dict_get (tupleKind (aG X.prog X.w)) a b hd) ⟨tupleKind_room_in1 hu,k,xs,gG I.hok eb,dd,h _ _ (I.tok _) ?_⟩;rw[l];exact(rel.val k).getD rfl
theorem yy{Q:Value→Shared→Prop}(hu:A.units+1<cLine)(I:Inv X pins σ H s)(g:cN H a y o)(ry:aL y u)(rd:aL d r)(h:∀w' s',Inv X pins σ H s'→aL (o.getD d) w'→Q w' s'):
  wpAny (model X.prog X.w) A (call (.builtin "dict.get") [.ref a,u,r]) Q E s:=by
 rcases g with⟨kvs,k,e,ey,l⟩|⟨kvs,k,b,e,ey,eb,l⟩
 ·subst ey;obtain⟨z,hd,vs,rel,dd⟩:=iW I.hok e;refine call_meetsIn slot_dict_get dd.typeIs entry_dict_get (PySem.F.args_dict_get_3 _ _ _) (meets_dict_get_default (aG X.prog X.w) a (ff ry) hd r) ⟨_,dd.mapOf,h _ _ (I.tok _) ?_⟩;rw[l];exact(rel.val k).getD rd
 ·subst ey;cases (show u=Value.ref b from ry);obtain⟨z,hd,xs,rel,dd⟩:=iX I.hok e;refine call_meetsIn slot_dict_get dd.typeIs entry_dict_get (PySem.F.args_dict_get_3 _ _ _) (meetsH_dict_get_default (tupleKind (aG X.prog X.w)) a b hd r) ⟨tupleKind_room_in1 hu,k,xs,gG I.hok eb,dd,h _ _ (I.tok _) ?_⟩;rw[l];exact(rel.val k).getD rd
end
def yz(td ty:TE):TE:=λσ H Q=>td σ H λx H1=>∃a,x=.ref a∧IsD H1 a∧ty σ H1 λy H2=>∃o,cN H2 a y o∧Q (o.getD .non) H2
def yA(td ty tx:TE):TE:=λσ H Q=>td σ H λx H1=>∃a,x=.ref a∧IsD H1 a∧ty σ H1 λy H2=>tx σ H2 λz H3=>∃o,cN H3 a y o∧Q (o.getD z) H3
def yB(td ty tx:TE):TE:=λσ H Q=>td σ H λx H1=>∃a,x=.ref a∧IsD H1 a∧ty σ H1 λy H2=>tx σ H2 λz H3=>∃kvs k,H3 a=some (.dK kvs)∧y=kV k ∧
 (∀v,bc kvs k=some v→Q v (upd H3 a (.dK (dm kvs k))))∧(bc kvs k=none→Q z H3)
section
variable{X:Cx}{o e f:Expr}{apos cpos:Pos}{td ty tx:TE}
theorem fg(hu:X.A.units+1<cLine)(ho:PE X o td)(he:PE X e ty)(m:M1 X o "get" apos e cpos):PE X (.Call (.Attribute o "get" apos) [e] [] cpos) (yz td ty):=by
 intro pins s σ H Q I h;refine wpAny_Call_method m.base m.few m.line plainAttrs_dict slot_dict_get type_dict_get (thn (ho pins s σ H _ I h) λu s1 hpt=>?_);obtain⟨x,H1,I1,rx,a,ex,d,q1⟩:=hpt;subst ex;obtain rfl:u=Value.ref a:=rx;obtain⟨t1,t2,_⟩:=pQ I1 d;refine⟨t1,t2,?_⟩;rw[m.trees];refine callWith_builtin rfl (evalArgs_plain (spliced_cons (thn (he pins s1 σ H1 _ I1 q1) λiv s2 ⟨y,H2,I2,ry,ov,g,q2⟩=>spliced_nil ?_)));exact yx hu I2 g ry λw' s3 I3 rw'=>⟨_,H2,I3,rw',q2⟩
theorem ou(hu:X.A.units+1<cLine)(ho:PE X o td)(he:PE X e ty)(hf:PE X f tx)(m:M2 X o "get" apos e f cpos):PE X (.Call (.Attribute o "get" apos) [e,f] [] cpos) (yA td ty tx):=by
 intro pins s σ H Q I h;refine wpAny_Call_method m.base m.few m.line plainAttrs_dict slot_dict_get type_dict_get (thn (ho pins s σ H _ I h) λu s1 hpt=>?_);obtain⟨x,H1,I1,rx,a,ex,d,q1⟩:=hpt;subst ex;obtain rfl:u=Value.ref a:=rx;obtain⟨t1,t2,_⟩:=pQ I1 d;refine⟨t1,t2,?_⟩;rw[m.trees];refine callWith_builtin rfl (evalArgs_plain (spliced_cons (thn (he pins s1 σ H1 _ I1 q1) λiv s2 ⟨y,H2,I2,ry,q2⟩ =>
  spliced_cons (thn (hf pins s2 σ H2 _ I2 q2) λfv s3 ⟨z,H3,I3,rz,ov,g,q3⟩=>spliced_nil ?_))))
 exact yy hu I3 g ry rz λw' s4 I4 rw'=>⟨_,H3,I4,rw',q3⟩
theorem tZ(ho:PE X o td)(he:PE X e ty)(hf:PE X f tx)(m:M2 X o "pop" apos e f cpos):PE X (.Call (.Attribute o "pop" apos) [e,f] [] cpos) (yB td ty tx):=by
 intro pins s σ H Q I h;refine wpAny_Call_method m.base m.few m.line plainAttrs_dict slot_dict_pop PySem.F.type_dict_pop (thn (ho pins s σ H _ I h) λu s1 hpt=>?_);obtain⟨x,H1,I1,rx,a,ex,d,q1⟩:=hpt;subst ex;obtain rfl:u=Value.ref a:=rx;obtain⟨t1,t2,_⟩:=pQ I1 d;refine⟨t1,t2,?_⟩;rw[m.trees];refine callWith_builtin rfl (evalArgs_plain (spliced_cons (thn (he pins s1 σ H1 _ I1 q1) λiv s2 ⟨y,H2,I2,ry,q2⟩ =>
  spliced_cons (thn (hf pins s2 σ H2 _ I2 q2) λfv s3 ⟨z,H3,I3,rz,kvs,k,ea,ey,q3,q4⟩=>spliced_nil ?_))))
 subst ey;cases l:bc kvs k with
 |some v=>exact Ab I3 ea ry l (.inr ⟨fv,rfl⟩) λw' s4 I4 rw'=>⟨v,_,I4,rw',q3 v l⟩
 |none=>exact yv I3 ea ry l λs4 I4=>⟨z,H3,I4,rz,q4 l⟩
end
section
variable{X:Cx}{pins:List (Addr×Obj)}{σ:St}{H:Hp}{s:Shared}{a:Addr}{kvs:List (Key×V)}{A:Around}{E:Value→Shared→Prop}
end
section
variable{X:Cx}{pins:List (Addr×Obj)}{σ:St}{H:Hp}{s:Shared}{a:Addr}{y:V}{u:Value}{A:Around}{E:Value→Shared→Prop}
end
end L2
namespace Att
open PySem PySem.W PySem.Calls PyProof.Rows
theorem jf{P:Params}{h:Heap}:∀(ns:List Int)(vs:List Value),WellAll P h vs (ns.map WData.int)→IntsAre vs ns:=by
 intro ns
 induction ns with
 |nil =>
  intro vs w;rw[map_nil]at w;cases w;exact .nil
 |cons n ns ih =>
  intro vs w;rw[map_cons]at w;cases w with
  |cons a b =>
   cases a;exact .cons _ _ (ih _ b)
theorem su{l:OpenLaw}{n:Nat}(hn:l.most=some n){P:Params}{h:Heap}{args:List WData}{vals:List Value}(hpre:l.row.toRowW.claim.pre args=true)(hwl:WellAll P h vals args):
  ∃a vs ns,vals=[Value.ref a]∧args=[WData.list (ns.map WData.int)]∧h.get? a=some {cls:=.type "list",data:=.seq vs.toArray}∧IntsAre vs ns∧ns.length≤n:=by
 have hsh:WShape.hasAll [] args [.list .int]=true:=(pre_splitW hpre).1;have hc:l.pre.holds [] {args:=args}=true:=(pre_splitW hpre).2;obtain⟨d,r,rfl,h1,h2⟩:=hasAllW_cons hsh;obtain rfl:=hasAllW_nil h2;obtain⟨xs,rfl,h3⟩:=hasW_list h1;obtain⟨ns,rfl⟩:=items_int h3;have hlen:ns.length≤n:=by
  unfold OpenLaw.pre at hc;have h4:(WTm.not (.lt (.lit (.int (n:Int))) (.len (.arg 0)))).holds [] {args:=[.list (ns.map .int)]}=true:=by
   have h4:=(holds_andW hc).1;rw[hn]at h4;exact h4
  have h5:=condW_of h4 (w_not (w_lt w_lit (w_len_list (w_arg rfl))));rw[length_map]at h5;refine Nat.le_of_not_lt λq=>?_;have q':(n:Int)<((ns.length:Nat):Int):=by omega
  first
   |(rw[decide_eq_true q']at h5;exact absurd h5 (by decide))
   |(simp at h5;omega)
 cases hwl with
 |cons w1 w2 =>
  cases w2;cases w1 with
  |list ho hall=>exact⟨_,_,ns,rfl,rfl,ho,jf ns _ hall,hlen⟩
theorem sv(l:OpenLaw)(args:List WData):l.row.toRowW.claim.post args (.bool true) args=true :=
 postW_of (r:=l.row.toRowW) (X:=(true==true))
  (show WShape.has [] (.bool true) .bool=true by first|rfl|decide|simp[WShape.has,WShape.arms,WShape.armsAll])
  (show(WTm.eq .res (.lit (.bool true))).value [] {args:=args,res:=some (.bool true),after:=args}=some (.bool (true==true))from w_eq_bool (w_res rfl) w_lit) rfl
theorem ow{l:OpenLaw}{n:Nat}{q:Program}{loose:List Str}{XP:(Str→Option Value)→Heap→Prop}{YP:World→Heap→Prop}{d:DefRec}(hn:l.most=some n)(hdf:d.params.defaults=[])(call:∀(w:World) (s₀ s₁:Shared) (mg mb:Str→Option Value) (fa:Addr) (o:Obj) (pm cd doc:Value) (a:Addr) (vs:List Value) (ns:List Int),
   Ground q loose [] XP w s₀ mg mb s₁.heap→YP w s₁.heap →
   s₁.heap.get? fa=some o→o.data=.func (docDef d.name d.params d.body d.scope pm cd doc)→s₁.heap.CodeRec cd d.name→mg d.name=some (.ref fa) →
   s₁.heap.get? a=some {cls:=.type "list",data:=.seq vs.toArray}→IntsAre vs ns→ns.length≤n→s₁.gens=#[] →
   codeAny (model l.prog w) callerA (.call (.ref fa) ⟨[.ref a],[]⟩) (λr s'=>r=.ok (.ret (.bool true))∧OldK s₁.heap s'.heap∧s'.os=s₁.os∧AllBare s'.gens) s₁):
  WalkO q loose XP YP l.row.toRowW d [] (λf vs=>PySem.call f vs):=by
 intro w s₀ s₁ mg mb G Y fa o pm cd doc dV kV ho hd hcd hD hmg hg args vals as hpre hlay hrd hwl hlo;obtain rfl:dV=.none:=Dflts.none hD hdf;obtain rfl:kV=.none:=Dflts.noKw hD;obtain⟨a,vs,ns,rfl,rfl,hobj,hints,hlen⟩:=su hn hpre hwl;refine enter_call (codeAny_mono (call w s₀ s₁ mg mb fa o pm cd doc a vs ns G Y ho (fd_plain hd) hcd hmg hobj hints hlen hg) λr s' hq=>?_);obtain⟨rfl,h2,h3,h4⟩:=hq;exact⟨.inl ⟨.bool true,.bool true,[],rfl,λ_=>rfl,.bool true,sv l _,λ_=>⟨Pairwise.nil,λ_ hm=>(nomatch hm)⟩⟩,h2,h3,h4⟩
section
variable{prog:Program}{w:World}{A:Around}{E:Value→Shared→Prop}{s:Shared}{K:Frag}
end
end Att
namespace L2
open PySem PySem.Spec PyProof.Rows
theorem ly:∀{vs:List Value}{ns:List Int},IntsAre vs ns→aH (ns.map V.int) vs
 |_,_,.nil=>.nil
 |_,_,.cons n t h=>.cons ⟨t,rfl⟩ (ly h)
def yC(H:Hp):Prop:=∀b,H b=none∨∃o xs,H b=some (.frz o (.lst xs))
theorem ua{P:Program}{w:World}{K:PySem.W.Frag}{mg mb:Str→Option Value}{CX:CXT}{k:Nat}{fa a:Addr}{fd:FuncData}{x:Str}{sp:Sp}{s₁:Shared}{vs:List Value}{ns:List Int}(KX:K.In s₁.heap)(hns:s₁.heap.Ns mainGlobals mg)(hb:s₁.heap.Ns builtinsNs mb)(hbb:∀x:Str,x≠"__name__"→mb x=bootBuiltins x)(hlim:s₁.heap.NoLimit)(hg:s₁.gens=#[])(ha:s₁.heap.get? a=some {cls:=.type "list",data:=.seq vs.toArray})(hi:IntsAre vs ns)(hl:ns.length≤sizeLine)(hr:Room k callerA)(F:∀base:Heap,K.In base→base.Ns mainGlobals mg→FnOk P w K mg base CX k fa fd [x] sp)(hbind:∀(s:Shared) (u:Value),BindsTo s fd ⟨[u],[]⟩ [(x,u)])(hsp:∀H:Hp,yC H→SqL K H a (ns.map V.int)→sp [.ref a] H (λv _=>v=.bl true) λ_ _ _=>False)(hCX:∀H e s',CX [] H s₁ (λ_ _ _=>False) e s'→False):
  codeAny (model P w) callerA (.call (.ref fa) ⟨[.ref a],[]⟩) (λr s'=>r=.ok (.ret (.bool true))∧OldK s₁.heap s'.heap∧s'.os=s₁.os∧AllBare s'.gens) s₁:=by
 have rv:=ly hi;have lenV:=hi.length;have core:∀H:Hp,yC H→SqL K H a (ns.map V.int)→HOk P w H s₁.heap→(∀b,H b≠none→b=a)→(H a≠none→K.lookup a=none) →
   codeAny (model P w) callerA (.call (.ref fa) ⟨[.ref a],[]⟩) (λr s'=>r=.ok (.ret (.bool true))∧OldK s₁.heap s'.heap∧s'.os=s₁.os∧AllBare s'.gens) s₁:=by
  intro H hO hS hok hA hK;have base_of:∀{b:Addr}{o:Obj},s₁.heap.get? b=some o→H b=none→(lS s₁.heap H).get? b=some o:=λe n=>tu e n;have noA:∀{b:Addr}{o:Obj}{es:Array DictEntry}{ep:Nat},s₁.heap.get? b=some o→o.data=.dict es ep→H b=none:=λ{b o es ep} e d=>by
   cases q:H b with
   |none=>rfl
   |some u =>
    have e':b=a:=hA b (by rw[q];simp);subst e';rw[ha]at e;cases e;have d':Data.seq vs.toArray _=Data.dict es ep:=d;cases d'
  have nsK:∀{b:Addr}{m:Str→Option Value},s₁.heap.Ns b m→(lS s₁.heap H).Ns b m:=λ{b m} ⟨o,es,ep,e,d,r⟩=>⟨o,es,ep,base_of e (noA e d),d,r⟩;have hKb:K.In (lS s₁.heap H):=λb o e=>base_of (KX b o e) (by
   cases q:H b with
   |none=>rfl
   |some u =>
    have e':b=a:=hA b (by rw[q];simp);subst e';rw[hK (by rw[q];simp)]at e;cases e)
  have hM:Mod K mg (lS s₁.heap H):=⟨hKb,nsK hns,⟨mb,nsK hb,hbb⟩,let⟨mc,h1,h2⟩:=hlim;⟨mc,nsK h1,h2⟩⟩;have e0:Env0 P w K mg (lS s₁.heap H) callerA [] s₁ H:=⟨rfl,hM,λb o e=>wc e,Nat.le_of_eq (rX _ _),trivial,λb hb=>absurd (show b∈([]:List Addr)from hb) (by simp),hok,.of_eq hg⟩;refine codeAny_mono ((F _ hKb (nsK hns)).run callerA [] s₁ H ⟨[.ref a],[]⟩ [.ref a] [.ref a] _ _ hr e0 (hbind s₁ (.ref a)) (.cons rfl .nil) (hsp H hO hS)) λr s' h=>?_;cases r with
  |error e=>exact(hCX H e s' h).elim
  |ok fl =>
   cases fl with
   |next=>exact False.elim h
   |brk=>exact False.elim h
   |cont=>exact False.elim h
   |ret u =>
    obtain⟨v,H',os,bare,un,hok',r',q⟩:=h;have q':v=.bl true:=q;subst q';obtain rfl:u=Value.bool true:=r';refine⟨rfl,OldK.of_keep λb o e=>?_,os,bare⟩;cases q:H b with
    |none=>exact un.keep b o e q (by intro z;exact absurd (show b∈([]:List Addr)from z) (by simp)) (by simp)
    |some u =>
     rcases hO b with z|⟨ob,xs,z⟩
     ·rw[q]at z;cases z
     ·have z2:=un.frzs b ob _ z;obtain⟨e1,_⟩:=hok b _ z;obtain⟨e2,_⟩:=hok' b _ z2;rw[e]at e1;cases e1;exact e2
 cases hk:K.lookup a with
 |some o =>
  have e:=KX a o hk;rw[ha]at e;cases e;refine core (λ_=>none) (λ_=>.inl rfl) (.inr ⟨_,vs.toArray,_,hk,rfl,rfl,rfl,by rw[size_toArray,lenV];exact hl,by simpa using rv⟩) (λb u z=>by have z':(none:Option HO)=some u:=z;cases z') (λb z=>absurd rfl z) λz=>absurd rfl z
 |none =>
  refine core (λb=>if b=a then some (.frz {cls:=.type "list",data:=.seq vs.toArray} (.lst (ns.map V.int)))else none) (λb=>?_) (.inl (.inr ⟨{cls:=.type "list",data:=.seq vs.toArray},if_pos rfl⟩)) (λb u z=>?_) (λb z=>?_) λ_=>hk
  ·by_cases hb:b=a
   ·exact .inr ⟨_,_,if_pos hb⟩
   ·exact .inl (if_neg hb)
  ·by_cases hb:b=a
   ·have z':=(if_pos hb).symm.trans z;cases z';subst hb;exact⟨ha,by rw[length_map];exact hl,vs,_,rv,ha⟩
   ·have z':=(if_neg hb).symm.trans z;cases z'
  ·by_cases hb:b=a
   ·exact hb
   ·exact absurd (if_neg hb) z
theorem wx{l:PySem.W.OpenLaw}{n k:Nat}{q:Program}{loose:List Str}{XP:(Str→Option Value)→Heap→Prop}{YP:World→Heap→Prop}{d:DefRec}{K:Params→PySem.W.Frag}{CX:World→CXT}{sp:World→Sp}{x:Str}(hn:l.most=some n)(hn2:n≤sizeLine)(hdf:d.params.defaults=[])(hr:Room k callerA)(hY:∀(w:World) (h:Heap),YP w h→(K w.params).In h)(F:∀(w:World) (mg:Str→Option Value) (fa:Addr) (h:Heap),(K w.params).In h→h.Ns mainGlobals mg→mg d.name=some (.ref fa) →
   ∃fd:FuncData,(∀(s:Shared) (u:Value),BindsTo s fd ⟨[u],[]⟩ [(x,u)]) ∧
    ∀base:Heap,(K w.params).In base→base.Ns mainGlobals mg→FnOk l.prog w (K w.params) mg base (CX w) k fa fd [x] (sp w))(hsp:∀(w:World) (H:Hp) (a:Addr) (ns:List Int),ns.length≤n→yC H→SqL (K w.params) H a (ns.map V.int)→sp w [.ref a] H (λv _=>v=.bl true) λ_ _ _=>False)(hCX:∀(w:World) (H:Hp) (s:Shared) (e:Value) (s':Shared),CX w [] H s (λ_ _ _=>False) e s'→False):
  PySem.W.WalkO q loose XP YP l.row.toRowW d [] (λf vs=>PySem.call f vs):=by
 refine Att.ow hn hdf λw s₀ s₁ mg mb fa o pm cd doc a vs ns G Y ho hd hcd hmg hobj hints hlen hg=>?_;have KX:=hY w _ Y;obtain⟨fd,hb,hF⟩:=F w mg fa _ KX G.T.g hmg;exact ua KX G.T.g G.T.b G.T.builtins G.T.nolimit hg hobj hints (le_trans hlen hn2) hr hF hb (λH hO hS=>hsp w H a ns hlen hO hS) λH e s'=>hCX w H s₁ e s'
def gW(s:Stmt)(j:Nat):Stmt:=match s with
 |.ClassDef _ _ _ body _ _ _ _ _ _ _=>body.getD j (.Pass ⟨0,0,0,0⟩)
 |_=>.Pass ⟨0,0,0,0⟩
def du(s:Stmt):Arguments:=match s with
 |.FunctionDef _ a _ _ _ _ _ _ _ _=>a
 |_=>{posonlyargs:=[],args:=[],vararg:=none,kwonlyargs:=[],kw_defaults:=[],kwarg:=none,defaults:=[]}
def br(s:Stmt):List Stmt:=match s with
 |.FunctionDef _ _ b _ _ _ _ _ _ _=>b
 |_=>[]
def ai(s:Stmt):Scope:=match s with
 |.FunctionDef _ _ _ _ _ _ sc _ _ _=>sc
 |_=>{kind:=.function,names:=[],isGenerator:=false,isCoroutine:=false}
abbrev CX0:CXT:=λ_ _ _ _ _ _=>False
abbrev E0:XK:=λ_ _ _=>False
theorem aF{X:Cx}:eL CX0 X E0:=λ_ _ _ _ _ _ _ h=>h.elim
structure Fun(K:PySem.W.Frag)(x qual:Str)(st:Stmt)(f:Addr)(fd:FuncData):Prop where
 ex:∃(oc:Value) (od:Option Addr) (kV doc pm:Value) (an:Option Addr) (cdv ct:Value) (osl:Array (Option Value)),
  fd=fnOf x qual (du st) (br st) (ai st) .none kV doc pm an cdv ct∧K.lookup f=some ⟨oc,od,.func fd,osl⟩∧codeIn K cdv qual=true
 kp:keepIn K (.ref f)=true
section
variable{P:Program}{w:World}{K:PySem.W.Frag}{mg:Str→Option Value}{base:Heap}
theorem Fun.ok{x qual:Str}{st:Stmt}{f:Addr}{fd:FuncData}{N ps:List Str}{k:Nat}{sp:Sp}(F:Fun K x qual st f fd)(S:FnScope N ps (ai st))(len:∀vs H Q E,sp vs H Q E→vs.length=ps.length)(hbody:∀(cdv:Value) (A:Around) (outer:List Env) (s:Shared) (H:Hp) (vs:List V) (Q:VK) (E:XK),Room k (A.deeper (envOfC qual (ai st) s.heap.objs.size f cdv))→sp vs H Q E →
   ∃t,PSs (gF CX0 P w K mg base N qual (ai st) f cdv A outer s H E).nox (br st) t∧t {nx:=λ_ H'=>Q .non H',rt:=Q} (start N vs) H):FnOk P w K mg base CX0 (k+1) f fd ps sp:=by
 obtain⟨oc,od,kV,doc,pm,an,cdv,ct,osl,rfl,lk,hcd⟩:=F.ex;refine xR lk hcd S len λA outer s H vs Q E hr hsp=>?_;obtain⟨t,h,q⟩:=hbody cdv A outer s H vs Q E hr hsp;exact⟨t,h.nox,q⟩
theorem Fun.binds{x qual:Str}{st:Stmt}{f:Addr}{fd:FuncData}{ps:List Str}(F:Fun K x qual st f fd)(h:∀(kV doc pm:Value) (an:Option Addr) (cdv ct:Value) (us:List Value),us.length=ps.length→bindArgs (fnOf x qual (du st) (br st) (ai st) .none kV doc pm an cdv ct) ⟨us,[]⟩=pure (ps.zip us)):bf K fd ps []:=by
 obtain⟨oc,od,kV,doc,pm,an,cdv,ct,osl,rfl,lk,hcd⟩:=F.ex;exact .all (h kV doc pm an cdv ct)
theorem iD{x qual:Str}{st:Stmt}{f:Addr}{oc:Value}{od an:Option Addr}{osl:Array (Option Value)}{kV doc pm cdv ct:Value}(l:K.lookup f=some ⟨oc,od,.func (fnOf x qual (du st) (br st) (ai st) .none kV doc pm an cdv ct),osl⟩)(c:codeIn K cdv qual=true)(k:keepIn K (.ref f)=true):Fun K x qual st f (fnOf x qual (du st) (br st) (ai st) .none kV doc pm an cdv ct):=⟨⟨oc,od,kV,doc,pm,an,cdv,ct,osl,rfl,l,c⟩,k⟩
end
theorem bi{A:Around}{k:Nat}(hr:Room k A):A.units+1<cLine:=lt_of_le_of_lt (Nat.add_le_add_left (by decide:1≤64) _) hr.units
theorem ax{n:Nat}(h:n≤1000):n<sizeLine:=lt_of_le_of_lt h (by decide)
section
variable{X:Cx}
theorem pv(i:Nat){x:Str}{pos:Pos}(hN:X.N[i]?=some x:=by rfl)(hv:Vis X.env.scope x:=by first|exact Or.inl rfl|exact Or.inr (Or.inl rfl)|exact Or.inr (Or.inr rfl))(hd:(x==("__debug__":Str))=false:=by decide)(hcd:(x==("__classdict__":Str))=false:=by decide):PE X (.Name x pos) (fb i):=ye hN hv hd hcd
end
theorem aI{A B:Prop}(h:B):if false=true then A else B:=by
 rw[if_neg Bool.false_ne_true];exact h
theorem aQ{A B:Prop}(h:A):if true=true then A else B:=by
 rw[if_pos rfl];exact h
theorem sw{c A B:Prop}[Decidable c](h1:c→A)(h2:¬c→B):if c then A else B:=by
 by_cases h:c
 ·rw[if_pos h];exact h1 h
 ·rw[if_neg h];exact h2 h
theorem Af{c A B:Prop}[Decidable c](hc:c)(h:B):if (!decide c)=true then A else B:=by
 rw[decide_eq_true hc];exact aI h
def Same(H H':Hp):Prop:=∀b o,H b=some o→H' b=some o
theorem Same.refl(H:Hp):Same H H:=λ_ _ h=>h
theorem Same.trans{H H1 H2:Hp}(a:Same H H1)(b:Same H1 H2):Same H H2:=λc o h=>b c o (a c o h)
theorem Same.free{H H':Hp}(e:Same H H'){l:Addr}(h:H' l=Option.none):H l=Option.none:=by
 cases q:H l with
 |none=>rfl
 |some o =>
  rw[e l o q]at h;cases h
theorem Same.seq{K:PySem.W.Frag}{H H':Hp}{a:Addr}{xs:List V}(e:Same H H')(h:SqL K H a xs):SqL K H' a xs:=by
 rcases h with (h|⟨o,h⟩)|h
 ·exact .inl (.inl (e _ _ h))
 ·exact .inl (.inr ⟨o,e _ _ h⟩)
 ·exact .inr h
section
variable{κ:Type}[DecidableEq κ]
theorem uc{kvs:List (κ×V)}{k:κ}(h:bc kvs k=none):¬k∈kvs.map (·.1):=by
 intro m;obtain⟨p,hp,e⟩:=mem_map.mp m;have q:(kvs.any λkv=>decide (kv.1=k))=true:=any_eq_true.mpr ⟨p,hp,decide_eq_true e⟩;rw[cW,h]at q;exact absurd q (by simp)
theorem qX{kvs:List (κ×V)}{k:κ}{v:V}(h:bc kvs k=some v):k∈kvs.map (·.1):=by
 have q:(kvs.any λkv=>decide (kv.1=k))=true:=by
  rw[cW,h]
  all_goals rfl
 obtain⟨p,hp,e⟩:=any_eq_true.mp q;exact mem_map.mpr ⟨p,hp,of_decide_eq_true e⟩
theorem sx{p:κ×V}{r:List (κ×V)}{k:κ}(e:p.1=k):dm (p::r) k=dm r k:=by
 unfold dm;rw[filter_cons,if_neg (by simp[e])]
theorem sy{p:κ×V}{r:List (κ×V)}{k:κ}(e:¬p.1=k):dm (p::r) k=p::dm r k:=by
 unfold dm;rw[filter_cons,if_pos (by simp[e])]
end
structure LcOk(X:Cx)(scope:Scope)(cl:List (Str×Addr)):Prop where
 kind:scope.kind=.function
 clos:closureFor scope X.env=pure cl
 names:∀x∈scope.names,x.2=.local→scope.names.lookup x.1=some .local
 nocell:∀x∈scope.names,x.2≠.cell
 cells:∀x c,cl.lookup x=some c→X.env.cells.lookup x=some c
 has:∀x,((relabel scope X.env).names.lookup x=some .cell∨(relabel scope X.env).names.lookup x=some .free)→∃c,cl.lookup x=some c
abbrev di(X:Cx)(N:List Str)(scope:Scope)(cl:List (Str×Addr))(s:Shared)(H:Hp)(ex:List Addr):Cx :=
 {X with N:=N,s₀:=s,H₀:=H,env:=compEnvC scope cl s.heap.objs.size X.env,outer:=X.stack,stack:=X.stack,ex:=ex,fn:=λ_=>false,pn:=[],xe:=λ_ _=>False}
section
variable{X:Cx}{pins:List (Addr×Obj)}{σ:St}{H:Hp}{s:Shared}{N:List Str}{scope:Scope}{cl:List (Str×Addr)}{fp:List Addr}
theorem qY(I:Inv X pins σ H s)(L:LcOk X scope cl)(hf:∀b∈fp,gE X pins H b)(ho:∀b∈fp,b<s.heap.objs.size):(di X N scope cl s H fp).Ok where
 mod:=I.ok.mod
 kind:=L.kind
 glob:=I.ok.glob
 blt:=I.ok.blt
 above:=le_refl _
 inj:=λx y c h1 h2=>I.ok.inj x y c (L.cells x c h1) (L.cells y c h2)
 has:=λx hx=>L.has x hx
 cab:=λx c h _=>absurd h (by simp)
 hd:=I.ok.hd
 frames:=I.ok.frames
 stk:=.inl rfl
 exf:=λb hb=>⟨ne_of_lt (ho b hb),λx c h=>(hf b hb).2.2.2.2.1 x c (L.cells x c h)⟩
 bs:=I.bs
 bsz:=le_trans I.ok.bsz I.sz
 noex:=λb o e hb=>by
  rcases (hf b hb).2.2.2.1 with z|z
  ·exact I.ok.noex b o e z
  ·exact absurd (lt_of_lt_of_le (lt_size e) (le_trans I.ok.bsz z)) (lt_irrefl _)
 exfs:=λb hb hs=>by
  rcases mem_cons.mp (I.stkSub b hs)with z|z
  ·exact(hf b hb).2.1 z
  ·exact(hf b hb).2.2.1 z
 funs:=I.stack
 frf:=I.stkFree
def cT(k:Nat)(js:List Nat)(σ:St):St:=List.replicate k none++js.map λj=>(σ[j]?).getD none
theorem jJ{h₁:Heap}{tk:Nat}{k:Nat}{js:List Nat}(I:Inv X pins σ H s)(L:LcOk X scope cl)(hf:∀b∈fp,gE X pins H b)(ho:∀b∈fp,b<s.heap.objs.size)(hns:∃m,h₁.Ns s.heap.objs.size m)(hk:∀b o,s.heap.get? b=some o→h₁.get? b=some o)(hN:N.length=k+js.length)(hj:∀(i j:Nat) x,js[i]?=some j→N[k+i]?=some x→X.N[j]?=some x∧Vis X.env.scope x∧X.env.scope.names.lookup x≠some .local∧((relabel scope X.env).names.lookup x=some .cell∨(relabel scope X.env).names.lookup x=some .free)):
  Inv (di X N scope cl s H fp) [] (cT k js σ) H {s with heap:=h₁,toks:=tk}:=by
 obtain⟨m,hm⟩:=hns;have cellK:∀c v,s.heap.IsCell c v→h₁.IsCell c v:=λc v ⟨o,e,d⟩=>⟨o,hk c o e,d⟩;refine⟨qY I L hf ho,rfl,I.bare,Un.kept hk,⟨m,hm,λi x v e1 e2 e3=>?_⟩,λx c e=>?_,I.hok.fresh (le_refl _),λx c e=>I.freeC x c (L.cells x c e),λp hp=>absurd (show p∈([]:List (Addr×Obj))from hp) (by simp),I.hok.kept hk,?_⟩
 ·unfold cT at e2
  by_cases hi:i<k
  ·rw[getElem?_append_left (by simpa using hi),List.getElem?_replicate]at e2
   split at e2<;>cases e2
  ·obtain⟨i',rfl⟩:∃i',i=k+i':=⟨i-k,by omega⟩;rw[getElem?_append_right (by simp),List.length_replicate,Nat.add_sub_cancel_left,getElem?_map]at e2;cases ej:js[i']? with
   |none=>rw[ej]at e2;cases e2
   |some j =>
    rw[ej]at e2;have e2':(σ[j]?).getD none=some v:=Option.some.inj e2;obtain⟨h1,h2,h3,h4⟩:=hj i' j x ej e1;have e4:σ[j]?=some (some v):=by
     cases q:σ[j]? with
     |none=>rw[q]at e2';cases e2'
     |some y=>rw[q]at e2';exact congrArg some e2'
    obtain⟨m0,_,hl⟩:=I.loc;obtain⟨u,r,lk⟩:=hl j x v h1 e4 h2;refine⟨u,r,.inr ⟨h4,?_⟩⟩;rcases lk with⟨q,_⟩|⟨_,c,e5,e6⟩
    ·exact absurd q h3
    ·obtain⟨c',e7⟩:=L.has x h4;have:c'=c:=Option.some.inj ((L.cells x c' e7).symm.trans e5);subst this;exact⟨c',e7,cellK c' _ e6⟩
 ·obtain⟨v,e1⟩:=I.cell x c (L.cells x c e);exact⟨v,cellK c v e1⟩
 ·unfold cT;rw[length_append,List.length_replicate,length_map];exact hN.symm
theorem pR{H':Hp}{σ':St}{s':Shared}{h':Heap}(I:Inv X pins σ H s)(hf:∀b∈fp,gE X pins H b)(J:Inv (di X N scope cl s H fp) [] σ' H' s')(hs:SameBut s.heap.objs.size s'.heap h'):Inv X pins σ H' {s' with heap:=h'}:=by
 have ne:∀b o,s.heap.get? b=some o→b≠s.heap.objs.size:=λb o e=>ne_of_lt (lt_size e);have u:=J.base;have u':Un (frs X.stack) fp H H' s.heap h' :=
  ⟨λb o e n hb hx=>(hs.2 b (ne b o e)).trans (u.keep b o e n hb hx),λb o e n hb hx=>by
   obtain⟨sl,q⟩:=u.slot b o e n hb hx;exact⟨sl,(hs.2 b (ne b o e)).trans q⟩,u.free,λb o e hx=>by
   obtain⟨o',q⟩:=u.there b o e hx;exact⟨o',(hs.2 b (ne b o e)).trans q⟩,u.tups,u.frzs,u.tbls⟩
 have nt:∀b o,H' b=some o→b≠s.heap.objs.size:=λb o e z=>by
  have:=J.free;rw[show(di X N scope cl s H fp).env.locals=s.heap.objs.size from rfl,←z,e]at this;cases this
 refine I.call' (s':={s' with heap:=h'}) J.os u' (λb o e=>?_) J.bare λb hb=>?_
 ·refine(J.hok b o e).stay (λc v hc q=>(hs.2 c ?_).trans q) (λ_ q=>q) λ_ _ q=>q;rcases hc with z|z
  ·rw[z];exact nt b o e
  ·exact nt c _ z
 ·obtain⟨f0,f1,f2,f3,f4,f5⟩:=hf b hb;exact⟨f3,f1,f4,f5⟩
end
section
variable{prog:Program}{w:World}{A:Around}{R:Result→Shared→Prop}{s:Shared}
theorem qZ{elt target iter:Expr}{scope:Scope}{pos:Pos}{it acc:Value}{env:Env}(I:Nat→Shared→Prop)(turn:∀n s,I n s→wpAny (model prog w) A (pyNext it) (λr s₁=>match r with
   |none=>R (.ok .next) s₁
   | some v=>wpAny (model prog w) A (letOwnedTupleGo target it v) (λ_ s₂=>wpAny (model prog w) A (assign target env v) (λ_ s₃=>wpAny (model prog w) A (eval elt env) (λx s₄ =>
     wpAny (model prog w) A (call (.builtin "list.append") [acc,x]) (λ_ s₅=>∃m,m<n∧I m s₅) (λ_ _=>False) s₄) (λ_ _=>False) s₃) (λ_ _=>False) s₂) (λ_ _=>False) s₁) (λ_ _=>False) s)(n:Nat)(h:I n s):codeAny (model prog w) A (.compLoop (.ListComp elt [⟨target,iter,[],0⟩] scope pos) 0 it acc env) R s:=by
 refine codeAny_loop rfl I (λn s hI=>?_) n h;show wpAny _ _ ((compTurn (.ListComp elt [⟨target,iter,[],0⟩] scope pos) 0 it acc env).onRaise (λx=>do noteFrame x env;theTreesLotGoes x)) _ _ s;refine wpAny_noted ?_;rw[compTurn_list1];refine wpAny_bind (wpAny_standAt (wpAny_bind (wpAny_mono (turn n s hI) (λr s₁ h₁=>?_) λ_ _ h'=>h'.elim)));cases r with
 |none=>exact wpAny_pure h₁
 |some v =>
  refine wpAny_bind (wpAny_mono h₁ (λ_ s₂ h₂=>?_) λ_ _ h'=>h'.elim);exact wpAny_bind (wpAny_mono h₂ (λ_ s₂ h₂=>wpAny_bind (wpAny_bind (wpAny_mono h₂ (λx s₃ h₃=>wpAny_bind (wpAny_mono h₃
   (λ_ s₄ h₄=>wpAny_pure (wpAny_pure ⟨rfl,h₄⟩)) λ_ _ h'=>h'.elim)) λ_ _ h'=>h'.elim))) λ_ _ h'=>h'.elim)
theorem jK(elt target iter c:Expr)(scope:Scope)(pos:Pos)(it acc:Value)(env:Env):
  compTurn (.ListComp elt [⟨target,iter,[c],0⟩] scope pos) 0 it acc env=(standAt iter.pos >>= λ_=>pyNext it >>= λr=>match r with
   |none=>pure (.done .next)
   |some v=>letOwnedTupleGo target it v >>= λ_=>assign target env v >>= λ_ =>
    (forIn [c] true λc r=>if r=true then do let ok ← isTrue c env (eval c env);pure (ForInStep.yield ok)else pure (ForInStep.yield r)) >>= λok =>
    if ok=true then (eval elt env >>= λx=>call (.builtin "list.append") [acc,x] >>= λ_=>pure ()) >>= λ_ =>
     again (.compLoop (.ListComp elt [⟨target,iter,[c],0⟩] scope pos) 0 it acc env)
    else again (.compLoop (.ListComp elt [⟨target,iter,[c],0⟩] scope pos) 0 it acc env)):=by rfl
theorem ud{elt target iter c:Expr}{scope:Scope}{pos:Pos}{it acc:Value}{env:Env}(I:Nat→Shared→Prop)(turn:∀n s,I n s→wpAny (model prog w) A (pyNext it) (λr s₁=>match r with
   |none=>R (.ok .next) s₁
   | some v=>wpAny (model prog w) A (letOwnedTupleGo target it v) (λ_ s₂=>wpAny (model prog w) A (assign target env v) (λ_ s₃=>wpAny (model prog w) A (isTrue c env (eval c env)) (λok s₃ =>
     if ok=true then wpAny (model prog w) A (eval elt env) (λx s₄ =>
      wpAny (model prog w) A (call (.builtin "list.append") [acc,x]) (λ_ s₅=>∃m,m<n∧I m s₅) (λ_ _=>False) s₄) (λ_ _=>False) s₃
     else ∃m,m<n∧I m s₃) (λ_ _=>False) s₃) (λ_ _=>False) s₂) (λ_ _=>False) s₁) (λ_ _=>False) s)(n:Nat)(h:I n s):codeAny (model prog w) A (.compLoop (.ListComp elt [⟨target,iter,[c],0⟩] scope pos) 0 it acc env) R s:=by
 refine codeAny_loop rfl I (λn s hI=>?_) n h;show wpAny _ _ ((compTurn (.ListComp elt [⟨target,iter,[c],0⟩] scope pos) 0 it acc env).onRaise (λx=>do noteFrame x env;theTreesLotGoes x)) _ _ s;refine wpAny_noted ?_;rw[jK];refine wpAny_bind (wpAny_standAt (wpAny_bind (wpAny_mono (turn n s hI) (λr s₁ h₁=>?_) λ_ _ h'=>h'.elim)));cases r with
 |none=>exact wpAny_pure h₁
 |some v =>
  refine wpAny_bind (wpAny_mono h₁ (λ_ s₂ h₂=>?_) λ_ _ h'=>h'.elim);refine wpAny_bind (wpAny_mono h₂ (λ_ s₃ h₃=>?_) λ_ _ h'=>h'.elim);rw[forIn_cons];simp only[if_true];refine wpAny_bind (wpAny_bind (wpAny_bind (wpAny_mono h₃ (λok s₄ h₄=>wpAny_pure ?_) λ_ _ h'=>h'.elim)));simp only[forIn_nil];refine wpAny_pure ?_;cases ok with
  |true =>
   rw[if_pos rfl]at h₄⊢;exact wpAny_bind (wpAny_bind (wpAny_mono h₄ (λx s₃ h₃=>wpAny_bind (wpAny_mono h₃ (λ_ s₄ h₄=>wpAny_pure (wpAny_pure ⟨rfl,h₄⟩)) λ_ _ h'=>h'.elim)) λ_ _ h'=>h'.elim))
  |false =>
   rw[if_neg (by simp)]at h₄⊢;exact wpAny_pure ⟨rfl,h₄⟩
end
def LcW(k:Nat)(js:List Nat)(g:TG)(te:TE)(σ:St)(Q:VK)(J:It)(H1:Hp)(p:Addr):Prop:=∃W:Nat→Nat→List V→St→Hp→Prop,
 (∃m,W 0 m [] (cT k js σ) (upd H1 p (.lst [])))∧∀i m ys σ' H',W i m ys σ' H'→(J.stop i H'∧Q (.ref p) H') ∨
  (J.go i H'∧ys.length<sizeLine∧∀x H2,J.yld i H' x H2→g x σ' H2 λσ2 H3=>te σ2 H3 λy H4=>H4 p=some (.lst ys)∧∃m',m'<m∧W (i+1) m' (ys++[y]) σ2 (upd H4 p (.lst (ys++[y]))))
def tLc(k:Nat)(js:List Nat)(wi:TI)(g:TG)(te:TE):TE:=λσ H Q=>wi σ H λJ H1=>∀p,H1 p=none→LcW k js g te σ Q J H1 p
def Ag(k:Nat)(js:List Nat)(g:TG)(tc:TT)(te:TE)(σ:St)(Q:VK)(J:It)(H1:Hp)(p:Addr):Prop:=∃W:Nat→Nat→List V→St→Hp→Prop,
 (∃m,W 0 m [] (cT k js σ) (upd H1 p (.lst [])))∧∀i m ys σ' H',W i m ys σ' H'→(J.stop i H'∧Q (.ref p) H') ∨
  (J.go i H'∧ys.length<sizeLine∧∀x H2,J.yld i H' x H2→g x σ' H2 λσ2 H3=>tc σ2 H3 λb H4=>if b=true then te σ2 H4 λy H5=>H5 p=some (.lst ys)∧∃m',m'<m∧W (i+1) m' (ys++[y]) σ2 (upd H5 p (.lst (ys++[y])))
   else ∃m',m'<m∧W (i+1) m' ys σ2 H4)
def AY(k:Nat)(js:List Nat)(wi:TI)(g:TG)(tc:TT)(te:TE):TE:=λσ H Q=>wi σ H λJ H1=>∀p,H1 p=none→Ag k js g tc te σ Q J H1 p
section
variable{X:Cx}{N:List Str}{scope:Scope}{cl:List (Str×Addr)}{k:Nat}{js:List Nat}
theorem dA{elt tg iter:Expr}{pos:Pos}{wi:TI}{g:TG}{te:TE}(hc:X.calm=true)(L:LcOk X scope cl)(hN:N.length=k+js.length)(hj:∀(i j:Nat) x,js[i]?=some j→N[k+i]?=some x→X.N[j]?=some x∧Vis X.env.scope x∧X.env.scope.names.lookup x≠some .local∧((relabel scope X.env).names.lookup x=some .cell∨(relabel scope X.env).names.lookup x=some .free))(hi:PI X tg iter wi)(hg:∀s H fp,PG (di X N scope cl s H fp) tg g)(he:∀s H fp,PE (di X N scope cl s H fp) elt te)(hs:∀x,foldedSetIterable iter X.env x=pure x:=by intro _;rfl):PE X (.ListComp elt [⟨tg,iter,[],0⟩] scope pos) (tLc k js wi g te):=by
 intro pins s σ H Q I h;rw[eval_ListComp];refine wpAny_comprehension_free (use:=none) rfl hs L.clos L.kind L.names ?_;refine thn (hi pins s σ H _ I h) λv s1 h1=>thn h1 λitv s2 h2=>?_;obtain⟨it,fp,tn,J,H2,e,I2,T,st2,f2,hW⟩:=h2;subst e;have hfp:∀b∈fp,b<s2.heap.objs.size:=λb hb=>by
  obtain⟨o,e,_⟩:=T.obj _ _ st2 b hb;exact lt_size e
 refine wpAny_newObj_type (wpAny_newFunctionEnv L.nocell (by intro y hy;simp at hy) (λh₁ hns hsb=>?_) L.kind);dsimp only at hns hsb⊢;obtain⟨W,⟨m0,w0⟩,turn⟩:=hW s2.heap.objs.size (I2.hok.fresh (le_refl _));have I3:Inv X pins σ (upd H2 s2.heap.objs.size (.lst [])) {s2 with heap:=s2.heap.push {cls:=.type "list",dict:=none,data:=.seq ([]:List Value).toArray}}:=I2.lnew (t':=s2.toks) .nil (zero_le _)
 generalize hA:s2.heap.push {cls:=.type "list",dict:=none,data:=.seq ([]:List Value).toArray}=hpA at hns hsb I3⊢;have hszA:hpA.objs.size=s2.heap.objs.size+1:=by rw[←hA,size_push]
 have keepA:∀b o,s2.heap.get? b=some o→hpA.get? b=some o:=λb o e=>by rw[←hA];exact get?_push_of_some _ e
 have f3:∀b∈fp,gE X pins (upd H2 s2.heap.objs.size (.lst [])) b:=λb hb=>⟨by rw[aj (ne_of_lt (hfp b hb))];exact(f2 b hb).1,(f2 b hb).2⟩;have hfp3:∀b∈fp,b<hpA.objs.size:=λb hb=>by rw[hszA];exact lt_succ_of_lt (hfp b hb)
 have keep1:∀b o,hpA.get? b=some o→h₁.get? b=some o:=λb o e=>hsb.extBut b o (ne_of_lt (lt_size e)) (get?_push_of_some _ e);have J0:=jJ (N:=N) (k:=k) (js:=js) (tk:=s2.toks+([]:List (Str×Value)).length) I3 L f3 hfp3 ⟨_,hns⟩ keep1 hN hj;have st1:tn 0 h₁:=T.keep _ _ _ st2 λb hb o e=>keep1 b o (keepA b o e);have stat:∀{H':Hp},(∀b∈fp,H' b=none)→∀b∈fp,gE (di X N scope cl {s2 with heap:=hpA} (upd H2 s2.heap.objs.size (.lst [])) fp) [] H' b:=λhn b hb =>
  ⟨hn b hb,ne_of_lt (hfp3 b hb),(qY (N:=N) I3 L f3 hfp3).exfs b hb,.inl hb,λx c h=>(f3 b hb).2.2.2.2.1 x c (L.cells x c h),λp hp=>absurd (show p∈([]:List (Addr×Obj))from hp) (by simp)⟩
 have loop:codeAny (model X.prog X.w) X.A (.compLoop (.ListComp elt [⟨tg,iter,[],0⟩] scope pos) 0 (.ref it) (.ref s2.heap.objs.size) (compEnvC scope cl hpA.objs.size X.env))
   (compPost (model X.prog X.w) X.A X.xe none (EP X pins σ Q) (.ref s2.heap.objs.size) hpA.objs.size) {s2 with heap:=h₁,toks:=s2.toks+([]:List (Str×Value)).length}:=by
  refine qZ (λn s'=>∃i ys σ' H',Inv (di X N scope cl {s2 with heap:=hpA} (upd H2 s2.heap.objs.size (.lst [])) fp) [] σ' H' s'∧tn i s'.heap∧(∀b∈fp,H' b=none)∧W i n ys σ' H') ?_ m0 ⟨0,[],_,_,J0,st1,λb hb=>(f3 b hb).1,w0⟩
  rintro n s3 ⟨i,ys,σ3,H3,J3,st3,fr3,w3⟩;rcases turn i n ys σ3 H3 w3 with⟨stop,qn⟩|⟨go,hlen,step⟩
  ·refine thn (T.done (di X N scope cl {s2 with heap:=hpA} (upd H2 s2.heap.objs.size (.lst [])) fp) rfl rfl rfl hc i [] s3 σ3 H3 (λ_ _=>False) J3 (stat fr3) st3 stop) λr s4 hpt=>?_
   obtain⟨hr,J4⟩:=hpt;subst hr;obtain⟨m,hm,_⟩:=J4.loc;exact⟨m,hm,λh' hs'=>⟨.ref s2.heap.objs.size,H3,pR I3 f3 J4 hs',rfl,qn⟩⟩
  ·refine thn (T.item (di X N scope cl {s2 with heap:=hpA} (upd H2 s2.heap.objs.size (.lst [])) fp) rfl rfl rfl hc i [] s3 σ3 H3 (λ_ _=>False) J3 (stat fr3) st3 go) λr s4 hpt=>?_
   obtain⟨u,hr,h4⟩:=hpt;subst hr;refine thn h4 λ_ s5 hpt=>?_;obtain⟨x,H5,J5,r5,y5,st5,fr5⟩:=hpt;have J5':=J5.pinned (stat fr5) (T.obj _ _ st5);refine thn (hg _ _ _ _ s5 σ3 H5 x u _ J5' r5 (step x H5 y5)) λ_ s6 hpt=>?_;obtain⟨σ6,H6,J6,q6⟩:=hpt;refine thn (he _ _ _ _ s6 σ6 H6 _ J6 q6) λy s7 hpt=>?_;obtain⟨vy,H7,J7,r7,q7,m',hm',w7⟩:=hpt;refine thn (bv _ s7 σ6 H7 (.ref s2.heap.objs.size) [vy] _ _ (λ_ H8=>H8=upd H7 s2.heap.objs.size (.lst (ys++[vy]))) J7 rfl (.cons r7 .nil) ⟨_,ys,vy,rfl,rfl,q7,hlen,rfl⟩) λ_ s8 hpt=>?_;obtain⟨_,H8,J8,_,e8⟩:=hpt;subst e8;refine⟨m',hm',i+1,ys++[vy],σ6,_,J8.unpinned,T.keep _ _ _ st5 λb hb o e=>(J8.pin (b,o) (mem_append_right _ (mem_append_right _ (bx hb e)))).1,λb hb=>?_,w7⟩;obtain⟨o,e,d⟩:=T.obj _ _ st5 b hb;exact(J8.pin (b,o) (mem_append_right _ (mem_append_right _ (bx hb e)))).2.1
 exact codeAny_compStart_list loop (T.self _ 0 _ _ _ st1 loop)
theorem iE{elt tg iter c:Expr}{pos:Pos}{wi:TI}{g:TG}{tc:TT}{te:TE}(hc:X.calm=true)(L:LcOk X scope cl)(hN:N.length=k+js.length)(hj:∀(i j:Nat) x,js[i]?=some j→N[k+i]?=some x→X.N[j]?=some x∧Vis X.env.scope x∧X.env.scope.names.lookup x≠some .local∧((relabel scope X.env).names.lookup x=some .cell∨(relabel scope X.env).names.lookup x=some .free))(hi:PI X tg iter wi)(hg:∀s H fp,PG (di X N scope cl s H fp) tg g)(ht:∀s H fp,PT (di X N scope cl s H fp) c tc)(he:∀s H fp,PE (di X N scope cl s H fp) elt te)(hs:∀x,foldedSetIterable iter X.env x=pure x:=by intro _;rfl):PE X (.ListComp elt [⟨tg,iter,[c],0⟩] scope pos) (AY k js wi g tc te):=by
 intro pins s σ H Q I h;rw[eval_ListComp];refine wpAny_comprehension_free (use:=none) rfl hs L.clos L.kind L.names ?_;refine thn (hi pins s σ H _ I h) λv s1 h1=>thn h1 λitv s2 h2=>?_;obtain⟨it,fp,tn,J,H2,e,I2,T,st2,f2,hW⟩:=h2;subst e;have hfp:∀b∈fp,b<s2.heap.objs.size:=λb hb=>by
  obtain⟨o,e,_⟩:=T.obj _ _ st2 b hb;exact lt_size e
 refine wpAny_newObj_type (wpAny_newFunctionEnv L.nocell (by intro y hy;simp at hy) (λh₁ hns hsb=>?_) L.kind);dsimp only at hns hsb⊢;obtain⟨W,⟨m0,w0⟩,turn⟩:=hW s2.heap.objs.size (I2.hok.fresh (le_refl _));have I3:Inv X pins σ (upd H2 s2.heap.objs.size (.lst [])) {s2 with heap:=s2.heap.push {cls:=.type "list",dict:=none,data:=.seq ([]:List Value).toArray}}:=I2.lnew (t':=s2.toks) .nil (zero_le _)
 generalize hA:s2.heap.push {cls:=.type "list",dict:=none,data:=.seq ([]:List Value).toArray}=hpA at hns hsb I3⊢;have hszA:hpA.objs.size=s2.heap.objs.size+1:=by rw[←hA,size_push]
 have keepA:∀b o,s2.heap.get? b=some o→hpA.get? b=some o:=λb o e=>by rw[←hA];exact get?_push_of_some _ e
 have f3:∀b∈fp,gE X pins (upd H2 s2.heap.objs.size (.lst [])) b:=λb hb=>⟨by rw[aj (ne_of_lt (hfp b hb))];exact(f2 b hb).1,(f2 b hb).2⟩;have hfp3:∀b∈fp,b<hpA.objs.size:=λb hb=>by rw[hszA];exact lt_succ_of_lt (hfp b hb)
 have keep1:∀b o,hpA.get? b=some o→h₁.get? b=some o:=λb o e=>hsb.extBut b o (ne_of_lt (lt_size e)) (get?_push_of_some _ e);have J0:=jJ (N:=N) (k:=k) (js:=js) (tk:=s2.toks+([]:List (Str×Value)).length) I3 L f3 hfp3 ⟨_,hns⟩ keep1 hN hj;have st1:tn 0 h₁:=T.keep _ _ _ st2 λb hb o e=>keep1 b o (keepA b o e);have stat:∀{H':Hp},(∀b∈fp,H' b=none)→∀b∈fp,gE (di X N scope cl {s2 with heap:=hpA} (upd H2 s2.heap.objs.size (.lst [])) fp) [] H' b:=λhn b hb =>
  ⟨hn b hb,ne_of_lt (hfp3 b hb),(qY (N:=N) I3 L f3 hfp3).exfs b hb,.inl hb,λx c h=>(f3 b hb).2.2.2.2.1 x c (L.cells x c h),λp hp=>absurd (show p∈([]:List (Addr×Obj))from hp) (by simp)⟩
 have loop:codeAny (model X.prog X.w) X.A (.compLoop (.ListComp elt [⟨tg,iter,[c],0⟩] scope pos) 0 (.ref it) (.ref s2.heap.objs.size) (compEnvC scope cl hpA.objs.size X.env))
   (compPost (model X.prog X.w) X.A X.xe none (EP X pins σ Q) (.ref s2.heap.objs.size) hpA.objs.size) {s2 with heap:=h₁,toks:=s2.toks+([]:List (Str×Value)).length}:=by
  refine ud (λn s'=>∃i ys σ' H',Inv (di X N scope cl {s2 with heap:=hpA} (upd H2 s2.heap.objs.size (.lst [])) fp) [] σ' H' s'∧tn i s'.heap∧(∀b∈fp,H' b=none)∧W i n ys σ' H') ?_ m0 ⟨0,[],_,_,J0,st1,λb hb=>(f3 b hb).1,w0⟩
  rintro n s3 ⟨i,ys,σ3,H3,J3,st3,fr3,w3⟩;rcases turn i n ys σ3 H3 w3 with⟨stop,qn⟩|⟨go,hlen,step⟩
  ·refine thn (T.done (di X N scope cl {s2 with heap:=hpA} (upd H2 s2.heap.objs.size (.lst [])) fp) rfl rfl rfl hc i [] s3 σ3 H3 (λ_ _=>False) J3 (stat fr3) st3 stop) λr s4 hpt=>?_
   obtain⟨hr,J4⟩:=hpt;subst hr;obtain⟨m,hm,_⟩:=J4.loc;exact⟨m,hm,λh' hs'=>⟨.ref s2.heap.objs.size,H3,pR I3 f3 J4 hs',rfl,qn⟩⟩
  ·refine thn (T.item (di X N scope cl {s2 with heap:=hpA} (upd H2 s2.heap.objs.size (.lst [])) fp) rfl rfl rfl hc i [] s3 σ3 H3 (λ_ _=>False) J3 (stat fr3) st3 go) λr s4 hpt=>?_
   obtain⟨u,hr,h4⟩:=hpt;subst hr;refine thn h4 λ_ s5 hpt=>?_;obtain⟨x,H5,J5,r5,y5,st5,fr5⟩:=hpt;have J5':=J5.pinned (stat fr5) (T.obj _ _ st5);refine thn (hg _ _ _ _ s5 σ3 H5 x u _ J5' r5 (step x H5 y5)) λ_ s6 hpt=>?_;obtain⟨σ6,H6,J6,q6⟩:=hpt;refine thn (ht _ _ _ _ s6 σ6 H6 _ J6 q6) λb s6 hpt=>?_;obtain⟨H6,J6,q6⟩:=hpt;cases b with
   |true =>
    rw[if_pos rfl]at q6⊢;refine thn (he _ _ _ _ s6 σ6 H6 _ J6 q6) λy s7 hpt=>?_;obtain⟨vy,H7,J7,r7,q7,m',hm',w7⟩:=hpt;refine thn (bv _ s7 σ6 H7 (.ref s2.heap.objs.size) [vy] _ _ (λ_ H8=>H8=upd H7 s2.heap.objs.size (.lst (ys++[vy]))) J7 rfl (.cons r7 .nil) ⟨_,ys,vy,rfl,rfl,q7,hlen,rfl⟩) λ_ s8 hpt=>?_;obtain⟨_,H8,J8,_,e8⟩:=hpt;subst e8;refine⟨m',hm',i+1,ys++[vy],σ6,_,J8.unpinned,T.keep _ _ _ st5 λb hb o e=>(J8.pin (b,o) (mem_append_right _ (mem_append_right _ (bx hb e)))).1,λb hb=>?_,w7⟩;obtain⟨o,e,d⟩:=T.obj _ _ st5 b hb;exact(J8.pin (b,o) (mem_append_right _ (mem_append_right _ (bx hb e)))).2.1
   |false =>
    rw[if_neg (by simp)]at q6⊢;obtain⟨m',hm',w7⟩:=q6;refine⟨m',hm',i+1,ys,σ6,_,J6.unpinned,T.keep _ _ _ st5 λb hb o e=>(J6.pin (b,o) (mem_append_right _ (mem_append_right _ (bx hb e)))).1,λb hb=>?_,w7⟩;obtain⟨o,e,d⟩:=T.obj _ _ st5 b hb;exact(J6.pin (b,o) (mem_append_right _ (mem_append_right _ (bx hb e)))).2.1
 exact codeAny_compStart_list loop (T.self _ 0 _ _ _ st1 loop)
end
end L2
namespace TB
open PySem PySem.SetTable
def adv(mask:Nat)(p:Probe):Probe :=
 if p.more>0 then {p with j:=p.j+1,more:=p.more-1} else
 {p with j:=(leap mask p.i p.perturb).1,more:=runEnd mask (leap mask p.i p.perturb).1-(leap mask p.i p.perturb).1,i:=(leap mask p.i p.perturb).1,perturb:=(leap mask p.i p.perturb).2}
theorem gH(t:SetTable)(p:Probe):advance t p=adv t.mask p:=rfl
def lvP(mask:Nat)(x:Nat×Nat):Probe:={j:=x.1,more:=runEnd mask x.1-x.1,i:=x.1,perturb:=x.2,dummy:=none}
def st(mask:Nat)(h:Int):Probe:=lvP mask (bits h % (mask+1),bits h)
def nth(mask:Nat):Probe→Nat→Probe
 |p,0=>p
 |p,n+1=>nth mask (adv mask p) n
theorem eN(mask:Nat):∀(a b:Nat)(p:Probe),nth mask p (a+b)=nth mask (nth mask p a) b
 |0,b,p=>by rw[zero_add];rfl
 |a+1,b,p=>by
  rw[show a+1+b=(a+b)+1 by omega];show nth mask (adv mask p) (a+b)=nth mask (nth mask (adv mask p) a) b;exact eN mask a b _
theorem ue(mask:Nat)(p:Probe)(n:Nat):nth mask p (n+1)=adv mask (nth mask p n):=by
 rw[eN];rfl
def pos(mask:Nat)(h:Int)(n:Nat):Nat:=(nth mask (st mask h) n).j
theorem lz(mask:Nat):∀(m:Nat)(p:Probe),p.more=m→nth mask p m={p with j:=p.j+m,more:=0}
 |0,p,h=>by
  show p=_;cases p;simp at h;subst h;rfl
 |m+1,p,h=>by
  show nth mask (adv mask p) m=_;have e:adv mask p={p with j:=p.j+1,more:=m}:=by
   unfold adv;rw[if_pos (by omega),h];rfl
  rw[e,lz mask m _ rfl];simp only[Probe.mk.injEq,and_true];omega
theorem oz(mask:Nat):∀(m:Nat)(p:Probe),m≤p.more→nth mask p m={p with j:=p.j+m,more:=p.more-m}
 |0,p,h=>by
  show p=_;cases p;rfl
 |m+1,p,h=>by
  show nth mask (adv mask p) m=_;have e:adv mask p={p with j:=p.j+1,more:=p.more-1}:=by
   unfold adv;rw[if_pos (by omega)]
  rw[e,oz mask m _ (by show m≤p.more-1;omega)];simp only[Probe.mk.injEq,and_true];omega
theorem gI(mask:Nat)(x:Nat×Nat):nth mask (lvP mask x) (runEnd mask x.1-x.1+1)=lvP mask (leap mask x.1 x.2):=by
 have e:=lz mask (runEnd mask x.1-x.1) (lvP mask x) rfl;rw[ue,e];unfold adv;rw[if_neg (by simp)];rfl
theorem yD(mask i:Nat):runEnd mask i-i≤9:=by unfold runEnd;split<;>omega
def lv(mask:Nat):Nat→Nat×Nat→Nat×Nat
 |0,x=>x
 |k+1,x=>lv mask k (leap mask x.1 x.2)
theorem pS(mask:Nat):∀(a b:Nat)(x:Nat×Nat),lv mask (a+b) x=lv mask b (lv mask a x)
 |0,b,x=>by rw[zero_add];rfl
 |a+1,b,x=>by
  rw[show a+1+b=(a+b)+1 by omega];exact pS mask a b _
theorem oA(mask:Nat):∀(k:Nat)(x:Nat×Nat),∃n,n≤10*k∧nth mask (lvP mask x) n=lvP mask (lv mask k x)
 |0,x=>⟨0,by omega,rfl⟩
 |k+1,x=>by
  obtain⟨n,hn,e⟩:=oA mask k (leap mask x.1 x.2);refine⟨(runEnd mask x.1-x.1+1)+n,?_,?_⟩
  ·have:=yD mask x.1;omega
  ·rw[eN,gI];exact e
theorem gJ(mask:Nat):∀(k:Nat)(x:Nat×Nat),(lv mask k x).2=x.2 / 32 ^ k
 |0,x=>by simp[lv]
 |k+1,x=>by
  show(lv mask k (leap mask x.1 x.2)).2=_;rw[gJ mask k];show x.2 / 32 / 32 ^ k=_;rw[Nat.div_div_eq_div_mul,Nat.pow_succ,Nat.mul_comm 32]
theorem rb(mask:Nat):∀(k:Nat)(x:Nat×Nat),x.1≤mask→(lv mask k x).1≤mask
 |0,x,h=>h
 |k+1,x,h=>rb mask k _ (by show(x.1*5+1+x.2 / 32) % (mask+1)≤mask;have:=mod_lt (x.1*5+1+x.2 / 32) (show 0<mask+1 by omega);omega)
theorem rc(h:Int):bits h<2 ^ 64:=by
 unfold bits;have h1:=emod_nonneg h (b:=2 ^ 64) (by decide);have h2:=Int.emod_lt_of_pos h (b:=2 ^ 64) (by decide);omega
def gX(mask:Nat):Nat→Nat→Nat
 |0,i=>i
 |k+1,i=>gX mask k ((i*5+1) % (mask+1))
theorem jL(mask:Nat):∀(k i:Nat),lv mask k (i,0)=(gX mask k i,0)
 |0,i=>rfl
 |k+1,i=>by
  show lv mask k ((i*5+1+0 / 32) % (mask+1),0 / 32)=_;simp only[Nat.zero_div,add_zero];exact jL mask k _
def Cyc(mask:Nat):Prop:=∀i,i≤mask→∀j,j≤mask→∃k,k≤mask∧gX mask k i=j
theorem gk(mask:Nat):∀(a b i:Nat),gX mask (a+b) i=gX mask b (gX mask a i)
 |0,b,i=>by rw[zero_add];rfl
 |a+1,b,i=>by
  rw[show a+1+b=(a+b)+1 by omega];exact gk mask a b _
def wz(mask:Nat):Nat→Nat→List Nat
 |0,_=>[]
 |n+1,i=>i::wz mask n ((i*5+1) % (mask+1))
theorem oB{mask j:Nat}:∀{n i:Nat},j∈wz mask n i→∃k,k<n∧gX mask k i=j
 |0,_,h=>by simp[wz]at h
 |n+1,i,h=>by
  rcases mem_cons.mp h with e|e
  ·exact⟨0,by omega,e.symm⟩
  ·obtain⟨k,hk,e'⟩:=oB e;exact⟨k+1,by omega,e'⟩
theorem uf{mask:Nat}(h0:gX mask (mask+1) 0=0)(h:(List.range (mask+1)).all (λj=>(wz mask (mask+1) 0).contains j)=true):Cyc mask:=by
 have all:∀j,j≤mask→∃k,k≤mask∧gX mask k 0=j:=λj hj=>by
  rw[all_eq_true]at h;have h1:=h j (mem_range.mpr (by omega));rw[List.contains_iff_mem]at h1;obtain⟨k,hk,e⟩:=oB h1;exact⟨k,by omega,e⟩
 intro i hi j hj;obtain⟨a,ha,ea⟩:=all i hi;obtain⟨b,hb,eb⟩:=all j hj
 by_cases hab:a≤b
 ·refine⟨b-a,by omega,?_⟩;rw[←ea,←gk,show a+(b-a)=b by omega];exact eb
 ·refine⟨mask+1-a+b,by omega,?_⟩;rw[←ea,←gk,show a+(mask+1-a+b)=(mask+1)+b by omega,gk,h0];exact eb
def Mk(m:Nat):Prop:=m=7∨m=15∨m=31∨m=63∨m=127∨m=255
theorem Mk.cyc{m:Nat}(h:Mk m):Cyc m:=by
 rcases h with e|e|e|e|e|e<;>subst e<;>exact uf (by decide +kernel) (by decide +kernel)
theorem Mk.ge{m:Nat}(h:Mk m):7≤m∧m≤255:=by rcases h with e|e|e|e|e|e<;>subst e<;>omega
theorem Mk.odd{m:Nat}(h:Mk m):m % 2=1:=by rcases h with e|e|e|e|e|e<;>subst e<;>rfl
def mkB(m:Nat):Bool:=m==7||m==15||m==31||m==63||m==127||m==255
theorem yE:(List.range 256).all (λw=>mkB (sizeAbove w-1)&&decide (w≤sizeAbove w-1)&&decide (sizeAbove w≤256))=true:=by decide +kernel
theorem gY{w:Nat}(h:w≤255):Mk (sizeAbove w-1)∧w≤sizeAbove w-1∧sizeAbove w≤256:=by
 have h1:=(all_eq_true.mp yE) w (mem_range.mpr (by omega));rw[and_eq_true,and_eq_true,decide_eq_true_eq,decide_eq_true_eq]at h1;refine⟨?_,h1.1.2,h1.2⟩;have h2:=h1.1.1;unfold mkB at h2;rw[or_eq_true,or_eq_true,or_eq_true,or_eq_true,or_eq_true,beq_iff_eq,beq_iff_eq,beq_iff_eq,beq_iff_eq,beq_iff_eq,beq_iff_eq]at h2;rcases h2 with ((((h|h)|h)|h)|h)|h
 ·exact .inl h
 ·exact .inr (.inl h)
 ·exact .inr (.inr (.inl h))
 ·exact .inr (.inr (.inr (.inl h)))
 ·exact .inr (.inr (.inr (.inr (.inl h))))
 ·exact .inr (.inr (.inr (.inr (.inr h))))
theorem cover{mask:Nat}(c:Cyc mask)(h:Int){j:Nat}(hj:j≤mask):∃n,n<10*turns mask∧pos mask h n=j:=by
 have h0:(lv mask 13 (bits h % (mask+1),bits h)).2=0:=by
  rw[gJ];have:=rc h;exact Nat.div_eq_of_lt (by have e:(32:Nat) ^ 13=36893488147419103232:=(by decide);rw[e];show bits h<_;omega)
 have h1:(lv mask 13 (bits h % (mask+1),bits h)).1≤mask:=rb mask _ _ (by have:=mod_lt (bits h) (show 0<mask+1 by omega);show bits h % (mask+1)≤mask;omega);obtain⟨k,hk,e⟩:=c _ h1 j hj;obtain⟨n,hn,en⟩:=oA mask (13+k) (bits h % (mask+1),bits h);refine⟨n,by unfold turns;omega,?_⟩;unfold pos st;rw[en,pS];have ex:lv mask 13 (bits h % (mask+1),bits h)=((lv mask 13 (bits h % (mask+1),bits h)).1,0):=by rw[←h0]
 rw[ex,jL];exact e
def InT(mask:Nat)(p:Probe):Prop:=p.j+p.more≤mask
theorem iF{mask i:Nat}(h:i≤mask):runEnd mask i≤mask∧i≤runEnd mask i:=by unfold runEnd;split<;>omega
theorem wA{mask:Nat}{p:Probe}(h:InT mask p):InT mask (adv mask p):=by
 unfold adv InT at *
 split
 ·show p.j+1+(p.more-1)≤mask;omega
 ·have hl:(leap mask p.i p.perturb).1≤mask:=by
   show(p.i*5+1+p.perturb / 32) % (mask+1)≤mask;have:=mod_lt (p.i*5+1+p.perturb / 32) (show 0<mask+1 by omega);omega
  have:=iF hl;show(leap mask p.i p.perturb).1+(runEnd mask (leap mask p.i p.perturb).1-(leap mask p.i p.perturb).1)≤mask;omega
theorem re{mask:Nat}:∀(n:Nat){p:Probe},InT mask p→InT mask (nth mask p n)
 |0,_,h=>h
 |n+1,_,h=>re n (wA h)
theorem yF{mask:Nat}{x:Nat×Nat}(h:x.1≤mask):InT mask (lvP mask x):=by
 have:=iF h;show x.1+(runEnd mask x.1-x.1)≤mask;omega
theorem iG(mask:Nat)(h:Int)(n:Nat):pos mask h n≤mask:=by
 have:InT mask (nth mask (st mask h) n):=re n (yF (by have:=mod_lt (bits h) (show 0<mask+1 by omega);show bits h % (mask+1)≤mask;omega));unfold InT at this;unfold pos;omega
theorem jM(E:Nat→Prop):∀N,E N→∃n,n≤N∧E n∧∀m,m<n→¬E m
 |N,h=>by
  induction N using Nat.strongRecOn with
  |_ N ih =>
   by_cases z:∃m,m<N∧E m
   ·obtain⟨m,hm,e⟩:=z;obtain⟨n,hn,e',no⟩:=ih m hm e;exact⟨n,by omega,e',no⟩
   ·exact⟨N,le_refl _,h,λm hm e=>z ⟨m,hm,e⟩⟩
theorem iH(mask:Nat):∀(n:Nat)(p:Probe),(nth mask p n).dummy=p.dummy
 |0,_=>rfl
 |n+1,p=>by
  show(nth mask (adv mask p) n).dummy=_;rw[iH mask n];unfold adv
  split<;>rfl
theorem jN(t:SetTable)(ha:Nat→Int)(h:Int):∀(n:Nat)(p:Probe)(fuel:Nat),n<fuel →
  (∀m,m<n→∃i,t.slot (nth t.mask p m).j=.live i∧(ha i==h)=false)→t.slot (nth t.mask p n).j=.empty →
  probe.go t ha h fuel p=some (.empty (nth t.mask p n).j p.dummy)
 |0,p,fuel+1,_,_,e=>by
  have e':t.slot p.j=.empty:=e;unfold probe.go;rw[e'];rfl
 |n+1,p,fuel+1,hf,hl,e=>by
  obtain⟨i,h1,h2⟩:=hl 0 (by omega);have h1':t.slot p.j=.live i:=h1;unfold probe.go;rw[h1'];simp only[h2,false_eq_true,if_false,gH];rw[jN t ha h n (adv t.mask p) fuel (by omega) (λm hm=>hl (m+1) (by omega)) e]
  congr 2
  exact iH t.mask 1 p
theorem rf(t:SetTable)(ha:Nat→Int)(h:Int)(i:Nat):∀(n:Nat)(p:Probe)(fuel:Nat),n<fuel →
  (∀m,m<n→∃i,t.slot (nth t.mask p m).j=.live i∧(ha i==h)=false)→t.slot (nth t.mask p n).j=.live i→(ha i==h)=true →
  probe.go t ha h fuel p=some (.candidate (nth t.mask p n).j i (nth t.mask p (n+1)))
 |0,p,fuel+1,_,_,e,hh=>by
  have e':t.slot p.j=.live i:=e;unfold probe.go;rw[e'];simp only[hh,if_true,gH];rfl
 |n+1,p,fuel+1,hf,hl,e,hh=>by
  obtain⟨i',h1,h2⟩:=hl 0 (by omega);have h1':t.slot p.j=.live i':=h1;unfold probe.go;rw[h1'];simp only[h2,false_eq_true,if_false,gH];rw[rf t ha h i n (adv t.mask p) fuel (by omega) (λm hm=>hl (m+1) (by omega)) e hh];rfl
theorem jO(xs:Array Nat)(j:Nat)(hs:∀a b,a<b→b<xs.size→xs.getD a 0<xs.getD b 0):∀(fuel lo hi:Nat),hi-lo≤fuel→lo≤hi→hi≤xs.size →
  (∀k,k<lo→xs.getD k 0<j)→(∀k,hi≤k→k<xs.size→j≤xs.getD k 0) →
  below.go xs j fuel lo hi≤xs.size∧(∀k,k<below.go xs j fuel lo hi→xs.getD k 0<j)∧(∀k,below.go xs j fuel lo hi≤k→k<xs.size→j≤xs.getD k 0)
 |0,lo,hi,hf,hl,hh,h1,h2=>by
  have e:lo=hi:=by omega
  subst e;exact⟨hh,h1,h2⟩
 |fuel+1,lo,hi,hf,hl,hh,h1,h2=>by
  unfold below.go
  by_cases hlt:lo<hi
  ·rw[if_pos hlt];have hm:(lo+hi) / 2<hi:=by omega
   have hm2:lo≤(lo+hi) / 2:=by omega
   have eg:xs.getD ((lo+hi) / 2) j=xs.getD ((lo+hi) / 2) 0:=by
    rw[getD_eq_getD_getElem?,getD_eq_getD_getElem?,Array.getElem?_eq_getElem (by omega)];rfl
   simp only[eg]
   split
   ·rename_i hc
    refine jO xs j hs fuel _ hi (by omega) (by omega) hh (λk hk=>?_) h2
    by_cases e:k=(lo+hi) / 2
    ·rw[e];exact hc
    ·have:=hs k ((lo+hi) / 2) (by omega) (by omega);omega
   ·rename_i hc
    refine jO xs j hs fuel lo _ (by omega) (by omega) (by omega) h1 (λk hk hk2=>?_)
    by_cases e:k=(lo+hi) / 2
    ·rw[e];omega
    ·have:=hs ((lo+hi) / 2) k (by omega) hk2;omega
  ·rw[if_neg hlt];have e:lo=hi:=by omega
   subst e;exact⟨hh,h1,h2⟩
def Up(l:List Nat):Prop:=l.Pairwise (· < ·)
theorem yG{l:List Nat}(h:Up l){a b:Nat}(hab:a<b)(hb:b<l.length):l.toArray.getD a 0<l.toArray.getD b 0:=by
 unfold Up at h;have:=pairwise_iff_getElem.mp h a b (by omega) hb hab;simp[getD_eq_getD_getElem?,show a<l.length by omega,hb];exact this
theorem cO{l:List Nat}(h:Up l)(j:Nat):below l.toArray j≤l.length∧(∀k (hk:k<l.length),k<below l.toArray j→l[k]<j)∧(∀k (hk:k<l.length),below l.toArray j≤k→j≤l[k]):=by
 have:=jO l.toArray j (λa b hab hb=>yG h hab (by simpa using hb)) l.toArray.size 0 l.toArray.size (by omega) (by omega) (le_refl _) (by intro k hk;omega) (by intro k hk hk2;omega);unfold below;refine⟨by simpa using this.1,λk hk h1=>?_,λk hk h1=>?_⟩
 ·have:=this.2.1 k h1;simpa [getD_eq_getD_getElem?,hk]using this
 ·have:=this.2.2 k h1 (by simpa using hk);simpa [getD_eq_getD_getElem?,hk]using this
structure Tb(t:SetTable)(l:List Nat):Prop where
 pl:t.place=l.toArray
 nd:t.dummies=#[]
 up:Up l
 le:∀j∈l,j≤t.mask
theorem rg(j:Nat):has #[] j=false:=by
 unfold has;simp
theorem jn{t:SetTable}{l:List Nat}(T:Tb t l){i j:Nat}(h:l[i]?=some j):t.slot j=.live i:=by
 obtain⟨hi,e⟩:=List.getElem?_eq_some_iff.mp h;obtain⟨b1,b2,b3⟩:=cO T.up j;have eb:below l.toArray j=i:=by
  rcases Nat.lt_trichotomy (below l.toArray j) i with z|z|z
  ·have:=b3 (below l.toArray j) (by omega) (le_refl _);have:=pairwise_iff_getElem.mp T.up (below l.toArray j) i (by omega) hi z;omega
  ·exact z
  ·have:=b2 i hi z;omega
 unfold SetTable.slot;rw[T.pl,eb];simp[h]
theorem oC{t:SetTable}{l:List Nat}(T:Tb t l){j:Nat}(h:j∉l):t.slot j=.empty:=by
 unfold SetTable.slot;rw[T.pl,T.nd,rg];have:¬(l.toArray[below l.toArray j]?==some j)=true:=by
  intro z;have z':l[below l.toArray j]?=some j:=by simpa using z
  exact h (mem_of_getElem? z')
 simp only[this,false_eq_true,if_false]
theorem sA{l:List Nat}(h:Up l){j:Nat}(hj:j∉l):Up (l.take (below l.toArray j)++j::l.drop (below l.toArray j)):=by
 obtain⟨b1,b2,b3⟩:=cO h j;unfold Up;rw[List.pairwise_append,pairwise_cons];have hsub1:(l.take (below l.toArray j)).Pairwise (· < ·):=Pairwise.sublist (take_sublist _ _) h;have hsub2:(l.drop (below l.toArray j)).Pairwise (· < ·):=Pairwise.sublist (List.drop_sublist _ _) h;have h1:∀a∈l.take (below l.toArray j),a<j:=by
  intro a ha;obtain⟨k,hk,e⟩:=mem_iff_getElem.mp ha;rw[length_take]at hk;rw[getElem_take]at e;rw[←e];exact b2 k (by omega) (by omega)
 have h2:∀a∈l.drop (below l.toArray j),j<a:=by
  intro a ha;have hne:a≠j:=λe=>hj (e ▸ List.mem_of_mem_drop ha);obtain⟨k,hk,e⟩:=mem_iff_getElem.mp ha;rw[length_drop]at hk;rw[List.getElem_drop]at e;have:=b3 (below l.toArray j+k) (by omega) (by omega);omega
 refine⟨hsub1,⟨h2,hsub2⟩,λa ha b hb=>?_⟩;rcases mem_cons.mp hb with rfl|hb
 ·exact h1 a ha
 ·have:=h1 a ha;have:=h2 b hb;omega
theorem ug{t:SetTable}{l:List Nat}(T:Tb t l){j:Nat}(hj:j∉l)(hm:j≤t.mask):Tb (t.put j).1 (l.take (below l.toArray j)++j::l.drop (below l.toArray j))∧(t.put j).2=below l.toArray j∧(t.put j).1.mask=t.mask:=by
 refine⟨⟨?_,?_,sA T.up hj,?_⟩,?_,rfl⟩
 ·show insertAt t.place (below t.place j) j=_;rw[T.pl];apply Array.toList_inj.mp;rw[SetTable.toList_insertAt]
 ·show(if has t.dummies j=true then _ else t.dummies)=#[];rw[T.nd,rg];rfl
 ·intro a ha;rcases mem_append.mp ha with h|h
  ·exact T.le a (List.mem_of_mem_take h)
  ·rcases mem_cons.mp h with rfl|h
   ·exact hm
   ·exact T.le a (List.mem_of_mem_drop h)
 ·show below t.place j=_;rw[T.pl]
def gu(mask:Nat)(zs:List (Nat×Int)):Prop:=∀z∈zs,∃n,pos mask z.2 n=z.1∧∀m,m<n→pos mask z.2 m∈zs.map (·.1)
theorem gu.nil(mask:Nat):gu mask []:=by intro z hz;simp at hz
theorem gu.mono{mask:Nat}{zs ys:List (Nat×Int)}(h:gu mask zs)(new:Nat×Int)(hm:∀z∈ys,z∈zs∨z=new)(hs:∀z∈zs,z∈ys)(hn:∃n,pos mask new.2 n=new.1∧∀m,m<n→pos mask new.2 m∈zs.map (·.1)):gu mask ys:=by
 intro z hz;have up:∀j,j∈zs.map (·.1)→j∈ys.map (·.1):=λj hj=>by
  obtain⟨y,hy,e⟩:=mem_map.mp hj;exact mem_map.mpr ⟨y,hs y hy,e⟩
 rcases hm z hz with h1|h1
 ·obtain⟨n,e,p⟩:=h z h1;exact⟨n,e,λm hm=>up _ (p m hm)⟩
 ·subst h1;obtain⟨n,e,p⟩:=hn;exact⟨n,e,λm hm=>up _ (p m hm)⟩
def emp(owner:Array (Option Nat))(j:Nat):Bool:=(owner.getD j (some 0)).isNone
theorem lA(mask:Nat)(owner:Array (Option Nat)):∀(fuel:Nat)(x:Nat×Nat),x.1≤mask→(∃k,k<fuel∧emp owner (lv mask k x).1=true) →
  ∃j n,layClean.free mask owner fuel x.1 x.2=some j∧(nth mask (lvP mask x) n).j=j∧emp owner j=true∧∀m,m<n→emp owner (nth mask (lvP mask x) m).j=false
 |0,x,_,h=>by obtain⟨k,hk,_⟩:=h;omega
 |fuel+1,x,hx,h=>by
  unfold layClean.free;have hr:=iF hx;have hpart:∀m,m≤runEnd mask x.1-x.1→(nth mask (lvP mask x) m).j=x.1+m:=λm hm=>by
   rw[oz mask m (lvP mask x) hm];rfl
  cases e:(List.range (runEnd mask x.1+1-x.1)).find? (λk=>(owner.getD (x.1+k) (some 0)).isNone)with
  |some k =>
   rw[List.find?_range_eq_some]at e;obtain⟨e1,e2,e3⟩:=e;have hk:k≤runEnd mask x.1-x.1:=by have:=mem_range.mp e2;omega
   refine⟨x.1+k,k,rfl,hpart k hk,e1,λm hm=>?_⟩;rw[hpart m (by omega)];have:=e3 m hm;simpa [emp]using this
  |none =>
   rw[List.find?_range_eq_none]at e;obtain⟨k,hk,h1⟩:=h;have hk0:k≠0:=by
    rintro rfl;have:=e 0 (by omega);have h1':(owner.getD x.1 (some 0)).isNone=true:=h1;rw[add_zero,h1']at this;simp at this
   obtain⟨k',rfl⟩:∃k',k=k'+1:=⟨k-1,by omega⟩;have hl:(leap mask x.1 x.2).1≤mask:=rb mask 1 x hx;obtain⟨j,n,f1,f2,f3,f4⟩:=lA mask owner fuel (leap mask x.1 x.2) hl ⟨k',by omega,h1⟩;refine⟨j,(runEnd mask x.1-x.1+1)+n,f1,?_,f3,λm hm=>?_⟩
   ·rw[eN,gI];exact f2
   ·by_cases hm2:m≤runEnd mask x.1-x.1
    ·rw[hpart m hm2];have:=e m (by omega);simpa [emp]using this
    ·obtain⟨m',rfl⟩:∃m',m=(runEnd mask x.1-x.1+1)+m':=⟨m-(runEnd mask x.1-x.1+1),by omega⟩;rw[eN,gI];exact f4 m' (by omega)
theorem wB{mask:Nat}(c:Cyc mask)(owner:Array (Option Nat))(h:Int){j₀:Nat}(hj:j₀≤mask)(he:emp owner j₀=true):
  ∃j n,layClean.free mask owner (turns mask) (bits h % (mask+1)) (bits h)=some j∧pos mask h n=j∧emp owner j=true∧∀m,m<n→emp owner (pos mask h m)=false:=by
 have h0:(lv mask 13 (bits h % (mask+1),bits h)).2=0:=by
  rw[gJ];have:=rc h;exact Nat.div_eq_of_lt (by have e:(32:Nat) ^ 13=36893488147419103232:=(by decide);rw[e];show bits h<_;omega)
 have hx:bits h % (mask+1)≤mask:=by have:=mod_lt (bits h) (show 0<mask+1 by omega);omega
 have h1:(lv mask 13 (bits h % (mask+1),bits h)).1≤mask:=rb mask _ _ hx;obtain⟨k,hk,e⟩:=c _ h1 j₀ hj;refine lA mask owner (turns mask) (bits h % (mask+1),bits h) hx ⟨13+k,by unfold turns;omega,?_⟩;rw[pS];have ex:lv mask 13 (bits h % (mask+1),bits h)=((lv mask 13 (bits h % (mask+1),bits h)).1,0):=by rw[←h0]
 rw[ex,jL,e];exact he
def live(mask:Nat)(owner:Array (Option Nat)):List (Nat×Nat):=(List.range (mask+1)).filterMap λj=>(owner.getD j none).map (j,·)
theorem fi{α β:Type}{f g:α→Option β}:∀{l:List α},(∀x∈l,g x=f x)→l.filterMap g=l.filterMap f
 |[],_=>rfl
 |x::l,h=>by
  have ih:=fi (l:=l) λy hy=>h y (mem_cons_of_mem _ hy);have hx:=h x mem_cons_self;cases e:f x with
  |none=>rw[filterMap_cons_none e,filterMap_cons_none (hx.trans e),ih]
  |some b=>rw[filterMap_cons_some e,filterMap_cons_some (hx.trans e),ih]
theorem gv{α β:Type}(f g:α→Option β)(a:α)(v:β)(hf:f a=none)(hg:g a=some v)(hne:∀x,x≠a→g x=f x):∀(l:List α),l.Nodup→a∈l →
  (l.filterMap g).Perm (v::l.filterMap f)
 |[],_,h=>by simp at h
 |x::l,hn,h=>by
  obtain⟨h1,h2⟩:=nodup_cons.mp hn
  by_cases e:x=a
  ·subst e;rw[filterMap_cons_some hg,filterMap_cons_none hf];have:l.filterMap g=l.filterMap f:=fi λy hy=>hne y (λe=>h1 (e ▸ hy));rw[this]
  ·have ha:a∈l:=by
    rcases mem_cons.mp h with z|z
    ·exact absurd z.symm e
    ·exact z
   have ih:=gv f g a v hf hg hne l h2 ha;cases ef:f x with
   |none =>
    rw[filterMap_cons_none ef,filterMap_cons_none (by rw[hne x e,ef])];exact ih
   |some b =>
    rw[filterMap_cons_some ef,filterMap_cons_some (by rw[hne x e,ef])];exact(ih.cons b).trans (List.Perm.swap _ _ _)
structure Lay(mask:Nat)(owner:Array (Option Nat))(hs:List Int):Prop where
 size:owner.size=mask+1
 perm:((live mask owner).map (·.2)).Perm (List.range hs.length)
 path:∀j i,owner.getD j none=some i→∃h,hs[i]?=some h∧∃n,pos mask h n=j∧∀m,m<n→emp owner (pos mask h m)=false
theorem gZ{mask:Nat}{owner:Array (Option Nat)}(hs:owner.size=mask+1){j:Nat}(hj:j≤mask):emp owner j=(owner.getD j none).isNone:=by
 unfold emp;rw[getD_eq_getD_getElem?,getD_eq_getD_getElem?,Array.getElem?_eq_getElem (by omega)];rfl
theorem wC(mask:Nat):Lay mask (replicate (mask+1) none) []:=by
 have e:∀j,(replicate (mask+1) (none:Option Nat)).getD j none=none:=λj=>by
  rw[getD_eq_getD_getElem?,Array.getElem?_replicate]
  split<;>rfl
 refine⟨by simp,?_,λj i h=>?_⟩
 ·have:live mask (replicate (mask+1) none)=[]:=by
   unfold live;rw[List.filterMap_eq_nil_iff];intro j _;rw[e];rfl
  rw[this];simp
 ·rw[e]at h;cases h
theorem uh{mask:Nat}{owner:Array (Option Nat)}{hs:List Int}(L:Lay mask owner hs)(hl:hs.length≤mask):∃j,j≤mask∧emp owner j=true:=by
 by_cases h:∃j,j≤mask∧emp owner j=true
 ·exact h
 ·exfalso
  have all:∀j,j≤mask→∃i,owner.getD j none=some i:=λj hj=>by
   cases e:owner.getD j none with
   |some i=>exact⟨i,rfl⟩
   |none=>exact(h ⟨j,hj,by rw[gZ L.size hj,e];rfl⟩).elim
  have len:(live mask owner).length=mask+1:=by
   have key:∀l:List Nat,(∀j∈l,j≤mask)→(l.filterMap λj=>(owner.getD j none).map (j,·)).length=l.length:=by
    intro l
    induction l with
    |nil=>intro _;rfl
    |cons x l ih =>
     intro hl;obtain⟨i,e⟩:=all x (hl x (by simp));rw[filterMap_cons_some (by rw[e];rfl),length_cons,length_cons,ih λj hj=>hl j (by simp[hj])]
   unfold live;rw[key _ (λj hj=>by have:=mem_range.mp hj;omega),length_range]
  have:=L.perm.length_eq;rw[length_map,length_range,len]at this;omega
theorem hJ{owner:Array (Option Nat)}{j k:Nat}{v:Option Nat}(hj:j<owner.size):(owner.setIfInBounds j v).getD k none=if k=j then v else owner.getD k none:=by
 rw[getD_eq_getD_getElem?,getD_eq_getD_getElem?,Array.getElem?_setIfInBounds]
 by_cases e:j=k
 ·subst e;simp[hj]
 ·rw[if_neg e,if_neg (λz=>e z.symm)]
theorem rh{mask:Nat}{owner:Array (Option Nat)}{j k i:Nat}(hs:owner.size=mask+1)(hj:j≤mask)(hk:k≤mask)(h:emp owner k=false):emp (owner.setIfInBounds j (some i)) k=false:=by
 rw[gZ (by simpa using hs) hk,hJ (by omega)];rw[gZ hs hk]at h
 split
 ·rfl
 ·exact h
theorem ui{mask:Nat}(c:Cyc mask){owner:Array (Option Nat)}{hs:List Int}(L:Lay mask owner hs)(hl:hs.length≤mask)(h:Int):
  ∃j,layClean.free mask owner (turns mask) (bits h % (mask+1)) (bits h)=some j∧Lay mask (owner.setIfInBounds j (some hs.length)) (hs++[h]):=by
 obtain⟨j₀,hj₀,e₀⟩:=uh L hl;obtain⟨j,n,e1,e2,e3,e4⟩:=wB c owner h hj₀ e₀;have hj:j≤mask:=by rw[←e2];exact iG mask h n
 have hjn:owner.getD j none=none:=by
  rw[gZ L.size hj]at e3;exact Option.isNone_iff_eq_none.mp e3
 refine⟨j,e1,by simpa using L.size,?_,λk i hk=>?_⟩
 ·have p:=gv (λk=>(owner.getD k none).map (k,·)) (λk=>((owner.setIfInBounds j (some hs.length)).getD k none).map (k,·)) j (j,hs.length) (by simp[hjn])
   (by show((owner.setIfInBounds j (some hs.length)).getD j none).map (j,·)=_;rw[hJ (by rw[L.size];omega),if_pos rfl];rfl) (λx hx=>by show((owner.setIfInBounds j (some hs.length)).getD x none).map (x,·)=(owner.getD x none).map (x,·);rw[hJ (by rw[L.size];omega),if_neg hx]) (List.range (mask+1)) nodup_range (mem_range.mpr (by omega))
  have p2:((live mask (owner.setIfInBounds j (some hs.length))).map (·.2)).Perm (hs.length::(live mask owner).map (·.2)):=p.map (·.2);rw[length_append,length_singleton,List.range_succ];exact p2.trans ((L.perm.cons _).trans (List.perm_append_singleton _ _).symm)
 ·rw[hJ (by rw[L.size];omega)]at hk
  by_cases e:k=j
  ·subst e;rw[if_pos rfl]at hk;cases hk;exact⟨h,by simp,n,e2,λm hm=>rh L.size hj (iG _ _ _) (e4 m hm)⟩
  ·rw[if_neg e]at hk;obtain⟨h',a1,n',a2,a3⟩:=L.path k i hk;have hi:i<hs.length:=(List.getElem?_eq_some_iff.mp a1).1;exact⟨h',by rw[getElem?_append_left hi];exact a1,n',a2,λm hm=>rh L.size hj (iG _ _ _) (a3 m hm)⟩
theorem iY{mask:Nat}(c:Cyc mask)(hashes:Array Int)(hl:hashes.size≤mask+1):∃owner,layClean mask hashes=some owner∧Lay mask owner hashes.toList:=by
 have key:∀(r hs:List Int)(owner:Array (Option Nat)),Lay mask owner hs→hs.length+r.length≤mask+1 →
   ∃owner',r.foldl (λacc h=>do
    let(owner,k) ← acc
    let j ← layClean.free mask owner (turns mask) (bits h % (mask+1)) (bits h)
    pure (owner.setIfInBounds j (some k),k+1)) (some (owner,hs.length))=some (owner',hs.length+r.length)∧Lay mask owner' (hs++r):=by
  intro r
  induction r with
  |nil=>intro hs owner L _;exact⟨owner,rfl,by simpa using L⟩
  |cons h r ih =>
   intro hs owner L hle;rw[length_cons]at hle;obtain⟨j,e,L'⟩:=ui c L (by omega) h;obtain⟨owner',e',L''⟩:=ih (hs++[h]) _ L' (by rw[length_append,length_singleton];omega);refine⟨owner',?_,by rw[append_assoc]at L'';exact L''⟩;rw[List.foldl_cons];have eb:(do
    let(owner,k) ← some (owner,hs.length)
    let j ← layClean.free mask owner (turns mask) (bits h % (mask+1)) (bits h)
    pure (owner.setIfInBounds j (some k),k+1))=some (owner.setIfInBounds j (some hs.length),hs.length+1):=by
    show(layClean.free mask owner (turns mask) (bits h % (mask+1)) (bits h)).bind _=_;rw[e];rfl
   rw[eb];rw[length_append,length_singleton]at e';rw[e',length_cons]
   congr 2
   omega
 obtain⟨owner',e,L⟩:=key hashes.toList [] _ (wC mask) (by simpa using hl);refine⟨owner',?_,by simpa using L⟩
 unfold layClean;rw[←Array.foldl_toList];have e2:(0:Nat)=([]:List Int).length:=rfl;rw[e2,e];rfl
theorem iI{t:SetTable}{hashes:Array Int}{wanted:Nat}(c:Cyc (sizeAbove wanted-1))(hl:hashes.size≤sizeAbove wanted-1+1):
  ∃(t':SetTable) (zs:List (Nat×Nat)),t.relaid hashes wanted=some (t',(zs.map (·.2)).toArray)∧t'.mask=sizeAbove wanted-1∧t'.led=t.led∧t'.plain=t.plain ∧
   Tb t' (zs.map (·.1))∧(zs.map (·.2)).Perm (List.range hashes.size)∧gu t'.mask (zs.map λz=>(z.1,hashes.getD z.2 0)):=by
 obtain⟨owner,e,L⟩:=iY c hashes hl;refine⟨{mask:=sizeAbove wanted-1,place:=((live (sizeAbove wanted-1) owner).map (·.1)).toArray,dummies:=#[],finger:=t.finger,led:=t.led,moves:=t.movedTo (sizeAbove wanted-1),plain:=t.plain},live (sizeAbove wanted-1) owner,?_,rfl,rfl,rfl,⟨rfl,rfl,?_,?_⟩,?_,?_⟩
 ·unfold relaid laid;rw[e];rfl
 ·unfold Up live;rw[List.map_filterMap];have e1:((List.range (sizeAbove wanted-1+1)).filterMap λj=>((owner.getD j none).map (j,·)).map (·.1))=(List.range (sizeAbove wanted-1+1)).filter λj=>(owner.getD j none).isSome:=by
   generalize List.range (sizeAbove wanted-1+1)=l
   induction l with
   |nil=>rfl
   |cons x l ih =>
    cases ex:owner.getD x none with
    |none=>rw[filterMap_cons_none (by rw[ex];rfl),filter_cons_of_neg (by simp[ex])];exact ih
    |some i=>rw[filterMap_cons_some (b:=x) (by rw[ex];rfl),filter_cons_of_pos (by simp[ex]),ih]
  rw[e1];exact Pairwise.sublist filter_sublist List.pairwise_lt_range
 ·intro j hj;obtain⟨z,hz,rfl⟩:=mem_map.mp hj;unfold live at hz;obtain⟨k,hk,e1⟩:=mem_filterMap.mp hz;cases ex:owner.getD k none with
  |none=>rw[ex]at e1;cases e1
  |some i =>
   rw[ex]at e1;have e2:(k,i)=z:=Option.some.inj e1;subst e2;have:=mem_range.mp hk;show k≤sizeAbove wanted-1;omega
 ·have:=L.perm;rw[length_toList]at this;exact this
 ·intro y hy;obtain⟨z,hz,rfl⟩:=mem_map.mp hy;have key:∀z:Nat×Nat,z∈live (sizeAbove wanted-1) owner↔z.1≤sizeAbove wanted-1∧owner.getD z.1 none=some z.2:=by
   intro z;unfold live;rw[mem_filterMap];constructor
   ·rintro⟨k,hk,e1⟩;cases ex:owner.getD k none with
    |none=>rw[ex]at e1;cases e1
    |some i =>
     rw[ex]at e1;have e2:(k,i)=z:=Option.some.inj e1;subst e2;have:=mem_range.mp hk;exact⟨by omega,ex⟩
   ·rintro⟨h1,h2⟩;exact⟨z.1,mem_range.mpr (by omega),by rw[h2];rfl⟩
  obtain⟨z1,z2⟩:=(key z).mp hz;obtain⟨h,a1,n,a2,a3⟩:=L.path _ _ z2;have eh:hashes.getD z.2 0=h:=by
   have a1':hashes[z.2]?=some h:=by simpa using a1
   rw[getD_eq_getD_getElem?,a1'];rfl
  refine⟨n,by rw[eh];exact a2,λm hm=>?_⟩;have:=a3 m hm;have hle:=iG (sizeAbove wanted-1) h m;rw[gZ L.size hle]at this;cases ex:owner.getD (pos (sizeAbove wanted-1) h m) none with
  |none=>rw[ex]at this;cases this
  |some i =>
   rw[map_map];show pos (sizeAbove wanted-1) (hashes.getD z.2 0) m∈_;rw[eh];exact mem_map.mpr ⟨(pos (sizeAbove wanted-1) h m,i),(key _).mpr ⟨hle,ex⟩,rfl⟩
section
variable{prog:Program}{w:World}{K:Type}[DecidableEq K]{knd:KeyKind prog w K}{A:Around}{E:Value→Shared→Prop}{s:Shared}
theorem jg(n:Nat){v:Value}(h:carriedByValue v=true):ofAClassStatement n v=pure false:=by
 cases v with
 |ref a=>simp[carriedByValue]at h
 |_=>cases n<;>rfl
theorem gw{ks:List K}{a:Addr}{Q:Bool→Shared→Prop}(hk:IsTupleKey knd s.heap ks a)(h:Q false s):wpAny (model prog w) A (ofAClassStatement 8 (.ref a)) Q E s:=by
 have hT:=hk.typeIs;obtain⟨o,items,n,ho,_,hd,hi⟩:=hk;unfold ofAClassStatement;refine wpAny_bind (wpAny_typeOf hT ?_);dsimp only;rw[if_pos (by decide)];refine wpAny_bind (wpAny_pure ?_);simp only[Bool.not_true,false_eq_true,if_false];refine wpAny_bind (wpAny_seqItems ho hd ?_);dsimp only;refine wpAny_bind ?_;rw[←forIn_toList];refine wpAny_forIn_list _ (λrest r s'=>r.1=none∧s'=s∧∀v∈rest,carriedByValue v=true) _ ?_ ?_ _ _ ⟨rfl,rfl,hi.byValue⟩
 ·rintro v rest r s' ⟨hr,rfl,hall⟩;rw[jg _ (hall v mem_cons_self)];refine wpAny_bind (wpAny_pure ?_);simp only[false_eq_true,if_false];exact wpAny_pure ⟨rfl,rfl,λu hu'=>hall u (mem_cons_of_mem _ hu')⟩
 ·rintro⟨r1,r2⟩ s' ⟨hr,rfl,_⟩;simp only at hr;subst hr;exact wpAny_pure h
theorem uk(n:Nat){x:Value}(hx:x.scannable=true):∃b,hashByValue n x=pure b:=⟨_,hashByValue_scannable n hx⟩
theorem sB{ks:List K}{a:Addr}{Q:Bool→Shared→Prop}(hk:IsTupleKey knd s.heap ks a)(hsc:∀k v,knd.is k v=true→v.scannable=true)(h:∀b,Q b s):wpAny (model prog w) A (hashByValue 8 (.ref a)) Q E s:=by
 have hT:=hk.typeIs;obtain⟨o,items,n,ho,_,hd,hi⟩:=hk;have hall:∀v∈items.toList,v.scannable=true:=by
  generalize items.toList=l at hi
  induction hi with
  |nil=>intro v hv;simp at hv
  |cons h1 _ ih =>
   intro v hv;rcases mem_cons.mp hv with rfl|hv
   ·exact hsc _ _ h1
   ·exact ih v hv
 unfold hashByValue;refine wpAny_bind (wpAny_specialOf hT F.slot_tuple_hash.lookup ?_);show wpAny _ _ (seqItems? (.ref a) >>= _) _ _ s;refine wpAny_bind (wpAny_seqItems ho hd ?_);refine wpAny_bind ?_;show wpAny _ _ (forIn items _ _) _ _ s;rw[←forIn_toList];refine wpAny_forIn_list _ (λrest r s'=>r.1=none∧s'=s∧∀v∈rest,v.scannable=true) _ ?_ ?_ _ _ ⟨rfl,rfl,hall⟩
 ·rintro v rest r s' ⟨hr,rfl,hall⟩;obtain⟨b,e⟩:=uk 7 (hall v mem_cons_self);rw[e];refine wpAny_bind (wpAny_pure ?_);cases b with
  |true =>
   simp only[Bool.not_true,false_eq_true,if_false];exact wpAny_pure ⟨rfl,rfl,λu hu'=>hall u (mem_cons_of_mem _ hu')⟩
  |false =>
   simp only[Bool.not_false,if_true];exact wpAny_pure (wpAny_pure (h false))
 ·rintro⟨r1,r2⟩ s' ⟨hr,rfl,_⟩;simp only at hr;subst hr;exact wpAny_pure (h true)
theorem wD{k:List K}{b:Addr}(hb:IsTupleKey knd s.heap k b)(stored:List Value)(hs:∀v∈stored,∃k' b',v=.ref b'∧IsTupleKey knd s.heap k' b'){Q:Bool→Shared→Prop}(h:Q false s):
  wpAny (model prog w) A (searchCouldBeSeen (.ref b) stored) Q E s:=by
 unfold searchCouldBeSeen;refine wpAny_bind ?_;refine wpAny_forIn_list _ (λrest r s'=>r.1=none∧s'=s∧∀v∈rest,∃k' b',v=.ref b'∧IsTupleKey knd s.heap k' b') _ ?_ ?_ _ _ ⟨rfl,rfl,hs⟩
 ·rintro v rest r s' ⟨hr,rfl,hall⟩;obtain⟨k',b',rfl,hb'⟩:=hall v mem_cons_self;have hall':=λu hu'=>hall u (mem_cons_of_mem _ hu')
  by_cases hv:(b==b')=true
  ·simp only[hv,Bool.true_or,if_true];exact wpAny_pure ⟨rfl,rfl,hall'⟩
  ·have hv':(b==b')=false:=by simpa using hv
   have hc:carriedByValue (.ref b)=false:=rfl;simp only[hv',hc,Bool.false_and,Bool.or_false,false_eq_true,if_false];refine wpAny_bind (wpAny_eqIsQuiet_tuple hb ?_);simp only[Bool.not_true,false_eq_true,if_false];refine wpAny_bind (wpAny_eqIsQuiet_tuple hb' ?_);simp only[Bool.not_true,false_eq_true,if_false];refine wpAny_bind (gw hb ?_);simp only[false_eq_true,if_false];refine wpAny_bind (gw hb' ?_);simp only[false_eq_true,if_false];exact wpAny_pure ⟨rfl,rfl,hall'⟩
 ·rintro⟨r1,r2⟩ s' ⟨hr,rfl,_⟩;simp only at hr;subst hr;exact wpAny_pure h
end
section
variable{prog:Program}{w:World}{K:Type}[DecidableEq K](knd:KeyKind prog w K)
abbrev Ent(K:Type):=Nat×Addr×List K
def ent(z:Ent K):Int×Value:=(tupleKeyHash knd z.2.2,.ref z.2.1)
def pth(z:Ent K):Nat×Int:=(z.1,tupleKeyHash knd z.2.2)
structure TS(h:Heap)(a:Addr)(zs:List (Ent K)):Prop where
 ob:∃o es ep t,h.get? a=some o∧o.ExactSet∧o.data=.set es ep t∧es.toList=zs.map (ent knd)∧Tb t (zs.map (·.1))∧Mk t.mask∧zs.length*5<t.mask*3∧gu t.mask (zs.map (pth knd))
 keys:∀z∈zs,IsTupleKey knd h z.2.2 z.2.1
 nd:(zs.map (·.2.2)).Nodup
variable{knd}
variable{A:Around}{E:Value→Shared→Prop}{s:Shared}
theorem gl{t:SetTable}{l:List Nat}(T:Tb t l):t.fill=l.length:=by
 unfold SetTable.fill;rw[T.pl,T.nd];simp
theorem gm{t:SetTable}{l:List Nat}(T:Tb t l){n:Nat}(hn:l.length=n)(hf:n≤t.mask):t.fits n=true:=by
 unfold SetTable.fits;rw[gl T,T.pl];simp[hn,hf]
theorem jP{mask:Nat}{h:Int}(n0 m:Nat):(nth mask (nth mask (st mask h) n0) m).j=pos mask h (n0+m):=by
 unfold pos;rw[eN]
theorem oE{a b:Addr}{o:Obj}{es:Array (Int×Value)}{ep:Nat}{t:SetTable}{zs:List (Ent K)}{k:List K}{Q:SetFound→Shared→Prop}(hu:A.units<cLine)(ho:s.heap.get? a=some o)(hd:o.data=.set es ep t)(hes:es.toList=zs.map (ent knd))(T:Tb t (zs.map (·.1)))(hf:t.fits es.size=true)(hodd:t.gaveWay=false)(hk:∀z∈zs,IsTupleKey knd s.heap z.2.2 z.2.1)(hb:IsTupleKey knd s.heap k b){N:Nat}(hN:pos t.mask (tupleKeyHash knd k) N∉zs.map (·.1))(hNb:N<10*turns t.mask)(hN1:∀m,m<N→pos t.mask (tupleKeyHash knd k) m∈zs.map (·.1))(q1:(∃z∈zs,z.2.2=k)→Q (.there none) s)(q2:(∀m,m<N→∀z∈zs,z.1=pos t.mask (tupleKeyHash knd k) m→z.2.2≠k)→Q (.free (pos t.mask (tupleKeyHash knd k) N) false) s):
  ∀(d n0 fuel:Nat)(stand:Option SetTable.Probe),N-n0=d→n0≤N→d<fuel→stand.getD (t.probeStart (tupleKeyHash knd k))=nth t.mask (st t.mask (tupleKeyHash knd k)) n0 →
   (∀m,m<n0→∀z∈zs,z.1=pos t.mask (tupleKeyHash knd k) m→z.2.2≠k) →
   wpAny (model prog w) A (setSearchFrom a (.ref b) (tupleKeyHash knd k) true fuel stand) Q E s:=by
 intro d
 induction d using Nat.strongRecOn with
 |_ d ih =>
  intro n0 fuel stand hdd hn0 hfuel hst hpast;obtain⟨fuel,rfl⟩:∃f,fuel=f+1:=⟨fuel-1,by omega⟩;unfold setSearchFrom;refine wpAny_bind (wpAny_setState_of ho hd hf ?_);dsimp only;rw[hodd];simp only[false_eq_true,if_false];rw[hst];have hget:∀{i:Nat}{z:Ent K},zs[i]?=some z→es[i]?=some (ent knd z):=λ{i z} e=>by
   rw[←getElem?_toList,hes,getElem?_map,e];rfl
  obtain⟨n,hn,hev,hno⟩:=jM (λm=>pos t.mask (tupleKeyHash knd k) (n0+m)∉zs.map (·.1)∨∃z∈zs,z.1=pos t.mask (tupleKeyHash knd k) (n0+m)∧tupleKeyHash knd z.2.2=tupleKeyHash knd k) (N-n0)
   (.inl (by rw[show n0+(N-n0)=N by omega];exact hN))
  have hlive:∀m,pos t.mask (tupleKeyHash knd k) m∈zs.map (·.1)→∃i z,t.slot (pos t.mask (tupleKeyHash knd k) m)=.live i∧zs[i]?=some z∧z.1=pos t.mask (tupleKeyHash knd k) m:=λm hm=>by
   obtain⟨i,hi,e⟩:=mem_iff_getElem.mp hm;have hi':i<zs.length:=by simpa using hi
   have e1:(zs.map (·.1))[i]?=some (pos t.mask (tupleKeyHash knd k) m):=by rw[getElem?_eq_getElem hi,e]
   refine⟨i,zs[i],jn T e1,by simp[hi'],?_⟩;rw[getElem_map]at e;exact e
  have hskip:∀m,m<n→∃i,t.slot (nth t.mask (nth t.mask (st t.mask (tupleKeyHash knd k)) n0) m).j=.live i∧((es[i]?.map (·.1)).getD 0==tupleKeyHash knd k)=false:=λm hm=>by
   have h1:pos t.mask (tupleKeyHash knd k) (n0+m)∈zs.map (·.1):=by
    by_cases z:pos t.mask (tupleKeyHash knd k) (n0+m)∈zs.map (·.1)
    ·exact z
    ·exact(hno m hm (.inl z)).elim
   obtain⟨i,z,e1,e2,e3⟩:=hlive _ h1;refine⟨i,by rw[jP];exact e1,?_⟩;rw[hget e2];show(tupleKeyHash knd z.2.2==tupleKeyHash knd k)=false;rw[beq_eq_false_iff_ne];intro e4;exact hno m hm (.inr ⟨z,mem_of_getElem? e2,e3,e4⟩)
  by_cases hmem:pos t.mask (tupleKeyHash knd k) (n0+n)∈zs.map (·.1)
  ·
   have hcand:∃z∈zs,z.1=pos t.mask (tupleKeyHash knd k) (n0+n)∧tupleKeyHash knd z.2.2=tupleKeyHash knd k:=by
    rcases hev with e|e
    ·exact(e hmem).elim
    ·exact e
   obtain⟨i,z,e1,e2,e3⟩:=hlive _ hmem;have hz:z∈zs:=mem_of_getElem? e2;have hzh:tupleKeyHash knd z.2.2=tupleKeyHash knd k:=by
    obtain⟨z',hz',f1,f2⟩:=hcand;have hinj:z'=z:=by
     obtain⟨i',hi',ei'⟩:=mem_iff_getElem.mp hz';have g1:(zs.map (·.1))[i']?=some (pos t.mask (tupleKeyHash knd k) (n0+n)):=by rw[getElem?_map,getElem?_eq_getElem hi',ei',←f1];rfl
     have g2:=jn T g1;rw[e1]at g2;cases g2;rw[getElem?_eq_getElem hi',ei']at e2;exact Option.some.inj e2
    rw[←hinj];exact f2
   have hnN:n0+n<N:=by
    rcases lt_or_ge (n0+n) N with z'|z'
    ·exact z'
    ·have:n0+n=N:=by omega
     rw[this]at hmem;exact(hN hmem).elim
   have hp:=rf t (λi=>(es[i]?.map (·.1)).getD 0) (tupleKeyHash knd k) i n (nth t.mask (st t.mask (tupleKeyHash knd k)) n0) (10*turns t.mask) (by omega) hskip (by rw[jP];exact e1)
    (by rw[hget e2];show(tupleKeyHash knd z.2.2==tupleKeyHash knd k)=true;rw[hzh];simp)
   generalize hg:SetTable.probe t _ (tupleKeyHash knd k) (nth t.mask (st t.mask (tupleKeyHash knd k)) n0)=met;have hmet:met=some (.candidate (nth t.mask (nth t.mask (st t.mask (tupleKeyHash knd k)) n0) n).j i (nth t.mask (nth t.mask (st t.mask (tupleKeyHash knd k)) n0) (n+1))):=hg.symm.trans hp;subst hmet;dsimp only;have cont:wpAny (model prog w) A (match es[i]? with
      |some (_,y)=>do
       let equal ← holding [y] (eqBool y (.ref b))
       let(es',_,t') ← setState a
       if (true&&equal)=true then return SetFound.there none
       let some same:=t'.sameMemory t.moves t.mask|unsupported "set.changed-during-lookup:is-the-new-block-at-the-old-address"
       let still ← match (if same then t'.slot (nth t.mask (nth t.mask (st t.mask (tupleKeyHash knd k)) n0) n).j else .empty)with
        |.live i'=>match es'[i']? with
         |some (_,y')=>do pure (if ← isSame y' y then some i' else none)
         |none=>pure none
        |_=>pure none
       match still with
       |none=>rule "set.search.anew";setSearchFrom a (.ref b) (tupleKeyHash knd k) true fuel none
       |some i'=>if equal then return SetFound.there (some i')else setSearchFrom a (.ref b) (tupleKeyHash knd k) true fuel (some (nth t.mask (nth t.mask (st t.mask (tupleKeyHash knd k)) n0) (n+1)))
      | _=>unsupported "internal:set-entry") Q E s:=by
    rw[hget e2];show wpAny _ _ (holding [Value.ref z.2.1] (eqBool (.ref z.2.1) (.ref b)) >>= _) _ _ _;refine wpAny_bind (wpAny_holding (wpAny_eqBool_tuple hu (hk z hz) hb ?_));refine wpAny_bind (wpAny_setState_of ho hd hf ?_);dsimp only
    by_cases hkk:z.2.2=k
    ·rw[decide_eq_true hkk];simp only[Bool.and_self,if_true];exact wpAny_pure (q1 ⟨z,hz,hkk⟩)
    ·rw[decide_eq_false hkk];simp only[Bool.and_false,false_eq_true,if_false];have hsm:t.sameMemory t.moves t.mask=some true:=by unfold SetTable.sameMemory;simp
     rw[hsm];simp only[if_true];rw[jP,e1];dsimp only;rw[hget e2];dsimp only;refine wpAny_bind (wpAny_isSame_ref_self ?_);simp only[if_true];refine wpAny_bind (wpAny_pure ?_);dsimp only;refine ih (N-(n0+n+1)) (by omega) (n0+n+1) fuel _ rfl (by omega) (by omega) ?_ ?_
     ·show nth t.mask (nth t.mask (st t.mask (tupleKeyHash knd k)) n0) (n+1)=_;rw[←eN];rfl
     ·intro m hm z' hz' e
      by_cases hlt:m<n0
      ·exact hpast m hlt z' hz' e
      ·intro hzk;have hm2:pos t.mask (tupleKeyHash knd k) m∈zs.map (·.1):=mem_map.mpr ⟨z',hz',e⟩;obtain⟨m',rfl⟩:∃m',m=n0+m':=⟨m-n0,by omega⟩;rcases lt_or_ge m' n with hlt'|hge
       ·exact hno m' hlt' (.inr ⟨z',hz',e,by rw[hzk]⟩)
       ·have:m'=n:=by omega
        subst this;obtain⟨i',hi',ei'⟩:=mem_iff_getElem.mp hz';have g1:(zs.map (·.1))[i']?=some (pos t.mask (tupleKeyHash knd k) (n0+m')):=by rw[getElem?_map,getElem?_eq_getElem hi',ei',←e];rfl
        have g2:=jn T g1;rw[e1]at g2;cases g2;rw[getElem?_eq_getElem hi',ei']at e2;have:z'=z:=Option.some.inj e2;exact hkk (this ▸ hzk)
   cases hl:t.led with
   |true =>
    simp only[Bool.not_true,false_eq_true,if_false];exact cont
   |false =>
    simp only[Bool.not_false,if_true];refine wpAny_bind (wD hb _ ?_ ?_)
    ·intro v hv;obtain⟨e,he,rfl⟩:=mem_map.mp hv;rw[Array.toList_filter,hes]at he;obtain⟨he1,_⟩:=mem_filter.mp he;obtain⟨z',hz',rfl⟩:=mem_map.mp he1;exact⟨z'.2.2,z'.2.1,rfl,hk z' hz'⟩
    ·simp only[false_eq_true,if_false];exact cont
  ·
   have hnN:n0+n=N:=by
    rcases lt_or_ge (n0+n) N with z|z
    ·exact(hmem (hN1 _ z)).elim
    ·omega
   have hp:=jN t (λi=>(es[i]?.map (·.1)).getD 0) (tupleKeyHash knd k) n (nth t.mask (st t.mask (tupleKeyHash knd k)) n0) (10*turns t.mask) (by omega) hskip (by rw[jP];exact oC T hmem);generalize hg:SetTable.probe t _ (tupleKeyHash knd k) (nth t.mask (st t.mask (tupleKeyHash knd k)) n0)=met;have hmet:met=some (.empty (nth t.mask (nth t.mask (st t.mask (tupleKeyHash knd k)) n0) n).j (nth t.mask (st t.mask (tupleKeyHash knd k)) n0).dummy):=hg.symm.trans hp;subst hmet;have hdm:(nth t.mask (st t.mask (tupleKeyHash knd k)) n0).dummy=none:=iH _ _ _;rw[hdm];dsimp only;rw[jP,hnN];refine wpAny_pure (q2 λm hm z hz e hzk=>?_)
   by_cases hlt:m<n0
   ·exact hpast m hlt z hz e hzk
   ·obtain⟨m',rfl⟩:∃m',m=n0+m':=⟨m-n0,by omega⟩;exact hno m' (by omega) (.inr ⟨z,hz,e,by rw[hzk]⟩)
end
theorem ri:∀(n:Nat)(l:List Nat),(∀j,j<n→j∈l)→n≤l.length
 |0,_,_=>zero_le _
 |n+1,l,h=>by
  have hn:=h n (by omega);have ih:=ri n (l.erase n) λj hj=>(List.mem_erase_of_ne (by omega)).mpr (h j (by omega));rw[List.length_erase_of_mem hn]at ih;have:0<l.length:=List.length_pos_of_mem hn;omega
theorem jQ(n:Nat)(l:List Nat)(h:l.length≤n):∃j,j≤n∧j∉l:=by
 by_cases z:∃j,j≤n∧j∉l
 ·exact z
 ·exfalso
  have:=ri (n+1) l λj hj=>by
   by_cases e:j∈l
   ·exact e
   ·exact(z ⟨j,by omega,e⟩).elim
  omega
section
variable{prog:Program}{w:World}{K:Type}[DecidableEq K]{knd:KeyKind prog w K}{A:Around}{E:Value→Shared→Prop}{s:Shared}
theorem IsTupleKey.same{h h':Heap}{ks:List K}{a d:Addr}{o:Obj}{es ep t}(x:IsTupleKey knd h ks a)(ho:h.get? d=some o)(hd:o.data=.set es ep t)(hs:SameBut d h h'):IsTupleKey knd h' ks a:=by
 obtain⟨o',items,n,ho',hc,hd',hi⟩:=x;have hne:a≠d:=by
  rintro rfl;obtain rfl:o'=o:=Option.some.inj (ho'.symm.trans ho);rw[hd]at hd';exact nomatch hd'
 exact⟨o',items,n,(hs.2 a hne).trans ho',hc,hd',hi⟩
theorem ul{t:SetTable}{l:List Nat}(T:Tb t l)(b:Bool):Tb {t with plain:=b} l:=⟨T.pl,T.nd,T.up,T.le⟩
theorem stored{a:Addr}{o:Obj}{es:Array (Int×Value)}{ep:Nat}{t:SetTable}(ho:s.heap.get? a=some o)(hd:o.data=.set es ep t)(es':Array (Int×Value))(t':SetTable):
  (s.heap.update a (Obj.putSet es' t')).get? a=some {o with data:=.set es' (ep+1) t'}:=by
 have:=get?_update_self (Obj.putSet es' t') ho (by rw[putSet_of es' t' hd];rfl);rw[putSet_of es' t' hd]at this;exact this
theorem mG{n:Nat}(h:n≤64):n≤sizeLine:=by rw[sizeLine_eq];omega
theorem sC{a b:Addr}{zs:List (Ent K)}{k:List K}{Q:Bool→Shared→Prop}(hu:A.units<cLine)(hsc:∀k v,knd.is k v=true→v.scannable=true)(hS:TS knd s.heap a zs)(hb:IsTupleKey knd s.heap k b)(hroom:zs.length<60)(h:∀r h' zs',SameBut a s.heap h'→TS knd h' a zs'→((k∈zs.map (·.2.2)∧zs'=zs)∨(k∉zs.map (·.2.2)∧(zs'.map (·.2)).Perm ((b,k)::zs.map (·.2))))→Q r {s with heap:=h'}):
  wpAny (model prog w) A (setAddHashed a (.ref b) (tupleKeyHash knd k)) Q E s:=by
 obtain⟨⟨o,es,ep,t,ho,hex,hd,hes,T,hmask,hfull,hpath⟩,hk,hnd⟩:=id hS;have hlen:es.size=zs.length:=by rw[←length_toList,hes,length_map]
 have hge:=hmask.ge;have hle:zs.length≤t.mask:=by omega
 have hf:t.fits es.size=true:=gm T (by rw[length_map,hlen]) (by rw[hlen];exact hle);have hodd:t.gaveWay=false:=by unfold SetTable.gaveWay;rw[hmask.odd];rfl
 have cyc:=hmask.cyc;obtain⟨j₀,hj₀,hj₀'⟩:=jQ t.mask (zs.map (·.1)) (by rw[length_map];exact hle);obtain⟨n₀,hn₀,en₀⟩:=cover cyc (tupleKeyHash knd k) hj₀;obtain⟨N,hNle,hN,hNno⟩:=jM (λm=>pos t.mask (tupleKeyHash knd k) m∉zs.map (·.1)) n₀ (by rw[en₀];exact hj₀');have hN1:∀m,m<N→pos t.mask (tupleKeyHash knd k) m∈zs.map (·.1):=λm hm=>by
  by_cases z:pos t.mask (tupleKeyHash knd k) m∈zs.map (·.1)
  ·exact z
  ·exact(hNno m hm z).elim
 have hturns:10*turns t.mask<100000:=by unfold turns;omega
 unfold setAddHashed setAddHashedIn;refine wpAny_holding (wpAny_bind (wpAny_setState_of ho hd hf ?_));dsimp only;have hby:byScan (.ref b) es=false:=rfl;rw[hby];simp only[false_eq_true,if_false];refine wpAny_bind ?_;unfold setSearch;refine oE hu ho hd hes T hf hodd hk hb hN (by omega) hN1 ?_ ?_ N 0 100000 none rfl (by omega) (by omega) rfl (λm hm=>by omega)
 ·intro hex';dsimp only;have e:s={s with heap:=s.heap}:=by cases s;rfl
  have hq:=h false s.heap zs (SameBut.refl a s.heap) hS (.inl ⟨by
   obtain⟨z,hz,e⟩:=hex';exact mem_map.mpr ⟨z,hz,e⟩,rfl⟩)
  rw[e];exact wpAny_pure hq
 ·intro hnone;have hknew:k∉zs.map (·.2.2):=by
   intro hm;obtain⟨z,hz,ez⟩:=mem_map.mp hm;obtain⟨n,e1,e2⟩:=hpath (pth knd z) (mem_map.mpr ⟨z,hz,rfl⟩);have e1':pos t.mask (tupleKeyHash knd k) n=z.1:=by rw[←ez];exact e1
   have e2':∀m,m<n→pos t.mask (tupleKeyHash knd k) m∈zs.map (·.1):=λm hm=>by
    have:=e2 m hm;rw[map_map]at this;rw[←ez];exact this
   have hnN:n<N:=by
    rcases lt_or_ge n N with z'|z'
    ·exact z'
    ·exfalso
     rcases lt_or_ge N n with z''|z''
     ·exact hN (e2' N z'')
     ·have:n=N:=by omega
      subst this;exact hN (by rw[e1'];exact mem_map.mpr ⟨z,hz,rfl⟩)
   exact hnone n hnN z hz e1'.symm ez
  dsimp only;refine wpAny_bind (wpAny_setState_of ho hd hf ?_);dsimp only;have hpl:pos t.mask (tupleKeyHash knd k) N≤t.mask:=iG _ _ _;obtain⟨T1,hp1,hm1⟩:=ug T hN hpl;generalize hput:t.put (pos t.mask (tupleKeyHash knd k) N)=tp at T1 hp1 hm1⊢;obtain⟨t1,p⟩:=tp;dsimp only at T1 hp1 hm1⊢;obtain⟨zs1,hzs1⟩:∃zs1,zs1=zs.take p++(pos t.mask (tupleKeyHash knd k) N,b,k)::zs.drop p:=⟨_,rfl⟩;have hT1:zs1.map (·.1)=(zs.map (·.1)).take (below (zs.map (·.1)).toArray (pos t.mask (tupleKeyHash knd k) N))++(pos t.mask (tupleKeyHash knd k) N)::(zs.map (·.1)).drop (below (zs.map (·.1)).toArray (pos t.mask (tupleKeyHash knd k) N)):=by
   rw[hzs1,←hp1];simp[List.map_take,map_drop]
  rw[←hT1]at T1;have hperm:zs1.Perm ((pos t.mask (tupleKeyHash knd k) N,b,k)::zs):=by
   rw[hzs1];refine perm_middle.trans ?_;rw[List.take_append_drop]
  have hlen1:zs1.length=zs.length+1:=by rw[hperm.length_eq,length_cons]
  have hes1:(insertAt es p (tupleKeyHash knd k,Value.ref b)).toList=zs1.map (ent knd):=by
   rw[SetTable.toList_insertAt,hes,hzs1];simp[List.map_take,map_drop,ent]
  have hpath1:gu t.mask (zs1.map (pth knd)):=by
   refine gu.mono hpath (pos t.mask (tupleKeyHash knd k) N,tupleKeyHash knd k) (λz hz=>?_) (λz hz=>?_) ⟨N,rfl,λm hm=>by rw[map_map];exact hN1 m hm⟩
   ·obtain⟨y,hy,rfl⟩:=mem_map.mp hz;rcases mem_cons.mp (hperm.mem_iff.mp hy)with e|e
    ·right;rw[e];rfl
    ·left;exact mem_map.mpr ⟨y,e,rfl⟩
   ·obtain⟨y,hy,rfl⟩:=mem_map.mp hz;exact mem_map.mpr ⟨y,hperm.mem_iff.mpr (mem_cons_of_mem _ hy),rfl⟩
  have hkeys1:∀z∈zs1,IsTupleKey knd s.heap z.2.2 z.2.1:=λz hz=>by
   rcases mem_cons.mp (hperm.mem_iff.mp hz)with e|e
   ·rw[e];exact hb
   ·exact hk z e
  have hkp1:(zs1.map (·.2.2)).Perm (k::zs.map (·.2.2)):=hperm.map _;have hkq1:(zs1.map (·.2)).Perm ((b,k)::zs.map (·.2)):=hperm.map _;have hnd1:(zs1.map (·.2.2)).Nodup:=hkp1.nodup_iff.mpr (nodup_cons.mpr ⟨hknew,hnd⟩);have hsz1:(insertAt es p (tupleKeyHash knd k,Value.ref b)).size=zs.length+1:=by rw[←length_toList,hes1,length_map,hlen1]
  have tail:∀t2:SetTable,Tb t2 (zs1.map (·.1))→t2.mask=t.mask→wpAny (model prog w) A (do
    storeSet a (insertAt es p (tupleKeyHash knd k,Value.ref b)) t2
    if (!false&&t2.tooFull)=true then do
      setRelay a (SetTable.grown (es.size+1))
      pure true
     else pure true) Q E s:=by
   intro t2 T2 hm2;refine wpAny_bind (wpAny_storeSet_of ho hd ?_ (by rw[hsz1];exact mG (by omega)));have ho1:=stored ho hd (insertAt es p (tupleKeyHash knd k,Value.ref b)) t2;have hsb1:=SameBut.update s.heap a (Obj.putSet (insertAt es p (tupleKeyHash knd k,Value.ref b)) t2);have hfill:t2.fill=zs.length+1:=by rw[gl T2,length_map,hlen1]
   by_cases hfull2:t2.tooFull=true
   ·rw[hfull2];simp only[Bool.not_false,Bool.and_self,if_true];refine wpAny_bind ?_;unfold setRelay;have hf2:t2.fits (insertAt es p (tupleKeyHash knd k,Value.ref b)).size=true:=gm T2 (by rw[length_map,hlen1,hsz1]) (by rw[hsz1,hm2];omega);refine wpAny_bind (wpAny_setState_of ho1 rfl hf2 ?_);dsimp only;obtain⟨nn,hnn⟩:∃nn,nn=zs.length+1:=⟨_,rfl⟩;have hw:SetTable.grown (es.size+1)=nn*4:=by rw[hlen,hnn];unfold SetTable.grown;rw[if_neg (by omega)]
    obtain⟨hmk,hsz,hsz256⟩:=gY (w:=nn*4) (by omega);rw[hw];rw[if_neg (by rw[sizeLine_eq];omega)];have hhs:((insertAt es p (tupleKeyHash knd k,Value.ref b)).map (·.1)).size=nn:=by rw[size_map,hsz1,hnn]
    obtain⟨t3,zi,hrel,hm3,hl3,hp3,T3,hperm3,hpath3⟩:=iI (t:=t2) (hashes:=(insertAt es p (tupleKeyHash knd k,Value.ref b)).map (·.1)) (wanted:=nn*4) hmk.cyc (by rw[hhs];omega);rw[hhs]at hperm3;have hidx:∀z∈zi,z.2<nn:=λz hz=>mem_range.mp (hperm3.mem_iff.mp (mem_map.mpr ⟨z,hz,rfl⟩));have hlen5:zs1.length=nn:=by rw[hlen1,hnn]
    obtain⟨zs2,hzs2⟩:∃zs2:List (Ent K),zs2=zi.map λz=>(z.1,(zs1.getD z.2 (0,0,[])).2):=⟨_,rfl⟩;have hgetE:∀i,i<nn→(insertAt es p (tupleKeyHash knd k,Value.ref b))[i]?=some (ent knd (zs1.getD i (0,0,[]))):=λi hi=>by
     rw[←getElem?_toList,hes1,getElem?_map,getD_eq_getElem?_getD,getElem?_eq_getElem (by omega)];rfl
    have hes2:(((zi.map (·.2)).toArray).filterMap (λi=>(insertAt es p (tupleKeyHash knd k,Value.ref b))[i]?)).toList=zs2.map (ent knd):=by
     rw[Array.toList_filterMap,hzs2];show(zi.map (·.2)).filterMap _=_;rw[List.filterMap_map,map_map];have:∀l:List (Nat×Nat),(∀z∈l,z.2<nn)→l.filterMap ((λi=>(insertAt es p (tupleKeyHash knd k,Value.ref b))[i]?)∘λx=>x.2)=l.map (ent knd∘λz=>(z.1,(zs1.getD z.2 (0,0,[])).2)):=by
      intro l
      induction l with
      |nil=>intro _;rfl
      |cons x l ih =>
       intro hl;rw[filterMap_cons_some (b:=ent knd (zs1.getD x.2 (0,0,[]))) (by show(insertAt es p (tupleKeyHash knd k,Value.ref b))[x.2]?=_;exact hgetE _ (hl x (by simp))),map_cons,ih λz hz=>hl z (by simp[hz])];rfl
     exact this zi hidx
    have hsz2:(((zi.map (·.2)).toArray).filterMap (λi=>(insertAt es p (tupleKeyHash knd k,Value.ref b))[i]?)).size=nn:=by
     rw[←length_toList,hes2,length_map,hzs2,length_map];have:=hperm3.length_eq;rw[length_map,length_range]at this;exact this
    refine wpAny_bind ?_;rw[hrel];show wpAny _ _ (@ite _ _ _ _ _) _ _ _;rw[if_neg (by rw[hsz2,hsz1,hnn];simp)];refine wpAny_pure ?_;dsimp only;refine wpAny_storeSet_of ho1 rfl ?_ (by rw[hsz2];exact mG (by omega));have ho2:=stored (s:={s with heap:=s.heap.update a (Obj.putSet (insertAt es p (tupleKeyHash knd k,Value.ref b)) t2)}) ho1 rfl (((zi.map (·.2)).toArray).filterMap (λi=>(insertAt es p (tupleKeyHash knd k,Value.ref b))[i]?)) t3
    have hsb2:=hsb1.trans (SameBut.update (s.heap.update a (Obj.putSet (insertAt es p (tupleKeyHash knd k,Value.ref b)) t2)) a (Obj.putSet (((zi.map (·.2)).toArray).filterMap (λi=>(insertAt es p (tupleKeyHash knd k,Value.ref b))[i]?)) t3));have hkq2:(zs2.map (·.2)).Perm (zs1.map (·.2)):=by
     rw[hzs2,map_map];have e1:zi.map ((λz:Ent K=>z.2)∘λz=>(z.1,(zs1.getD z.2 (0,0,[])).2))=(zi.map (·.2)).map λi=>(zs1.getD i (0,0,[])).2:=by rw[map_map];rfl
     have e2:zs1.map (·.2)=(List.range nn).map λi=>(zs1.getD i (0,0,[])).2:=by
      apply ext_getElem?;intro i;rw[getElem?_map,getElem?_map]
      by_cases hi:i<nn
      ·rw[getElem?_eq_getElem (by omega),getElem?_range hi];have e3:zs1.getD i (0,0,[])=zs1[i]'(by omega):=by rw[getD_eq_getElem?_getD,getElem?_eq_getElem (by omega)];rfl
       show some (zs1[i]'(by omega)).2=some (zs1.getD i (0,0,[])).2;rw[e3]
      ·rw[getElem?_eq_none (by omega),getElem?_eq_none (by rw[length_range];omega)];rfl
     rw[e1,e2];exact hperm3.map _
    have hkp2:(zs2.map (·.2.2)).Perm (zs1.map (·.2.2)):=by
     have:=hkq2.map (·.2);rw[map_map,map_map]at this;exact this
    have hmem2:∀z∈zs2,∃y∈zs1,y.2=z.2:=λz hz=>by
     rw[hzs2]at hz;obtain⟨y,hy,rfl⟩:=mem_map.mp hz;have:=hidx y hy;refine⟨zs1[y.2]'(by omega),getElem_mem _,?_⟩;rw[getD_eq_getElem?_getD,getElem?_eq_getElem (by omega)];rfl
    refine wpAny_pure (h true _ zs2 hsb2 ⟨⟨_,_,_,t3,ho2,hex,rfl,hes2,?_,by rw[hm3];exact hmk,?_,?_⟩,λz hz=>?_,hkp2.nodup_iff.mpr hnd1⟩ (.inr ⟨hknew,hkq2.trans hkq1⟩))
    ·have e1:zs2.map (·.1)=zi.map (·.1):=by rw[hzs2,map_map];rfl
     rw[e1];exact T3
    ·have:zs2.length=nn:=by
      have:=hkp2.length_eq;rw[length_map,length_map,hlen5]at this;exact this
     rw[this,hm3];omega
    ·have e1:zs2.map (pth knd)=zi.map λz=>(z.1,((insertAt es p (tupleKeyHash knd k,Value.ref b)).map (·.1)).getD z.2 0):=by
      rw[hzs2,map_map];apply map_congr_left;intro z hz;show(z.1,tupleKeyHash knd (zs1.getD z.2 (0,0,[])).2.2)=_
      congr 1
      rw[getD_eq_getD_getElem?,Array.getElem?_map,hgetE _ (hidx z hz)];rfl
     rw[e1];exact hpath3
    ·obtain⟨y,hy,e⟩:=hmem2 z hz;rw[←e];exact IsTupleKey.same (hkeys1 y hy) ho hd hsb2
   ·have hnf:t2.tooFull=false:=by simpa using hfull2
    rw[hnf];simp only[Bool.and_false,false_eq_true,if_false];refine wpAny_pure (h true _ zs1 hsb1 ⟨⟨_,_,_,t2,ho1,hex,rfl,hes1,T2,by rw[hm2];exact hmask,?_,by rw[hm2];exact hpath1⟩,λz hz=>IsTupleKey.same (hkeys1 z hz) ho hd hsb1,hnd1⟩ (.inr ⟨hknew,hkq1⟩));unfold SetTable.tooFull at hnf;rw[decide_eq_false_iff_not,hfill]at hnf;rw[hlen1];omega
  cases hpl2:t1.plain with
  |true =>
   simp only[if_true];refine wpAny_bind (sB hb hsc λbb=>?_);cases bb with
   |true =>
    simp only[if_true];exact tail t1 T1 hm1
   |false =>
    simp only[false_eq_true,if_false];exact tail _ (ul T1 false) hm1
  |false =>
   simp only[false_eq_true,if_false];refine wpAny_bind (wpAny_pure ?_);simp only[if_true];exact tail t1 T1 hm1
end
theorem lB{α:Type}[DecidableEq α]:∀l:List α,¬l.Nodup→∃l':List α,l'.length+1=l.length∧∀x∈l,x∈l'
 |[],h=>(h nodup_nil).elim
 |x::r,h=>by
  by_cases hx:x∈r
  ·refine⟨r,rfl,λy hy=>?_⟩;rcases mem_cons.mp hy with e|e
   ·rw[e];exact hx
   ·exact e
  ·have hr:¬r.Nodup:=λz=>h (nodup_cons.mpr ⟨hx,z⟩);obtain⟨r',e,s⟩:=lB r hr;refine⟨x::r',by simp[←e],λy hy=>?_⟩;rcases mem_cons.mp hy with e'|e'
   ·rw[e'];simp
   ·exact mem_cons_of_mem _ (s y e')
theorem oF{α:Type}[DecidableEq α]{z l:List α}(hz:z.Nodup)(h:∀x,x∈z↔x∈l):z.length=l.length↔l.Nodup:=by
 constructor
 ·intro e
  by_cases hl:l.Nodup
  ·exact hl
  ·obtain⟨l',e',s⟩:=lB l hl;have:=Nodup.length_le_of_subset hz (λx hx=>s x ((h x).mp hx));omega
 ·intro hl;exact((List.perm_ext_iff_of_nodup hz hl).mpr h).length_eq
section
variable{prog:Program}{w:World}{K:Type}[DecidableEq K]{knd:KeyKind prog w K}{A:Around}{R:Result→Shared→Prop}{I:Addr}{fp wr:List Addr}{G:Array GenState→Array GenState→Prop}{n:Nat}{P:Nat→Value→Prop}{St:Nat→Shared→Prop}
theorem jR{wr:List Addr}{s s':Shared}{k:List K}{b:Addr}(m:Moved wr G s s')(hb:b∉wr)(h:IsTupleKey knd s.heap k b):IsTupleKey knd s'.heap k b:=by
 obtain⟨o,items,n,ho,r⟩:=h;exact⟨o,items,n,m.heap b o hb ho,r⟩
theorem oG{wr:List Addr}{s s':Shared}{S:Addr}{zs:List (Ent K)}(m:Moved wr G s s')(hS:S∉wr)(hz:∀z∈zs,z.2.1∉wr)(h:TS knd s.heap S zs):TS knd s'.heap S zs:=by
 obtain⟨⟨o,es,ep,t,ho,r⟩,hk,hn⟩:=h;exact⟨⟨o,es,ep,t,m.heap S o hS ho,r⟩,λz hz'=>jR m (hz z hz') (hk z hz'),hn⟩
theorem dU(W:WalksS prog w A.in1 I fp wr G n P St)(S:Addr)(hSf:S∉fp)(hu:A.in1.units<cLine)(hsc:∀k v,knd.is k v=true→v.scannable=true)(key:Nat→List K)(ad:Nat→Addr)(hval:∀i v,P i v→v=.ref (ad i))(had:∀i,i<n→ad i∉S::fp)(hn:n≤60):
  ∀(k i:Nat)(s:Shared)(zs:List (Ent K)),n-i=k→i≤n→St i s→TS knd s.heap S zs→zs.length≤i→(∀z∈zs,∃j,j<n∧z.2.1=ad j)→(∀k',k'∈zs.map (·.2.2)↔∃j,j<i∧key j=k')→(∀j,j<n→IsTupleKey knd s.heap (key j) (ad j)) →
   (∀s' zs',Moved (S::wr) G s s'→TS knd s'.heap S zs'→zs'.length≤n→(∀k',k'∈zs'.map (·.2.2)↔∃j,j<n∧key j=k')→R (.ok (.ret .none)) s') →
   codeAny (model prog w) A (.builtin "set.update.loop" ⟨[.ref S,.ref I],[]⟩) R s:=by
 have hSw:S∉wr:=λh=>hSf (W.sub _ h);have hsub:∀b∈wr,b∈S::wr:=λb hb=>mem_cons_of_mem _ hb;have hadw:∀i,i<n→ad i∉wr:=λi hi h=>had i hi (mem_cons_of_mem _ (W.sub _ h));have hadS:∀i,i<n→ad i≠S:=λi hi h=>had i hi (by rw[h];exact mem_cons_self);intro k
 induction k with
 |zero =>
  intro i s zs hk hi hst hS hl hza hmem hks hR;have hin:i=n:=by omega
  subst hin;refine codeAny_builtin PyProof.Rows.F.entry_set_update_loop ?_;rw[Around.under_plainId PyProof.Rows.F.plain_set_update_loop _];show wpAny _ A.in1 (pyNext (.ref I) >>= _) _ _ s;refine wpAny_bind (W.done s _ _ hst λs' hm=>?_);show wpAny _ A.in1 (ret Value.none) _ _ s';exact wpAny_pure (hR s' zs (hm.mono hsub) (oG hm hSw (λz hz=>by obtain⟨j,hj,e⟩:=hza z hz;rw[e];exact hadw j hj) hS) hl hmem)
 |succ k ih =>
  intro i s zs hk hi hst hS hl hza hmem hks hR;have hlt:i<n:=by omega
  refine codeAny_builtin PyProof.Rows.F.entry_set_update_loop ?_;rw[Around.under_plainId PyProof.Rows.F.plain_set_update_loop _];show wpAny _ A.in1 (pyNext (.ref I) >>= _) _ _ s;refine wpAny_bind (W.item i s _ _ hlt hst λv s' hP hst' hm=>?_);have hv:=hval i v hP;subst hv;have hS':TS knd s'.heap S zs:=oG hm hSw (λz hz=>by obtain⟨j,hj,e⟩:=hza z hz;rw[e];exact hadw j hj) hS;have hks':∀j,j<n→IsTupleKey knd s'.heap (key j) (ad j):=λj hj=>jR hm (hadw j hj) (hks j hj);show wpAny _ A.in1 (holding [Value.ref (ad i)] (setAdd S (.ref (ad i))) >>= _) _ _ s';refine wpAny_bind (wpAny_holding ?_);unfold setAdd;refine wpAny_holding ?_;refine wpAny_bind (wpAny_pyHash_tuple hu (hks' i hlt) ?_);refine sC (s:={s' with toks:=s'.toks+((key i).length+1)}) hu hsc hS' (hks' i hlt) (by omega) λr h' zs' hsb hS2 hor=>?_
  have hsb':SameBut S s'.heap h':=hsb;have hlen':zs'.length≤i+1:=by
   rcases hor with⟨_,e⟩|⟨_,e⟩
   ·rw[e];omega
   ·have:=e.length_eq;rw[length_map,length_cons,length_map]at this;omega
  have hor2:(key i∈zs.map (·.2.2)∧zs'=zs)∨(zs'.map (·.2.2)).Perm (key i::zs.map (·.2.2)):=by
   rcases hor with e|⟨_,e⟩
   ·exact .inl e
   ·have:=e.map (·.2);rw[map_map,map_cons,map_map]at this;exact .inr this
  have hmem':∀k',k'∈zs'.map (·.2.2)↔∃j,j<i+1∧key j=k':=λk'=>by
   rcases hor2 with⟨hin,e⟩|e
   ·rw[e,hmem k'];constructor
    ·rintro⟨j,hj,e'⟩;exact⟨j,by omega,e'⟩
    ·rintro⟨j,hj,e'⟩
     by_cases hji:j=i
     ·rw[←e',hji];exact(hmem _).mp hin
     ·exact⟨j,by omega,e'⟩
   ·rw[e.mem_iff,mem_cons,hmem k'];constructor
    ·rintro(e'|⟨j,hj,e'⟩)
     ·exact⟨i,by omega,e'.symm⟩
     ·exact⟨j,by omega,e'⟩
    ·rintro⟨j,hj,e'⟩
     by_cases hji:j=i
     ·left;rw[←e',hji]
     ·exact .inr ⟨j,by omega,e'⟩
  have hkeep:∀b o,b∉S::wr→s'.heap.get? b=some o→h'.get? b=some o:=λb o hb e=>by
   rw[hsb'.2 b (λz:b=S=>hb (by rw[z];exact mem_cons_self))];exact e
  have hks2:∀j,j<n→IsTupleKey knd h' (key j) (ad j):=λj hj=>by
   obtain⟨o,items,m,ho,r⟩:=hks' j hj;exact⟨o,items,m,(hsb'.2 _ (hadS j hj)).trans ho,r⟩
  have hza2:∀z∈zs',∃j,j<n∧z.2.1=ad j:=by
   rcases hor with⟨_,e⟩|⟨_,e⟩
   ·rw[e];exact hza
   ·intro z hz;have hz2:z.2∈zs'.map (·.2):=mem_map.mpr ⟨z,hz,rfl⟩;rcases mem_cons.mp (e.mem_iff.mp hz2)with e'|e'
    ·exact⟨i,hlt,by rw[e']⟩
    ·obtain⟨y,hy,ey⟩:=mem_map.mp e';obtain⟨j,hj,ej⟩:=hza y hy;exact⟨j,hj,by rw[←ey];exact ej⟩
  refine wpAny_pure ⟨plainId_quiet PyProof.Rows.F.plain_set_update_loop _,ih (i+1) _ zs' (by omega) hlt (W.frame _ s' _ _ hst' (le_add_right _ _) λb hb o e=>?_) hS2 hlen' hza2 hmem' hks2 λs'' zs'' hm'' hS'' hl'' hmm''=>?_⟩
  ·rw[hsb'.2 b (λh:b=S=>hSf (by rw[←h];exact hb))];exact e
  ·refine hR s'' zs'' (Moved.trans W.gtrans ((hm.mono hsub).then_heap (le_add_right _ _) λb o hb e=>?_) hm'') hS'' hl'' hmm'';rw[hsb'.2 b (λh:b=S=>hb (by rw[h];exact mem_cons_self))];exact e
end
section
variable{prog:Program}{w:World}{K:Type}[DecidableEq K]{knd:KeyKind prog w K}{A:Around}{E:Value→Shared→Prop}{s:Shared}
theorem um{h:Heap}{a:Addr}(led:Bool)(ho:h.get? a=some {cls:=.type "set",dict:=none,data:=.set #[] 0 (.fresh 0 0 led)}):TS knd h a [] :=
 ⟨⟨_,#[],0,_,ho,⟨rfl,rfl,rfl⟩,rfl,rfl,⟨rfl,rfl,Pairwise.nil,λ_ h=>by simp at h⟩,Or.inl rfl,(by show 0<21;decide),gu.nil _⟩,λ_ h=>by simp at h,nodup_nil⟩
set_option maxRecDepth 100000 in
set_option maxHeartbeats 3200000 in
theorem jh{l:Addr}{items:Array Value}{key:Nat→List K}{ad:Nat→Addr}{Q:Value→Shared→Prop}(hh:A.handled=none)(hu:A.units+4<cLine)(hsc:∀k v,knd.is k v=true→v.scannable=true)(hl:s.heap.IsList l items)(hi:∀(i:Nat) (v:Value),items[i]?=some v→v=Value.ref (ad i))(hk:∀i,i<items.size→IsTupleKey knd s.heap (key i) (ad i))(hb:items.size≤60)(h:∀(h':Heap) (tk:Nat) (zs:List (Ent K)),TS knd h' s.heap.objs.size zs→zs.length≤items.size→(∀k',k'∈zs.map (·.2.2)↔∃j,j<items.size∧key j=k') →
   (∀b o,b<s.heap.objs.size→s.heap.get? b=some o→h'.get? b=some o)→Q (.ref s.heap.objs.size) {s with heap:=h',toks:=tk}):
  wpAny (model prog w) A (call (.type "set") [.ref l]) Q E s:=by
 obtain⟨c,tl,hmro⟩:=F.called_set.mro;have hmade:=F.called_set.made;have hsub:=F.called_set.sub;refine wpAny_call (codeAny_of_tree ?_);show wpAny _ _ (callAny (.type "set") _) _ _ _;refine wpAny_pure ⟨Code.quiet_builtin _ (by decide +kernel),codeAny_builtin F.entry_type_call ?_⟩;rw[Around.under_plain (weight_type_call_type "set" [.ref l] []) rfl];have h1:=F.called_set.notType;have h2:=F.called_set.canCreate;have hct:=F.typeCall_set_1 (.ref l)
 repeat (any_goals (first|assumption|wp_step))
 refine codeAny_mono (code_set_new_1 (.ref l) (E:=E) (Q₁:=λobj s₁=>∃led:Bool,obj=.ref s.heap.objs.size∧s₁={s with heap:=s.heap.push {cls:=.type "set",dict:=none,data:=.set #[] 0 (.fresh 0 0 led)}}) λled=>⟨led,rfl,rfl⟩) λr s₁ hr=>?_
 cases r with
 |error e=>exact hr
 |ok fl =>
  cases fl with
  |ret obj =>
   obtain⟨led,rfl,rfl⟩:=hr;have hS:(s.heap.push {cls:=.type "set",dict:=none,data:=.set #[] 0 (.fresh 0 0 led)}).get? s.heap.objs.size=some {cls:=.type "set",dict:=none,data:=.set #[] 0 (.fresh 0 0 led)}:=get?_push_size _ rfl;have hT:Shared.TypeIs {s with heap:=s.heap.push {cls:=.type "set",dict:=none,data:=.set #[] 0 (.fresh 0 0 led)}} (.ref s.heap.objs.size) "set":=⟨_,hS,rfl⟩
   have hli:=F.called_set.init.lookup;have hbi:=F.called_set.init.bind (.ref s.heap.objs.size)
   repeat (any_goals (first|assumption|wp_step))
   refine codeAny_mono (codeAny_call_builtin (R:=wants (λr s₂=>r=.none∧∃h' tk zs,s₂={s with heap:=h',toks:=tk}∧TS knd h' s.heap.objs.size zs∧zs.length≤items.size∧(∀k',k'∈zs.map (·.2.2)↔∃j,j<items.size∧key j=k') ∧
     (∀b o,b<s.heap.objs.size→s.heap.get? b=some o→h'.get? b=some o)) E) F.called_set.init.plain F.entry_set_init (check_set_init_1 hT ?_)) λr₂ s₂ hr₂=>?_
   ·obtain⟨ol,hol,hcl,nl,hdl⟩:=hl;obtain⟨ocls,odict,odata,oslots⟩:=ol;simp only at hcl hdl;subst hcl;subst hdl;have hol':(s.heap.push {cls:=.type "set",dict:=none,data:=.set #[] 0 (.fresh 0 0 led)}).get? l=some {cls:=.type "list",dict:=odict,data:=.seq items nl,slots:=oslots}:=get?_push_of_some _ hol;have hsls:=F.sub_list_set;have hslf:=F.sub_list_frozenset;have hne:(Value.type "list"==Value.type "dict")=false:=by decide
    have hl1:(s.heap.push {cls:=.type "set",dict:=none,data:=.set #[] 0 (.fresh 0 0 led)}).IsList l items:=⟨_,hol',rfl,nl,rfl⟩;unfold Builtin.«set.__init__» noKeywords Builtin.Frozenset.updateFrom;generalize hPI:pyIter=PI
    wp_walk
    subst hPI;refine wpAny_pyIter_list hl1 ?_;refine wpAny_bind (wpAny_runValue ?_);have hlS:l<s.heap.objs.size:=lt_size hol;have hh3:A.in1.in1.in1.handled=none:=by simp[hh]
    have hneI:l≠(s.heap.push {cls:=.type "set",dict:=none,data:=.set #[] 0 (.fresh 0 0 led)}).objs.size:=by
     rw[size_push];exact ne_of_lt (lt_succ_of_lt hlS)
    have hSf:s.heap.objs.size∉[(s.heap.push {cls:=.type "set",dict:=none,data:=.set #[] 0 (.fresh 0 0 led)}).objs.size,l]:=by
     rw[size_push];simp only[mem_cons,mem_singleton,not_mem_nil,or_false,not_or];exact⟨ne_of_lt (lt_succ_self _),ne_of_gt hlS⟩
    have hadlt:∀i,i<items.size→ad i<s.heap.objs.size:=λi hi'=>by
     obtain⟨o,_,_,ho,_⟩:=hk i hi';exact lt_size ho
    have hadl:∀i,i<items.size→ad i≠l:=λi hi' e=>by
     obtain⟨o,_,_,ho,hc,_⟩:=hk i hi';rw[e,hol]at ho;cases ho;have h':Value.type "list"=Value.type "tuple":=hc;injection h' with h'
     exact absurd h' (by decide)
    have had:∀i,i<items.size→ad i∉s.heap.objs.size::[(s.heap.push {cls:=.type "set",dict:=none,data:=.set #[] 0 (.fresh 0 0 led)}).objs.size,l]:=λi hi'=>by
     rw[size_push];have q1:ad i<s.heap.objs.size:=hadlt i hi';have q2:=hadl i hi';simp only[mem_cons,mem_singleton,not_mem_nil,or_false,not_or];exact⟨ne_of_lt q1,ne_of_lt (lt_succ_of_lt q1),q2⟩
    refine dU (knd:=knd) ((Walks.list hh3 _ l hneI items).toS) s.heap.objs.size
     hSf (by simp[Around.in1_units];omega) hsc key ad hi had hb (items.size-0) 0 _ [] (by omega) (zero_le _)
     ⟨⟨_,get?_push_size _ rfl,rfl,rfl⟩,(hl1.push _)⟩ ?hS0 (zero_le _) (λ_ h=>by simp at h) (λk'=>⟨λh=>by simp at h,λ⟨j,hj,_⟩=>by omega⟩) ?hks ?hR
    case hS0 =>
     exact um led (get?_push_of_some _ hS)
    case hks =>
     intro j hj;obtain⟨o,its,m,ho,r⟩:=hk j hj;exact⟨o,its,m,get?_push_of_some _ (get?_push_of_some _ ho),r⟩
    case hR =>
     intro s' zs hm hS' hl' hm';obtain⟨h',g',d',tk',os'⟩:=s';have eg:g'=s.gens:=hm.gens;have ed:d'=s.drawn:=hm.drawn;have eo:os'=s.os:=hm.os;subst eg;subst ed;subst eo;show wpAny _ _ _ _ _ _;refine wpAny_pure ?_;show wpAny _ _ (ret Value.none) _ _ _;refine wpAny_pure ⟨rfl,h',tk',zs,rfl,hS',hl',hm',λb o hb e=>?_⟩;have hb1:b≠s.heap.objs.size:=ne_of_lt hb;have hb2:b≠(s.heap.push {cls:=.type "set",dict:=none,data:=.set #[] 0 (.fresh 0 0 led)}).objs.size:=by
      rw[size_push];exact ne_of_lt (lt_succ_of_lt hb)
     exact hm.heap b o (by simp only[mem_cons,mem_singleton,not_mem_nil,or_false,not_or];exact⟨hb1,hb2⟩) (get?_push_of_some _ (get?_push_of_some _ e))
   ·cases r₂ with
    |error e=>exact hr₂
    |ok fl₂ =>
     cases fl₂ with
     |ret r =>
      obtain⟨rfl,h',tk,zs,rfl,hS',hl',hm',hk'⟩:=hr₂
      repeat (any_goals (first|assumption|wp_step))
      exact h _ _ zs hS' hl' hm' hk'
     |_=>exact hr₂.elim
  |_=>exact hr.elim
end
end TB
namespace SRT
open PySem PySem.W PyProof.Rows
def run{α:Type}(f:Nat→Nat→Bool):KasT α→α
 |.ret a=>a
 |.ask i j k=>run f (k (f i j))
theorem eD{α β:Type}(f:Nat→Nat→Bool)(g:α→KasT β):∀t:KasT α,run f (t.bind g)=run f (g (run f t))
 |.ret a=>rfl
 |.ask i j k=>eD f g (k (f i j))
def path{α:Type}(f:Nat→Nat→Bool)(n:Nat):KasT α→Prop
 |.ret _=>True
 |.ask i j k=>i<n∧j<n∧path f n (k (f i j))
theorem dv{α β:Type}{f:Nat→Nat→Bool}{n:Nat}{g:α→KasT β}:∀{t:KasT α},path f n t→path f n (g (run f t))→path f n (t.bind g)
 |.ret a,_,h=>h
 |.ask i j k,h,h'=>⟨h.1,h.2.1,dv (t:=k (f i j)) h.2.2 h'⟩
theorem rj{α:Type}{f:Nat→Nat→Bool}{n:Nat}{cmp:Nat→Nat→(Bool→Shared→Prop)→Shared→Prop}{s:Shared}(hc:∀i j C,i<n→j<n→C (f i j) s→cmp i j C s)(Q:α→Shared→Prop):∀t:KasT α,path f n t→Q (run f t) s→t.kasWp cmp Q s
 |.ret a,_,h=>h
 |.ask i j k,p,h=>hc i j _ p.1 p.2.1 (rj hc Q (k (f i j)) p.2.2 h)
structure Ord(f:Nat→Nat→Bool)(n:Nat):Prop where
 irr:∀i,i<n→f i i=false
 tr:∀i j k,i<n→j<n→k<n→f i j=true→f j k=true→f i k=true
 tot:∀i j,i<n→j<n→i≠j→f i j=true∨f j i=true
section
variable{f:Nat→Nat→Bool}{n:Nat}
structure Row(n:Nat)(p:Array Nat):Prop where
 perm:p.toList.Perm (List.range n)
theorem Row.size{p:Array Nat}(r:Row n p):p.size=n:=by have:=r.perm.length_eq;simpa using this
theorem Row.lt{p:Array Nat}(r:Row n p){i:Nat}(hi:i<n):p.getD i 0<n:=by
 have hs:=r.size;have:p.getD i 0∈p.toList:=by
  rw[getD_eq_getD_getElem?,Array.getElem?_eq_getElem (by omega)];exact Array.getElem_mem_toList (by omega)
 exact mem_range.mp (r.perm.mem_iff.mp this)
theorem Row.ne{p:Array Nat}(r:Row n p){i j:Nat}(hi:i<n)(hj:j<n)(hij:i≠j):p.getD i 0≠p.getD j 0:=by
 have hs:=r.size;have nd:p.toList.Nodup:=r.perm.nodup_iff.mpr nodup_range;rw[getD_eq_getD_getElem?,getD_eq_getD_getElem?,Array.getElem?_eq_getElem (by omega),Array.getElem?_eq_getElem (by omega)];intro e;have e':p.toList[i]'(by simpa using (by omega:i<p.size))=p.toList[j]'(by simpa using (by omega:j<p.size)):=by simpa using e
 exact hij ((getElem_inj nd).mp e')
theorem Row.rev{p:Array Nat}(r:Row n p)(i j:Nat):Row n (kas_rev p i j):=⟨(Array.perm_iff_toList_perm.mp (mirror_perm p i j _)).trans r.perm⟩
theorem Row.bub{p:Array Nat}(r:Row n p)(i j:Nat):Row n (bubble p i j):=⟨(Array.perm_iff_toList_perm.mp (bubble_perm p i j)).trans r.perm⟩
def Up(f:Nat→Nat→Bool)(p:Array Nat)(m:Nat):Prop:=∀i j,i<j→j<m→f (p.getD i 0) (p.getD j 0)=true
theorem wE(O:Ord f n){p:Array Nat}(r:Row n p){m:Nat}(hm:m<n)(h1:1≤m)(u:Up f p m)(h:f (p.getD m 0) (p.getD (m-1) 0)=false):Up f p (m+1):=by
 have hl:f (p.getD (m-1) 0) (p.getD m 0)=true:=by
  rcases O.tot _ _ (r.lt (i:=m) hm) (r.lt (i:=m-1) (by omega)) (r.ne hm (by omega) (by omega))with z|z
  ·rw[h]at z;cases z
  ·exact z
 intro i j hij hj
 by_cases e:j=m
 ·subst e
  by_cases e2:i=j-1
  ·rw[e2];exact hl
  ·exact O.tr _ _ _ (r.lt (by omega)) (r.lt (by omega)) (r.lt hm) (u i (j-1) (by omega) (by omega)) hl
 ·exact u i j hij (by omega)
theorem mH(O:Ord f n){p:Array Nat}(r:Row n p):∀(fuel m:Nat),1≤m→m+fuel≤n→Up f p m →
  m≤run f (kas_asc p fuel m)∧run f (kas_asc p fuel m)≤m+fuel∧Up f p (run f (kas_asc p fuel m))∧(run f (kas_asc p fuel m)<m+fuel→f (p.getD (run f (kas_asc p fuel m)) 0) (p.getD (run f (kas_asc p fuel m)-1) 0)=true)
 |0,m,_,_,u=>⟨le_refl _,le_refl _,u,λh=>absurd h (by simp[kas_asc,run])⟩
 |fuel+1,m,h1,hm,u=>by
  cases e:f (p.getD m 0) (p.getD (m-1) 0)with
  |true =>
   have er:run f (kas_asc p (fuel+1) m)=m:=by
    show run f (if f (p.getD m 0) (p.getD (m-1) 0)=true then KasT.ret m else kas_asc p fuel (m+1))=m
    rw[e,if_pos rfl];rfl
   rw[er];exact⟨le_refl _,by omega,u,λ_=>e⟩
  |false =>
   have er:run f (kas_asc p (fuel+1) m)=run f (kas_asc p fuel (m+1)):=by
    show run f (if f (p.getD m 0) (p.getD (m-1) 0)=true then KasT.ret m else kas_asc p fuel (m+1))=_
    rw[e,if_neg (by simp)]
   rw[er];obtain⟨a1,a2,a3,a4⟩:=mH O r fuel (m+1) (by omega) (by omega) (wE O r (by omega) h1 u e);exact⟨by omega,by omega,a3,λh=>a4 (by omega)⟩
def yH(f:Nat→Nat→Bool)(p:Array Nat)(m:Nat):Prop:=∀i j,i<j→j<m→f (p.getD j 0) (p.getD i 0)=true
theorem mQ(O:Ord f n){p:Array Nat}(r:Row n p):∀(fuel m:Nat),1≤m→m+fuel≤n→yH f p m →
  ∃m',run f (kas_desc fuel p m 0)=(p,m',0)∧m≤m'∧m'≤m+fuel∧yH f p m'
 |0,m,_,_,u=>⟨m,rfl,le_refl _,le_refl _,u⟩
 |fuel+1,m,h1,hm,u=>by
  cases e:f (p.getD m 0) (p.getD (m-1) 0)with
  |true =>
   have er:run f (kas_desc (fuel+1) p m 0)=run f (kas_desc fuel p (m+1) 0):=by
    show run f (if f (p.getD m 0) (p.getD (m-1) 0)=true then (if 0>0 then _ else kas_desc fuel p (m+1) 0)else _)=_
    rw[e,if_pos rfl,if_neg (by omega)]
   rw[er];obtain⟨m',a1,a2,a3,a4⟩:=mQ O r fuel (m+1) (by omega) (by omega) (by
    intro i j hij hj
    by_cases ej:j=m
    ·subst ej
     by_cases e2:i=j-1
     ·rw[e2];exact e
     ·exact O.tr _ _ _ (r.lt (by omega)) (r.lt (i:=j-1) (by omega)) (r.lt (by omega)) e (u i (j-1) (by omega) (by omega))
    ·exact u i j hij (by omega))
   exact⟨m',a1,by omega,by omega,a4⟩
  |false =>
   have e2:f (p.getD (m-1) 0) (p.getD m 0)=true:=by
    rcases O.tot _ _ (r.lt (i:=m) (by omega)) (r.lt (i:=m-1) (by omega)) (r.ne (by omega) (by omega) (by omega))with z|z
    ·rw[e]at z;cases z
    ·exact z
   have er:run f (kas_desc (fuel+1) p m 0)=(p,m,0):=by
    show run f (if f (p.getD m 0) (p.getD (m-1) 0)=true then _ else KasT.ask (p.getD (m-1) 0) (p.getD m 0) λd=>if d=true then .ret (p,m,0)else kas_desc fuel p (m+1) (0+1))=_
    rw[e,if_neg (by simp)];show run f (if f (p.getD (m-1) 0) (p.getD m 0)=true then KasT.ret (p,m,0)else kas_desc fuel p (m+1) (0+1))=_
    rw[e2,if_pos rfl];rfl
   exact⟨m,er,le_refl _,by omega,u⟩
theorem rk{p:Array Nat}{m:Nat}(hm:m≤p.size)(k:Nat)(hk:k<m):(kas_rev p 0 m).getD k 0=p.getD (m-1-k) 0:=by
 unfold kas_rev;rw[getD_eq_getD_getElem?,getElem?_mirror_all hm k,if_pos ⟨by omega,hk⟩,getD_eq_getD_getElem?]
 congr 2
 omega
theorem yI{p:Array Nat}{m:Nat}(hm:m≤p.size)(d:yH f p m):Up f (kas_rev p 0 m) m:=by
 intro i j hij hj;rw[rk hm i (by omega),rk hm j hj];exact d _ _ (by omega) (by omega)
theorem oH(O:Ord f n){p:Array Nat}(r:Row n p)(h2:1≤n):∃m p',run f (kas_count n p)=(m,p')∧1≤m∧m≤n∧Row n p'∧Up f p' m:=by
 obtain⟨a1,a2,a3,a4⟩:=mH O r (n-1) 1 (by omega) (by omega) (by intro i j hij hj;omega);have er:run f (kas_count n p)=run f (if (run f (kas_asc p (n-1) 1)==n)=true then KasT.ret (run f (kas_asc p (n-1) 1),p)else if run f (kas_asc p (n-1) 1)>1 then .ask (p.getD 0 0) (p.getD (run f (kas_asc p (n-1) 1)-1) 0) λc=>if c=true then .ret (run f (kas_asc p (n-1) 1),p)else kas_descPart (run f (kas_asc p (n-1) 1)) n (kas_rev p 0 (run f (kas_asc p (n-1) 1)))
  else kas_descPart (run f (kas_asc p (n-1) 1)) n p):=by
  unfold kas_count;rw[eD]
 rw[er];generalize run f (kas_asc p (n-1) 1)=m at a1 a2 a3 a4⊢
 by_cases e:m=n
 ·rw[if_pos (by simp[e])];exact⟨m,p,rfl,a1,by omega,r,a3⟩
 ·rw[if_neg (by simpa using e)]
  by_cases e1:m>1
  ·rw[if_pos e1];refine⟨m,p,?_,a1,by omega,r,a3⟩;show run f (if f (p.getD 0 0) (p.getD (m-1) 0)=true then KasT.ret (m,p)else _)=_
   rw[a3 0 (m-1) (by omega) (by omega),if_pos rfl];rfl
  ·rw[if_neg e1];have em:m=1:=by omega
   subst em;have hd:=a4 (by omega);unfold kas_descPart;obtain⟨m',b1,b2,b3,b4⟩:=mQ O r (n-(1+1)) (1+1) (by omega) (by omega) (by
    intro i j hij hj;have:i=0∧j=1:=by omega
    rw[this.1,this.2];exact hd)
   rw[eD,b1];dsimp only;rw[if_neg (by omega)];unfold kas_tail3;have hs:=r.size;have ur:=yI (f:=f) (by omega:m'≤p.size) b4;obtain⟨c1,c2,c3,c4⟩:=mH O (r.rev 0 m') (n-m') m' (by omega) (by omega) ur;rw[eD];exact⟨_,_,rfl,by omega,by omega,r.rev 0 m',c3⟩
theorem hV(O:Ord f n){p:Array Nat}(r:Row n p){k:Nat}(hk:k<n)(u:Up f p k):∀(fuel l r':Nat),r'-l≤fuel→l≤r'→r'≤k →
  (∀i,i<l→f (p.getD i 0) (p.getD k 0)=true)→(∀i,r'≤i→i<k→f (p.getD k 0) (p.getD i 0)=true) →
  run f (kas_place p k fuel l r')≤k∧(∀i,i<run f (kas_place p k fuel l r')→f (p.getD i 0) (p.getD k 0)=true)∧(∀i,run f (kas_place p k fuel l r')≤i→i<k→f (p.getD k 0) (p.getD i 0)=true)
 |0,l,r',h1,h2,h3,h4,h5=>by
  have:l=r':=by omega
  subst this;exact⟨h3,h4,h5⟩
 |fuel+1,l,r',h1,h2,h3,h4,h5=>by
  unfold kas_place
  by_cases e:l≥r'
  ·rw[if_pos e];have:l=r':=by omega
   subst this;exact⟨h3,h4,h5⟩
  ·rw[if_neg e];have hmid:(l+r') / 2<k:=by omega
   cases c:f (p.getD k 0) (p.getD ((l+r') / 2) 0)with
   |true =>
    have er:run f (KasT.ask (p.getD k 0) (p.getD ((l+r') / 2) 0) λc=>if c=true then kas_place p k fuel l ((l+r') / 2)else kas_place p k fuel ((l+r') / 2+1) r')=run f (kas_place p k fuel l ((l+r') / 2)):=by
     show run f (if f (p.getD k 0) (p.getD ((l+r') / 2) 0)=true then _ else _)=_
     rw[c,if_pos rfl]
    rw[er];refine hV O r hk u fuel l _ (by omega) (by omega) (by omega) h4 (λi hi hik=>?_)
    by_cases ei:i=(l+r') / 2
    ·rw[ei];exact c
    ·exact O.tr _ _ _ (r.lt hk) (r.lt (i:=(l+r') / 2) (by omega)) (r.lt (by omega)) c (u _ _ (by omega) hik)
   |false =>
    have er:run f (KasT.ask (p.getD k 0) (p.getD ((l+r') / 2) 0) λc=>if c=true then kas_place p k fuel l ((l+r') / 2)else kas_place p k fuel ((l+r') / 2+1) r')=run f (kas_place p k fuel ((l+r') / 2+1) r'):=by
     show run f (if f (p.getD k 0) (p.getD ((l+r') / 2) 0)=true then _ else _)=_
     rw[c,if_neg (by simp)]
    rw[er];have c':f (p.getD ((l+r') / 2) 0) (p.getD k 0)=true:=by
     rcases O.tot _ _ (r.lt (i:=k) hk) (r.lt (i:=(l+r') / 2) (by omega)) (r.ne hk (by omega) (by omega))with z|z
     ·rw[c]at z;cases z
     ·exact z
    refine hV O r hk u fuel _ r' (by omega) (by omega) h3 (λi hi=>?_) h5
    by_cases ei:i=(l+r') / 2
    ·rw[ei];exact c'
    ·exact O.tr _ _ _ (r.lt (by omega)) (r.lt (i:=(l+r') / 2) (by omega)) (r.lt hk) (u i _ (by omega) (by omega)) c'
theorem jo{p:Array Nat}{k l:Nat}(hk:k<p.size)(hl:l≤k)(i:Nat):(bubble p k (k-l)).getD i 0=if i=l then p.getD k 0 else if l<i∧i≤k then p.getD (i-1) 0 else p.getD i 0:=by
 simp only[getD_eq_getD_getElem?];rw[getElem?_bubble hk (k-l) (by omega) i];have e:k-(k-l)=l:=by omega
 rw[e]
 by_cases h1:i=l
 ·rw[if_pos h1,if_pos h1]
 ·rw[if_neg h1,if_neg h1]
  by_cases h2:l<i∧i≤k
  ·rw[if_pos h2,if_pos h2]
  ·rw[if_neg h2,if_neg h2]
theorem uo(O:Ord f n):∀(fuel:Nat)(p:Array Nat)(k:Nat),Row n p→k+fuel=n→Up f p k→Row n (run f (kas_bin fuel p k))∧Up f (run f (kas_bin fuel p k)) n
 |0,p,k,r,hk,u=>by
  have:k=n:=by omega
  subst this;exact⟨r,u⟩
 |fuel+1,p,k,r,hk,u=>by
  have hkn:k<n:=by omega
  obtain⟨a1,a2,a3⟩:=hV O r hkn u k 0 k (by omega) (by omega) (le_refl _) (λi hi=>by omega) (λi h1 h2=>by omega);have er:run f (kas_bin (fuel+1) p k)=run f (kas_bin fuel (bubble p k (k-run f (kas_place p k k 0 k))) (k+1)):=by
   show run f ((kas_place p k k 0 k).bind λl=>kas_bin fuel (bubble p k (k-l)) (k+1))=_;rw[eD]
  rw[er];generalize run f (kas_place p k k 0 k)=l at a1 a2 a3⊢;have hs:=r.size;refine uo O fuel _ (k+1) (r.bub _ _) (by omega) ?_;intro i j hij hj;rw[jo (by omega) a1 i,jo (by omega) a1 j]
  by_cases ei:i=l
  ·rw[if_pos ei,if_neg (by omega),if_pos ⟨by omega,by omega⟩];exact a3 (j-1) (by omega) (by omega)
  ·rw[if_neg ei]
   by_cases ej:j=l
   ·rw[if_pos ej,if_neg (by omega)];exact a2 i (by omega)
   ·rw[if_neg ej]
    by_cases hi2:l<i∧i≤k
    ·rw[if_pos hi2,if_pos ⟨by omega,by omega⟩];exact u _ _ (by omega) (by omega)
    ·rw[if_neg hi2]
     by_cases hj2:l<j∧j≤k
     ·rw[if_pos hj2]
      by_cases e3:i=j-1
      ·omega
      ·exact u i (j-1) (by omega) (by omega)
     ·rw[if_neg hj2];exact u i j hij (by omega)
theorem jS{p:Array Nat}(r:Row n p):∀(fuel m:Nat),1≤m→m+fuel≤n→path f n (kas_asc p fuel m)
 |0,m,_,_=>trivial
 |fuel+1,m,h1,hm=>by
  refine⟨r.lt (by omega),r.lt (by omega),?_⟩;show path f n (if f (p.getD m 0) (p.getD (m-1) 0)=true then KasT.ret m else kas_asc p fuel (m+1))
  split
  ·exact trivial
  ·exact jS r fuel (m+1) (by omega) (by omega)
theorem lC(O:Ord f n){p:Array Nat}(r:Row n p):∀(fuel m:Nat),1≤m→m+fuel≤n→path f n (kas_desc fuel p m 0)
 |0,m,_,_=>trivial
 |fuel+1,m,h1,hm=>by
  refine⟨r.lt (by omega),r.lt (by omega),?_⟩;show path f n (if f (p.getD m 0) (p.getD (m-1) 0)=true then (if 0>0 then _ else kas_desc fuel p (m+1) 0)else KasT.ask (p.getD (m-1) 0) (p.getD m 0) λd=>if d=true then .ret (p,m,0)else kas_desc fuel p (m+1) (0+1))
  cases e:f (p.getD m 0) (p.getD (m-1) 0)with
  |true =>
   rw[if_pos rfl,if_neg (by omega)];exact lC O r fuel (m+1) (by omega) (by omega)
  |false =>
   rw[if_neg (by simp)];have e2:f (p.getD (m-1) 0) (p.getD m 0)=true:=by
    rcases O.tot _ _ (r.lt (i:=m) (by omega)) (r.lt (i:=m-1) (by omega)) (r.ne (by omega) (by omega) (by omega))with z|z
    ·rw[e]at z;cases z
    ·exact z
   refine⟨r.lt (by omega),r.lt (by omega),?_⟩;dsimp only;rw[e2,if_pos rfl];exact trivial
theorem pT(O:Ord f n){p:Array Nat}(r:Row n p)(h2:1≤n):path f n (kas_count n p):=by
 obtain⟨a1,a2,a3,a4⟩:=mH O r (n-1) 1 (by omega) (by omega) (by intro i j hij hj;omega);unfold kas_count;refine dv (jS r _ _ (by omega) (by omega)) ?_;generalize run f (kas_asc p (n-1) 1)=m at a1 a2 a3 a4⊢
 by_cases e:m=n
 ·rw[if_pos (by simp[e])];exact trivial
 ·rw[if_neg (by simpa using e)]
  by_cases e1:m>1
  ·rw[if_pos e1];refine⟨r.lt (by omega),r.lt (by omega),?_⟩;dsimp only;rw[a3 0 (m-1) (by omega) (by omega),if_pos rfl];exact trivial
  ·rw[if_neg e1];have em:m=1:=by omega
   subst em;have hd:=a4 (by omega);unfold kas_descPart;refine dv (lC O r _ _ (by omega) (by omega)) ?_;obtain⟨m',b1,b2,b3,b4⟩:=mQ O r (n-(1+1)) (1+1) (by omega) (by omega) (by
    intro i j hij hj;have:i=0∧j=1:=by omega
    rw[this.1,this.2];exact hd)
   rw[b1];dsimp only;rw[if_neg (by omega)];unfold kas_tail3;exact dv (jS (r.rev 0 m') _ _ (by omega) (by omega)) trivial
theorem gK{p:Array Nat}(r:Row n p){k:Nat}(hk:k<n):∀(fuel l r':Nat),r'≤k→path f n (kas_place p k fuel l r')
 |0,l,r',_=>trivial
 |fuel+1,l,r',h=>by
  unfold kas_place
  by_cases e:l≥r'
  ·rw[if_pos e];exact trivial
  ·rw[if_neg e];refine⟨r.lt hk,r.lt (by omega),?_⟩;dsimp only
   split
   ·exact gK r hk fuel _ _ (by omega)
   ·exact gK r hk fuel _ _ h
theorem oI(O:Ord f n):∀(fuel:Nat)(p:Array Nat)(k:Nat),Row n p→k+fuel=n→Up f p k→path f n (kas_bin fuel p k)
 |0,p,k,r,hk,u=>trivial
 |fuel+1,p,k,r,hk,u=>by
  have hkn:k<n:=by omega
  show path f n ((kas_place p k k 0 k).bind λl=>kas_bin fuel (bubble p k (k-l)) (k+1));refine dv (gK r hkn _ _ _ (le_refl _)) ?_;obtain⟨a1,a2,a3⟩:=hV O r hkn u k 0 k (by omega) (by omega) (le_refl _) (λi hi=>by omega) (λi h1 h2=>by omega);generalize run f (kas_place p k k 0 k)=l at a1 a2 a3⊢;have hs:=r.size;refine oI O fuel _ (k+1) (r.bub _ _) (by omega) ?_;intro i j hij hj;rw[jo (by omega) a1 i,jo (by omega) a1 j]
  by_cases ei:i=l
  ·rw[if_pos ei,if_neg (by omega),if_pos ⟨by omega,by omega⟩];exact a3 (j-1) (by omega) (by omega)
  ·rw[if_neg ei]
   by_cases ej:j=l
   ·rw[if_pos ej,if_neg (by omega)];exact a2 i (by omega)
   ·rw[if_neg ej]
    by_cases hi2:l<i∧i≤k
    ·rw[if_pos hi2,if_pos ⟨by omega,by omega⟩];exact u _ _ (by omega) (by omega)
    ·rw[if_neg hi2]
     by_cases hj2:l<j∧j≤k
     ·rw[if_pos hj2]
      by_cases e3:i=j-1
      ·omega
      ·exact u i (j-1) (by omega) (by omega)
     ·rw[if_neg hj2];exact u i j hij (by omega)
theorem sD(O:Ord f n)(h:1≤n):path f n (kas_sort n):=by
 have r0:Row n (toArray (List.range n)):=⟨by simp⟩;obtain⟨m,p',e,h1,h2,r,u⟩:=oH O r0 h;unfold kas_sort;refine dv (pT O r0 h) ?_;rw[e];dsimp only
 by_cases hm:m<n
 ·rw[if_pos hm];have:max m 1=m:=by omega
  rw[this];exact oI O (n-m) p' m r (by omega) u
 ·rw[if_neg hm];exact trivial
theorem wF(O:Ord f n)(h:1≤n):Row n (run f (kas_sort n))∧Up f (run f (kas_sort n)) n:=by
 have r0:Row n (toArray (List.range n)):=⟨by simp⟩;obtain⟨m,p',e,h1,h2,r,u⟩:=oH O r0 h;unfold kas_sort;rw[eD,e];dsimp only
 by_cases hm:m<n
 ·rw[if_pos hm];have:max m 1=m:=by omega
  rw[this];exact uo O (n-m) p' m r (by omega) u
 ·rw[if_neg hm];have:m=n:=by omega
  subst this;exact⟨r,u⟩
end
section
variable{prog:Program}{w:World}{A:Around}{E:Value→Shared→Prop}{s:Shared}
theorem wG{vs:List Value}(h:vs.length<2):((vs.toArray.zip vs.toArray).map (·.2)).toList=(toArray ((toArray (List.range vs.length)).toList.map λi=>vs.getD i Value.none)).toList:=by
 cases vs with
 |nil=>simp
 |cons v r =>
  cases r with
  |nil=>simp
  |cons u r=>exact absurd h (by simp)
theorem hX{f:Nat→Nat→Bool}{a:Addr}{vs:List Value}{n:Nat}{κ:SortKind}{P:PySem.Fin→Shared→Prop}(O:Ord f vs.length)(ho:s.heap.get? a=some (seqObj "list" vs.toArray n))(h64:vs.length<64)(hk:∀s':Shared,(∀b o,b≠a→s.heap.get? b=some o→s'.heap.get? b=some o)→∀Q:SortKind→Shared→Prop,2≤vs.length→Q κ s'→wpAny (model prog w) A (keyKind' vs.toArray) Q (λ_ _=>False) s')(hlt:∀s':Shared,(∀b o,b≠a→s.heap.get? b=some o→s'.heap.get? b=some o)→∀(i j:Nat) (C:Bool→Shared→Prop),i<vs.length→j<vs.length→C (f i j) s'→wpAny (model prog w) A (keyLt' κ (vs.getD i Value.none) (vs.getD j Value.none)) C (λ_ _=>False) s')(h:∀p:Array Nat,Row vs.length p→Up f p vs.length→P (.done (.ret .none)) {s with heap:=sortedHeap s.heap a vs (toArray (p.toList.map λi=>vs.getD i Value.none))}):
  wpAny (model prog w) A (Builtin.«list.sort» ⟨[.ref a],[]⟩) P E s:=by
 have ha:a<s.heap.objs.size:=lt_size ho;have s1:=SameBut.update s.heap a (Obj.mapSeq λ_=>(#[]:Array Value));obtain⟨e1,ho1⟩:∃e1,(s.heap.update a (Obj.mapSeq λ_=>(#[]:Array Value))).get? a=some (seqObj "list" #[] e1):=⟨_,get?_update_seq ho λ_=>#[]⟩;rw[list_sort_plain];refine wpAny_bind (listItems_at ho rfl ?_);refine wpAny_bind (listUpdate_at ho rfl ?_ (by rw[size_toArray,sizeLine_eq];omega) (zero_le _));refine wpAny_bind (seqEpoch_at ho1 rfl ?_);refine wpAny_bind (wpAny_newTuple ?_ (by show vs.length≤_;rw[sizeLine_eq];omega));refine wpAny_bind (wpAny_newList ?_ (zero_le _));refine wpAny_holding ?_;have ho6:(((s.heap.update a (Obj.mapSeq λ_=>(#[]:Array Value))).push (seqObj "tuple" vs.toArray 0)).push (seqObj "list" #[] 0)).get? a=some (seqObj "list" #[] e1):=get?_push_of_some _ (get?_push_of_some _ ho1);have keep:∀b o,b≠a→s.heap.get? b=some o→(((s.heap.update a (Obj.mapSeq λ_=>(#[]:Array Value))).push (seqObj "tuple" vs.toArray 0)).push (seqObj "list" #[] 0)).get? b=some o:=λb o hb e =>
  get?_push_of_some _ (get?_push_of_some _ ((s1.2 b hb).trans e))
 show wpAny (model prog w) A _ P E {s with heap:=((s.heap.update a (Obj.mapSeq λ_=>(#[]:Array Value))).push (seqObj "tuple" vs.toArray 0)).push (seqObj "list" #[] 0)}
 dsimp only
 by_cases hn2:vs.toArray.size<2
 ·rw[if_pos hn2,if_pos hn2];refine wpAny_bind (wpAny_pure ?_);rw[StateT.run_pure];refine wpAny_bind (wpAny_pure ?_);dsimp only;have hn2':vs.length<2:=by simpa using hn2
  have hr:Row vs.length (toArray (List.range vs.length)):=⟨by simp⟩;have hu:Up f (toArray (List.range vs.length)) vs.length:=λi j hij hj=>by omega
  have e2:(arrOf (SortSt.mk' general' (vs.toArray.zip vs.toArray) #[] 7 none)).map (·.2)=toArray ((toArray (List.range vs.length)).toList.map λi=>vs.getD i Value.none):=by
   show(vs.toArray.zip vs.toArray).map (·.2)=_;apply Array.toList_inj.mp;exact wG hn2'
  refine wpAny_bind (seqEpoch_at ho6 rfl ?_);rw[e2];refine wpAny_bind (listUpdate_at ho6 rfl ?_ (zero_le _) (by rw[size_toArray,length_map,length_toList,hr.size,sizeLine_eq];omega));show wpAny _ _ (if (e1 != e1)=true then _ else _) _ _ _
  simp only[bne_self_eq_false,false_eq_true,if_false];exact wpAny_pure (h _ hr hu)
 ·have hn2':2≤vs.length:=by rw[size_toArray]at hn2;omega
  rw[if_neg hn2,if_neg hn2];refine wpAny_bind (wpAny_mono (hk {s with heap:=((s.heap.update a (Obj.mapSeq λ_=>(#[]:Array Value))).push (seqObj "tuple" vs.toArray 0)).push (seqObj "list" #[] 0)} keep (λk' s'=>k'=κ∧s'={s with heap:=((s.heap.update a (Obj.mapSeq λ_=>(#[]:Array Value))).push (seqObj "tuple" vs.toArray 0)).push (seqObj "list" #[] 0)}) hn2' ⟨rfl,rfl⟩) (λκ' s0 hes=>?_) λ_ _ x=>x.elim)
  obtain⟨ek,es⟩:=hes;subst ek es;obtain⟨hrow,hup⟩:=wF O (by omega:1≤vs.length);refine wpAny_bind (wpAny_mono (kat_run (Q:=λst' s'=>∃p:Array Nat,p.size=vs.length∧arrOf st'=p.map (kas_item (vs.toArray.zip vs.toArray))∧failedOf st'=none∧p=run f (kas_sort vs.length)∧s'={s with heap:=((s.heap.update a (Obj.mapSeq λ_=>(#[]:Array Value))).push (seqObj "tuple" vs.toArray 0)).push (seqObj "list" #[] 0)})
   rfl hn2' h64 (λp' st' s' a1 a2 a3 a4=>⟨p',a1,a2,a3,a4⟩) (rj (n:=vs.length) (λi j C hi hj hC=>hlt _ keep i j C hi hj hC) (λp s'=>p=run f (kas_sort vs.length)∧s'={s with heap:=((s.heap.update a (Obj.mapSeq λ_=>(#[]:Array Value))).push (seqObj "tuple" vs.toArray 0)).push (seqObj "list" #[] 0)}) _ (sD O (by omega)) ⟨rfl,rfl⟩)) ?_ λ_ _ e=>e)
  rintro⟨⟨⟩,st'⟩ s' ⟨p,hp,har,hf,ep,es⟩;subst es;dsimp only;have hout:=kat_snds (ks:=vs) rfl har;refine wpAny_bind (seqEpoch_at ho6 rfl ?_);rw[hout];refine wpAny_bind (listUpdate_at ho6 rfl ?_ (zero_le _) (by rw[size_toArray,length_map,length_toList,hp,sizeLine_eq];omega));rw[hf];simp only[bne_self_eq_false,false_eq_true,if_false];rw[ep];exact wpAny_pure (h _ hrow hup)
theorem oJ{l:Addr}{vs:List Value}{Q:List Value→Shared→Prop}(hl:IsTup s.heap l vs.toArray)(h:Q vs {s with heap:=(s.heap.push (seqObj "list" #[] 0)).update s.heap.objs.size (Obj.mapSeq (· ++ vs.toArray))})(hsz:vs.length≤sizeLine):
  wpAny (model prog w) A (collect (.ref l)) Q E s:=by
 obtain⟨o,ho,hc,n,hd⟩:=id hl;unfold collect;refine wpAny_bind (wpAny_runValue (codeAny_builtin entry_proto_collect' ?_));show wpAny _ _ (do again (.builtin "list.__iadd__" ⟨[←newList [],.ref l],[]⟩)) _ _ s
 refine wpAny_bind (wpAny_newList (wpAny_pure ⟨Code.quiet_builtin _ (by decide +kernel),codeAny_builtin entry_list_iadd' ?_⟩));show wpAny _ _ (Builtin.List.listExtendWith (.ref s.heap.objs.size) (.ref l) (.ref s.heap.objs.size)) _ _ {s with heap:=s.heap.push (seqObj "list" #[] 0)}
 unfold Builtin.List.listExtendWith;have ho':(s.heap.push (seqObj "list" #[] 0)).get? l=some o:=get?_push_of_some _ ho;refine wpAny_bind (wpAny_typeOf (T:="tuple") ⟨o,ho',hc⟩ ?_);have ht:(Value.type "tuple"==Value.type "tuple")=true:=by rfl
 rw[if_pos (by rw[ht];simp)];refine wpAny_bind (listItems_at ho' hd ?_);refine wpAny_bind (listItems_at (xs:=#[]) (n:=0) (get?_push_size _ rfl) rfl ?_);rw[if_neg (by simp)];refine wpAny_bind (listUpdate_at (xs:=#[]) (n:=0) (get?_push_size _ rfl) rfl ?_ (zero_le _) (by show(#[]++vs.toArray).size≤sizeLine+1;simp only[Array.size_append,size_toArray,length_nil];omega));refine wpAny_pure ?_;show wpAny (model prog w) A (do
   let o ← load s.heap.objs.size
   match o.data with
   |.seq xs _=>pure xs.toList
   | _=>unsupported "internal:collect") Q E {s with heap:=(s.heap.push (seqObj "list" #[] 0)).update s.heap.objs.size (Obj.mapSeq (· ++ vs.toArray))}
 refine wpAny_bind (wpAny_load (get?_update_seq (get?_push_size _ rfl) _) ?_);show wpAny _ _ (pure ((#[]:Array Value)++vs.toArray).toList) Q E _;rw[show((#[]:Array Value)++vs.toArray).toList=vs by simp];exact wpAny_pure h
theorem oK{l:Addr}{vs:List Value}{Q:List Value→Shared→Prop}(hl:s.heap.IsList l vs.toArray∨IsTup s.heap l vs.toArray)(h:Q vs {s with heap:=(s.heap.push (seqObj "list" #[] 0)).update s.heap.objs.size (Obj.mapSeq (· ++ vs.toArray))})(hsz:vs.length≤sizeLine):
  wpAny (model prog w) A (collect (.ref l)) Q E s:=by
 rcases hl with hl|hl
 ·exact collect_list hl h hsz
 ·exact oJ hl h hsz
theorem jT{f:Nat→Nat→Bool}{l:Addr}{vs:List Value}{κ:SortKind}{Q:Value→Shared→Prop}(O:Ord f vs.length)(hl:s.heap.IsList l vs.toArray∨IsTup s.heap l vs.toArray)(h64:vs.length<64)(hk:∀(A':Around) (s':Shared),A'.units≤A.units+2→(∀b o,s.heap.get? b=some o→s'.heap.get? b=some o)→∀Q:SortKind→Shared→Prop,2≤vs.length→Q κ s'→wpAny (model prog w) A' (keyKind' vs.toArray) Q (λ_ _=>False) s')(hlt:∀(A':Around) (s':Shared),A'.units≤A.units+2→(∀b o,s.heap.get? b=some o→s'.heap.get? b=some o)→∀(i j:Nat) (C:Bool→Shared→Prop),i<vs.length→j<vs.length→C (f i j) s'→wpAny (model prog w) A' (keyLt' κ (vs.getD i Value.none) (vs.getD j Value.none)) C (λ_ _=>False) s')(h:∀(p:Array Nat) (h':Heap),Row vs.length p→Up f p vs.length→(∀b o,s.heap.get? b=some o→h'.get? b=some o)→s.heap.objs.size≤s.heap.objs.size+1→(∃k,h'.get? (s.heap.objs.size+1)=some (seqObj "list" (toArray (p.toList.map λi=>vs.getD i Value.none)) k))→Q (.ref (s.heap.objs.size+1)) {s with heap:=h'}):
  wpAny (model prog w) A (call (.builtin "sorted") [.ref l]) Q E s:=by
 refine Calls.call_function_entry kind_sorted plain_sorted entry_sorted (args_sorted1 _) ?_;unfold Builtin.«sorted»;refine wpAny_bind (m:=checkCount "sorted" 1 1 _) (wpAny_pure ?_);refine wpAny_bind (oK hl ?_ (by rw[sizeLine_eq];omega));refine wpAny_bind (wpAny_newList ?_ (by rw[sizeLine_eq];omega));have hsz:((s.heap.push (seqObj "list" #[] 0)).update s.heap.objs.size (Obj.mapSeq (· ++ vs.toArray))).objs.size=s.heap.objs.size+1:=by
  rw[Heap.size_update,size_push']
 have hoL:(((s.heap.push (seqObj "list" #[] 0)).update s.heap.objs.size (Obj.mapSeq (· ++ vs.toArray))).push (seqObj "list" vs.toArray 0)).get? (s.heap.objs.size+1)=some (seqObj "list" vs.toArray 0):=by
  rw[←hsz];exact get?_push_size _ rfl
 have keep:∀b o,s.heap.get? b=some o→(((s.heap.push (seqObj "list" #[] 0)).update s.heap.objs.size (Obj.mapSeq (· ++ vs.toArray))).push (seqObj "list" vs.toArray 0)).get? b=some o:=λb o q=>by
  have hlt:b<s.heap.objs.size:=lt_size q;rw[Heap.get?_push_ne _ _ _ (by rw[hsz];exact ne_of_lt (lt_succ_of_lt hlt)),get?_update_ne _ _ _ _ (ne_of_lt hlt),Heap.get?_push_ne _ _ _ (ne_of_lt hlt)];exact q
 have neD:∀b o,s.heap.get? b=some o→b≠s.heap.objs.size+1:=λb o q=>ne_of_lt (lt_succ_of_lt (lt_size q));show wpAny _ _ _ _ _ {s with heap:=((s.heap.push (seqObj "list" #[] 0)).update s.heap.objs.size (Obj.mapSeq (· ++ vs.toArray))).push (seqObj "list" vs.toArray 0)}
 rw[hsz];refine wpAny_bind (wpAny_holding (wpAny_call_entry slot_list_sort ⟨_,hoL,rfl⟩ entry_list_sort (hX (κ:=κ) (s:={s with heap:=((s.heap.push (seqObj "list" #[] 0)).update s.heap.objs.size (Obj.mapSeq (· ++ vs.toArray))).push (seqObj "list" vs.toArray 0)}) O hoL h64 ?_ ?_ λp hr hu=>⟨_,rfl,?_⟩) (args_list_sort _)))
 ·intro s' hs' Q' h2 hq;exact hk _ s' (by simp[Around.in1_units]) (λb o e=>hs' b o (neD b o e) (keep b o e)) Q' h2 hq
 ·intro s' hs' i j C hi hj hC;exact hlt _ s' (by simp[Around.in1_units]) (λb o e=>hs' b o (neD b o e) (keep b o e)) i j C hi hj hC
 ·refine wpAny_pure ⟨_,rfl,h p _ hr hu (λb o e=>?_) (le_succ _) ?_⟩
  ·unfold sortedHeap;rw[get?_update_ne _ _ _ _ (neD b o e)];refine get?_push_of_some _ (get?_push_of_some _ ?_);rw[get?_update_ne _ _ _ _ (neD b o e)];exact keep b o e
  ·unfold sortedHeap;obtain⟨e1,ho1⟩:∃e1,((((s.heap.push (seqObj "list" #[] 0)).update s.heap.objs.size (Obj.mapSeq (· ++ vs.toArray))).push (seqObj "list" vs.toArray 0)).update (s.heap.objs.size+1) (Obj.mapSeq λ_=>(#[]:Array Value))).get? (s.heap.objs.size+1)=some (seqObj "list" #[] e1):=⟨_,get?_update_seq hoL λ_=>#[]⟩;exact⟨_,get?_update_seq (get?_push_of_some _ (get?_push_of_some _ ho1)) _⟩
theorem sE{f:Nat→Nat→Bool}{l:Addr}{vs:List Value}{κ:SortKind}{Q:Value→Shared→Prop}(O:Ord f vs.length)(hl:s.heap.IsList l vs.toArray)(h64:vs.length<64)(hk:∀(A':Around) (s':Shared),A'.units≤A.units+2→(∀b o,s.heap.get? b=some o→s'.heap.get? b=some o)→∀Q:SortKind→Shared→Prop,2≤vs.length→Q κ s'→wpAny (model prog w) A' (keyKind' vs.toArray) Q (λ_ _=>False) s')(hlt:∀(A':Around) (s':Shared),A'.units≤A.units+2→(∀b o,s.heap.get? b=some o→s'.heap.get? b=some o)→∀(i j:Nat) (C:Bool→Shared→Prop),i<vs.length→j<vs.length→C (f i j) s'→wpAny (model prog w) A' (keyLt' κ (vs.getD i Value.none) (vs.getD j Value.none)) C (λ_ _=>False) s')(h:∀(p:Array Nat) (h':Heap),Row vs.length p→Up f p vs.length→(∀b o,s.heap.get? b=some o→h'.get? b=some o)→s.heap.objs.size≤s.heap.objs.size+1→(∃k,h'.get? (s.heap.objs.size+1)=some (seqObj "list" (toArray (p.toList.map λi=>vs.getD i Value.none)) k))→Q (.ref (s.heap.objs.size+1)) {s with heap:=h'}):
  wpAny (model prog w) A (call (.builtin "sorted") [.ref l]) Q E s:=jT O (.inl hl) h64 hk hlt h
end
end SRT
namespace L2
open PySem PySem.Spec PyProof.Rows
section
variable{X:Cx}{tg:Expr}
theorem rl:∀{bs:List Bool}{us:List Value},aH (bs.map V.bl) us→us=bs.map Value.bool
 |[],_,.nil=>rfl
 |b::bs,_,.cons r t=>by
  have e:_=Value.bool b:=r;rw[e,rl t];rfl
theorem jU(hc:X.calm=true):cz X (.builtin "all") (λxs H Q=>∃a,∃bs:List Bool,xs=[.ref a]∧SqL X.K H a (bs.map V.bl)∧Q (.bl (bs.all id)) H):=by
 intro pins s σ H xs us Q I r h;obtain⟨a,bs,rfl,hq,q⟩:=h;obtain⟨u,rfl,ru⟩:=eB r;cases ru;obtain⟨its,rv,pl,hz⟩:=I.list hq;have e:=rl rv;subst e;refine call_all_walk (wpAny_pyIter_list pl.isList ?_);have hlt:a<s.heap.objs.size:=by obtain⟨o,e,_⟩:=pl.isList;exact lt_size e
 have hne:a≠s.heap.objs.size:=ne_of_lt hlt;refine⟨s.heap.objs.size,_,_,_,_,_,λi=>bs.getD i false,rfl,Walks.list (by simp[I.ok.hd hc]) s.heap.objs.size a hne (bs.map Value.bool).toArray,⟨⟨_,get?_push_size _ rfl,rfl,rfl⟩,pl.isList.push _⟩,?_,?_⟩
 ·intro i v s' Q' E' hP hQ;have hP':(bs.map Value.bool)[i]?=some v:=by simpa using hP
  rw[getElem?_map]at hP';cases eb:bs[i]? with
  |none=>rw[eb]at hP';cases hP'
  |some b =>
   rw[eb]at hP';have ev:Value.bool b=v:=Option.some.inj hP';subst ev;refine wpAny_truthy_bool ?_;have hQ':Q' (bs.getD i false) s':=hQ;rw[getD_eq_getElem?_getD,eb]at hQ';exact hQ'
 ·intro h' tk hk;refine⟨.bl (bs.all id),H,I.kept (t':=tk) (λb o e=>hk b o (by simp only[mem_singleton];exact ne_of_lt (lt_size e)) (get?_push_of_some _ e)),?_,q⟩;have e1:((List.range (bs.map Value.bool).toArray.size).all λi=>bs.getD i false)=bs.all id:=by
   rw[size_toArray,length_map];rw[Bool.eq_iff_iff,all_eq_true,all_eq_true];constructor
   ·intro hh x hx;obtain⟨i,hi,e⟩:=mem_iff_getElem.mp hx;have:=hh i (mem_range.mpr hi);rw[getD_eq_getElem?_getD,getElem?_eq_getElem hi,e]at this;exact this
   ·intro hh i hi;have hi':=mem_range.mp hi;rw[getD_eq_getElem?_getD,getElem?_eq_getElem hi'];exact hh _ (getElem_mem hi')
  show _=Value.bool _;rw[e1]
theorem cA:cz X (.builtin "isinstance") (λxs H Q=>∃x n t b,xs=[x,.ty n]∧TyOf X.K H x t∧kitOne X.K t (.type n)=some b∧Q (.bl b) H):=by
 intro pins s σ H xs us Q I r h;obtain⟨x,n,t,b,rfl,ty,e,q⟩:=h;obtain⟨u,u',rfl,ru,ru'⟩:=tL r;cases (show u'=Value.type n from ru');exact sj I ru ty e λtk=>⟨.bl b,H,I.tok tk,rfl,q⟩
def Its(x:Str):It:=⟨λi _=>i<x.cps.size,λi H v H'=>H'=H∧∃c,x.cps[i]?=some c∧v=.str ⟨#[c]⟩,λi _=>x.cps.size≤i⟩
theorem uq{P:Program}{w:World}{K:PySem.W.Frag}(x:Str)(t:Tok)(it:Addr):Turn P w K tg (Its x) [it] it (λi h=>h.IsStrIter it (strIterType x) x t i) where
 mem:=by simp
 obj:=λi h st b hb=>by
  have e:b=it:=by simpa using hb
  subst e;obtain⟨o,e,c,d⟩:=st;exact⟨o,e,λv z=>by rw[d]at z;cases z⟩
 keep:=λi h h' st k=>by
  obtain⟨o,e,r⟩:=st;exact⟨o,k it (by simp) o e,r⟩
 item:=by
  intro X hP hw hK hc i pins s σ H E I hf st hg;subst hP hw hK;obtain⟨f0,f1,f2,f3,f4,f5⟩:=hf it (by simp);have hg':i<x.cps.size:=hg;have fin:∀(h':Heap)(tk:Nat),h'.IsStrIter it (strIterType x) x t (i+1)→SameBut it s.heap h'→∃u',some (Value.str ⟨#[x.cps[i]]⟩ s.toks)=some u'∧wpAny (model X.prog X.w) X.A (letOwnedTupleGo tg (.ref it) u') (λ_ s2=>∃y H',Inv X pins σ H' s2∧aL y u'∧(Its x).yld i H y H'∧s2.heap.IsStrIter it (strIterType x) x t (i+1)∧∀b∈[it],H' b=none) E {s with heap:=h',toks:=tk}:=λh' tk st' sb=>by
   have I1:Inv X pins σ H {s with heap:=h',toks:=tk}:=I.turned (t':=tk) (λb o hb e=>(sb.2 b hb).trans e) f0 f1 f3 f4 f5
   obtain⟨o,e,c,d⟩:=id st';refine⟨_,rfl,nW (s:={s with heap:=h',toks:=tk}) e c d ?_ ⟨.str ⟨#[x.cps[i]]⟩,H,I1,⟨_,rfl⟩,⟨rfl,x.cps[i],by simp[hg'],rfl⟩,st',λb hb=>(hf b hb).1⟩⟩;unfold strIterType
   split<;>decide
  cases ha:x.cps.all (· < 128)with
  |true =>
   have et:strIterType x="str_ascii_iterator":=by simp[strIterType,ha]
   rw[et]at st fin⊢;exact wpAny_pyNext_ascii_item st (c:=x.cps[i]) (by simp[hg']) λh' st' sb=>fin h' _ st' sb
  |false =>
   have et:strIterType x="str_iterator":=by simp[strIterType,ha]
   rw[et]at st fin⊢;exact wpAny_pyNext_wide_item st (c:=x.cps[i]) (by simp[hg']) λh' st' sb=>fin h' _ st' sb
 done:=by
  intro X hP hw hK hc i pins s σ H E I hf st hg;subst hP hw hK;obtain⟨f0,f1,f2,f3,f4,f5⟩:=hf it (by simp);have hg':x.cps.size≤i:=hg;cases ha:x.cps.all (· < 128)with
  |true =>
   have et:strIterType x="str_ascii_iterator":=by simp[strIterType,ha]
   rw[et]at st;exact wpAny_pyNext_ascii_end (I.ok.hd hc) st (by simp[hg']) λh' eb=>⟨rfl,I.turned (t':=s.toks) (λb o hb e=>eb b o hb e) f0 f1 f3 f4 f5⟩
  |false =>
   have et:strIterType x="str_iterator":=by simp[strIterType,ha]
   rw[et]at st;exact wpAny_pyNext_wide_end (I.ok.hd hc) st (by simp[hg']) λh' eb=>⟨rfl,I.turned (t':=s.toks) (λb o hb e=>eb b o hb e) f0 f1 f3 f4 f5⟩
 self:=λA i s Q E st h=>by
  cases ha:x.cps.all (· < 128)with
  |true =>
   have et:strIterType x="str_ascii_iterator":=by simp[strIterType,ha]
   rw[et]at st;exact wpAny_pyIter_striter_ascii st h
  |false =>
   have et:strIterType x="str_iterator":=by simp[strIterType,ha]
   rw[et]at st;exact wpAny_pyIter_striter_wide st h
def AZ(tl:TE):TI:=λσ H R=>tl σ H λv H1=>∃x,v=.str x∧R (Its x) H1
theorem yJ{l:Expr}{tl:TE}(hl:PE X l tl):PI X tg l (AZ tl):=by
 intro pins s σ H R I h;refine thn (hl pins s σ H _ I h) λv s1 hpt=>?_;obtain⟨y,H1,I1,r1,q1⟩:=hpt;obtain⟨x,e,q⟩:=q1;subst e;obtain⟨t,rfl⟩:=r1;refine wpAny_pyIter_strU ?_;refine⟨s1.heap.objs.size,[s1.heap.objs.size],_,_,H1,rfl,I1.kept (t':=s1.toks) λb o e=>get?_push_of_some _ e,uq x t _,⟨_,get?_push_size _ rfl,rfl,rfl⟩,λb hb=>?_,q⟩;have e:b=s1.heap.objs.size:=by simpa using hb
 subst e;exact I1.fpOk (le_refl _) (I1.hok.fresh (le_refl _))
theorem ut{pins:List (Addr×Obj)}{σ:St}{H:Hp}{s:Shared}{a:Addr}{ks:List Key}(I:Inv X pins σ H s)(h:H a=some (.tup (ks.map kV)))(P:Program)(w:World):IsTupleKey (aG P w) s.heap ks a:=by
 obtain⟨_,its,r,o,e,c,n,d⟩:=I.hok a _ h;exact⟨o,its.toArray,n,e,c,d,by simpa using iC r⟩
theorem dw:∀{as:List Addr}{us:List Value},aH (as.map V.ref) us→us=as.map Value.ref
 |[],_,.nil=>rfl
 |b::bs,_,.cons r t=>by
  have e:_=Value.ref b:=r;rw[e,dw t];rfl
theorem la(hu:X.A.units+1<cLine):OpR X (compareOp .NotIn) (λx y H Q=>∃a p ks,∃kss:List (Addr×List Key),x=.ref a∧H a=some (.tup (ks.map kV))∧y=.ref p∧SqL X.K H p ((kss.map (·.1)).map V.ref) ∧
  (∀z∈kss,H z.1=some (.tup (z.2.map kV)))∧Q (.bl (!(kss.any λz=>decide (z.2=ks)))) H):=by
 intro pins s σ H x y v u Q I rx ry h;obtain⟨a,p,ks,kss,rfl,ha,rfl,hq,hk,q⟩:=h;cases rx;cases ry;obtain⟨its,rv,pl,hz⟩:=I.list hq;have e:=dw rv;subst e
 let e:Value→Bool:=λv=>match v with | .ref b=>((kss.find? λz=>z.1==b).map λz=>decide (z.2=ks)).getD false | _=>false
 have he:∀z∈kss,e (.ref z.1)=decide (z.2=ks):=λz hz'=>by
  show((kss.find? λy=>y.1==z.1).map λz=>decide (z.2=ks)).getD false=_;cases ef:kss.find? λy=>y.1==z.1 with
  |none=>have:=find?_eq_none.mp ef z hz';simp at this
  |some y =>
   have h1:=find?_some ef;have h2:=List.mem_of_find?_eq_some ef;have e1:y.1=z.1:=by simpa using h1
   have e2:=hk y h2;rw[e1,hk z hz']at e2;have e3:z.2.map kV=y.2.map kV:=by injection (Option.some.inj e2)
   rw[mt e3];rfl
 refine SeqAt.notIn_listAt e pl.isList (λy hy=>?_) ⟨.bl _,H,I,rfl,?_⟩
 ·have hy':y∈(kss.map (·.1)).map Value.ref:=by simpa using hy
  obtain⟨b,hb,rfl⟩:=mem_map.mp hy';obtain⟨z,hz',rfl⟩:=mem_map.mp hb;rw[he z hz'];intro prog w E' Q' hQ;exact wpAny_eqBool_tuple (knd:=aG prog w) (by simp;exact hu) (ut I (hk z hz') prog w) (ut I ha prog w) hQ
 ·have e1:(((kss.map (·.1)).map Value.ref).toArray.any e)=kss.any λz=>decide (z.2=ks):=by
   rw[List.any_toArray,any_map,any_map];apply Bool.eq_iff_iff.mpr;rw[any_eq_true,any_eq_true];constructor
   ·rintro⟨z,hz',h1⟩;exact⟨z,hz',by rw[←he z hz'];exact h1⟩
   ·rintro⟨z,hz',h1⟩;exact⟨z,hz',by show e (.ref z.1)=true;rw[he z hz'];exact h1⟩
  rw[e1];exact q
def mX(a:Addr)(n:Nat)(h:Heap):Prop:=∃o es ep t,h.get? a=some o∧o.ExactSet∧o.data=.set es ep t∧t.fits es.size=true∧es.size=n
theorem uu(P:Program)(w:World):∀k v,(aG P w).is k v=true→v.scannable=true:=λk v h=>by
 rcases aV h with⟨i,t,_,rfl⟩|⟨x,t,_,rfl⟩<;>rfl
theorem lc(hc:X.calm=true)(hu:X.A.units+4<cLine):cz X (.type "set") (λxs H Q=>∃p,∃kss:List (Addr×List Key),xs=[.ref p]∧SqL X.K H p ((kss.map (·.1)).map V.ref)∧(∀z∈kss,H z.1=some (.tup (z.2.map kV)))∧kss.length≤60 ∧
  ∀n,n≤kss.length→(n=kss.length↔(kss.map (·.2)).Nodup)→∀q,H q=none→Q (.ref q) (upd H q (.ext (mX q n)))):=by
 intro pins s σ H xs us Q I r h;obtain⟨p,kss,rfl,hq,hk,hl,q⟩:=h;obtain⟨u,rfl,ru⟩:=eB r;cases ru;obtain⟨its,rv,pl,hz⟩:=I.list hq;have e:=dw rv;subst e;have hsz:(((kss.map (·.1)).map Value.ref).toArray).size=kss.length:=by simp
 have hget:∀i,i<kss.length→kss.getD i (0,[])∈kss:=λi hi=>by
  rw[getD_eq_getElem?_getD,getElem?_eq_getElem hi];exact getElem_mem hi
 refine TB.jh (knd:=aG X.prog X.w) (key:=λi=>(kss.getD i (0,[])).2) (ad:=λi=>(kss.getD i (0,[])).1) (I.ok.hd hc) hu (uu _ _) pl.isList (λi v hv=>?_) (λi hi=>?_) (by rw[hsz];exact hl) λh' tk zs hS hzl hm hkeep=>?_
 ·have hv':((kss.map (·.1)).map Value.ref)[i]?=some v:=by simpa using hv
  rw[getElem?_map,getElem?_map]at hv';rw[getD_eq_getElem?_getD];cases ei:kss[i]? with
  |none=>rw[ei]at hv';cases hv'
  |some z=>rw[ei]at hv';exact(Option.some.inj hv').symm
 ·exact ut I (hk _ (hget i (by omega))) _ _
 ·rw[hsz]at hm hzl;have hcount:zs.length=kss.length↔(kss.map (·.2)).Nodup:=by
   have:=TB.oF (z:=zs.map (·.2.2)) (l:=kss.map (·.2)) hS.nd λk'=>by
    rw[hm k'];constructor
    ·rintro⟨j,hj,e⟩;rw[←e];exact mem_map.mpr ⟨_,hget j hj,rfl⟩
    ·intro h1;obtain⟨z,hz',e⟩:=mem_map.mp h1;obtain⟨j,hj,e2⟩:=mem_iff_getElem.mp hz';exact⟨j,hj,by rw[getD_eq_getElem?_getD,getElem?_eq_getElem hj,e2];exact e⟩
   rw[length_map,length_map]at this;exact this
  obtain⟨⟨o,es,ep,t,ho,hex,hd,hes,T,hmask,hfull,hpath⟩,_,_⟩:=hS;have hlen:es.size=zs.length:=by rw[←length_toList,hes,length_map]
  have hf:t.fits es.size=true:=TB.gm T (by rw[length_map,hlen]) (by rw[hlen];omega);refine⟨.ref s.heap.objs.size,_,I.laid (t':=tk) (o:=.ext (mX s.heap.objs.size zs.length)) (λb o e=>hkeep b o (lt_size e) e) (le_refl _) ⟨⟨o,es,ep,t,ho,hex,hd,hf,hlen⟩,⟨o,ho⟩,?_⟩,rfl,q zs.length hzl hcount _ (I.hok.fresh (le_refl _))⟩;rintro h1 h2 ⟨o,es,ep,t,a1,a2⟩ hh;exact⟨o,es,ep,t,hh o a1,a2⟩
theorem oM:cz X (.builtin "len") (λxs H Q=>∃p n,xs=[.ref p]∧H p=some (.ext (mX p n))∧n≤60∧Q (.int n) H):=by
 intro pins s σ H xs us Q I r h;obtain⟨p,n,rfl,hp,hn,q⟩:=h;obtain⟨u,rfl,ru⟩:=eB r;cases ru;obtain⟨⟨o,es,ep,t,ho,hex,hd,hf,hlen⟩,_,_⟩:=I.hok p _ hp;refine call_len_set ho hex hd hf (by rw[hlen];omega) ⟨.int n,H,I.tok _,?_,q⟩;rw[hlen];exact⟨_,rfl⟩
def wH:V→List V→Hp→VK→Prop:=λx vs H Q=>∃d kvs k y,x=.ref d∧vs=[kV k,y]∧H d=some (.dK kvs)∧kvs.length<sizeLine∧(∀v,bc kvs k=some v→Q v H)∧(bc kvs k=none→Q y (upd H d (.dK (cj kvs k y))))
theorem lg:MtM X "dict.setdefault" wH:=by
 intro pins s σ H x vs v us Q I rx rv h;obtain⟨d,kvs,k,y,rfl,rfl,hd,hz,q1,q2⟩:=h;cases rx;obtain⟨u,u',rfl,ru,ru'⟩:=rv.two;obtain⟨z,hs,ws,rel,dd⟩:=qW I.hok hd;have hzw:ws.length≤sizeLine:=by rw[←rel.length];exact z
 refine call_meetsIn F.slot_dict_setdefault dd.typeIs F.entry_dict_setdefault (F.args_dict_setdefault_3 _ _ _) (kt_meets_setdefault (aG X.prog X.w) d (ff ru) hs u') ⟨ws,dd,hzw,λw' hw=>?_,λhw h' dd' sb=>?_⟩
 ·have:=rel.val k;rw[hw]at this;cases e:bc kvs k with
  |none=>rw[e]at this;cases this
  |some v =>
   rw[e]at this;exact⟨v,H,I.tok _,this,q1 v e⟩
 ·have:=rel.val k;rw[hw]at this;cases e:bc kvs k with
  |some v=>rw[e]at this;cases this
  |none =>
   have he:∃q,h'.get? d=some q:=let⟨q,_,_,hq,_⟩:=dd';⟨q,hq⟩;have hl:(cj kvs k y).length≤sizeLine:=by have:=dH kvs k y;omega
   exact⟨y,_,jl I (by rw[hd];exact True.intro) sb he (mw hl hs (rel.put k ru') dd'),ru',q2 e⟩
theorem sF:cz X (.type "range") (λxs H Q=>∃i j,xs=[.int i,.int j]∧∀p,H p=none→Q (.ref p) (upd H p (.rng i j))):=by
 intro pins s σ H xs us Q I r h;obtain⟨i,j,rfl,q⟩:=h;obtain⟨u,u',rfl,⟨t,rfl⟩,⟨t',rfl⟩⟩:=tL r;refine call_range_2 ⟨.ref s.heap.objs.size,_,I.laid (t':=s.toks+1) (o:=.rng i j) (λb ob q=>get?_push_of_some _ q) (le_refl _) ?_,rfl,q _ (I.hok.fresh (le_refl _))⟩;exact⟨t,t',_,get?_push_size _ rfl⟩
theorem pU{lo:Int}{n:Nat}{acc:Array Value}(h:ItemsOf (λi v=>∃t,v=.int (lo+i*1) t) acc n):aH ((List.range n).map λk=>V.int (lo+(k:Nat))) acc.toList:=by
 obtain⟨h1,h2⟩:=h;have key:∀(l:List Value)(k:Nat),(∀(i:Nat)(v:Value),l[i]?=some v→∃t,v=Value.int (lo+(k+i:Nat)) t)→aH ((range' k l.length).map λk=>V.int (lo+(k:Nat))) l:=by
  intro l
  induction l with
  |nil=>intro k _;exact .nil
  |cons v l ih =>
   intro k hv;rw[length_cons,List.range'_succ,map_cons];refine .cons ?_ (ih (k+1) λi w hw=>?_)
   ·obtain⟨t,e⟩:=hv 0 v rfl;exact⟨t,e⟩
   ·obtain⟨t,e⟩:=hv (i+1) w hw;exact⟨t,by rw[e,show k+(i+1)=k+1+i by omega]⟩
 have hl:acc.toList.length=n:=by simpa using h1
 have:=key acc.toList 0 λi v hv=>by
  have hv':acc[i]?=some v:=by simpa using hv
  obtain⟨t,e⟩:=h2 i v hv';exact⟨t,by rw[e,Int.mul_one,zero_add]⟩
 rw[hl]at this;rw[List.range_eq_range'];exact this
theorem lh(hc:X.calm=true):cz X (.type "list") (λxs H Q=>∃p i j,xs=[.ref p]∧H p=some (.rng i j)∧(-(2 ^ 62)≤i∧i<2 ^ 62∧-(2 ^ 62)≤j∧j<2 ^ 62)∧(j-i).toNat≤1000 ∧
  ∀l,H l=none→Q (.ref l) (upd H l (.lst ((List.range (j-i).toNat).map λk=>V.int (i+(k:Nat)))))):=by
 intro pins s σ H xs us Q I r h;obtain⟨p,i,j,rfl,hp,⟨b1,b2,b3,b4⟩,hn,q⟩:=h;obtain⟨u,rfl,rx⟩:=eB r;cases rx;obtain⟨t,t',t'',e⟩:=(show bo X.prog X.w H s.heap p (.rng i j)from I.hok p _ hp);have hsz:Builtin.Range.rangeSize i j 1=((j-i).toNat:Nat):=by rw[rangeSize_one];split<;>omega
 refine call_list_range (n:=(j-i).toNat) (I.ok.hd hc) e (small_one b1 b2 b3 b4) hsz (by omega) λh' tk acc c' kp hg hi=>?_;refine⟨.ref s.heap.objs.size,_,I.laid (t':=tk) kp (le_refl _) (show bo X.prog X.w _ h' _ (.lst _)from⟨?_,acc.toList,c',pU hi,by simpa using hg⟩),rfl,q _ (I.hok.fresh (le_refl _))⟩
 rw[length_map,length_range,sizeLine_eq];omega
theorem uv:OpR X (binaryOp .Add) (λx y H Q=>∃a b ys,x=.ref a∧y=.ref b∧SqT X.K H a []∧SqT X.K H b ys∧Q (.ref b) H):=by
 intro pins s σ H x y v u Q I rx ry h;obtain⟨a,b,ys,rfl,rfl,ha,hb,q⟩:=h;cases rx;cases ry;obtain⟨its,r1,ht,_⟩:=I.tuple ha;obtain⟨its2,r2,hb',_⟩:=I.tuple hb;cases r1;obtain⟨⟨cls,dd,data,sl⟩,ho,hc,n,hd⟩:=id ht;obtain⟨⟨cls2,dd2,data2,sl2⟩,ho2,hc2,n2,hd2⟩:=id hb';simp only at hc hd hc2 hd2;subst hc hd hc2 hd2;exact concat_meets ⟨_,ho,rfl⟩ ⟨_,ho2,rfl⟩ noFill_tuple_add seq_tuple_add slot_tuple_add entry_tuple_add (args_tuple_add_2 _ _)
  (tuple_addW0 a b _ its2.toArray n n2 dd dd2 sl sl2 (by rfl)) ⟨ho,ho2,⟨.ref b,H,I,rfl,q⟩⟩
theorem hZ{prog:Program}{w:World}{A:Around}{E:Value→Shared→Prop}{s:Shared}{t sl:Addr}{items:Array Value}{vl vu:Value}{lo hi:Option Int}{Q:Value→Shared→Prop}(ht:IsTup s.heap t items)(hs:s.heap.IsSliceOf sl vl vu .none)(pl:IsPart vl lo)(pu:IsPart vu hi)(hw:HT.sIx items.size 0 lo=0∧HT.sIx items.size items.size hi=items.size)(h:Q (.ref t) s):wpAny (model prog w) A (getItem (.ref t) (.ref sl)) Q E s:=by
 obtain⟨os,hos,hcs,hds⟩:=id hs;have hTs:s.TypeIs (.ref sl) "slice":=⟨os,hos,hcs⟩;unfold getItem
 try with_reducible refine wpAny_holding ?_
 first|refine wpAny_bind (wpAny_pure ?_)|skip
 refine wpAny_bind (wpAny_sequenceKey ht.typeIs (by decide) ?_);refine wpAny_bind (wpAny_callSpecial?_slot (name:=ofString "__getitem__") ht.typeIs PyProof.Rows.slot_tuple_getitem
  (wpAny_call_entry PyProof.Rows.slot_tuple_getitem ht.typeIs entry_tuple_getitem ?_ (args_tuple_getitem _ _)))
 show wpAny _ _ (Builtin.Tuple.tupleItemsOf (.ref t) >>= _) _ _ s;refine wpAny_bind (tupleItemsOf_ ht ?_);refine wpAny_bind (wpAny_typeOf hTs ?_);rw[if_pos (by decide)];refine wpAny_bind (HT.eC hs pl pu ?_);have hyes:((((HT.sIx items.size 0 lo:Nat):Int)==0&&(1:Int)==1&&(HT.sIx items.size items.size hi-HT.sIx items.size 0 lo)==items.size)=true):=by
  rw[hw.1,hw.2];simp
 show wpAny _ _ (if (((HT.sIx items.size 0 lo:Nat):Int)==0&&(1:Int)==1&&(HT.sIx items.size items.size hi-HT.sIx items.size 0 lo)==items.size)=true then _ else _) _ _ s
 rw[if_pos hyes];refine wpAny_bind ?_;unfold Builtin.Tuple.tupleIsExact;refine wpAny_bind (wpAny_typeOf ht.typeIs (wpAny_pure ?_));rw[if_pos (by decide)];exact wpAny_bind (wpAny_rule (wpAny_pure ⟨_,rfl,wpAny_pure h⟩))
theorem pV:SlR X (λx lo hi H Q=>∃a xs,x=.ref a∧SqT X.K H a xs∧HT.sIx xs.length 0 lo=0∧HT.sIx xs.length xs.length hi=xs.length∧Q (.ref a) H):=by
 intro pins s σ H x v vl vu lo hi sl Q I rx hs pl pu h;obtain⟨a,xs,rfl,hx,h1,h2,q⟩:=h;cases rx;obtain⟨its,r,ht,hz⟩:=I.tuple hx;have hlen:its.toArray.size=xs.length:=by rw[size_toArray];exact r.length.symm
 exact⟨"tuple",_,PyProof.Rows.slot_tuple_getitem.lookup,ht.typeIs,hZ ht hs pl pu (by rw[hlen];exact⟨h1,h2⟩) ⟨.ref a,H,I,rfl,q⟩⟩
theorem gL(hu:X.A.units<cLine):OpR X (compareOp .Eq) (λx y H Q=>∃a b xs,x=.ref a∧y=.ref b∧SqL X.K H a xs∧SqL X.K H b []∧Q (.bl (decide (xs=[]))) H):=by
 intro pins s σ H x y v u Q I rx ry h;obtain⟨a,b,xs,rfl,rfl,ha,hb,q⟩:=h;cases rx;cases ry;obtain⟨its,r1,ht,_⟩:=I.list ha;obtain⟨its2,r2,hb',_⟩:=I.list hb;cases r2
 by_cases e:xs=[]
 ·subst e;cases r1;refine eq_listAt (e:=λ_=>true) ht.isList hb'.isList rfl hu (λj h1 h2=>absurd h2 (by simp)) ⟨.bl _,H,I,?_,q⟩;rfl
 ·have e2:its≠[]:=λz=>e (r1.nil_iff.mp z);have e3:its.length≠0:=λz=>e2 (length_eq_zero_iff.mp z);refine SeqAt.eq_list_lengthsAt ht.isList hb'.isList (by simp[e3]) hu ⟨.bl _,H,I,?_,q⟩;show _=Value.bool _;simp[e]
end
end L2
namespace ZT
open PySem PySem.SeqAt
section
variable{prog:Program}{w:World}{A:Around}{E:Value→Shared→Prop}{s:Shared}
theorem gM{it t:Addr}{i:Nat}{items:Array Value}{x:Value}{Q:Value→Shared→Prop}(hi:s.heap.IsTupleIter it t i)(ht:s.heap.IsTuple t items)(hx:items[i]?=some x)(q:∀g,g.IsTupleIter it t (i+1)→SameBut it s.heap g→Q x {s with heap:=g}):wpAny (model prog w) A (Builtin.SmallTypes.nextOf (.ref it)) Q E s:=by
 obtain⟨oi,e1,e2,e3⟩:=id hi;obtain⟨ot,e4,_,k,e5⟩:=ht;unfold Builtin.SmallTypes.nextOf;refine wpAny_bind (wpAny_callSpecial?_slot (name:=ofString "__next__") hi.typeIs F.slot_tuple_iterator_next (wpAny_call_entry F.slot_tuple_iterator_next hi.typeIs F.entry_tuple_iterator_next ?body (F.args_tuple_iterator_next_1 _)))
 case body =>
  refine wpAny_bind (m:=field (.ref it) 0) (wpAny_field e1 e3 (x:=.ref t) rfl ?_);rw[if_neg (show ¬((Value.ref t==Value.none)=true)by simp)];refine wpAny_bind (m:=field (.ref it) 1) (wpAny_field e1 e3 (x:=.int i 0) rfl ?_);refine wpAny_bind (m:=seqItems? (.ref t)) (wpAny_seqItems e4 e5 ?_);simp only[toNat_natCast,hx];have up:(Obj.mapFields (·.setIfInBounds 1 (rawInt ((i:Int)+1))) oi).data=.fields #[.ref t,.int ((i+1:Nat):Int) 0]:=by rw[Obj.data_mapFields e3];simp[rawInt]
  exact wpAny_bind (wpAny_setField e1 e3 (by simp) (wpAny_pure ⟨x,rfl,wpAny_pure (q _ ⟨_,get?_update_self _ e1 (Obj.isFreed_of_fields (Obj.data_mapFields e3 _)),(Obj.cls_mapFields ..).trans e2,up⟩ (SameBut.update ..))⟩))
theorem lD{it t:Addr}{i:Nat}{items:Array Value}{Q:Value→Shared→Prop}(hh:A.handled=none)(hi:s.heap.IsTupleIter it t i)(ht:s.heap.IsTuple t items)(hx:items[i]?=none)(q:∀g e,ExtBut it s.heap g→(∃o,g.get? e=some o∧o.cls=.type "StopIteration")→E (.ref e) {s with heap:=g}):wpAny (model prog w) A (Builtin.SmallTypes.nextOf (.ref it)) Q E s:=by
 obtain⟨oi,e1,e2,e3⟩:=id hi;obtain⟨ot,e4,_,k,e5⟩:=ht;unfold Builtin.SmallTypes.nextOf;refine wpAny_bind (wpAny_callSpecial?_slot (name:=ofString "__next__") hi.typeIs F.slot_tuple_iterator_next (wpAny_call_entry F.slot_tuple_iterator_next hi.typeIs F.entry_tuple_iterator_next ?body (F.args_tuple_iterator_next_1 _)))
 case body =>
  refine wpAny_bind (m:=field (.ref it) 0) (wpAny_field e1 e3 (x:=.ref t) rfl ?_);rw[if_neg (show ¬((Value.ref t==Value.none)=true)by simp)];refine wpAny_bind (m:=field (.ref it) 1) (wpAny_field e1 e3 (x:=.int i 0) rfl ?_);refine wpAny_bind (m:=seqItems? (.ref t)) (wpAny_seqItems e4 e5 ?_);simp only[toNat_natCast,hx];refine wpAny_bind (wpAny_rule (wpAny_bind (wpAny_setField e1 e3 (by simp) ?_)));refine wpAny_bind (m:=newExc (.type "StopIteration") []) ?_;unfold newExc newTuple;refine wpAny_bind (wpAny_newObj_type (hd:=by size_fits) ?_);refine wpAny_bind (m:=firstArgMember _ _) (wpAny_of_eq (a:=Value.none) (by first|rfl|(unfold firstArgMember;rfl)) (wpAny_newObj_type (hd:=by size_fits) ?_))
  unfold raiseNew;refine wpAny_bind (wpAny_handled ?_)
  first|rw[show A.in1.handled=none from hh]|rw[hh]
  exact wpAny_bind (wpAny_pure (wpAny_throw (q _ _ (((SameBut.update ..).extBut.push _).push _) ⟨_,get?_push_size _ rfl,rfl⟩)))
structure Rec(h:Heap)(z a b i1 i2 t1 t2:Addr)(out:Value)(k:Nat):Prop where
 zz:IsZip h z a b out
 ti:IsPair h a (.ref i1) (.ref i2)
 to:∃u v,IsPair h b u v
 n1:h.IsTupleIter i1 t1 k
 n2:h.IsTupleIter i2 t2 k
structure Apart(z a b i1 i2 t1 t2:Nat):Prop where
 az:a≠z
 bz:b≠z
 z1:i1≠z
 z2:i2≠z
 ab:a≠b
 a1:a≠i1
 a2:a≠i2
 b1:b≠i1
 b2:b≠i2
 d12:i1≠i2
 tz:t1≠z∧t2≠z
 tb:t1≠b∧t2≠b
 t1n:t1≠i1∧t2≠i1
 t2n:t1≠i2∧t2≠i2
theorem uw(n t1 t2:Nat)(h1:t1<n)(h2:t2<n):Apart (n+4) (n+2) (n+3) n (n+1) t1 t2 :=
 ⟨by omega,by omega,by omega,by omega,by omega,by omega,by omega,by omega,by omega,by omega,⟨by omega,by omega⟩,⟨by omega,by omega⟩,⟨by omega,by omega⟩,⟨by omega,by omega⟩⟩
theorem sG{z a b i1 i2 t1 t2:Addr}{k:Nat}{xs ys:Array Value}{x y:Value}{Q:Value→Shared→Prop}(D:Apart z a b i1 i2 t1 t2)(R:Rec s.heap z a b i1 i2 t1 t2 .none k)(h1:s.heap.IsTuple t1 xs)(h2:s.heap.IsTuple t2 ys)(hx:xs[k]?=some x)(hy:ys[k]?=some y)(q:∀g,Rec g z a b i1 i2 t1 t2 (rawInt s.heap.objs.size) (k+1)→IsPair g s.heap.objs.size x y→(∀c o,c≠z→c≠b→c≠i1→c≠i2→s.heap.get? c=some o→g.get? c=some o)→Q (.ref s.heap.objs.size) {s with heap:=g}):
  wpAny (model prog w) A (Builtin.«zip.__next__» ⟨[.ref z],[]⟩) (λfin s'=>∃v,fin=.done (.ret v)∧Q v s') E s:=by
 obtain⟨hz,hti,⟨u,v,hto⟩,n1,n2⟩:=R;refine wpAny_bind (m:=field (.ref z) 2) (wpAny_field hz rfl (x:=.bool false) rfl ?_);refine wpAny_bind (m:=field (.ref z) 3) (wpAny_field hz rfl (x:=.ref a) rfl ?_);refine wpAny_bind (m:=seqItems? (.ref a)) (wpAny_seqItems hti rfl ?_);refine wpAny_bind (m:=Builtin.SmallTypes.ownedTupleIsFree (.ref z)) ?_;unfold Builtin.SmallTypes.ownedTupleIsFree;refine wpAny_bind (wpAny_field hz rfl (x:=.none) rfl (wpAny_pure ?_));simp only[if_true];refine wpAny_bind (wpAny_rule (wpAny_bind (wpAny_field hz rfl (x:=.ref b) rfl (wpAny_bind (wpAny_setField_rec hz (by simp) λg1 z1 s1=>?_)))));have z1':IsZip g1 z a b .ellipsis:=z1;refine wpAny_bind ?_;simp only[List.zipIdx_cons,List.zipIdx_nil,forIn_cons,forIn_nil];refine wpAny_bind (wpAny_bind (wpAny_onRaise (wpAny_bind (m:=Builtin.SmallTypes.nextOf (.ref i1)) (gM (n1.extBut s1.extBut D.z1) (h1.extBut s1.extBut D.tz.1) hx λg2 m1 s2=>wpAny_pure ?_))));have to2:IsPair g2 b u v:=s2.extBut _ _ D.b1 (s1.extBut _ _ D.bz hto);refine wpAny_bind (wpAny_seqItems to2 rfl (wpAny_bind (wpAny_updateSeq_pair to2 λg3 to3 s3=>wpAny_bind (wpAny_letGo (wpAny_pure ?_)))));have to3':IsPair g3 b x v:=to3;refine wpAny_bind (wpAny_bind (wpAny_onRaise (wpAny_bind (m:=Builtin.SmallTypes.nextOf (.ref i2)) (gM (((n2.extBut s1.extBut D.z2).extBut s2.extBut D.d12.symm).extBut s3.extBut D.b2.symm)
  (((h2.extBut s1.extBut D.tz.2).extBut s2.extBut D.t1n.2).extBut s3.extBut D.tb.2) hy λg4 m2 s4=>wpAny_pure ?_))))
 have to4:IsPair g4 b x v:=s4.extBut _ _ D.b2 to3';refine wpAny_bind (wpAny_seqItems to4 rfl (wpAny_bind (wpAny_updateSeq_pair to4 λg5 to5 s5=>wpAny_bind (wpAny_letGo (wpAny_pure (wpAny_pure ?_))))));have to5':IsPair g5 b x y:=to5;refine wpAny_bind (wpAny_seqItems to5' rfl (wpAny_bind (wpAny_newTuple ?_)));have size5:g5.objs.size=s.heap.objs.size:=by rw[s5.1,s4.1,s3.1,s2.1,s1.1]
 have keep5:∀c o,c≠z→c≠b→c≠i1→c≠i2→s.heap.get? c=some o→g5.get? c=some o:=λc o c1 c2 c3 c4 e=>s5.extBut _ _ c2 (s4.extBut _ _ c4 (s3.extBut _ _ c2 (s2.extBut _ _ c3 (s1.extBut _ _ c1 e))));have z5:IsZip g5 z a b .ellipsis:=s5.extBut _ _ D.bz.symm (s4.extBut _ _ D.z2.symm (s3.extBut _ _ D.bz.symm (s2.extBut _ _ D.z1.symm z1')));have m15:g5.IsTupleIter i1 t1 (k+1):=((m1.extBut s3.extBut D.b1.symm).extBut s4.extBut D.d12).extBut s5.extBut D.b1.symm;have m25:g5.IsTupleIter i2 t2 (k+1):=m2.extBut s5.extBut D.b2.symm;have ti5:IsPair g5 a (.ref i1) (.ref i2):=keep5 _ _ D.az D.ab D.a1 D.a2 hti;refine wpAny_bind (m:=Builtin.SmallTypes.ownedTupleHandOut (.ref z) (.ref g5.objs.size)) ?_;unfold Builtin.SmallTypes.ownedTupleHandOut;have z6:IsZip (g5.push {cls:=.type "tuple",data:=.seq #[x,y]}) z a b .ellipsis:=get?_push_of_some _ z5;refine wpAny_bind (wpAny_setField_rec z6 (by simp) λg7 z7 s7=>?_);have z7':IsZip g7 z a b (rawInt g5.objs.size):=z7;refine wpAny_setField_rec z7' (by simp) λg8 z8 s8=>?_;have z8':IsZip g8 z a b (rawInt g5.objs.size):=z8;have up:∀c o,c≠z→g5.get? c=some o→g8.get? c=some o:=λc o c1 e=>s8.extBut _ _ c1 (s7.extBut _ _ c1 (get?_push_of_some _ e));have nz:g5.objs.size≠z:=ne_of_gt (lt_size z5);have new8:IsPair g8 g5.objs.size x y:=s8.extBut _ _ nz (s7.extBut _ _ nz (get?_push_size _ rfl));rw[size5]at z8' new8;refine wpAny_pure ⟨_,rfl,?_⟩;show Q (.ref g5.objs.size) _;rw[size5];exact q g8 ⟨z8',up _ _ D.az ti5,⟨_,_,up _ _ D.bz to5'⟩,(let⟨o,e,r⟩:=m15;⟨o,up _ o D.z1 e,r⟩),(let⟨o,e,r⟩:=m25;⟨o,up _ o D.z2 e,r⟩)⟩ new8 λc o c1 c2 c3 c4 e=>up c o c1 (keep5 c o c1 c2 c3 c4 e)
theorem ux{z a b i1 i2 t1 t2:Addr}{k:Nat}{xs ys:Array Value}{Q:PySem.Fin→Shared→Prop}(hh:A.handled=none)(D:Apart z a b i1 i2 t1 t2)(R:Rec s.heap z a b i1 i2 t1 t2 .none k)(h1:s.heap.IsTuple t1 xs)(h2:s.heap.IsTuple t2 ys)(hend:xs[k]?=none∨ys[k]?=none)(q:∀g e,(∀c o,c≠z→c≠b→c≠i1→c≠i2→s.heap.get? c=some o→g.get? c=some o)→(∃o,g.get? e=some o∧o.cls=.type "StopIteration")→E (.ref e) {s with heap:=g}):
  wpAny (model prog w) A (Builtin.«zip.__next__» ⟨[.ref z],[]⟩) Q E s:=by
 obtain⟨hz,hti,⟨u,v,hto⟩,n1,n2⟩:=R;refine wpAny_bind (m:=field (.ref z) 2) (wpAny_field hz rfl (x:=.bool false) rfl ?_);refine wpAny_bind (m:=field (.ref z) 3) (wpAny_field hz rfl (x:=.ref a) rfl ?_);refine wpAny_bind (m:=seqItems? (.ref a)) (wpAny_seqItems hti rfl ?_);refine wpAny_bind (m:=Builtin.SmallTypes.ownedTupleIsFree (.ref z)) ?_;unfold Builtin.SmallTypes.ownedTupleIsFree;refine wpAny_bind (wpAny_field hz rfl (x:=.none) rfl (wpAny_pure ?_));simp only[if_true];refine wpAny_bind (wpAny_rule (wpAny_bind (wpAny_field hz rfl (x:=.ref b) rfl (wpAny_bind (wpAny_setField_rec hz (by simp) λg1 z1 s1=>?_)))));have z1':IsZip g1 z a b .ellipsis:=z1;refine wpAny_bind ?_;simp only[List.zipIdx_cons,List.zipIdx_nil,forIn_cons,forIn_nil];refine wpAny_bind (wpAny_bind (wpAny_onRaise ?_));refine wpAny_bind (m:=Builtin.SmallTypes.nextOf (.ref i1)) ?_;cases hx:xs[k]? with
 |none =>
  refine lD hh (n1.extBut s1.extBut D.z1) (h1.extBut s1.extBut D.tz.1) hx λg2 e s2 he=>?_;obtain⟨oe,e1,e2⟩:=he;have z2':IsZip g2 z a b .ellipsis:=s2 _ _ D.z1.symm z1';have ne:e≠z:=λc=>by rw[c,z2']at e1;cases e1;simp at e2
  exact wpAny_setField_rec z2' (by simp) λg3 _ s3=>q g3 e (λc o c1 _ c3 _ h=>s3.extBut _ _ c1 (s2 _ _ c3 (s1.extBut _ _ c1 h))) ⟨oe,s3.extBut _ _ ne e1,e2⟩
 |some x =>
  have hy:ys[k]?=none:=hend.resolve_left (by rw[hx];simp);refine gM (n1.extBut s1.extBut D.z1) (h1.extBut s1.extBut D.tz.1) hx λg2 m1 s2=>wpAny_pure ?_;have to2:IsPair g2 b u v:=s2.extBut _ _ D.b1 (s1.extBut _ _ D.bz hto);refine wpAny_bind (wpAny_seqItems to2 rfl (wpAny_bind (wpAny_updateSeq_pair to2 λg3 to3 s3=>wpAny_bind (wpAny_letGo (wpAny_pure ?_)))));refine wpAny_bind (wpAny_bind (wpAny_onRaise (wpAny_bind (m:=Builtin.SmallTypes.nextOf (.ref i2)) (lD hh (((n2.extBut s1.extBut D.z2).extBut s2.extBut D.d12.symm).extBut s3.extBut D.b2.symm)
   (((h2.extBut s1.extBut D.tz.2).extBut s2.extBut D.t1n.2).extBut s3.extBut D.tb.2) hy λg4 e s4 he=>?_))))
  obtain⟨oe,e1,e2⟩:=he;have z4':IsZip g4 z a b .ellipsis:=s4 _ _ D.z2.symm (s3.extBut _ _ D.bz.symm (s2.extBut _ _ D.z1.symm z1'));have ne:e≠z:=λc=>by rw[c,z4']at e1;cases e1;simp at e2
  exact wpAny_setField_rec z4' (by simp) λg5 _ s5=>q g5 e (λc o c1 c2 c3 c4 h=>s5.extBut _ _ c1 (s4 _ _ c4 (s3.extBut _ _ c2 (s2.extBut _ _ c3 (s1.extBut _ _ c1 h))))) ⟨oe,s5.extBut _ _ ne e1,e2⟩
theorem pW{z a b i1 i2 t1 t2:Addr}{k:Nat}{xs ys:Array Value}{x y:Value}{Q:Option Value→Shared→Prop}(D:Apart z a b i1 i2 t1 t2)(R:Rec s.heap z a b i1 i2 t1 t2 .none k)(h1:s.heap.IsTuple t1 xs)(h2:s.heap.IsTuple t2 ys)(hx:xs[k]?=some x)(hy:ys[k]?=some y)(q:∀g,Rec g z a b i1 i2 t1 t2 (rawInt s.heap.objs.size) (k+1)→IsPair g s.heap.objs.size x y→(∀c o,c≠z→c≠b→c≠i1→c≠i2→s.heap.get? c=some o→g.get? c=some o)→Q (some (.ref s.heap.objs.size)) {s with heap:=g}):
  wpAny (model prog w) A (pyNext (.ref z)) Q E s:=by
 have hT:s.TypeIs (.ref z) "zip":=⟨_,R.zz,rfl⟩;unfold pyNext;exact wpAny_bind (wpAny_attempt (wpAny_callSpecial?_slot (name:=ofString "__next__") hT F.slot_zip_next (wpAny_call_entry F.slot_zip_next hT F.entry_zip_next (sG D R h1 h2 hx hy λg r n k=>wpAny_pure (q g r n k)) (F.args_zip_next_1 _))))
theorem sH{z a b i1 i2 t1 t2:Addr}{k:Nat}{xs ys:Array Value}{Q:Option Value→Shared→Prop}(hh:A.handled=none)(D:Apart z a b i1 i2 t1 t2)(R:Rec s.heap z a b i1 i2 t1 t2 .none k)(h1:s.heap.IsTuple t1 xs)(h2:s.heap.IsTuple t2 ys)(hend:xs[k]?=none∨ys[k]?=none)(q:∀g,(∀c o,c≠z→c≠b→c≠i1→c≠i2→s.heap.get? c=some o→g.get? c=some o)→Q none {s with heap:=g}):wpAny (model prog w) A (pyNext (.ref z)) Q E s:=by
 have hT:s.TypeIs (.ref z) "zip":=⟨_,R.zz,rfl⟩;unfold pyNext;refine wpAny_bind (wpAny_attempt (wpAny_callSpecial?_slot (name:=ofString "__next__") hT F.slot_zip_next (wpAny_call_entry F.slot_zip_next hT F.entry_zip_next (ux hh D R h1 h2 hend λg e k he=>?_) (F.args_zip_next_1 _))));obtain⟨o,e1,e2⟩:=he;exact wpAny_bind (wpAny_isInstance (T:="StopIteration") (b:=true) ⟨o,e1,e2⟩ isSubtype_stop (wpAny_pure (q g k)))
def made(h:Heap)(t1 t2:Addr):Heap :=
 ((((h.push {cls:=.type "tuple_iterator",data:=.fields #[.ref t1,.int 0 0]}).push {cls:=.type "tuple_iterator",data:=.fields #[.ref t2,.int 0 0]}).push {cls:=.type "tuple",data:=.seq #[.ref h.objs.size,.ref (h.objs.size+1)]}).push
  {cls:=.type "tuple",data:=.seq #[.none,.none]}).push {cls:=.type "zip",data:=.fields #[.none,.bool false,.bool false,.ref (h.objs.size+2),.ref (h.objs.size+3)]}
theorem wI(t1 t2:Addr)(xs ys:Array Value):Meets (Builtin.«zip.__new__» ⟨[.type "zip",.ref t1,.ref t2],[]⟩) (λ_ R s=>s.heap.IsTuple t1 xs∧s.heap.IsTuple t2 ys∧R (.ok (.ret (.ref (s.heap.objs.size+4)))) {s with heap:=made s.heap t1 t2}) :=
 .of_wp λprog w A R s h=>by
  obtain⟨hp,g,d,tk,os⟩:=s;obtain⟨k1,k2,h⟩:=h;have hsub:=sub_zip;have u1:IsTuple (Shared.heap ⟨hp,g,d,tk,os⟩) t1 xs:=k1;have u2:IsTuple (Shared.heap ⟨hp.push {cls:=.type "tuple_iterator",data:=.fields #[.ref t1,.int 0 0]},g,d,tk,os⟩) t2 ys:=IsTuple.push k2 _
  wp_walk using wpAny_pyIter_tuple u1,wpAny_pyIter_tuple u2
  refine⟨_,rfl,?_⟩;unfold made at h;simp only[size_push];exact h
theorem uy{t1 t2:Addr}{xs ys:Array Value}{Q:Value→Shared→Prop}(h1:s.heap.IsTuple t1 xs)(h2:s.heap.IsTuple t2 ys)(q:Q (.ref (s.heap.objs.size+4)) {s with heap:=made s.heap t1 t2}):wpAny (model prog w) A (call (.type "zip") [.ref t1,.ref t2]) Q E s:=by
 refine callType_new F.called_zip (by decide) (F.typeCall_zip_2 _ _) (F.newCall_zip_2 _ _) (λobj=>F.args_object_init_3 obj _ _) F.entry_zip_new (wI t1 t2 xs ys) ⟨h1,h2,?_⟩;have e:(made s.heap t1 t2).get? (s.heap.objs.size+4)=some {cls:=.type "zip",data:=.fields #[.none,.bool false,.bool false,.ref (s.heap.objs.size+2),.ref (s.heap.objs.size+3)]}:=by
  unfold made;have:=get?_push_size ((((s.heap.push {cls:=.type "tuple_iterator",data:=.fields #[.ref t1,.int 0 0]}).push {cls:=.type "tuple_iterator",data:=.fields #[.ref t2,.int 0 0]}).push {cls:=.type "tuple",data:=.seq #[.ref s.heap.objs.size,.ref (s.heap.objs.size+1)]}).push {cls:=.type "tuple",data:=.seq #[.none,.none]})
   (o:={cls:=.type "zip",data:=.fields #[.none,.bool false,.bool false,.ref (s.heap.objs.size+2),.ref (s.heap.objs.size+3)]}) rfl
  simpa only [size_push]using this
 exact⟨⟨_,e,rfl⟩,q⟩
end
end ZT
namespace L2
open PySem PySem.Spec PyProof.Rows
section
variable{X:Cx}{tg:Expr}
def Itz(K:PySem.W.Frag)(t1 t2:Addr):It :=
 ⟨λi H=>∃xs ys x y,SqT K H t1 xs∧SqT K H t2 ys∧xs[i]?=some x∧ys[i]?=some y,λi H v H'=>∃p x y,H p=none∧v=.ref p∧(∀xs,SqT K H t1 xs→xs[i]?=some x)∧(∀ys,SqT K H t2 ys→ys[i]?=some y)∧H'=upd H p (.tup [x,y]),
  λi H=>∃xs ys,SqT K H t1 xs∧SqT K H t2 ys∧(xs.length≤i∨ys.length≤i)⟩
theorem uz{P:Program}{w:World}{K:PySem.W.Frag}{es:List Expr}{k:Nat}{p0:Pos}(z a b i1 i2 t1 t2:Addr)(D:ZT.Apart z a b i1 i2 t1 t2):
  Turn P w K (.Tuple es k p0) (Itz K t1 t2) [z,a,b,i1,i2] z (λi h=>ZT.Rec h z a b i1 i2 t1 t2 .none i) where
 mem:=by simp
 obj:=λi h R c hc=>by
  obtain⟨z1,z2,⟨u,v,z3⟩,⟨o4,z4,_,z4'⟩,⟨o5,z5,_,z5'⟩⟩:=R;simp only[mem_cons,not_mem_nil,or_false]at hc;rcases hc with rfl|rfl|rfl|rfl|rfl
  ·exact⟨_,z1,λv z=>nomatch z⟩
  ·exact⟨_,z2,λv z=>nomatch z⟩
  ·exact⟨_,z3,λv z=>nomatch z⟩
  ·exact⟨_,z4,λv z=>by rw[z4']at z;cases z⟩
  ·exact⟨_,z5,λv z=>by rw[z5']at z;cases z⟩
 keep:=λi h h' R kp=>by
  obtain⟨z1,z2,⟨u,v,z3⟩,⟨o4,z4,r4⟩,⟨o5,z5,r5⟩⟩:=R;exact⟨kp _ (by simp) _ z1,kp _ (by simp) _ z2,⟨u,v,kp _ (by simp) _ z3⟩,⟨o4,kp _ (by simp) _ z4,r4⟩,⟨o5,kp _ (by simp) _ z5,r5⟩⟩
 item:=by
  intro X hP hw hK hc i pins s σ H E I hf st hg;subst hP hw hK;obtain⟨xs,ys,x,y,hq1,hq2,hx,hy⟩:=hg;obtain⟨its1,rv1,k1,_⟩:=I.tuple hq1;obtain⟨its2,rv2,k2,_⟩:=I.tuple hq2;obtain⟨u1,hu1,ru1⟩:=rv1.get hx;obtain⟨u2,hu2,ru2⟩:=rv2.get hy;refine ZT.pW D st k1 k2 (x:=u1) (y:=u2) (by simpa using hu1) (by simpa using hu2) λg R' new kp=>⟨_,rfl,?_⟩;refine wpAny_letOwnedTupleGo_zip R'.zz λg' z' sb=>?_;have nz:s.heap.objs.size≠z:=ne_of_gt (lt_size st.zz);have kp':∀c o,c≠z→c≠b→c≠i1→c≠i2→s.heap.get? c=some o→g'.get? c=some o:=λc o c1 c2 c3 c4 e=>(sb.2 c c1).trans (kp c o c1 c2 c3 c4 e);have kpO:∀c o,c∉[z,a,b,i1,i2]→s.heap.get? c=some o→g'.get? c=some o:=λc o hn e=>kp' c o (λq=>hn (by simp[q])) (λq=>hn (by simp[q])) (λq=>hn (by simp[q])) (λq=>hn (by simp[q])) e;have hnot:∀c o,H c=some o→c∉[z,a,b,i1,i2]:=λc o e hm=>by rw[(hf c hm).1]at e;cases e
  have nsz:∀c o,s.heap.get? c=some o→c≠s.heap.objs.size:=λc o e=>ne_of_lt (lt_size e);have trk:∀c o,H c=some o→c≠s.heap.objs.size:=λc o e=>ne_of_lt (I.hok.lt e);have new':g'.get? s.heap.objs.size=some {cls:=.type "tuple",data:=.seq #[u1,u2]}:=(sb.2 _ nz).trans new;have R2:ZT.Rec g' z a b i1 i2 t1 t2 .none (i+1):=by
   obtain⟨_,z2,⟨u,v,z3⟩,⟨o4,z4,r4⟩,⟨o5,z5,r5⟩⟩:=R';exact⟨z',(sb.2 _ D.az).trans z2,⟨u,v,(sb.2 _ D.bz).trans z3⟩,⟨o4,(sb.2 _ D.z1).trans z4,r4⟩,⟨o5,(sb.2 _ D.z2).trans z5,r5⟩⟩
  have okH:HOk X.prog X.w (upd H s.heap.objs.size (.tup [x,y])) g':=λc o e=>by
   by_cases ec:c=s.heap.objs.size
   ·subst ec;rw[ac]at e;cases e;exact⟨by show 2≤sizeLine;rw[sizeLine_eq];decide,[u1,u2],.cons ru1 (.cons ru2 .nil),⟨_,new',rfl,0,rfl⟩⟩
   ·rw[aj ec]at e;refine(I.hok c o e).stay (λd v hd q=>kpO d v ?_ q) (λd q=>by rw[aj (trk d _ q)];exact q) λd zs q=>by rw[aj (trk d _ q)];exact q
    rcases hd with rfl|hd
    ·exact hnot _ _ e
    ·exact hnot _ _ hd
  have I2:Inv X pins σ (upd H s.heap.objs.size (.tup [x,y])) {s with heap:=g'}:=by
   refine I.step (g':=s.gens) (t':=s.toks) (d':=s.drawn) (ch:=[z,a,b,i1,i2]) (λc hc'=>?_) (λc o _ _ hn e _=>kpO c o hn e) (λc o _ _ hn e _=>⟨o.slots,kpO c o hn e⟩) (λc o _ e n=>by rw[aj (nsz c o e)];exact n) (λc o hn e=>⟨o,kpO c o hn e⟩)
    (λc zs q=>by rw[aj (trk c _ q)];exact q) (λc o u q=>by rw[aj (trk c _ q)];exact q) (λc ps q=>⟨#[],by rw[aj (trk c _ q),q];simp⟩) (λm hm=>?_) okH I.bare
   ·obtain⟨f0,f1,f2,f3,f4,f5⟩:=hf c hc';exact⟨f3,f1,f4,f5⟩
   ·obtain⟨o,es',ep,ho,r⟩:=hm;exact⟨o,es',ep,kpO _ o (λhm'=>(hf _ hm').2.1 rfl) ho,r⟩
  refine⟨.ref s.heap.objs.size,_,I2,rfl,⟨s.heap.objs.size,x,y,I.hok.fresh (le_refl _),rfl,λzs hz=>?_,λzs hz=>?_,rfl⟩,R2,λc hc'=>?_⟩
  ·rw[I.tuple_inj hz hq1];exact hx
  ·rw[I.tuple_inj hz hq2];exact hy
  ·obtain⟨o,e,_⟩:∃o,s.heap.get? c=some o∧True:=by
    obtain⟨z1,z2,⟨u,v,z3⟩,⟨o4,z4,_⟩,⟨o5,z5,_⟩⟩:=st;simp only[mem_cons,not_mem_nil,or_false]at hc';rcases hc' with rfl|rfl|rfl|rfl|rfl
    ·exact⟨_,z1,trivial⟩
    ·exact⟨_,z2,trivial⟩
    ·exact⟨_,z3,trivial⟩
    ·exact⟨_,z4,trivial⟩
    ·exact⟨_,z5,trivial⟩
   rw[aj (nsz c o e)];exact(hf c hc').1
 done:=by
  intro X hP hw hK hc i pins s σ H E I hf st hg;subst hP hw hK;obtain⟨xs,ys,hq1,hq2,hle⟩:=hg;obtain⟨its1,rv1,k1,_⟩:=I.tuple hq1;obtain⟨its2,rv2,k2,_⟩:=I.tuple hq2;have e1:=rv1.length;have e2:=rv2.length;refine ZT.sH (I.ok.hd hc) D st k1 k2 (by rcases hle with h|h;left;simp;omega;right;simp;omega) λg kp=>⟨rfl,?_⟩;have kpO:∀c o,c∉[z,a,b,i1,i2]→s.heap.get? c=some o→g.get? c=some o:=λc o hn e=>kp c o (λq=>hn (by simp[q])) (λq=>hn (by simp[q])) (λq=>hn (by simp[q])) (λq=>hn (by simp[q])) e;have hnot:∀c o,H c=some o→c∉[z,a,b,i1,i2]:=λc o e hm=>by rw[(hf c hm).1]at e;cases e
  refine I.step (g':=s.gens) (t':=s.toks) (d':=s.drawn) (ch:=[z,a,b,i1,i2]) (λc hc'=>?_) (λc o _ _ hn e _=>kpO c o hn e) (λc o _ _ hn e _=>⟨o.slots,kpO c o hn e⟩) (λc o _ e n=>n) (λc o hn e=>⟨o,kpO c o hn e⟩)
   (λc zs q=>q) (λc o u q=>q) (λc ps q=>⟨#[],by rw[q];simp⟩) (λm hm=>?_) (λc o e=>?_) I.bare
  ·obtain⟨f0,f1,f2,f3,f4,f5⟩:=hf c hc';exact⟨f3,f1,f4,f5⟩
  ·obtain⟨o,es',ep,ho,r⟩:=hm;exact⟨o,es',ep,kpO _ o (λhm'=>(hf _ hm').2.1 rfl) ho,r⟩
  ·refine(I.hok c o e).stay (λd v hd q=>kpO d v ?_ q) (λd q=>q) λd zs q=>q;rcases hd with rfl|hd
   ·exact hnot _ _ e
   ·exact hnot _ _ hd
 self:=λA i s Q E st hq=>wpAny_pyIter_zip st.zz hq
theorem yK{es:List Expr}{k:Nat}{p0:Pos}{a b:Expr}{ta:TA}{p pos:Pos}(hg:Gl X "zip")(hm:X.mg "zip"=none)(ha:PA X [a,b] ta)(hs:starEach [a,b] X.env=[(false,eval a X.env),(false,eval b X.env)]:=by rfl)(hs2:starEach [b] X.env=[(false,eval b X.env)]:=by rfl):
  PI X (.Tuple es k p0) (.Call (.Name "zip" p) [a,b] [] pos) (λσ H R=>ta σ H λvs H1=>∃t1 t2 xs ys,vs=[.ref t1,.ref t2]∧H1 t1=some (.tup xs)∧H1 t2=some (.tup ys)∧R (Itz X.K t1 t2) H1):=by
 intro pins s σ H R I h;refine Call_ (jx I hg hm boot_zip (PyProof.Rows.callWith_type1 (thn (ha pos pins s σ H _ I h) λus s1 ⟨vs,H1,I1,r1,q1⟩=>?_) (by rw[hs,hs2]) (by rw[hs2];rfl)));obtain⟨t1,t2,xs,ys,e,ht1,ht2,q⟩:=q1;subst e;obtain⟨u1,u2,rfl,ru1,ru2⟩:=tL r1;cases ru1;cases ru2;obtain⟨its1,rv1,k1,hz1⟩:=I1.tuple (SqT.of ht1);obtain⟨its2,rv2,k2,hz2⟩:=I1.tuple (SqT.of ht2);refine ZT.uy k1 k2 ?_;generalize hn:s1.heap.objs.size=n;have keep:∀c o,s1.heap.get? c=some o→(ZT.made s1.heap t1 t2).get? c=some o:=λc o e=>by
  unfold ZT.made;exact get?_push_of_some _ (get?_push_of_some _ (get?_push_of_some _ (get?_push_of_some _ (get?_push_of_some _ e))))
 have rec0:ZT.Rec (ZT.made s1.heap t1 t2) (n+4) (n+2) (n+3) n (n+1) t1 t2 .none 0:=by
  subst hn;unfold ZT.made;refine⟨?_,?_,⟨.none,.none,?_⟩,⟨{cls:=.type "tuple_iterator",data:=.fields #[.ref t1,.int 0 0]},?_,rfl,rfl⟩,⟨{cls:=.type "tuple_iterator",data:=.fields #[.ref t2,.int 0 0]},?_,rfl,rfl⟩⟩
  ·have:=get?_push_size ((((s1.heap.push {cls:=.type "tuple_iterator",data:=.fields #[.ref t1,.int 0 0]}).push {cls:=.type "tuple_iterator",data:=.fields #[.ref t2,.int 0 0]}).push {cls:=.type "tuple",data:=.seq #[.ref s1.heap.objs.size,.ref (s1.heap.objs.size+1)]}).push {cls:=.type "tuple",data:=.seq #[.none,.none]})
    (o:={cls:=.type "zip",data:=.fields #[.none,.bool false,.bool false,.ref (s1.heap.objs.size+2),.ref (s1.heap.objs.size+3)]}) rfl
   simpa only [size_push]using this
  ·refine get?_push_of_some _ (get?_push_of_some _ ?_);have:=get?_push_size ((s1.heap.push {cls:=.type "tuple_iterator",data:=.fields #[.ref t1,.int 0 0]}).push {cls:=.type "tuple_iterator",data:=.fields #[.ref t2,.int 0 0]}) (o:={cls:=.type "tuple",data:=.seq #[.ref s1.heap.objs.size,.ref (s1.heap.objs.size+1)]}) rfl;simpa only [size_push]using this
  ·refine get?_push_of_some _ ?_;have:=get?_push_size (((s1.heap.push {cls:=.type "tuple_iterator",data:=.fields #[.ref t1,.int 0 0]}).push {cls:=.type "tuple_iterator",data:=.fields #[.ref t2,.int 0 0]}).push {cls:=.type "tuple",data:=.seq #[.ref s1.heap.objs.size,.ref (s1.heap.objs.size+1)]}) (o:={cls:=.type "tuple",data:=.seq #[.none,.none]}) rfl;simpa only [size_push]using this
  ·exact get?_push_of_some _ (get?_push_of_some _ (get?_push_of_some _ (get?_push_of_some _ (get?_push_size _ rfl))))
  ·refine get?_push_of_some _ (get?_push_of_some _ (get?_push_of_some _ ?_));have:=get?_push_size (s1.heap.push {cls:=.type "tuple_iterator",data:=.fields #[.ref t1,.int 0 0]}) (o:={cls:=.type "tuple_iterator",data:=.fields #[.ref t2,.int 0 0]}) rfl;simpa only [size_push]using this
 have l1:t1<n:=by rw[←hn];exact I1.hok.lt ht1
 have l2:t2<n:=by rw[←hn];exact I1.hok.lt ht2
 have D:=ZT.uw n t1 t2 l1 l2;refine wpAny_pyIter_zip rec0.zz ?_;refine⟨n+4,[n+4,n+2,n+3,n,n+1],_,Itz X.K t1 t2,H1,rfl,I1.kept (t':=s1.toks) keep,uz _ _ _ _ _ _ _ D,rec0,λc hc=>?_,q⟩;have hle:s1.heap.objs.size≤c:=by
  rw[hn];simp only[mem_cons,not_mem_nil,or_false]at hc;rcases hc with rfl|rfl|rfl|rfl|rfl
  ·exact le_add_right _ _
  ·exact le_add_right _ _
  ·exact le_add_right _ _
  ·exact le_refl _
  ·exact le_add_right _ _
 exact I1.fpOk hle (I1.hok.fresh hle)
abbrev ia:=Addr×Int×List V
def gB(zs:List ia)(i:Nat):Int:=(zs.getD i (0,0,[])).2.1
theorem uA{zs:List ia}(h:(zs.map (·.2.1)).Nodup):SRT.Ord (λi j=>decide (gB zs i<gB zs j)) zs.length:=by
 refine⟨λi _=>by simp,λi j k _ _ _ h1 h2=>?_,λi j hi hj hij=>?_⟩
 ·simp only[decide_eq_true_eq]at *;omega
 ·simp only[decide_eq_true_eq];have:gB zs i≠gB zs j:=by
   unfold gB;rw[getD_eq_getElem?_getD,getD_eq_getElem?_getD,getElem?_eq_getElem hi,getElem?_eq_getElem hj];intro e;have e':(zs.map (·.2.1))[i]'(by simpa using hi)=(zs.map (·.2.1))[j]'(by simpa using hj):=by simpa using e
   exact hij ((getElem_inj h).mp e')
  omega
theorem oN{prog:Program}{w:World}{A:Around}{s:Shared}{b:Bool}{Q:Bool→Shared→Prop}(h:Q false s):∀(l:List Value)(i:Nat),PySem.W.KatLex prog w A b false Q (l.zip l) i s
 |[],i=>h
 |v::l,i=>kat_cons (EqAt.same v prog w _ _ (PySem.W.kat_yes (oN h l (i+1))))
theorem cE:cz X (.builtin "sorted") (λxs H Q=>∃l,∃zs:List ia,xs=[.ref l]∧(SqL X.K H l ((zs.map (·.1)).map V.ref)∨SqT X.K H l ((zs.map (·.1)).map V.ref))∧(∀z∈zs,H z.1=some (.tup (.int z.2.1::z.2.2)))∧(zs.map (·.2.1)).Nodup∧zs.length<64 ∧
  ∀zs':List ia,zs'.Perm zs→zs'.Pairwise (λa b=>a.2.1<b.2.1)→∀p,H p=none→Q (.ref p) (upd H p (.lst ((zs'.map (·.1)).map V.ref)))):=by
 intro pins s σ H xs us Q I r h;obtain⟨l,zs,rfl,hq,hk,hnd,h64,q⟩:=h;obtain⟨u,rfl,ru⟩:=eB r;cases ru;obtain⟨its,rv,pl⟩:∃its,aH ((zs.map (·.1)).map V.ref) its∧(s.heap.IsList l its.toArray∨IsTup s.heap l its.toArray):=by
  rcases hq with hq|hq
  ·obtain⟨its,rv,pl,hz⟩:=I.list hq;exact⟨its,rv,.inl pl.isList⟩
  ·obtain⟨its,rv,pl,hz⟩:=I.tuple hq;exact⟨its,rv,.inr pl⟩
 have e:=dw rv;subst e;have hlen:((zs.map (·.1)).map Value.ref).length=zs.length:=by simp
 have hobj:∀z∈zs,∃o its n t,s.heap.get? z.1=some o∧o.cls=.type "tuple"∧o.data=.seq its n∧its.toList=.int z.2.1 t::its.toList.drop 1:=λz hz'=>by
  obtain⟨_,its,rr,o,e1,e2,n,e3⟩:=I.hok z.1 _ (hk z hz');cases rr with
  |cons r1 r2 =>
   obtain⟨t,rfl⟩:=r1;exact⟨o,_,n,t,e1,e2,e3,by simp⟩
 have hget:∀i,i<zs.length→((zs.map (·.1)).map Value.ref).getD i Value.none=.ref (zs.getD i (0,0,[])).1∧zs.getD i (0,0,[])∈zs:=λi hi=>by
  rw[getD_eq_getElem?_getD,getD_eq_getElem?_getD,getElem?_map,getElem?_map,getElem?_eq_getElem hi];exact⟨rfl,getElem_mem hi⟩
 refine SRT.jT (κ:=tuples' true) (f:=λi j=>decide (gB zs i<gB zs j)) (by rw[hlen];exact uA hnd) pl (by rw[hlen];exact h64) ?kind ?less ?fin
 case kind =>
  intro A' s' _ kp Q' h2 hQ';have key:∀ys:List ia,(∀z∈ys,z∈zs)→∃fs:List Value,KatTups s'.heap ((ys.map (·.1)).map Value.ref) fs∧fs.length=ys.length∧∀v∈fs,∃i t,v=Value.int i t:=by
   intro ys
   induction ys with
   |nil=>intro _;exact⟨[],KatTups.nil,rfl,λv hv=>by simp at hv⟩
   |cons z ys ih =>
    intro hm;obtain⟨fs,h1,h2',h3⟩:=ih λy hy=>hm y (by simp[hy]);obtain⟨o,its,n,t,e1,e2,e3,e4⟩:=hobj z (hm z (by simp));refine⟨.int z.2.1 t::fs,KatTups.cons (kp _ _ e1) e2 e3 ?_ h1,by simp[h2'],λv hv=>?_⟩
    ·rw[←getElem?_toList,e4];rfl
    ·rcases mem_cons.mp hv with rfl|hv
     ·exact⟨_,_,rfl⟩
     ·exact h3 v hv
  obtain⟨fs,h1,h2',h3⟩:=key zs λz hz'=>hz';refine PySem.W.kat_kind (T:=.type "int") h1 (by rw[h2'];rw[hlen]at h2;omega) (λv hv=>?_) (by rfl) hQ';obtain⟨i,t,rfl⟩:=h3 v hv;exact .now
 case less =>
  intro A' s' _ kp i j C hi hj hC;rw[hlen]at hi hj;obtain⟨gi,mi⟩:=hget i hi;obtain⟨gj,mj⟩:=hget j hj;rw[gi,gj];obtain⟨oi,ii,ni,ti,a1,a2,a3,a4⟩:=hobj _ mi;obtain⟨oj,ij,nj,tj,b1,b2,b3,b4⟩:=hobj _ mj;refine PySem.W.kat_lt (kp _ _ a1) a3 (kp _ _ b1) b3 ?_
  by_cases hij:i=j
  ·subst hij;rw[a1]at b1;cases b1;rw[a3]at b3;cases b3;have:C false s':=by simpa using hC
   have e2:decide (ii.size<ii.size)=false:=by simp
   rw[e2];exact oN this _ _
  ·have hne:gB zs i≠gB zs j:=by
    rcases (uA hnd).tot i j hi hj hij with h1|h1<;>simp only[decide_eq_true_eq]at h1<;>omega
   rw[a4,b4];refine kat_cons (wpAny_eqBool_int ?_);have e2:((zs.getD i (0,0,[])).2.1==(zs.getD j (0,0,[])).2.1)=false:=beq_eq_false_iff_ne.mpr hne;rw[e2];refine PySem.W.kat_no ?_;exact kat_lt_int hC
 case fin =>
  intro p h' hrow hup kp _ hg;obtain⟨c,hg⟩:=hg;rw[hlen]at hrow hup;obtain⟨zs',hzs'⟩:∃zs',zs'=p.toList.map λi=>zs.getD i (0,0,[]):=⟨_,rfl⟩;have hperm:zs'.Perm zs:=by
   rw[hzs'];refine(hrow.perm.map _).trans ?_;have:(List.range zs.length).map (λi=>zs.getD i (0,0,[]))=zs:=by
    apply ext_getElem?;intro i;rw[getElem?_map]
    by_cases hi:i<zs.length
    ·rw[getElem?_range hi,getElem?_eq_getElem hi];show some (zs.getD i (0,0,[]))=_;rw[getD_eq_getElem?_getD,getElem?_eq_getElem hi];rfl
    ·rw[getElem?_eq_none (by rw[length_range];omega),getElem?_eq_none (by omega)];rfl
   rw[this]
  have hpl:p.size=zs.length:=hrow.size;have hpw:zs'.Pairwise (λa b=>a.2.1<b.2.1):=by
   rw[pairwise_iff_getElem];intro i j hi hj hij;have hi':i<p.size:=by rw[hzs',length_map,length_toList]at hi;exact hi
   have hj':j<p.size:=by rw[hzs',length_map,length_toList]at hj;exact hj
   have:=hup i j hij (by omega);simp only[decide_eq_true_eq,gB]at this;rw[getD_eq_getD_getElem?,getD_eq_getD_getElem?,Array.getElem?_eq_getElem hi',Array.getElem?_eq_getElem hj']at this;simpa [hzs']using this
  have hout:(toArray (p.toList.map λi=>((zs.map (·.1)).map Value.ref).getD i Value.none))=((zs'.map (·.1)).map Value.ref).toArray:=by
   congr 1
   rw[hzs'];simp only[map_map];apply map_congr_left;intro i hi;have hi':i<zs.length:=mem_range.mp (hrow.perm.mem_iff.mp hi);have:=(hget i hi').1;simp only[map_map]at this;exact this
  rw[hout]at hg;have hv:aH ((zs'.map (·.1)).map V.ref) ((zs'.map (·.1)).map Value.ref):=by
   generalize zs'.map (·.1)=as
   induction as with
   |nil=>exact .nil
   |cons a as ih=>exact .cons rfl ih
  refine⟨.ref (s.heap.objs.size+1),_,I.laid (t':=s.toks) (o:=.lst ((zs'.map (·.1)).map V.ref)) kp (le_succ _) ⟨?_,_,c,hv,hg⟩,rfl,q zs' hperm hpw _ (I.hok.fresh (le_succ _))⟩;rw[length_map,length_map,hperm.length_eq,sizeLine_eq];omega
theorem iJ:cz X (.builtin "sorted") (λxs H Q=>∃l,∃zs:List ia,xs=[.ref l]∧SqL X.K H l ((zs.map (·.1)).map V.ref)∧(∀z∈zs,H z.1=some (.tup (.int z.2.1::z.2.2)))∧(zs.map (·.2.1)).Nodup∧zs.length<64 ∧
  ∀zs':List ia,zs'.Perm zs→zs'.Pairwise (λa b=>a.2.1<b.2.1)→∀p,H p=none→Q (.ref p) (upd H p (.lst ((zs'.map (·.1)).map V.ref)))) :=
 λpins s σ H xs us Q I r ⟨l,zs,e,hq,h⟩=>cE pins s σ H xs us Q I r ⟨l,zs,e,.inl hq,h⟩
end
theorem mY{scope:Scope}{env:Env}(h:∀y∈scope.names,y.2≠.free):relabel scope env=scope:=by
 unfold relabel;rw[map_eq_self (l:=scope.names) (λx hx=>by
  obtain⟨n,k⟩:=x;have:(k==NameKind.free)=false:=by simpa using h _ hx
  simp[this])]
theorem cF{X:Cx}{scope:Scope}(hk:scope.kind=.function)(hf:∀y∈scope.names,y.2≠.free)(hc:∀y∈scope.names,y.2≠.cell)(hn:∀x∈scope.names,x.2=.local→scope.names.lookup x.1=some .local):LcOk X scope [] :=
 ⟨hk,closureFor_none hf,hn,hc,λx c h=>by simp at h,λx h=>by
  rw[mY hf]at h;rcases h with h|h
  ·exact absurd rfl (hc _ (PySem.mem_of_lookup h))
  ·exact absurd rfl (hf _ (PySem.mem_of_lookup h))⟩
theorem oO{k:Nat}{js:List Nat}{J:It}{g:TG}{te:TE}{σ:St}{H1:Hp}{Q:VK}{p:Addr}(n:Nat)(hn:n≤1000)(Pv:Nat→List V→St→Hp→Prop)(h0:Pv 0 [] (cT k js σ) (upd H1 p (.lst [])))(hy:∀i ys σ' H',Pv i ys σ' H'→ys.length≤i)(go:∀i ys σ' H',i<n→Pv i ys σ' H'→J.go i H')(stop:∀ys σ' H',Pv n ys σ' H'→J.stop n H'∧Q (.ref p) H')(step:∀i ys σ' H',i<n→Pv i ys σ' H'→∀x H2,J.yld i H' x H2→g x σ' H2 λσ2 H3=>te σ2 H3 λy H4=>H4 p=some (.lst ys)∧Pv (i+1) (ys++[y]) σ2 (upd H4 p (.lst (ys++[y]))))(mg:∀x σ H (Q Q':St→Hp→Prop),(∀σ H,Q σ H→Q' σ H)→g x σ H Q→g x σ H Q')(me:∀σ H (Q Q':VK),(∀y H,Q y H→Q' y H)→te σ H Q→te σ H Q'):
  LcW k js g te σ Q J H1 p:=by
 refine⟨λi m ys σ' H'=>m=n-i∧i≤n∧Pv i ys σ' H',⟨n,by simp,zero_le _,h0⟩,?_⟩;rintro i m ys σ' H' ⟨rfl,hi,hp⟩
 by_cases hlt:i<n
 ·refine .inr ⟨go i ys σ' H' hlt hp,?_,λx H2 y=>?_⟩
  ·have:=hy i ys σ' H' hp;exact lt_of_le_of_lt this (ax (by omega))
  ·refine mg _ _ _ _ _ (λσ2 H3 h3=>me _ _ _ _ (λz H4 h4=>⟨h4.1,n-(i+1),by omega,rfl,hlt,h4.2⟩) h3) (step i ys σ' H' hlt hp x H2 y)
 ·have e:i=n:=by omega
  subst e;exact .inl (stop ys σ' H' hp)
theorem af{H:Hp}{p:Addr}{o:HO}(h:H p=none):Same H (upd H p o):=λb u e=>by rw[aj (aq e h)];exact e
theorem aT{H:Hp}{p a:Addr}{o u:HO}(h:H p=none)(e:H a=some u):upd H p o a=some u:=by rw[aj (aq e h)];exact e
theorem aM{H0 H:Hp}{p:Addr}{o:HO}(h0:H0 p=none)(s:Same H0 H):Same H0 (upd H p o):=λb u e=>by
 rw[aj (aq e h0)];exact s b u e
structure Fly(P:Program)(w:World)(outer:List Env)(H:Hp)(s:Shared)(H':Hp)(ea C:Addr)(s':Shared):Prop where
 os:s'.os=s.os
 bare:AllBare s'.gens
 un:Un (frs outer) [] H H' s.heap s'.heap
 new:H' ea=none
 fly:∃B a0,FlyingW B outer ea (.ref C) a0 s'.heap∧HOk P w H' B∧(∀b o,s.heap.get? b=some o→H b=none→b∉frs outer→B.get? b=some o) ∧
  ∀b o,s.heap.get? b=some o→b∉frs outer→∃o',B.get? b=some o'
def CX1(P:Program)(w:World):CXT:=λouter H s E e s'=>∃ea C H',e=.ref ea∧Fly P w outer H s H' ea C s'∧E (.ref C) none H'
theorem bo.ex{P:Program}{w:World}{H:Hp}{h:Heap}{a:Addr}{o:HO}(x:bo P w H h a o):∃ob,h.get? a=some ob:=by
 cases o with
 |lst xs=>obtain⟨_,_,_,_,e⟩:=x;exact⟨_,e⟩
 |tup xs=>obtain⟨_,_,_,ob,e,_⟩:=x;exact⟨ob,e⟩
 |dK kvs=>obtain⟨_,_,_,_,o,_,_,e,_⟩:=x;exact⟨_,e⟩
 |dT kvs=>obtain⟨_,_,_,_,o,_,_,e,_⟩:=x;exact⟨_,e⟩
 |set S n=>obtain⟨o,_,_,_,e,_⟩:=x;exact⟨_,e⟩
 |ins C dx fs=>obtain⟨_,_,_,e,_⟩:=x;exact⟨_,e⟩
 |own y=>obtain⟨_,e⟩:=x;exact⟨_,e⟩
 |xd fs=>obtain⟨_,⟨_,_,_,e,_⟩,_⟩:=x;exact⟨_,e⟩
 |rng lo hi=>obtain⟨_,_,_,e⟩:=x;exact⟨_,e⟩
 |frz ob u=>obtain⟨e,_⟩:=x;exact⟨_,e⟩
 |tbl ps=>exact⟨_,(show h.get? a=some _ from x)⟩
 |met f y=>exact⟨_,(show h.get? a=some _ from x)⟩
 |ext φ=>obtain⟨_,⟨_,e⟩,_⟩:=x;exact⟨_,e⟩
theorem uB{P:Program}{w:World}{H:Hp}{h:Heap}{l:List Addr}(x:HOk P w H h)(hl:∀b∈l,H b=none):HOk P w H (hideAll h l):=λa o e =>
 (x a o e).stay (λb u hb q=>hideAll_get l q λz=>by
  have:=hl b z;rcases hb with hb|hb
  ·rw[hb,e]at this;cases this
  ·rw[hb]at this;cases this) (λ_ q=>q) λ_ _ q=>q
section
variable{P:Program}{w:World}{l:List Env}{H H':Hp}{h1 h2 h3 B:Heap}{ea:Addr}{cls a0:Value}
theorem uC(un:Un (frs l) [] H H' h1 h2)(fl:FlyingW B l ea cls a0 h2)(hB:HOk P w H' B)(kp:∀b o,h1.get? b=some o→H b=none→b∉frs l→B.get? b=some o)(th:∀b o,h1.get? b=some o→b∉frs l→∃o',B.get? b=some o')(st:B.StaysIn h3)(hs:h2.UpToSlots h3):Un (frs l) [] H H' h1 h3∧HOk P w H' h3:=by
 refine⟨⟨λb o e n hb _=>st b o (kp b o e n hb),λb o e n hb hx=>?_,un.free,λb o e _=>?_,un.tups,un.frzs,un.tbls⟩,hB.kept st⟩
 ·obtain⟨sl,q⟩:=un.slot b o e n hb hx;obtain⟨_,o',ho',hd⟩:=fl.2.2.1.mem hb;rw[q]at ho';cases ho';obtain⟨sl',q'⟩:=hs b _ q hd;exact⟨sl',q'⟩
 ·by_cases hb:b∈frs l
  ·obtain⟨_,o',ho',hd⟩:=fl.2.2.1.mem hb;obtain⟨sl',q'⟩:=hs b _ ho' hd;exact⟨_,q'⟩
  ·obtain⟨o',q⟩:=th b o e hb;exact⟨o',st b o' q⟩
end
section
variable{X:Cx}{pins:List (Addr×Obj)}{σ:St}{H H':Hp}{s s':Shared}{ea C:Addr}{E:XK}
theorem Inv.fly_up(I:Inv X pins σ H s)(hex:X.ex=[])(J:Inv X pins σ H' s')(new:H' ea=none){B:Heap}{a0:Value}(fl:FlyingW B X.outer ea (.ref C) a0 s'.heap)(hB:HOk X.prog X.w H' B)(kp:∀b o,s.heap.get? b=some o→H b=none→b∉frs X.stack→B.get? b=some o)(th:∀b o,s.heap.get? b=some o→b∉frs X.stack→∃o',B.get? b=some o'):Fly X.prog X.w X.outer X.H₀ X.s₀ H' ea C s':=by
 have ub:=I.base;rw[hex]at ub;have uj:=J.base;rw[hex]at uj;have ne:∀b o,X.s₀.heap.get? b=some o→b∉frs X.outer→b∉frs X.stack:=λb o e n hb=>by
  rcases mem_cons.mp (I.stkSub b hb)with z|z
  ·have:=lt_size e;rw[z]at this;exact absurd (lt_of_lt_of_le this I.ok.above) (lt_irrefl _)
  ·exact n z
 refine⟨J.os,J.bare,uj,new,B,a0,fl,hB,λb o e n hb=>?_,λb o e hb=>?_⟩
 ·exact kp b o (ub.keep b o e n hb (by simp)) (ub.free b o e n (by simp)) (ne b o e hb)
 ·obtain⟨o',q⟩:=ub.there b o e (by simp);exact th b o' q (ne b o e hb)
structure Lv(X:Cx)(E:XK):Prop where
 ex:X.ex=[]
 stk:X.stack=X.env::X.outer
 fr:X.env.frame=some X.env.locals
 xe:X.xe=λe s'=>wpAny (model X.prog X.w) X.A (leaving X.env e) (λ_ s''=>CX1 X.prog X.w X.outer X.H₀ X.s₀ E e s'') (λe' s''=>CX1 X.prog X.w X.outer X.H₀ X.s₀ E e' s'') s'
theorem bH{P:Program}{w:World}{K:PySem.W.Frag}{mg:Str→Option Value}{base:Heap}{N:List Str}{qual:Str}{scope:Scope}{f:Addr}{cd:Value}{A:Around}{outer:List Env}{s:Shared}{H:Hp}{E:XK} :
  Lv (gF (CX1 P w) P w K mg base N qual scope f cd A outer s H E) E:=⟨rfl,rfl,rfl,rfl⟩
theorem dq(L:Lv X E):eL (CX1 X.prog X.w) X E:=by
 intro pins σ H s e s' I h;obtain⟨ea,C,H',rfl,F,hE⟩:=h;rw[L.xe];obtain⟨B,a0,fl,hB,kp,th⟩:=id F.fly;have fl':=fl;rw[L.stk]at fl';refine wpAny_leaves_onW (by rw[I.ok.frames,L.stk]) L.fr fl' λh' fl2 hs=>?_;obtain⟨u,ok⟩:=uC F.un fl hB kp th fl2.1 hs;have J:Inv X pins σ H' {s' with heap:=h'}:=I.call' (s':={s' with heap:=h'}) F.os u ok F.bare λb z=>absurd z (by simp)
 exact⟨ea,C,H',rfl,I.fly_up L.ex J F.new fl2 hB kp th,hE⟩
theorem Inv.ground(I:Inv X pins σ H s):(hideAll s.heap (frs X.stack)).StaysIn s.heap∧s.heap.FunFrames (hideAll s.heap (frs X.stack)) X.stack∧HOk X.prog X.w H (hideAll s.heap (frs X.stack)) :=
 ⟨λb o q=>of_hideAll _ q,PySem.W.funFrames_hide I.stack λenv he b hb=>mem_filterMap.mpr ⟨env,he,hb⟩,uB I.hok I.stkFree⟩
theorem Ah(L:Lv X E)(I:Inv X pins σ H s){h':Heap}{vs:List Value}(hx:Heap.MadeExcOf s.heap h' ea (.ref C) vs)(hE:E (.ref C) none H):X.xe (.ref ea) {s with heap:=h'}:=by
 rw[L.xe];obtain⟨g1,g2,g3⟩:=I.ground;have g2':s.heap.FunFrames (hideAll s.heap (frs X.stack)) (X.env::X.outer):=L.stk ▸ g2;refine wpAny_leaves_madeW (s:={s with heap:=h'}) (by rw[I.ok.frames,L.stk]) L.fr g1 g2' hx λh'' t fl _ _ hs=>?_;have hs':s.heap.UpToSlots h'':=(Heap.UpToSlots.of_keeps hx.keeps).trans hs;have u:Un (frs X.stack) [] H H s.heap h'':=⟨λb o e n hb _=>fl.1 b o (hideAll_get _ e hb),λb o e n hb _=>by
   obtain⟨_,o',ho',hd⟩:=g2.mem hb;rw[e]at ho';cases ho';exact hs' b o e hd,λb o e n _=>n,λb o e _=>by
   by_cases hb:b∈frs X.stack
   ·obtain⟨_,o',ho',hd⟩:=g2.mem hb;obtain⟨sl,q⟩:=hs' b o' ho' hd;exact⟨_,q⟩
   ·exact⟨o,fl.1 b o (hideAll_get _ e hb)⟩,λ_ _ q=>q,λ_ _ _ q=>q,λb ps q=>⟨#[],by simpa using q⟩⟩
 have J:Inv X pins σ H {s with heap:=h''}:=I.call' (s':={s with heap:=h''}) rfl u (g3.kept fl.1) I.bare λb z=>absurd z (by simp)
 have new:H ea=none:=by
  cases q:H ea with
  |none=>rfl
  |some o =>
   obtain⟨ob,e⟩:=(I.hok ea o q).ex;have h2:=hx.new;rw[e]at h2;cases h2
 exact⟨ea,C,H,rfl,I.fly_up L.ex J new fl g3 (λb o e _ hb=>hideAll_get _ e hb) λb o e hb=>⟨o,hideAll_get _ e hb⟩,hE⟩
end
end L2
namespace XI
open PySem PySem.Spec PySem.W
section
variable{prog:Program}{w:World}{A:Around}{E:Value→Shared→Prop}{h:Heap}{g:Array GenState}{d:Drawn}{t:Nat}{os:OsState}{a:Addr}{o:Obj}{vs:Array Value}{nm q:Str}{C N:Addr}{bs bm:List Value}{hdct:Bool}{sn:List Str}{sub:List Value}{ab:Bool}{col:Option Bool}{dd:Option Addr}{k0 k1 k2 k3 k5:Option Value}{newId:String}
end
end XI
namespace L2
open PySem PySem.Spec PyProof.Rows
section
variable{X:Cx}{pins:List (Addr×Obj)}{σ:St}{H:Hp}{s:Shared}
def tF2(te:TE):TE:=λσ H Q=>te σ H λv H1=>∃i:Int,v=.int i∧0≤i∧i≤60∧∀y,Q (.str y) H1
theorem jV(i:Int)(h0:0≤i)(h1:i≤60):(ofString (toString i)).length≤100:=by
 have key:∀n:Fin 61,(ofString (toString ((n.val:Nat):Int))).length≤100:=by decide +kernel
 have:=key ⟨i.toNat,by omega⟩;have e:((i.toNat:Nat):Int)=i:=by omega
 rw[e]at this;exact this
theorem xT{x:Str}{j:Nat}{p1 p2 p3:Pos}{e:Expr}{te:TE}(he:PE X e te)(hx:x.length≤800):PE X (.JoinedStr [.Constant (.str x) j p1,.FormattedValue e (-1) none p2] p3) (tF2 te):=by
 intro pins s σ H Q I h;have hl:(empty++x).length≤800:=by rw[strLen_append];show 0+x.length≤800;omega
 refine JoinedStr_many (joinParts_cons (Constant_str ?_));refine⟨le_of_lt (ax (by omega)),?_⟩;refine joinParts_cons (FormattedValue_plain (thn (he pins _ σ H _ (I.tok _) h) λv s1 hpt=>?_));obtain⟨y,H1,I1,r1,q1⟩:=hpt;obtain⟨i,rfl,h0,h1,q⟩:=q1;obtain⟨t,rfl⟩:=r1;have h2:=jV i h0 h1;have h3:((empty++x)++ofString (toString i)).length≤1000:=by rw[strLen_append];omega
 refine formatField_int_small (lt_of_le_of_lt (Nat.log2_le_self _) (by omega)) ⟨le_of_lt (ax h3),?_⟩;exact joinParts_nil ⟨.str _,H1,(I1.tok _).tok _,⟨_,rfl⟩,q _⟩ (le_of_lt (ax h3))
abbrev bmV:List Value:=[.type "ValueError",.type "Exception",.type "BaseException",.type "object"]
abbrev Ai(X:Cx)(x:Str)(C:Addr):Prop:=OwnCls x C bmV "ValueError.__new__" X.mg X.base
def yL(C:Addr)(E:XK)(ta:TE):TS:=λ_ σ H=>cL ta gr σ H λvs H1=>vs.length≤sizeLine∧E (.ref C) none H1
theorem cG{E:XK}(L:Lv X E){x:Str}{C:Addr}{np cpos pos:Pos}{a:Expr}{ta:TE}(O:Ai X x C)(hh:X.A.handled=none)(hg:Gl X x)(ha:PE X a ta)(hs:starEach [a] X.env=[(false,eval a X.env)]:=by rfl)(hd:(x==("__debug__":Str))=false:=by decide):PS X (.Raise (some (.Call (.Name x np) [a] [] cpos)) none pos) (yL C E ta):=by
 intro pins s σ H D I h;obtain⟨tl,N,nm,q,bs,hdct,sn,sub,ab,col,dd,k0,k1,k2,k3,k5,mN,hC,hN,hni,T⟩:=O.obj;refine wpAny_Raise_call_subT (C:=C) (nm:=nm) (q:=q) (N:=N) (bs:=bs) (bm:=tl) (hdct:=hdct) (sn:=sn) (sub:=sub) (ab:=ab) (col:=col) (dd:=dd) (k0:=k0) (k1:=k1) (k2:=k2) (k3:=k3) (k5:=k5)
  PySem.F.excBase_ValueError (mN:=mN) (T.hasType PySem.F.excBase_ValueError.hasBase) hh (by rw[hs];rfl) hni (jj I hg O.bound ⟨rfl,?_⟩ hd)
 have hA:PA X [a] (cL ta gr):=aa ha ae hs;have h':=hA cpos pins s σ H (λvs H1=>vs.length≤sizeLine∧E (.ref C) none H1) I h;rw[hs]at h'⊢;refine evalArgs_plain (thn h' λus s2 hpt=>?_);obtain⟨vs,H2,I2,r2,q2⟩:=hpt;exact⟨rfl,by rw[←r2.length];exact q2.1,I2.bk _ _ hC,hN.keeps I2.bk,T.keeps I2.bk,λh' e hx=>Ah L I2 hx q2.2⟩
end
end L2
namespace DL
open PySem PySem.Spec PyProof.Rows
theorem jW:entryFor table "dict.update.loop"=some Builtin.«dict.update.loop»:=entryFor_of_tree (by kernel_rfl)
theorem eO:plainId "dict.update.loop"=true:=by decide +kernel
theorem mZ:typeLookup (.type "list") "keys"=pure none:=by rw[typeLookup_type,builtinLookup_eq_fast];kernel_rfl
section
variable{prog:Program}{w:World}{A:Around}{E:Value→Shared→Prop}{s:Shared}
theorem wJ{a:Addr}{xs:Array Value}{k:Nat}{sl:Array (Option Value)}{u:Tok}{Q:Value→Shared→Prop}(hx:s.heap.get? a=some {cls:=.type "list",dict:=none,data:=.seq xs k,slots:=sl})(hA:A.handled=none)(h:∀h' tk e,Heap.NewExcOf s.heap h' e "AttributeError"→E (.ref e) {s with heap:=h',toks:=tk}):
  wpAny (model prog w) A (getAttrBy (.ref a) (.str "keys" u) false) Q E s:=by
 obtain⟨hp,g,d,tk,os⟩:=s;have hT:∀tk',(⟨hp,g,d,tk',os⟩:Shared).TypeIs (.ref a) "list":=λ_=>⟨_,hx,rfl⟩;have f1:=sub_AttributeError;have f3:=F.slot_list_getattribute.lookup;have f4:=F.slot_list_getattribute.bind (.ref a);have f5:=am_list_getattr_none;unfold getAttrBy
 repeat (any_goals (first|assumption|exact hT _|((with_reducible show wpAny _ _ (call (Value.builtin "list.__getattribute__") _ _) _ _ _);refine call_meets F.slot_list_getattribute (hT _) am_entry_list_getattribute (F.args_list_getattribute_2 _ _) (meets_getattribute_miss_list a xs k sl "keys" _ mZ (by decide) (by size_fits)) ⟨hx,hA,λh' tk' e hx'=>?_⟩)|wp_step))
 obtain⟨t',u',he⟩:=hx'.there;show wpAny _ _ (getattributeRaised _ _ _ _ _ _ _) _ _ _;unfold getattributeRaised
 repeat (any_goals (first|assumption|wp_step))
 exact h _ _ _ hx'.of
theorem wK{a:Addr}{xs:Array Value}{k:Nat}{sl:Array (Option Value)}{Q:Option Value→Shared→Prop}(hx:s.heap.get? a=some {cls:=.type "list",dict:=none,data:=.seq xs k,slots:=sl})(hA:A.handled=none)(h:∀h' tk,(∀b o,s.heap.get? b=some o→h'.get? b=some o)→Q none {s with heap:=h',toks:=tk}):
  wpAny (model prog w) A (getAttr? (.ref a) "keys") Q E s:=by
 obtain⟨hp,g,d,tk,os⟩:=s;have f1:=sub_AttributeError;unfold getAttr? getAttrBy?
 repeat (any_goals (first|assumption|((with_reducible show wpAny _ _ (getAttrBy _ _ false) _ _ _);refine wJ (s:=⟨hp,g,d,_,os⟩) hx hA λh' tk' e hx'=>?_)|wp_step))
 obtain⟨⟨oc,od,odt,osl⟩,vs,he,hc,_,_⟩:=hx'.there;simp only at hc;subst hc
 repeat (any_goals (first|assumption|with_reducible refine wpAny_loadPart_at he ?_|wp_step))
 exact h h' tk' λb o e=>hx'.keeps b o e
end
section
variable{prog:Program}{w:World}{A:Around}{E:Value→Shared→Prop}{R:Result→Shared→Prop}{I:Addr}{fp wr:List Addr}{G:Array GenState→Array GenState→Prop}{n:Nat}{P:Nat→Value→Prop}{St:Nat→Shared→Prop}
theorem sI(W:WalksS prog w A.in1 I fp wr G n P St)(d:Addr)(hdf:d∉fp)(ad:Nat→Addr)(kk vv:Nat→Value)(hval:∀i v,P i v→v=.ref (ad i))(had:∀i,i<n→ad i∉d::wr)(D:Nat→Heap→Prop)(hD:∀i (h h':Heap),D i h→(∀b o,b∉wr→h.get? b=some o→h'.get? b=some o)→D i h')(step:∀i (s:Shared) (E:Value→Shared→Prop) (Q:Unit→Shared→Prop),i<n→D i s.heap→(∀h' tk,s.toks≤tk→SameBut d s.heap h'→D (i+1) h'→Q () {s with heap:=h',toks:=tk})→wpAny (model prog w) A.in1 (dictSet d (kk i) (vv i)) Q E s):
  ∀(k i:Nat)(s:Shared)(tk:Tok),n-i=k→i≤n→St i s→D i s.heap→(∀j,j<n→IsTup s.heap (ad j) #[kk j,vv j]) →
   (∀s',Moved (d::wr) G s s'→D n s'.heap→R (.ok (.ret .none)) s') →
   codeAny (model prog w) A (.builtin "dict.update.loop" ⟨[.ref d,.ref I,.int i tk,.none],[]⟩) R s:=by
 have hdw:d∉wr:=λh=>hdf (W.sub _ h);have hsub:∀b∈wr,b∈d::wr:=λb hb=>mem_cons_of_mem _ hb;have hadw:∀i,i<n→ad i∉wr:=λi hi h=>had i hi (mem_cons_of_mem _ h);have hadd:∀i,i<n→ad i≠d:=λi hi h=>had i hi (by rw[h];exact mem_cons_self);intro k
 induction k with
 |zero =>
  intro i s tk hk hi hst hDi htp hR;have hin:i=n:=by omega
  subst hin;refine codeAny_builtin jW ?_;rw[Around.under_plainId eO _];show wpAny _ A.in1 (pyNext (.ref I) >>= _) _ _ s;refine wpAny_bind (W.done s _ _ hst λs' hm=>?_);show wpAny _ A.in1 (Builtin.Dict.addKeywords d [] >>= λ_=>ret Value.none) _ _ s';exact wpAny_bind (wpAny_pure (wpAny_pure (hR s' (hm.mono hsub) (hD _ _ _ hDi hm.heap))))
 |succ k ih =>
  intro i s tk hk hi hst hDi htp hR;have hlt:i<n:=by omega
  refine codeAny_builtin jW ?_;rw[Around.under_plainId eO _];show wpAny _ A.in1 (pyNext (.ref I) >>= _) _ _ s;refine wpAny_bind (W.item i s _ _ hlt hst λv s' hP hst' hm=>?_);have hv:=hval i v hP;subst hv;have hDi':D i s'.heap:=hD _ _ _ hDi hm.heap;have htp':∀j,j<n→IsTup s'.heap (ad j) #[kk j,vv j]:=λj hj=>by
   obtain⟨o,ho,r⟩:=htp j hj;exact⟨o,hm.heap _ o (hadw j hj) ho,r⟩
  obtain⟨ot,hot,hct,nt,hdt⟩:=htp' i hlt;have hT:s'.TypeIs (.ref (ad i)) "tuple":=⟨ot,hot,hct⟩;refine wpAny_bind (wpAny_holding ?_);refine wpAny_bind (wpAny_tryCatch ?_);unfold Builtin.Dict.pairItems;refine wpAny_bind (wpAny_typeOf hT ?_);rw[if_pos (by decide)];generalize hDS:dictSet=DS;obtain⟨hp,g,dr,t,os⟩:=s';obtain⟨ocls,odict,odata,oslots⟩:=ot;simp only at hct hdt;subst hct hdt
  repeat (any_goals (first|assumption|with_reducible refine wpAny_loadPart_at hot ?_|wp_step))
  subst hDS;refine step i _ _ _ hlt hDi' λh' tk' htk hsb hD'=>?_;have hsb':SameBut d hp h':=hsb;have hkeep:∀b o,b∉d::wr→hp.get? b=some o→h'.get? b=some o:=λb o hb e=>by
   rw[hsb'.2 b (λz:b=d=>hb (by rw[z];exact mem_cons_self))];exact e
  refine wpAny_pure ⟨plainId_quiet eO _,?_⟩;refine ih (i+1) _ _ (by omega) hlt (W.frame _ _ _ _ hst' htk λb hb o e=>?_) hD' (λj hj=>?_) λs'' hm'' hD''=>?_
  ·rw[hsb'.2 b (λh:b=d=>hdf (by rw[←h];exact hb))];exact e
  ·obtain⟨o,ho,r⟩:=htp' j hj;exact⟨o,hkeep _ o (had j hj) ho,r⟩
  ·exact hR s'' (Moved.trans W.gtrans ((hm.mono hsub).then_heap htk λb o hb e=>hkeep b o hb e) hm'') hD''
end
section
variable{prog:Program}{w:World}{A:Around}{E:Value→Shared→Prop}{s:Shared}
theorem jX{l:Addr}{items:Array Value}{nl:Nat}{sl:Array (Option Value)}{Q:Value→Shared→Prop}(hh:A.handled=none)(hl:s.heap.get? l=some {cls:=.type "list",dict:=none,data:=.seq items nl,slots:=sl})(ad:Nat→Addr)(kk vv:Nat→Value)(hi:∀(i:Nat) (v:Value),items[i]?=some v→v=Value.ref (ad i))(ht:∀i,i<items.size→IsTup s.heap (ad i) #[kk i,vv i])(D:Nat→Heap→Prop)(hD0:∀h',h'.get? s.heap.objs.size=some {cls:=.type "dict",data:=.dict #[]}→(∀b o,s.heap.get? b=some o→h'.get? b=some o)→D 0 h')(hD:∀i (h h':Heap),D i h→(∀b o,b≤s.heap.objs.size→h.get? b=some o→h'.get? b=some o)→D i h')(step:∀i (s':Shared) (E:Value→Shared→Prop) (Q:Unit→Shared→Prop),i<items.size→D i s'.heap→(∀h' tk,s'.toks≤tk→SameBut s.heap.objs.size s'.heap h'→D (i+1) h'→Q () {s' with heap:=h',toks:=tk}) →
   wpAny (model prog w) A.in1.in1 (dictSet s.heap.objs.size (kk i) (vv i)) Q E s')(h:∀h' tk,D items.size h'→(∀b o,s.heap.get? b=some o→h'.get? b=some o)→Q (.ref s.heap.objs.size) {s with heap:=h',toks:=tk}):
  wpAny (model prog w) A (call (.type "dict") [.ref l]) Q E s:=by
 refine callType_codes (Q₁:=λobj s₁=>obj=.ref s.heap.objs.size∧s₁={s with heap:=s.heap.push {cls:=.type "dict",data:=.dict #[]}}) F.kt_called_dict (F.kt_typeCall_dict_1 _) F.entry_dict_init (kt_code_dict_new _ ⟨rfl,rfl⟩) ?_;rintro obj s₁ ⟨rfl,rfl⟩;have hnew:(s.heap.push {cls:=.type "dict",data:=.dict #[]}).get? s.heap.objs.size=some {cls:=.type "dict",data:=.dict #[]}:=get?_push_size _ rfl;have hTd:Shared.TypeIs {s with heap:=s.heap.push {cls:=.type "dict",data:=.dict #[]}} (.ref s.heap.objs.size) "dict":=⟨_,hnew,rfl⟩
 have hl':(s.heap.push {cls:=.type "dict",data:=.dict #[]}).get? l=some {cls:=.type "list",dict:=none,data:=.seq items nl,slots:=sl}:=get?_push_of_some _ hl;have hTl:Shared.TypeIs {s with heap:=s.heap.push {cls:=.type "dict",data:=.dict #[]}} (.ref l) "list":=⟨_,hl',rfl⟩
 refine⟨hTd,F.args_dict_init_2 _ _,?_⟩;unfold Builtin.«dict.__init__»;refine wpAny_bind ?_;unfold Builtin.Dict.selfAndRest;refine wpAny_bind (wpAny_notOrdered_dict hTd ?_);show wpAny _ _ (pure (s.heap.objs.size,[Value.ref l])) _ _ _;refine wpAny_pure ?_;show wpAny _ _ (Builtin.Dict.updateFrom "dict.__init__" s.heap.objs.size (.ref l) [] .none) _ _ _;unfold Builtin.Dict.updateFrom;refine wpAny_bind (wpAny_typeOf hTl ?_);rw[if_pos (by decide)];refine wpAny_bind (wK (s:={s with heap:=s.heap.push {cls:=.type "dict",data:=.dict #[]}}) hl' (show A.in1.in1.handled=none by simp[hh]) λh1 tk1 hk1=>?_);have hk1':∀b o,(s.heap.push {cls:=.type "dict",data:=.dict #[]}).get? b=some o→h1.get? b=some o:=hk1;have hL1:h1.IsList l items:=⟨_,hk1' _ _ hl',rfl,nl,rfl⟩;rw[if_pos (show(none:Option Value).isNone=true from rfl)];refine wpAny_bind (wpAny_rule ?_);refine wpAny_bind (wpAny_pyIter_list hL1 ?_);have hlS:l<s.heap.objs.size:=lt_size hl;have hS1:s.heap.objs.size<h1.objs.size:=lt_size (hk1' _ _ hnew);have k0:∀b o,s.heap.get? b=some o→h1.get? b=some o:=λb o e=>hk1' b o (get?_push_of_some _ e);have hadlt:∀i,i<items.size→ad i<s.heap.objs.size:=λi hi'=>by
  obtain⟨o,ho,_⟩:=ht i hi';exact lt_size ho
 refine wpAny_pure ⟨plainId_quiet eO _,sI (A:=A.in1) ((Walks.list (show A.in1.in1.handled=none by simp[hh]) h1.objs.size l (ne_of_lt (lt_trans hlS hS1)) items).toS) s.heap.objs.size ?hdf ad kk vv hi ?had D ?hD' (λi s' E Q hi' hDi hq=>step i s' E Q hi' hDi hq)
  (items.size-0) 0 _ 0 (by omega) (zero_le _) ⟨⟨_,get?_push_size _ rfl,rfl,rfl⟩,hL1.push _⟩ ?hD0' ?ht' λs' hm hDn=>?_⟩
 case hdf =>
  simp only[mem_cons,not_mem_nil,or_false,not_or];exact⟨ne_of_lt hS1,ne_of_gt hlS⟩
 case had =>
  intro i hi';simp only[mem_cons,not_mem_nil,or_false,not_or];exact⟨ne_of_lt (hadlt i hi'),ne_of_lt (lt_trans (hadlt i hi') hS1)⟩
 case hD' =>
  intro i g g' hDi hk;refine hD i g g' hDi λb o hb e=>hk b o ?_ e;simp only[mem_cons,not_mem_nil,or_false];exact ne_of_lt (lt_of_le_of_lt hb hS1)
 case hD0' =>
  exact hD0 _ (get?_push_of_some _ (hk1' _ _ hnew)) λb o e=>get?_push_of_some _ (k0 b o e)
 case ht' =>
  intro j hj;obtain⟨o,ho,r⟩:=ht j hj;exact⟨o,get?_push_of_some _ (k0 _ _ ho),r⟩
 obtain⟨h',g',d',tk',os'⟩:=s';have eg:g'=s.gens:=hm.gens;have ed:d'=s.drawn:=hm.drawn;have eo:os'=s.os:=hm.os;subst eg;subst ed;subst eo;refine⟨rfl,h h' tk' hDn λb o e=>?_⟩;have hb:b<s.heap.objs.size:=lt_size e;refine hm.heap b o ?_ (get?_push_of_some _ (k0 b o e));simp only[mem_cons,not_mem_nil,or_false,not_or];exact⟨ne_of_lt hb,ne_of_lt (lt_trans hb hS1)⟩
end
end DL
namespace L2
open PySem PySem.Spec PyProof.Rows
section
variable{X:Cx}
theorem yM{pins:List (Addr×Obj)}{σ:St}{H:Hp}{s:Shared}(I:Inv X pins σ H s){a:Addr}{x y:V}(h:H a=some (.tup [x,y])):∃u v,aL x u∧aL y v∧IsTup s.heap a #[u,v]:=by
 obtain⟨_,its,r,ht⟩:=I.hok a _ h;cases r with
 |cons r1 r =>
  cases r with
  |cons r2 r=>cases r;exact⟨_,_,r1,r2,by simpa using ht⟩
theorem uD{κ:Type}{pins:List (Addr×Obj)}{σ:St}{H:Hp}{s:Shared}(I:Inv X pins σ H s){zs:List (Addr×κ×V)}(kf:Addr×κ×V→V)(hk:∀z∈zs,H z.1=some (.tup [kf z,z.2.2])):
  ∃f:Addr×κ×V→Value×Value,∀z∈zs,aL (kf z) (f z).1∧aL z.2.2 (f z).2∧IsTup s.heap z.1 #[(f z).1,(f z).2]:=by
 have hch:∀z:Addr×κ×V,∃p:Value×Value,z∈zs→aL (kf z) p.1∧aL z.2.2 p.2∧IsTup s.heap z.1 #[p.1,p.2]:=λz=>by
  by_cases hz':z∈zs
  ·obtain⟨u,v,a,b,c⟩:=yM I (hk z hz');exact⟨(u,v),λ_=>⟨a,b,c⟩⟩
  ·exact⟨(.none,.none),λh=>absurd h hz'⟩
 exact⟨λz=>Classical.choose (hch z),λz hz=>Classical.choose_spec (hch z) hz⟩
theorem cX{α:Type}{l:List α}{i:Nat}{d:α}(h:i<l.length):l.getD i d∈l∧l[i]?=some (l.getD i d):=by
 rw[getD_eq_getElem?_getD,getElem?_eq_getElem h];exact⟨getElem_mem h,rfl⟩
theorem sJ{κ:Type}{zs:List (Addr×κ×V)}{d:Addr×κ×V}{i:Nat}{v:Value}(h:(((zs.map (·.1)).map Value.ref).toArray)[i]?=some v):v=Value.ref (zs.getD i d).1:=by
 have h':((zs.map (·.1)).map Value.ref)[i]?=some v:=by simpa using h
 rw[getElem?_map,getElem?_map]at h';rw[getD_eq_getElem?_getD];cases e:zs[i]? with
 |none=>rw[e]at h';cases h'
 |some z=>rw[e]at h';exact(Option.some.inj h').symm
theorem cB{α:Type}{l:List α}{i:Nat}{x:α}(h:l[i]?=some x):l.take (i+1)=l.take i++[x]:=by rw[take_succ,h];rfl
theorem sK{α κ:Type}{l:List α}{f:α→κ}{i:Nat}{x:α}(hn:(l.map f).Nodup)(h:l[i]?=some x):f x∉(l.take i).map f:=by
 intro hm;obtain⟨y,hy,e⟩:=mem_map.mp hm;obtain⟨j,hj,e2⟩:=mem_iff_getElem.mp hy;have hj':j<i:=by rw[length_take]at hj;omega
 have hi:i<l.length:=(List.getElem?_eq_some_iff.mp h).1;have e3:(l.map f)[j]'(by rw[length_map];omega)=(l.map f)[i]'(by rw[length_map];omega):=by
  rw[getElem_map,getElem_map];rw[getElem_take]at e2;rw[e2,e,(List.getElem?_eq_some_iff.mp h).2]
 have:=(getElem_inj hn).mp e3;omega
theorem iZ(hc:X.calm=true):cz X (.type "dict") (λxs H Q=>∃l,∃zs:List (Addr×Key×V),xs=[.ref l]∧H l=some (.lst ((zs.map (·.1)).map V.ref))∧(∀z∈zs,H z.1=some (.tup [kV z.2.1,z.2.2]))∧zs.length≤1000 ∧
  (zs.map (·.2.1)).Nodup∧((∀d o,H d=none→Q (.ref d) (upd H d (.frz o (.dK (zs.map (·.2))))))∨∀d,H d=none→Q (.ref d) (upd H d (.dK (zs.map (·.2)))))):=by
 intro pins s σ H xs us Q I r h;obtain⟨l,zs,rfl,hl,hk,hz,hnd,q⟩:=h;obtain⟨u,rfl,ru⟩:=eB r;cases ru;obtain⟨_,its,nl,rv,ho⟩:=I.hok l _ hl;have e:=dw rv;subst e;obtain⟨f,hf⟩:=uD I (λz=>kV z.2.1) hk;have hsz:(((zs.map (·.1)).map Value.ref).toArray).size=zs.length:=by simp
 refine DL.jX (s:=s) (I.ok.hd hc) ho (λi=>(zs.getD i (0,.inl 0,.non)).1) (λi=>(f (zs.getD i (0,.inl 0,.non))).1) (λi=>(f (zs.getD i (0,.inl 0,.non))).2) (λi v hv=>sJ hv) (λi hi=>?_)
  (λi h'=>h'.DictOf (aG X.prog X.w) s.heap.objs.size ((zs.take i).map λz=>(z.2.1,(f z).2))) (λh' hg _=>?_) (λi g g' hd hk=>?_) (λi s' E Q hi hd hq=>?_) λh' tk hd hkeep=>?_
 ·rw[hsz]at hi;exact(hf _ (cX hi).1).2.2
 ·exact⟨_,#[],0,hg,⟨rfl,rfl,rfl⟩,rfl,λ_ he=>by simp at he,Pairs.nil,nodup_nil⟩
 ·obtain⟨o,es,ep,ho,r⟩:=hd;exact⟨o,es,ep,hk _ o (le_refl _) ho,r⟩
 ·rw[hsz]at hi;obtain⟨hm,hg⟩:=cX (d:=((0,.inl 0,.non):Addr×Key×V)) hi;refine wpAny_dictSet_pairs (hsz:=by rw[length_map,length_take];have:=ax hz;omega) (k:=(zs.getD i (0,.inl 0,.non)).2.1) (ff (hf _ hm).1) hd λh' hd' hs=>hq h' _ (le_succ _) hs ?_;have e1:=cB hg;have e2:=sK hnd hg;rw[e1,map_append];unfold stored at hd';rw[if_neg]at hd'
  ·exact hd'
  ·intro ha;obtain⟨p,hp,he⟩:=any_eq_true.mp ha;obtain⟨z,hz',rfl⟩:=mem_map.mp hp;exact e2 (mem_map.mpr ⟨z,hz',of_decide_eq_true he⟩)
 ·rw[hsz,take_length]at hd;obtain⟨ob,hob⟩:∃ob,h'.get? s.heap.objs.size=some ob:=let⟨o,_,_,ho,_⟩:=hd;⟨o,ho⟩;have hrel:KV (zs.map (·.2)) (zs.map λz=>(z.2.1,(f z).2)):=by
   have:∀ys:List (Addr×Key×V),(∀z∈ys,z∈zs)→KV (ys.map (·.2)) (ys.map λz=>(z.2.1,(f z).2)):=by
    intro ys
    induction ys with
    |nil=>intro _;exact .nil
    |cons z ys ih=>intro hm;exact .cons ⟨rfl,(hf z (hm z (by simp))).2.1⟩ (ih λy hy=>hm y (by simp[hy]))
   exact this zs λz hz=>hz
  have hdk:∀H':Hp,bo X.prog X.w H' h' s.heap.objs.size (.dK (zs.map (·.2))):=λH'=>mw (le_of_lt (ax (by rw[length_map];exact hz))) (beq_eq_false_iff_ne.mpr (Ne.symm (ne_of_lt I.big))) hrel hd;rcases q with q|q
  ·exact⟨.ref s.heap.objs.size,_,I.laid (t':=tk) (o:=.frz ob (.dK (zs.map (·.2)))) hkeep (le_refl _) ⟨hob,hdk _⟩,rfl,q _ ob (I.hok.fresh (le_refl _))⟩
  ·exact⟨.ref s.heap.objs.size,_,I.laid (t':=tk) (o:=.dK (zs.map (·.2))) hkeep (le_refl _) (hdk _),rfl,q _ (I.hok.fresh (le_refl _))⟩
theorem pX(hc:X.calm=true):cz X (.type "dict") (λxs H Q=>∃l,∃zs:List (Addr×Key×V),xs=[.ref l]∧H l=some (.lst ((zs.map (·.1)).map V.ref))∧(∀z∈zs,H z.1=some (.tup [kV z.2.1,z.2.2]))∧zs.length≤1000∧(zs.map (·.2.1)).Nodup∧∀d o,H d=none→Q (.ref d) (upd H d (.frz o (.dK (zs.map (·.2)))))) :=
 λpins s σ H xs us Q I r ⟨l,zs,h1,h2,h3,h4,h5,q⟩=>iZ hc pins s σ H xs us Q I r ⟨l,zs,h1,h2,h3,h4,h5,.inl q⟩
theorem dI(hc:X.calm=true):cz X (.type "dict") (λxs H Q=>∃l,∃zs:List (Addr×Key×V),xs=[.ref l]∧H l=some (.lst ((zs.map (·.1)).map V.ref))∧(∀z∈zs,H z.1=some (.tup [kV z.2.1,z.2.2]))∧zs.length≤1000∧(zs.map (·.2.1)).Nodup∧∀d,H d=none→Q (.ref d) (upd H d (.dK (zs.map (·.2))))) :=
 λpins s σ H xs us Q I r ⟨l,zs,h1,h2,h3,h4,h5,q⟩=>iZ hc pins s σ H xs us Q I r ⟨l,zs,h1,h2,h3,h4,h5,.inr q⟩
end
def yN(h:Heap)(d:Addr)(es:Array DictEntry)(ep:Nat):Prop:=∃o,h.get? d=some o∧o.ExactDict∧o.data=.dict es ep
section
variable{prog:Program}{w:World}{A:Around}{E:Value→Shared→Prop}{s:Shared}
theorem uE{d:Addr}{es:Array DictEntry}{ep:Nat}{Q:Value→Shared→Prop}(hd:(d==sysModules)=false)(hm:yN s.heap d es ep)(hQ:Q (.ref s.heap.objs.size) {s with heap:=s.heap.push {cls:=.type "dict_keyiterator",data:=.fields #[.ref d,.int 0 0,.int es.size 0,.int ep 0]}}):
  wpAny (model prog w) A (pyIter (.ref d)) Q E s:=by
 obtain⟨o,ho,hc,hdat⟩:=id hm;have hT:s.TypeIs (.ref d) "dict":=⟨o,ho,hc.1⟩;refine wpAny_pyIter_slot hT PySem.F.slot_dict_iter (wpAny_call_entry PySem.F.slot_dict_iter hT PySem.F.entry_dict_iter ?_ (PySem.F.args_dict_iter_1 _));unfold Builtin.«dict.__iter__»;refine wpAny_bind ?_;unfold Builtin.Dict.dictSlotNone;refine wpAny_bind (wpAny_notOrdered_dict hT ?_);show wpAny _ _ (pure (Value.ref d)) _ _ s;refine wpAny_pure ?_;show wpAny _ _ (Builtin.Dict.showsAll d >>= _) _ _ s;unfold Builtin.Dict.showsAll;rw[if_neg (by rw[hd];exact Bool.false_ne_true)];refine wpAny_bind (wpAny_pure ?_);refine wpAny_bind (wpAny_dictEntries ho hdat ?_);refine wpAny_bind (wpAny_dictEpoch ho hdat ?_);refine wpAny_bind (wpAny_newObj_type (wpAny_pure ⟨_,rfl,"dict_keyiterator",_,⟨_,get?_push_size _ rfl,rfl⟩,slot_dict_keyiterator_next.lookup,?_⟩));simpa [rawInt]using hQ
theorem uF{it d:Addr}{i ep:Nat}{es:Array DictEntry}{e:DictEntry}{Q:Option Value→Shared→Prop}(hit:s.heap.IsKeyIter it d i es.size ep)(hm:yN s.heap d es ep)(hx:es[i]?=some e)(hQ:∀h',h'.IsKeyIter it d (i+1) es.size ep→SameBut it s.heap h'→Q (some e.key) {s with heap:=h'}):
  wpAny (model prog w) A (pyNext (.ref it)) Q E s:=by
 obtain⟨o,ho,hc,hd⟩:=id hit;obtain⟨od,hod,hcd,hdd⟩:=id hm;unfold pyNext;refine wpAny_bind (wpAny_attempt (wpAny_callSpecial?_slot (name:=ofString "__next__") hit.typeIs slot_dict_keyiterator_next
  (wpAny_call_entry slot_dict_keyiterator_next hit.typeIs PySem.F.entry_dict_keyiterator_next ?_ (PySem.F.args_dict_keyiterator_next_1 _))))
 refine wpAny_bind (wpAny_pure ?_);refine wpAny_bind ?_;refine wpAny_bind ?_
 first|refine wpAny_bind (wpAny_typeNameOfWhole_keyiter hit.typeIs (wpAny_pure ?_))|refine wpAny_bind (wpAny_typeNameOf_keyiter hit.typeIs (wpAny_pure ?_))
 refine wpAny_bind (wpAny_fieldsOf ho hd ?_);have hown:Builtin.Dict_items.ownsTuple "dict_keyiterator"=false:=by decide
 simp only[hown,false_eq_true,if_false];show wpAny _ _ (if (Value.ref d==Value.none)=true then _ else _) _ _ s
 rw[if_neg (show ¬((Value.ref d==Value.none)=true)from Bool.false_ne_true)];refine wpAny_bind (wpAny_pure ?_);refine wpAny_bind (wpAny_dictEntries hod hdd ?_);rw[if_neg (by simp)];refine wpAny_bind (wpAny_pure ?_);refine wpAny_bind (wpAny_dictEpoch hod hdd ?_);rw[if_neg (by simp)];refine wpAny_pure ?_;have hlt':i<es.size:=(Array.getElem?_eq_some_iff.mp hx).1;have he:es[i]=e:=(Array.getElem?_eq_some_iff.mp hx).2;simp only[show ¬((i:Int)<0)from by omega,if_false,toNat_natCast,Array.getElem?_eq_getElem hlt'];refine wpAny_bind ?_
 first|refine wpAny_bind (wpAny_typeNameOfWhole_keyiter hit.typeIs (wpAny_pure ?_))|refine wpAny_bind (wpAny_typeNameOf_keyiter hit.typeIs (wpAny_pure ?_))
 refine wpAny_bind (wpAny_isOneOf_keyiter hit.typeIs ?_);show wpAny _ _ (setField (.ref it) 1 (rawInt ((i:Int)+1)) >>= _) _ _ s;refine wpAny_bind (wpAny_setField ho hd (by simp) ?_);have hit':(s.heap.update it (Obj.mapFields (·.setIfInBounds 1 (rawInt ((i:Int)+1))))).IsKeyIter it d (i+1) es.size ep :=
  ⟨_,get?_update_self _ ho (Obj.isFreed_of_fields (Obj.data_mapFields hd _)),(Obj.cls_mapFields ..).trans hc,by rw[Obj.data_mapFields hd];simp[rawInt]⟩
 refine wpAny_bind (wpAny_holding ?_);refine wpAny_bind (wpAny_isOneOf_keyiter (s:={s with heap:=s.heap.update it (Obj.mapFields (·.setIfInBounds 1 (rawInt ((i:Int)+1))))}) hit'.typeIs ?_)
 show wpAny _ _ (pure es[i].key) _ _ _;rw[he];exact wpAny_pure (wpAny_pure ⟨_,rfl,wpAny_pure (hQ _ hit' (SameBut.update ..))⟩)
theorem wL{it d:Addr}{i ep:Nat}{es:Array DictEntry}{Q:Option Value→Shared→Prop}(hh:A.handled=none)(hit:s.heap.IsKeyIter it d i es.size ep)(hm:yN s.heap d es ep)(hge:es.size≤i)(hQ:∀h',ExtBut it s.heap h'→Q none {s with heap:=h'}):wpAny (model prog w) A (pyNext (.ref it)) Q E s:=by
 obtain⟨o,ho,hc,hd⟩:=id hit;obtain⟨od,hod,hcd,hdd⟩:=id hm;unfold pyNext;refine wpAny_bind (wpAny_attempt (wpAny_callSpecial?_slot (name:=ofString "__next__") hit.typeIs slot_dict_keyiterator_next
  (wpAny_call_entry slot_dict_keyiterator_next hit.typeIs PySem.F.entry_dict_keyiterator_next ?_ (PySem.F.args_dict_keyiterator_next_1 _))))
 refine wpAny_bind (wpAny_pure ?_);refine wpAny_bind ?_;refine wpAny_bind ?_
 first|refine wpAny_bind (wpAny_typeNameOfWhole_keyiter hit.typeIs (wpAny_pure ?_))|refine wpAny_bind (wpAny_typeNameOf_keyiter hit.typeIs (wpAny_pure ?_))
 refine wpAny_bind (wpAny_fieldsOf ho hd ?_);have hown:Builtin.Dict_items.ownsTuple "dict_keyiterator"=false:=by decide
 simp only[hown,false_eq_true,if_false];show wpAny _ _ (if (Value.ref d==Value.none)=true then _ else _) _ _ s
 rw[if_neg (show ¬((Value.ref d==Value.none)=true)from Bool.false_ne_true)];refine wpAny_bind (wpAny_pure ?_);refine wpAny_bind (wpAny_dictEntries hod hdd ?_);rw[if_neg (by simp)];refine wpAny_bind (wpAny_pure ?_);refine wpAny_bind (wpAny_dictEpoch hod hdd ?_);rw[if_neg (by simp)];refine wpAny_pure ?_;simp only[show ¬((i:Int)<0)from by omega,if_false,toNat_natCast,Array.getElem?_eq_none hge];refine wpAny_bind ?_
 first|refine wpAny_bind (wpAny_typeNameOfWhole_keyiter hit.typeIs (wpAny_pure ?_))|refine wpAny_bind (wpAny_typeNameOf_keyiter hit.typeIs (wpAny_pure ?_))
 show wpAny _ _ (setField (.ref it) 0 .none >>= _) _ _ s;refine wpAny_bind (wpAny_setField ho hd (by simp) ?_);show wpAny _ _ (newExc (.type "StopIteration") [] >>= _) _ _ _;refine wpAny_bind ?_;simp only[newExc,newTuple];refine wpAny_bind (wpAny_newObj_type ?_ (by size_fits));refine wpAny_bind (m:=firstArgMember _ _) (wpAny_of_eq (a:=Value.none) (by first|rfl|(simp only[firstArgMember];rfl)) ?_)
 refine wpAny_newObj_type ?_ (by size_fits);simp only[raiseNew];refine wpAny_bind (wpAny_handled ?_);rw[show A.in1.handled=none from hh];refine wpAny_bind (wpAny_pure (wpAny_throw ?_));refine wpAny_bind (wpAny_isInstance (T:="StopIteration") (b:=true) ⟨_,get?_push_size _ rfl,rfl⟩ isSubtype_stop ?_);exact wpAny_pure (hQ _ (((SameBut.update ..).extBut.push _).push _))
end
def Itk(d:Addr)(o:Obj)(u:HO)(ks:List V):It:=⟨λi H=>H d=some (.frz o u)∧i<ks.length,λi H x H'=>H'=H∧ks[i]?=some x,λi H=>H d=some (.frz o u)∧ks.length≤i⟩
theorem sL{P:Program}{w:World}{K:PySem.W.Frag}{tg:Expr}{d it:Addr}{o:Obj}{u:HO}{es:Array DictEntry}{ep:Nat}{ks:List V}(hx:o.ExactDict)(hd:o.data=.dict es ep)(hv:aH ks (es.toList.map (·.key))):
  Turn P w K tg (Itk d o u ks) [it] it (λi h=>h.IsKeyIter it d i es.size ep) where
 mem:=by simp
 obj:=λi h st b hb=>by
  have e:b=it:=by simpa using hb
  subst e;obtain⟨o,e,c,d⟩:=st;exact⟨o,e,λv z=>by rw[d]at z;cases z⟩
 keep:=λi h h' st k=>st.at λo e=>k it (by simp) o e
 item:=by
  intro X hP hw hK hc i pins s σ H E I hf st hg;subst hP hw hK;obtain⟨hH,hi⟩:=hg;have ho:=(I.hok d _ hH).1;have hl:ks.length=es.size:=by rw[hv.length,length_map,length_toList]
  have hi':i<es.size:=by omega
  obtain⟨v,hv1,hv2⟩:=hv.get (getElem?_eq_getElem hi);obtain⟨f0,f1,f2,f3,f4,f5⟩:=hf it (by simp);have ev:v=es[i].key:=by
   rw[getElem?_map,getElem?_toList,Array.getElem?_eq_getElem hi']at hv1;exact(Option.some.inj hv1).symm
  refine uF st ⟨o,ho,hx,hd⟩ (Array.getElem?_eq_getElem hi') λh' st' sb=>?_;have I1:Inv X pins σ H {s with heap:=h'}:=I.turned (t':=s.toks) (λb o hb e=>(sb.2 b hb).trans e) f0 f1 f3 f4 f5
  obtain⟨oi,e,c,dd⟩:=id st';exact⟨_,rfl,nW (s:={s with heap:=h'}) e c dd (by decide) ⟨ks[i],H,I1,ev ▸ hv2,⟨rfl,getElem?_eq_getElem hi⟩,st',λb hb=>(hf b hb).1⟩⟩
 done:=by
  intro X hP hw hK hc i pins s σ H E I hf st hg;subst hP hw hK;obtain⟨hH,hi⟩:=hg;have ho:=(I.hok d _ hH).1;have hl:ks.length=es.size:=by rw[hv.length,length_map,length_toList]
  obtain⟨f0,f1,f2,f3,f4,f5⟩:=hf it (by simp);exact wL (I.ok.hd hc) st ⟨o,ho,hx,hd⟩ (by omega) λh' eb=>⟨rfl,I.turned (t':=s.toks) (λb o hb e=>eb b o hb e) f0 f1 f3 f4 f5⟩
 self:=λ_ _ _ _ _ st h=>wpAny_pyIter_keyiter st h
section
variable{X:Cx}{tg:Expr}
end
section
variable{prog:Program}{w:World}{A:Around}{E:Value→Shared→Prop}{s:Shared}
end
section
variable{X:Cx}
theorem wM{P:Program}{w:World}{kvs:List (Key×V)}{vs:List (Key×Value)}{acc:Array Value}(rel:KV kvs vs)(h:ItemsOf (λi v=>∃k x,vs[i]?=some (k,x)∧(aG P w).is k v=true) acc vs.length):aH (kvs.map λp=>kV p.1) acc.toList:=by
 obtain⟨h1,h2⟩:=h;have hl:acc.toList.length=vs.length:=by simpa using h1
 have h3:∀(i:Nat)(v:Value),acc.toList[i]?=some v→∃k x,vs[i]?=some (k,x)∧(aG P w).is k v=true:=λi v hv=>h2 i v (by simpa using hv);clear h1 h2;generalize acc.toList=l at hl h3
 induction rel generalizing l with
 |nil =>
  cases l with
  |nil=>exact .nil
  |cons a r=>simp at hl
 |@cons p q kvs vs r _ ih =>
  cases l with
  |nil=>simp at hl
  |cons a l =>
   refine .cons ?_ (ih l (by simpa using hl) λi v hv=>by simpa using h3 (i+1) v (by simpa using hv))
   obtain⟨k,x,e1,e2⟩:=h3 0 a rfl;have e3:q=(k,x):=by simpa using e1
   show aL (kV p.1) a;rw[r.1,e3];rcases aV e2 with⟨i,t,e4,e5⟩|⟨y,t,e4,e5⟩
   ·rw[e4,e5];exact⟨t,rfl⟩
   ·rw[e4,e5];exact⟨t,rfl⟩
end
end L2
namespace HT
open PySem PyProof.Rows
section
open PySem.SeqAt
open PySem.AutoSeq1 (wpAny_loadPart')
open PySem.MeetsSeq PySem.MeetsSeq2 PySem.MeetsSeq3
end
section
variable{prog:Program}{w:World}{A:Around}{E:Value→Shared→Prop}{s:Shared}
end
end HT
namespace L2
open PySem PySem.Spec PyProof.Rows
section
variable{X:Cx}
theorem uG{α β:Type}{l:List α}{f:α→β}{d:α}{e:β}{i:Nat}(h:i<l.length):(l.map f).getD i e=f (l.getD i d):=by
 rw[getD_eq_getElem?_getD,getD_eq_getElem?_getD,getElem?_map,getElem?_eq_getElem h];rfl
theorem iK{α:Type}{zs:List α}{val:α→V}{d:α}:∀{us:List Value},aH (zs.map val) us→∀(ps:List Nat),(∀i∈ps,i<zs.length)→aH ((ps.map λi=>zs.getD i d).map val) (ps.map λi=>us.getD i Value.none):=by
 intro us rv ps
 induction ps with
 |nil=>intro _;exact .nil
 |cons i ps ih =>
  intro h;refine .cons ?_ (ih λj hj=>h j (by simp[hj]));have hi:=h i (by simp);obtain⟨u,hu,r⟩:=rv.get (i:=i) (x:=val (zs.getD i d)) (by rw[getElem?_map,(cX (d:=d) hi).2];rfl);have:us.getD i Value.none=u:=by rw[getD_eq_getElem?_getD,hu];rfl
  show aL (val (zs.getD i d)) (us.getD i Value.none);rw[this];exact r
theorem oP{α:Type}{zs:List α}{val:α→V}{d:α}{us:List Value}{f:α→α→Bool}{l:Addr}{pins:List (Addr×Obj)}{σ:St}{H:Hp}{s:Shared}{Q:VK}{κ:SortKind}{E:Value→Shared→Prop}(I:Inv X pins σ H s)(rv:aH (zs.map val) us)(O:SRT.Ord (λi j=>f (zs.getD i d) (zs.getD j d)) zs.length)(pl:s.heap.IsList l us.toArray)(h64:zs.length<64)(hk:∀(A':Around) (s':Shared),A'.units≤X.A.units+2→(∀b o,s.heap.get? b=some o→s'.heap.get? b=some o)→∀Q:SortKind→Shared→Prop,2≤zs.length→Q κ s'→wpAny (model X.prog X.w) A' (keyKind' us.toArray) Q (λ_ _=>False) s')(hlt:∀(A':Around) (s':Shared),A'.units≤X.A.units+2→(∀b o,s.heap.get? b=some o→s'.heap.get? b=some o)→∀(i j:Nat) (C:Bool→Shared→Prop),i<zs.length→j<zs.length→C (f (zs.getD i d) (zs.getD j d)) s'→wpAny (model X.prog X.w) A' (keyLt' κ (us.getD i Value.none) (us.getD j Value.none)) C (λ_ _=>False) s')(q:∀zs':List α,zs'.Perm zs→zs'.Pairwise (λa b=>f a b=true)→∀p,H p=none→Q (.ref p) (upd H p (.lst (zs'.map val)))):wpAny (model X.prog X.w) X.A (call (.builtin "sorted") [.ref l]) (EP X pins σ Q) E s:=by
 have hlen:us.length=zs.length:=by rw[←rv.length,length_map]
 refine SRT.sE (κ:=κ) (f:=λi j=>f (zs.getD i d) (zs.getD j d)) (by rw[hlen];exact O) pl (by rw[hlen];exact h64) (λA' s' h1 h2 Q' h3=>hk A' s' h1 h2 Q' (by omega)) (λA' s' h1 h2 i j C hi hj=>hlt A' s' h1 h2 i j C (by omega) (by omega)) ?_;intro p h' hrow hup kp _ hg;obtain⟨c,hg⟩:=hg;rw[hlen]at hrow hup;have hin:∀i∈p.toList,i<zs.length:=λi hi=>mem_range.mp (hrow.perm.mem_iff.mp hi);have hperm:(p.toList.map λi=>zs.getD i d).Perm zs:=by
  refine(hrow.perm.map _).trans ?_;have:(List.range zs.length).map (λi=>zs.getD i d)=zs:=by
   apply ext_getElem?;intro i;rw[getElem?_map]
   by_cases hi:i<zs.length
   ·rw[getElem?_range hi,(cX (d:=d) hi).2];rfl
   ·rw[getElem?_eq_none (by rw[length_range];omega),getElem?_eq_none (by omega)];rfl
  rw[this]
 have hpl:p.size=zs.length:=hrow.size;have hpw:(p.toList.map λi=>zs.getD i d).Pairwise (λa b=>f a b=true):=by
  rw[pairwise_iff_getElem];intro i j hi hj hij;have hi':i<p.size:=by rw[length_map,length_toList]at hi;exact hi
  have hj':j<p.size:=by rw[length_map,length_toList]at hj;exact hj
  have:=hup i j hij (by omega);simp only[]at this;rw[getD_eq_getD_getElem?,getD_eq_getD_getElem?,Array.getElem?_eq_getElem hi',Array.getElem?_eq_getElem hj']at this;simpa using this
 refine⟨.ref (s.heap.objs.size+1),_,I.laid (t':=s.toks) (o:=.lst ((p.toList.map λi=>zs.getD i d).map val)) kp (le_succ _) ⟨?_,_,c,iK rv p.toList hin,hg⟩,rfl,q _ hperm hpw _ (I.hok.fresh (le_succ _))⟩;rw[length_map,hperm.length_eq,sizeLine_eq];omega
theorem na{ns:List Int}{us:List Value}(r:aH (ns.map V.int) us):IntsAre us ns:=pO r
theorem iL:cz X (.builtin "sorted") (λxs H Q=>∃l,∃ns:List Int,xs=[.ref l]∧H l=some (.lst (ns.map V.int))∧ns.Nodup∧ns.length<64 ∧
  ∀ms:List Int,ms.Perm ns→ms.Pairwise (λa b=>a<b)→∀p,H p=none→Q (.ref p) (upd H p (.lst (ms.map V.int)))):=by
 intro pins s σ H xs us Q I r h;obtain⟨l,ns,rfl,hl,hnd,h64,q⟩:=h;obtain⟨u,rfl,ru⟩:=eB r;cases ru;obtain⟨_,its,n,rv,ho⟩:=I.hok l _ hl;have hI:=na rv;have hlen:its.length=ns.length:=by rw[←rv.length,length_map]
 refine oP (val:=V.int) (d:=(0:Int)) (f:=λa b=>decide (a<b)) (κ:=oneType') I rv ⟨λi _=>by simp,λi j k _ _ _ h1 h2=>?_,λi j hi hj hij=>?_⟩ ⟨_,ho,rfl,n,rfl⟩ h64 (λA' s' _ _ Q' h2 hQ=>?_) (λA' s' _ _ i j C hi hj hC=>?_) λzs' h1 h2 p hp=>q zs' h1 (h2.imp λh=>by simpa using h) p hp
 ·simp only[decide_eq_true_eq]at *;omega
 ·simp only[decide_eq_true_eq];have:ns.getD i 0≠ns.getD j 0:=by
   rw[getD_eq_getElem?_getD,getD_eq_getElem?_getD,getElem?_eq_getElem hi,getElem?_eq_getElem hj];exact λe=>hij ((getElem_inj hnd).mp e)
  omega
 ·rw[ksk_kind (keys:=its.toArray) (kz:=ns) (by simpa using hI) (by rw[size_toArray];omega)];exact wpAny_pure hQ
 ·have gi:∀i,i<ns.length→∃t,its.getD i Value.none=.int (ns.getD i 0) t:=λi hi=>by
   obtain⟨v,hv,r⟩:=rv.get (i:=i) (x:=.int (ns.getD i 0)) (by rw[getElem?_map,(cX (d:=(0:Int)) hi).2];rfl);obtain⟨t,rfl⟩:=r;exact⟨t,by rw[getD_eq_getElem?_getD,hv];rfl⟩
  obtain⟨t,e1⟩:=gi i hi;obtain⟨t',e2⟩:=gi j hj;rw[e1,e2];exact kat_lt_int hC
end
def lE(H:Hp):Nat→V→V→Prop
 |0,x,y=>x=y∧dz x=true
 |n+1,x,y=>(x=y∧dz x=true)∨∃a b xs ys,x=.ref a∧y=.ref b∧H a=some (.tup xs)∧H b=some (.tup ys)∧xs.length=ys.length∧∀(i:Nat) x' y',xs[i]?=some x'→ys[i]?=some y'→lE H n x' y'
theorem oQ{x:V}(f:dz x=true):eqV x x=true:=by
 cases x<;>first|rfl|(simp[eqV];done) | (exact absurd (show false=true from f) Bool.false_ne_true)
theorem eP{H:Hp}{n:Nat}{x y:V}(h:x=y∧dz x=true):lE H n x y:=by
 cases n with
 |zero=>exact h
 |succ n=>exact .inl h
section
variable{X:Cx}{pins:List (Addr×Obj)}{σ:St}{H:Hp}{s:Shared}
theorem uH(I:Inv X pins σ H s):∀(n:Nat){A:Around}{x y:V}{u v:Value},aL x u→aL y v→lE H n x y→A.units+n<cLine→EqAt A s u v true:=by
 intro n
 induction n with
 |zero =>
  intro A x y u v ru rv h hu;obtain⟨e,f⟩:=h;subst e;have:=mh (A:=A) (s:=s) ru rv f f;rw[oQ f]at this;exact this
 |succ n ih =>
  intro A x y u v ru rv h hu;rcases h with⟨e,f⟩|⟨a,b,xs,ys,rfl,rfl,ha,hb,hl,hx⟩
  ·subst e;have:=mh (A:=A) (s:=s) ru rv f f;rw[oQ f]at this;exact this
  ·cases ru;cases rv
   by_cases hab:a=b
   ·subst hab;exact EqAt.same _
   ·obtain⟨_,us,r1,t1⟩:=I.hok a _ ha;obtain⟨_,ws,r2,t2⟩:=I.hok b _ hb;have l1:=r1.length;have l2:=r2.length;have:=SeqAt.RcAt.tuples (A:=A) (s:=s) (e:=λ_=>true) t1 t2 (by omega) (λj h1 h2=>by
     have h1':j<xs.length:=by rw[l1];simpa using h1
     have h2':j<ys.length:=by rw[l2];simpa using h2
     obtain⟨u',hu1,hu2⟩:=r1.get (getElem?_eq_getElem h1');obtain⟨v',hv1,hv2⟩:=r2.get (getElem?_eq_getElem h2');have e1:us.toArray[j]=u':=by
      have:us[j]?=some us.toArray[j]:=by rw[getElem?_eq_getElem (by simpa using h1)];simp
      rw[hu1]at this;exact(Option.some.inj this).symm
     have e2:ws.toArray[j]=v':=by
      have:ws[j]?=some ws.toArray[j]:=by rw[getElem?_eq_getElem (by simpa using h2)];simp
      rw[hv1]at this;exact(Option.some.inj this).symm
     rw[e1,e2];exact ih hu2 hv2 (hx j _ _ (getElem?_eq_getElem h1') (getElem?_eq_getElem h2')) (by simp[Around.in1_units];omega))
    have e3:((List.range (min us.toArray.size ws.toArray.size)).all (λ_=>true)&&us.toArray.size==ws.toArray.size)=true:=by
     have:us.toArray.size=ws.toArray.size:=by simp only[size_toArray];omega
     simp[this]
    rw[e3]at this;exact EqAt.of_refs hab this
def fj(H:Hp)(xs ys:List V):Prop:=xs.length=ys.length∧∀(i:Nat) x y,xs[i]?=some x→ys[i]?=some y→lE H 3 x y
theorem ib{pins:List (Addr×Obj)}{σ:St}{H:Hp}{s:Shared}(I:Inv X pins σ H s){xs ys:List V}{us ws:List Value}(r1:aH xs us)(r2:aH ys ws)(h:fj H xs ys){A:Around}(hu:A.units+3<cLine):
  ∀j (h1:j<us.toArray.size) (h2:j<ws.toArray.size),EqAt A s us.toArray[j] ws.toArray[j] true:=λj h1 h2=>by
 have h1':j<xs.length:=by rw[r1.length];simpa using h1
 have h2':j<ys.length:=by rw[r2.length];simpa using h2
 obtain⟨u',hu1,hu2⟩:=r1.get (getElem?_eq_getElem h1');obtain⟨v',hv1,hv2⟩:=r2.get (getElem?_eq_getElem h2');have e1:us.toArray[j]=u':=by
  have:us[j]?=some us.toArray[j]:=by rw[getElem?_eq_getElem (by simpa using h1)];simp
  rw[hu1]at this;exact(Option.some.inj this).symm
 have e2:ws.toArray[j]=v':=by
  have:ws[j]?=some ws.toArray[j]:=by rw[getElem?_eq_getElem (by simpa using h2)];simp
  rw[hv1]at this;exact(Option.some.inj this).symm
 rw[e1,e2];exact uH I 3 hu2 hv2 (h.2 j _ _ (getElem?_eq_getElem h1') (getElem?_eq_getElem h2')) hu
theorem pY(hu:X.A.units+4<cLine):OpR X (compareOp .NotEq) (λx y H Q=>rNe x y H Q∨(∃a b xs ys,x=.ref a∧y=.ref b∧fj H xs ys∧((H a=some (.lst xs)∧H b=some (.lst ys))∨(H a=some (.tup xs)∧H b=some (.tup ys)))∧Q (.bl false) H)):=by
 intro pins s σ H x y v u Q I rx ry h;rcases h with h|⟨a,b,xs,ys,rfl,rfl,hx,h,q⟩
 ·exact eX pins s σ H x y v u Q I rx ry h
 ·cases rx;cases ry;rcases h with⟨ha,hb⟩|⟨ha,hb⟩
  ·obtain⟨_,us,n1,r1,o1⟩:=I.hok a _ ha;obtain⟨_,ws,n2,r2,o2⟩:=I.hok b _ hb;have hl:=hx.1;have l1:=r1.length;have l2:=r2.length;refine RcNeAt.lists (e:=λ_=>true) ⟨_,o1,rfl,n1,rfl⟩ ⟨_,o2,rfl,n2,rfl⟩ (by simp only[size_toArray];omega) (by omega) (ib I r1 r2 hx (by simp[Around.in1_units];omega)) _ _ _ _ ⟨.bl false,H,I,?_,q⟩;show _=Value.bool false;simp
  ·obtain⟨_,us,r1,t1⟩:=I.hok a _ ha;obtain⟨_,ws,r2,t2⟩:=I.hok b _ hb;have hl:=hx.1;have l1:=r1.length;have l2:=r2.length;refine RcNeAt.tuples (e:=λ_=>true) t1 t2 (by omega) (ib I r1 r2 hx (by simp[Around.in1_units];omega)) _ _ _ _ ⟨.bl false,H,I,?_,q⟩;show _=Value.bool false;have:us.toArray.size=ws.toArray.size:=by simp only[size_toArray];omega
   simp[this]
end
section
variable{prog:Program}{w:World}{A:Around}{E:Value→Shared→Prop}{s:Shared}
end
section
variable{P:Program}{w:World}
end
section
variable{X:Cx}{o e:Expr}{td ty:TE}{apos cpos:Pos}
end
def Ext(p:Addr)(H H':Hp):Prop:=∀b o,b≠p→H b=some o→H' b=some o
theorem Ext.of{p:Addr}{H H':Hp}(s:Same H H'):Ext p H H':=λb o _ e=>s b o e
theorem Ext.upd{p:Addr}{H:Hp}{o:HO}:Ext p H (upd H p o):=λb u hb e=>by rw[aj hb];exact e
theorem Ext.trans{p:Addr}{H H1 H2:Hp}(a:Ext p H H1)(b:Ext p H1 H2):Ext p H H2:=λc o hc e=>b c o hc (a c o hc e)
def Aj(te:TE):Prop:=∀σ H (Q Q':VK),(∀y H,Q y H→Q' y H)→te σ H Q→te σ H Q'
theorem pZ{js:List Nat}{J:It}{te:TE}{σ:St}{H1:Hp}{Q:VK}{p:Addr}{fr:List (Option V)}(n:Nat)(hn:n≤1000)(hp:H1 p=none)(hfr:cT 1 js σ=none::fr)(R:Nat→V→Hp→Prop)(hR:∀i y H H',R i y H→Ext p H H'→R i y H')(go:∀i H',i<n→Same H1 H'→J.go i H')(stop:∀H',Same H1 H'→J.stop n H')(me:Aj te)(step:∀i H' x H2,i<n→Same H1 H'→(∃ys,H' p=some (.lst ys))→J.yld i H' x H2→H2=H'∧te (some x::fr) H' λy H4=>Same H' H4∧R i y H4)(fin:∀ys H',Same H1 H'→H' p=some (.lst ys)→ys.length=n→(∀(j:Nat) y,ys[j]?=some y→R j y H')→Q (.ref p) H'):LcW 1 js (bj 0) te σ Q J H1 p:=by
 refine oO (k:=1) (js:=js) (J:=J) (p:=p) n hn (λi ys σ' H'=>(∃o,σ'=o::fr)∧Same H1 H'∧H' p=some (.lst ys)∧ys.length=i∧∀(j:Nat) y,ys[j]?=some y→R j y H') ⟨⟨none,hfr⟩,af hp,ac,rfl,λj y h=>by simp at h⟩
  (λi ys σ' H' h=>by have:=h.2.2.2.1;omega) (λi ys σ' H' hi h=>go i H' hi h.2.1) (λys σ' H' h=>⟨stop H' h.2.1,fin ys H' h.2.1 h.2.2.1 h.2.2.2.1 h.2.2.2.2⟩) (λi ys σ' H' hi h x H2 hy=>?_) ?_ me
 ·obtain⟨⟨o,rfl⟩,s1,hl,hlen,hrs⟩:=h;obtain⟨rfl,ht⟩:=step i H' x H2 hi s1 ⟨ys,hl⟩ hy;refine me _ _ _ _ (λy H4 h4=>?_) ht;obtain⟨s4,r4⟩:=h4;refine⟨s4 _ _ hl,⟨some x,rfl⟩,aM hp (s1.trans s4),ac,by rw[length_append,hlen];rfl,λj z hz=>?_⟩;have ex:Ext p H2 (upd H4 p (.lst (ys++[y]))):=(Ext.of s4).trans Ext.upd
  by_cases hj:j<ys.length
  ·rw[getElem?_append_left hj]at hz;exact hR _ _ _ _ (hrs j z hz) ex
  ·rw[getElem?_append_right (by omega)]at hz;have hj':j-ys.length=0:=by
    cases e:j-ys.length with
    |zero=>rfl
    |succ m=>rw[e]at hz;simp at hz
   rw[hj']at hz;have ez:y=z:=by simpa using hz
   subst ez;have ej:j=i:=by omega
   subst ej;exact hR _ _ _ _ r4 Ext.upd
 ·intro _ _ _ _ _ m q;exact m _ _ q
theorem dj{H:Hp}{p q:Addr}(hp:∃ys,H p=some (.lst ys))(hq:H q=none):q≠p:=λe=>by
 obtain⟨ys,h⟩:=hp;rw[←e,hq]at h;cases h
section
variable{X:Cx}{N:List Str}{scope:Scope}{cl:List (Str×Addr)}{k:Nat}{js:List Nat}
theorem uI{elt tg iter:Expr}{pos spos py:Pos}{y:Str}{ii:Nat}{wi:TI}{g:TG}{te:TE}(hXN:X.N.Nodup)(hii:X.N[ii]?=some y)(hx:Loc X.env.scope y)(hc:X.calm=true)(L:LcOk X scope cl)(hN:N.length=k+js.length)(hj:∀(i j:Nat) x,js[i]?=some j→N[k+i]?=some x→X.N[j]?=some x∧Vis X.env.scope x∧X.env.scope.names.lookup x≠some .local∧((relabel scope X.env).names.lookup x=some .cell∨(relabel scope X.env).names.lookup x=some .free))(hi:PI X tg iter wi)(hg:∀s H fp,PG (di X N scope cl s H fp) tg g)(he:∀s H fp,PE (di X N scope cl s H fp) elt te)(hs:∀x,foldedSetIterable iter X.env x=pure x:=by intro _;rfl)(hsw:swapsWith (.ListComp elt [⟨tg,iter,[],0⟩] scope pos) (some (.Name y py)) spos.line X.env=pure true:=by rfl)(hf:X.fn y=true∨X.env.scope.names.lookup y=some .local:=by first|exact .inl rfl|exact .inr rfl|assumption):PS X (.Assign [.Name y py] (.ListComp elt [⟨tg,iter,[],0⟩] scope pos) spos) (zO (tLc k js wi g te) (bj ii)):=by
 intro pins s σ H D I h;rw[exec_Assign_Name_used _ _ _ _ hsw];refine wpAny_bind (wpAny_standAt (wpAny_bind ?_));show wpAny _ X.A (do let _ ← comprehension (.ListComp elt [⟨tg,iter,[],0⟩] scope pos) scope X.env _ (newList []) false (eval iter X.env) (some (assign (.Name y py) X.env))) _ _ s
 refine wpAny_bind (wpAny_mono (wpAny_comprehension_free (use:=some (assign (.Name y py) X.env)) (Q:=λ_ s'=>∃σ' H',Inv X pins σ' H' s'∧D.nx σ' H') rfl hs L.clos L.kind L.names ?_) (λ_ s' hq=>wpAny_pure (wpAny_pure hq)) λ_ _ e=>e);refine thn (hi pins s σ H _ I h) λv s1 h1=>thn h1 λitv s2 h2=>?_;obtain⟨it,fp,tn,J,H2,e,I2,T,st2,f2,hW⟩:=h2;subst e;have hfp:∀b∈fp,b<s2.heap.objs.size:=λb hb=>by
  obtain⟨o,e,_⟩:=T.obj _ _ st2 b hb;exact lt_size e
 refine wpAny_newObj_type (wpAny_newFunctionEnv L.nocell (by intro y hy;simp at hy) (λh₁ hns hsb=>?_) L.kind);dsimp only at hns hsb⊢;obtain⟨W,⟨m0,w0⟩,turn⟩:=hW s2.heap.objs.size (I2.hok.fresh (le_refl _));have I3:Inv X pins σ (upd H2 s2.heap.objs.size (.lst [])) {s2 with heap:=s2.heap.push {cls:=.type "list",dict:=none,data:=.seq ([]:List Value).toArray}}:=I2.lnew (t':=s2.toks) .nil (zero_le _)
 generalize hA:s2.heap.push {cls:=.type "list",dict:=none,data:=.seq ([]:List Value).toArray}=hpA at hns hsb I3⊢;have hszA:hpA.objs.size=s2.heap.objs.size+1:=by rw[←hA,size_push]
 have keepA:∀b o,s2.heap.get? b=some o→hpA.get? b=some o:=λb o e=>by rw[←hA];exact get?_push_of_some _ e
 have f3:∀b∈fp,gE X pins (upd H2 s2.heap.objs.size (.lst [])) b:=λb hb=>⟨by rw[aj (ne_of_lt (hfp b hb))];exact(f2 b hb).1,(f2 b hb).2⟩;have hfp3:∀b∈fp,b<hpA.objs.size:=λb hb=>by rw[hszA];exact lt_succ_of_lt (hfp b hb)
 have keep1:∀b o,hpA.get? b=some o→h₁.get? b=some o:=λb o e=>hsb.extBut b o (ne_of_lt (lt_size e)) (get?_push_of_some _ e);have J0:=jJ (N:=N) (k:=k) (js:=js) (tk:=s2.toks+([]:List (Str×Value)).length) I3 L f3 hfp3 ⟨_,hns⟩ keep1 hN hj;have st1:tn 0 h₁:=T.keep _ _ _ st2 λb hb o e=>keep1 b o (keepA b o e);have stat:∀{H':Hp},(∀b∈fp,H' b=none)→∀b∈fp,gE (di X N scope cl {s2 with heap:=hpA} (upd H2 s2.heap.objs.size (.lst [])) fp) [] H' b:=λhn b hb =>
  ⟨hn b hb,ne_of_lt (hfp3 b hb),(qY (N:=N) I3 L f3 hfp3).exfs b hb,.inl hb,λx c h=>(f3 b hb).2.2.2.2.1 x c (L.cells x c h),λp hp=>absurd (show p∈([]:List (Addr×Obj))from hp) (by simp)⟩
 have loop:codeAny (model X.prog X.w) X.A (.compLoop (.ListComp elt [⟨tg,iter,[],0⟩] scope pos) 0 (.ref it) (.ref s2.heap.objs.size) (compEnvC scope cl hpA.objs.size X.env))
   (compPost (model X.prog X.w) X.A X.xe (some (assign (.Name y py) X.env)) (λ_ s'=>∃σ' H',Inv X pins σ' H' s'∧D.nx σ' H') (.ref s2.heap.objs.size) hpA.objs.size) {s2 with heap:=h₁,toks:=s2.toks+([]:List (Str×Value)).length}:=by
  refine qZ (λn s'=>∃i ys σ' H',Inv (di X N scope cl {s2 with heap:=hpA} (upd H2 s2.heap.objs.size (.lst [])) fp) [] σ' H' s'∧tn i s'.heap∧(∀b∈fp,H' b=none)∧W i n ys σ' H') ?_ m0 ⟨0,[],_,_,J0,st1,λb hb=>(f3 b hb).1,w0⟩
  rintro n s3 ⟨i,ys,σ3,H3,J3,st3,fr3,w3⟩;rcases turn i n ys σ3 H3 w3 with⟨stop,qn⟩|⟨go,hlen,step⟩
  ·refine thn (T.done (di X N scope cl {s2 with heap:=hpA} (upd H2 s2.heap.objs.size (.lst [])) fp) rfl rfl rfl hc i [] s3 σ3 H3 (λ_ _=>False) J3 (stat fr3) st3 stop) λr s4 hpt=>?_
   obtain⟨hr,J4⟩:=hpt;subst hr;obtain⟨m,hm,_⟩:=J4.loc;have I4:Inv X pins σ H3 s4:=pR I3 f3 J4 (SameBut.refl _ _);obtain⟨f0,f1,f2,f3',f4,f5⟩:=I3.fpOk (b:=hpA.objs.size) (le_refl _) (H':=H3) J4.free;show wpAny _ _ (assign (.Name y py) X.env (.ref s2.heap.objs.size)) _ _ _;refine wpAny_assign_Name (lm I4 hXN hii hx (v:=.ref s2.heap.objs.size) rfl (λs5 I5 ⟨a,sb,ha⟩=>⟨m,hm.sameBut sb ?_,λh' hs'=>⟨_,H3,I5.turned (t':=s5.toks) (λb o hb e=>(hs'.2 b hb).trans e) f0 f1 f3' f4 f5,qn⟩⟩) hf);rcases ha with e|e
   ·rw[e];exact f1
   ·exact λz=>f4 _ _ e z.symm
  ·refine thn (T.item (di X N scope cl {s2 with heap:=hpA} (upd H2 s2.heap.objs.size (.lst [])) fp) rfl rfl rfl hc i [] s3 σ3 H3 (λ_ _=>False) J3 (stat fr3) st3 go) λr s4 hpt=>?_
   obtain⟨u,hr,h4⟩:=hpt;subst hr;refine thn h4 λ_ s5 hpt=>?_;obtain⟨x,H5,J5,r5,y5,st5,fr5⟩:=hpt;have J5':=J5.pinned (stat fr5) (T.obj _ _ st5);refine thn (hg _ _ _ _ s5 σ3 H5 x u _ J5' r5 (step x H5 y5)) λ_ s6 hpt=>?_;obtain⟨σ6,H6,J6,q6⟩:=hpt;refine thn (he _ _ _ _ s6 σ6 H6 _ J6 q6) λy s7 hpt=>?_;obtain⟨vy,H7,J7,r7,q7,m',hm',w7⟩:=hpt;refine thn (bv _ s7 σ6 H7 (.ref s2.heap.objs.size) [vy] _ _ (λ_ H8=>H8=upd H7 s2.heap.objs.size (.lst (ys++[vy]))) J7 rfl (.cons r7 .nil) ⟨_,ys,vy,rfl,rfl,q7,hlen,rfl⟩) λ_ s8 hpt=>?_;obtain⟨_,H8,J8,_,e8⟩:=hpt;subst e8;refine⟨m',hm',i+1,ys++[vy],σ6,_,J8.unpinned,T.keep _ _ _ st5 λb hb o e=>(J8.pin (b,o) (mem_append_right _ (mem_append_right _ (bx hb e)))).1,λb hb=>?_,w7⟩;obtain⟨o,e,d⟩:=T.obj _ _ st5 b hb;exact(J8.pin (b,o) (mem_append_right _ (mem_append_right _ (bx hb e)))).2.1
 exact codeAny_compStart_list loop (T.self _ 0 _ _ _ st1 loop)
end
abbrev TJ:=St→Hp→(Hp→Prop)→Prop
section
variable{X:Cx}{tg:Expr}
def PJ(X:Cx)(ps:List Expr)(b:Nat)(t:TJ):Prop :=
 ∀(out:Str)(pins:List (Addr×Obj))(s:Shared)(σ:St)(H:Hp)(Q:VK),Inv X pins σ H s→out.length+b≤1000→(t σ H λH1=>∀y,Q (.str y) H1)→wpAny (model X.prog X.w) X.A (joinParts out (evalEach ps X.env)) (EP X pins σ Q) X.xe s
theorem jY:PJ X [] 0 (λσ H k=>k H):=by
 intro out pins s σ H Q I hb h;exact joinParts_nilE (joinParts_nil ⟨.str _,H,I.tok _,⟨_,rfl⟩,h _⟩ (le_of_lt (ax (by omega))))
theorem dB{x:Str}{c b:Nat}{j:Nat}{p:Pos}{ps:List Expr}{t:TJ}(hx:x.length≤c)(h:PJ X ps b t):PJ X (.Constant (.str x) j p::ps) (c+b) t:=by
 intro out pins s σ H Q I hb hq;refine joinParts_cons (Constant_str ?_);have hl:(out++x).length=out.length+x.length:=strLen_append ..;exact⟨le_of_lt (ax (by omega)),h _ pins _ σ H Q (I.tok _) (by omega) hq⟩
theorem iM{e:Expr}{te:TE}{b:Nat}{p:Pos}{ps:List Expr}{t:TJ}(he:PE X e te)(h:PJ X ps b t):PJ X (.FormattedValue e (-1) none p::ps) (100+b) (λσ H k=>te σ H λv H1=>∃i:Int,v=.int i∧0≤i∧i≤60∧t σ H1 k):=by
 intro out pins s σ H Q I hb hq;refine joinParts_cons (FormattedValue_plain (thn (he pins _ σ H _ I hq) λv s1 hpt=>?_));obtain⟨y,H1,I1,r1,q1⟩:=hpt;obtain⟨i,rfl,h0,h1,q⟩:=q1;obtain⟨tk,rfl⟩:=r1;have h2:=jV i h0 h1;have hl:(out++ofString (toString i)).length=out.length+(ofString (toString i)).length:=strLen_append ..;refine formatField_int_small (lt_of_le_of_lt (Nat.log2_le_self _) (by omega)) ⟨le_of_lt (ax (by omega)),?_⟩;exact h _ pins _ σ H1 Q (I1.tok _) (by omega) q
theorem yO{e:Expr}{te:TE}{b:Nat}{p:Pos}{ps:List Expr}{t:TJ}(he:PE X e te)(h:PJ X ps b t):PJ X (.FormattedValue e (-1) none p::ps) (100+b) (λσ H k=>te σ H λv H1=>∃x:Str,v=.str x∧x.length≤100∧t σ H1 k):=by
 intro out pins s σ H Q I hb hq;refine joinParts_cons (FormattedValue_plain (thn (he pins _ σ H _ I hq) λv s1 hpt=>?_));obtain⟨y,H1,I1,r1,q1⟩:=hpt;obtain⟨x,rfl,h2,q⟩:=q1;obtain⟨tk,rfl⟩:=r1;have hl:(out++x).length=out.length+x.length:=strLen_append ..;refine formatField_str (λt' tk=>⟨le_of_lt (ax (by omega)),?_⟩) (le_of_lt (ax (by omega)));exact h _ pins _ σ H1 Q (I1.tok _) (by omega) q
def Ak(t:TJ):TE:=λσ H Q=>t σ H λH1=>∀y,Q (.str y) H1
theorem ic{p1 p2:Expr}{ps:List Expr}{pos:Pos}{b:Nat}{t:TJ}(h:PJ X (p1::p2::ps) b t)(hb:b≤1000):PE X (.JoinedStr (p1::p2::ps) pos) (Ak t):=by
 intro pins s σ H Q I hq;exact JoinedStr_many (h empty pins s σ H Q I (by show 0+b≤1000;omega) hq)
theorem yP{E:XK}(L:Lv X E):PassesOwn (model X.prog X.w) X.A X.env X.xe:=by
 rw[L.xe];exact PassesOwn.leaving
def iDK(td:TE):TI:=λσ H R=>td σ H λv H1=>∃d kvs,v=.ref d∧H1 d=some (.dK kvs)∧∀o,R (Itk d o (.dK kvs) (kvs.map λp=>kV p.1)) (upd H1 d (.frz o (.dK kvs)))
theorem xU{l:Expr}{tl:TE}(hl:PE X l tl):PI X tg l (iDK tl):=by
 intro pins s σ H R I h;refine thn (hl pins s σ H _ I h) λv s1 hpt=>?_;obtain⟨x,H1,I1,r1,q1⟩:=hpt;obtain⟨d,kvs,e,hH,q⟩:=q1;subst e;cases r1;obtain⟨hz,hsm,vs,rel,o,es,ep,ho,hx,hd,hk,hp,hn⟩:=I1.hok d _ hH;have I2:Inv X pins σ (upd H1 d (.frz o (.dK kvs))) s1:=I1.write (t':=s1.toks) (x:=d) (e:=d) (by rw[hH];trivial) (.inl rfl) (λ_ _ _ q=>q) ⟨o,ho⟩ ⟨ho,hz,hsm,vs,rel,o,es,ep,ho,hx,hd,hk,hp,hn⟩;refine uE hsm ⟨o,ho,hx,hd⟩ ?_;refine⟨s1.heap.objs.size,[s1.heap.objs.size],_,_,upd H1 d (.frz o (.dK kvs)),rfl,I2.kept (t':=s1.toks) λb o e=>get?_push_of_some _ e,sL hx hd ?_,⟨_,get?_push_size _ rfl,rfl,rfl⟩,λb hb=>?_,q o⟩
 ·have key:∀(es:List DictEntry)(vs:List (Key×Value))(kvs:List (Key×V)),Pairs (aG X.prog X.w) es vs→KV kvs vs→aH (kvs.map λp=>kV p.1) (es.map (·.key)):=by
   intro es vs kvs hp
   induction hp generalizing kvs with
   |nil=>intro r;cases r;exact .nil
   |cons h1 h2 _ ih =>
    intro r;cases r with
    |cons r1 r2 =>
     refine .cons ?_ (ih _ r2);dsimp only;rw[r1.1];rcases aV h1 with⟨i,t,e1,e2⟩|⟨x,t,e1,e2⟩
     ·rw[e1,e2];exact⟨t,rfl⟩
     ·rw[e1,e2];exact⟨t,rfl⟩
  exact key _ _ _ hp rel
 ·have e:b=s1.heap.objs.size:=by simpa using hb
  subst e;exact I2.fpOk (le_refl _) (I2.hok.fresh (le_refl _))
theorem qb(hu:X.A.units+1<cLine):OpR X (compareOp .In) (λx y H Q=>∃a p ks,∃kss:List (Addr×List Key),x=.ref a∧H a=some (.tup (ks.map kV))∧y=.ref p∧SqL X.K H p ((kss.map (·.1)).map V.ref) ∧
  (∀z∈kss,H z.1=some (.tup (z.2.map kV)))∧Q (.bl (kss.any λz=>decide (z.2=ks))) H):=by
 intro pins s σ H x y v u Q I rx ry h;obtain⟨a,p,ks,kss,rfl,ha,rfl,hq,hk,q⟩:=h;cases rx;cases ry;obtain⟨its,rv,pl,hz⟩:=I.list hq;have e:=dw rv;subst e
 let e:Value→Bool:=λv=>match v with | .ref b=>((kss.find? λz=>z.1==b).map λz=>decide (z.2=ks)).getD false | _=>false
 have he:∀z∈kss,e (.ref z.1)=decide (z.2=ks):=λz hz'=>by
  show((kss.find? λy=>y.1==z.1).map λz=>decide (z.2=ks)).getD false=_;cases ef:kss.find? λy=>y.1==z.1 with
  |none=>have:=find?_eq_none.mp ef z hz';simp at this
  |some y =>
   have h1:=find?_some ef;have h2:=List.mem_of_find?_eq_some ef;have e1:y.1=z.1:=by simpa using h1
   have e2:=hk y h2;rw[e1,hk z hz']at e2;have e3:z.2.map kV=y.2.map kV:=by injection (Option.some.inj e2)
   rw[mt e3];rfl
 refine in_listAt e pl.isList (λy hy=>?_) ⟨.bl _,H,I,rfl,?_⟩
 ·have hy':y∈(kss.map (·.1)).map Value.ref:=by simpa using hy
  obtain⟨b,hb,rfl⟩:=mem_map.mp hy';obtain⟨z,hz',rfl⟩:=mem_map.mp hb;rw[he z hz'];intro prog w E' Q' hQ;exact wpAny_eqBool_tuple (knd:=aG prog w) (by simp;exact hu) (ut I (hk z hz') prog w) (ut I ha prog w) hQ
 ·have e1:(((kss.map (·.1)).map Value.ref).toArray.any e)=kss.any λz=>decide (z.2=ks):=by
   rw[List.any_toArray,any_map,any_map];apply Bool.eq_iff_iff.mpr;rw[any_eq_true,any_eq_true];constructor
   ·rintro⟨z,hz',h1⟩;exact⟨z,hz',by rw[←he z hz'];exact h1⟩
   ·rintro⟨z,hz',h1⟩;exact⟨z,hz',by show e (.ref z.1)=true;rw[he z hz'];exact h1⟩
  rw[e1];exact q
theorem uJ(hu:X.A.units+4<cLine):OpR X (compareOp .Eq) (λx y H Q=>rEq x y H Q∨(∃a b xs ys,x=.ref a∧y=.ref b∧fj H xs ys∧((H a=some (.lst xs)∧H b=some (.lst ys))∨(H a=some (.tup xs)∧H b=some (.tup ys)))∧Q (.bl true) H)):=by
 intro pins s σ H x y v u Q I rx ry h;rcases h with h|⟨a,b,xs,ys,rfl,rfl,hx,h,q⟩
 ·exact cD pins s σ H x y v u Q I rx ry h
 ·cases rx;cases ry;rcases h with⟨ha,hb⟩|⟨ha,hb⟩
  ·obtain⟨_,us,n1,r1,o1⟩:=I.hok a _ ha;obtain⟨_,ws,n2,r2,o2⟩:=I.hok b _ hb;have hl:=hx.1;have l1:=r1.length;have l2:=r2.length;refine eq_listAt (e:=λ_=>true) ⟨_,o1,rfl,n1,rfl⟩ ⟨_,o2,rfl,n2,rfl⟩ (by simp only[size_toArray];omega) (by omega) (ib I r1 r2 hx (by simp[Around.in1_units];omega)) ⟨.bl true,H,I,?_,q⟩;show _=Value.bool true;simp
  ·obtain⟨_,us,r1,t1⟩:=I.hok a _ ha;obtain⟨_,ws,r2,t2⟩:=I.hok b _ hb;have hl:=hx.1;have l1:=r1.length;have l2:=r2.length;refine SeqAt.eq_tupleAt (e:=λ_=>true) t1 t2 (by omega) (ib I r1 r2 hx (by simp[Around.in1_units];omega)) ⟨.bl true,H,I,?_,q⟩;show _=Value.bool true;have:us.toArray.size=ws.toArray.size:=by simp only[size_toArray];omega
   simp[this]
end
theorem Same.seqT{K:PySem.W.Frag}{H H':Hp}{a:Addr}{xs:List V}(e:Same H H')(h:SqT K H a xs):SqT K H' a xs:=by
 rcases h with (h|⟨o,h⟩)|h
 ·exact .inl (.inl (e _ _ h))
 ·exact .inl (.inr ⟨o,e _ _ h⟩)
 ·exact .inr h
structure Src(J:It)(H1:Hp)(xs:List V):Prop where
 go:∀i H',i<xs.length→Same H1 H'→J.go i H'
 stop:∀H',Same H1 H'→J.stop xs.length H'
 yl:∀i H' x H2,i<xs.length→Same H1 H'→J.yld i H' x H2→H2=H'∧xs[i]?=some x
theorem dJ{K:PySem.W.Frag}{a:Addr}{xs:List V}{H1:Hp}(h:SqT K H1 a xs):Src (Itt K a) H1 xs :=
 ⟨λi H' hi s=>⟨xs,xs[i],s.seqT h,getElem?_eq_getElem hi⟩,λH' s=>⟨xs,s.seqT h,le_refl _⟩,λi H' x H2 _ s ⟨e,y⟩=>⟨e,y xs (by subst e;exact s.seqT h)⟩⟩
theorem ie{K:PySem.W.Frag}{a:Addr}{xs:List V}{H1:Hp}(h:SqL K H1 a xs):Src (Itl K a) H1 xs :=
 ⟨λi H' hi s=>⟨xs,xs[i],s.seq h,getElem?_eq_getElem hi⟩,λH' s=>⟨xs,s.seq h,le_refl _⟩,λi H' x H2 _ s ⟨e,y⟩=>⟨e,y xs (by subst e;exact s.seq h)⟩⟩
theorem oR{d:Addr}{o:Obj}{u:HO}{ks:List V}{H1:Hp}(h:H1 d=some (.frz o u)):Src (Itk d o u ks) H1 ks :=
 ⟨λi H' hi s=>⟨s _ _ h,hi⟩,λH' s=>⟨s _ _ h,le_refl _⟩,λi H' x H2 _ s ⟨e,y⟩=>⟨e,y⟩⟩
theorem Paired.snoc{α β:Type}{R:α→β→Prop}:∀{as:List α}{bs:List β}{a:α}{b:β},Paired R as bs→R a b→Paired R (as++[a]) (bs++[b])
 |_,_,_,_,.nil,h=>.cons h .nil
 |_,_,_,_,.cons r t,h=>.cons r (Paired.snoc t h)
theorem iN{α:Type}{js:List Nat}{J:It}{tc:TT}{te:TE}{σ:St}{H1:Hp}{Q:VK}{p:Addr}{fr:List (Option V)}(zs:List α)(val:α→V)(hn:zs.length≤1000)(hp:H1 p=none)(S:Src J H1 (zs.map val))(hfr:cT 1 js σ=none::fr)(g:α→Bool)(R:α→V→Hp→Prop)(hR:∀z y H H',R z y H→Ext p H H'→R z y H')(cond:∀z H' (k:Bool→Hp→Prop),z∈zs→Same H1 H'→(∃ys,H' p=some (.lst ys))→(∀H4,Same H' H4→k (g z) H4)→tc (some (val z)::fr) H' k)(elt:∀z H' (k:VK),z∈zs→g z=true→Same H1 H'→(∃ys,H' p=some (.lst ys))→(∀y H4,Same H' H4→R z y H4→k y H4)→te (some (val z)::fr) H' k)(fin:∀ys H',Same H1 H'→H' p=some (.lst ys)→Paired (λz y=>R z y H') (zs.filter g) ys→Q (.ref p) H'):Ag 1 js (bj 0) tc te σ Q J H1 p:=by
 have grow:∀{as:List α}{ys:List V}{H H':Hp},Ext p H H'→Paired (λz y=>R z y H) as ys→Paired (λz y=>R z y H') as ys:=λex r=>Paired.mapP r λa b h=>hR a b _ _ h ex;have hlen:∀{as:List α}{ys:List V}{H:Hp},Paired (λz y=>R z y H) as ys→ys.length=as.length:=λr=>(Paired.length r).symm;refine⟨λi m ys σ' H'=>m=zs.length-i∧i≤zs.length∧(∃o,σ'=o::fr)∧Same H1 H'∧H' p=some (.lst ys)∧Paired (λz y=>R z y H') ((zs.take i).filter g) ys,⟨zs.length,by simp,zero_le _,⟨none,hfr⟩,af hp,ac,.nil⟩,?_⟩;rintro i m ys σ' H' ⟨rfl,hi,⟨o,rfl⟩,s1,hl,hys⟩
 by_cases hlt:i<zs.length
 ·have hlt':i<(zs.map val).length:=by rw[length_map];exact hlt
  refine .inr ⟨S.go i H' hlt' s1,?_,λx H2 hy=>?_⟩
  ·have h1:ys.length≤zs.length:=by
    rw[hlen hys];exact le_trans (length_filter_le _ _) (by rw[length_take];omega)
   exact lt_of_le_of_lt h1 (ax hn)
  ·obtain⟨rfl,hx⟩:=S.yl i H' x H2 hlt' s1 hy;have gz:zs[i]?=some zs[i]:=getElem?_eq_getElem hlt;have mz:=mem_of_getElem? gz;rw[getElem?_map,gz]at hx;have ex:val zs[i]=x:=Option.some.inj hx;have et:zs.take (i+1)=zs.take i++[zs[i]]:=cB gz;subst ex;generalize zs[i]=z at gz mz et⊢;refine cond z H2 _ mz s1 ⟨ys,hl⟩ λH4 s4=>?_;cases hb:g z with
   |true =>
    rw[if_pos rfl];refine elt z H4 _ mz hb (s1.trans s4) ⟨ys,s4 _ _ hl⟩ λy H5 s5 r5=>⟨s5 _ _ (s4 _ _ hl),zs.length-(i+1),by omega,rfl,hlt,⟨_,rfl⟩,aM hp ((s1.trans s4).trans s5),ac,?_⟩;rw[et,List.filter_append,filter_cons_of_pos hb];exact Paired.snoc (grow ((Ext.of (s4.trans s5)).trans Ext.upd) hys) (hR _ _ _ _ r5 Ext.upd)
   |false =>
    rw[if_neg (by simp)];refine⟨zs.length-(i+1),by omega,rfl,hlt,⟨_,rfl⟩,s1.trans s4,s4 _ _ hl,?_⟩;rw[et,List.filter_append,filter_cons_of_neg (by simp[hb]),List.filter_nil,append_nil];exact grow (Ext.of s4) hys
 ·have e:i=zs.length:=by omega
  subst e;have st:=S.stop H' s1;rw[length_map]at st;refine .inl ⟨st,fin ys H' s1 hl ?_⟩;rw[take_length]at hys;exact hys
theorem dL{α:Type}{js:List Nat}{J:It}{te:TE}{σ:St}{H1:Hp}{Q:VK}{p:Addr}{fr:List (Option V)}(zs:List α)(val:α→V)(hn:zs.length≤1000)(hp:H1 p=none)(S:Src J H1 (zs.map val))(hfr:cT 1 js σ=none::fr)(R:α→V→Hp→Prop)(hR:∀z y H H',R z y H→Ext p H H'→R z y H')(elt:∀z H' (k:VK),z∈zs→Same H1 H'→(∃ys,H' p=some (.lst ys))→(∀y H4,Same H' H4→R z y H4→k y H4)→te (some (val z)::fr) H' k)(fin:∀ys H',Same H1 H'→H' p=some (.lst ys)→Paired (λz y=>R z y H') zs ys→Q (.ref p) H'):LcW 1 js (bj 0) te σ Q J H1 p:=by
 have grow:∀{as:List α}{ys:List V}{H H':Hp},Ext p H H'→Paired (λz y=>R z y H) as ys→Paired (λz y=>R z y H') as ys:=λex r=>Paired.mapP r λa b h=>hR a b _ _ h ex;have hlen:∀{as:List α}{ys:List V}{H:Hp},Paired (λz y=>R z y H) as ys→ys.length=as.length:=λr=>(Paired.length r).symm;refine⟨λi m ys σ' H'=>m=zs.length-i∧i≤zs.length∧(∃o,σ'=o::fr)∧Same H1 H'∧H' p=some (.lst ys)∧Paired (λz y=>R z y H') (zs.take i) ys,⟨zs.length,by simp,zero_le _,⟨none,hfr⟩,af hp,ac,.nil⟩,?_⟩;rintro i m ys σ' H' ⟨rfl,hi,⟨o,rfl⟩,s1,hl,hys⟩
 by_cases hlt:i<zs.length
 ·have hlt':i<(zs.map val).length:=by rw[length_map];exact hlt
  refine .inr ⟨S.go i H' hlt' s1,?_,λx H2 hy=>?_⟩
  ·have h1:ys.length≤zs.length:=by
    rw[hlen hys,length_take];omega
   exact lt_of_le_of_lt h1 (ax hn)
  ·obtain⟨rfl,hx⟩:=S.yl i H' x H2 hlt' s1 hy;have gz:zs[i]?=some zs[i]:=getElem?_eq_getElem hlt;have mz:=mem_of_getElem? gz;rw[getElem?_map,gz]at hx;have ex:val zs[i]=x:=Option.some.inj hx;have et:zs.take (i+1)=zs.take i++[zs[i]]:=cB gz;subst ex;generalize zs[i]=z at gz mz et⊢;refine elt z H2 _ mz s1 ⟨ys,hl⟩ λy H5 s5 r5=>⟨s5 _ _ hl,zs.length-(i+1),by omega,rfl,hlt,⟨_,rfl⟩,aM hp (s1.trans s5),ac,?_⟩;rw[et];exact Paired.snoc (grow ((Ext.of s5).trans Ext.upd) hys) (hR _ _ _ _ r5 Ext.upd)
 ·have e:i=zs.length:=by omega
  subst e;have st:=S.stop H' s1;rw[length_map]at st;refine .inl ⟨st,fin ys H' s1 hl ?_⟩;rw[take_length]at hys;exact hys
theorem cP{α β:Type}{R:α→V→Prop}{val:β→V}{S:α→β→Prop}{zs:List α}{ys:List V}(h:Paired R zs ys)(f:∀z y,z∈zs→R z y→∃b,y=val b∧S z b):
  ∃bs:List (α×β),bs.map (·.1)=zs∧ys=bs.map (λx=>val x.2)∧∀x∈bs,S x.1 x.2:=by
 induction h with
 |nil=>exact⟨[],rfl,rfl,by simp⟩
 |@cons a y as bs r _ ih =>
  obtain⟨cs,e1,e2,e3⟩:=ih λz y hz=>f z y (by simp[hz]);obtain⟨b,e,s⟩:=f _ _ (by simp) r;refine⟨(a,b)::cs,by rw[map_cons,e1],by rw[map_cons,←e2,e],λx hx=>?_⟩;rcases mem_cons.mp hx with rfl|hx
  ·exact s
  ·exact e3 x hx
theorem ck{α:Type}{R:α→V→Prop}{f:α→V}{zs:List α}{ys:List V}(h:Paired R zs ys)(hf:∀z y,z∈zs→R z y→y=f z):ys=zs.map f:=by
 induction h with
 |nil=>rfl
 |cons r _ ih=>rw[map_cons,←ih λz y hz=>hf z y (by simp[hz]),hf _ _ (by simp) r]
theorem wN(p:Int)(ms:List Int):inV (.int p) (ms.map V.int)=decide (p∈ms):=by
 unfold inV;rw[any_map,Bool.eq_iff_iff,any_eq_true,decide_eq_true_eq];constructor
 ·rintro⟨x,hx,e⟩;have:x=p:=by simpa [eqV]using e
  rw[←this];exact hx
 ·intro h;exact⟨p,h,by simp[eqV]⟩
theorem sM(ms:List Int):(ms.map V.int).all dz=true:=by
 rw[all_map,all_eq_true];intro x _;rfl
theorem gC{X:Cx}:eL (CX1 X.prog X.w) X E0:=λ_ _ _ _ _ _ _ ⟨_,_,_,_,_,h⟩=>h.elim
theorem Inv.thaw{X:Cx}{pins:List (Addr×Obj)}{σ:St}{H:Hp}{s:Shared}{d:Addr}{o:Obj}{kvs:List (Key×V)}(I:Inv X pins σ H s)(h:H d=some (.frz o (.dK kvs)))(h0:X.H₀ d=none):Inv X pins σ (upd H d (.dK kvs)) s:=by
 have nd:∀b u,H b=some u→(∀o' u',u≠.frz o' u')→b≠d:=λb u e hn z=>by
  subst z;rw[h]at e;cases e;exact hn _ _ rfl
 have nn:∀b,H b=none→b≠d:=λb e z=>by
  subst z;rw[h]at e;cases e
 refine⟨I.ok,I.os,I.bare,⟨I.base.keep,I.base.slot,λb o e n hx=>?_,I.base.there,λb xs e=>?_,λb o' u e=>?_,λb ps e=>?_⟩,I.loc,I.cell,?_,λx c e=>?_,λp hp=>?_,λb u e=>?_,I.len⟩
 ·have:=I.base.free b o e n hx;rw[aj (nn b this)];exact this
 ·have:=I.base.tups b xs e;rw[aj (nd b _ this λ_ _ z=>by cases z)];exact this
 ·have hb:b≠d:=λz=>by subst z;rw[h0]at e;cases e
  rw[aj hb];exact I.base.frzs b o' u e
 ·obtain⟨m,this⟩:=I.base.tbls b ps e;exact⟨m,by rw[aj (nd b _ this λ_ _ z=>by cases z)];exact this⟩
 ·rw[aj (nn _ I.free)];exact I.free
 ·rw[aj (nn _ (I.freeC x c e))];exact I.freeC x c e
 ·obtain⟨e,n,r⟩:=I.pin p hp;exact⟨e,by rw[aj (nn _ n)];exact n,r⟩
 ·by_cases hb:b=d
  ·subst hb;rw[ac]at e;cases e;obtain⟨_,q⟩:=I.hok b _ h;exact q
  ·rw[aj hb]at e;exact(I.hok b u e).stay (λ_ _ _ q=>q) (λc q=>by rw[aj (nd c _ q λ_ _ z=>by cases z)];exact q) λc xs q=>by rw[aj (nd c _ q λ_ _ z=>by cases z)];exact q
def Al(H₀:Hp)(t:TS):TS:=λD σ H=>∃d o kvs,H₀ d=none∧H d=some (.frz o (.dK kvs))∧t D σ (upd H d (.dK kvs))
theorem wO{X:Cx}{st:Stmt}{t:TS}(hs:PS X st t):PS X st (Al X.H₀ t):=λpins s σ H D I ⟨d,o,kvs,h0,h,ht⟩=>hs pins s σ _ D (I.thaw h h0) ht
end L2
namespace TW
structure Nd(S:Type) where
 num:Int
 par:Int
 nm:S
 st:Option Int
section
variable{S:Type}
inductive Reach(ns:List (Nd S))(f:Int):Nd S→Prop where
 |base {n:Nd S}:n∈ns→n.par=f→Reach ns f n
 |step {m n:Nd S}:Reach ns f m→m.st=none→n∈ns→n.par=m.num→Reach ns f n
theorem Reach.mem{ns:List (Nd S)}{f:Int}{n:Nd S}(h:Reach ns f n):n∈ns:=by
 cases h<;>assumption
theorem Reach.mono{ns ms:List (Nd S)}{f:Int}{n:Nd S}(h:Reach ns f n)(hs:∀x∈ns,x∈ms):Reach ms f n:=by
 induction h with
 |base hm hp=>exact .base (hs _ hm) hp
 |step _ hf hm hp ih=>exact .step ih hf (hs _ hm) hp
def inside(ns:List (Nd S))(k:Int):List (Nd S):=ns.filter λn=>decide (n.par=k)
def dM(dn:List Int)(n:Nd S):Bool:=decide (n.par∈dn)
structure Walk(ns:List (Nd S))(f:Int)(dn:List Int)(fd:List (Nd S))(pd:List Int):Prop where
 perm:fd.Perm (ns.filter (dM dn))
 reach:∀n∈fd,Reach ns f n
 cover:∀k,(k∈pd∨k∈dn)↔(k=f∨∃m∈fd,m.st=none∧m.num=k)
theorem Walk.start(ns:List (Nd S))(f:Int):Walk ns f [] [] [f]:=by
 refine⟨?_,by simp,λk=>by simp⟩;have e:ns.filter (dM [])=[]:=by
  rw[List.filter_eq_nil_iff];intro a _;simp[dM]
 rw[e]
theorem fk{α:Type}(p q:α→Bool)(hd:∀x,p x=true→q x=true→False):∀l:List α,
  (l.filter p++l.filter q).Perm (l.filter λx=>p x||q x)
 |[]=>by simp
 |x::l=>by
  have ih:=fk p q hd l;cases hp:p x with
  |true =>
   have hq:q x=false:=by
    cases h:q x with
    |false=>rfl
    |true=>exact(hd x hp h).elim
   rw[filter_cons_of_pos hp,filter_cons_of_neg (by simp[hq]),filter_cons_of_pos (by simp[hp])];exact List.Perm.cons x ih
  |false =>
   cases hq:q x with
   |true =>
    rw[filter_cons_of_neg (by simp[hp]),filter_cons_of_pos hq,filter_cons_of_pos (by simp[hq])];exact perm_middle.trans (List.Perm.cons x ih)
   |false =>
    rw[filter_cons_of_neg (by simp[hp]),filter_cons_of_neg (by simp[hq]),filter_cons_of_neg (by simp[hp,hq])];exact ih
def here(ns:List (Nd S))(dn:List Int)(x:Int):List (Nd S):=if x∈dn then []else inside ns x
def aR(l:List (Nd S)):List Int:=(l.filter λn=>n.st.isNone).map (·.num)
theorem ja{l:List (Nd S)}{k:Int}:k∈aR l↔∃m∈l,m.st=none∧m.num=k:=by
 unfold aR;rw[mem_map];constructor
 ·rintro⟨m,hm,e⟩;rw[mem_filter]at hm;exact⟨m,hm.1,by simpa using hm.2,e⟩
 ·rintro⟨m,hm,h,e⟩;exact⟨m,mem_filter.mpr ⟨hm,by simp[h]⟩,e⟩
theorem Walk.turn{ns:List (Nd S)}{f x:Int}{dn:List Int}{fd:List (Nd S)}{pd:List Int}(w:Walk ns f dn fd (pd++[x])):
  Walk ns f (x::dn) (fd++here ns dn x) (pd++aR (here ns dn x)):=by
 have hx:=(w.cover x).mp (.inl (by simp))
 by_cases hd:x∈dn
 ·have eh:here ns dn x=[]:=by unfold here;rw[if_pos hd]
  rw[eh];refine⟨?_,by simpa using w.reach,λk=>?_⟩
  ·have e:ns.filter (dM (x::dn))=ns.filter (dM dn):=by
    apply filter_congr;intro n _;simp only[dM,mem_cons,decide_eq_decide];constructor
    ·rintro(h|h)
     ·rw[h];exact hd
     ·exact h
    ·exact .inr
   rw[e,append_nil];exact w.perm
  ·have c:=w.cover k;rw[append_nil,←c];simp only[aR,List.filter_nil,map_nil,append_nil,mem_append,mem_cons,not_mem_nil,or_false];constructor
   ·rintro(h|h|h)
    ·exact .inl (.inl h)
    ·exact .inl (.inr h)
    ·exact .inr h
   ·rintro((h|h)|h)
    ·exact .inl h
    ·exact .inr (.inl h)
    ·exact .inr (.inr h)
 ·have eh:here ns dn x=inside ns x:=by unfold here;rw[if_neg hd]
  rw[eh];refine⟨?_,λn hn=>?_,λk=>?_⟩
  ·have e:ns.filter (dM (x::dn))=ns.filter λn=>dM dn n||decide (n.par=x):=by
    apply filter_congr;intro n _;rw[Bool.eq_iff_iff];simp only[dM,mem_cons,decide_eq_true_eq,or_eq_true];constructor
    ·rintro(h|h)
     ·exact .inr h
     ·exact .inl h
    ·rintro(h|h)
     ·exact .inr h
     ·exact .inl h
   rw[e];refine(List.Perm.append_right _ w.perm).trans (fk _ _ (λy h1 h2=>?_) ns);simp only[dM,decide_eq_true_eq]at h1 h2;rw[h2]at h1;exact hd h1
  ·rcases mem_append.mp hn with h|h
   ·exact w.reach n h
   ·unfold inside at h;rw[mem_filter]at h;obtain⟨hm,hp⟩:=h;simp only[decide_eq_true_eq]at hp;rcases hx with e|⟨m,hm',hf,e⟩
    ·exact .base hm (hp.trans e)
    ·exact .step (w.reach m hm') hf hm (hp.trans e.symm)
  ·have c:=w.cover k;simp only[mem_append,mem_cons,not_mem_nil,or_false]at c⊢;rw[ja];constructor
   ·rintro((h|⟨m,hm,h1,h2⟩)|h|h)
    ·rcases c.mp (.inl (.inl h))with e|⟨m,hm,z⟩
     ·exact .inl e
     ·exact .inr ⟨m,.inl hm,z⟩
    ·exact .inr ⟨m,.inr hm,h1,h2⟩
    ·rcases c.mp (.inl (.inr h))with e|⟨m,hm,z⟩
     ·exact .inl e
     ·exact .inr ⟨m,.inl hm,z⟩
    ·rcases c.mp (.inr h)with e|⟨m,hm,z⟩
     ·exact .inl e
     ·exact .inr ⟨m,.inl hm,z⟩
   ·rintro(e|⟨m,hm|hm,z⟩)
    ·rcases c.mpr (.inl e)with (h|h)|h
     ·exact .inl (.inl h)
     ·exact .inr (.inl h)
     ·exact .inr (.inr h)
    ·rcases c.mpr (.inr ⟨m,hm,z⟩)with (h|h)|h
     ·exact .inl (.inl h)
     ·exact .inr (.inl h)
     ·exact .inr (.inr h)
    ·exact .inl (.inr ⟨m,hm,z⟩)
theorem Walk.len{ns:List (Nd S)}{f:Int}{dn:List Int}{fd:List (Nd S)}{pd:List Int}(w:Walk ns f dn fd pd):fd.length≤ns.length:=by
 rw[w.perm.length_eq];exact length_filter_le _ _
theorem dN(l:List (Nd S)):(aR l).length≤l.length:=by
 unfold aR;rw[length_map];exact length_filter_le _ _
theorem Walk.mem{ns:List (Nd S)}{f:Int}{dn:List Int}{fd:List (Nd S)}(w:Walk ns f dn fd [])(n:Nd S):n∈fd↔Reach ns f n:=by
 constructor
 ·exact w.reach n
 ·have cov:∀k,(k=f∨∃m∈fd,m.st=none∧m.num=k)→k∈dn:=λk h=>by
   rcases (w.cover k).mpr h with z|z
   ·simp at z
   ·exact z
  have back:∀x,x∈ns→x.par∈dn→x∈fd:=λx hx hp=>w.perm.mem_iff.mpr (mem_filter.mpr ⟨hx,by simp[dM,hp]⟩);intro h
  induction h with
  |base hm hp=>exact back _ hm (cov _ (.inl hp))
  |step _ hf hm hp ih=>exact back _ hm (cov _ (.inr ⟨_,ih,hf,hp.symm⟩))
theorem Walk.all{ns:List (Nd S)}{f:Int}{dn:List Int}{fd:List (Nd S)}(w:Walk ns f dn fd []):fd.length=ns.length↔∀n∈ns,Reach ns f n:=by
 rw[w.perm.length_eq];constructor
 ·intro h n hn;have e:ns.filter (dM dn)=ns:=by
   rw[List.filter_eq_self];exact List.length_filter_eq_length_iff.mp h
  have:n∈ns.filter (dM dn):=by rw[e];exact hn
  exact(w.mem n).mp (w.perm.mem_iff.mpr this)
 ·intro h;rw[List.length_filter_eq_length_iff];intro n hn;have:=w.perm.mem_iff.mp ((w.mem n).mpr (h n hn));exact(mem_filter.mp this).2
def cb(ns:List (Nd S)):Prop:=ns.Pairwise λa b=>a.num<b.num
def dk(ns:List (Nd S)):Prop:=(ns.map λn=>(n.par,n.nm)).Nodup
structure Tree(ns:List (Nd S)):Prop where
 rise:cb ns
 own:dk ns
 down:∀n∈ns,Reach ns 0 n
def adj:List (Nd S)→Bool
 |a::b::r=>decide (a.num<b.num)&&adj (b::r)
 |_=>true
theorem nb:∀ns:List (Nd S),adj ns=true↔cb ns
 |[]=>by simp[adj,cb]
 |[a]=>by simp[adj,cb]
 |a::b::r=>by
  have ih:=nb (b::r);unfold adj;rw[and_eq_true,ih,decide_eq_true_eq];unfold cb;rw[pairwise_cons (a:=a)];constructor
  ·rintro⟨h,p⟩;refine⟨λx hx=>?_,p⟩;rcases mem_cons.mp hx with rfl|hx
   ·exact h
   ·have:=(pairwise_cons.mp p).1 x hx;omega
  ·rintro⟨h,p⟩;exact⟨h b (by simp),p⟩
theorem ro:∀ns:List (Nd S),adj ns=((ns.zip (ns.drop 1)).all λp=>decide (p.1.num<p.2.num))
 |[]=>rfl
 |[a]=>rfl
 |a::b::r=>by
  have ih:=ro (b::r);unfold adj;rw[ih];rfl
inductive Built:List (Nd S)→Prop where
 |nil:Built []
 |snoc {l:List (Nd S)} {n:Nd S}:Built l→(n.par=0∨∃m∈l,m.st=none∧m.num=n.par)→Built (l++[n])
theorem Built.down{l:List (Nd S)}(b:Built l):∀n∈l,Reach l 0 n:=by
 induction b with
 |nil=>simp
 |@snoc l n b h ih =>
  intro x hx;have up:∀y∈l,y∈l++[n]:=λy hy=>List.mem_append_left _ hy;rcases mem_append.mp hx with hx|hx
  ·exact(ih x hx).mono up
  ·have e:x=n:=by simpa using hx
   subst e;rcases h with h|⟨m,hm,hf,he⟩
   ·exact .base (by simp) h
   ·exact .step ((ih m hm).mono up) hf (by simp) he.symm
theorem wP{l t:List (Nd S)}(b:Built l)(p:t.Perm l)(hr:t.Pairwise λa b=>a.num≤b.num)(hn:(l.map (·.num)).Nodup)(ho:dk l):Tree t:=by
 refine⟨?_,?_,λn hn'=>?_⟩
 ·have hn':(t.map (·.num)).Nodup:=((p.map _).nodup_iff).mpr hn;unfold Nodup at hn';rw[pairwise_map]at hn';unfold cb;exact hr.imp₂ (λa b h1 h2=>by omega) hn'
 ·unfold dk;exact((p.map _).nodup_iff).mpr ho
 ·exact(b.down n (p.mem_iff.mp hn')).mono λx hx=>p.mem_iff.mpr hx
theorem oS{t:List (Nd S)}(h:cb t){a b:Nd S}(ha:a∈t)(hb:b∈t)(e:a.num=b.num):a=b:=by
 unfold cb at h
 induction t with
 |nil=>simp at ha
 |cons x r ih =>
  rw[pairwise_cons]at h;rcases mem_cons.mp ha with ea|ha'
  ·rcases mem_cons.mp hb with eb|hb'
   ·rw[ea,eb]
   ·have:=h.1 b hb';rw[←ea]at this;omega
  ·rcases mem_cons.mp hb with eb|hb'
   ·have:=h.1 a ha';rw[←eb]at this;omega
   ·exact ih h.2 ha' hb'
end
end TW
namespace TW
section
variable{S:Type}
inductive PathTo(ns:List (Nd S)):Int→List S→Prop where
 |top:PathTo ns 0 []
 |node {n:Nd S} {p:List S}:n∈ns→PathTo ns n.par p→PathTo ns n.num (p++[n.nm])
structure Tree1(ns:List (Nd S)):Prop extends Tree ns where
 pos:∀n∈ns,1≤n.num
theorem Tree1.inj{ns:List (Nd S)}(T:Tree1 ns){a b:Nd S}(ha:a∈ns)(hb:b∈ns)(e:a.num=b.num):a=b:=oS T.rise ha hb e
theorem PathTo.zero{ns:List (Nd S)}(T:Tree1 ns){k:Int}{p:List S}(h:PathTo ns k p)(e:k=0):p=[]:=by
 cases h with
 |top=>rfl
 |@node n p hm _=>have:=T.pos n hm;omega
theorem PathTo.inv{ns:List (Nd S)}(T:Tree1 ns){k:Int}{p:List S}(h:PathTo ns k p){n:Nd S}(hn:n∈ns)(e:k=n.num):∃q,p=q++[n.nm]∧PathTo ns n.par q:=by
 cases h with
 |top=>have:=T.pos n hn;omega
 |@node m q hm hq =>
  have:m=n:=T.inj hm hn e;subst this;exact⟨q,rfl,hq⟩
theorem PathTo.uniq{ns:List (Nd S)}(T:Tree1 ns){k:Int}{p:List S}(h:PathTo ns k p):∀{q:List S},PathTo ns k q→p=q:=by
 induction h with
 |top=>intro q hq;exact(hq.zero T rfl).symm
 |@node n p hm _ ih =>
  intro q hq;obtain⟨q',e,hq'⟩:=hq.inv T hm rfl;rw[e,ih hq']
theorem PathTo.ex{ns:List (Nd S)}(T:Tree1 ns){n:Nd S}(hn:n∈ns):∃p,PathTo ns n.num p:=by
 have key:∀x,Reach ns 0 x→∃p,PathTo ns x.num p:=by
  intro x r
  induction r with
  |base hm hp=>exact⟨_,.node hm (by rw[hp];exact .top)⟩
  |step _ _ hm hp ih =>
   obtain⟨p,h⟩:=ih;exact⟨_,.node hm (by rw[hp];exact h)⟩
 exact key n (T.down n hn)
inductive Und(ns:List (Nd S))(g:Int):Int→Prop where
 |here:Und ns g g
 |up {n:Nd S}:n∈ns→Und ns g n.par→Und ns g n.num
theorem Und.zero{ns:List (Nd S)}(T:Tree1 ns){g k:Int}(h:Und ns g k)(e:k=0):g=0:=by
 cases h with
 |here=>exact e
 |@up n hm _=>have:=T.pos n hm;omega
theorem Und.inv{ns:List (Nd S)}(T:Tree1 ns){g k:Int}(h:Und ns g k){n:Nd S}(hn:n∈ns)(e:k=n.num)(hg:k≠g):Und ns g n.par:=by
 cases h with
 |here=>exact absurd rfl hg
 |@up m hm hu =>
  have:m=n:=T.inj hm hn e;subst this;exact hu
theorem lF{ns:List (Nd S)}(T:Tree1 ns){n:Nd S}(hn:n∈ns):n.par=0∨∃m∈ns,m.st=none∧m.num=n.par:=by
 have:=T.down n hn;cases this with
 |base _ hp=>exact .inl hp
 |@step m _ hr hf _ hp=>exact .inr ⟨m,hr.mem,hf,hp.symm⟩
theorem lG{ns:List (Nd S)}(T:Tree1 ns){g:Int}{n:Nd S}(h:Reach ns g n):Und ns g n.num∧∃p q,PathTo ns n.num (p++q)∧q≠[]∧PathTo ns g p:=by
 induction h with
 |@base n hm hp =>
  obtain⟨p,h⟩:=PathTo.ex T hm;obtain⟨q,e,hq⟩:=h.inv T hm rfl;refine⟨.up hm (by rw[hp];exact .here),q,[n.nm],by rw[←e];exact h,by simp,by rw[←hp];exact hq⟩
 |@step m n hr hf hm hp ih =>
  obtain⟨hu,p,q,h1,h2,h3⟩:=ih;refine⟨.up hm (by rw[hp];exact hu),p,q++[n.nm],?_,by simp,h3⟩;rw[←append_assoc];exact .node hm (by rw[hp];exact h1)
theorem jZ{ns:List (Nd S)}(T:Tree1 ns){g:Int}{n:Nd S}(h:Reach ns g n):n.num≠g:=by
 obtain⟨_,p,q,h1,h2,h3⟩:=lG T h;intro e;rw[e]at h1;have:=h1.uniq T h3;have hl:=congrArg length this;rw[length_append]at hl;have:q.length≠0:=λz=>h2 (length_eq_zero_iff.mp z);omega
theorem sN{ns:List (Nd S)}(T:Tree1 ns){g:Int}(hg:1≤g):∀{k:Int}{p:List S},PathTo ns k p→∀{n:Nd S},n∈ns→k=n.num→Und ns g k→k≠g→Reach ns g n:=by
 intro k p h
 induction h with
 |top=>intro n hn e;have:=T.pos n hn;omega
 |@node m p hm hp ih =>
  intro n hn e hu hne;have:m=n:=T.inj hm hn e;subst this;have hu':=hu.inv T hm rfl hne
  by_cases hpg:m.par=g
  ·exact .base hm hpg
  ·rcases lF T hm with h0|⟨r,hr,hf,er⟩
   ·have:=hu'.zero T h0;omega
   ·exact .step (ih hr er.symm hu' hpg) hf hm er.symm
theorem eE{ns:List (Nd S)}(T:Tree1 ns){g:Int}(hg:1≤g){n:Nd S}(hn:n∈ns):Reach ns g n↔n.num≠g∧Und ns g n.num:=by
 constructor
 ·intro h;exact⟨jZ T h,(lG T h).1⟩
 ·rintro⟨h1,h2⟩;obtain⟨p,hp⟩:=PathTo.ex T hn;exact sN T hg hp hn rfl h2 h1
end
end TW
namespace TW
section
variable{S:Type}
theorem lH{t:List (Nd S)}:cb t↔(t.map (·.num)).Pairwise (λa b:Int=>a<b):=by
 unfold cb;rw[pairwise_map]
def ig(t:List (Nd S))(p:Int):Prop:=p=0∨∃m∈t,m.st=none∧m.num=p
theorem made{t u:List (Nd S)}{n:Nd S}(T:Tree1 t)(hp:u.Perm (n::t))(hr:cb u)(h1:1≤n.num)(hf:ig t n.par)(ho:∀m∈t,¬(m.par=n.par∧m.nm=n.nm)):Tree1 u:=by
 have hm:∀x,x∈u↔x=n∨x∈t:=λx=>by rw[hp.mem_iff,mem_cons]
 have ht:∀x,x∈t→x∈u:=λx hx=>(hm x).mpr (.inr hx);refine⟨⟨hr,?_,λx hx=>?_⟩,λx hx=>?_⟩
 ·unfold dk;rw[(hp.map λn:Nd S=>(n.par,n.nm)).nodup_iff,map_cons,nodup_cons];refine⟨λhx=>?_,T.own⟩;obtain⟨m,h2,e⟩:=mem_map.mp hx;injection e with e1 e2
  exact ho m h2 ⟨e1,e2⟩
 ·rcases (hm x).mp hx with e|hx
  ·subst e;rcases hf with e|⟨m,h2,h3,e⟩
   ·exact .base hx e
   ·exact .step ((T.down m h2).mono ht) h3 hx e.symm
  ·exact(T.down x hx).mono ht
 ·rcases (hm x).mp hx with e|hx
  ·subst e;exact h1
  ·exact T.pos x hx
def put(z:Nd S)(m:Nd S):Nd S:=if m.num=z.num then z else m
theorem rp(z m:Nd S):(put z m).num=m.num:=by
 unfold put
 split
 ·rename_i h;exact h.symm
 ·rfl
theorem bZ{z m:Nd S}(h:m.num≠z.num):put z m=m:=by unfold put;rw[if_neg h]
theorem dC{z m:Nd S}(h:m.num=z.num):put z m=z:=by unfold put;rw[if_pos h]
theorem uK(z:Nd S)(t:List (Nd S)):(t.map (put z)).map (·.num)=t.map (·.num):=by
 rw[map_map];apply map_congr_left;intro m _;exact rp z m
theorem ik{z:Nd S}{t:List (Nd S)}(h:cb t):cb (t.map (put z)):=by
 rw[lH,uK,←lH];exact h
theorem rq{z:Nd S}{t:List (Nd S)}(T:Tree1 t):∀n∈t.map (put z),1≤n.num:=λn hn=>by
 obtain⟨m,hm,rfl⟩:=mem_map.mp hn;rw[rp];exact T.pos m hm
theorem wrote{t:List (Nd S)}{y z:Nd S}(T:Tree1 t)(hy:y∈t)(e1:z.num=y.num)(e2:z.par=y.par)(e3:z.nm=y.nm)(hs:y.st≠none):Tree1 (t.map (put z)):=by
 have par:∀m∈t,(put z m).par=m.par∧(put z m).nm=m.nm:=λm hm=>by
  by_cases h:m.num=z.num
  ·have:m=y:=T.inj hm hy (h.trans e1);subst this;rw[dC h];exact⟨e2,e3⟩
  ·rw[bZ h];exact⟨rfl,rfl⟩
 refine⟨⟨ik T.rise,?_,λn hn=>?_⟩,rq T⟩
 ·have:(t.map (put z)).map (λn=>(n.par,n.nm))=t.map (λn=>(n.par,n.nm)):=by
   rw[map_map];apply map_congr_left;intro m hm;show((put z m).par,(put z m).nm)=_;rw[(par m hm).1,(par m hm).2]
  unfold dk;rw[this];exact T.own
 ·obtain⟨m,hm,rfl⟩:=mem_map.mp hn;have key:∀x,Reach t 0 x→Reach (t.map (put z)) 0 (put z x):=by
   intro x r
   induction r with
   |@base x hx hp=>exact .base (mem_map.mpr ⟨x,hx,rfl⟩) (by rw[(par x hx).1];exact hp)
   |@step a x ra hf hx hp ih =>
    have ha:put z a=a:=bZ λe=>hs (by rw[←T.inj ra.mem hy (e.trans e1)];exact hf);rw[ha]at ih;exact .step ih hf (mem_map.mpr ⟨x,hx,rfl⟩) (by rw[(par x hx).1];exact hp)
  exact key m (T.down m hm)
theorem lI{t:List (Nd S)}{k:Int}{n:Nd S}(r:Reach t 0 n)(h:¬Und t k n.num){u:List (Nd S)}(hu:∀x∈t,¬Und t k x.num→x∈u):Reach u 0 n:=by
 induction r with
 |@base n hm hp=>exact .base (hu n hm h) hp
 |@step m n rm hf hn hp ih=>exact .step (ih λhx=>h (.up hn (by rw[hp];exact hx))) hf (hu n hn h) hp
theorem dropped{t:List (Nd S)}{k:Int}(T:Tree1 t){p:Nd S→Bool}(hp:∀n∈t,p n=true↔¬Und t k n.num):Tree1 (t.filter p):=by
 refine⟨⟨T.rise.sublist filter_sublist,T.own.sublist (filter_sublist.map _),λn hn=>?_⟩,λn hn=>T.pos n (mem_filter.mp hn).1⟩;obtain⟨h1,h2⟩:=mem_filter.mp hn;exact lI (T.down n h1) ((hp n h1).mp h2) λx hx hu=>mem_filter.mpr ⟨hx,(hp x hx).mpr hu⟩
theorem moved{t:List (Nd S)}{y z:Nd S}(T:Tree1 t)(hy:y∈t)(e1:z.num=y.num)(e4:z.st=y.st)(hf:ig t z.par)(hi:z.par≠0→¬Und t y.num z.par)(ho:∀m∈t,m.num≠y.num→¬(m.par=z.par∧m.nm=z.nm)):Tree1 (t.map (put z)):=by
 have hz:z∈t.map (put z):=mem_map.mpr ⟨y,hy,dC e1.symm⟩;have other:∀m∈t,m.num≠y.num→m∈t.map (put z):=λm hm h=>mem_map.mpr ⟨m,hm,bZ (by rw[e1];exact h)⟩;have free:∀n∈t,¬Und t y.num n.num→Reach (t.map (put z)) 0 n:=λn hn h=>lI (T.down n hn) h λx hx hu=>other x hx λe=>hu (by rw[e];exact .here);have rz:Reach (t.map (put z)) 0 z:=by
  rcases hf with e|⟨m,h2,h3,e⟩
  ·exact .base hz e
  ·have h0:z.par≠0:=λe'=>by have:=T.pos m h2;omega
   exact .step (free m h2 (by rw[e];exact hi h0)) h3 hz e.symm
 refine⟨⟨ik T.rise,?_,λn hn=>?_⟩,rq T⟩
 ·have h:=T.own;have hr:=T.rise;unfold dk cb Nodup at *;rw[pairwise_map]at h;rw[map_map,pairwise_map];have both:=h.and hr;refine both.imp_of_mem λ{a b} ha hb hab=>?_;obtain⟨h1,h2⟩:=hab;show((put z a).par,(put z a).nm)≠((put z b).par,(put z b).nm)
  by_cases ea:a.num=y.num
  ·have eb:b.num≠y.num:=by omega
   rw[dC (by rw[e1];exact ea),bZ (by rw[e1];exact eb)];intro e;injection e with q1 q2
   exact ho b hb eb ⟨q1.symm,q2.symm⟩
  ·by_cases eb:b.num=y.num
   ·rw[dC (m:=b) (by rw[e1];exact eb),bZ (by rw[e1];exact ea)];intro e;injection e with q1 q2
    exact ho a ha ea ⟨q1,q2⟩
   ·rw[bZ (by rw[e1];exact ea),bZ (by rw[e1];exact eb)];exact h1
 ·obtain⟨m,hm,rfl⟩:=mem_map.mp hn
  by_cases em:m.num=y.num
  ·rw[dC (by rw[e1];exact em)];exact rz
  ·rw[bZ (by rw[e1];exact em)]
   by_cases hu:Und t y.num m.num
   ·have r:Reach t y.num m:=(eE T (T.pos y hy) hm).mpr ⟨em,hu⟩;clear hu em hm hn
    induction r with
    |@base n hn hp =>
     have hzs:z.st=none:=by
      rcases lF T hn with e|⟨a,ha,h3,e⟩
      ·have:=T.pos y hy;omega
      ·have:a=y:=T.inj ha hy (e.trans hp);subst this;rw[e4];exact h3
     have hne:n.num≠y.num:=jZ T (.base hn hp);exact .step rz hzs (other n hn hne) (by rw[hp,e1])
    |@step a n ra hfa hn hp ih=>exact .step ih hfa (other n hn (jZ T (.step ra hfa hn hp))) hp
   ·exact free m hm hu
end
end TW
namespace TW
section
variable{S:Type}
inductive Deed(S:Type) where
 |make (n p:Int) (nm:S) (st:Option Int)
 |write (n st:Int)
 |move (n p:Int) (nm:S)
 |drop (n:Int)
inductive Wd where
 |known|noNode|notFile|notFolder|inside|taken
def cH(t:List (Nd S))(k:Int):Prop:=∃m∈t,m.num=k
inductive Told(t:List (Nd S)):Deed S→Sum Wd (List (Nd S))→Prop where
 |mKnown {n p:Int} {nm:S} {st:Option Int}:cH t n→Told t (.make n p nm st) (.inl .known)
 |mNo {n p:Int} {nm:S} {st:Option Int}:¬cH t n→p≠0→¬cH t p→Told t (.make n p nm st) (.inl .noNode)
 |mFile {n p:Int} {nm:S} {st:Option Int} {m:Nd S}:¬cH t n→p≠0→m∈t→m.num=p→m.st≠none→Told t (.make n p nm st) (.inl .notFolder)
 |mTaken {n p:Int} {nm:S} {st:Option Int} {m:Nd S}:¬cH t n→ig t p→m∈t→m.par=p→m.nm=nm→Told t (.make n p nm st) (.inl .taken)
 |made {n p:Int} {nm:S} {st:Option Int} {u:List (Nd S)}:¬cH t n→ig t p→(∀m∈t,¬(m.par=p∧m.nm=nm))→u.Perm (⟨n,p,nm,st⟩::t)→cb u→Told t (.make n p nm st) (.inr u)
 |wNo {n st:Int}:¬cH t n→Told t (.write n st) (.inl .noNode)
 |wFold {n st:Int} {y:Nd S}:y∈t→y.num=n→y.st=none→Told t (.write n st) (.inl .notFile)
 |wrote {n st:Int} {y:Nd S}:y∈t→y.num=n→y.st≠none→Told t (.write n st) (.inr (t.map (put ⟨n,y.par,y.nm,some st⟩)))
 |vNo {n p:Int} {nm:S}:¬cH t n→Told t (.move n p nm) (.inl .noNode)
 |vNoP {n p:Int} {nm:S}:cH t n→p≠0→¬cH t p→Told t (.move n p nm) (.inl .noNode)
 |vFile {n p:Int} {nm:S} {m:Nd S}:cH t n→p≠0→m∈t→m.num=p→m.st≠none→Told t (.move n p nm) (.inl .notFolder)
 |vIn {n p:Int} {nm:S}:cH t n→ig t p→p≠0→Und t n p→Told t (.move n p nm) (.inl .inside)
 |vTaken {n p:Int} {nm:S} {m:Nd S}:cH t n→ig t p→(p≠0→¬Und t n p)→m∈t→m.num≠n→m.par=p→m.nm=nm→Told t (.move n p nm) (.inl .taken)
 |moved {n p:Int} {nm:S} {y:Nd S}:y∈t→y.num=n→ig t p→(p≠0→¬Und t n p)→(∀m∈t,m.num≠n→¬(m.par=p∧m.nm=nm))→Told t (.move n p nm) (.inr (t.map (put ⟨n,p,nm,y.st⟩)))
 |dNo {n:Int}:¬cH t n→Told t (.drop n) (.inl .noNode)
 |dropped {n:Int} {f:Nd S→Bool}:cH t n→(∀m∈t,f m=true↔¬Und t n m.num)→Told t (.drop n) (.inr (t.filter f))
theorem cU{t:List (Nd S)}{p:Int}(h:ig t p)(h0:p≠0)(hn:¬cH t p):False:=by
 rcases h with h|⟨m,hm,_,e⟩
 ·exact h0 h
 ·exact hn ⟨m,hm,e⟩
theorem cf{t:List (Nd S)}(T:Tree1 t){p:Int}{m:Nd S}(h:ig t p)(h0:p≠0)(hm:m∈t)(e:m.num=p)(hs:m.st≠none):False:=by
 rcases h with h|⟨y,hy,h2,e2⟩
 ·exact h0 h
 ·have:=T.inj hm hy (e.trans e2.symm);subst this;exact hs h2
theorem ka{t u:List (Nd S)}(ht:cb t)(hu:cb u)(h:t.Perm u):t=u:=by
 have main:∀{l m:List (Nd S)},cb l→cb m→(∀x,x∈l↔x∈m)→l=m:=by
  intro l
  induction l with
  |nil =>
   intro m _ _ h;cases m with
   |nil=>rfl
   |cons b m=>exact absurd ((h b).mpr (by simp)) (by simp)
  |cons a l ih =>
   intro m hl hm h;cases m with
   |nil=>exact absurd ((h a).mp (by simp)) (by simp)
   |cons b m =>
    unfold cb at hl hm ih;rw[pairwise_cons]at hl hm;have e:a=b:=by
     rcases mem_cons.mp ((h a).mp (by simp))with e|h1
     ·exact e
     ·rcases mem_cons.mp ((h b).mpr (by simp))with e|h2
      ·exact e.symm
      ·have:=hl.1 b h2;have:=hm.1 a h1;omega
    subst e;rw[ih hl.2 hm.2 λx=>?_];constructor
    ·intro hx;rcases mem_cons.mp ((h x).mp (by simp[hx]))with e|h1
     ·subst e;have:=hl.1 x hx;omega
     ·exact h1
    ·intro hx;rcases mem_cons.mp ((h x).mpr (by simp[hx]))with e|h1
     ·subst e;have:=hm.1 x hx;omega
     ·exact h1
 exact main ht hu λx=>h.mem_iff
theorem Told.one{t:List (Nd S)}(T:Tree1 t){d:Deed S}{r r':Sum Wd (List (Nd S))}(h:Told t d r)(h':Told t d r'):r=r':=by
 have hno:∀{k:Int}{m:Nd S},m∈t→m.num=k→¬cH t k→False:=λhm e hn=>hn ⟨_,hm,e⟩;have one:∀{k:Int}{a b:Nd S},a∈t→a.num=k→b∈t→b.num=k→a=b:=λha ea hb eb=>T.inj ha hb (ea.trans eb.symm);cases h with
 |mKnown a1=>cases h'<;>first|rfl|(exfalso;contradiction)
 |mNo a1 a2 a3=>cases h' with
  |mKnown b1=>exact absurd b1 a1
  |mNo=>rfl
  |mFile b1 b2 b3 b4 b5=>exact(hno b3 b4 a3).elim
  |mTaken b1 b2=>exact(cU b2 a2 a3).elim
  |made b1 b2=>exact(cU b2 a2 a3).elim
 |mFile a1 a2 a3 a4 a5=>cases h' with
  |mKnown b1=>exact absurd b1 a1
  |mNo b1 b2 b3=>exact(hno a3 a4 b3).elim
  |mFile=>rfl
  |mTaken b1 b2=>exact(cf T b2 a2 a3 a4 a5).elim
  |made b1 b2=>exact(cf T b2 a2 a3 a4 a5).elim
 |mTaken a1 a2 a3 a4 a5=>cases h' with
  |mKnown b1=>exact absurd b1 a1
  |mNo b1 b2 b3=>exact(cU a2 b2 b3).elim
  |mFile b1 b2 b3 b4 b5=>exact(cf T a2 b2 b3 b4 b5).elim
  |mTaken=>rfl
  |made b1 b2 b3=>exact(b3 _ a3 ⟨a4,a5⟩).elim
 |made a1 a2 a3 a4 a5=>cases h' with
  |mKnown b1=>exact absurd b1 a1
  |mNo b1 b2 b3=>exact(cU a2 b2 b3).elim
  |mFile b1 b2 b3 b4 b5=>exact(cf T a2 b2 b3 b4 b5).elim
  |mTaken b1 b2 b3 b4 b5=>exact(a3 _ b3 ⟨b4,b5⟩).elim
  |made b1 b2 b3 b4 b5=>rw[ka a5 b5 (a4.trans b4.symm)]
 |wNo a1=>cases h' with
  |wNo=>rfl
  |wFold b1 b2=>exact(hno b1 b2 a1).elim
  |wrote b1 b2=>exact(hno b1 b2 a1).elim
 |wFold a1 a2 a3=>cases h' with
  |wNo b1=>exact(hno a1 a2 b1).elim
  |wFold=>rfl
  |wrote b1 b2 b3=>rw[one a1 a2 b1 b2]at a3;exact absurd a3 b3
 |wrote a1 a2 a3=>cases h' with
  |wNo b1=>exact(hno a1 a2 b1).elim
  |wFold b1 b2 b3=>rw[one b1 b2 a1 a2]at b3;exact absurd b3 a3
  |wrote b1 b2 b3=>rw[one b1 b2 a1 a2]
 |vNo a1=>cases h' with
  |vNo=>rfl
  |vNoP=>rfl
  |vFile b1=>exact absurd b1 a1
  |vIn b1=>exact absurd b1 a1
  |vTaken b1=>exact absurd b1 a1
  |moved b1 b2=>exact(hno b1 b2 a1).elim
 |vNoP a1 a2 a3=>cases h' with
  |vNo=>rfl
  |vNoP=>rfl
  |vFile b1 b2 b3 b4=>exact(hno b3 b4 a3).elim
  |vIn b1 b2=>exact(cU b2 a2 a3).elim
  |vTaken b1 b2=>exact(cU b2 a2 a3).elim
  |moved b1 b2 b3=>exact(cU b3 a2 a3).elim
 |vFile a1 a2 a3 a4 a5=>cases h' with
  |vNo b1=>exact absurd a1 b1
  |vNoP b1 b2 b3=>exact(hno a3 a4 b3).elim
  |vFile=>rfl
  |vIn b1 b2=>exact(cf T b2 a2 a3 a4 a5).elim
  |vTaken b1 b2=>exact(cf T b2 a2 a3 a4 a5).elim
  |moved b1 b2 b3=>exact(cf T b3 a2 a3 a4 a5).elim
 |vIn a1 a2 a3 a4=>cases h' with
  |vNo b1=>exact absurd a1 b1
  |vNoP b1 b2 b3=>exact(cU a2 b2 b3).elim
  |vFile b1 b2 b3 b4 b5=>exact(cf T a2 b2 b3 b4 b5).elim
  |vIn=>rfl
  |vTaken b1 b2 b3=>exact absurd a4 (b3 a3)
  |moved b1 b2 b3 b4=>exact absurd a4 (b4 a3)
 |vTaken a1 a2 a3 a4 a5 a6 a7=>cases h' with
  |vNo b1=>exact absurd a1 b1
  |vNoP b1 b2 b3=>exact(cU a2 b2 b3).elim
  |vFile b1 b2 b3 b4 b5=>exact(cf T a2 b2 b3 b4 b5).elim
  |vIn b1 b2 b3 b4=>exact absurd b4 (a3 b3)
  |vTaken=>rfl
  |moved b1 b2 b3 b4 b5=>exact(b5 _ a4 a5 ⟨a6,a7⟩).elim
 |moved a1 a2 a3 a4 a5=>cases h' with
  |vNo b1=>exact(hno a1 a2 b1).elim
  |vNoP b1 b2 b3=>exact(cU a3 b2 b3).elim
  |vFile b1 b2 b3 b4 b5=>exact(cf T a3 b2 b3 b4 b5).elim
  |vIn b1 b2 b3 b4=>exact absurd b4 (a4 b3)
  |vTaken b1 b2 b3 b4 b5 b6 b7=>exact(a5 _ b4 b5 ⟨b6,b7⟩).elim
  |moved b1 b2=>rw[one b1 b2 a1 a2]
 |dNo a1=>cases h' with
  |dNo=>rfl
  |dropped b1=>exact absurd b1 a1
 |dropped a1 a2=>cases h' with
  |dNo b1=>exact absurd a1 b1
  |dropped b1 b2 =>
   congr 1
   apply filter_congr;intro m hm;rw[Bool.eq_iff_iff,a2 m hm,b2 m hm]
def Deed.pos:Deed S→Prop
 |.make n _ _ _=>1≤n
 |_=>True
theorem Told.tree{t u:List (Nd S)}(T:Tree1 t){d:Deed S}(h:Told t d (.inr u))(hp:d.pos):Tree1 u:=by
 generalize er:(Sum.inr u:Sum Wd (List (Nd S)))=r at h;cases h with
 |made a1 a2 a3 a4 a5 =>
  injection er with er
  subst er;exact TW.made T a4 a5 hp a2 λm hm=>a3 m hm
 |wrote a1 a2 a3 =>
  injection er with er
  subst er a2;exact TW.wrote T a1 rfl rfl rfl a3
 |moved a1 a2 a3 a4 a5 =>
  injection er with er
  subst er a2;exact TW.moved T a1 rfl rfl a3 a4 a5
 |dropped a1 a2 =>
  injection er with er
  subst er;exact TW.dropped T a2
 |_=>cases er
theorem Told.all{t u:List (Nd S)}{P:Nd S→Prop}(ht:∀n∈t,P n){d:Deed S}(h:Told t d (.inr u))(hm:∀n p nm st,d=.make n p nm st→P ⟨n,p,nm,st⟩)(hw:∀n st,d=.write n st→∀y∈t,y.num=n→P ⟨n,y.par,y.nm,some st⟩)(hv:∀n p nm,d=.move n p nm→∀y∈t,y.num=n→P ⟨n,p,nm,y.st⟩):∀n∈u,P n:=by
 have hput:∀z:Nd S,P z→∀n∈t.map (put z),P n:=λz hz n hn=>by
  obtain⟨m,hm,rfl⟩:=mem_map.mp hn
  by_cases e:m.num=z.num
  ·rw[dC e];exact hz
  ·rw[bZ e];exact ht m hm
 generalize er:(Sum.inr u:Sum Wd (List (Nd S)))=r at h;cases h with
 |made a1 a2 a3 a4 a5 =>
  injection er with er
  subst er;intro n hn;rcases mem_cons.mp (a4.mem_iff.mp hn)with e|h
  ·subst e;exact hm _ _ _ _ rfl
  ·exact ht n h
 |wrote a1 a2 a3 =>
  injection er with er
  subst er;exact hput _ (hw _ _ rfl _ a1 a2)
 |moved a1 a2 a3 a4 a5 =>
  injection er with er
  subst er;exact hput _ (hv _ _ _ rfl _ a1 a2)
 |dropped a1 a2 =>
  injection er with er
  subst er;intro n hn;exact ht n (mem_filter.mp hn).1
 |_=>cases er
theorem Told.len{t u:List (Nd S)}{d:Deed S}(h:Told t d (.inr u)):u.length≤t.length+1:=by
 generalize er:(Sum.inr u:Sum Wd (List (Nd S)))=r at h;cases h with
 |made a1 a2 a3 a4 a5 =>
  injection er with er
  subst er;rw[a4.length_eq];simp
 |wrote a1 a2 a3 =>
  injection er with er
  subst er;simp
 |moved a1 a2 a3 a4 a5 =>
  injection er with er
  subst er;simp
 |dropped a1 a2 =>
  injection er with er
  subst er;exact Nat.le_succ_of_le (length_filter_le _ _)
 |_=>cases er
end
end TW
namespace TW
section
variable{S:Type}
end
end TW
namespace L2
open PySem PySem.Spec PyProof.Rows
section
variable{P:Program}{w:World}{K:PySem.W.Frag}{mg:Str→Option Value}{base:Heap}
theorem Fun.okX{x qual:Str}{st:Stmt}{f:Addr}{fd:FuncData}{N ps:List Str}{k:Nat}{sp:Sp}(F:Fun K x qual st f fd)(S:FnScope N ps (ai st))(len:∀vs H Q E,sp vs H Q E→vs.length=ps.length)(hbody:∀(cdv:Value) (A:Around) (outer:List Env) (s:Shared) (H:Hp) (vs:List V) (Q:VK) (E:XK),Room k (A.deeper (envOfC qual (ai st) s.heap.objs.size f cdv))→sp vs H Q E →
   ∃t,PSs (gF (CX1 P w) P w K mg base N qual (ai st) f cdv A outer s H E) (br st) t∧t {nx:=λ_ H'=>Q .non H',rt:=Q} (start N vs) H):FnOk P w K mg base (CX1 P w) (k+1) f fd ps sp:=by
 obtain⟨oc,od,kV,doc,pm,an,cdv,ct,osl,rfl,lk,hcd⟩:=F.ex;exact xR lk hcd S len λA outer s H vs Q E hr hsp=>hbody cdv A outer s H vs Q E hr hsp
theorem LcOk.mk'{X:Cx}{scope:Scope}{cl:List (Str×Addr)}(fs:List Str)(hk:scope.kind=.function)(hc:closureFor scope X.env=pure cl)(hn:∀x∈scope.names,x.2=.local→scope.names.lookup x.1=some .local)(hnc:∀x∈scope.names,x.2≠.cell)(hcl:∀y∈cl,X.env.cells.lookup y.1=some y.2)(hfs:cl.map (·.1)=fs)(hall:scope.names.all (λy=>!(y.2==.free)||fs.contains y.1)=true):LcOk X scope cl:=by
 refine⟨hk,hc,hn,hnc,λx c h=>hcl (x,c) (PySem.mem_of_lookup h),λx h=>?_⟩;have hm:∃k,(x,k)∈(relabel scope X.env).names∧(k=.cell∨k=.free):=by
  rcases h with h|h
  ·exact⟨_,PySem.mem_of_lookup h,.inl rfl⟩
  ·exact⟨_,PySem.mem_of_lookup h,.inr rfl⟩
 obtain⟨k,hm,hk'⟩:=hm;unfold relabel at hm;obtain⟨⟨y,k0⟩,hy,e⟩:=mem_map.mp hm;have hfree:x=y∧k0=.free:=by
  cases k0 with
  |free =>
   simp only at e
   split at e
   ·injection e with e1 e2;exact⟨e1.symm,rfl⟩
   ·injection e with e1 e2;exact⟨e1.symm,rfl⟩
  |cell=>exact absurd rfl (hnc _ hy)
  |_ =>
   exfalso
   have e2:k=_:=(congrArg Prod.snd e).symm;simp at e2;rcases hk' with z|z<;>rw[z]at e2<;>cases e2
 obtain⟨rfl,rfl⟩:=hfree;have:=all_eq_true.mp hall _ hy;have hin:fs.contains x=true:=by simpa using this
 rw[←hfs]at hin;have hmem:x∈cl.map (·.1):=List.contains_iff_mem.mp hin;cases e:cl.lookup x with
 |some c=>exact⟨c,rfl⟩
 |none =>
  exfalso
  obtain⟨y,hy,ey⟩:=mem_map.mp hmem;have:=List.lookup_eq_none_iff.mp e y hy;rw[ey]at this;simp at this
end
end L2
namespace TK
open PySem L2
abbrev Nd:=TW.Nd Str
def stV:Option Int→V
 |none=>.non
 |some i=>.int i
def vals(n:Nd):List V:=[.int n.num,.int n.par,.str n.nm,stV n.st]
abbrev ZN:=List (Addr×Nd)
def aW(zs:ZN):List V:=(zs.map (·.1)).map V.ref
def nds(zs:ZN):List Nd:=zs.map (·.2)
def At(H:Hp)(zs:ZN):Prop:=∀z∈zs,H z.1=some (.tup (vals z.2))
theorem At.same{H H':Hp}{zs:ZN}(h:At H zs)(s:Same H H'):At H' zs:=λz hz=>s _ _ (h z hz)
theorem be(zs:ZN):(aW zs).length=zs.length:=by simp[aW]
theorem aJ(zs:ZN):(nds zs).length=zs.length:=by simp[nds]
theorem ce{zs:ZN}{i:Nat}{x:V}(h:(aW zs)[i]?=some x):∃z,zs[i]?=some z∧x=.ref z.1:=by
 unfold aW at h;rw[getElem?_map,getElem?_map]at h;cases e:zs[i]? with
 |none=>rw[e]at h;cases h
 |some z=>rw[e]at h;exact⟨z,rfl,(Option.some.inj h).symm⟩
theorem dD{zs:ZN}{i:Nat}{z:Addr×Nd}(h:zs[i]?=some z):(aW zs)[i]?=some (.ref z.1):=by
 unfold aW;rw[getElem?_map,getElem?_map,h];rfl
theorem at0(n:Nd):atI (vals n) 0=some (.int n.num):=rfl
theorem at1(n:Nd):atI (vals n) 1=some (.int n.par):=rfl
theorem at2(n:Nd):atI (vals n) 2=some (.str n.nm):=rfl
theorem at3(n:Nd):atI (vals n) 3=some (stV n.st):=rfl
theorem yQ{σ:St}(h:σ.length=2):∃a b,σ=[a,b]:=by
 match σ,h with
 |[a,b],_=>exact⟨a,b,rfl⟩
theorem uL{σ:St}(h:σ.length=1):∃a,σ=[a]:=by
 match σ,h with
 |[a],_=>exact⟨a,rfl⟩
theorem ao{n:Nat}(h:n≤1000):n≤sizeLine:=le_of_lt (ax h)
theorem le2:2≤sizeLine:=ao (by decide)
theorem kb{A:Around}{k:Nat}(hr:Room k A):A.units+4<cLine:=lt_of_le_of_lt (Nat.add_le_add_left (by decide:4≤64) _) hr.units
def plK(n:Nd):List Key:=[.inl n.par,.inr n.nm]
theorem sO(zs:List Nd):(zs.map plK).Nodup↔TW.dk zs:=by
 unfold TW.dk Nodup;rw[pairwise_map,pairwise_map];have e:∀a b:Nd,(plK a≠plK b)=((a.par,a.nm)≠(b.par,b.nm)):=λa b=>by
  simp[plK]
 simp only[e]
def ins(zs:ZN)(k:Int):ZN:=zs.filter λz=>decide (z.2.par=k)
theorem rA(zs:ZN)(k:Int):nds (ins zs k)=TW.inside (nds zs) k:=by
 unfold nds ins TW.inside;rw[filter_map];rfl
theorem fm(zs:ZN)(z:Addr×Nd)(k:Int):ins (zs++[z]) k=if z.2.par=k then ins zs k++[z]else ins zs k:=by
 unfold ins;rw[List.filter_append]
 by_cases h:z.2.par=k
 ·rw[if_pos h,filter_cons_of_pos (by simp[h])];rfl
 ·rw[if_neg h,filter_cons_of_neg (by simp[h])];simp
theorem wQ{zs:ZN}{k:Int}{z:Addr×Nd}(h:z∈ins zs k):z∈zs:=(mem_filter.mp h).1
theorem iO(zs:ZN)(z:Addr×Nd):aW (zs++[z])=aW zs++[.ref z.1]:=by simp[aW]
theorem uM{zs:ZN}(h:aW zs=[]):zs=[]:=by
 cases zs with
 |nil=>rfl
 |cons a r=>simp[aW]at h
structure Mem(H0 H:Hp)(d:Addr)(L:Int→Addr)(kvs:List (Key×V))(xs:ZN)(dn:List Int):Prop where
 dict:H d=some (.dK kvs)
 d0:H0 d=none
 len:kvs.length≤xs.length
 val:∀k:Int,bc kvs (Sum.inl k:Key)=if k∈dn∨ins xs k=[]then none else some (.ref (L k))
 at':∀k,k∉dn→ins xs k≠[]→H (L k)=some (.lst (aW (ins xs k)))∧H0 (L k)=none
 inj:∀k k',k∉dn→k'∉dn→ins xs k≠[]→ins xs k'≠[]→L k=L k'→k=k'
 same:Same H0 H
theorem Mem.grow{H0 H H':Hp}{d:Addr}{L:Int→Addr}{kvs:List (Key×V)}{xs:ZN}{dn:List Int}(m:Mem H0 H d L kvs xs dn)(s:Same H H'):Mem H0 H' d L kvs xs dn :=
 ⟨s _ _ m.dict,m.d0,m.len,m.val,λk h1 h2=>⟨s _ _ (m.at' k h1 h2).1,(m.at' k h1 h2).2⟩,m.inj,m.same.trans s⟩
theorem Mem.other{H0 H:Hp}{d p:Addr}{L:Int→Addr}{kvs:List (Key×V)}{xs:ZN}{dn:List Int}{is:List Int}{o:HO}(m:Mem H0 H d L kvs xs dn)(hp:H p=some (.lst (is.map V.int)))(h0:H0 p=none):Mem H0 (upd H p o) d L kvs xs dn:=by
 refine⟨?_,m.d0,m.len,m.val,λk h1 h2=>⟨?_,(m.at' k h1 h2).2⟩,m.inj,aM h0 m.same⟩
 ·rw[aj]
  ·exact m.dict
  ·intro e;have:=m.dict;rw[e,hp]at this;cases this
 ·have e1:=(m.at' k h1 h2).1;rw[aj]
  ·exact e1
  ·intro e;rw[e,hp]at e1;injection e1 with e1
   injection e1 with e1
   have hne:=h2;cases hk:ins xs k with
   |nil=>exact h2 hk
   |cons a r =>
    rw[hk]at e1;cases is with
    |nil=>simp[aW]at e1
    |cons i r'=>simp[aW]at e1
theorem Mem.start{H0:Hp}{d:Addr}(h:H0 d=none):Mem H0 (upd H0 d (.dK [])) d (λ_=>d) [] [] [] :=
 ⟨ac,h,by simp,λk=>by rw[if_pos (.inr rfl)];rfl,λk _ h=>absurd rfl h,λk k' _ _ h=>absurd rfl h,af h⟩
theorem Mem.hit{H0 H:Hp}{d:Addr}{L:Int→Addr}{kvs:List (Key×V)}{xs:ZN}{z:Addr×Nd}(m:Mem H0 H d L kvs xs [])(hp:ins xs z.2.par≠[]):
  Mem H0 (upd H (L z.2.par) (.lst (aW (ins xs z.2.par)++[.ref z.1]))) d L kvs (xs++[z]) []:=by
 have e1:=(m.at' z.2.par (by simp) hp);have hd:d≠L z.2.par:=λe=>by
  have:=m.dict;rw[e,e1.1]at this;cases this
 have ne:∀k,ins (xs++[z]) k=[]↔ins xs k=[]:=λk=>by
  rw[fm]
  by_cases h:z.2.par=k
  ·rw[if_pos h];subst h;simp[hp]
  ·rw[if_neg h]
 refine⟨by rw[aj hd];exact m.dict,m.d0,by have:=m.len;simp;omega,λk=>?_,λk h1 h2=>?_,λk k' _ _ h2 h3 e=>m.inj k k' (by simp) (by simp) (λh=>h2 ((ne k).mpr h)) (λh=>h3 ((ne k').mpr h)) e,aM e1.2 m.same⟩
 ·rw[m.val k];simp only[ne k]
 ·have h2':ins xs k≠[]:=λh=>h2 ((ne k).mpr h);refine⟨?_,(m.at' k h1 h2').2⟩
  by_cases h:z.2.par=k
  ·subst h;rw[ac,fm,if_pos rfl,iO]
  ·rw[aj,fm,if_neg h]
   ·exact(m.at' k h1 h2').1
   ·intro e;exact h (m.inj _ _ (by simp) (by simp) hp h2' e.symm)
theorem Mem.fresh{H0 H:Hp}{d q:Addr}{L:Int→Addr}{kvs:List (Key×V)}{xs:ZN}{z:Addr×Nd}(m:Mem H0 H d L kvs xs [])(hp:ins xs z.2.par=[])(hq:H q=none):
  Mem H0 (upd (upd (upd H q (.lst [])) d (.dK (cj kvs (Sum.inl z.2.par:Key) (.ref q)))) q (.lst ([]++[.ref z.1]))) d (λk=>if k=z.2.par then q else L k) (cj kvs (Sum.inl z.2.par:Key) (.ref q)) (xs++[z]) []:=by
 have hdq:d≠q:=λe=>by
  have:=m.dict;rw[e,hq]at this;cases this
 have lq:∀k,ins xs k≠[]→L k≠q:=λk h e=>by
  have:=(m.at' k (by simp) h).1;rw[e,hq]at this;cases this
 have ld:∀k,ins xs k≠[]→L k≠d:=λk h e=>by
  have:=(m.at' k (by simp) h).1;rw[e,m.dict]at this;cases this
 have q0:H0 q=none:=m.same.free hq;have e2:∀k,k≠z.2.par→ins (xs++[z]) k=ins xs k:=λk h=>by rw[fm,if_neg (λe=>h e.symm)]
 have e3:ins (xs++[z]) z.2.par=[z]:=by rw[fm,if_pos rfl,hp];rfl
 refine⟨by rw[aj hdq,ac],m.d0,?_,λk=>?_,λk h1 h2=>?_,λk k' _ _ h2 h3 e=>?_,?_⟩
 ·have h1:=m.len;have h2:=dH kvs (Sum.inl z.2.par:Key) (.ref q);rw[length_append,length_singleton];omega
 ·rw[jI]
  by_cases h:k=z.2.par
  ·subst h;rw[if_pos rfl,if_neg (by rw[e3];simp),if_pos rfl]
  ·rw[if_neg (λe=>h (Sum.inl.inj e)),m.val k,e2 k h,if_neg h]
 ·by_cases h:k=z.2.par
  ·subst h;simp only[if_true];exact⟨by rw[ac,e3];rfl,q0⟩
  ·rw[e2 k h]at h2;simp only[if_neg h];refine⟨?_,(m.at' k h1 h2).2⟩;rw[aj (lq k h2),aj (ld k h2),aj (lq k h2),e2 k h];exact(m.at' k h1 h2).1
 ·by_cases h:k=z.2.par
  ·by_cases h':k'=z.2.par
   ·rw[h,h']
   ·rw[e2 k' h']at h3;simp only[if_pos h,if_neg h']at e;exact absurd e.symm (lq k' h3)
  ·rw[e2 k h]at h2
   by_cases h':k'=z.2.par
   ·simp only[if_neg h,if_pos h']at e;exact absurd e (lq k h2)
   ·rw[e2 k' h']at h3;simp only[if_neg h,if_neg h']at e;exact m.inj k k' (by simp) (by simp) h2 h3 e
 ·exact aM q0 (aM m.d0 (m.same.trans (af hq)))
theorem sP{κ:Type}[DecidableEq κ](kvs:List (κ×V))(k j:κ):bc (dm kvs k) j=if j=k then none else bc kvs j:=by
 induction kvs with
 |nil=>simp[dm,bc]
 |cons p r ih =>
  by_cases e:p.1=k
  ·rw[sx e,ih]
   by_cases h:j=k
   ·rw[if_pos h,if_pos h]
   ·rw[if_neg h,if_neg h,bd (λz=>h (z.symm.trans e))]
  ·rw[sy e]
   by_cases h:p.1=j
   ·rw[bp h,if_neg (λz=>e (h.trans z)),bp h]
   ·rw[bd h,ih,bd h]
theorem Mem.drop{H0 H:Hp}{d:Addr}{L:Int→Addr}{kvs:List (Key×V)}{xs:ZN}{dn:List Int}(m:Mem H0 H d L kvs xs dn)(x:Int):Mem H0 (upd H d (.dK (dm kvs (Sum.inl x:Key)))) d L (dm kvs (Sum.inl x:Key)) xs (x::dn):=by
 have ld:∀k,k∉dn→ins xs k≠[]→L k≠d:=λk h0 h e=>by
  have:=(m.at' k h0 h).1;rw[e,m.dict]at this;cases this
 have no:∀k,k∉x::dn→k∉dn:=λk h h'=>h (mem_cons_of_mem _ h');refine⟨ac,m.d0,le_trans (oo _ _) m.len,λk=>?_,λk h1 h2=>?_,λk k' h0 h1 h2 h3 e=>m.inj k k' (no k h0) (no k' h1) h2 h3 e,aM m.d0 m.same⟩
 ·rw[sP,m.val k]
  by_cases h:k=x
  ·rw[if_pos (by rw[h]),if_pos (.inl (by rw[h];simp))]
  ·rw[if_neg (λe=>h (Sum.inl.inj e))];simp[h]
 ·rw[aj (ld k (no k h1) h2)];exact m.at' k (no k h1) h2
theorem Mem.skip{H0 H:Hp}{d:Addr}{L:Int→Addr}{kvs:List (Key×V)}{xs:ZN}{dn:List Int}(m:Mem H0 H d L kvs xs dn){x:Int}(hx:x∈dn∨ins xs x=[]):Mem H0 H d L kvs xs (x::dn):=by
 have no:∀k,k∉x::dn→k∉dn:=λk h h'=>h (mem_cons_of_mem _ h');refine⟨m.dict,m.d0,m.len,λk=>?_,λk h1 h2=>m.at' k (no k h1) h2,λk k' h0 h1 h2 h3 e=>m.inj k k' (no k h0) (no k' h1) h2 h3 e,m.same⟩;rw[m.val k]
 by_cases h:k=x
 ·subst h;rw[if_pos hx,if_pos (.inl (by simp))]
 ·simp[h]
theorem uN{Q:VK}{H0 H:Hp}{d q:Addr}{L:Int→Addr}{kvs:List (Key×V)}{zs:ZN}{dn:List Int}{x:Int}(m:Mem H0 H d L kvs zs dn)(hq:H q=some (.lst []))(k:∀hl Hc kvs' hs,Mem H0 Hc d L kvs' zs (x::dn)→Hc hl=some (.lst (aW hs))→nds hs=TW.here (nds zs) dn x→(∀z∈hs,z∈zs)→(∀p,p≠d→Hc p=H p)→(hs=[]→hl=q)→Q (.ref hl) Hc):
  ∃kvs k,H d=some (.dK kvs)∧V.int x=kV k∧(∀v,bc kvs k=some v→Q v (upd H d (.dK (dm kvs k))))∧(bc kvs k=none→Q (.ref q) H):=by
 refine⟨kvs,.inl x,m.dict,rfl,λv hv=>?_,λhn=>?_⟩
 ·rw[m.val x]at hv
  by_cases h:x∈dn∨ins zs x=[]
  ·rw[if_pos h]at hv;cases hv
  ·rw[if_neg h]at hv;have h1:x∉dn:=λz=>h (.inl z);have h2:ins zs x≠[]:=λz=>h (.inr z);cases hv;have a:=(m.at' x h1 h2).1;have ld:L x≠d:=λe=>by rw[e,m.dict]at a;cases a
   refine k (L x) _ _ (ins zs x) (m.drop x) (by rw[aj ld];exact a) ?_ (λz hz=>wQ hz) (λp hp=>aj hp) (λe=>absurd e h2);rw[rA];unfold TW.here;rw[if_neg h1]
 ·rw[m.val x]at hn
  by_cases h:x∈dn∨ins zs x=[]
  ·refine k q _ _ [] (m.skip h) hq ?_ (by simp) (λp _=>rfl) (λ_=>rfl);unfold TW.here
   by_cases h1:x∈dn
   ·rw[if_pos h1];rfl
   ·rw[if_neg h1];rcases h with h|h
    ·exact absurd h h1
    ·rw[←rA,h]
  ·rw[if_neg h]at hn;cases hn
theorem rB{H:Hp}{p hl:Addr}{hs:ZN}{is:List Int}(hp:H p=some (.lst (is.map V.int)))(h:H hl=some (.lst (aW hs)))(hne:hs≠[]):hl≠p:=by
 intro e;rw[e,hp]at h;injection h with h
 injection h with h
 cases hs with
 |nil=>exact hne rfl
 |cons a r =>
  cases is with
  |nil=>simp[aW]at h
  |cons i r'=>simp[aW]at h
def lJ(H:Hp)(p:Addr):Nat:=match H p with
 |some (.lst xs)=>xs.length
 |_=>0
theorem il{H:Hp}{p:Addr}{xs:List V}(h:H p=some (.lst xs)):lJ H p=xs.length:=by unfold lJ;rw[h]
def dE(l:List Nd):List V:=(l.map (·.num)).map V.int
def eZ(K:PySem.W.Frag)(H:Hp)(a:Addr):Prop:=∃ns:List Int,SqL K H a (ns.map V.int)
theorem eZ.same{K:PySem.W.Frag}{H H':Hp}{a:Addr}(h:eZ K H a)(s:Same H H'):eZ K H' a:=let⟨ns,e⟩:=h;⟨ns,s.seq e⟩
theorem oT{ns:List Int}{i:Int}(h0:0≤i)(h1:i<ns.length):∃j,atI (ns.map V.int) i=some (.int j):=by
 refine⟨ns[i.toNat]'(by omega),?_⟩;have:=md (xs:=ns.map V.int) (j:=i.toNat) (v:=.int (ns[i.toNat]'(by omega))) (by rw[getElem?_map,getElem?_eq_getElem (by omega)];rfl);rw[show((i.toNat:Nat):Int)=i by omega]at this;exact this
def Has(P:Program)(w:World)(K:PySem.W.Frag)(mg:Str→Option Value)(base:Heap)(k:Nat)(x:Str)(ps:List Str)(sp:Sp):Prop:=∃f fd,FnOk P w K mg base CX0 k f fd ps sp∧mg x=some (.ref f)∧keepIn K (.ref f)=true∧bf K fd ps []
def wR(n:Nd):Prop:=1≤n.num∧n.num≤12∧(n.nm="a"∨n.nm="b"∨n.nm="c"∨n.nm="abcde")∧(n.st=none∨n.st=some 0∨n.st=some 1∨n.st=some 2∨n.st=some 999)
structure Bd(zs:ZN)(lf:List Int):Prop where
 built:TW.Built (nds zs)
 nd:((nds zs).map (·.num)++lf).Nodup
 rng:∀x∈lf,1≤x∧x≤12
 own:TW.dk (nds zs)
 ok:∀z∈zs,wR z.2
theorem Bd.skip{zs:ZN}{lf:List Int}(b:Bd zs lf)(i:Nat):Bd zs (lf.eraseIdx i) :=
 ⟨b.built,Nodup.sublist (Sublist.append (Sublist.refl _) (List.eraseIdx_sublist lf i)) b.nd,λx hx=>b.rng x ((List.eraseIdx_sublist lf i).mem hx),b.own,b.ok⟩
theorem kc:∀{l:List Int}{i:Nat}{x:Int},l[i]?=some x→(x::l.eraseIdx i).Perm l
 |a::l,0,x,h=>by
  have:a=x:=by simpa using h
  subst this;exact List.Perm.refl _
 |a::l,i+1,x,h=>by
  have h':l[i]?=some x:=by simpa using h
  exact(List.Perm.swap a x _).trans (List.Perm.cons a (kc h'))
 |[],i,x,h=>by simp at h
theorem Bd.add{zs:ZN}{lf:List Int}{i:Nat}{q:Addr}{n:Nd}(b:Bd zs lf)(hi:lf[i]?=some n.num)(hp:n.par∈(0:Int)::TW.aR (nds zs))(ho:∀z∈zs,¬(z.2.par=n.par∧z.2.nm=n.nm))(h3:n.nm="a"∨n.nm="b"∨n.nm="c"∨n.nm="abcde")(h4:n.st=none∨n.st=some 0∨n.st=some 1∨n.st=some 2∨n.st=some 999):Bd (zs++[(q,n)]) (lf.eraseIdx i):=by
 have e:nds (zs++[(q,n)])=nds zs++[n]:=by simp[nds]
 have pm:=kc hi;refine⟨?_,?_,λx hx=>b.rng x ((List.eraseIdx_sublist lf i).mem hx),?_,λz hz=>?_⟩
 ·rw[e];refine .snoc b.built ?_;rcases mem_cons.mp hp with h|h
  ·exact .inl h
  ·exact .inr (TW.ja.mp h)
 ·rw[e,map_append,append_assoc];exact((List.Perm.append_left _ pm).nodup_iff).mpr b.nd
 ·rw[e];unfold TW.dk;rw[map_append,nodup_append];refine⟨b.own,by simp,λx hx y hy=>?_⟩;have ey:y=(n.par,n.nm):=by simpa using hy
  subst ey;obtain⟨m,hm,rfl⟩:=mem_map.mp hx;obtain⟨z,hz,rfl⟩:=mem_map.mp hm;intro h;injection h with h1 h2
  exact ho z hz ⟨h1,h2⟩
 ·rcases mem_append.mp hz with h|h
  ·exact b.ok z h
  ·have ez:z=(q,n):=by simpa using h
   subst ez;have:=b.rng n.num (mem_of_getElem? hi);exact⟨this.1,this.2,h3,h4⟩
def tp(z:Addr×Nd):ia:=(z.1,z.2.num,[.int z.2.par,.str z.2.nm,stV z.2.st])
def un(t:ia):Addr×Nd:=(t.1,match t.2.2 with
 |[.int p,.str s,.int i]=>⟨t.2.1,p,s,some i⟩
 |[.int p,.str s,_]=>⟨t.2.1,p,s,none⟩
 | _=>⟨0,0,"",none⟩)
theorem xV(z:Addr×Nd):un (tp z)=z:=by
 obtain⟨a,⟨n,p,s,st⟩⟩:=z;cases st<;>rfl
theorem back{zs:ZN}{ts:List ia}(h:ts.Perm (zs.map tp)):(ts.map un).Perm zs∧(ts.map un).map tp=ts:=by
 constructor
 ·have:=h.map un;rw[map_map]at this;have e:zs.map (un∘tp)=zs.map id:=map_congr_left λz _=>xV z;rw[e,List.map_id]at this;exact this
 ·rw[map_map,map_congr_left (g:=id)]
  ·simp
  ·intro t ht;obtain⟨z,_,rfl⟩:=mem_map.mp (h.mem_iff.mp ht);show tp (un (tp z))=tp z;rw[xV]
theorem jp(zs:ZN):((zs.map tp).map (·.1)).map V.ref=aW zs:=by
 unfold aW;simp only[map_map];rfl
theorem uO{n:Nat}{j:Int}(h0:0≤j)(h1:j<n):seqIndex? j n=some j.toNat:=(qT (by unfold ixN;rw[if_pos h0,if_pos h1])).1
theorem lK:∀(l:List Int)(i:Nat),(l.map V.int).eraseIdx i=(l.eraseIdx i).map V.int
 |[],i=>by simp
 |a::l,0=>rfl
 |a::l,i+1=>by
  show V.int a::(l.map V.int).eraseIdx i=V.int a::(l.eraseIdx i).map V.int;rw[lK l i]
theorem rC{ns:List Int}{i:Int}(h0:0≤i)(h1:i<ns.length):∃x∈ns,atI (ns.map V.int) i=some (.int x):=by
 refine⟨ns[i.toNat]'(by omega),getElem_mem _,?_⟩;have:=md (xs:=ns.map V.int) (j:=i.toNat) (v:=.int (ns[i.toNat]'(by omega))) (by rw[getElem?_map,getElem?_eq_getElem (by omega)];rfl);rw[show((i.toNat:Nat):Int)=i by omega]at this;exact this
theorem rD{j:Int}(h0:0≤j)(h1:j<4):∃x:Str,(x="a"∨x="b"∨x="c"∨x="abcde")∧atI [V.str "a",.str "b",.str "c",.str "abcde"] j=some (.str x):=by
 obtain rfl|rfl|rfl|rfl:j=0∨j=1∨j=2∨j=3:=by omega
 ·exact⟨"a",.inl rfl,rfl⟩
 ·exact⟨"b",.inr (.inl rfl),rfl⟩
 ·exact⟨"c",.inr (.inr (.inl rfl)),rfl⟩
 ·exact⟨"abcde",.inr (.inr (.inr rfl)),rfl⟩
theorem wS{j:Int}(h0:0≤j)(h1:j<4):∃i:Int,(some i=none∨some i=some (0:Int)∨some i=some 1∨some i=some 2∨some i=some 999)∧atI [V.int 0,.int 1,.int 2,.int 999] j=some (.int i):=by
 obtain rfl|rfl|rfl|rfl:j=0∨j=1∨j=2∨j=3:=by omega
 ·exact⟨0,.inr (.inl rfl),rfl⟩
 ·exact⟨1,.inr (.inr (.inl rfl)),rfl⟩
 ·exact⟨2,.inr (.inr (.inr (.inl rfl))),rfl⟩
 ·exact⟨999,.inr (.inr (.inr (.inr rfl))),rfl⟩
structure Sta(H:Hp)(pl pf pn:Addr)(Hx:Hp)(lf fs:List Int)(zs:ZN):Prop where
 same:Same H Hx
 l:Hx pl=some (.lst (lf.map V.int))
 f:Hx pf=some (.lst (fs.map V.int))
 n:Hx pn=some (.lst (aW zs))
 nd:At Hx zs
 l0:H pl=none
 f0:H pf=none
 n0:H pn=none
 lf':pl≠pf
 ln':pl≠pn
 fn':pf≠pn
theorem Sta.grow{H Hx Hy:Hp}{pl pf pn:Addr}{lf fs:List Int}{zs:ZN}(a:Sta H pl pf pn Hx lf fs zs)(s:Same Hx Hy):Sta H pl pf pn Hy lf fs zs :=
 ⟨a.same.trans s,s _ _ a.l,s _ _ a.f,s _ _ a.n,a.nd.same s,a.l0,a.f0,a.n0,a.lf',a.ln',a.fn'⟩
theorem At.over{H:Hp}{p:Addr}{xs:List V}{o:HO}{zs:ZN}(h:At H zs)(hp:H p=some (.lst xs)):At (upd H p o) zs:=λz hz=>by
 rw[aj]
 ·exact h z hz
 ·intro e;have:=h z hz;rw[e,hp]at this;cases this
theorem Sta.pop{H Hx:Hp}{pl pf pn:Addr}{lf fs:List Int}{zs:ZN}(a:Sta H pl pf pn Hx lf fs zs)(lf2:List Int):Sta H pl pf pn (upd Hx pl (.lst (lf2.map V.int))) lf2 fs zs :=
 ⟨aM a.l0 a.same,ac,by rw[aj (Ne.symm a.lf')];exact a.f,by rw[aj (Ne.symm a.ln')];exact a.n,a.nd.over a.l,a.l0,a.f0,a.n0,a.lf',a.ln',a.fn'⟩
theorem Sta.fold{H Hx:Hp}{pl pf pn:Addr}{lf fs:List Int}{zs:ZN}(a:Sta H pl pf pn Hx lf fs zs)(x:Int):Sta H pl pf pn (upd Hx pf (.lst (fs.map V.int++[.int x]))) lf (fs++[x]) zs :=
 ⟨aM a.f0 a.same,by rw[aj a.lf'];exact a.l,by rw[ac];simp,by rw[aj (Ne.symm a.fn')];exact a.n,a.nd.over a.f,a.l0,a.f0,a.n0,a.lf',a.ln',a.fn'⟩
theorem Sta.node{H Hx:Hp}{pl pf pn q:Addr}{lf fs:List Int}{zs:ZN}{n:Nd}(a:Sta H pl pf pn Hx lf fs zs)(hq:Hx q=some (.tup (vals n))):Sta H pl pf pn (upd Hx pn (.lst (aW zs++[.ref q]))) lf fs (zs++[(q,n)]) :=
 ⟨aM a.n0 a.same,by rw[aj a.ln'];exact a.l,by rw[aj a.fn'];exact a.f,by rw[ac,iO],(λz hz=>by
  rcases mem_append.mp hz with h|h
  ·exact a.nd.over a.n z h
  ·have ez:z=(q,n):=by simpa using h
   subst ez;rw[aj]
   ·exact hq
   ·intro e;have e':q=pn:=e;rw[e',a.n]at hq;cases hq),a.l0,a.f0,a.n0,a.lf',a.ln',a.fn'⟩
def lf0(m:Int):List Int:=(List.range (m+4-1).toNat).map λk=>(1:Int)+(k:Nat)
theorem wT{m:Int}(h:0≤m):((lf0 m).length:Int)=m+3:=by unfold lf0;rw[length_map,length_range];omega
theorem wU{m:Int}(h:m≤9):∀x∈lf0 m,1≤x∧x≤12:=λx hx=>by
 unfold lf0 at hx;obtain⟨k,hk,rfl⟩:=mem_map.mp hx;have:=mem_range.mp hk;omega
theorem yR(m:Int):(lf0 m).Nodup:=by
 unfold lf0 Nodup;rw[pairwise_map];exact nodup_range.imp λh e=>h (by omega)
theorem Bd.zero{m:Int}(h:m≤9):Bd [] (lf0 m):=⟨.nil,by show(([]:List Int)++lf0 m).Nodup;rw[nil_append];exact yR m,wU h,by unfold TW.dk nds;simp,by simp⟩
def eQ(zs:ZN):List (Key×V):=zs.map λz=>((Sum.inl z.2.num:Key),V.ref z.1)
theorem nc{zs:ZN}(hn:((nds zs).map (·.num)).Nodup){z:Addr×Nd}(hz:z∈zs):bc (eQ zs) (Sum.inl z.2.num:Key)=some (.ref z.1):=by
 induction zs with
 |nil=>simp at hz
 |cons y zs ih =>
  have hn':y.2.num∉(nds zs).map (·.num)∧((nds zs).map (·.num)).Nodup:=by simpa [nds]using hn
  show bc (((Sum.inl y.2.num:Key),V.ref y.1)::eQ zs) _=_;rcases mem_cons.mp hz with e|hz'
  ·subst e;exact bp rfl
  ·rw[bd]
   ·exact ih hn'.2 hz'
   ·intro e;injection e with e
    exact hn'.1 (mem_map.mpr ⟨z.2,mem_map.mpr ⟨z,hz',rfl⟩,e.symm⟩)
theorem qc{zs:ZN}{k:Int}(h:∀z∈zs,z.2.num≠k):bc (eQ zs) (Sum.inl k:Key)=none:=by
 induction zs with
 |nil=>rfl
 |cons y zs ih =>
  show bc (((Sum.inl y.2.num:Key),V.ref y.1)::eQ zs) _=_;rw[bd]
  ·exact ih λz hz=>h z (mem_cons_of_mem _ hz)
  ·intro e;injection e with e
   exact h y (by simp) e
def qd(H:Hp)(d:Addr)(zs:ZN):Prop:=∃o,H d=some (.frz o (.dK (eQ zs)))
theorem qd.get{H:Hp}{d:Addr}{zs:ZN}(h:qd H d zs)(hn:((nds zs).map (·.num)).Nodup){z:Addr×Nd}(hz:z∈zs):cN H d (.int z.2.num) (some (.ref z.1)):=by
 obtain⟨o,e⟩:=h;exact .inl ⟨eQ zs,Sum.inl z.2.num,.inr ⟨o,e⟩,rfl,(nc hn hz).symm⟩
theorem qd.not{H:Hp}{d:Addr}{zs:ZN}(h:qd H d zs){k:Int}(hk:∀z∈zs,z.2.num≠k):cN H d (.int k) none:=by
 obtain⟨o,e⟩:=h;exact .inl ⟨eQ zs,Sum.inl k,.inr ⟨o,e⟩,rfl,(qc hk).symm⟩
theorem bX{ns:List Nd}(T:TW.Tree1 ns):(ns.map (·.num)).Nodup:=by
 have h:=T.rise;unfold TW.cb at h;unfold Nodup;rw[pairwise_map];exact h.imp λh e=>by omega
theorem wV{ys:List V}{zs:ZN}{H:Hp}{p:Addr}{g:Addr×Nd→List V}(hlen:ys.length=zs.length)(h:∀(i:Nat) y,ys[i]?=some y→∃q z,zs[i]?=some z∧y=.ref q∧q≠p∧H q=some (.tup (g z))):
  ∃as:List (Addr×(Addr×Nd)),as.map (·.2)=zs∧ys=(as.map (·.1)).map V.ref∧∀a∈as,a.1≠p∧H a.1=some (.tup (g a.2)):=by
 induction ys generalizing zs with
 |nil =>
  have:zs=[]:=length_eq_zero_iff.mp hlen.symm;subst this;exact⟨[],rfl,rfl,by simp⟩
 |cons y ys ih =>
  cases zs with
  |nil=>simp at hlen
  |cons z zs =>
   obtain⟨as,e1,e2,e3⟩:=ih (zs:=zs) (by simpa using hlen) λi x hx=>by simpa using h (i+1) x (by simpa using hx)
   obtain⟨q,z',f1,f2,f3,f4⟩:=h 0 y rfl;have:z=z':=by simpa using f1
   subst this;refine⟨(q,z)::as,by simp[e1],by simp[e2,f2],λa ha=>?_⟩;rcases mem_cons.mp ha with rfl|ha
   ·exact⟨f3,f4⟩
   ·exact e3 a ha
theorem kd{κ:Type}[DecidableEq κ]{kvs:List (κ×V)}(hn:(kvs.map (·.1)).Nodup){k:κ}{v:V}(h:(k,v)∈kvs):bc kvs k=some v:=by
 induction kvs with
 |nil=>simp at h
 |cons y kvs ih =>
  have hn':y.1∉kvs.map (·.1)∧(kvs.map (·.1)).Nodup:=by simpa using hn
  rcases mem_cons.mp h with e|h'
  ·subst e;exact bp rfl
  ·rw[bd]
   ·exact ih hn'.2 h'
   ·intro e;exact hn'.1 (mem_map.mpr ⟨_,h',e.symm⟩)
theorem ng{κ:Type}[DecidableEq κ]{kvs:List (κ×V)}{k:κ}(h:k∉kvs.map (·.1)):bc kvs k=none:=by
 induction kvs with
 |nil=>rfl
 |cons y kvs ih =>
  have h':¬k=y.1∧k∉kvs.map (·.1):=by simpa using h
  rw[bd (λe=>h'.1 e.symm)];exact ih h'.2
theorem wW{zs:ZN}{k:Int}{q:List Str}(T:TW.Tree1 (nds zs))(h:TW.PathTo (nds zs) k q)(hk:k≠0):∃z∈zs,z.2.num=k∧∃q',q=q'++[z.2.nm]∧TW.PathTo (nds zs) z.2.par q':=by
 cases h with
 |top=>exact absurd rfl hk
 |@node n q' hm hq' =>
  obtain⟨z,hz,rfl⟩:=mem_map.mp hm;exact⟨z,hz,rfl,q',rfl,hq'⟩
def dW(P:Program)(w:World)(K:PySem.W.Frag)(mg:Str→Option Value)(base:Heap)(k:Nat)(x:Str)(ps:List Str)(sp:Sp):Prop:=∃f fd,FnOk P w K mg base (CX1 P w) k f fd ps sp∧mg x=some (.ref f)∧keepIn K (.ref f)=true∧bf K fd ps []
structure Tre(H:Hp)(t:Addr)(zs:ZN):Prop where
 tup:H t=some (.tup (aW zs))
 nod:At H zs
 tr:TW.Tree1 (nds zs)
 len:zs.length≤30
theorem Tre.same{H H':Hp}{t:Addr}{zs:ZN}(h:Tre H t zs)(s:Same H H'):Tre H' t zs:=⟨s _ _ h.tup,h.nod.same s,h.tr,h.len⟩
theorem sQ{ns:List Nd}(T:TW.Tree1 ns){f:Int}{dn:List Int}{fd:List Nd}(wk:TW.Walk ns f dn fd []):(fd.map (·.num)).Nodup:=by
 have h:=bX T;have:(fd.map (·.num)).Perm ((ns.filter (TW.dM dn)).map (·.num)):=wk.perm.map _;exact this.nodup_iff.mpr (h.sublist (filter_sublist.map _))
theorem _root_.L2.Same.rd{H H':Hp}(s:Same H H'){a:Addr}{u:HO}(r:Rd H a u):Rd H' a u:=by
 rcases r with r|⟨o,r⟩
 ·exact .inl (s _ _ r)
 ·exact .inr ⟨o,s _ _ r⟩
def aU(as:List (Addr×(Addr×Nd))):List (Key×V):=as.map λa=>((Sum.inl a.2.2.num:Key),V.ref a.1)
def aN(n:Nd):List V:=[.int n.par,.str n.nm,stV n.st]
structure Book(H:Hp)(d:Addr)(as:List (Addr×(Addr×Nd)))(zs:ZN):Prop where
 dict:Rd H d (.dK (aU as))
 of:as.map (·.2)=zs
 at':∀a∈as,H a.1=some (.tup (aN a.2.2))
theorem Book.same{H H':Hp}{d:Addr}{as:List (Addr×(Addr×Nd))}{zs:ZN}(b:Book H d as zs)(s:Same H H'):Book H' d as zs:=⟨s.rd b.dict,b.of,λa ha=>s _ _ (b.at' a ha)⟩
theorem gO{as:List (Addr×(Addr×Nd))}{zs:ZN}(h:as.map (·.2)=zs):(aU as).map (·.1)=((nds zs).map (·.num)).map (Sum.inl:Int→Key):=by
 rw[←h];unfold aU nds;simp only[map_map];rfl
theorem uP{as:List (Addr×(Addr×Nd))}{zs:ZN}(h:as.map (·.2)=zs)(hn:((nds zs).map (·.num)).Nodup):((aU as).map (·.1)).Nodup:=by
 rw[gO h];unfold Nodup at hn⊢;rw[pairwise_map];exact hn.imp λh e=>h (by injection e)
theorem Book.get{H:Hp}{d:Addr}{as:List (Addr×(Addr×Nd))}{zs:ZN}(b:Book H d as zs)(hn:((nds zs).map (·.num)).Nodup){z:Addr×Nd}(hz:z∈zs):∃q,cN H d (.int z.2.num) (some (.ref q))∧H q=some (.tup (aN z.2)):=by
 have:z∈as.map (·.2):=by rw[b.of];exact hz
 obtain⟨a,ha,rfl⟩:=mem_map.mp this;refine⟨a.1,.inl ⟨aU as,Sum.inl a.2.2.num,b.dict,rfl,?_⟩,b.at' a ha⟩;exact(kd (uP b.of hn) (mem_map.mpr ⟨a,ha,rfl⟩)).symm
theorem Book.not{H:Hp}{d:Addr}{as:List (Addr×(Addr×Nd))}{zs:ZN}(b:Book H d as zs){k:Int}(hk:∀z∈zs,z.2.num≠k):cN H d (.int k) none:=by
 refine .inl ⟨aU as,Sum.inl k,b.dict,rfl,(ng λhm=>?_).symm⟩;rw[gO b.of]at hm;obtain⟨i,hi,e⟩:=mem_map.mp hm;obtain⟨n,hn,rfl⟩:=mem_map.mp hi;obtain⟨z,hz,rfl⟩:=mem_map.mp hn;injection e with e
 exact hk z hz e
def uQ(ns:List Nd)(k:Int):Nat:=open Classical in if h:∃p,TW.PathTo ns k p then (Classical.choose h).length else 0
theorem rE{ns:List Nd}(T:TW.Tree1 ns){k:Int}{p:List Str}(h:TW.PathTo ns k p):uQ ns k=p.length:=by
 unfold uQ;have hx:∃p,TW.PathTo ns k p:=⟨p,h⟩;rw[dif_pos hx];rw[(Classical.choose_spec hx).uniq T h]
theorem Ba(n:Nd):atI (aN n) 0=some (.int n.par):=rfl
abbrev jb(x:Str)(mg:Str→Option Value)(base:Heap)(C:Addr):Prop:=PyProof.Rows.OwnCls x C bmV "ValueError.__new__" mg base
theorem rF(o:Option Int):(!decide (stV o=V.non))=o.isSome:=by cases o<;>simp[stV]
theorem cm(zs:ZN):zs.map (λz=>V.ref z.1)=aW zs:=by simp[aW]
def Bb:TW.Wd→Str
 |.known=>"Known"
 |.noNode=>"NoNode"
 |.notFile=>"NotFile"
 |.notFolder=>"NotFolder"
 |.inside=>"Inside"
 |.taken=>"Taken"
abbrev wX(mg:Str→Option Value)(base:Heap)(cls:TW.Wd→Addr):Prop:=∀w,jb (Bb w) mg base (cls w)
structure Outs(H:Hp)(t:List Nd)(d:TW.Deed Str)(cls:TW.Wd→Addr)(Q:VK)(E:XK):Prop where
 ok:∀us t' H',Same H H'→H' t'=some (.tup (aW us))→At H' us→TW.Told t d (.inr (nds us))→Q (.ref t') H'
 no:∀w H',Same H H'→TW.Told t d (.inl w)→E (.ref (cls w)) none H'
theorem jc{K:PySem.W.Frag}{H:Hp}{l:Addr}{zs:ZN}{Q:VK}(hl:SqL K H l (aW zs)∨SqT K H l (aW zs))(hA:At H zs)(hn:((nds zs).map (·.num)).Nodup)(h64:zs.length<64)(q:∀us t' H',Same H H'→H' t'=some (.tup (aW us))→At H' us→us.Perm zs→TW.cb (nds us)→Q (.ref t') H'):
  ∃l',∃ts:List ia,[V.ref l]=[V.ref l']∧(SqL K H l' ((ts.map (·.1)).map V.ref)∨SqT K H l' ((ts.map (·.1)).map V.ref))∧(∀z∈ts,H z.1=some (.tup (.int z.2.1::z.2.2)))∧(ts.map (·.2.1)).Nodup∧ts.length<64 ∧
   ∀ts':List ia,ts'.Perm ts→ts'.Pairwise (λa b=>a.2.1<b.2.1)→∀p,H p=none→∃p' ys,[V.ref p]=[V.ref p']∧((SqL K (upd H p (.lst ((ts'.map (·.1)).map V.ref))) p' ys∧∀l,upd H p (.lst ((ts'.map (·.1)).map V.ref)) l=none→Q (.ref l) (upd (upd H p (.lst ((ts'.map (·.1)).map V.ref))) l (.tup ys))) ∨
    (SqT K (upd H p (.lst ((ts'.map (·.1)).map V.ref))) p' ys∧Q (.ref p') (upd H p (.lst ((ts'.map (·.1)).map V.ref))))):=by
 have hnum:(zs.map tp).map (·.2.1)=(nds zs).map (·.num):=by
  unfold nds;simp only[map_map];rfl
 refine⟨l,zs.map tp,rfl,by rw[jp];exact hl,λz hz=>?_,by rw[hnum];exact hn,by rw[length_map];exact h64,λts pm up p hp=>?_⟩
 ·obtain⟨y,hy,rfl⟩:=mem_map.mp hz;exact hA y hy
 ·obtain⟨pm2,eb⟩:=back pm;have er:(ts.map (·.1)).map V.ref=aW (ts.map un):=by rw[←jp,eb]
  rw[er];refine⟨p,_,rfl,.inl ⟨SqL.of ac,λl hl=>?_⟩⟩;refine q (ts.map un) l _ ((af hp).trans (af hl)) ac ?_ pm2 ?_
  ·intro z hz;exact((af hp).trans (af hl)) _ _ (hA z (pm2.mem_iff.mp hz))
  ·unfold nds TW.cb;rw[pairwise_map];have up2:((ts.map un).map tp).Pairwise (λa b=>a.2.1<b.2.1):=by rw[eb];exact up
   rw[pairwise_map]at up2;exact up2
def bQ:TW.Deed Str→List V
 |.make n p nm st=>[.str "make",.int n,.int p,.str nm,stV st]
 |.write n st=>[.str "write",.int n,.int st]
 |.move n p nm=>[.str "move",.int n,.int p,.str nm]
 |.drop n=>[.str "drop",.int n]
def dX:TW.Deed Str→Prop
 |.make n p nm _=>1≤n∧n≤60∧0≤p∧p≤60∧nm.length≤100
 |.write n _=>1≤n∧n≤60
 |.move n p nm=>1≤n∧n≤60∧0≤p∧p≤60∧nm.length≤100
 |.drop n=>1≤n∧n≤60
theorem dX.pos{d:TW.Deed Str}(h:dX d):d.pos:=by
 cases d<;>first|exact h.1|trivial
theorem bY{zs:ZN}{z:Addr×Nd}(h:z∈zs):z.2∈nds zs:=mem_map.mpr ⟨z,h,rfl⟩
theorem fo{zs:ZN}{n:Nd}(h:n∈nds zs):∃z∈zs,z.2=n:=mem_map.mp h
theorem cI{zs:ZN}{k:Int}(h:¬∃z∈zs,z.2.num=k):¬TW.cH (nds zs) k:=λ⟨m,hm,e⟩=>by
 obtain⟨z,hz,rfl⟩:=fo hm;exact h ⟨z,hz,e⟩
theorem eF{zs:ZN}{k:Int}{z:Addr×Nd}(hz:z∈zs)(e:z.2.num=k):TW.cH (nds zs) k:=⟨z.2,bY hz,e⟩
def uR:TW.Wd→Str
 |.known=>"known"
 |.noNode=>"no node"
 |.notFile=>"not file"
 |.notFolder=>"not folder"
 |.inside=>"inside"
 |.taken=>"taken"
def bw(bs:List (Addr×Nd)):List (Key×V):=bs.map λb=>((Sum.inl b.2.num:Key),V.ref b.1)
theorem nh(as:List (Addr×(Addr×Nd))):aU as=bw (as.map λa=>(a.1,a.2.2)):=by
 unfold aU bw;rw[map_map];rfl
theorem kg(bs:List (Addr×Nd)):(bw bs).map (λp=>kV p.1)=bs.map λb=>V.int b.2.num:=by
 unfold bw;rw[map_map];rfl
theorem iP{bs:List (Addr×Nd)}(hn:(bs.map (·.2.num)).Nodup){b:Addr×Nd}(hb:b∈bs):bc (bw bs) (Sum.inl b.2.num:Key)=some (.ref b.1):=by
 refine kd ?_ (mem_map.mpr ⟨b,hb,rfl⟩);unfold bw;rw[map_map];unfold Nodup at hn⊢;rw[pairwise_map]at hn⊢;exact hn.imp λh e=>h (by injection e)
theorem sR(bs:List (Addr×Nd))(c:Addr)(n:Nd):cj (bw bs) (Sum.inl n.num:Key) (.ref c)=bw (if ∃b∈bs,b.2.num=n.num then bs.map (λb=>if b.2.num=n.num then (c,n)else b)else bs++[(c,n)]):=by
 unfold cj
 by_cases h:∃b∈bs,b.2.num=n.num
 ·obtain⟨b,hb,e⟩:=h;have ha:((bw bs).any λkv=>decide (kv.1=(Sum.inl n.num:Key)))=true:=by
   rw[any_eq_true];exact⟨_,mem_map.mpr ⟨b,hb,rfl⟩,by simp[e]⟩
  rw[if_pos ha,if_pos ⟨b,hb,e⟩];unfold bw;rw[map_map,map_map];apply map_congr_left;intro x _;show(if (Sum.inl x.2.num:Key)=Sum.inl n.num then ((Sum.inl x.2.num:Key),V.ref c)else ((Sum.inl x.2.num:Key),V.ref x.1))=_
  by_cases e:x.2.num=n.num
  ·rw[if_pos (by rw[e])];show _=((Sum.inl (if x.2.num=n.num then (c,n)else x).2.num:Key),V.ref (if x.2.num=n.num then (c,n)else x).1)
   rw[if_pos e,e]
  ·rw[if_neg (λh=>e (by injection h))];show _=((Sum.inl (if x.2.num=n.num then (c,n)else x).2.num:Key),V.ref (if x.2.num=n.num then (c,n)else x).1)
   rw[if_neg e]
 ·have ha:¬((bw bs).any λkv=>decide (kv.1=(Sum.inl n.num:Key)))=true:=λha=>h (by
   obtain⟨y,hy,e⟩:=any_eq_true.mp ha;obtain⟨b,hb,rfl⟩:=mem_map.mp hy;have e':(Sum.inl b.2.num:Key)=Sum.inl n.num:=by simpa using e
   exact⟨b,hb,by injection e'⟩)
  rw[if_neg ha,if_neg h];unfold bw;rw[map_append];rfl
theorem yS(n:Nd):atI (aN n) 2=some (stV n.st):=rfl
theorem oU{H:Hp}{d q:Addr}{as:List (Addr×(Addr×Nd))}{zs:ZN}{new:Nd}(hd:H d=some (.dK (aU as)))(hof:as.map (·.2)=zs)(hat:∀a∈as,H a.1=some (.tup (aN a.2.2)))(hq:H q=some (.tup (aN new)))(hnd:((nds zs).map (·.num)).Nodup):
  ∃bs:List (Addr×Nd),upd H d (.dK (cj (aU as) (Sum.inl new.num:Key) (.ref q))) d=some (.dK (bw bs))∧(∀b∈bs,upd H d (.dK (cj (aU as) (Sum.inl new.num:Key) (.ref q))) b.1=some (.tup (aN b.2)))∧(bs.map (·.2.num)).Nodup∧bs.length≤zs.length+1 ∧
   ((TW.cH (nds zs) new.num∧bs.map (·.2)=(nds zs).map (TW.put new))∨(¬TW.cH (nds zs) new.num∧bs.map (·.2)=nds zs++[new])):=by
 have en:(as.map λa=>(a.1,a.2.2)).map (·.2)=nds zs:=by rw[←hof];unfold nds;rw[map_map,map_map];rfl
 have hl:(as.map λa=>(a.1,a.2.2)).length=zs.length:=by rw[←hof,length_map,length_map]
 have ne:∀a xs,H a=some (.tup xs)→a≠d:=λa xs h e=>by rw[e,hd]at h;cases h
 have hat':∀b∈as.map (λa=>(a.1,a.2.2)),H b.1=some (.tup (aN b.2)):=λb hb=>by
  obtain⟨a,ha,rfl⟩:=mem_map.mp hb;exact hat a ha
 rw[nh,sR];generalize as.map (λa=>(a.1,a.2.2))=cs at en hl hat'⊢;have hh:(∃b∈cs,b.2.num=new.num)↔TW.cH (nds zs) new.num:=by
  rw[←en];constructor
  ·rintro⟨b,hb,e⟩;exact⟨b.2,mem_map.mpr ⟨b,hb,rfl⟩,e⟩
  ·rintro⟨m,hm,e⟩;obtain⟨b,hb,rfl⟩:=mem_map.mp hm;exact⟨b,hb,e⟩
 have hn2:(cs.map (·.2.num)).Nodup:=by
  have:cs.map (·.2.num)=(nds zs).map (·.num):=by rw[←en,map_map];rfl
  rw[this];exact hnd
 by_cases h:∃b∈cs,b.2.num=new.num
 ·rw[if_pos h];refine⟨_,ac,λb hb=>?_,?_,by rw[length_map];omega,.inl ⟨hh.mp h,?_⟩⟩
  ·obtain⟨c,hc,rfl⟩:=mem_map.mp hb
   by_cases e:c.2.num=new.num
   ·rw[if_pos e,aj (ne _ _ hq)];exact hq
   ·rw[if_neg e,aj (ne _ _ (hat' c hc))];exact hat' c hc
  ·have:(cs.map λb=>if b.2.num=new.num then (q,new)else b).map (·.2.num)=cs.map (·.2.num):=by
    rw[map_map];apply map_congr_left;intro c _;show(if c.2.num=new.num then (q,new)else c).2.num=c.2.num
    by_cases e:c.2.num=new.num
    ·rw[if_pos e];exact e.symm
    ·rw[if_neg e]
   rw[this];exact hn2
  ·rw[←en,map_map,map_map];apply map_congr_left;intro c _;show(if c.2.num=new.num then (q,new)else c).2=TW.put new c.2
   unfold TW.put
   by_cases e:c.2.num=new.num
   ·rw[if_pos e,if_pos e]
   ·rw[if_neg e,if_neg e]
 ·rw[if_neg h];refine⟨_,ac,λb hb=>?_,?_,by rw[length_append];simp;omega,.inr ⟨λx=>h (hh.mpr x),by rw[map_append,en];rfl⟩⟩
  ·rcases mem_append.mp hb with hb|hb
   ·rw[aj (ne _ _ (hat' b hb))];exact hat' b hb
   ·have e:b=(q,new):=by simpa using hb
    subst e;rw[aj (ne _ _ hq)];exact hq
  ·rw[map_append,nodup_append];refine⟨hn2,by simp,λx hx y hy e=>?_⟩;have ey:y=new.num:=by simpa using hy
   obtain⟨b,hb,eb⟩:=mem_map.mp hx;exact h ⟨b,hb,by rw[eb,e,ey]⟩
def kh(t:List Nd)(dd:TW.Deed Str)(n p:Int)(nm:Str):Prop:=(∃st,dd=.make n p nm st∧¬TW.cH t n)∨(dd=.move n p nm∧TW.cH t n)
theorem kh.no{t:List Nd}{dd:TW.Deed Str}{n p:Int}{nm:Str}(h:kh t dd n p nm)(h0:p≠0)(hp:¬TW.cH t p):TW.Told t dd (.inl .noNode):=by
 rcases h with⟨st,rfl,hn⟩|⟨rfl,hn⟩
 ·exact .mNo hn h0 hp
 ·exact .vNoP hn h0 hp
theorem kh.file{t:List Nd}{dd:TW.Deed Str}{n p:Int}{nm:Str}(h:kh t dd n p nm)(h0:p≠0){m:Nd}(hm:m∈t)(e:m.num=p)(hs:m.st≠none):TW.Told t dd (.inl .notFolder):=by
 rcases h with⟨st,rfl,hn⟩|⟨rfl,hn⟩
 ·exact .mFile hn h0 hm e hs
 ·exact .vFile hn h0 hm e hs
def NotIn(t:List Nd)(dd:TW.Deed Str)(n p:Int):Prop:=(∃nm,dd=.move n p nm)→p≠0→¬TW.Und t n p
theorem kh.taken{t:List Nd}{dd:TW.Deed Str}{n p:Int}{nm:Str}(h:kh t dd n p nm)(hF:TW.ig t p)(hi:NotIn t dd n p){m:Nd}(hm:m∈t)(hne:m.num≠n)(e1:m.par=p)(e2:m.nm=nm):TW.Told t dd (.inl .taken):=by
 rcases h with⟨st,rfl,hn⟩|⟨rfl,hn⟩
 ·exact .mTaken hn hF hm e1 e2
 ·exact .vTaken hn hF (hi ⟨_,rfl⟩) hm hne e1 e2
def li(x:Str):Prop:=x="a"∨x="b"∨x="c"∨x="abcde"
def wY(s:Option Int):Prop:=∀i,s=some i→0≤i∧i≤999
def eR(n:Nd):Prop:=1≤n.num∧n.num≤60∧li n.nm∧wY n.st
def cv:TW.Deed Str→Prop
 |.make n p nm st=>1≤n∧n≤60∧0≤p∧p≤60∧li nm∧wY st
 |.write n st=>1≤n∧n≤60∧0≤st∧st≤999
 |.move n p nm=>1≤n∧n≤60∧0≤p∧p≤60∧li nm
 |.drop n=>1≤n∧n≤60
theorem li.len{x:Str}(h:li x):x.length≤100:=by
 rcases h with rfl|rfl|rfl|rfl<;>decide +kernel
theorem cv.ok{d:TW.Deed Str}(h:cv d):dX d:=by
 cases d with
 |make n p nm st=>obtain⟨h1,h2,h3,h4,h5,_⟩:=h;exact⟨h1,h2,h3,h4,h5.len⟩
 |write n st=>exact⟨h.1,h.2.1⟩
 |move n p nm=>obtain⟨h1,h2,h3,h4,h5⟩:=h;exact⟨h1,h2,h3,h4,h5.len⟩
 |drop n=>exact h
theorem eR.told{t u:List Nd}{d:TW.Deed Str}(ht:∀n∈t,eR n)(hd:cv d)(h:TW.Told t d (.inr u)):∀n∈u,eR n:=by
 refine h.all ht (λn p nm st e=>?_) (λn st e y hy ey=>?_) (λn p nm e y hy ey=>?_)
 ·subst e;obtain⟨h1,h2,h3,h4,h5,h6⟩:=hd;exact⟨h1,h2,h5,h6⟩
 ·subst e;obtain⟨h1,h2,h3,h4⟩:=hd;exact⟨h1,h2,(ht y hy).2.2.1,λi e=>by injection e with e;omega⟩
 ·subst e;obtain⟨h1,h2,h3,h4,h5⟩:=hd;exact⟨h1,h2,h5,(ht y hy).2.2.2⟩
theorem wR.ok{n:Nd}(h:wR n):eR n:=by
 obtain⟨h1,h2,h3,h4⟩:=h;refine⟨h1,by omega,h3,λi e=>?_⟩;rcases h4 with h|h|h|h|h<;>rw[h]at e<;>cases e<;>decide
theorem rG{ns:List Int}{i:Int}(h0:0≤i)(h1:i<ns.length){P:Int→Prop}(hP:∀x∈ns,P x):∃x,atI (ns.map V.int) i=some (.int x)∧P x:=by
 obtain⟨x,hx,e⟩:=rC h0 h1;exact⟨x,e,hP x hx⟩
def top(i:Nat):Stmt:=PySem.Challenge.pw_treewatch_k42_whole_from_mark_to_mark.main.body.getD i (.Pass ⟨0,0,0,0⟩)
abbrev fq:Stmt:=gW (top 44) 0
abbrev ft:Stmt:=gW (top 44) 1
abbrev gP:Stmt:=gW (top 44) 2
abbrev fu:Stmt:=gW (top 44) 3
abbrev eS:Stmt:=gW (top 44) 4
abbrev qe:Stmt:=top 16
abbrev uS:Stmt:=top 17
abbrev qf:Stmt:=top 18
abbrev uT:Stmt:=top 19
abbrev uU:Stmt:=top 20
abbrev yT:Stmt:=top 21
abbrev yU:Stmt:=top 22
abbrev uV:Stmt:=top 23
abbrev uW:Stmt:=top 24
abbrev yV:Stmt:=top 25
abbrev yW:Stmt:=top 26
abbrev yX:Stmt:=top 27
abbrev cJ:Stmt:=top 29
abbrev cQ:Stmt:=top 30
abbrev aX:Stmt:=top 31
abbrev dY:Stmt:=top 32
abbrev eG:Stmt:=top 33
abbrev cC:Stmt:=top 34
abbrev yY:Stmt:=top 36
abbrev rH:Stmt:=top 37
abbrev uX:Stmt:=top 38
abbrev qg:Stmt:=top 39
abbrev uY:Stmt:=top 40
abbrev rJ:Stmt:=top 41
abbrev uZ:Stmt:=top 42
abbrev va:Stmt:=top 46
abbrev vb:Stmt:=top 47
abbrev iQ:Stmt:=top 48
abbrev vc:Stmt:=top 49
abbrev qh:Stmt:=top 51
abbrev cn:Stmt:=top 52
abbrev jd:Stmt:=top 53
abbrev fw:Stmt:=top 55
abbrev wZ:Stmt:=top 56
structure Txt(mg:Str→Option Value):Prop where
 isin:mg "isinstance"=none
 dict:mg "dict"=none
 len:mg "len"=none
 tuple:mg "tuple"=none
 list:mg "list"=none
 range:mg "range"=none
 sorted:mg "sorted"=none
 reversed:mg "reversed"=none
 ValueError:mg "ValueError"=none
 str:mg "str"=none
 set:mg "set"=none
 max:mg "max"=none
 min:mg "min"=none
 sum:mg "sum"=none
 zip:mg "zip"=none
 enumerate:mg "enumerate"=none
 all:mg "all"=none
 int:mg "int"=none
 bool:mg "bool"=none
 top:∃t,mg "TOP"=some (.int 0 t)
 letters:∃t,mg "LETTERS"=some (.str "abcdefghijklmnopqrstuvwxyz" t)
 longest:∃t,mg "LONGEST_NAME"=some (.int 5 t)
 greatest:∃t,mg "GREATEST_STAMP"=some (.int 999 t)
section
variable{P:Program}{w:World}{K:PySem.W.Frag}{mg:Str→Option Value}{base:Heap}
def oV:Sp:=λvs H Q _=>∃t f zs,vs=[.ref t,.int f]∧H t=some (.tup (aW zs))∧At H zs∧zs.length≤100∧∀fd dn l H',TW.Walk (nds zs) f dn fd []→H' l=some (.lst (dE fd))→Same H H'→Q (.ref l) H'
theorem ki:FnScope ["nodes","folder","members","node","found","pending","here"] ["nodes","folder"] (ai yU):=fsc
theorem yZ{f:Addr}{fd:FuncData}(F:Fun K "numbers_inside" "numbers_inside" yU f fd)(T:Txt mg):FnOk P w K mg base CX0 1 f fd ["nodes","folder"] oV:=by
 refine F.ok ki (λvs H Q E h=>?_) (λcdv A outer s H vs Q E hr h=>?_)
 ·obtain⟨t,f,zs,rfl,_⟩:=h;rfl
 ·obtain⟨t,f,zs,rfl,ht,hA,hl,k⟩:=h;refine⟨_,ag (aA (i:=2) ki.nd rfl (Or.inl rfl) tY)
   (ag (dQ PassesOwn.never rfl (cx (pv 0)) (aE (i:=3) ki.nd rfl (Or.inl rfl)) (ak (bq (eY plainAttrs_list PySem.F.slot_list_append PySem.F.type_list_append bv
     (eY plainAttrs_dict PySem.F.slot_dict_setdefault PySem.F.type_dict_setdefault lg (pv 2) (aa (au ar (pv 3) ah (λ_ _=>rfl)) (aa (bu ae) ae))) (aa (pv 3) ae)))))
   (ag (aA (i:=4) ki.nd rfl (Or.inl rfl) (bu ae))
   (ag (aA (i:=5) ki.nd rfl (Or.inl rfl) (bu (aa (pv 1) ae)))
   (ag (nV PassesOwn.never (tK (pv 5) (λ_=>rfl))
    (ag (aA (i:=6) ki.nd rfl (Or.inl rfl) (tZ (pv 2) (yq plainAttrs_list slot_list_pop type_list_pop yr (pv 5)) (bu ae) ⟨rfl,rfl,rfl,rfl⟩))
    (ak (dQ PassesOwn.never rfl (cR (pv 6)) (aE (i:=3) ki.nd rfl (Or.inl rfl))
     (ag (bq (eY plainAttrs_list PySem.F.slot_list_append PySem.F.type_list_append bv (pv 4) (aa (au ar (pv 3) ah (λ_ _=>rfl)) ae)))
     (ak (aP (am iy (au ar (pv 3) ah (λ_ _=>rfl)) cM (aw _)) (ak (bq (eY plainAttrs_list PySem.F.slot_list_append PySem.F.type_list_append bv (pv 5) (aa (au ar (pv 3) ah (λ_ _=>rfl)) ae)))) ay)))))))
   (ak (av (pv 4))))))),?_⟩
  refine λd hd=>?_;have z100:∀{n:Nat},n≤100→n<sizeLine:=λh=>ax (by omega);refine⟨_,rfl,t,rfl,⟨_,SqT.of (aT hd ht)⟩,lV (xs:=aW zs) (λi σ H'=>∃L kvs on,σ=[some (.ref t),some (.int f),some (.ref d),on,none,none,none]∧Mem H H' d L kvs (zs.take i) [])
   ⟨_,_,_,rfl,Mem.start hd⟩ (λi σ H' _ h=>?_) (λi x σ H' hx h=>?_) (λσ H' h=>?_)⟩
  ·obtain⟨_,_,_,_,m⟩:=h;exact SqT.of (m.same _ _ ht)
  ·obtain⟨L,kvs,on,rfl,m⟩:=h;obtain⟨z,gz,rfl⟩:=ce hx;have mz:=mem_of_getElem? gz;have ez:zs.take (i+1)=zs.take i++[z]:=by rw[take_succ,gz];rfl
   have hkl:kvs.length≤100:=by have:=m.len;rw[length_take]at this;omega
   refine⟨_,rfl,.inr (.inr (.inl ⟨rfl,.inl ⟨_,m.dict⟩⟩)),_,rfl,z.1,_,_,_,rfl,rfl,SqT.of (m.same _ _ (hA z mz)),at1 z.2,zero_le _,λq hq=>?_⟩;have m':=m.grow (af (o:=.lst []) hq);refine⟨d,kvs,.inl z.2.par,.ref q,rfl,rfl,m'.dict,z100 hkl,λv hv=>?_,λhn=>?_⟩
   ·rw[m.val]at hv
    by_cases h:z.2.par∈([]:List Int)∨ins (zs.take i) z.2.par=[]
    ·rw[if_pos h]at hv;cases hv
    ·rw[if_neg h]at hv;cases hv;have h2:ins (zs.take i) z.2.par≠[]:=λz=>h (.inr z);have a:=(m'.at' z.2.par (by simp) h2).1;refine⟨.inl ⟨rfl,_,SqL.of a⟩,_,rfl,_,_,_,rfl,rfl,a,?_,?_⟩
     ·refine z100 ?_;rw[be];exact le_trans (Sublist.length_le (Sublist.trans filter_sublist (take_sublist _ _))) hl
     ·refine⟨L,kvs,_,rfl,?_⟩;rw[ez];exact m'.hit h2
   ·rw[m.val]at hn
    by_cases h:z.2.par∈([]:List Int)∨ins (zs.take i) z.2.par=[]
    ·have h2:ins (zs.take i) z.2.par=[]:=h.resolve_left (by simp);have hqd:q≠d:=λe=>by rw[e,m.dict]at hq;cases hq
     have a:upd (upd H' q (.lst [])) d (.dK (cj kvs (Sum.inl z.2.par:Key) (.ref q))) q=some (.lst []):=by rw[aj hqd];exact ac
     refine⟨.inl ⟨rfl,_,SqL.of a⟩,_,rfl,q,[],_,rfl,rfl,a,z100 (zero_le _),?_⟩;have fr:=m.fresh (z:=z) h2 hq;rw[←ez]at fr;exact⟨_,_,_,rfl,fr⟩
    ·rw[if_neg h]at hn;cases hn
  ·obtain⟨L,kvs,on,rfl,m⟩:=h;rw[be,take_length]at m;refine⟨zero_le _,λpf hpf=>⟨_,rfl,ao (by simp),λpp hpp=>?_⟩⟩;have m1:=(m.grow (af (o:=.lst []) hpf)).grow (af (o:=.lst [.int f]) hpp);have hpf0:H pf=none:=m.same.free hpf;have hne:pp≠pf:=λe=>by rw[e,ac]at hpp;cases hpp
   have hpp0:H pp=none:=by rw[aj hne]at hpp;exact m.same.free hpp
   dsimp only[bj,rY];refine nX (λσ H'=>∃L kvs dn fd pd on oh,σ=[some (.ref t),some (.int f),some (.ref d),on,some (.ref pf),some (.ref pp),oh]∧pd.length≤fd.length+1∧Mem H H' d L kvs zs dn∧TW.Walk (nds zs) f dn fd pd∧H' pf=some (.lst (dE fd))∧H' pp=some (.lst (pd.map V.int)))
    (λσ H'=>2*(zs.length-lJ H' pf)+lJ H' pp) ⟨L,kvs,[],[],[f],_,_,rfl,le_refl _,m1,TW.Walk.start _ _,by rw[aj (Ne.symm hne),ac];rfl,ac⟩ (λσ H' h=>?_) ?_
   ·obtain⟨L,kvs,dn,fd,pd,on,oh,rfl,hpl,m,wk,ef,ep⟩:=h;refine⟨_,rfl,_,.inl ⟨_,SqL.of ep,rfl⟩,?_⟩
    by_cases hpd:pd=[]
    ·subst hpd;exact aI ⟨_,rfl,k fd dn pf H' wk ef m.same⟩
    ·obtain⟨pd',x,rfl⟩:∃pd' x,pd=pd'++[x]:=⟨pd.dropLast,pd.getLast hpd,(List.dropLast_concat_getLast hpd).symm⟩;have et:(!((pd'++[x]).map V.int).isEmpty)=true:=by simp
     rw[if_pos et];have elast:((pd'++[x]).map V.int)[((pd'++[x]).map V.int).length-1]?=some (.int x):=by simp
     have edrop:((pd'++[x]).map V.int).dropLast=pd'.map V.int:=by simp
     refine⟨_,rfl,d,rfl,.inl ⟨_,Rd.of m.dict⟩,_,rfl,.inl ⟨rfl,_,SqL.of ep⟩,pp,_,.int x,rfl,rfl,ep,elast,zero_le _,λq hq=>?_⟩;rw[edrop]at hq⊢;have m2:=(m.other (o:=.lst (pd'.map V.int)) ep hpp0).grow (af (o:=.lst []) hq);have hqp:q≠pp:=λe=>by rw[e,ac]at hq;cases hq
     have hqf:q≠pf:=λe=>by rw[e,aj (Ne.symm hne),ef]at hq;cases hq
     refine uN m2 ac λhl Hc kvs' hs m3 ehl eh hsub hkeep hnil=>?_;have df:pf≠d:=λe=>by have:=m.dict;rw[←e,ef]at this;cases this
     have dp:pp≠d:=λe=>by have:=m.dict;rw[←e,ep]at this;cases this
     have ef3:Hc pf=some (.lst (dE fd)):=by rw[hkeep pf df,aj (Ne.symm hqf),aj (Ne.symm hne)];exact ef
     have ep3:Hc pp=some (.lst (pd'.map V.int)):=by rw[hkeep pp dp,aj (Ne.symm hqp),ac]
     have hlf:hl≠pf:=by
      by_cases h:hs=[]
      ·rw[hnil h];exact hqf
      ·exact rB ef3 ehl h
     have hlp:hl≠pp:=by
      by_cases h:hs=[]
      ·rw[hnil h];exact hqp
      ·exact rB ep3 ehl h
     have wk':=wk.turn;rw[←eh]at wk';have hlen:=wk'.len;rw[length_append,aJ,aJ]at hlen;rw[length_append,length_singleton]at hpl;refine⟨_,rfl,hl,rfl,⟨_,SqL.of ehl⟩,gS (xs:=aW hs) (λj σ H'=>∃on,σ=[some (.ref t),some (.int f),some (.ref d),on,some (.ref pf),some (.ref pp),some (.ref hl)]∧Mem H H' d L kvs' zs (x::dn)∧H' hl=some (.lst (aW hs)) ∧
      H' pf=some (.lst (dE (fd++nds (hs.take j))))∧H' pp=some (.lst ((pd'++TW.aR (nds (hs.take j))).map V.int))) ⟨_,rfl,m3,ehl,by rw[ef3];simp[nds],by rw[ep3];simp[nds,TW.aR]⟩
      (λj σ H' _ h=>?_) (λj y σ H' hy h=>?_) (λσ H' h=>?_)⟩
     ·obtain⟨_,_,_,e,_⟩:=h;exact SqL.of e
     ·obtain⟨on,rfl,m4,e1,e2,e3⟩:=h;obtain⟨z,gz,rfl⟩:=ce hy;have mz:=hsub z (mem_of_getElem? gz);have ez:hs.take (j+1)=hs.take j++[z]:=by rw[take_succ,gz];rfl
      have l1:(dE (fd++nds (hs.take j))).length≤100:=by
       unfold dE;rw[length_map,length_map,length_append,aJ,length_take];omega
      have l2:((pd'++TW.aR (nds (hs.take j))).map V.int).length≤1000:=by
       have:=TW.dN (nds (hs.take j));rw[aJ,length_take]at this;rw[length_map,length_append];omega
      have g0:∀{Hx:Hp},Same H Hx→Hx z.1=some (.tup (vals z.2)):=λs=>s _ _ (hA z mz);have e4:dE (fd++nds (hs.take (j+1)))=dE (fd++nds (hs.take j))++[.int z.2.num]:=by rw[ez];simp[dE,nds]
      have m5:Mem H (upd H' pf (.lst (dE (fd++nds (hs.take j))++[.int z.2.num]))) d L kvs' zs (x::dn):=m4.other e2 hpf0;have e5:(upd H' pf (.lst (dE (fd++nds (hs.take j))++[.int z.2.num]))) hl=some (.lst (aW hs)):=by rw[aj hlf];exact e1
      have e6:(upd H' pf (.lst (dE (fd++nds (hs.take j))++[.int z.2.num]))) pp=some (.lst ((pd'++TW.aR (nds (hs.take j))).map V.int)):=by rw[aj hne];exact e3
      refine⟨_,rfl,.inl ⟨rfl,_,SqL.of e2⟩,_,rfl,z.1,_,_,_,rfl,rfl,SqT.of (g0 m4.same),at0 z.2,pf,_,_,rfl,rfl,e2,z100 l1,?_⟩;refine⟨_,rfl,z.1,_,_,_,rfl,rfl,SqT.of (g0 m5.same),at3 z.2,rfl,_,rfl,?_⟩;cases est:z.2.st with
      |none =>
       have e7:TW.aR (nds (hs.take (j+1)))=TW.aR (nds (hs.take j))++[z.2.num]:=by rw[ez];simp[TW.aR,nds,est]
       refine aQ ⟨_,rfl,.inl ⟨rfl,_,SqL.of e6⟩,_,rfl,z.1,_,_,_,rfl,rfl,SqT.of (g0 m5.same),at0 z.2,pp,_,_,rfl,rfl,e6,ax l2,?_⟩;refine⟨_,rfl,m5.other e6 hpp0,by rw[aj hlp];exact e5,by rw[aj (Ne.symm hne),ac,e4],?_⟩;rw[ac,e7];simp
      |some i =>
       have e7:TW.aR (nds (hs.take (j+1)))=TW.aR (nds (hs.take j)):=by rw[ez];simp[TW.aR,nds,est]
       refine aI ⟨_,rfl,m5,e5,by rw[ac,e4],?_⟩;rw[e6,e7]
     ·obtain⟨on,rfl,m4,e1,e2,e3⟩:=h;rw[be,take_length]at e2 e3;refine⟨⟨L,kvs',x::dn,_,_,on,_,rfl,?_,m4,wk',e2,e3⟩,?_⟩
      ·have:=TW.dN (nds hs);rw[aJ]at this;rw[length_append,length_append,aJ];omega
      show 2*(zs.length-lJ H' pf)+lJ H' pp<_;rw[il e2,il e3,il ef,il ep];have:=TW.dN (nds hs);rw[aJ]at this;simp only[dE,length_map,length_append,aJ,length_singleton];omega
   ·rintro σ H Q Q' mo ⟨v,e,k,tv,q⟩;exact⟨v,e,k,tv,mo _ _ q⟩
def kj:Sp:=λvs H Q _=>∃t zs,vs=[.ref t]∧H t=some (.tup (aW zs))∧At H zs∧zs.length≤100∧((nds zs).map (·.num)).Nodup∧∀d H',Same H H'→qd H' d zs→Q (.ref d) H'
theorem Am:FnScope ["tree"] ["tree"] (ai uW):=fsc
theorem za{f:Addr}{fd:FuncData}(F:Fun K "by_number" "by_number" uW f fd)(T:Txt mg):FnOk P w K mg base CX0 1 f fd ["tree"] kj:=by
 refine F.ok Am (λvs H Q E h=>?_) (λcdv A outer s H vs Q E hr h=>?_)
 ·obtain⟨t,zs,rfl,_⟩:=h;rfl
 ·obtain⟨t,zs,rfl,ht,hA,hl,hnd,k⟩:=h;refine⟨_,ak (av (aO (pX rfl) rfl T.dict boot_dict (aa (dA (N:=["node"]) (k:=1) (js:=[]) (g:=bj 0) rfl (cF rfl (by decide +kernel) (by decide +kernel) (by decide +kernel)) rfl (λi j x h=>by simp at h)
   (cx (pv 0)) (λs H fp=>aE (i:=0) (show(["node"]:List Str).Nodup by decide +kernel) rfl (Or.inl rfl) (Or.inr rfl))
   (λs H fp=>bn (aa (au (r:=dS K) ar (pv 0) ah (λ_ _=>rfl)) (aa (pv 0) ae)))) ae))),?_⟩
  refine⟨_,rfl,t,rfl,⟨_,SqT.of ht⟩,λp hp=>?_⟩;refine pZ (fr:=[]) zs.length (by omega) hp rfl (λi y H'=>∃q z,zs[i]?=some z∧y=.ref q∧q≠p∧H' q=some (.tup [.int z.2.num,.ref z.1])) (λi y H1 H2 h ex=>?_) (λi H' hi s1=>?_) (λH' s1=>?_) ?_ (λi H' x H2 hi s1 hpl hy=>?_) (λys H' s1 hp' hlen hys=>?_)
  ·obtain⟨q,z,e1,e2,e3,e4⟩:=h;exact⟨q,z,e1,e2,e3,ex q _ e3 e4⟩
  ·exact⟨_,_,SqT.of (s1 _ _ ht),dD (getElem?_eq_getElem hi)⟩
  ·exact⟨_,SqT.of (s1 _ _ ht),by rw[be];exact le_refl _⟩
  ·rintro _ _ _ _ m ⟨v1,b1,p1,xs,i1,v2,c1,c2,c3,c4,v3,b3,hz,q⟩;exact⟨v1,b1,p1,xs,i1,v2,c1,c2,c3,c4,v3,b3,hz,λl hl=>m _ _ (q l hl)⟩
  ·obtain⟨rfl,hx⟩:=hy;obtain⟨z,gz,rfl⟩:=ce (hx _ (SqT.of (s1 _ _ ht)));have mz:=mem_of_getElem? gz;refine⟨rfl,_,rfl,z.1,_,_,_,rfl,rfl,SqT.of (s1 _ _ (hA z mz)),at0 z.2,_,rfl,le2,λq hq=>⟨af hq,q,z,gz,rfl,dj hpl hq,ac⟩⟩
  ·obtain⟨as,e1,e2,e3⟩:=wV (g:=λz=>[.int z.2.num,.ref z.1]) hlen hys;have e4:as.length=zs.length:=by rw[←e1,length_map]
   have e5:(as.map λa=>((Sum.inl a.2.2.num:Key),V.ref a.2.1))=eQ zs:=by rw[←e1];unfold eQ;rw[map_map];rfl
   refine⟨p,as.map λa=>(a.1,(Sum.inl a.2.2.num:Key),V.ref a.2.1),rfl,?_,?_,?_,?_,λd o hd=>?_⟩
   ·rw[hp',e2,map_map,map_map,map_map];rfl
   ·intro z hz;obtain⟨a,ha,rfl⟩:=mem_map.mp hz;exact(e3 a ha).2
   ·rw[length_map];omega
   ·rw[map_map];have:(as.map ((λx:Addr×Key×V=>x.2.1)∘λa=>(a.1,(Sum.inl a.2.2.num:Key),V.ref a.2.1)))=((nds zs).map (·.num)).map (Sum.inl:Int→Key):=by
     rw[←e1];unfold nds;simp only[map_map];rfl
    rw[this];unfold Nodup at hnd⊢;rw[pairwise_map];exact hnd.imp λh e=>h (by injection e)
   ·refine k d _ (s1.trans (af hd)) ⟨o,?_⟩;rw[ac,map_map];exact congrArg (λx=>some (HO.frz o (.dK x))) e5
abbrev vd(mg:Str→Option Value)(base:Heap)(C:Addr):Prop:=PyProof.Rows.OwnCls "NoNode" C bmV "ValueError.__new__" mg base
def km(C:Addr):Sp:=λvs H Q E=>∃d k zs,vs=[.ref d,.int k]∧qd H d zs∧((nds zs).map (·.num)).Nodup∧0≤k∧k≤60∧(∀z∈zs,z.2.num=k→Q (.ref z.1) H)∧((∀z∈zs,z.2.num≠k)→E (.ref C) none H)
theorem An:FnScope ["nodes","number"] ["nodes","number"] (ai yV):=fsc
theorem zb{f C:Addr}{fd:FuncData}(F:Fun K "node_of" "node_of" yV f fd)(O:vd mg base C):FnOk P w K mg base (CX1 P w) 1 f fd ["nodes","number"] (km C):=by
 refine F.okX An (λvs H Q E h=>?_) (λcdv A outer s H vs Q E hr h=>?_)
 ·obtain⟨d,k,zs,rfl,_⟩:=h;rfl
 ·obtain⟨d,k,zs,rfl,hd,hnd,h0,h1,q1,q2⟩:=h;refine⟨_,ag (aP (fc (gh (bi hr) (pv 1) (pv 0))) (ak (cG bH O hr.hd rfl (xT (pv 1) (by decide +kernel)))) ay) (ak (av (cS (bi hr) (pv 0) (pv 1) (λ_ _=>rfl)))),?_⟩
  by_cases hk:∀z∈zs,z.2.num≠k
  ·refine⟨_,rfl,_,rfl,d,_,rfl,hd.not hk,_,rfl,?_⟩;exact aQ ⟨_,rfl,k,rfl,h0,h1,λy=>⟨ao (show 1≤1000 by decide),q2 hk⟩⟩
  ·obtain⟨z,hz,e⟩:∃z∈zs,z.2.num=k:=by
    by_cases h:∃z∈zs,z.2.num=k
    ·exact h
    ·exact absurd (λz hz e=>h ⟨z,hz,e⟩) hk
   subst e;refine⟨_,rfl,_,rfl,d,_,rfl,hd.get hnd hz,_,rfl,?_⟩;exact aI ⟨_,rfl,_,rfl,d,_,rfl,hd.get hnd hz,q1 z hz rfl⟩
def rK(C:Addr):Sp:=λvs H Q E=>∃t k zs,vs=[.ref t,.int k]∧Tre H t zs∧0≤k∧k≤60 ∧
 ((k=0∨∃z∈zs,z.2.num=k)→∀(ms:List Int)(l:Addr)(H':Hp),Same H H'→ms.Pairwise (λa b:Int=>a<b)→ms.length≤zs.length→(∀x,x∈ms↔∃n∈nds zs,n.num=x∧TW.Reach (nds zs) k n)→H' l=some (.lst (ms.map V.int))→Q (.ref l) H') ∧
 (k≠0→(∀z∈zs,z.2.num≠k)→∀H',Same H H'→E (.ref C) none H')
theorem Ao:FnScope ["tree","number"] ["tree","number"] (ai yX):=fsc
theorem zc{f C:Addr}{fd:FuncData}(F:Fun K "below" "below" yX f fd)(T:Txt mg)(CB:Has P w K mg base 1 "by_number" ["tree"] kj)(CN:dW P w K mg base 1 "node_of" ["nodes","number"] (km C))(CI:Has P w K mg base 1 "numbers_inside" ["nodes","folder"] oV):
  FnOk P w K mg base (CX1 P w) 2 f fd ["tree","number"] (rK C):=by
 obtain⟨fB,fdB,GB,mB,kB,bB⟩:=CB;obtain⟨fN,fdN,GN,mN,kN,bN⟩:=CN;obtain⟨fI,fdI,GI,mI,kI,bI⟩:=CI;obtain⟨tt,hT⟩:=T.top;refine F.okX Ao (λvs H Q E h=>?_) (λcdv A outer s H vs Q E hr h=>?_)
 ·obtain⟨t,k,zs,rfl,_⟩:=h;rfl
 ·obtain⟨t,k,zs,rfl,tr,h0,h1,q1,q2⟩:=h;have hnd:=bX tr.tr;have hl:=tr.len;refine⟨_,ag (aP (am eX (pv 1) (gf (v:=.int 0) rfl hT ⟨_,rfl⟩) (aw _))
    (ak (bq (al (E:=E) GN hr rfl mN kN bN .nil (dq bH) (aa (al GB hr rfl mB kB bB .nil aF (aa (pv 0) ae)) (aa (pv 1) ae))))) ay)
   (ak (av (aB iL rfl T.sorted boot_sorted (aa (al GI hr rfl mI kI bI .nil aF (aa (pv 0) (aa (pv 1) ae))) ae)))),?_⟩
  have main:∀H1,Same H H1→(k=0∨∃z∈zs,z.2.num=k)→yh (tCB (λxs H Q=>∃l,∃ns:List Int,xs=[.ref l]∧H l=some (.lst (ns.map V.int))∧ns.Nodup∧ns.length<64∧∀ms:List Int,ms.Perm ns→ms.Pairwise (λa b=>a<b)→∀p,H p=none→Q (.ref p) (upd H p (.lst (ms.map V.int))))
    (cL (qQ oV [] E0 (cL (fb 0) (cL (fb 1) gr))) gr)) {nx:=λ_ H'=>Q .non H',rt:=Q} [some (.ref t),some (.int k)] H1:=by
   intro H1 s1 hk;refine⟨_,rfl,_,rfl,t,k,zs,rfl,s1 _ _ tr.tup,tr.nod.same s1,by omega,λfd dn l H2 wk el s2=>?_⟩;have hfl:=wk.len;rw[aJ]at hfl;refine⟨l,fd.map (λn:Nd=>n.num),rfl,(show H2 l=some (.lst ((fd.map λn:Nd=>n.num).map V.int))from el),sQ tr.tr wk,by rw[length_map];omega,λms hp hs p hpn=>?_⟩;refine q1 hk ms p _ ((s1.trans s2).trans (af hpn)) hs (by rw[hp.length_eq,length_map];exact hfl) (λx=>?_) ac;rw[hp.mem_iff,mem_map];constructor
   ·rintro⟨n,hn,e⟩;have:=(wk.mem n).mp hn;exact⟨n,this.mem,e,this⟩
   ·rintro⟨n,_,e,hr⟩;exact⟨n,(wk.mem n).mpr hr,e⟩
  refine⟨_,rfl,rfl,_,rfl,?_⟩
  by_cases hk0:k=0
  ·have:decide (V.int k=V.int 0)=true:=by simp[hk0]
   rw[this];exact aI (main H (Same.refl _) (.inl hk0))
  ·have:decide (V.int k=V.int 0)=false:=by simp[hk0]
   rw[this];refine aQ ?_;refine⟨_,rfl,t,zs,rfl,tr.tup,tr.nod,by omega,hnd,λd H1 s1 nd1=>?_⟩;refine⟨_,rfl,d,k,zs,rfl,nd1,hnd,h0,h1,λz hz e=>main H1 s1 (.inr ⟨z,hz,e⟩),λhk=>q2 hk0 hk H1 s1⟩
def rL(CN CF:Addr):Sp:=λvs H Q E=>∃d p zs,vs=[.ref d,.int p]∧qd H d zs∧At H zs∧((nds zs).map (·.num)).Nodup∧0≤p∧p≤60 ∧
 (TW.ig (nds zs) p→Q .non H)∧(p≠0→(∀z∈zs,z.2.num≠p)→E (.ref CN) none H)∧(∀z∈zs,z.2.num=p→p≠0→z.2.st≠none→E (.ref CF) none H)
theorem Aq:FnScope ["nodes","number"] ["nodes","number"] (ai yW):=fsc
theorem zd{f CN CF:Addr}{fd:FuncData}(F:Fun K "check_folder" "check_folder" yW f fd)(T:Txt mg)(O:jb "NotFolder" mg base CF)(CNo:dW P w K mg base 1 "node_of" ["nodes","number"] (km CN)):
  FnOk P w K mg base (CX1 P w) 2 f fd ["nodes","number"] (rL CN CF):=by
 obtain⟨fN,fdN,GN,mN,kN,bN⟩:=CNo;obtain⟨tt,hT⟩:=T.top;refine F.okX Aq (λvs H Q E h=>?_) (λcdv A outer s H vs Q E hr h=>?_)
 ·obtain⟨d,p,zs,rfl,_⟩:=h;rfl
 ·obtain⟨d,p,zs,rfl,hd,hA,hnd,h0,h1,q1,q2,q3⟩:=h;refine⟨_,ak (aP (PW.pt (pw_and (am eX (pv 1) (gf (v:=.int 0) rfl hT ⟨_,rfl⟩) (aw _)) (pw_and1 (am lZ (au ar (al (E:=E) GN hr rfl mN kN bN .nil (dq bH) (aa (pv 0) (aa (pv 1) ae))) ah (λ_ _=>rfl)) cM (aw _)))))
   (ak (cG bH O hr.hd rfl (ic (dB (c:=100) (by decide +kernel) (iM (pv 1) (dB (c:=100) (by decide +kernel) jY))) (by decide)))) ay),?_⟩
  refine⟨_,rfl,rfl,_,rfl,?_⟩
  by_cases hp0:p=0
  ·have:decide (V.int p=V.int 0)=true:=by simp[hp0]
   rw[this];exact aI (aI (q1 (.inl hp0)))
  ·have:decide (V.int p=V.int 0)=false:=by simp[hp0]
   rw[this];refine aQ ⟨_,rfl,_,rfl,d,p,zs,rfl,hd,hnd,h0,h1,λz hz e=>?_,λhk=>q2 hp0 hk⟩;refine⟨z.1,_,_,_,rfl,rfl,SqT.of (hA z hz),at3 z.2,rfl,_,rfl,?_⟩;rw[rF];cases hs:z.2.st with
   |none=>exact aI (q1 (.inr ⟨z.2,bY hz,hs,e⟩))
   |some i=>exact aQ ⟨_,rfl,p,rfl,h0,h1,λy=>⟨ao (show 1≤1000 by decide),q3 z hz e hp0 (by rw[hs];simp)⟩⟩
def oW(CT:Addr):Sp:=λvs H Q E=>∃t k p nm zs,vs=[.ref t,.int k,.int p,.str nm]∧H t=some (.tup (aW zs))∧At H zs∧0≤p∧p≤60∧nm.length≤100 ∧
 ((∀z∈zs,z.2.num≠k→¬(z.2.par=p∧z.2.nm=nm))→Q .non H)∧(∀z∈zs,z.2.num≠k→z.2.par=p→z.2.nm=nm→E (.ref CT) none H)
theorem xW:FnScope ["tree","number","parent","name","node"] ["tree","number","parent","name"] (ai yY):=fsc
theorem ze{f CT:Addr}{fd:FuncData}(F:Fun K "check_place" "check_place" yY f fd)(O:jb "Taken" mg base CT):FnOk P w K mg base (CX1 P w) 1 f fd ["tree","number","parent","name"] (oW CT):=by
 refine F.okX xW (λvs H Q E h=>?_) (λcdv A outer s H vs Q E hr h=>?_)
 ·obtain⟨t,k,p,nm,zs,rfl,_⟩:=h;rfl
 ·obtain⟨t,k,p,nm,zs,rfl,ht,hA,h0,h1,hn,q1,q2⟩:=h;refine⟨_,ak (dQ (yP bH) rfl (cx (pv 0)) (aE (i:=4) xW.nd rfl (Or.inl rfl))
   (ak (aP (PW.pt (pw_and (am eX (au ar (pv 4) ah (λ_ _=>rfl)) (pv 1) (aw _)) (pw_and (am cD (au ar (pv 4) ah (λ_ _=>rfl)) (pv 2) (aw _)) (pw_and1 (am cD (au ar (pv 4) ah (λ_ _=>rfl)) (pv 3) (aw _))))))
    (ak (cG bH O hr.hd rfl (ic (dB (c:=100) (by decide +kernel) (iM (pv 2) (dB (c:=100) (by decide +kernel) (yO (pv 3) jY)))) (by decide)))) ay))),?_⟩
  refine⟨_,rfl,t,rfl,⟨_,SqT.of ht⟩,lV (xs:=aW zs) (λi σ H'=>(∃on,σ=[some (.ref t),some (.int k),some (.int p),some (.str nm),on])∧H'=H∧∀z∈zs.take i,z.2.num≠k→¬(z.2.par=p∧z.2.nm=nm)) ⟨⟨none,rfl⟩,rfl,by simp⟩ (λi σ H' _ h=>by rw[h.2.1];exact SqT.of ht) (λi x σ H' hx h=>?_) (λσ H' h=>?_)⟩
  ·obtain⟨⟨on,rfl⟩,rfl,hi⟩:=h;obtain⟨z,gz,rfl⟩:=ce hx;have mz:=mem_of_getElem? gz;have az:SqT K H' z.1 (vals z.2):=SqT.of (hA z mz);have et:zs.take (i+1)=zs.take i++[z]:=cB gz;have nxt:(z.2.num≠k→¬(z.2.par=p∧z.2.nm=nm))→∀y∈zs.take (i+1),y.2.num≠k→¬(y.2.par=p∧y.2.nm=nm):=λhz y hy=>by
    rw[et]at hy;rcases mem_append.mp hy with hy|hy
    ·exact hi y hy
    ·have e:y=z:=by simpa using hy
     subst e;exact hz
   refine⟨_,rfl,z.1,_,_,_,rfl,rfl,az,at0 z.2,_,rfl,rfl,_,rfl,?_⟩
   by_cases hk:z.2.num=k
   ·have e1:(!decide (V.int z.2.num=V.int k))=false:=by simp[hk]
    rw[e1];exact aI (aI ⟨⟨_,rfl⟩,rfl,nxt λh=>absurd hk h⟩)
   ·have e1:(!decide (V.int z.2.num=V.int k))=true:=by simp[hk]
    rw[e1];refine aQ ⟨_,rfl,z.1,_,_,_,rfl,rfl,az,at1 z.2,_,rfl,rfl,_,rfl,?_⟩
    by_cases hp:z.2.par=p
    ·have e2:decide (V.int z.2.par=V.int p)=true:=by simp[hp]
     rw[e2];refine aQ ⟨_,rfl,z.1,_,_,_,rfl,rfl,az,at2 z.2,_,rfl,rfl,_,rfl,?_⟩
     by_cases hm:z.2.nm=nm
     ·have e3:decide (V.str z.2.nm=V.str nm)=true:=by simp[hm]
      rw[e3];exact aQ ⟨_,rfl,p,rfl,h0,h1,_,rfl,nm,rfl,hn,λy=>⟨ao (show 1≤1000 by decide),q2 z mz hk hp hm⟩⟩
     ·have e3:decide (V.str z.2.nm=V.str nm)=false:=by simp[hm]
      rw[e3];exact aI ⟨⟨_,rfl⟩,rfl,nxt λ_ h=>hm h.2⟩
    ·have e2:decide (V.int z.2.par=V.int p)=false:=by simp[hp]
     rw[e2];exact aI (aI ⟨⟨_,rfl⟩,rfl,nxt λ_ h=>hp h.1⟩)
  ·obtain⟨_,rfl,hi⟩:=h;rw[be,take_length]at hi;exact q1 hi
def kn:Sp:=λvs H Q _=>∃t c n zs,vs=[.ref t,.ref c]∧H t=some (.tup (aW zs))∧At H zs∧H c=some (.tup (vals n))∧zs.length≤100∧∀us t' H',Same H H'→H' t'=some (.tup (aW us))→At H' us→nds us=(nds zs).map (TW.put n)→Q (.ref t') H'
theorem zf:FnScope ["tree","changed"] ["tree","changed"] (ai rH):=fsc
theorem xa{f:Addr}{fd:FuncData}(F:Fun K "with_node" "with_node" rH f fd)(T:Txt mg):FnOk P w K mg base CX0 1 f fd ["tree","changed"] kn:=by
 refine F.ok zf (λvs H Q E h=>?_) (λcdv A outer s H vs Q E hr h=>?_)
 ·obtain⟨t,c,n,zs,rfl,_⟩:=h;rfl
 ·obtain⟨t,c,n,zs,rfl,ht,hA,hc,hl,q⟩:=h;refine⟨_,ak (av (aO bh rfl T.tuple rfl (aa (dA (N:=["node","changed"]) (cl:=[("changed",s.heap.objs.size+1)]) (k:=1) (js:=[1]) (g:=bj 0) rfl
    (LcOk.mk' ["changed"] rfl rfl (by decide +kernel) (by decide +kernel) ?hcl rfl (by decide +kernel)) rfl ?hj (cx (pv 0)) (λs H fp=>aE (i:=0) (show(["node","changed"]:List Str).Nodup by decide +kernel) rfl (Or.inl rfl) (Or.inr rfl))
    (λs H fp=>nR (am cD (au (r:=dS K) ar (pv 0) ah (λ_ _=>rfl)) (au (r:=dS K) ar (pv 1) ah (λ_ _=>rfl)) (aw _)) (pv 1) (pv 0))) ae))),?_⟩
  case hcl =>
   intro y hy;rcases mem_cons.mp hy with e|hy
   ·rw[e];rfl
   ·cases hy
  case hj =>
   intro i j x h1 h2
   match i,h1,h2 with
   |0,h1,h2 =>
    cases h1;cases h2;exact⟨rfl,Or.inr (Or.inl rfl),(show((ai rH).names.lookup ("changed":Str)≠some NameKind.local)by decide +kernel),by first|exact Or.inl rfl|exact Or.inr rfl⟩
   |i+1,h1,h2=>simp at h1
  refine⟨_,rfl,t,rfl,⟨_,SqT.of ht⟩,λp hp=>?_⟩;refine dL (fr:=[some (.ref c)]) zs (λz=>V.ref z.1) (by omega) hp (dJ (by rw[cm];exact SqT.of ht)) rfl (λz y H'=>y=.ref (if z.2.num=n.num then c else z.1)) (λz y H H' h _=>h) (λz H' k mz s1 _ hk=>?_) (λys H' s1 hp' hys=>?_)
  ·refine⟨_,rfl,z.1,_,_,_,rfl,rfl,SqT.of (s1 _ _ (hA z mz)),at0 z.2,_,rfl,c,_,_,_,rfl,rfl,SqT.of (s1 _ _ hc),at0 n,rfl,_,rfl,?_⟩
   by_cases e:z.2.num=n.num
   ·have e1:decide (V.int z.2.num=V.int n.num)=true:=by simp[e]
    rw[e1];exact aQ ⟨_,rfl,hk _ H' (Same.refl _) (by rw[if_pos e])⟩
   ·have e1:decide (V.int z.2.num=V.int n.num)=false:=by simp[e]
    rw[e1];exact aI ⟨_,rfl,hk _ H' (Same.refl _) (by rw[if_neg e])⟩
  ·have ey:=ck (f:=λz:Addr×Nd=>V.ref (if z.2.num=n.num then c else z.1)) hys (λz y _ h=>h);refine⟨p,_,rfl,.inl ⟨SqL.of hp',λl hl'=>?_⟩⟩;have er:aW (zs.map λz=>if z.2.num=n.num then (c,n)else z)=ys:=by
    rw[ey,←cm,map_map];apply map_congr_left;intro z _;show V.ref (if z.2.num=n.num then (c,n)else z).1=_
    by_cases e:z.2.num=n.num
    ·rw[if_pos e,if_pos e]
    ·rw[if_neg e,if_neg e]
   refine q (zs.map λz=>if z.2.num=n.num then (c,n)else z) l _ (s1.trans (af hl')) (by rw[er];exact ac) (λy hy=>?_) ?_
   ·obtain⟨z,mz,rfl⟩:=mem_map.mp hy
    by_cases e:z.2.num=n.num
    ·rw[if_pos e];exact(s1.trans (af hl')) _ _ hc
    ·rw[if_neg e];exact(s1.trans (af hl')) _ _ (hA z mz)
   ·unfold nds;rw[map_map,map_map];apply map_congr_left;intro z _;show(if z.2.num=n.num then (c,n)else z).2=TW.put n z.2
    unfold TW.put
    by_cases e:z.2.num=n.num
    ·rw[if_pos e,if_pos e]
    ·rw[if_neg e,if_neg e]
def qi(cls:TW.Wd→Addr):Sp:=λvs H Q E=>∃t n p nm st zs,vs=[.ref t,.int n,.int p,.str nm,stV st]∧Tre H t zs∧zs.length≤29∧dX (.make n p nm st)∧Outs H (nds zs) (.make n p nm st) cls Q E
theorem ve:FnScope ["tree","number","parent","name","stamp","nodes"] ["tree","number","parent","name","stamp"] (ai uX):=fsc
theorem xb{f:Addr}{fd:FuncData}{cls:TW.Wd→Addr}(F:Fun K "make" "make" uX f fd)(T:Txt mg)(O:wX mg base cls)(CB:Has P w K mg base 1 "by_number" ["tree"] kj)(CF:dW P w K mg base 2 "check_folder" ["nodes","number"] (rL (cls .noNode) (cls .notFolder)))(CL:dW P w K mg base 1 "check_place" ["tree","number","parent","name"] (oW (cls .taken))):FnOk P w K mg base (CX1 P w) 3 f fd ["tree","number","parent","name","stamp"] (qi cls):=by
 obtain⟨fB,fdB,GB,mB,kB,bB⟩:=CB;obtain⟨fF,fdF,GF,mF,kF,bF⟩:=CF;obtain⟨fL,fdL,GL,mL,kL,bL⟩:=CL;refine F.okX ve (λvs H Q E h=>?_) (λcdv A outer s H vs Q E hr h=>?_)
 ·obtain⟨t,n,p,nm,st,zs,rfl,_⟩:=h;rfl
 ·obtain⟨t,n,p,nm,st,zs,rfl,tr,hl,⟨hn1,hn2,hp1,hp2,hnm⟩,o⟩:=h;have hr1:Room 1 _:=hr.mono (by decide);have hnd:=bX tr.tr;refine⟨_,ag (aA (i:=5) ve.nd rfl (Or.inl rfl) (al GB hr1 rfl mB kB bB .nil aF (aa (pv 0) ae)))
   (ag (aP (fc (my (bi hr) (pv 1) (pv 5))) (ak (cG bH (O .known) hr.hd rfl (xT (pv 1) (by decide +kernel)))) ay)
   (ag (bq (al (E:=E) GF hr rfl mF kF bF .nil (dq bH) (aa (pv 5) (aa (pv 2) ae))))
   (ag (bq (al (E:=E) GL hr1 rfl mL kL bL .nil (dq bH) (aa (pv 0) (aa (pv 1) (aa (pv 2) (aa (pv 3) ae))))))
   (ak (av (aO bh rfl T.tuple rfl (aa (aB cE rfl T.sorted boot_sorted (aa (aD (uv.or gU) (pv 0) (bn (aa (bn (aa (pv 1) (aa (pv 2) (aa (pv 3) (aa (pv 4) ae))))) ae))) ae)) ae))))))),?_⟩
  refine⟨_,rfl,t,zs,rfl,tr.tup,tr.nod,by omega,hnd,λd H1 s1 nd1=>?_⟩
  by_cases hk:∃z∈zs,z.2.num=n
  ·obtain⟨z,hz,e⟩:=hk;subst e;exact⟨_,rfl,_,rfl,d,_,rfl,nd1.get hnd hz,_,rfl,aQ ⟨_,rfl,_,rfl,by omega,hn2,λy=>⟨ao (show 1≤1000 by decide),o.no .known H1 s1 (.mKnown (eF hz rfl))⟩⟩⟩
  ·have hno:=cI hk;refine⟨_,rfl,_,rfl,d,_,rfl,nd1.not (λz hz e=>hk ⟨z,hz,e⟩),_,rfl,aI ?_⟩;refine⟨_,rfl,_,rfl,d,p,zs,rfl,nd1,tr.nod.same s1,hnd,hp1,hp2,λhF=>?_,λh0 hz=>o.no .noNode H1 s1 (.mNo hno h0 (cI λ⟨z,hz',e⟩=>hz z hz' e)),λz hz e h0 hs=>o.no .notFolder H1 s1 (.mFile hno h0 (bY hz) e hs)⟩;refine⟨_,rfl,_,rfl,_,rfl,_,rfl,t,n,p,nm,zs,rfl,s1 _ _ tr.tup,tr.nod.same s1,hp1,hp2,hnm,λhfree=>?_,λz hz _ e1 e2=>o.no .taken H1 s1 (.mTaken hno hF (bY hz) e1 e2)⟩;refine⟨_,rfl,_,rfl,_,rfl,_,rfl,_,rfl,(show 4≤sizeLine from ao (by decide)),λq hq=>⟨(show 1≤sizeLine from ao (by decide)),λc hc=>?_⟩⟩;have s2:Same H1 (upd (upd H1 q (.tup [.int n,.int p,.str nm,stV st])) c (.tup [.ref q])):=(af hq).trans (af hc);have gq:upd (upd H1 q (.tup [.int n,.int p,.str nm,stV st])) c (.tup [.ref q]) q=some (.tup (vals ⟨n,p,nm,st⟩)):=aT hc ac;have gc:upd (upd H1 q (.tup [.int n,.int p,.str nm,stV st])) c (.tup [.ref q]) c=some (.tup [.ref q]):=ac;generalize upd (upd H1 q (.tup [.int n,.int p,.str nm,stV st])) c (.tup [.ref q])=H2 at s2 gq gc⊢;have fin:∀(l:Addr)(H3:Hp),Same H2 H3→SqT K H3 l (aW (zs++[(q,⟨n,p,nm,st⟩)]))→tCB (λxs H Q=>∃l,∃zs:List ia,xs=[.ref l]∧(SqL K H l ((zs.map (·.1)).map V.ref)∨SqT K H l ((zs.map (·.1)).map V.ref))∧(∀z∈zs,H z.1=some (.tup (.int z.2.1::z.2.2)))∧(zs.map (·.2.1)).Nodup∧zs.length<64 ∧
     ∀zs':List ia,zs'.Perm zs→zs'.Pairwise (λa b=>a.2.1<b.2.1)→∀p,H p=none→Q (.ref p) (upd H p (.lst ((zs'.map (·.1)).map V.ref)))) (cL (tC (.ref l)) gr) [] H3 (λx H1=>(λxs H Q=>∃p ys,xs=[V.ref p]∧((SqL K H p ys∧∀l,H l=none→Q (V.ref l) (upd H l (.tup ys)))∨(SqT K H p ys∧Q (.ref p) H))) [x] H1 Q):=by
    intro l H3 s3 hl3;have s123:=(s1.trans s2).trans s3;refine jc (.inr hl3) (λz hz=>?_) ?_ (by rw[length_append];simp;omega) (λus t' H' s' ht' hA' hp hrise=>?_)
    ·rcases mem_append.mp hz with h|h
     ·exact s123 _ _ (tr.nod z h)
     ·have e:z=(q,⟨n,p,nm,st⟩):=by simpa using h
      subst e;exact s3 _ _ gq
    ·have e:(nds (zs++[(q,(⟨n,p,nm,st⟩:Nd))])).map (·.num)=(nds zs).map (·.num)++[n]:=by simp[nds]
     rw[e,nodup_append];refine⟨hnd,by simp,λa ha b hb e=>?_⟩;have eb:b=n:=by simpa using hb
     obtain⟨m,hm,em⟩:=mem_map.mp ha;exact hno ⟨m,hm,by rw[em,e,eb]⟩
    ·refine o.ok us t' H' (s123.trans s') ht' hA' (.made hno hF (λm hm=>?_) ?_ hrise)
     ·obtain⟨z,hz,rfl⟩:=fo hm;exact hfree z hz λe=>hno ⟨z.2,hm,e⟩
     ·have:(nds us).Perm (nds (zs++[(q,⟨n,p,nm,st⟩)])):=hp.map _;refine this.trans ?_;unfold nds;rw[map_append];exact List.perm_append_comm
   by_cases hz:zs=[]
   ·subst hz;exact .inl ⟨t,c,_,rfl,rfl,SqT.of ((s1.trans s2) _ _ tr.tup),SqT.of gc,fin c H2 (Same.refl _) (SqT.of gc)⟩
   ·refine .inr ⟨t,c,_,_,rfl,rfl,SqT.of ((s1.trans s2) _ _ tr.tup),SqT.of gc,?_,?_,λh=>absurd h (cons_ne_nil _ _),λ_ l hl3=>fin l _ (af hl3) (by rw[iO];exact SqT.of ac)⟩
    ·intro e;exact hz (uM e)
    ·rw[be];exact ao (by show zs.length+1≤1000;omega)
def nq(cls:TW.Wd→Addr):Sp:=λvs H Q E=>∃t n st zs,vs=[.ref t,.int n,.int st]∧Tre H t zs∧dX (.write n st)∧Outs H (nds zs) (.write n st) cls Q E
theorem rM:FnScope ["tree","number","stamp","node"] ["tree","number","stamp"] (ai qg):=fsc
theorem vf{f:Addr}{fd:FuncData}{cls:TW.Wd→Addr}(F:Fun K "write" "write" qg f fd)(O:wX mg base cls)(CB:Has P w K mg base 1 "by_number" ["tree"] kj)(CN:dW P w K mg base 1 "node_of" ["nodes","number"] (km (cls .noNode)))(CW:Has P w K mg base 1 "with_node" ["tree","changed"] kn):FnOk P w K mg base (CX1 P w) 2 f fd ["tree","number","stamp"] (nq cls):=by
 obtain⟨fB,fdB,GB,mB,kB,bB⟩:=CB;obtain⟨fN,fdN,GN,mN,kN,bN⟩:=CN;obtain⟨fW,fdW,GW,mW,kW,bW⟩:=CW;refine F.okX rM (λvs H Q E h=>?_) (λcdv A outer s H vs Q E hr h=>?_)
 ·obtain⟨t,n,st,zs,rfl,_⟩:=h;rfl
 ·obtain⟨t,n,st,zs,rfl,tr,⟨hn1,hn2⟩,o⟩:=h;have hnd:=bX tr.tr;have hl:=tr.len;refine⟨_,ag (aA (i:=3) rM.nd rfl (Or.inl rfl) (al (E:=E) GN hr rfl mN kN bN .nil (dq bH) (aa (al GB hr rfl mB kB bB .nil aF (aa (pv 0) ae)) (aa (pv 1) ae))))
   (ag (aP (am iy (au ar (pv 3) ah (λ_ _=>rfl)) cM (aw _)) (ak (cG bH (O .notFile) hr.hd rfl (ic (dB (c:=100) (by decide +kernel) (iM (pv 1) (dB (c:=100) (by decide +kernel) jY))) (by decide)))) ay)
   (ak (av (al GW hr rfl mW kW bW .nil aF (aa (pv 0) (aa (bn (aa (pv 1) (aa (au ar (pv 3) ah (λ_ _=>rfl)) (aa (au ar (pv 3) ah (λ_ _=>rfl)) (aa (pv 2) ae))))) ae)))))),?_⟩
  refine⟨_,rfl,t,zs,rfl,tr.tup,tr.nod,by omega,hnd,λd H1 s1 nd1=>?_⟩;refine⟨_,rfl,d,n,zs,rfl,nd1,hnd,by omega,hn2,λz hz e=>?_,λhk=>o.no .noNode H1 s1 (.wNo (cI λ⟨z,hz,e⟩=>hk z hz e))⟩;subst e;have az:SqT K H1 z.1 (vals z.2):=SqT.of (s1 _ _ (tr.nod z hz));refine⟨_,rfl,z.1,_,_,_,rfl,rfl,az,at3 z.2,rfl,_,rfl,?_⟩;cases hs:z.2.st with
  |none=>exact aQ ⟨_,rfl,_,rfl,by omega,hn2,λy=>⟨ao (show 1≤1000 by decide),o.no .notFile H1 s1 (.wFold (bY hz) rfl hs)⟩⟩
  |some i =>
   refine aI ⟨_,rfl,_,rfl,_,rfl,z.1,_,_,_,rfl,rfl,az,at1 z.2,_,rfl,z.1,_,_,_,rfl,rfl,az,at2 z.2,_,rfl,(show 4≤sizeLine from ao (by decide)),λc hc=>?_⟩;have s2:=s1.trans (af (o:=.tup [.int z.2.num,.int z.2.par,.str z.2.nm,.int st]) hc);refine⟨t,c,⟨z.2.num,z.2.par,z.2.nm,some st⟩,zs,rfl,s2 _ _ tr.tup,tr.nod.same s2,ac,by omega,λus t' H' s' ht' hA' e=>o.ok us t' H' (s2.trans s') ht' hA' ?_⟩;rw[e];exact .wrote (bY hz) rfl (by rw[hs];simp)
def qj(cls:TW.Wd→Addr):Sp:=λvs H Q E=>∃t n p nm zs,vs=[.ref t,.int n,.int p,.str nm]∧Tre H t zs∧dX (.move n p nm)∧Outs H (nds zs) (.move n p nm) cls Q E
theorem qk:FnScope ["tree","number","parent","name","nodes","node"] ["tree","number","parent","name"] (ai uY):=fsc
theorem xc{f:Addr}{fd:FuncData}{cls:TW.Wd→Addr}(F:Fun K "move" "move" uY f fd)(O:wX mg base cls)(CB:Has P w K mg base 1 "by_number" ["tree"] kj)(CN:dW P w K mg base 1 "node_of" ["nodes","number"] (km (cls .noNode)))(CF:dW P w K mg base 2 "check_folder" ["nodes","number"] (rL (cls .noNode) (cls .notFolder)))(CE:dW P w K mg base 2 "below" ["tree","number"] (rK (cls .noNode)))(CL:dW P w K mg base 1 "check_place" ["tree","number","parent","name"] (oW (cls .taken)))(CW:Has P w K mg base 1 "with_node" ["tree","changed"] kn):FnOk P w K mg base (CX1 P w) 3 f fd ["tree","number","parent","name"] (qj cls):=by
 obtain⟨fB,fdB,GB,mB,kB,bB⟩:=CB;obtain⟨fN,fdN,GN,mN,kN,bN⟩:=CN;obtain⟨fF,fdF,GF,mF,kF,bF⟩:=CF;obtain⟨fE,fdE,GE,mE,kE,bE⟩:=CE;obtain⟨fL,fdL,GL,mL,kL,bL⟩:=CL;obtain⟨fW,fdW,GW,mW,kW,bW⟩:=CW;refine F.okX qk (λvs H Q E h=>?_) (λcdv A outer s H vs Q E hr h=>?_)
 ·obtain⟨t,n,p,nm,zs,rfl,_⟩:=h;rfl
 ·obtain⟨t,n,p,nm,zs,rfl,tr,⟨hn1,hn2,hp1,hp2,hnm⟩,o⟩:=h;have hnd:=bX tr.tr;have hl:=tr.len;have hT:=tr.tr;have hr1:Room 1 _:=hr.mono (by decide);refine⟨_,ag (aA (i:=4) qk.nd rfl (Or.inl rfl) (al GB hr1 rfl mB kB bB .nil aF (aa (pv 0) ae)))
   (ag (aA (i:=5) qk.nd rfl (Or.inl rfl) (al (E:=E) GN hr1 rfl mN kN bN .nil (dq bH) (aa (pv 4) (aa (pv 1) ae))))
   (ag (bq (al (E:=E) GF hr rfl mF kF bF .nil (dq bH) (aa (pv 4) (aa (pv 2) ae))))
   (ag (aP (PW.pt (pw_or (am cD (pv 2) (pv 1) (aw _)) (pw_or1 (am sm (pv 2) (al (E:=E) GE hr rfl mE kE bE .nil (dq bH) (aa (pv 0) (aa (pv 1) ae))) rfl))))
    (ak (cG bH (O .inside) hr.hd rfl (ic (dB (c:=100) (by decide +kernel) (iM (pv 2) (dB (c:=100) (by decide +kernel) (iM (pv 1) (dB (c:=100) (by decide +kernel) jY))))) (by decide)))) ay)
   (ag (bq (al (E:=E) GL hr1 rfl mL kL bL .nil (dq bH) (aa (pv 0) (aa (pv 1) (aa (pv 2) (aa (pv 3) ae))))))
   (ak (av (al GW hr1 rfl mW kW bW .nil aF (aa (pv 0) (aa (bn (aa (pv 1) (aa (pv 2) (aa (pv 3) (aa (au ar (pv 5) ah (λ_ _=>rfl)) ae))))) ae))))))))),?_⟩
  refine⟨_,rfl,t,zs,rfl,tr.tup,tr.nod,by omega,hnd,λd H1 s1 nd1=>?_⟩;refine⟨_,rfl,_,rfl,d,n,zs,rfl,nd1,hnd,by omega,hn2,λz hz e=>?_,λhk=>o.no .noNode H1 s1 (.vNo (cI λ⟨z,hz,e⟩=>hk z hz e))⟩;subst e;have hh:TW.cH (nds zs) z.2.num:=eF hz rfl;refine⟨_,rfl,_,rfl,d,p,zs,rfl,nd1,tr.nod.same s1,hnd,hp1,hp2,λhF=>?_,λh0 hk=>o.no .noNode H1 s1 (.vNoP hh h0 (cI λ⟨y,hy,e⟩=>hk y hy e)),λy hy e h0 hs=>o.no .notFolder H1 s1 (.vFile hh h0 (bY hy) e hs)⟩;have insd:∀H2,Same H1 H2→p≠0→TW.Und (nds zs) z.2.num p→∀y:Str,E (.ref (cls .inside)) none H2:=λH2 s2 h0 hu _=>o.no .inside H2 (s1.trans s2) (.vIn hh hF h0 hu);have rest:∀H2,Same H1 H2→(p≠0→¬TW.Und (nds zs) z.2.num p)→rY (xO (qQ (oW (cls .taken)) [] E (cL (fb 0) (cL (fb 1) (cL (fb 2) (cL (fb 3) gr)))))) (yh (qQ kn [] E0 (cL (fb 0) (cL (zX (cL (fb 1) (cL (fb 2) (cL (fb 3) (cL (tOp (dS K) (fb 5) (tC (.int 3))) gr))))) gr))))
    {nx:=λ_ H'=>Q .non H',rt:=Q} [some (.ref t),some (.int z.2.num),some (.int p),some (.str nm),some (.ref d),some (.ref z.1)] H2:=by
   intro H2 s2 hu;have s12:=s1.trans s2;refine⟨_,rfl,_,rfl,_,rfl,_,rfl,t,z.2.num,p,nm,zs,rfl,s12 _ _ tr.tup,tr.nod.same s12,hp1,hp2,hnm,λhfree=>?_,λy hy hne e1 e2=>o.no .taken H2 s12 (.vTaken hh hF hu (bY hy) hne e1 e2)⟩;refine⟨_,rfl,_,rfl,_,rfl,_,rfl,_,rfl,z.1,_,_,_,rfl,rfl,SqT.of (s12 _ _ (tr.nod z hz)),at3 z.2,(show 4≤sizeLine from ao (by decide)),λc hc=>?_⟩;have s3:=s12.trans (af (o:=.tup [.int z.2.num,.int p,.str nm,stV z.2.st]) hc);refine⟨t,c,⟨z.2.num,p,nm,z.2.st⟩,zs,rfl,s3 _ _ tr.tup,tr.nod.same s3,ac,by omega,λus t' H' s' ht' hA' e=>o.ok us t' H' (s3.trans s') ht' hA' ?_⟩;rw[e];refine .moved (bY hz) rfl hF hu λm hm hne h=>?_;obtain⟨y,hy,rfl⟩:=fo hm;exact hfree y hy hne h
  refine⟨_,rfl,_,rfl,rfl,_,rfl,?_⟩
  by_cases hpn:p=z.2.num
  ·have e1:decide (V.int p=V.int z.2.num)=true:=by simp[hpn]
   rw[e1];exact aQ (aQ ⟨_,rfl,p,rfl,hp1,hp2,_,rfl,_,rfl,by omega,hn2,λy=>⟨ao (show 1≤1000 by decide),insd H1 (Same.refl _) (by omega) (by rw[hpn];exact .here) y⟩⟩)
  ·have e1:decide (V.int p=V.int z.2.num)=false:=by simp[hpn]
   rw[e1];refine aI ⟨_,rfl,_,rfl,_,rfl,t,z.2.num,zs,rfl,tr.same s1,by omega,hn2,λ_ ms l H2 s2 hms _ hm hl2=>?_,λh0 hk=>absurd rfl (hk z hz)⟩;refine⟨l,_,rfl,.inl (SqL.of hl2),rfl,sM ms,_,rfl,?_⟩;show if (inV (.int p) (ms.map V.int))=true then _ else _
   rw[wN]
   by_cases hin:p∈ms
   ·rw[decide_eq_true hin];obtain⟨m,hm1,hm2,hm3⟩:=(hm p).mp hin;have hu:TW.Und (nds zs) z.2.num p:=by rw[←hm2];exact((TW.eE hT hn1 hm1).mp hm3).2
    have h0:p≠0:=by have:=hT.pos m hm1;omega
    exact aQ ⟨_,rfl,p,rfl,hp1,hp2,_,rfl,_,rfl,by omega,hn2,λy=>⟨ao (show 1≤1000 by decide),insd H2 s2 h0 hu y⟩⟩
   ·rw[decide_eq_false hin];refine aI (rest H2 s2 λh0 hu=>?_);rcases hF with e|⟨m,hm1,hm2,hm3⟩
    ·exact h0 e
    ·refine hin ((hm p).mpr ⟨m,hm1,hm3,(TW.eE hT hn1 hm1).mpr ⟨by rw[hm3];exact hpn,by rw[hm3];exact hu⟩⟩)
def ql(cls:TW.Wd→Addr):Sp:=λvs H Q E=>∃t n zs,vs=[.ref t,.int n]∧Tre H t zs∧dX (.drop n)∧Outs H (nds zs) (.drop n) cls Q E
theorem vg:FnScope ["tree","number","gone"] ["tree","number"] (ai rJ):=fsc
def oX(n:Int)(ms:List Int)(m:Nd):Bool:=!decide (m.num=n∨m.num∈ms)
theorem xf{f:Addr}{fd:FuncData}{cls:TW.Wd→Addr}(F:Fun K "drop" "drop" rJ f fd)(T:Txt mg)(CB:Has P w K mg base 1 "by_number" ["tree"] kj)(CN:dW P w K mg base 1 "node_of" ["nodes","number"] (km (cls .noNode)))(CE:dW P w K mg base 2 "below" ["tree","number"] (rK (cls .noNode))):FnOk P w K mg base (CX1 P w) 3 f fd ["tree","number"] (ql cls):=by
 obtain⟨fB,fdB,GB,mB,kB,bB⟩:=CB;obtain⟨fN,fdN,GN,mN,kN,bN⟩:=CN;obtain⟨fE,fdE,GE,mE,kE,bE⟩:=CE;refine F.okX vg (λvs H Q E h=>?_) (λcdv A outer s H vs Q E hr h=>?_)
 ·obtain⟨t,n,zs,rfl,_⟩:=h;rfl
 ·obtain⟨t,n,zs,rfl,tr,⟨hn1,hn2⟩,o⟩:=h;have hnd:=bX tr.tr;have hl:=tr.len;have hT:=tr.tr;have hr1:Room 1 _:=hr.mono (by decide);refine⟨_,ag (bq (al (E:=E) GN hr1 rfl mN kN bN .nil (dq bH) (aa (al GB hr1 rfl mB kB bB .nil aF (aa (pv 0) ae)) (aa (pv 1) ae))))
   (ag (aA (i:=2) vg.nd rfl (Or.inr rfl) (aO (dI rfl) rfl T.dict boot_dict (aa (dA (N:=["inner"]) (k:=1) (js:=[]) (g:=bj 0) rfl (cF rfl (by decide +kernel) (by decide +kernel) (by decide +kernel)) rfl (λi j x h=>by simp at h)
    (cR (al (E:=E) GE hr rfl mE kE bE .nil (dq bH) (aa (pv 0) (aa (pv 1) ae)))) (λs H fp=>aE (i:=0) (show(["inner"]:List Str).Nodup by decide +kernel) rfl (Or.inl rfl) (Or.inr rfl))
    (λs H fp=>bn (aa (pv 0) (aa eW ae)))) ae)))
   (ag (jm (bi hr) (pv 2) (pv 1) eW rfl)
   (ak (av (aO bh rfl T.tuple rfl (aa (iE (N:=["node","gone"]) (cl:=[("gone",s.heap.objs.size+1)]) (k:=1) (js:=[2]) (g:=bj 0) rfl
    (LcOk.mk' ["gone"] rfl rfl (by decide +kernel) (by decide +kernel) ?hcl rfl (by decide +kernel)) rfl ?hj (cx (pv 0)) (λs H fp=>aE (i:=0) (show(["node","gone"]:List Str).Nodup by decide +kernel) rfl (Or.inl rfl) (Or.inr rfl))
    (λs H fp=>fc (gh (bi hr) (au (r:=dS K) ar (pv 0) ah (λ_ _=>rfl)) (pv 1))) (λs H fp=>pv 0)) ae)))))),?_⟩
  case hcl =>
   intro y hy;rcases mem_cons.mp hy with e|hy
   ·rw[e];rfl
   ·cases hy
  case hj =>
   intro i j x h1 h2
   match i,h1,h2 with
   |0,h1,h2 =>
    cases h1;cases h2;exact⟨rfl,Or.inr (Or.inl rfl),(show((ai rJ).names.lookup ("gone":Str)≠some NameKind.local)by decide +kernel),by first|exact Or.inl rfl|exact Or.inr rfl⟩
   |i+1,h1,h2=>simp at h1
  refine⟨_,rfl,t,zs,rfl,tr.tup,tr.nod,by omega,hnd,λd H1 s1 nd1=>?_⟩;refine⟨_,rfl,d,n,zs,rfl,nd1,hnd,by omega,hn2,λz hz e=>?_,λhk=>o.no .noNode H1 s1 (.dNo (cI λ⟨z,hz,e⟩=>hk z hz e))⟩;refine⟨_,rfl,_,rfl,t,n,zs,rfl,tr.same s1,by omega,hn2,λ_ ms l H2 s2 hms hml0 hm hl2=>?_,λh0 hk=>absurd e (hk z hz)⟩;have hml:ms.length≤1000:=by omega
  refine⟨l,rfl,⟨_,SqL.of hl2⟩,λp hp=>?_⟩;refine dL (fr:=[]) ms V.int hml hp (ie (SqL.of hl2)) rfl (λm y H'=>∃q,y=.ref q∧q≠p∧H' q=some (.tup [.int m,.bl true])) (λm y H H' ⟨q,e,ne,h⟩ ex=>⟨q,e,ne,ex q _ ne h⟩) (λm H' k _ s3 hpl hk=>?_) (λys H3 s3 hp3 hys=>?_)
  ·exact⟨_,rfl,le2,λq hq=>hk _ _ (af hq) ⟨q,rfl,dj hpl hq,ac⟩⟩
  ·obtain⟨bs,e1,e2,e3⟩:=cP (val:=V.ref) (S:=λ(m:Int) (q:Addr)=>H3 q=some (.tup [.int m,.bl true])) hys (λm y _ ⟨q,e,_,h⟩=>⟨q,e,h⟩);have s123:=(s1.trans s2).trans s3;have hbl:bs.length=ms.length:=by rw[←e1,length_map]
   refine⟨p,bs.map λx=>(x.2,(Sum.inl x.1:Key),V.bl true),rfl,by rw[hp3,e2,map_map,map_map];rfl,λy hy=>?_,by rw[length_map];omega,?_,λg hg=>?_⟩
   ·obtain⟨x,hx,rfl⟩:=mem_map.mp hy;exact e3 x hx
   ·rw[map_map];have:(bs.map ((λx:Addr×Key×V=>x.2.1)∘λx=>(x.2,(Sum.inl x.1:Key),V.bl true)))=ms.map (Sum.inl:Int→Key):=by rw[←e1,map_map];rfl
    rw[this];unfold Nodup;rw[pairwise_map];exact hms.imp λh e=>by injection e with e;omega
   ·have ekv:(bs.map λx=>(x.2,(Sum.inl x.1:Key),V.bl true)).map (·.2)=ms.map λm=>((Sum.inl m:Key),V.bl true):=by rw[←e1,map_map,map_map];rfl
    rw[ekv];have s4:=s123.trans (af (o:=.dK (ms.map λm=>((Sum.inl m:Key),V.bl true))) hg);have s5:Same H (upd (upd H3 g (.dK (ms.map λm=>((Sum.inl m:Key),V.bl true)))) g (.dK (cj (ms.map λm=>((Sum.inl m:Key),V.bl true)) (Sum.inl n:Key) (.bl true)))):=aM (s123.free hg) s4;refine⟨_,rfl,_,rfl,g,_,rfl,mv.k (k:=Sum.inl n) ac (ax (by rw[length_map];exact hml)),?_⟩;have hgo:(upd (upd H3 g (.dK (ms.map λm=>((Sum.inl m:Key),V.bl true)))) g (.dK (cj (ms.map λm=>((Sum.inl m:Key),V.bl true)) (Sum.inl n:Key) (.bl true)))) g=some (.dK (cj (ms.map λm=>((Sum.inl m:Key),V.bl true)) (Sum.inl n:Key) (.bl true))):=ac;generalize upd (upd H3 g (.dK (ms.map λm=>((Sum.inl m:Key),V.bl true)))) g (.dK (cj (ms.map λm=>((Sum.inl m:Key),V.bl true)) (Sum.inl n:Key) (.bl true)))=H5 at s5 hgo⊢;have hval:∀k:Int,(!(bc (cj (ms.map λm=>((Sum.inl m:Key),V.bl true)) (Sum.inl n:Key) (.bl true)) (Sum.inl k:Key)).isSome) = !decide (k=n∨k∈ms):=λk=>by
     rw[jI]
     by_cases e:k=n
     ·subst e;simp
     ·have e':¬(Sum.inl k:Key)=Sum.inl n:=λh=>e (by injection h);rw[if_neg e']
      by_cases hk:k∈ms
      ·have:bc (ms.map λm=>((Sum.inl m:Key),V.bl true)) (Sum.inl k:Key)=some (.bl true):=by
        refine kd ?_ (mem_map.mpr ⟨k,hk,rfl⟩);rw[map_map];unfold Nodup;rw[pairwise_map];exact hms.imp λh e=>by injection e with e;omega
       rw[this];simp[hk]
      ·have:bc (ms.map λm=>((Sum.inl m:Key),V.bl true)) (Sum.inl k:Key)=none:=by
        refine ng λhx=>hk ?_;rw[map_map]at hx;obtain⟨m,hm',e⟩:=mem_map.mp hx;injection e with e
        rw[←e];exact hm'
       rw[this];simp[e,hk]
    refine⟨_,rfl,t,rfl,⟨_,SqT.of (s5 _ _ tr.tup)⟩,λp2 hp2=>?_⟩;refine iN (fr:=[some (.ref g)]) zs (λz=>V.ref z.1) (by omega) hp2 (dJ (by rw[cm];exact SqT.of (s5 _ _ tr.tup))) rfl (λz=>oX n ms z.2) (λz y _=>y=.ref z.1) (λz y H H' h _=>h) (λz H' k mz s6 _ hk=>?_) (λz H' k mz _ s6 _ hk=>?_) (λys H6 s6 hp6 hys=>?_)
    ·refine⟨_,rfl,z.1,_,_,_,rfl,rfl,SqT.of (s6 _ _ (s5 _ _ (tr.nod z mz))),at0 z.2,_,rfl,g,_,rfl,cN.k (k:=Sum.inl z.2.num) (s6 _ _ hgo),_,rfl,?_⟩;rw[hval];exact hk H' (Same.refl _)
    ·exact⟨_,rfl,hk _ H' (Same.refl _) rfl⟩
    ·have ey:=ck (f:=λz:Addr×Nd=>V.ref z.1) hys (λz y _ h=>h);refine⟨p2,_,rfl,.inl ⟨SqL.of hp6,λl6 hl6=>?_⟩⟩;have s56:=(s5.trans s6).trans (af (o:=.tup ys) hl6);refine o.ok (zs.filter λz=>oX n ms z.2) l6 _ s56 (by rw[ac,ey,cm]) (λy hy=>s56 _ _ (tr.nod y (mem_filter.mp hy).1)) ?_;have en:nds (zs.filter λz=>oX n ms z.2)=(nds zs).filter (oX n ms):=by
      unfold nds;rw[filter_map];rfl
     rw[en];refine .dropped ⟨z.2,bY hz,e⟩ λm hm'=>?_;unfold oX;rw[Bool.not_eq_true',decide_eq_false_iff_not];constructor
     ·intro h hu
      by_cases em:m.num=n
      ·exact h (.inl em)
      ·exact h (.inr ((hm m.num).mpr ⟨m,hm',rfl,(TW.eE hT hn1 hm').mpr ⟨em,hu⟩⟩))
     ·intro h hx;rcases hx with em|hx
      ·exact h (by rw[em];exact .here)
      ·obtain⟨m',h1,h2,h3⟩:=(hm m.num).mp hx;have:m'=m:=hT.inj h1 hm' h2;subst this;exact h ((TW.eE hT hn1 h1).mp h3).2
def qm(cls:TW.Wd→Addr):Sp:=λvs H Q E=>∃t d dd zs,vs=[.ref t,.ref d]∧Tre H t zs∧zs.length≤29∧H d=some (.tup (bQ dd))∧dX dd∧Outs H (nds zs) dd cls Q E
theorem vh:FnScope ["tree","deed","word"] ["tree","deed"] (ai uZ):=fsc
theorem xg{f:Addr}{fd:FuncData}{cls:TW.Wd→Addr}(F:Fun K "done" "done" uZ f fd)(CM:dW P w K mg base 3 "make" ["tree","number","parent","name","stamp"] (qi cls))(CW:dW P w K mg base 2 "write" ["tree","number","stamp"] (nq cls))(CV:dW P w K mg base 3 "move" ["tree","number","parent","name"] (qj cls))(CD:dW P w K mg base 3 "drop" ["tree","number"] (ql cls)):FnOk P w K mg base (CX1 P w) 4 f fd ["tree","deed"] (qm cls):=by
 obtain⟨fM,fdM,GM,mM,kM,bM⟩:=CM;obtain⟨fW,fdW,GW,mW,kW,bW⟩:=CW;obtain⟨fV,fdV,GV,mV,kV',bV⟩:=CV;obtain⟨fD,fdD,GD,mD,kD,bD⟩:=CD;refine F.okX vh (λvs H Q E h=>?_) (λcdv A outer s H vs Q E hr h=>?_)
 ·obtain⟨t,d,dd,zs,rfl,_⟩:=h;rfl
 ·obtain⟨t,d,dd,zs,rfl,tr,hl,hd,hok,o⟩:=h;have hr2:Room 2 _:=hr.mono (by decide);refine⟨_,ag (aA (i:=2) vh.nd rfl (Or.inl rfl) (au ar (pv 1) ah (λ_ _=>rfl)))
   (ag (aP (am cD (pv 2) aY (aw _)) (ak (av (al (E:=E) GM hr rfl mM kM bM .nil (dq bH) (aa (pv 0) (aa (au ar (pv 1) ah (λ_ _=>rfl)) (aa (au ar (pv 1) ah (λ_ _=>rfl)) (aa (au ar (pv 1) ah (λ_ _=>rfl)) (aa (au ar (pv 1) ah (λ_ _=>rfl)) ae)))))))) ay)
   (ag (aP (am cD (pv 2) aY (aw _)) (ak (av (al (E:=E) GW hr2 rfl mW kW bW .nil (dq bH) (aa (pv 0) (aa (au ar (pv 1) ah (λ_ _=>rfl)) (aa (au ar (pv 1) ah (λ_ _=>rfl)) ae)))))) ay)
   (ag (aP (am cD (pv 2) aY (aw _)) (ak (av (al (E:=E) GV hr rfl mV kV' bV .nil (dq bH) (aa (pv 0) (aa (au ar (pv 1) ah (λ_ _=>rfl)) (aa (au ar (pv 1) ah (λ_ _=>rfl)) (aa (au ar (pv 1) ah (λ_ _=>rfl)) ae))))))) ay)
   (ag (aP (am cD (pv 2) aY (aw _)) (ak (av (al (E:=E) GD hr rfl mD kD bD .nil (dq bH) (aa (pv 0) (aa (au ar (pv 1) ah (λ_ _=>rfl)) ae))))) ay)
   (ak nU))))),?_⟩
  have sd:SqT K H d (bQ dd):=SqT.of hd;cases dd with
  |make n p nm st =>
   refine⟨_,rfl,d,_,_,_,rfl,rfl,sd,rfl,?_⟩;refine⟨_,rfl,rfl,_,rfl,aQ ⟨_,rfl,_,rfl,d,_,_,_,rfl,rfl,sd,rfl,_,rfl,d,_,_,_,rfl,rfl,sd,rfl,_,rfl,d,_,_,_,rfl,rfl,sd,rfl,_,rfl,d,_,_,_,rfl,rfl,sd,rfl,t,n,p,nm,st,zs,rfl,tr,hl,hok,o⟩⟩
  |write n st =>
   refine⟨_,rfl,d,_,_,_,rfl,rfl,sd,rfl,?_⟩;refine⟨_,rfl,rfl,_,rfl,aI ⟨_,rfl,rfl,_,rfl,aQ ⟨_,rfl,_,rfl,d,_,_,_,rfl,rfl,sd,rfl,_,rfl,d,_,_,_,rfl,rfl,sd,rfl,t,n,st,zs,rfl,tr,hok,o⟩⟩⟩
  |move n p nm =>
   refine⟨_,rfl,d,_,_,_,rfl,rfl,sd,rfl,?_⟩;refine⟨_,rfl,rfl,_,rfl,aI ⟨_,rfl,rfl,_,rfl,aI ⟨_,rfl,rfl,_,rfl,aQ ⟨_,rfl,_,rfl,d,_,_,_,rfl,rfl,sd,rfl,_,rfl,d,_,_,_,rfl,rfl,sd,rfl,_,rfl,d,_,_,_,rfl,rfl,sd,rfl,t,n,p,nm,zs,rfl,tr,hok,o⟩⟩⟩⟩
  |drop n =>
   refine⟨_,rfl,d,_,_,_,rfl,rfl,sd,rfl,?_⟩;refine⟨_,rfl,rfl,_,rfl,aI ⟨_,rfl,rfl,_,rfl,aI ⟨_,rfl,rfl,_,rfl,aI ⟨_,rfl,rfl,_,rfl,aQ ⟨_,rfl,_,rfl,d,_,_,_,rfl,rfl,sd,rfl,t,n,zs,rfl,tr,hok,o⟩⟩⟩⟩⟩
end
end TK
namespace TB
open PySem PySem.SetTable
theorem sS{t:SetTable}{l:List Nat}(T:Tb t l)(mk:Mk t.mask)(hl:l.length≤t.mask)(h:Int):∃j,t.freeSlot h=some (j,false)∧j∉l∧j≤t.mask:=by
 obtain⟨j₀,hj₀,hj₀'⟩:=jQ t.mask l hl;obtain⟨n₀,hn₀,en₀⟩:=cover mk.cyc h hj₀;obtain⟨N,hNle,hN,hNno⟩:=jM (λm=>pos t.mask h m∉l) n₀ (by rw[en₀];exact hj₀');have hp:=jN t (λ_=>h+1) h N (st t.mask h) (10*turns t.mask) (by omega) (λm hm=>by
  have hin:pos t.mask h m∈l:=by
   by_cases z:pos t.mask h m∈l
   ·exact z
   ·exact(hNno m hm z).elim
  obtain⟨i,hi,e⟩:=mem_iff_getElem.mp hin;exact⟨i,jn T (by show l[i]?=some (pos t.mask h m);rw[getElem?_eq_getElem hi,e]),by rw[beq_eq_false_iff_ne];omega⟩) (oC T hN)
 refine⟨pos t.mask h N,?_,hN,iG _ _ _⟩;unfold SetTable.freeSlot;have hp':t.probe (λ_=>h+1) h (t.probeStart h)=some (.empty (pos t.mask h N) none):=hp;rw[hp'];rfl
theorem xh{t:SetTable}{l:List Nat}(T:Tb t l)(mk:Mk t.mask)(hl:l.length+1≤t.mask)(es:Array (Int×Value))(hes:es.size=l.length)(h:Int)(x:Value):
  ∃p t' l',layNew t es h x=(insertAt es p (h,x),t',false,false)∧Tb t' l'∧l'.length=l.length+1∧t'.mask=t.mask∧t'.plain=t.plain∧t'.led=t.led:=by
 obtain⟨j,hf,hj,hjm⟩:=sS T mk (by omega) h;obtain⟨T1,hp1,hm1⟩:=ug T hj hjm;have hlen:(l.take (below l.toArray j)++j::l.drop (below l.toArray j)).length=l.length+1:=by
  rw[length_append,length_cons,length_take,length_drop];have:=(cO T.up j).1;omega
 have hsz:(insertAt es (t.put j).2 (h,x)).size=l.length+1:=by
  rw[←length_toList,SetTable.toList_insertAt,length_append,length_cons,length_take,length_drop,length_toList,hes,hp1];have:=(cO T.up j).1;omega
 have hfit:(t.put j).1.fits (insertAt es (t.put j).2 (h,x)).size=true:=gm T1 (by rw[hlen,hsz]) (by rw[hsz,hm1];exact hl);refine⟨(t.put j).2,(t.put j).1,_,?_,T1,hlen,hm1,rfl,rfl⟩;unfold layNew;rw[hf];show(insertAt es (t.put j).2 (h,x),(t.put j).1.orStandIn (insertAt es (t.put j).2 (h,x)).size,false,!((t.put j).1.fits (insertAt es (t.put j).2 (h,x)).size))=_;rw[hfit];unfold SetTable.orStandIn;rw[if_pos hfit];rfl
theorem sT{t:SetTable}(es:Array (Int×Value))(h0:0<es.size)(h60:es.size≤60):
  ∃es' t' l',relayAll t es (grown es.size)=(es',t',false)∧es'.toList.Perm es.toList∧Tb t' l'∧l'.length=es.size∧Mk t'.mask∧es.size*5<t'.mask*3∧t'.plain=t.plain∧t'.led=t.led:=by
 have hw:grown es.size=es.size*4:=by unfold SetTable.grown;rw[if_neg (by omega)]
 obtain⟨hmk,hle,h256⟩:=gY (w:=es.size*4) (by omega);rw[hw];obtain⟨t',zs,e,hm,hled,hpl,T,hperm,_⟩:=iI (t:=t) (hashes:=es.map (·.1)) (wanted:=es.size*4) hmk.cyc (by rw[size_map];omega);rw[size_map]at hperm;have hlen:zs.length=es.size:=by
  have:=hperm.length_eq;rw[length_map,length_range]at this;exact this
 have hp:(((zs.map (·.2)).toArray).filterMap (λi=>es[i]?)).toList.Perm es.toList:=by
  rw[Array.toList_filterMap];exact(hperm.filterMap _).trans (by rw[filterMap_getElem?_range])
 have hsz:(((zs.map (·.2)).toArray).filterMap (λi=>es[i]?)).size=es.size:=by
  rw[←length_toList,hp.length_eq,length_toList]
 have hfit:t'.fits (((zs.map (·.2)).toArray).filterMap (λi=>es[i]?)).size=true:=gm T (by rw[hsz,length_map,hlen]) (by rw[hsz,hm];omega);have hcov:coversAll (zs.map (·.2)).toArray es.size=true:=by
  unfold coversAll;exact List.isPerm_iff.mpr hperm
 refine⟨((zs.map (·.2)).toArray).filterMap (λi=>es[i]?),t',zs.map (·.1),?_,hp,T,by rw[length_map,hlen],by rw[hm];exact hmk,by rw[hm];omega,hpl,hled⟩;unfold relayAll;rw[e];dsimp only;rw[hcov,hfit];rfl
def bt(w:World):Bool:=w.params.followText "set-order"
def im(tk:Int→Tok)(n:Int):Int×Value:=(hashInt n,.int n (tk n))
structure ISt(w:World)(es:Array (Int×Value))(t:SetTable)(ns:List Int):Prop where
 ent:∃tk,es.toList=ns.map (im tk)
 nd:ns.Nodup
 tb:∃l,Tb t l∧l.length=ns.length
 mkm:Mk t.mask
 room:ns.length*5<t.mask*3
 pl:t.plain=true
 led:bt w=false→t.led=true
def IS(w:World)(h:Heap)(a:Addr)(ns:List Int):Prop:=∃o es ep t,h.get? a=some o∧o.ExactSet∧o.data=.set es ep t∧ISt w es t ns
theorem ISt.size{w:World}{es:Array (Int×Value)}{t:SetTable}{ns:List Int}(h:ISt w es t ns):es.size=ns.length:=by
 obtain⟨tk,e⟩:=h.ent;rw[←length_toList,e,length_map]
theorem ISt.fits{w:World}{es:Array (Int×Value)}{t:SetTable}{ns:List Int}(h:ISt w es t ns):t.fits es.size=true:=by
 obtain⟨l,T,hl⟩:=h.tb;have:=h.mkm.ge;have:=h.room;exact gm T (by rw[hl,h.size]) (by rw[h.size];omega)
theorem ISt.elems{prog:Program}{w:World}{es:Array (Int×Value)}{t:SetTable}{ns:List Int}(h:ISt w es t ns):ElemsOf (intKind prog w) es.toList:=by
 obtain⟨tk,e⟩:=h.ent;rw[e];intro z hz;obtain⟨n,hn,rfl⟩:=mem_map.mp hz;exact⟨⟨n,intKind_is _ _ _ _,rfl⟩,rfl⟩
theorem dy{es':List (Int×Value)}:∀{l:List (Int×Value)},es'.Perm l→∀{tk:Int→Tok}{ns:List Int},l=ns.map (im tk)→∃ns':List Int,ns'.Perm ns∧es'=ns'.map (im tk):=by
 intro l p tk ns e;have hall:∀z∈es',∃n,z=im tk n:=λz hz=>by
  have:=p.mem_iff.mp hz;rw[e]at this;obtain⟨n,hn,e⟩:=mem_map.mp this;exact⟨n,e.symm⟩
 obtain⟨ns',e'⟩:∃ns':List Int,es'=ns'.map (im tk):=by
  clear p e
  induction es' with
  |nil=>exact⟨[],rfl⟩
  |cons z es' ih =>
   obtain⟨n,hn⟩:=hall z mem_cons_self;obtain⟨ns',e⟩:=ih λy hy=>hall y (mem_cons_of_mem _ hy);exact⟨n::ns',by rw[hn,e];rfl⟩
 refine⟨ns',?_,e'⟩;have hv:∀m:List Int,(m.map (im tk)).map (λz=>match z.2 with | .int n _=>n | _=>0)=m:=λm=>by
  rw[map_map]
  induction m with
  |nil=>rfl
  |cons x m ih=>rw[map_cons,ih];rfl
 have:=p.map (λz=>match z.2 with | .int n _=>n | _=>0);rw[e',e,hv,hv]at this;exact this
theorem vi{tk:Int→Tok}{ns:List Int}{n:Int}{t:Tok}(hn:n∉ns):∃tk',(im tk' n=(hashInt n,Value.int n t))∧ns.map (im tk')=ns.map (im tk):=by
 refine⟨λm=>if m=n then t else tk m,by show(hashInt n,Value.int n (if n=n then t else tk n))=_;rw[if_pos rfl],?_⟩
 apply map_congr_left;intro m hm;show(hashInt m,Value.int m (if m=n then t else tk m))=_;rw[if_neg (by rintro rfl;exact hn hm)];rfl
section
variable{prog:Program}{w:World}{A:Around}{E:Value→Shared→Prop}{s:Shared}
theorem add_int{a:Addr}{ns:List Int}{n:Int}{t0:Tok}{Q:Bool→Shared→Prop}(hS:IS w s.heap a ns)(hroom:ns.length<60)(h:∀r h' ns',SameBut a s.heap h'→IS w h' a ns'→((n∈ns∧ns'=ns)∨(n∉ns∧ns'.Perm (n::ns)))→Q r {s with heap:=h'}):
  wpAny (model prog w) A (setAddHashed a (.int n t0) (hashInt n)) Q E s:=by
 obtain⟨o,es,ep,t,ho,hex,hd,S⟩:=id hS;have hsz:=S.size;have hf:=S.fits;have hel:ElemsOf (intKind prog w) es.toList:=S.elems;have hkey:(intKind prog w).is n (.int n t0)=true:=intKind_is _ _ _ _;have hb:es.size<scanBound:=by unfold scanBound;omega
 have hge:=S.mkm.ge;have hrm:=S.room;unfold setAddHashed setAddHashedIn;refine wpAny_holding (wpAny_bind (wpAny_setState_of ho hd hf ?_));dsimp only;rw[byScan_of (knd:=intKind prog w) (x:=.int n t0) rfl hb hel];simp only[↓reduceIte];unfold setAddByScan;refine wpAny_bind ?_;refine wpAny_bind (wpAny_rule ?_);refine wpAny_bind (wpAny_setScan_of (knd:=intKind prog w) (k:=n) hkey ho hd hf hel ?_);obtain⟨tk,hent⟩:=S.ent;cases hr:List.findIdx? (λe=>(intKind prog w).is n e.2) es.toList with
 |some j =>
  dsimp only;obtain⟨hj,hpj,_⟩:=List.findIdx?_eq_some_iff_getElem.mp hr;have hin:n∈ns:=by
   have hm:es.toList[j]∈es.toList:=getElem_mem hj;generalize es.toList[j]=z at hm hpj;rw[hent]at hm;obtain⟨m,hm1,rfl⟩:=mem_map.mp hm;have:=(intKind prog w).inj _ n m hpj (intKind_is _ _ _ _);rw[this];exact hm1
  refine wpAny_pure (wpAny_pure ?_);have e:s={s with heap:=s.heap}:=by cases s;rfl
  have:=h false s.heap ns (SameBut.refl a s.heap) hS (.inl ⟨hin,rfl⟩);rw[e];exact this
 |none =>
  dsimp only;have hnin:n∉ns:=λhin=>by
   have:=List.findIdx?_eq_none_iff.mp hr (im tk n) (by rw[hent];exact mem_map.mpr ⟨n,hin,rfl⟩);have h2:(intKind prog w).is n (im tk n).2=true:=intKind_is _ _ _ _;rw[h2]at this;cases this
  obtain⟨l,T,hl⟩:=S.tb;obtain⟨p,t1,l1,e1,T1,hl1,hm1,hp1,hled1⟩:=xh T S.mkm (by omega) es (by omega) (hashInt n) (.int n t0);rw[e1];dsimp only;obtain⟨tk',htk1,htk2⟩:=vi (tk:=tk) (t:=t0) hnin;obtain⟨ns1,hns1,hes1⟩:=dy (es':=(insertAt es p (hashInt n,Value.int n t0)).toList) (l:=(n::ns).map (im tk')) (tk:=tk') (ns:=n::ns) (by
   refine(SetTable.insertAt_perm es p _).trans ?_;rw[Array.toList_push,hent,←htk2,map_cons,htk1];exact List.perm_append_singleton _ _) rfl
  have hn1:ns1.length=ns.length+1:=by rw[hns1.length_eq,length_cons]
  have hnd1:ns1.Nodup:=hns1.nodup_iff.mpr (nodup_cons.mpr ⟨hnin,S.nd⟩);have hsz1:(insertAt es p (hashInt n,Value.int n t0)).size=ns1.length:=by rw[←length_toList,hes1,length_map]
  refine wpAny_bind (wpAny_pure ?_);rw[hp1,S.pl];simp only[if_true];refine wpAny_bind ?_;rw[hashByValue_scannable 8 (x:=.int n t0) rfl];refine wpAny_pure ?_;simp only[plainKind,if_true];refine wpAny_bind (wpAny_storeSet_of ho hd ?_ (by rw[hsz1];exact mG (by omega)));have ho1:=stored ho hd (insertAt es p (hashInt n,Value.int n t0)) t1;have hsb1:=SameBut.update s.heap a (Obj.putSet (insertAt es p (hashInt n,Value.int n t0)) t1);have hfill:t1.fill=ns1.length:=by rw[gl T1,hl1,hl,hn1]
  by_cases hfull:t1.tooFull=true
  ·rw[hfull];simp only[Bool.not_false,Bool.and_self,if_true];obtain⟨es2,t2,l2,e2,p2,T2,hl2,hmk2,hrm2,hp2,hled2⟩:=sT (t:=t1) (insertAt es p (hashInt n,Value.int n t0)) (by omega) (by omega);rw[e2];dsimp only;obtain⟨ns2,hns2,hes2⟩:=dy p2 hes1;have hn2:ns2.length=ns1.length:=hns2.length_eq;have hsz2:es2.size=ns2.length:=by rw[←length_toList,hes2,length_map]
   refine wpAny_bind (wpAny_pure ?_);refine wpAny_bind (wpAny_storeSet_of ho1 rfl ?_ (by rw[hsz2];exact mG (by omega)));have ho2:=stored (s:={s with heap:=s.heap.update a (Obj.putSet (insertAt es p (hashInt n,Value.int n t0)) t1)}) ho1 rfl es2 t2
   refine wpAny_pure (wpAny_pure (h true _ ns2 (hsb1.trans (SameBut.update _ a _)) ⟨_,es2,_,t2,ho2,hex,rfl,⟨⟨tk',hes2⟩,hns2.nodup_iff.mpr hnd1,⟨l2,T2,by omega⟩,hmk2,by rw[hn2,←hsz1];exact hrm2,by rw[hp2,hp1];exact S.pl,λz=>by rw[hled2,hled1];exact S.led z⟩⟩ (.inr ⟨hnin,hns2.trans hns1⟩)))
  ·have hnf:t1.tooFull=false:=by simpa using hfull
   rw[hnf];simp only[Bool.and_false,false_eq_true,if_false];refine wpAny_pure (wpAny_pure (h true _ ns1 hsb1 ⟨_,_,_,t1,ho1,hex,rfl,⟨⟨tk',hes1⟩,hnd1,⟨l1,T1,by omega⟩,by rw[hm1];exact S.mkm,?_,by rw[hp1];exact S.pl,λz=>by rw[hled1];exact S.led z⟩⟩ (.inr ⟨hnin,hns1⟩)));unfold SetTable.tooFull at hnf;rw[decide_eq_false_iff_not,hfill]at hnf;omega
end
theorem ko:entryFor table "set.__iter__"=some Builtin.«frozenset.__iter__» :=
 entryFor_alias (id':="frozenset.__iter__") (by kernel_rfl) rfl (by decide +kernel) (by kernel_rfl)
theorem cq:Slot "set_iterator" "__next__" "set_iterator.__next__" :=
 .of (owner:="set_iterator") (n:="__next__") (by rw[typeLookup_type,builtinLookup_eq_fast];kernel_rfl) (by decide +kernel) (by decide +kernel) (by decide +kernel)
  (by first|exact .inl (by decide +kernel)|exact .inr (by decide +kernel)) (by rw[isSubtype_type];kernel_rfl)
theorem io:Slot "set_iterator" "__iter__" "set_iterator.__iter__" :=
 .of (owner:="set_iterator") (n:="__iter__") (by rw[typeLookup_type,builtinLookup_eq_fast];kernel_rfl) (by decide +kernel) (by decide +kernel) (by decide +kernel)
  (by first|exact .inl (by decide +kernel)|exact .inr (by decide +kernel)) (by rw[isSubtype_type];kernel_rfl)
theorem gD:entryFor table "set_iterator.__next__"=some Builtin.«set_iterator.__next__»:=entryFor_of_tree (by kernel_rfl)
theorem oY:Manifest.owners.lookup (String.ofList ['r','o','t','a','r','e','t','i','_','t','e','s'].reverse)=some Manifest.sig_set_iterator:=by kernel_rfl
theorem ip(a:Value):argsOk "set_iterator.__next__" ⟨[a],[]⟩:=by
 unfold argsOk;rw[signature?_of (id:="set_iterator.__next__") (n:=['_','_','t','x','e','n','_','_']) (o:=['r','o','t','a','r','e','t','i','_','t','e','s']) (by kernel_rfl) oY];kernel_rfl
theorem nr(a:Value):argsOk "set_iterator.__iter__" ⟨[a],[]⟩:=by
 unfold argsOk;rw[signature?_of (id:="set_iterator.__iter__") (n:=['_','_','r','e','t','i','_','_']) (o:=['r','o','t','a','r','e','t','i','_','t','e','s']) (by kernel_rfl) oY];kernel_rfl
theorem lj:∃b,entryFor table "set_iterator.__iter__"=some b∧b=Builtin.«dict_keyiterator.__iter__» :=
 ⟨_,entryFor_alias (id':="dict_keyiterator.__iter__") (by kernel_rfl) rfl (by decide +kernel) (by kernel_rfl),rfl⟩
theorem lL{α:Type}(next:Nat→Nat):∀(fuel k:Nat)(left:List α)(out:Array α),left.length=fuel→(pickOrder.go next fuel k left out).toList.Perm (out.toList++left)
 |0,k,left,out,h=>by
  have:left=[]:=length_eq_zero_iff.mp h;subst this;rw[append_nil];exact .rfl
 |fuel+1,k,left,out,h=>by
  unfold pickOrder.go;have hlt:next k % left.length<left.length:=mod_lt _ (by omega);rw[getElem?_eq_getElem hlt];dsimp only;refine(lL next fuel (k+1) _ _ (by rw[List.length_eraseIdx,if_pos hlt];omega)).trans ?_;rw[Array.toList_push,append_assoc];refine List.Perm.append_left _ ?_;rw[List.singleton_append];rw[List.eraseIdx_eq_take_drop_succ];refine perm_middle.symm.trans ?_;rw[List.getElem_cons_drop,List.take_append_drop]
def fz(w:World)(a:Addr)(ep:Nat)(es:Array (Int×Value)):Array (Int×Value):=if bt w then pickOrder (w.params.setOrder a ep) es else es
theorem kq(w:World)(a:Addr)(ep:Nat)(es:Array (Int×Value)):(fz w a ep es).toList.Perm es.toList:=by
 unfold fz
 split
 ·exact lL _ _ _ _ _ rfl
 ·exact .rfl
theorem oZ(w:World)(a:Addr)(ep:Nat)(es:Array (Int×Value)):(fz w a ep es).size=es.size:=by
 rw[←length_toList,(kq w a ep es).length_eq,length_toList]
def qp(w:World)(t:SetTable)(h:Heap)(I a:Addr)(n ep i:Nat):Prop :=
 ∃o slot,h.get? I=some o∧o.cls=.type "set_iterator"∧o.data=.fields #[.int (slot:Nat) 0,.int (i:Nat) 0,.ref a,.int (n:Nat) 0,.int (ep:Nat) 0]∧(bt w=false→below t.place slot=i)
theorem qp.typeIs{w:World}{t:SetTable}{s:Shared}{I a:Addr}{n ep i:Nat}(x:qp w t s.heap I a n ep i):s.TypeIs (.ref I) "set_iterator":=let⟨o,_,ho,hc,_⟩:=x;⟨o,ho,hc⟩
section
variable{prog:Program}{w:World}{A:Around}{E:Value→Shared→Prop}{s:Shared}
theorem iR{es:Array (Int×Value)}{t:SetTable}{ns:List Int}(S:ISt w es t ns):(!t.plain&&decide (es.size>1))=false:=by rw[S.pl];rfl
theorem vj{a:Addr}{o:Obj}{es:Array (Int×Value)}{ep:Nat}{t:SetTable}{ns:List Int}{Q:Value→Shared→Prop}(S:ISt w es t ns)(ho:s.heap.get? a=some o)(hex:o.ExactSet)(hd:o.data=.set es ep t)(hQ:Q (.ref s.heap.objs.size) {s with heap:=s.heap.push {cls:=.type "set_iterator",data:=.fields #[.int 0 0,.int 0 0,.ref a,.int es.size 0,.int ep 0]}}):wpAny (model prog w) A (pyIter (.ref a)) Q E s:=by
 have hT:s.TypeIs (.ref a) "set":=⟨o,ho,hex.1⟩;refine wpAny_pyIter_slot hT F.slot_set_iter (wpAny_call_entry F.slot_set_iter hT ko ?_ (F.args_set_iter_1 _));unfold Builtin.«frozenset.__iter__» Builtin.Frozenset.slot0;refine wpAny_bind ?_;show wpAny _ _ (pure a) _ _ s;refine wpAny_pure ?_;unfold Builtin.Frozenset.sizeOf;refine wpAny_bind (wpAny_bind (wpAny_setEntries_of ho hd S.fits (wpAny_pure ?_)));refine wpAny_bind ?_;unfold setDrawn;refine wpAny_bind (wpAny_setState_of ho hd S.fits ?_);unfold setsByText;refine wpAny_bind (wpAny_bind (wpAny_askSetting (wpAny_pure ?_)));refine wpAny_pure ?_;have hdr:(!(model prog w).w.params.followText "set-order"&&(!t.plain&&decide (es.size>1)))=false:=by rw[iR S,Bool.and_false]
 show wpAny _ _ (if (!(model prog w).w.params.followText "set-order"&&(!t.plain&&decide (es.size>1)))=true then _ else _) _ _ _
 rw[hdr];simp only[false_eq_true,if_false];refine wpAny_bind (wpAny_pure ?_);refine wpAny_bind (wpAny_setEpoch_of ho hd S.fits ?_);refine wpAny_bind (wpAny_newObj_type (wpAny_pure ⟨_,rfl,"set_iterator",_,⟨_,get?_push_size _ rfl,rfl⟩,cq.lookup,?_⟩));simpa [rawInt]using hQ
theorem pb{a:Addr}{o:Obj}{es:Array (Int×Value)}{ep slot i:Nat}{t:SetTable}{ns:List Int}{Q:Option (Value×Nat)→Shared→Prop}(S:ISt w es t ns)(ho:s.heap.get? a=some o)(hd:o.data=.set es ep t)(hs:bt w=false→below t.place slot=i)(h1:∀v slot',(fz w a ep es)[i]?.map (·.2)=some v→(bt w=false→below t.place slot'=i+1)→Q (some (v,slot')) s)(h2:(fz w a ep es)[i]?=none→Q none s):wpAny (model prog w) A (setNext a slot i ep) Q E s:=by
 unfold setNext;refine wpAny_bind (wpAny_setState_of ho hd S.fits ?_);unfold setsByText;refine wpAny_bind (wpAny_bind (wpAny_askSetting (wpAny_pure ?_)));show wpAny _ _ (if bt w=true then _ else _) _ _ _;cases hb:bt w with
 |true =>
  simp only[if_true,bne_self_eq_false,false_eq_true,if_false];refine wpAny_bind ?_;unfold setWalk;refine wpAny_bind (wpAny_setState_of ho hd S.fits ?_);unfold setsByText;refine wpAny_bind (wpAny_bind (wpAny_askSetting (wpAny_pure ?_)));show wpAny _ _ (if bt w=true then _ else _) _ _ _;rw[hb];simp only[if_true];refine wpAny_bind (wpAny_askSetting (wpAny_pure ?_));have e:fz w a ep es=pickOrder (w.params.setOrder a ep) es:=by unfold fz;rw[hb];rfl
  rw[e]at h1 h2;show wpAny _ _ (pure (((pickOrder (w.params.setOrder a ep) es)[i]?).map λe=>(e.2,slot))) _ _ _;cases hx:(pickOrder (w.params.setOrder a ep) es)[i]? with
  |none=>exact wpAny_pure (h2 hx)
  |some x=>exact wpAny_pure (h1 x.2 slot (by rw[hx];rfl) (λz=>absurd (hb.symm.trans z) (by decide)))
 |false =>
  simp only[false_eq_true,if_false];have e:fz w a ep es=es:=by unfold fz;rw[hb];rfl
  rw[e]at h1 h2;show wpAny _ _ (if (!t.plain&&decide (es.size>1))=true then _ else _) _ _ _
  rw[iR S];simp only[false_eq_true,if_false];refine wpAny_bind ?_;show wpAny _ _ (if (!t.led && !es.isEmpty)=true then _ else _) _ _ _
  rw[S.led hb];simp only[Bool.not_true,Bool.false_and,false_eq_true,if_false];refine wpAny_pure ?_;have hsl:=hs hb;obtain⟨l,T,hl⟩:=S.tb;have hlen:l.length=es.size:=by rw[hl,S.size]
  rw[hsl]
  by_cases hi:i<es.size
  ·have e1:es[i]?=some es[i]:=Array.getElem?_eq_getElem hi;have e2:t.place[i]?=some (l[i]'(by omega)):=by rw[T.pl,List.getElem?_toArray,getElem?_eq_getElem (by omega)]
   rw[e1,e2];refine wpAny_pure (h1 _ _ (by rw[e1];rfl) λ_=>?_);obtain⟨b1,b2,b3⟩:=cO T.up (l[i]'(by omega)+1);rw[T.pl];rcases Nat.lt_trichotomy (below l.toArray (l[i]'(by omega)+1)) (i+1)with z|z|z
   ·have:=b3 i (by omega) (by omega);omega
   ·exact z
   ·have hi2:i+1<l.length:=by omega
    have q1:=b2 (i+1) hi2 z;have q2:=pairwise_iff_getElem.mp T.up i (i+1) (by omega) hi2 (by omega);omega
  ·have e1:es[i]?=none:=Array.getElem?_eq_none (by omega);rw[e1];exact wpAny_pure (h2 e1)
theorem xi{I a:Addr}{o:Obj}{es:Array (Int×Value)}{ep i:Nat}{t:SetTable}{ns:List Int}{Q:Option Value→Shared→Prop}(S:ISt w es t ns)(hi:i<es.size)(hit:qp w t s.heap I a es.size ep i)(ho:s.heap.get? a=some o)(hd:o.data=.set es ep t)(hne:a≠I)(hQ:∀v h',(fz w a ep es)[i]?.map (·.2)=some v→qp w t h' I a es.size ep (i+1)→SameBut I s.heap h'→Q (some v) {s with heap:=h'}):wpAny (model prog w) A (pyNext (.ref I)) Q E s:=by
 obtain⟨oi,slot,hoi,hci,hdi,hsl⟩:=id hit;unfold pyNext;refine wpAny_bind (wpAny_attempt (wpAny_callSpecial?_slot (name:=ofString "__next__") hit.typeIs cq
  (wpAny_call_entry cq hit.typeIs gD ?_ (ip _))))
 unfold Builtin.«set_iterator.__next__»;refine wpAny_bind (wpAny_pure ?_);refine wpAny_bind (wpAny_fieldsOf hoi hdi ?_);dsimp only;refine wpAny_bind (wpAny_setEntries_of ho hd S.fits ?_);rw[if_neg (by simp)];show wpAny _ _ (setNext a (toNat (slot:Int)) (toNat (i:Int)) (toNat (ep:Int)) >>= _) _ _ _;rw[toNat_natCast,toNat_natCast,toNat_natCast];refine wpAny_bind (pb S ho hd hsl (λv slot' hv hs'=>?_) λhn=>?_)
 ·dsimp only;refine wpAny_bind (wpAny_setField hoi hdi (by simp) ?_);have h1:(s.heap.update I (Obj.mapFields (·.setIfInBounds 0 (rawInt (slot':Nat))))).get? I=some _:=get?_update_self _ hoi (Obj.isFreed_of_fields (Obj.data_mapFields hdi _));refine wpAny_bind (wpAny_setField h1 (Obj.data_mapFields hdi _) (by simp) ?_);have h2:=get?_update_self (Obj.mapFields (·.setIfInBounds 1 (rawInt ((i:Int)+1)))) h1 (Obj.isFreed_of_fields (Obj.data_mapFields (Obj.data_mapFields hdi _) _));refine wpAny_pure ⟨_,rfl,wpAny_pure (hQ v _ hv ⟨_,slot',h2,?_,?_,hs'⟩ ((SameBut.update ..).trans (SameBut.update ..)))⟩
  ·rw[Obj.cls_mapFields,Obj.cls_mapFields];exact hci
  ·rw[Obj.data_mapFields (Obj.data_mapFields hdi _)];simp[rawInt]
 ·exfalso
  rw[Array.getElem?_eq_none_iff,oZ]at hn;omega
theorem zg{I a:Addr}{o:Obj}{es:Array (Int×Value)}{ep:Nat}{t:SetTable}{ns:List Int}{Q:Option Value→Shared→Prop}(hh:A.handled=none)(S:ISt w es t ns)(hit:qp w t s.heap I a es.size ep es.size)(ho:s.heap.get? a=some o)(hd:o.data=.set es ep t)(hQ:∀h',ExtBut I s.heap h'→Q none {s with heap:=h'}):wpAny (model prog w) A (pyNext (.ref I)) Q E s:=by
 obtain⟨oi,slot,hoi,hci,hdi,hsl⟩:=id hit;unfold pyNext;refine wpAny_bind (wpAny_attempt (wpAny_callSpecial?_slot (name:=ofString "__next__") hit.typeIs cq
  (wpAny_call_entry cq hit.typeIs gD ?_ (ip _))))
 unfold Builtin.«set_iterator.__next__»;refine wpAny_bind (wpAny_pure ?_);refine wpAny_bind (wpAny_fieldsOf hoi hdi ?_);dsimp only;refine wpAny_bind (wpAny_setEntries_of ho hd S.fits ?_);rw[if_neg (by simp)];show wpAny _ _ (setNext a (toNat (slot:Int)) (toNat (es.size:Int)) (toNat (ep:Int)) >>= _) _ _ _;rw[toNat_natCast,toNat_natCast,toNat_natCast];refine wpAny_bind (pb S ho hd hsl (λv slot' hv hs'=>?_) λhn=>?_)
 ·exfalso
  have:(fz w a ep es)[es.size]?=none:=Array.getElem?_eq_none (by rw[oZ];exact le_refl _);rw[this]at hv;cases hv
 ·dsimp only;refine wpAny_bind (wpAny_setField hoi hdi (by simp) ?_);show wpAny _ _ (newExc (.type "StopIteration") [] >>= _) _ _ _;refine wpAny_bind ?_;simp only[newExc,newTuple];refine wpAny_bind (wpAny_newObj_type ?_ (by size_fits));refine wpAny_bind (m:=firstArgMember _ _) (wpAny_of_eq (a:=Value.none) (by first|rfl|(simp only[firstArgMember];rfl)) ?_)
  refine wpAny_newObj_type ?_ (by size_fits);simp only[raiseNew];refine wpAny_bind (wpAny_handled ?_);rw[show A.in1.handled=none from hh];refine wpAny_bind (wpAny_pure (wpAny_throw ?_));refine wpAny_bind (wpAny_isInstance (T:="StopIteration") (b:=true) ⟨_,get?_push_size _ rfl,rfl⟩ isSubtype_stop ?_);exact wpAny_pure (hQ _ (((SameBut.update ..).extBut.push _).push _))
theorem xj{I a:Addr}{n ep i:Nat}{t:SetTable}{Q:Value→Shared→Prop}(hit:qp w t s.heap I a n ep i)(h:Q (.ref I) s):wpAny (model prog w) A (pyIter (.ref I)) Q E s:=by
 obtain⟨b,hb,e⟩:=lj;subst e;refine wpAny_pyIter_slot hit.typeIs io (wpAny_call_entry io hit.typeIs hb ?_ (nr _));show wpAny _ _ (ret (.ref I)) _ _ s;exact wpAny_pure ⟨_,rfl,"set_iterator",_,hit.typeIs,cq.lookup,h⟩
theorem sU{es:Array (Int×Value)}{t:SetTable}{ns:List Int}{ep:Nat}(S:ISt w es t ns)(hh:A.handled=none)(I a:Addr)(hne:a≠I)(o:Obj)(hd:o.data=.set es ep t):
  Walks prog w A I [I,a] [I] es.size (λi v=>(fz w a ep es)[i]?.map (·.2)=some v) (λi h=>qp w t h I a es.size ep i∧h.get? a=some o) where
 sub:=λb hb=>by simp at hb;simp[hb]
 frame:=λi h h' st hk=>by
  obtain⟨⟨oi,slot,h1,h2⟩,h3⟩:=st;exact⟨⟨oi,slot,hk I (by simp) _ h1,h2⟩,hk a (by simp) _ h3⟩
 item:=λi s Q E hi st hQ=>by
  refine xi S hi st.1 st.2 hd hne λv h' hv hit' hs'=>?_;exact hQ v h' s.toks hv ⟨hit',hs'.extBut a o hne st.2⟩ λb o hb e=>hs'.extBut b o (λh=>hb (by simp[h])) e
 done:=λs Q E st hQ=>zg hh S st.1 st.2 hd λh' he'=>hQ h' s.toks λb o hb e=>he' b o (λh=>hb (by simp[h])) e
 self:=λ_ _ _ _ st hQ=>xj st.1 hQ
theorem vk{r:Addr}{Q:Bool→Shared→Prop}(hT:s.TypeIs (.ref r) "set")(h:Q false s):wpAny (model prog w) A (Builtin.List.listLengthHint (.ref r)) Q E s:=by
 unfold Builtin.List.listLengthHint;refine wpAny_bind (wpAny_specialOf hT PySem.F.slot_set_len.lookup ?_);generalize hid:("set.__len__":String)=id0
 wp_delta
 rw[show splitId id0=some ("set","__len__")from by subst hid;decide +kernel];subst hid;refine wpAny_bind (wpAny_isInstance (T:="set") (b:=true) hT (by rw[isSubtype_type];kernel_rfl) ?_);refine wpAny_ite_split (λhab=>absurd hab (by decide)) (λ_=>?_);refine wpAny_ite_split (λ_=>?_) (λhab=>absurd (by decide +kernel) hab);refine wpAny_bind (wpAny_typeOf hT ?_);exact wpAny_pure h
theorem xk{es:Array (Int×Value)}{t:SetTable}{ns:List Int}{ep:Nat}{a:Addr}{o:Obj}(S:ISt w es t ns)(hex:o.ExactSet)(hd:o.data=.set es ep t):
  KdlSrc prog w "set" a a es.size (λi v=>(fz w a ep es)[i]?.map (·.2)=some v) (λh=>h.get? a=some o) where
 type:=λ_ hm=>⟨o,hm,hex.1⟩
 there:=λ_ hm=>⟨lt_size hm,lt_size hm⟩
 keep:=λ_ _ hm hk=>hk a (.inl rfl) o hm
 notList:=by decide
 notTuple:=by decide
 hint:=λ_ _ _ _ hm hq=>vk ⟨o,hm,hex.1⟩ hq
 iter:=λA s hh hm=>⟨{cls:=.type "set_iterator",data:=.fields #[.int 0 0,.int 0 0,.ref a,.int es.size 0,.int ep 0]},_,(λ_ _ hq=>vj S hm hex hd hq),sU S hh _ a (ne_of_lt (lt_size hm)) o hd,
  ⟨⟨_,0,get?_push_size _ rfl,rfl,rfl,λ_=>by
   obtain⟨l,T,hl⟩:=S.tb;obtain⟨b1,b2,b3⟩:=cO T.up 0;rw[T.pl];rcases Nat.eq_zero_or_pos (below l.toArray 0)with z|z
   ·exact z
   ·have:=b2 0 (by omega) z;omega⟩,get?_push_of_some _ hm⟩⟩
end
theorem IS.at{w:World}{h h':Heap}{S:Addr}{ns:List Int}(x:IS w h S ns)(k:∀o,h.get? S=some o→h'.get? S=some o):IS w h' S ns:=by
 obtain⟨o,es,ep,t,ho,r⟩:=x;exact⟨o,es,ep,t,k o ho,r⟩
theorem pc{w:World}{h:Heap}{a:Addr}(ho:h.get? a=some {cls:=.type "set",dict:=none,data:=.set #[] 0 (.fresh 0 0 (!bt w))}):IS w h a [] :=
 ⟨_,#[],0,_,ho,⟨rfl,rfl,rfl⟩,rfl,⟨⟨λ_=>0,rfl⟩,nodup_nil,⟨[],⟨rfl,rfl,Pairwise.nil,λ_ h=>by simp at h⟩,rfl⟩,Or.inl rfl,(by show 0<21;decide),rfl,λz=>by show(!bt w)=true;rw[z];rfl⟩⟩
section
variable{prog:Program}{w:World}{A:Around}{R:Result→Shared→Prop}{I:Addr}{fp wr:List Addr}{G:Array GenState→Array GenState→Prop}{n:Nat}{P:Nat→Value→Prop}{St:Nat→Shared→Prop}
end
section
variable{prog:Program}{w:World}{A:Around}{E:Value→Shared→Prop}{s:Shared}
theorem ll(a:Value){Q₁:Value→Shared→Prop}(h:Q₁ (.ref s.heap.objs.size) {s with heap:=s.heap.push {cls:=.type "set",dict:=none,data:=.set #[] 0 (.fresh 0 0 (!bt w))}}):
  codeAny (model prog w) A (.call (.builtin "set.__new__") ⟨[.type "set",a],[]⟩) (wants Q₁ E) s:=by
 refine codeAny_of_tree ?_;show wpAny _ A.in1 (do checkBuiltinCall "set.__new__" ⟨[.type "set",a],[]⟩;again (.builtin "set.__new__" ⟨[.type "set",a],[]⟩)) _ _ s
 refine wpAny_bind (wpAny_of_eq (F.newCall_set_1 a) (wpAny_pure ⟨plainId_quiet F.plain_set_new _,codeAny_builtin F.entry_set_new ?_⟩));rw[Around.under_plainId F.plain_set_new _];unfold Builtin.«set.__new__» Builtin.Frozenset.newClass;have hsub:=sub_set_self;obtain⟨hp,g,d,tk,os⟩:=s;dsimp only
 wp_walk
 refine wpAny_askSetting (wpAny_pure ?_);dsimp only;simp only[newObj];refine wpAny_bind (wpAny_alloc (wpAny_pure ?_));exact wpAny_pure h
set_option maxRecDepth 100000 in
set_option maxHeartbeats 3200000 in
theorem nu{x:Value}{Q:Value→Shared→Prop}(h:wpAny (model prog w) A.in1.in1 (Builtin.«set.__init__» ⟨[.ref s.heap.objs.size,x],[]⟩)
   (λfin s'=>match fin with | .done f=>wants (λr s₂=>r=.none∧Q (.ref s.heap.objs.size) s₂) E (.ok f) s' | .again c'=>c'.quiet=true∧codeAny (model prog w) A.in1 c' (wants (λr s₂=>r=.none∧Q (.ref s.heap.objs.size) s₂) E) s')
   (λe s'=>wants (λr s₂=>r=.none∧Q (.ref s.heap.objs.size) s₂) E (.error e) s') {s with heap:=s.heap.push {cls:=.type "set",dict:=none,data:=.set #[] 0 (.fresh 0 0 (!bt w))}}):
  wpAny (model prog w) A (call (.type "set") [x]) Q E s:=by
 obtain⟨c,tl,hmro⟩:=F.called_set.mro;have hmade:=F.called_set.made;have hsub:=F.called_set.sub;refine wpAny_call (codeAny_of_tree ?_);show wpAny _ _ (callAny (.type "set") _) _ _ _;refine wpAny_pure ⟨Code.quiet_builtin _ (by decide +kernel),codeAny_builtin F.entry_type_call ?_⟩;rw[Around.under_plain (weight_type_call_type "set" [x] []) rfl];have h1:=F.called_set.notType;have h2:=F.called_set.canCreate;have hct:=F.typeCall_set_1 x
 repeat (any_goals (first|assumption|wp_step))
 refine codeAny_mono (ll x (E:=E) (Q₁:=λobj s₁=>obj=.ref s.heap.objs.size∧s₁={s with heap:=s.heap.push {cls:=.type "set",dict:=none,data:=.set #[] 0 (.fresh 0 0 (!bt w))}}) ⟨rfl,rfl⟩) λr s₁ hr=>?_
 cases r with
 |error e=>exact hr
 |ok fl =>
  cases fl with
  |ret obj =>
   obtain⟨rfl,rfl⟩:=hr;have hS:(s.heap.push {cls:=.type "set",dict:=none,data:=.set #[] 0 (.fresh 0 0 (!bt w))}).get? s.heap.objs.size=some {cls:=.type "set",dict:=none,data:=.set #[] 0 (.fresh 0 0 (!bt w))}:=get?_push_size _ rfl;have hT:Shared.TypeIs {s with heap:=s.heap.push {cls:=.type "set",dict:=none,data:=.set #[] 0 (.fresh 0 0 (!bt w))}} (.ref s.heap.objs.size) "set":=⟨_,hS,rfl⟩
   have hli:=F.called_set.init.lookup;have hbi:=F.called_set.init.bind (.ref s.heap.objs.size)
   repeat (any_goals (first|assumption|wp_step))
   refine codeAny_mono (codeAny_call_builtin (R:=wants (λr s₂=>r=.none∧Q (.ref s.heap.objs.size) s₂) E) F.called_set.init.plain F.entry_set_init (check_set_init_1 hT ?_)) λr₂ s₂ hr₂=>?_
   ·exact h
   ·cases r₂ with
    |error e=>exact hr₂
    |ok fl₂ =>
     cases fl₂ with
     |ret r =>
      obtain⟨rfl,hq⟩:=hr₂
      repeat (any_goals (first|assumption|wp_step))
     |_=>exact hr₂.elim
  |_=>exact hr.elim
end
end TB
namespace SRT
open PySem PySem.W PyProof.Rows
section
variable{prog:Program}{w:World}{A:Around}{E:Value→Shared→Prop}{s:Shared}
theorem ph{f:Nat→Nat→Bool}{vs:List Value}{κ:SortKind}{Q:Value→Shared→Prop}(O:Ord f vs.length)(h64:vs.length<64)(hk:∀(A':Around) (s':Shared),A'.units≤A.units+1→(∀b o,s.heap.get? b=some o→s'.heap.get? b=some o)→∀Q:SortKind→Shared→Prop,2≤vs.length→Q κ s'→wpAny (model prog w) A' (keyKind' vs.toArray) Q (λ_ _=>False) s')(hlt:∀(A':Around) (s':Shared),A'.units≤A.units+1→(∀b o,s.heap.get? b=some o→s'.heap.get? b=some o)→∀(i j:Nat) (C:Bool→Shared→Prop),i<vs.length→j<vs.length→C (f i j) s'→wpAny (model prog w) A' (keyLt' κ (vs.getD i Value.none) (vs.getD j Value.none)) C (λ_ _=>False) s')(h:∀(p:Array Nat) (h':Heap),Row vs.length p→Up f p vs.length→(∀b o,s.heap.get? b=some o→h'.get? b=some o)→(∃k,h'.get? s.heap.objs.size=some (seqObj "list" (toArray (p.toList.map λi=>vs.getD i Value.none)) k))→Q (.ref s.heap.objs.size) {s with heap:=h'}):
  wpAny (model prog w) A (do
   let l ← newList vs
   let _ ← holding [l] (call (.builtin "list.sort") [l] [])
   ret l) (λfin s'=>∃v,fin=.done (.ret v)∧Q v s') E s:=by
 refine wpAny_bind (wpAny_newList ?_ (by rw[sizeLine_eq];omega));have hoL:(s.heap.push (seqObj "list" vs.toArray 0)).get? s.heap.objs.size=some (seqObj "list" vs.toArray 0):=get?_push_size _ rfl;have keep:∀b o,s.heap.get? b=some o→(s.heap.push (seqObj "list" vs.toArray 0)).get? b=some o:=λb o q=>get?_push_of_some _ q;have neD:∀b o,s.heap.get? b=some o→b≠s.heap.objs.size:=λb o q=>ne_of_lt (lt_size q);show wpAny _ _ _ _ _ {s with heap:=s.heap.push (seqObj "list" vs.toArray 0)}
 refine wpAny_bind (wpAny_holding (wpAny_call_entry slot_list_sort ⟨_,hoL,rfl⟩ entry_list_sort (hX (κ:=κ) (s:={s with heap:=s.heap.push (seqObj "list" vs.toArray 0)}) O hoL h64 ?_ ?_ λp hr hu=>⟨_,rfl,?_⟩) (args_list_sort _)))
 ·intro s' hs' Q' h2 hq;exact hk _ s' (by simp[Around.in1_units]) (λb o e=>hs' b o (neD b o e) (keep b o e)) Q' h2 hq
 ·intro s' hs' i j C hi hj hC;exact hlt _ s' (by simp[Around.in1_units]) (λb o e=>hs' b o (neD b o e) (keep b o e)) i j C hi hj hC
 ·refine wpAny_pure ⟨_,rfl,h p _ hr hu (λb o e=>?_) ?_⟩
  ·unfold sortedHeap;rw[get?_update_ne _ _ _ _ (neD b o e)];refine get?_push_of_some _ (get?_push_of_some _ ?_);rw[get?_update_ne _ _ _ _ (neD b o e)];exact keep b o e
  ·unfold sortedHeap;obtain⟨e1,ho1⟩:∃e1,((s.heap.push (seqObj "list" vs.toArray 0)).update s.heap.objs.size (Obj.mapSeq λ_=>(#[]:Array Value))).get? s.heap.objs.size=some (seqObj "list" #[] e1):=⟨_,get?_update_seq hoL λ_=>#[]⟩;exact⟨_,get?_update_seq (get?_push_of_some _ (get?_push_of_some _ ho1)) _⟩
theorem pi{T:String}{r d:Addr}{n:Nat}{P:Nat→Value→Prop}{OK:Heap→Prop}{Q:List Value→Shared→Prop}(K:KdlSrc prog w T r d n P OK)(hh:A.handled=none)(hok:OK s.heap)(hn:n≤sizeLine)(hQ:∀h' tk acc,(∀b o,s.heap.get? b=some o→h'.get? b=some o)→s.heap.objs.size<h'.objs.size→ItemsOf P acc n→Q acc.toList {s with heap:=h',toks:=tk}):wpAny (model prog w) A (collect (.ref r)) Q E s:=by
 unfold collect;refine wpAny_bind (wpAny_runValue (codeAny_builtin entry_proto_collect' ?_));show wpAny _ _ (do again (.builtin "list.__iadd__" ⟨[←newList [],.ref r],[]⟩)) _ _ s
 refine wpAny_bind (wpAny_newList (wpAny_pure ⟨Code.quiet_builtin _ (by decide +kernel),codeAny_builtin entry_list_iadd' ?_⟩));rw[Around.under_plainId PySem.F.plain_list_iadd _];show wpAny _ _ (Builtin.List.listExtendWith (.ref s.heap.objs.size) (.ref r) (.ref s.heap.objs.size)) _ _ {s with heap:=s.heap.push (seqObj "list" #[] 0)}
 have hlt:=K.there _ hok;have hS:(s.heap.push (seqObj "list" #[] 0)).get? s.heap.objs.size=some (seqObj "list" #[] 0):=get?_push_size _ rfl;have key:=PySem.W.kdl_extend (A:=A) (s:={s with heap:=s.heap.push (seqObj "list" #[] 0)}) (R:=λr s'=>∃h' tk acc c',r=.ok (.ret (.ref s.heap.objs.size))∧s'={s with heap:=h',toks:=tk}∧(∀b o,s.heap.get? b=some o→h'.get? b=some o)∧h'.get? s.heap.objs.size=some {cls:=.type "list",dict:=none,data:=.seq acc c',slots:=#[]}∧ItemsOf P acc n)
  K hh (K.keep _ _ hok λb _ o e=>get?_push_of_some _ e) s.heap.objs.size (ne_of_gt hlt.1) (ne_of_gt hlt.2) (.ref s.heap.objs.size) 0 hS (λh' tk acc' c' hk hS' hacc=>⟨h',tk,acc',c',rfl,rfl,λb o e=>hk b o (ne_of_lt (lt_size e)) (get?_push_of_some _ e),hS',hacc⟩) hn
 have fin:∀(h':Heap)(tk:Nat)(acc:Array Value)(c':Nat),(∀b o,s.heap.get? b=some o→h'.get? b=some o)→h'.get? s.heap.objs.size=some {cls:=.type "list",dict:=none,data:=.seq acc c',slots:=#[]}→ItemsOf P acc n→wpAny (model prog w) A (do
   let o ← load s.heap.objs.size
   match o.data with
   |.seq xs _=>pure xs.toList
   | _=>unsupported "internal:collect") Q E {s with heap:=h',toks:=tk}:=λh' tk acc c' hk hS' hacc=>by
  refine wpAny_bind (wpAny_load hS' ?_);exact wpAny_pure (hQ h' tk acc hk (lt_size hS') hacc)
 refine wpAny_mono key (λfn s' hf=>?_) λe s' hf=>?_
 ·cases fn with
  |done f =>
   obtain⟨h',tk,acc,c',e1,e2,hk,hS',hacc⟩:=hf;cases e1;subst e2;exact fin h' tk acc c' hk hS' hacc
  |again c =>
   refine⟨hf.1,codeAny_mono hf.2 λr s' hr=>?_⟩;obtain⟨h',tk,acc,c',e1,e2,hk,hS',hacc⟩:=hr;subst e1 e2;exact fin h' tk acc c' hk hS' hacc
 ·obtain⟨h',tk,acc,c',e1,_⟩:=hf;cases e1
theorem kr{T:String}{r d:Addr}{n:Nat}{P:Nat→Value→Prop}{OK:Heap→Prop}{κ:SortKind}{Q:Value→Shared→Prop}(K:KdlSrc prog w T r d n P OK)(hh:A.handled=none)(hok:OK s.heap)(hn:n≤sizeLine)(hQ:∀(h1:Heap) (tk:Nat) (vs:List Value),(∀b o,s.heap.get? b=some o→h1.get? b=some o)→s.heap.objs.size<h1.objs.size→ItemsOf P vs.toArray n→∃f:Nat→Nat→Bool,Ord f vs.length∧vs.length<64 ∧
   (∀(A':Around) (s':Shared),A'.units≤A.units+2→(∀b o,s.heap.get? b=some o→s'.heap.get? b=some o)→∀Q:SortKind→Shared→Prop,2≤vs.length→Q κ s'→wpAny (model prog w) A' (keyKind' vs.toArray) Q (λ_ _=>False) s') ∧
   (∀(A':Around) (s':Shared),A'.units≤A.units+2→(∀b o,s.heap.get? b=some o→s'.heap.get? b=some o)→∀(i j:Nat) (C:Bool→Shared→Prop),i<vs.length→j<vs.length→C (f i j) s'→wpAny (model prog w) A' (keyLt' κ (vs.getD i Value.none) (vs.getD j Value.none)) C (λ_ _=>False) s') ∧
   ∀(p:Array Nat) (h':Heap),Row vs.length p→Up f p vs.length→(∀b o,s.heap.get? b=some o→h'.get? b=some o)→(∃k,h'.get? h1.objs.size=some (seqObj "list" (toArray (p.toList.map λi=>vs.getD i Value.none)) k))→Q (.ref h1.objs.size) {s with heap:=h',toks:=tk}):
  wpAny (model prog w) A (call (.builtin "sorted") [.ref r]) Q E s:=by
 refine Calls.call_function_entry kind_sorted plain_sorted entry_sorted (args_sorted1 _) ?_;unfold Builtin.«sorted»;refine wpAny_bind (m:=checkCount "sorted" 1 1 _) (wpAny_pure ?_);refine wpAny_bind (pi K hh hok hn λh1 tk acc hk hlt hacc=>?_);obtain⟨f,O,h64,hkk,hltt,hq⟩:=hQ h1 tk acc.toList hk hlt (by rw[Array.toArray_toList];exact hacc);exact ph (s:={s with heap:=h1,toks:=tk}) O h64 (λA' s' hu hk'=>hkk A' s' (by have:=hu;simp only[Around.in1_units]at this;omega) λb o e=>hk' b o (hk b o e)) (λA' s' hu hk'=>hltt A' s' (by have:=hu;simp only[Around.in1_units]at this;omega) λb o e=>hk' b o (hk b o e))
  λp h' hr hu' hk' hg=>hq p h' hr hu' (λb o e=>hk' b o (hk b o e)) hg
end
end SRT
namespace L2
open PySem PySem.Spec PyProof.Rows
section
variable{X:Cx}
def cy(w:World)(a:Addr)(ns:List Int):HO:=.ext λh=>TB.IS w h a ns
theorem Inv.intS{pins:List (Addr×Obj)}{σ:St}{H:Hp}{s:Shared}(I:Inv X pins σ H s){a:Addr}{ns:List Int}(h:H a=some (cy X.w a ns)):TB.IS X.w s.heap a ns:=(I.hok a _ h).1
theorem Inv.layS{pins:List (Addr×Obj)}{σ:St}{H:Hp}{s:Shared}(I:Inv X pins σ H s){h':Heap}{t':Nat}{a:Addr}{ns:List Int}(k:∀b u,s.heap.get? b=some u→h'.get? b=some u)(hp:s.heap.objs.size≤a)(hS:TB.IS X.w h' a ns):
  Inv X pins σ (upd H a (cy X.w a ns)) {s with heap:=h',toks:=t'}:=by
 obtain⟨o,es,ep,t,ho,r⟩:=id hS;exact I.laid k hp ⟨hS,⟨o,ho⟩,λh1 h2 hI hh=>hI.at hh⟩
theorem fG(hc:X.calm=true):cz X (.builtin "sorted") (λxs H Q=>∃l,∃ns:List Int,xs=[.ref l]∧H l=some (cy X.w l ns)∧ns.length≤60 ∧
  ∀ms:List Int,ms.Perm ns→ms.Pairwise (λa b=>a<b)→∀p,H p=none→Q (.ref p) (upd H p (.lst (ms.map V.int)))):=by
 intro pins s σ H xs us Q I r h;obtain⟨l,ns,rfl,hl,h60,q⟩:=h;obtain⟨u,rfl,ru⟩:=eB r;cases ru;obtain⟨o,es,ep,t,ho,hex,hd,S⟩:=I.intS hl;obtain⟨tk0,hent⟩:=S.ent;obtain⟨ns',hperm,hord⟩:=TB.dy (TB.kq X.w l ep es) hent;have hnd':ns'.Nodup:=hperm.nodup_iff.mpr S.nd;have hl':ns'.length=ns.length:=hperm.length_eq;refine SRT.kr (κ:=oneType') (TB.xk S hex hd) (I.ok.hd hc) ho (by rw[S.size,sizeLine_eq];omega) λh1 tk vs hk1 hlt1 hit=>?_;have evs:vs=ns'.map λn=>Value.int n (tk0 n):=by
  apply ext_getElem?;intro i;have hvl:vs.length=es.size:=by have:=hit.1;rw[size_toArray]at this;exact this
  by_cases hi:i<vs.length
  ·have:Option.map (λx=>x.2) (TB.fz X.w l ep es)[i]?=some vs[i]:=hit.2 i vs[i] (by rw[List.getElem?_toArray];exact getElem?_eq_getElem hi);rw[getElem?_eq_getElem hi,getElem?_map];rw[←getElem?_toList,hord,getElem?_map]at this;cases e:ns'[i]? with
   |none=>rw[e]at this;cases this
   |some n =>
    rw[e]at this;have e2:(TB.im tk0 n).2=vs[i]:=Option.some.inj this;show some vs[i]=some (Value.int n (tk0 n));rw[←e2];rfl
  ·rw[getElem?_eq_none (by omega),getElem?_eq_none (by rw[length_map,hl',←S.size];omega)]
 have hvl:vs.length=ns'.length:=by rw[evs,length_map]
 have gd:∀i,i<ns'.length→vs.getD i Value.none=.int (ns'.getD i 0) (tk0 (ns'.getD i 0)):=λi hi=>by
  rw[evs,uG (d:=(0:Int)) hi]
 have rv:aH (ns'.map V.int) vs:=by
  rw[evs];clear hperm hord hnd' hl' evs hvl gd hit
  induction ns' with
  |nil=>exact .nil
  |cons n ns' ih=>exact .cons ⟨_,rfl⟩ ih
 refine⟨λi j=>decide (ns'.getD i 0<ns'.getD j 0),⟨λi _=>by simp,λi j k _ _ _ h1 h2=>?_,λi j hi hj hij=>?_⟩,by omega,λA' s' _ _ Q' h2 hQ=>?_,λA' s' _ _ i j C hi hj hC=>?_,λp h' hrow hup kp hg=>?_⟩
 ·simp only[decide_eq_true_eq]at *;omega
 ·simp only[decide_eq_true_eq];have:ns'.getD i 0≠ns'.getD j 0:=by
   rw[getD_eq_getElem?_getD,getD_eq_getElem?_getD,getElem?_eq_getElem (by omega),getElem?_eq_getElem (by omega)];exact λe=>hij ((getElem_inj hnd').mp e)
  omega
 ·rw[ksk_kind (keys:=vs.toArray) (kz:=ns') (by simpa using na rv) (by rw[size_toArray];omega)];exact wpAny_pure hQ
 ·rw[gd i (by omega),gd j (by omega)];exact kat_lt_int hC
 ·obtain⟨c,hg⟩:=hg;rw[hvl]at hrow hup;have hin:∀i∈p.toList,i<ns'.length:=λi hi=>mem_range.mp (hrow.perm.mem_iff.mp hi);have hperm2:(p.toList.map λi=>ns'.getD i 0).Perm ns':=by
   refine(hrow.perm.map _).trans ?_;have:(List.range ns'.length).map (λi=>ns'.getD i 0)=ns':=by
    apply ext_getElem?;intro i;rw[getElem?_map]
    by_cases hi:i<ns'.length
    ·rw[getElem?_range hi,(cX (d:=(0:Int)) hi).2];rfl
    ·rw[getElem?_eq_none (by rw[length_range];omega),getElem?_eq_none (by omega)];rfl
   rw[this]
  have hpl:p.size=ns'.length:=hrow.size;have hpw:(p.toList.map λi=>ns'.getD i 0).Pairwise (λa b=>a<b):=by
   rw[pairwise_iff_getElem];intro i j hi hj hij;have hi':i<p.size:=by rw[length_map,length_toList]at hi;exact hi
   have hj':j<p.size:=by rw[length_map,length_toList]at hj;exact hj
   have:=hup i j hij (by omega);simp only[]at this;rw[getD_eq_getD_getElem?,getD_eq_getD_getElem?,Array.getElem?_eq_getElem hi',Array.getElem?_eq_getElem hj']at this;simpa using this
  refine⟨.ref h1.objs.size,_,I.laid (t':=tk) (o:=.lst ((p.toList.map λi=>ns'.getD i 0).map V.int)) kp (le_of_lt hlt1) ⟨?_,_,c,iK rv p.toList hin,hg⟩,rfl,q _ (hperm2.trans hperm) hpw _ (I.hok.fresh (le_of_lt hlt1))⟩;rw[length_map,hperm2.length_eq,sizeLine_eq];omega
end
end L2
namespace TB
open PySem PySem.SetTable
theorem xl{mask finger moves:Nat}{led plain:Bool}{hashes:Array Int}(c:Cyc mask)(hl:hashes.size≤mask+1):
  ∃(t':SetTable) (zs:List (Nat×Nat)),SetTable.laid mask finger moves led plain hashes=some (t',(zs.map (·.2)).toArray)∧t'.mask=mask∧t'.led=led∧t'.plain=plain ∧
   Tb t' (zs.map (·.1))∧(zs.map (·.2)).Perm (List.range hashes.size):=by
 obtain⟨owner,e,L⟩:=iY c hashes hl;refine⟨{mask:=mask,place:=((live mask owner).map (·.1)).toArray,dummies:=#[],finger:=finger,led:=led,moves:=moves,plain:=plain},live mask owner,?_,rfl,rfl,rfl,⟨rfl,rfl,?_,?_⟩,?_⟩
 ·unfold laid;rw[e];rfl
 ·unfold Up live;rw[List.map_filterMap];have e1:((List.range (mask+1)).filterMap λj=>((owner.getD j none).map (j,·)).map (·.1))=(List.range (mask+1)).filter λj=>(owner.getD j none).isSome:=by
   generalize List.range (mask+1)=l
   induction l with
   |nil=>rfl
   |cons x l ih =>
    cases ex:owner.getD x none with
    |none=>rw[filterMap_cons_none (by rw[ex];rfl),filter_cons_of_neg (by simp[ex])];exact ih
    |some i=>rw[filterMap_cons_some (b:=x) (by rw[ex];rfl),filter_cons_of_pos (by simp[ex]),ih]
  rw[e1];exact Pairwise.sublist filter_sublist List.pairwise_lt_range
 ·intro j hj;obtain⟨z,hz,rfl⟩:=mem_map.mp hj;unfold live at hz;obtain⟨k,hk,e1⟩:=mem_filterMap.mp hz;cases ex:owner.getD k none with
  |none=>rw[ex]at e1;cases e1
  |some i =>
   rw[ex]at e1;have e2:(k,i)=z:=Option.some.inj e1;subst e2;have:=mem_range.mp hk;show k≤mask;omega
 ·have:=L.perm;rw[length_toList]at this;exact this
theorem pj{es:Array (Int×Value)}{zs:List (Nat×Nat)}(h:(zs.map (·.2)).Perm (List.range es.size)):(((zs.map (·.2)).toArray).filterMap (λi=>es[i]?)).toList.Perm es.toList:=by
 rw[Array.toList_filterMap];exact(h.filterMap _).trans (by rw[filterMap_getElem?_range])
section
variable{prog:Program}{w:World}{A:Around}{E:Value→Shared→Prop}{s:Shared}
theorem vm{a:Addr}{ns:List Int}{wanted:Nat}{Q:Unit→Shared→Prop}(hS:IS w s.heap a ns)(hw:wanted≤255)(hroom:ns.length*5<(sizeAbove wanted-1)*3)(h:∀h' ns' o es ep t,SameBut a s.heap h'→h'.get? a=some o→o.ExactSet→o.data=.set es ep t→ISt w es t ns'→ns'.Perm ns→t.mask=sizeAbove wanted-1→Q () {s with heap:=h'}):wpAny (model prog w) A (setRelay a wanted) Q E s:=by
 obtain⟨o,es,ep,t,ho,hex,hd,S⟩:=hS;obtain⟨hmk,hle,h256⟩:=gY hw;have hsz:=S.size;have hge:=hmk.ge;unfold setRelay;refine wpAny_bind (wpAny_setState_of ho hd S.fits ?_);dsimp only;rw[if_neg (by rw[sizeLine_eq];omega)];obtain⟨t',zs,e,hm,hled,hpl,T,hperm,_⟩:=iI (t:=t) (hashes:=es.map (·.1)) (wanted:=wanted) hmk.cyc (by rw[size_map];omega);rw[size_map]at hperm;have hp:=pj hperm;have hsz2:(((zs.map (·.2)).toArray).filterMap (λi=>es[i]?)).size=es.size:=by rw[←length_toList,hp.length_eq,length_toList]
 obtain⟨tk,hent⟩:=S.ent;obtain⟨ns',hns',hes'⟩:=dy hp hent;have hzl:zs.length=es.size:=by
  have:=hperm.length_eq;rw[length_map,length_range]at this;exact this
 have hnl:ns'.length=ns.length:=hns'.length_eq;refine wpAny_bind ?_;rw[e];show wpAny _ _ (@ite _ _ _ _ _) _ _ _;rw[if_neg (by rw[hsz2];simp)];refine wpAny_pure ?_;dsimp only;refine wpAny_storeSet_of ho hd ?_ (by rw[hsz2,sizeLine_eq];omega);exact h _ ns' _ _ _ t' (SameBut.update s.heap a _) (stored ho hd _ t') hex rfl ⟨⟨tk,hes'⟩,hns'.nodup_iff.mpr S.nd,⟨_,T,by rw[length_map];omega⟩,by rw[hm];exact hmk,by rw[hm,hnl];exact hroom,by rw[hpl];exact S.pl,λz=>by rw[hled];exact S.led z⟩ hns' hm
theorem nv{a:Addr}{ns:List Int}{more:Nat}{Q:Unit→Shared→Prop}(hS:IS w s.heap a ns)(hw:ns.length+more≤120)(h:∀h' ns' o es ep t,SameBut a s.heap h'→h'.get? a=some o→o.ExactSet→o.data=.set es ep t→ISt w es t ns'→ns'.Perm ns→(ns.length+more)*5<t.mask*3→Q () {s with heap:=h'}):wpAny (model prog w) A (setRoomFor a more) Q E s:=by
 obtain⟨o,es,ep,t,ho,hex,hd,S⟩:=id hS;obtain⟨l,T,hl⟩:=S.tb;have hfill:t.fill=ns.length:=by rw[gl T,hl]
 have hpl:t.place.size=ns.length:=by rw[T.pl,size_toArray,hl]
 unfold setRoomFor;refine wpAny_bind (wpAny_setState_of ho hd S.fits ?_);dsimp only
 by_cases hc:(t.fill+more)*5≥t.mask*3
 ·have e:t.roomFor more=some ((t.place.size+more)*2):=by unfold SetTable.roomFor;rw[if_pos hc]
  rw[e];dsimp only;rw[hpl];obtain⟨hmk,hle,_⟩:=gY (w:=(ns.length+more)*2) (by omega);have hge:=hmk.ge;have hge2:=S.mkm.ge;refine vm hS (by omega) (by omega) λh' ns' o' es' ep' t' hsb ho' hex' hd' S' hp hm=>h h' ns' o' es' ep' t' hsb ho' hex' hd' S' hp ?_;rw[hm];omega
 ·have e:t.roomFor more=none:=by unfold SetTable.roomFor;rw[if_neg hc]
  rw[e];dsimp only;have es':s={s with heap:=s.heap}:=by cases s;rfl
  rw[es'];exact wpAny_pure (h s.heap ns o es ep t (SameBut.refl a s.heap) ho hex hd S (.refl _) (by rw[hfill]at hc;omega))
theorem lM{a b:Addr}{ns:List Int}{each:Sem Unit}{Q:Unit→Shared→Prop}(hab:a≠b)(ha:IS w s.heap a [])(hb:IS w s.heap b ns)(hn:ns.length≤60)(h:∀h' ns',SameBut a s.heap h'→IS w h' a ns'→ns'.Perm ns→Q () {s with heap:=h'}):wpAny (model prog w) A (setMerge a b each) Q E s:=by
 obtain⟨ob,eb,epb,tb,hob,hexb,hdb,Sb⟩:=id hb;unfold setMerge;have hne:(a==b)=false:=by simpa using hab
 rw[hne];simp only[false_eq_true,if_false];refine wpAny_bind (wpAny_setState_of hob hdb Sb.fits ?_);dsimp only;have es':s={s with heap:=s.heap}:=by cases s;rfl
 by_cases he:eb.isEmpty=true
 ·rw[he];simp only[if_true];have hz:ns=[]:=by
   have:=Sb.size;have h0:eb.size=0:=by simpa [isEmpty]using he
   exact length_eq_zero_iff.mp (by omega)
  subst hz;rw[es'];exact wpAny_pure (h s.heap [] (SameBut.refl a s.heap) ha (.refl _))
 ·have he':eb.isEmpty=false:=by simpa using he
  rw[he'];simp only[false_eq_true,if_false];have hsb:=Sb.size;refine wpAny_bind (nv ha (by rw[length_nil];omega) λh1 ns1 o1 es1 ep1 t1 hs1 ho1 hex1 hd1 S1 hp1 hrm1=>?_);have e1:ns1=[]:=hp1.eq_nil;subst e1;rw[length_nil,zero_add]at hrm1;have hob1:h1.get? b=some ob:=(hs1.2 b (Ne.symm hab)).trans hob;refine wpAny_bind (wpAny_setState_of (s:={s with heap:=h1}) ho1 hd1 S1.fits ?_);dsimp only;obtain⟨l1,T1,hl1⟩:=S1.tb;have hfill1:t1.fill=0:=by rw[gl T1,hl1];rfl
  obtain⟨lb,Tb1,hlb⟩:=Sb.tb;obtain⟨tk,hent⟩:=Sb.ent;have hge1:=S1.mkm.ge;cases hr:t1.road tb with
  |slotForSlot =>
   dsimp only;refine wpAny_storeSet_of (s:={s with heap:=h1}) ho1 hd1 ?_ (by rw[hsb,sizeLine_eq];omega);refine h _ ns (hs1.trans (SameBut.update ..)) ⟨_,_,_,_,stored (s:={s with heap:=h1}) ho1 hd1 _ _,hex1,rfl,⟨⟨tk,hent⟩,Sb.nd,⟨lb,⟨Tb1.pl,Tb1.nd,Tb1.up,Tb1.le⟩,hlb⟩,Sb.mkm,Sb.room,by show(t1.plain&&tb.plain)=true;rw[S1.pl,Sb.pl];rfl,λz=>by show(t1.led&&tb.led)=true;rw[S1.led z,Sb.led z];rfl⟩⟩ (.refl _)
  |clean =>
   dsimp only;obtain⟨t',zs,e,hm,hled,hpl,T,hperm⟩:=xl (mask:=t1.mask) (finger:=t1.finger) (moves:=t1.moves) (led:=t1.led&&tb.led) (plain:=t1.plain&&tb.plain) (hashes:=eb.map (·.1)) S1.mkm.cyc (by rw[size_map];omega);rw[size_map]at hperm;have hp:=pj hperm;have hsz2:(((zs.map (·.2)).toArray).filterMap (λi=>eb[i]?)).size=eb.size:=by rw[←length_toList,hp.length_eq,length_toList]
   obtain⟨ns',hns',hes'⟩:=dy hp hent;have hzl:zs.length=eb.size:=by
    have:=hperm.length_eq;rw[length_map,length_range]at this;exact this
   have hnl:ns'.length=ns.length:=hns'.length_eq;refine wpAny_bind ?_;rw[e];show wpAny _ _ (@ite _ _ _ _ _) _ _ _;rw[if_neg (by rw[hsz2];simp)];refine wpAny_pure ?_;dsimp only;refine wpAny_storeSet_of (s:={s with heap:=h1}) ho1 hd1 ?_ (by rw[hsz2,hsb,sizeLine_eq];omega);exact h _ ns' (hs1.trans (SameBut.update ..)) ⟨_,_,_,_,stored (s:={s with heap:=h1}) ho1 hd1 _ _,hex1,rfl,⟨⟨tk,hes'⟩,hns'.nodup_iff.mpr Sb.nd,⟨_,T,by rw[length_map];omega⟩,by rw[hm];exact S1.mkm,by rw[hm,hnl,←hsb];exact hrm1,by rw[hpl,S1.pl,Sb.pl];rfl,λz=>by rw[hled,S1.led z,Sb.led z];rfl⟩⟩ hns'
  |oneByOne =>
   exfalso
   unfold SetTable.road at hr;rw[hfill1]at hr;simp only[bne_self_eq_false,false_eq_true,if_false]at hr
   split at hr<;>cases hr
theorem xm{b:Addr}{o:Obj}{es:Array (Int×Value)}{ep:Nat}{t:SetTable}{ns:List Int}{Q:Array (Int×Value)→Shared→Prop}(S:ISt w es t ns)(ho:s.heap.get? b=some o)(hd:o.data=.set es ep t)(h:Q (fz w b ep es) s):wpAny (model prog w) A (setWalk b) Q E s:=by
 unfold setWalk;refine wpAny_bind (wpAny_setState_of ho hd S.fits ?_);unfold setsByText;refine wpAny_bind (wpAny_bind (wpAny_askSetting (wpAny_pure ?_)));show wpAny _ _ (if bt w=true then _ else _) _ _ _;unfold fz at h;cases hb:bt w with
 |true =>
  rw[hb]at h;simp only[if_true]at h⊢;exact wpAny_bind (wpAny_askSetting (wpAny_pure h))
 |false =>
  rw[hb]at h;simp only[false_eq_true,if_false]at h⊢;show wpAny _ _ (if (!t.plain&&decide (es.size>1))=true then _ else _) _ _ _
  rw[iR S];simp only[false_eq_true,if_false];refine wpAny_bind ?_;show wpAny _ _ (if (!t.led&&decide (es.size>1))=true then _ else _) _ _ _
  rw[S.led hb];simp only[Bool.not_true,Bool.false_and,false_eq_true,if_false];exact wpAny_pure (wpAny_pure h)
theorem pk{b:Addr}{os:List Addr}{f:Option Addr}{o:Obj}{es:Array (Int×Value)}{ep:Nat}{t:SetTable}{ns:List Int}{Q:Array (Int×Value)→Shared→Prop}(S:ISt w es t ns)(ho:s.heap.get? b=some o)(hd:o.data=.set es ep t)(h:Q (fz w b ep es) s):wpAny (model prog w) A (setWalkUnseen b os f) Q E s:=by
 unfold setWalkUnseen;refine wpAny_bind (wpAny_setState_of ho hd S.fits ?_);dsimp only;refine wpAny_bind ?_;unfold setsByText;refine wpAny_bind (wpAny_askSetting (wpAny_pure ?_));have hc:((model prog w).w.params.followText "set-order"||t.led&&t.plain||decide (es.size≤1))=true:=by
  cases hb:bt w with
  |true =>
   have:(model prog w).w.params.followText "set-order"=true:=hb;rw[this];rfl
  |false=>rw[S.led hb,S.pl];simp
 show wpAny _ _ (if ((model prog w).w.params.followText "set-order"||t.led&&t.plain||decide (es.size≤1))=true then _ else _) _ _ _
 rw[hc];simp only[if_true];exact xm S ho hd h
theorem vp{a b:Addr}{ms ns:List Int}{each:Sem Unit}{Q:Unit→Shared→Prop}(hab:a≠b)(ha:IS w s.heap a ms)(hb:IS w s.heap b ns)(hn:ms.length+ns.length≤60)(hE:∀(h':Heap) (Q':Unit→Shared→Prop),SameBut a s.heap h'→Q' () {s with heap:=h'}→wpAny (model prog w) A each Q' E {s with heap:=h'})(h:∀h' us,SameBut a s.heap h'→IS w h' a us→(∀x,x∈us↔x∈ms∨x∈ns)→Q () {s with heap:=h'}):wpAny (model prog w) A (setMerge a b each) Q E s:=by
 by_cases hms:ms=[]
 ·subst hms;exact lM hab ha hb (by omega) λh' ns' hsb hS hp=>h h' ns' hsb hS λx=>by rw[hp.mem_iff];simp
 ·obtain⟨ob,eb,epb,tb,hob,hexb,hdb,Sb⟩:=id hb;have hml:0<ms.length:=List.length_pos_iff.mpr hms;unfold setMerge;have hne:(a==b)=false:=by simpa using hab
  rw[hne];simp only[false_eq_true,if_false];refine wpAny_bind (wpAny_setState_of hob hdb Sb.fits ?_);dsimp only;have es':s={s with heap:=s.heap}:=by cases s;rfl
  by_cases he:eb.isEmpty=true
  ·rw[he];simp only[if_true];have hz:ns=[]:=by
    have:=Sb.size;have h0:eb.size=0:=by simpa [isEmpty]using he
    exact length_eq_zero_iff.mp (by omega)
   subst hz;rw[es'];exact wpAny_pure (h s.heap ms (SameBut.refl a s.heap) ha λx=>by simp)
  ·have he':eb.isEmpty=false:=by simpa using he
   rw[he'];simp only[false_eq_true,if_false];have hsb:=Sb.size;refine wpAny_bind (nv ha (by omega) λh1 ns1 o1 es1 ep1 t1 hs1 ho1 hex1 hd1 S1 hp1 hrm1=>?_);have hob1:h1.get? b=some ob:=(hs1.2 b (Ne.symm hab)).trans hob;refine wpAny_bind (wpAny_setState_of (s:={s with heap:=h1}) ho1 hd1 S1.fits ?_);dsimp only;obtain⟨l1,T1,hl1⟩:=S1.tb;have hfill1:t1.fill≠0:=by rw[gl T1,hl1,hp1.length_eq];omega
   have hroad:t1.road tb=.oneByOne:=by
    unfold SetTable.road;rw[if_pos (by simpa using hfill1)]
   rw[hroad];dsimp only;refine wpAny_bind (pk (s:={s with heap:=h1}) Sb hob1 hdb ?_);obtain⟨tk,hent⟩:=Sb.ent;obtain⟨ns',hns',hord⟩:=dy (kq w b epb eb) hent;have hnl:ns'.length=ns.length:=hns'.length_eq;rw[←forIn_toList,hord];refine wpAny_bind ?_;refine wpAny_forIn_list _ (λrest _ s'=>∃h' us i,s'={s with heap:=h'}∧rest=(ns'.drop i).map (im tk)∧SameBut a s.heap h'∧IS w h' a us∧(∀x,x∈us↔x∈ms∨x∈ns'.take i)∧us.length≤ms.length+i∧i≤ns'.length) _ ?_ ?_ _ _
    ⟨h1,ns1,0,rfl,rfl,hs1,⟨o1,es1,ep1,t1,ho1,hex1,hd1,S1⟩,λx=>by rw[hp1.mem_iff];simp,by rw[hp1.length_eq];omega,zero_le _⟩
   ·rintro⟨hh,xx⟩ rest bb s' ⟨h',us,i,rfl,hr,hsb',hS',hmem,hlen,hi⟩;have hlt:i<ns'.length:=by
     rcases lt_or_ge i ns'.length with z|z
     ·exact z
     ·rw[List.drop_of_length_le z]at hr;cases hr
    rw[List.drop_eq_getElem_cons hlt,map_cons]at hr;injection hr with hr1 hr2
    have hr3:hh=hashInt ns'[i]∧xx=Value.int ns'[i] (tk ns'[i]):=by
     have:(hh,xx)=(hashInt ns'[i],Value.int ns'[i] (tk ns'[i])):=hr1;injection this with q1 q2
     exact⟨q1,q2⟩
    obtain⟨rfl,rfl⟩:=hr3;refine wpAny_bind (wpAny_holding (add_int (s:={s with heap:=h'}) hS' (by omega) λr h2 us2 hsb2 hS2 hor=>?_));refine wpAny_bind (hE h2 _ (hsb'.trans hsb2) ?_);have hob2:h2.get? b=some ob:=((hsb'.trans hsb2).2 b (Ne.symm hab)).trans hob;refine wpAny_bind (wpAny_setState_of (s:={s with heap:=h2}) hob2 hdb Sb.fits ?_);rw[if_neg (by simp)];refine wpAny_pure ⟨h2,us2,i+1,rfl,hr2,hsb'.trans hsb2,hS2,λx=>?_,?_,hlt⟩
    ·have ht:ns'.take (i+1)=ns'.take i++[ns'[i]]:=by rw[take_succ,getElem?_eq_getElem hlt];rfl
     rw[ht,mem_append,mem_singleton];rcases hor with⟨hin,e⟩|⟨_,e⟩
     ·rw[e,hmem x];constructor
      ·rintro(z|z)
       ·exact .inl z
       ·exact .inr (.inl z)
      ·rintro(z|z|z)
       ·exact .inl z
       ·exact .inr z
       ·rw[z];exact(hmem _).mp hin
     ·rw[e.mem_iff,mem_cons,hmem x];constructor
      ·rintro(z|z|z)
       ·exact .inr (.inr z)
       ·exact .inl z
       ·exact .inr (.inl z)
      ·rintro(z|z|z)
       ·exact .inr (.inl z)
       ·exact .inr (.inr z)
       ·exact .inl z
    ·rcases hor with⟨_,e⟩|⟨_,e⟩
     ·rw[e];omega
     ·have:=e.length_eq;rw[length_cons]at this;omega
   ·rintro bb s' ⟨h',us,i,rfl,hr,hsb',hS',hmem,hlen,hi⟩;have hie:ns'.drop i=[]:=by simpa using hr.symm
    have hin:i=ns'.length:=by
     have:=congrArg length hie;rw[length_drop,length_nil]at this;omega
    refine wpAny_pure (h h' us hsb' hS' λx=>?_);rw[hmem x,hin,take_length,hns'.mem_iff]
end
theorem ny:entryFor table "set.__or__"=some Builtin.«frozenset.__or__» :=
 entryFor_alias (id':="frozenset.__or__") (by kernel_rfl) rfl (by decide +kernel) (by kernel_rfl)
section
variable{prog:Program}{w:World}{A:Around}{E:Value→Shared→Prop}{s:Shared}
theorem zh{Q:Value→Shared→Prop}(h:∀h',(∀b o,s.heap.get? b=some o→h'.get? b=some o)→IS w h' s.heap.objs.size []→Q (.ref s.heap.objs.size) {s with heap:=h'}):wpAny (model prog w) A (newSet (.type "set")) Q E s:=by
 unfold newSet setsByText;refine wpAny_bind (wpAny_bind (wpAny_askSetting (wpAny_pure ?_)));dsimp only;simp only[newObj];exact wpAny_bind (wpAny_alloc (wpAny_pure (h _ (λb o e=>get?_push_of_some _ e) (pc (get?_push_size _ rfl)))))
theorem nA{a:Addr}{Q:Bool→Shared→Prop}(hT:s.TypeIs (.ref a) "set")(h:Q true s):wpAny (model prog w) A (Builtin.Frozenset.isAnySet (.ref a)) Q E s:=by
 unfold Builtin.Frozenset.isAnySet;refine wpAny_bind (wpAny_isInstance (b:=true) hT sub_set_self ?_);exact wpAny_pure h
theorem xn{a:Addr}{ns:List Int}{Q:Value→Shared→Prop}(ha:IS w s.heap a ns)(hn:ns.length≤60)(h:∀h' us,(∀b o,s.heap.get? b=some o→h'.get? b=some o)→IS w h' s.heap.objs.size us→us.Perm ns→Q (.ref s.heap.objs.size) {s with heap:=h'}):wpAny (model prog w) A (Builtin.Frozenset.copyOf a) Q E s:=by
 obtain⟨o,es,ep,t,ho,hex,hd,S⟩:=id ha;have hT:s.TypeIs (.ref a) "set":=⟨o,ho,hex.1⟩;unfold Builtin.Frozenset.copyOf Builtin.Frozenset.baseOf;refine wpAny_bind ?_;refine wpAny_bind (wpAny_isInstance (b:=true) hT sub_set_self ?_);refine wpAny_pure ?_;simp only[if_true];refine wpAny_bind (zh λh1 hk hS=>?_);refine wpAny_bind ?_;show wpAny _ _ (pure s.heap.objs.size) _ _ _;refine wpAny_pure ?_;have hlt:a<s.heap.objs.size:=lt_size ho;refine wpAny_bind (lM (s:={s with heap:=h1}) (ne_of_gt hlt) hS (ha.at λo e=>hk a o e) hn λh' us hsb hS' hp=>?_);refine wpAny_pure (h h' us (λb o e=>?_) hS' hp);rw[hsb.2 b (ne_of_lt (lt_size e))];exact hk b o e
theorem vq{a b:Addr}{ms ns:List Int}{Q:Value→Shared→Prop}(hab:a≠b)(ha:IS w s.heap a ms)(hb:IS w s.heap b ns)(hn:ms.length+ns.length≤60)(h:∀h' us,(∀b o,s.heap.get? b=some o→h'.get? b=some o)→IS w h' s.heap.objs.size us→(∀x,x∈us↔x∈ms∨x∈ns)→Q (.ref s.heap.objs.size) {s with heap:=h'}):wpAny (model prog w) A (binaryOp .BitOr (.ref a) (.ref b)) Q E s:=by
 obtain⟨oa,ea,epa,ta,hoa,hexa,hda,Sa⟩:=id ha;obtain⟨ob,eb,epb,tb,hob,hexb,hdb,Sb⟩:=id hb;have hTa:s.TypeIs (.ref a) "set":=⟨oa,hoa,hexa.1⟩;have hTb:s.TypeIs (.ref b) "set":=⟨ob,hob,hexb.1⟩;refine wpAny_binaryOp_same hTa hTb F.fills_set_or F.slot_set_or (wpAny_call_entry F.slot_set_or hTa ny ?_ (F.args_set_or_2 _ _));unfold Builtin.«frozenset.__or__»;refine wpAny_bind ?_;unfold Builtin.Frozenset.slot1;refine wpAny_bind (wpAny_pure (wpAny_pure ?_));dsimp only;simp only[false_eq_true,if_false];refine wpAny_bind ?_;refine wpAny_bind (nA hTa ?_);show wpAny _ _ (Builtin.Frozenset.isAnySet (.ref b)) _ _ _;refine nA hTb ?_;simp only[Bool.not_true,false_eq_true,if_false];refine wpAny_bind ?_;show wpAny _ _ (pure a) _ _ _;refine wpAny_pure ?_;refine wpAny_bind ?_;refine wpAny_bind (xn ha (by omega) λh1 us hk hS hp=>?_);have hne:(Value.ref b != Value.ref a)=true:=by
  rw[bne_iff_ne];intro e;injection e with e
  exact hab e.symm
 rw[hne];simp only[if_true];refine wpAny_bind ?_;show wpAny _ _ (pure s.heap.objs.size) _ _ _;refine wpAny_pure ?_;refine wpAny_bind ?_;refine wpAny_holding ?_;unfold Builtin.Frozenset.updateFrom;have hob1:h1.get? b=some ob:=hk b ob hob;have hTb1:Shared.TypeIs {s with heap:=h1} (.ref b) "set":=⟨ob,hob1,hexb.1⟩
 refine wpAny_bind (nA hTb1 ?_);simp only[if_true];refine wpAny_bind ?_;show wpAny _ _ (pure b) _ _ _;refine wpAny_pure ?_;unfold Builtin.Frozenset.merge;refine wpAny_bind (wpAny_setEpoch_of (s:={s with heap:=h1}) hob1 hdb Sb.fits ?_);have hbn:s.heap.objs.size≠b:=ne_of_gt (lt_size hob);refine vp (s:={s with heap:=h1}) hbn hS (hb.at λo e=>hk b o e) (by rw[hp.length_eq];exact hn) (λh' Q' hsb hq=>?_) λh' vs hsb hS' hmem=>?_
 ·unfold Builtin.Frozenset.unchanged;have hob2:h'.get? b=some ob:=(hsb.2 b (Ne.symm hbn)).trans hob1;refine wpAny_bind (wpAny_setEpoch_of (s:={s with heap:=h'}) hob2 hdb Sb.fits ?_);rw[if_neg (by simp)];exact wpAny_pure hq
 ·refine wpAny_pure (wpAny_pure ⟨_,rfl,(λe=>nomatch e),h h' vs (λc o e=>?_) hS' λx=>by rw[hmem x,hp.mem_iff]⟩);rw[hsb.2 c (ne_of_lt (lt_size e))];exact hk c o e
theorem vt{d:Addr}{od:Obj}{ed:Array DictEntry}{epd:Nat}{ks:List Int}{Q:Value→Shared→Prop}(hod:s.heap.get? d=some od)(hexd:od.ExactDict)(hdd:od.data=.dict ed epd)(hsm:(d==sysModules)=false)(hk:∀(i:Nat) (e:DictEntry),ed[i]?=some e→∃k t,ks[i]?=some k∧e.key=.int k t∧e.hash=hashInt k)(hlen:ed.size=ks.length)(hn:ks.length≤60)(h:∀h' us,(∀b o,s.heap.get? b=some o→h'.get? b=some o)→IS w h' s.heap.objs.size us→(∀x,x∈us↔x∈ks)→Q (.ref s.heap.objs.size) {s with heap:=h'}):wpAny (model prog w) A (call (.type "set") [.ref d]) Q E s:=by
 refine nu ?_;have hS:(s.heap.push {cls:=.type "set",dict:=none,data:=.set #[] 0 (.fresh 0 0 (!bt w))}).get? s.heap.objs.size=some {cls:=.type "set",dict:=none,data:=.set #[] 0 (.fresh 0 0 (!bt w))}:=get?_push_size _ rfl;have hI:IS w (s.heap.push {cls:=.type "set",dict:=none,data:=.set #[] 0 (.fresh 0 0 (!bt w))}) s.heap.objs.size []:=pc hS;have hod1:(s.heap.push {cls:=.type "set",dict:=none,data:=.set #[] 0 (.fresh 0 0 (!bt w))}).get? d=some od:=get?_push_of_some _ hod;have hkeep:∀b o,s.heap.get? b=some o→(s.heap.push {cls:=.type "set",dict:=none,data:=.set #[] 0 (.fresh 0 0 (!bt w))}).get? b=some o:=λb o e=>get?_push_of_some _ e;have hdS:s.heap.objs.size≠d:=ne_of_gt (lt_size hod);generalize (s.heap.push {cls:=.type "set",dict:=none,data:=.set #[] 0 (.fresh 0 0 (!bt w))})=h0 at hS hI hod1 hkeep⊢;have hT:Shared.TypeIs {s with heap:=h0} (.ref d) "dict":=⟨od,hod1,hexd.1⟩
 have hTS:Shared.TypeIs {s with heap:=h0} (.ref s.heap.objs.size) "set":=⟨_,hS,rfl⟩
 have h1:isSubtype (.type "dict") (.type "set")=pure false:=by rw[isSubtype_type];kernel_rfl
 have h2:isSubtype (.type "dict") (.type "frozenset")=pure false:=by rw[isSubtype_type];kernel_rfl
 generalize hU:@Builtin.Frozenset.updateFrom=U;unfold Builtin.«set.__init__» noKeywords
 wp_walk
 rw[hdd];refine wpAny_pure ?_;refine wpAny_bind (wpAny_dictEntries (s:={s with heap:=h0}) hod1 hdd ?_);refine wpAny_bind (nv (s:={s with heap:=h0}) hI (by rw[length_nil];omega) λh3 ns3 o3 es3 ep3 t3 hs3 ho3 hex3 hd3 S3 hp3 _=>?_);have e3:ns3=[]:=hp3.eq_nil;subst e3;have hod3:h3.get? d=some od:=(hs3.2 d (Ne.symm hdS)).trans hod1;refine wpAny_bind (wpAny_dictEntries (s:={s with heap:=h3}) hod3 hdd ?_);refine wpAny_bind ?_;rw[Std.Legacy.Range.forIn_eq_forIn_range'];simp only[Std.Legacy.Range.size,Nat.sub_zero,Nat.add_sub_cancel,Nat.div_one];refine wpAny_forIn_list _ (λrest _ s'=>∃h' us i,s'={s with heap:=h'}∧rest=range' i (ed.size-i)∧i≤ed.size∧SameBut s.heap.objs.size h0 h'∧IS w h' s.heap.objs.size us∧(∀x,x∈us↔x∈ks.take i)∧us.length≤i) _ ?_ ?_ _ _
  ⟨h3,[],0,rfl,by simp,zero_le _,hs3,⟨o3,es3,ep3,t3,ho3,hex3,hd3,S3⟩,λx=>by simp,le_refl _⟩
 ·rintro x rest b s' ⟨h',us,i,rfl,hr,hi,hsb,hS',hmem,hl⟩;have hlt:i<ed.size:=by
   rcases lt_or_ge i ed.size with h|h
   ·exact h
   ·rw[Nat.sub_eq_zero_of_le h]at hr;simp at hr
  obtain⟨rfl,hrest⟩:x=i∧rest=range' (i+1) (ed.size-(i+1)):=by
   have e:ed.size-i=(ed.size-(i+1))+1:=by omega
   rw[e,List.range'_succ]at hr;injection hr with h1 h2
   exact⟨h1,h2⟩
  have hod':h'.get? d=some od:=(hsb.2 d (Ne.symm hdS)).trans hod1;refine wpAny_bind (wpAny_dictEntries (s:={s with heap:=h'}) hod' hdd ?_);have hx:ed[x]?=some ed[x]:=Array.getElem?_eq_getElem hlt;obtain⟨k,kt,hk1,hk2,hk3⟩:=hk x _ hx;rw[hx];show wpAny _ _ (holding [ed[x].key] (setAddHashed s.heap.objs.size ed[x].key ed[x].hash) >>= _) _ _ _;rw[hk2,hk3];refine wpAny_bind (wpAny_holding (add_int (s:={s with heap:=h'}) hS' (by omega) λr h2 us2 hsb2 hS2 hor=>?_));have hod2:h2.get? d=some od:=(hsb2.2 d (Ne.symm hdS)).trans hod';refine wpAny_bind (wpAny_dictEpoch (s:={s with heap:=h2}) hod2 hdd ?_);rw[if_neg (by simp)];refine wpAny_pure ⟨h2,us2,x+1,rfl,hrest,hlt,hsb.trans hsb2,hS2,λy=>?_,?_⟩
  ·have ht:ks.take (x+1)=ks.take x++[k]:=by rw[take_succ,hk1];rfl
   rw[ht,mem_append,mem_singleton];rcases hor with⟨hin,e⟩|⟨_,e⟩
   ·rw[e,hmem y];constructor
    ·exact .inl
    ·rintro(z|z)
     ·exact z
     ·rw[z];exact(hmem _).mp hin
   ·rw[e.mem_iff,mem_cons,hmem y];exact Or.comm
  ·rcases hor with⟨_,e⟩|⟨_,e⟩
   ·rw[e];omega
   ·have:=e.length_eq;rw[length_cons]at this;omega
 ·rintro b s' ⟨h',us,i,rfl,hr,hi,hsb,hS',hmem,hl⟩;have hin:i=ed.size:=by
   have:=congrArg length hr;rw[length_nil,List.length_range']at this;omega
  refine wpAny_pure (wpAny_pure ⟨rfl,h h' us (λc o e=>?_) hS' λx=>?_⟩)
  ·rw[hsb.2 c (ne_of_lt (lt_size e))];exact hkeep c o e
  ·rw[hmem x,hin,hlen,take_length]
end
end TB
namespace L2
open PySem PySem.Spec PyProof.Rows
section
variable{X:Cx}
theorem Inv.dK{pins:List (Addr×Obj)}{σ:St}{H:Hp}{s:Shared}(I:Inv X pins σ H s){a:Addr}{kvs:List (Key×V)}(h:Rd H a (.dK kvs)):
  kvs.length≤sizeLine∧(a==sysModules)=false∧∃vs,KV kvs vs∧s.heap.DictOf (aG X.prog X.w) a vs:=by
 rcases h with h|⟨o,h⟩
 ·obtain⟨hz,hsm,vs,rel,dd⟩:=I.hok a _ h;exact⟨hz,hsm,vs,rel,dd⟩
 ·obtain⟨_,hz,hsm,vs,rel,dd⟩:=I.hok a _ h;exact⟨hz,hsm,vs,rel,dd⟩
def lN:V→Bool
 |.non=>true
 |.int _=>true
 |.str _=>true
 |_=>false
theorem gQ{x:V}(h:lN x=true):dz x=true:=by cases x<;>first|rfl|cases h
theorem vw{x y:V}(hx:lN x=true)(hy:lN y=true):eqV x y=decide (x=y):=by
 cases x<;>cases y<;>simp_all [eqV,lN]<;>rw[Bool.eq_iff_iff]<;>simp
def OT(H:Hp)(x:V)(o:Option (List V)):Prop:=(x=.non∧o=none)∨∃a xs,x=.ref a∧H a=some (.tup xs)∧o=some xs∧∀v∈xs,lN v=true
theorem zj{xs ys:List V}(hl:xs.length=ys.length):((List.range xs.length).all λi=>decide (xs.getD i .non=ys.getD i .non))=decide (xs=ys):=by
 rw[Bool.eq_iff_iff,all_eq_true,decide_eq_true_eq];constructor
 ·intro h;apply ext_getElem?;intro i
  by_cases hi:i<xs.length
  ·have:=h i (mem_range.mpr hi);rw[decide_eq_true_eq,getD_eq_getElem?_getD,getD_eq_getElem?_getD,getElem?_eq_getElem hi,getElem?_eq_getElem (by omega)]at this;rw[getElem?_eq_getElem hi,getElem?_eq_getElem (by omega)];exact congrArg some this
  ·rw[getElem?_eq_none (by omega),getElem?_eq_none (by omega)]
 ·intro h i hi;rw[h];simp
theorem qq(hu:X.A.units+1<cLine):OpR X (compareOp .NotEq) (λx y H Q=>∃ox oy,OT H x ox∧OT H y oy∧Q (.bl (!decide (ox=oy))) H):=by
 intro pins s σ H x y v u Q I rx ry h;obtain⟨ox,oy,hx,hy,q⟩:=h;have hu0:X.A.units<cLine:=by omega
 rcases hx with⟨rfl,rfl⟩|⟨a,xs,rfl,ha,rfl,fx⟩<;>rcases hy with⟨rfl,rfl⟩|⟨b,ys,rfl,hb,rfl,fy⟩<;>cases rx<;>cases ry
 ·exact RcNeAt.none_none _ _ _ _ ⟨.bl false,H,I,rfl,q⟩
 ·obtain⟨_,ws,r2,t2⟩:=I.hok b _ hb;exact RcNeAt.none_tuple t2 hu0 _ _ _ _ ⟨.bl true,H,I,rfl,q⟩
 ·obtain⟨_,us,r1,t1⟩:=I.hok a _ ha;exact RcNeAt.tuple_none t1 hu0 _ _ _ _ ⟨.bl true,H,I,rfl,q⟩
 ·obtain⟨_,us,r1,t1⟩:=I.hok a _ ha;obtain⟨_,ws,r2,t2⟩:=I.hok b _ hb;have l1:=r1.length;have l2:=r2.length;refine RcNeAt.tuples (e:=λi=>decide (xs.getD i .non=ys.getD i .non)) t1 t2 hu0 (λj h1 h2=>?_) _ _ _ _ ⟨.bl _,H,I,rfl,?_⟩
  ·have h1':j<xs.length:=by rw[l1];simpa using h1
   have h2':j<ys.length:=by rw[l2];simpa using h2
   obtain⟨u',hu1,hu2⟩:=r1.get (getElem?_eq_getElem h1');obtain⟨v',hv1,hv2⟩:=r2.get (getElem?_eq_getElem h2');have e1:us.toArray[j]=u':=by
    have:us[j]?=some us.toArray[j]:=by rw[getElem?_eq_getElem (by simpa using h1)];simp
    rw[hu1]at this;exact(Option.some.inj this).symm
   have e2:ws.toArray[j]=v':=by
    have:ws[j]?=some ws.toArray[j]:=by rw[getElem?_eq_getElem (by simpa using h2)];simp
    rw[hv1]at this;exact(Option.some.inj this).symm
   rw[e1,e2,getD_eq_getElem?_getD,getD_eq_getElem?_getD,getElem?_eq_getElem h1',getElem?_eq_getElem h2'];have f1:=fx _ (getElem_mem h1');have f2:=fy _ (getElem_mem h2');show EqAt _ _ _ _ (decide (xs[j]=ys[j]));rw[←vw f1 f2];exact mh hu2 hv2 (gQ f1) (gQ f2)
  ·have e:((List.range (min us.toArray.size ws.toArray.size)).all (λi=>decide (xs.getD i .non=ys.getD i .non))&&us.toArray.size==ws.toArray.size)=decide (some xs=some ys):=by
    simp only[size_toArray,←l1,←l2]
    by_cases hl:xs.length=ys.length
    ·rw[←hl,Nat.min_self,zj hl];simp
    ·have:(xs.length==ys.length)=false:=by simpa using hl
     rw[this,Bool.and_false];refine(decide_eq_false ?_).symm;intro e;injection e with e
     exact hl (by rw[e])
   rw[e];exact q
end
theorem cY{α:Type}[DecidableEq α]:∀{l m:List α},l.Nodup→(∀x∈l,x∈m)→l.length≤m.length
 |[],_,_,_=>zero_le _
 |x::l,m,hn,h=>by
  obtain⟨h1,h2⟩:=nodup_cons.mp hn;have hx:=h x mem_cons_self;have ih:=cY (l:=l) (m:=m.erase x) h2 λy hy=>(List.mem_erase_of_ne (by rintro rfl;exact h1 hy)).mpr (h y (mem_cons_of_mem _ hy));rw[List.length_erase_of_mem hx]at ih;have:=List.length_pos_of_mem hx;rw[length_cons];omega
section
variable{X:Cx}
theorem dO:cz X (.type "set") (λxs H Q=>∃d kvs,∃ks:List Int,xs=[.ref d]∧Rd H d (.dK kvs)∧kvs.map (·.1)=ks.map (Sum.inl:Int→Key)∧ks.length≤60 ∧
  ∀ms:List Int,ms.Nodup→(∀x,x∈ms↔x∈ks)→∀q,H q=none→Q (.ref q) (upd H q (cy X.w q ms))):=by
 intro pins s σ H xs us Q I r h;obtain⟨d,kvs,ks,rfl,hH,hks,hl,q⟩:=h;obtain⟨u,rfl,ru⟩:=eB r;cases ru;obtain⟨hz,hsm,vs,rel,o,es,ep,ho,hx,hd,hk,hp,hn⟩:=I.dK hH;have hlen:es.size=ks.length:=by
  have e1:=hp.length;have e2:=rel.length;have e3:=congrArg length hks;rw[length_map,length_map]at e3;rw[length_toList]at e1;omega
 have key:∀(es:List DictEntry)(vs:List (Key×Value))(kvs:List (Key×V))(ks:List Int),Pairs (aG X.prog X.w) es vs→KV kvs vs→kvs.map (·.1)=ks.map (Sum.inl:Int→Key)→(∀e∈es,∃k,(aG X.prog X.w).is k e.key=true∧e.hash=(aG X.prog X.w).hash k) →
   ∀(i:Nat)(e:DictEntry),es[i]?=some e→∃k t,ks[i]?=some k∧e.key=.int k t∧e.hash=hashInt k:=by
  intro es vs kvs ks hp
  induction hp generalizing kvs ks with
  |nil=>intro _ _ _ i e he;simp at he
  |@cons e0 kv0 es0 kvs0 h1 h2 _ ih =>
   intro r hks hk i e he;cases r with
   |@cons p _ kvs1 _ r1 r2 =>
    cases ks with
    |nil=>simp at hks
    |cons k ks =>
     rw[map_cons,map_cons]at hks;injection hks with g1 g2
     cases i with
     |zero =>
      have ee:e0=e:=by simpa using he
      subst ee;have g3:kv0.1=Sum.inl k:=r1.1.symm.trans g1;rw[g3]at h1;obtain⟨k',hk1,hk2⟩:=hk _ mem_cons_self;have g4:k'=Sum.inl k:=(aG X.prog X.w).inj _ _ _ hk1 h1;subst g4;have h1':jw (Sum.inl k) e0.key=true:=h1;rcases aV h1' with⟨j,t,e1,e2⟩|⟨y,t,e1,e2⟩
      ·injection e1 with e1
       subst e1;exact⟨k,t,rfl,e2,hk2⟩
      ·cases e1
     |succ i=>exact ih _ ks r2 g2 (λe he=>hk e (mem_cons_of_mem _ he)) i e (by simpa using he)
 refine TB.vt (ks:=ks) ho hx hd hsm (λi e he=>?_) hlen hl λh' us hkeep hS hmem=>?_
 ·exact key es.toList vs kvs ks hp rel hks (λe he=>hk e (by simpa using he)) i e (by rw[getElem?_toList];exact he)
 ·have hnd:us.Nodup:=by obtain⟨_,_,_,_,_,_,_,S⟩:=hS;exact S.nd
  exact⟨.ref s.heap.objs.size,_,I.layS (t':=s.toks) hkeep (le_refl _) hS,rfl,q us hnd hmem _ (I.hok.fresh (le_refl _))⟩
theorem pq:OpR X (binaryOp .BitOr) (λx y H Q=>∃a b,∃ms ns:List Int,x=.ref a∧y=.ref b∧a≠b∧H a=some (cy X.w a ms)∧H b=some (cy X.w b ns)∧ms.length+ns.length≤60 ∧
  ∀us:List Int,us.Nodup→(∀x,x∈us↔x∈ms∨x∈ns)→∀q,H q=none→Q (.ref q) (upd H q (cy X.w q us))):=by
 intro pins s σ H x y v u Q I rx ry h;obtain⟨a,b,ms,ns,rfl,rfl,hab,ha,hb,hl,q⟩:=h;cases rx;cases ry;refine TB.vq hab (I.intS ha) (I.intS hb) hl λh' us hkeep hS hmem=>?_;have hnd:us.Nodup:=by obtain⟨_,_,_,_,_,_,_,S⟩:=hS;exact S.nd
 exact⟨.ref s.heap.objs.size,_,I.layS (t':=s.toks) hkeep (le_refl _) hS,rfl,q us hnd hmem _ (I.hok.fresh (le_refl _))⟩
end
end L2
namespace TW
section
variable{S:Type}
def aC(t:List (Nd S))(k:Int):Option (Nd S):=t.find? λn=>n.num==k
theorem eU{t:List (Nd S)}(T:Tree1 t){m:Nd S}(hm:m∈t){k:Int}(e:m.num=k):aC t k=some m:=by
 subst e;unfold aC;cases h:t.find? λn=>n.num==m.num with
 |none=>have:=find?_eq_none.mp h m hm;simp at this
 |some y =>
  have h1:=find?_some h;have h2:=List.mem_of_find?_eq_some h;have h3:y.num=m.num:=by simpa using h1
  rw[T.inj h2 hm h3]
theorem dF{t:List (Nd S)}{k:Int}(h:∀m∈t,m.num≠k):aC t k=none:=by
 unfold aC;rw[find?_eq_none];intro m hm;simpa using h m hm
theorem gn{t u:List (Nd S)}(T:Tree1 t)(U:Tree1 u){k:Int}(h:∀m,m.num=k→(m∈u↔m∈t)):aC u k=aC t k:=by
 by_cases hk:∃m∈t,m.num=k
 ·obtain⟨m,hm,e⟩:=hk;rw[eU T hm e,eU U ((h m e).mpr hm) e]
 ·rw[dF λm hm e=>hk ⟨m,hm,e⟩,dF λm hm e=>hk ⟨m,(h m e).mp hm,e⟩]
def Deed.key:Deed S→Int
 |.make n _ _ _=>n
 |.write n _=>n
 |.move n _ _=>n
 |.drop n=>n
theorem rN{t:List (Nd S)}{z:Nd S}{m:Nd S}(h:m.num≠z.num):m∈t.map (put z)↔m∈t:=by
 rw[mem_map];constructor
 ·rintro⟨y,hy,e⟩
  by_cases e2:y.num=z.num
  ·rw[dC e2]at e;exact absurd (by rw[←e]) h
  ·rw[bZ e2]at e;rw[←e];exact hy
 ·intro hm;exact⟨m,hm,bZ h⟩
theorem Told.others{t u:List (Nd S)}(T:Tree1 t)(U:Tree1 u){d:Deed S}(h:Told t d (.inr u)){k:Int}(hk:k≠d.key):
  aC u k=aC t k∨((∃n,d=.drop n)∧Und t d.key k∧(∃m∈t,m.num=k)∧∀m∈u,m.num≠k):=by
 generalize er:(Sum.inr u:Sum Wd (List (Nd S)))=r at h;cases h with
 |@made n p nm st _ a1 a2 a3 a4 a5 =>
  injection er with er
  subst er;refine .inl (gn T U λm e=>?_);rw[a4.mem_iff,mem_cons];constructor
  ·rintro(e2|hm)
   ·rw[e2]at e;exact absurd e.symm hk
   ·exact hm
  ·exact .inr
 |@wrote n st y a1 a2 a3 =>
  injection er with er
  subst er;exact .inl (gn T U λm e=>rN (by rw[e];exact hk))
 |@moved n p nm y a1 a2 a3 a4 a5 =>
  injection er with er
  subst er;exact .inl (gn T U λm e=>rN (by rw[e];exact hk))
 |@dropped n f a1 a2 =>
  injection er with er
  subst er
  by_cases hu:(∃m∈t,m.num=k)∧Und t n k
  ·obtain⟨⟨m,hm,e⟩,hu⟩:=hu;refine .inr ⟨⟨n,rfl⟩,hu,⟨m,hm,e⟩,λy hy e2=>?_⟩;obtain⟨hy1,hy2⟩:=mem_filter.mp hy;exact(a2 y hy1).mp hy2 (by rw[e2];exact hu)
  ·refine .inl (gn T U λm e=>?_);rw[mem_filter];constructor
   ·exact λh=>h.1
   ·intro hm;refine⟨hm,(a2 m hm).mpr λz=>hu ⟨⟨m,hm,e⟩,by rw[e]at z;exact z⟩⟩
 |_=>cases er
end
end TW
namespace TW
section
variable{S:Type}
structure Row(S:Type) where
 k:Int
 o:Option (Nd S)
 n:Option (Nd S)
structure Chg(t u:List (Nd S))(rs:List (Row S)):Prop where
 up:rs.Pairwise λa b=>a.k<b.k
 mem:∀r,r∈rs↔r.o=aC t r.k∧r.n=aC u r.k∧r.o≠r.n
theorem ca{t:List (Nd S)}{k:Int}{m:Nd S}(h:aC t k=some m):m∈t∧m.num=k:=by
 unfold aC at h;have h1:=find?_some h;have h2:=List.mem_of_find?_eq_some h;exact⟨h2,by simpa using h1⟩
theorem rO:∀{a b:List (Row S)},a.Pairwise (λx y=>x.k<y.k)→b.Pairwise (λx y=>x.k<y.k)→(∀r,r∈a↔r∈b)→a=b
 |[],[],_,_,_=>rfl
 |[],y::b,_,_,h=>absurd ((h y).mpr mem_cons_self) (by simp)
 |x::a,[],_,_,h=>absurd ((h x).mp mem_cons_self) (by simp)
 |x::a,y::b,ha,hb,h=>by
  obtain⟨a1,a2⟩:=pairwise_cons.mp ha;obtain⟨b1,b2⟩:=pairwise_cons.mp hb;have e:x=y:=by
   rcases mem_cons.mp ((h x).mp mem_cons_self)with e|e
   ·exact e
   ·rcases mem_cons.mp ((h y).mpr mem_cons_self)with e'|e'
    ·exact e'.symm
    ·have q1:=b1 x e;have q2:=a1 y e';omega
  subst e
  congr 1
  refine rO a2 b2 λr=>⟨λhr=>?_,λhr=>?_⟩
  ·rcases mem_cons.mp ((h r).mp (mem_cons_of_mem _ hr))with e|e
   ·have:=a1 r hr;rw[e]at this;omega
   ·exact e
  ·rcases mem_cons.mp ((h r).mpr (mem_cons_of_mem _ hr))with e|e
   ·have:=b1 r hr;rw[e]at this;omega
   ·exact e
theorem Chg.uniq{t u:List (Nd S)}{a b:List (Row S)}(ha:Chg t u a)(hb:Chg t u b):a=b:=rO ha.up hb.up λr=>(ha.mem r).trans (hb.mem r).symm
def Row.swap(r:Row S):Row S:=⟨r.k,r.n,r.o⟩
theorem Chg.swap{t u:List (Nd S)}{a:List (Row S)}(h:Chg t u a):Chg u t (a.map Row.swap):=by
 refine⟨?_,λr=>?_⟩
 ·rw[pairwise_map];exact h.up
 ·rw[mem_map];constructor
  ·rintro⟨x,hx,rfl⟩;obtain⟨h1,h2,h3⟩:=(h.mem x).mp hx;exact⟨h2,h1,Ne.symm h3⟩
  ·rintro⟨h1,h2,h3⟩;exact⟨r.swap,(h.mem r.swap).mpr ⟨h2,h1,Ne.symm h3⟩,rfl⟩
def dP(t u:List (Nd S))(k:Int):Row S:=⟨k,aC t k,aC u k⟩
theorem vx[DecidableEq (Nd S)]{t u:List (Nd S)}{ns:List Int}(hu:ns.Pairwise (· < ·))(hm:∀k,aC t k≠none∨aC u k≠none→k∈ns∨aC t k=aC u k):Chg t u ((ns.map (dP t u)).filter λr=>decide (r.o≠r.n)):=by
 refine⟨?_,λr=>?_⟩
 ·refine Pairwise.filter _ ?_;rw[pairwise_map];exact hu
 ·rw[mem_filter,mem_map,decide_eq_true_eq];constructor
  ·rintro⟨⟨k,hk,rfl⟩,hne⟩;exact⟨rfl,rfl,hne⟩
  ·rintro⟨h1,h2,h3⟩;refine⟨⟨r.k,?_,?_⟩,h3⟩
   ·have h4:aC t r.k≠aC u r.k:=by rw[←h1,←h2];exact h3
    have h5:aC t r.k≠none∨aC u r.k≠none:=by
     by_cases z:aC t r.k=none
     ·exact .inr λz2=>h4 (z.trans z2.symm)
     ·exact .inl z
    rcases hm r.k h5 with z|z
    ·exact z
    ·exact absurd z h4
   ·show(⟨r.k,aC t r.k,aC u r.k⟩:Row S)=r;rw[←h1,←h2]
end
end TW
namespace L2
open PySem PySem.Spec PyProof.Rows
theorem vz{α:Type}{k:Nat}{js:List Nat}{J:It}{g:TG}{te:TE}{σ:St}{H1:Hp}{Q:VK}{p:Addr}{fr:List (Option V)}(zs:List α)(val:α→V)(hn:zs.length≤1000)(hp:H1 p=none)(S:Src J H1 (zs.map val))(hfr:∃σ0:St,σ0.length=k∧cT k js σ=σ0++fr)(R:α→V→Hp→Prop)(hR:∀z y H H',R z y H→Ext p H H'→R z y H')(elt:∀z (σ0:St) H' (kk:St→VK),σ0.length=k→z∈zs→Same H1 H'→(∃ys,H' p=some (.lst ys))→(∀σ2 y H4,(∃σ0':St,σ0'.length=k∧σ2=σ0'++fr)→Same H' H4→R z y H4→kk σ2 y H4)→g (val z) (σ0++fr) H' λσ2 H3=>te σ2 H3 (kk σ2))(fin:∀ys H',Same H1 H'→H' p=some (.lst ys)→Paired (λz y=>R z y H') zs ys→Q (.ref p) H'):LcW k js g te σ Q J H1 p:=by
 have grow:∀{as:List α}{ys:List V}{H H':Hp},Ext p H H'→Paired (λz y=>R z y H) as ys→Paired (λz y=>R z y H') as ys:=λex r=>Paired.mapP r λa b h=>hR a b _ _ h ex;have hlen:∀{as:List α}{ys:List V}{H:Hp},Paired (λz y=>R z y H) as ys→ys.length=as.length:=λr=>(Paired.length r).symm;refine⟨λi m ys σ' H'=>m=zs.length-i∧i≤zs.length∧(∃σ0:St,σ0.length=k∧σ'=σ0++fr)∧Same H1 H'∧H' p=some (.lst ys)∧Paired (λz y=>R z y H') (zs.take i) ys,⟨zs.length,by simp,zero_le _,hfr,af hp,ac,.nil⟩,?_⟩;rintro i m ys σ' H' ⟨rfl,hi,⟨σ0,hσ0,rfl⟩,s1,hl,hys⟩
 by_cases hlt:i<zs.length
 ·have hlt':i<(zs.map val).length:=by rw[length_map];exact hlt
  refine .inr ⟨S.go i H' hlt' s1,?_,λx H2 hy=>?_⟩
  ·have h1:ys.length≤zs.length:=by
    rw[hlen hys,length_take];omega
   exact lt_of_le_of_lt h1 (ax hn)
  ·obtain⟨rfl,hx⟩:=S.yl i H' x H2 hlt' s1 hy;have gz:zs[i]?=some zs[i]:=getElem?_eq_getElem hlt;have mz:=mem_of_getElem? gz;rw[getElem?_map,gz]at hx;have ex:val zs[i]=x:=Option.some.inj hx;have et:zs.take (i+1)=zs.take i++[zs[i]]:=cB gz;subst ex;generalize zs[i]=z at gz mz et⊢;refine elt z σ0 H2 _ hσ0 mz s1 ⟨ys,hl⟩ λσ2 y H5 hσ2 s5 r5=>⟨s5 _ _ hl,zs.length-(i+1),by omega,rfl,hlt,hσ2,aM hp (s1.trans s5),ac,?_⟩;rw[et];exact Paired.snoc (grow ((Ext.of s5).trans Ext.upd) hys) (hR _ _ _ _ r5 Ext.upd)
 ·have e:i=zs.length:=by omega
  subst e;have st:=S.stop H' s1;rw[length_map]at st;refine .inl ⟨st,fin ys H' s1 hl ?_⟩;rw[take_length]at hys;exact hys
end L2
namespace TK
open PySem L2
instance decNd:DecidableEq (TW.Nd Str):=λa b=>Classical.propDecidable _
abbrev Row:=TW.Row Str
def cg(H:Hp)(v:V)(o:Option Nd):Prop:=(v=.non∧o=none)∨∃q n,v=.ref q∧H q=some (.tup (aN n))∧o=some n
theorem cg.same{H H':Hp}{v:V}{o:Option Nd}(h:cg H v o)(s:Same H H'):cg H' v o:=by
 rcases h with h|⟨q,n,e,h,e2⟩
 ·exact .inl h
 ·exact .inr ⟨q,n,e,s _ _ h,e2⟩
theorem ku(n:Nd):∀v∈aN n,lN v=true:=λv hv=>by
 unfold aN at hv;simp only[mem_cons,not_mem_nil,or_false]at hv;rcases hv with rfl|rfl|rfl
 ·rfl
 ·rfl
 ·cases n.st<;>rfl
theorem cg.ot{H:Hp}{v:V}{o:Option Nd}(h:cg H v o):OT H v (o.map aN):=by
 rcases h with⟨e,e2⟩|⟨q,n,e,h,e2⟩
 ·exact .inl ⟨e,by rw[e2];rfl⟩
 ·exact .inr ⟨q,aN n,e,h,by rw[e2];rfl,ku n⟩
theorem sV{a b:Nd}(h:aN a=aN b)(e:a.num=b.num):a=b:=by
 obtain⟨n1,p1,m1,s1⟩:=a;obtain⟨n2,p2,m2,s2⟩:=b;unfold aN at h;simp only[List.cons.injEq,V.int.injEq,V.str.injEq,and_true]at h;obtain⟨h1,h2,h3⟩:=h;have h4:s1=s2:=by
  cases s1<;>cases s2<;>simp_all [stV]
 simp only at e;subst e h1 h2 h4;rfl
def vA(r:Row):Prop:=(∀n,r.o=some n→n.num=r.k)∧∀n,r.n=some n→n.num=r.k
theorem vA.eq{r:Row}(h:vA r):r.o.map aN=r.n.map aN↔r.o=r.n:=by
 obtain⟨k,o,n⟩:=r;constructor
 ·intro e;cases o with
  |none=>cases n with
   |none=>rfl
   |some b=>cases e
  |some a=>cases n with
   |none=>cases e
   |some b =>
    have e2:aN a=aN b:=Option.some.inj e;exact congrArg some (sV e2 ((h.1 a rfl).trans (h.2 b rfl).symm))
 ·intro e;show o.map aN=n.map aN;have:o=n:=e;rw[this]
structure RowAt(H:Hp)(e:Addr)(r:Row):Prop where
 at':∃vo vn,H e=some (.tup [.int r.k,vo,vn])∧cg H vo r.o∧cg H vn r.n
 ok:vA r
theorem RowAt.same{H H':Hp}{e:Addr}{r:Row}(h:RowAt H e r)(s:Same H H'):RowAt H' e r:=by
 obtain⟨⟨vo,vn,h1,h2,h3⟩,hk⟩:=h;exact⟨⟨vo,vn,s _ _ h1,h2.same s,h3.same s⟩,hk⟩
abbrev ZR:=List (Addr×Row)
def cw(es:ZR):List V:=es.map λe=>V.ref e.1
def ba(es:ZR):List Row:=es.map (·.2)
structure ChgAt(H:Hp)(c:Addr)(es:ZR):Prop where
 tup:H c=some (.tup (cw es))
 at':∀e∈es,RowAt H e.1 e.2
 len:es.length≤60
theorem ChgAt.same{H H':Hp}{c:Addr}{es:ZR}(h:ChgAt H c es)(s:Same H H'):ChgAt H' c es:=⟨s _ _ h.tup,λe he=>(h.at' e he).same s,h.len⟩
theorem pr{t u:List Nd}(k:Int):vA (TW.dP t u k):=⟨λn h=>(TW.ca h).2,λn h=>(TW.ca h).2⟩
theorem lO{H:Hp}{v w:V}{o:Option Nd}(hv:cg H v o)(hw:cg H w o):lE H 2 v w:=by
 rcases hv with⟨rfl,rfl⟩|⟨q,n,rfl,hq,rfl⟩
 ·rcases hw with⟨rfl,_⟩|⟨q,n,_,_,e⟩
  ·exact eP ⟨rfl,rfl⟩
  ·cases e
 ·rcases hw with⟨_,e⟩|⟨q2,n2,rfl,hq2,e⟩
  ·cases e
  ·have:n=n2:=Option.some.inj e;subst this;exact .inr ⟨q,q2,_,_,rfl,rfl,hq,hq2,rfl,λi x y hx hy=>by
    have e:x=y:=Option.some.inj (hx.symm.trans hy);subst e;exact eP ⟨rfl,gQ (ku n x (mem_of_getElem? hx))⟩⟩
theorem kx{H:Hp}{es fs:ZR}(h:ba es=ba fs)(he:∀e∈es,RowAt H e.1 e.2)(hf:∀e∈fs,RowAt H e.1 e.2):fj H (cw es) (cw fs):=by
 have hl:es.length=fs.length:=by
  have:=congrArg length h;unfold ba at this;rw[length_map,length_map]at this;exact this
 refine⟨by unfold cw;rw[length_map,length_map];exact hl,λi x y hx hy=>?_⟩;unfold cw at hx hy;rw[getElem?_map]at hx hy;cases ga:es[i]? with
 |none=>rw[ga]at hx;cases hx
 |some a =>
  cases gb:fs[i]? with
  |none=>rw[gb]at hy;cases hy
  |some b =>
   rw[ga]at hx;rw[gb]at hy;have ex:V.ref a.1=x:=Option.some.inj hx;have ey:V.ref b.1=y:=Option.some.inj hy;subst ex ey;have e:a.2=b.2:=by
    have h1:(ba es)[i]?=some a.2:=by unfold ba;rw[getElem?_map,ga];rfl
    have h2:(ba fs)[i]?=some b.2:=by unfold ba;rw[getElem?_map,gb];rfl
    rw[h,h2]at h1;exact(Option.some.inj h1).symm
   obtain⟨⟨vo,vn,a1,a2,a3⟩,_⟩:=he a (mem_of_getElem? ga);obtain⟨⟨wo,wn,b1,b2,b3⟩,_⟩:=hf b (mem_of_getElem? gb);rw[←e]at b1 b2 b3;refine .inr ⟨a.1,b.1,_,_,rfl,rfl,a1,b1,rfl,λj x' y' hx' hy'=>?_⟩
   match j,hx',hy' with
   |0,hx',hy' =>
    cases hx';cases hy';exact eP ⟨rfl,rfl⟩
   |1,hx',hy' =>
    cases hx';cases hy';exact lO a2 b2
   |2,hx',hy' =>
    cases hx';cases hy';exact lO a3 b3
   |j+3,hx',hy'=>simp at hx'
theorem Book.optV{H:Hp}{d:Addr}{as:List (Addr×(Addr×Nd))}{zs:ZN}(b:Book H d as zs)(T:TW.Tree1 (nds zs))(k:Int):∃r,cN H d (.int k) r∧cg H (r.getD .non) (TW.aC (nds zs) k):=by
 by_cases hk:∃z∈zs,z.2.num=k
 ·obtain⟨z,hz,rfl⟩:=hk;obtain⟨q,hq1,hq2⟩:=b.get (bX T) hz;refine⟨_,hq1,?_⟩;rw[TW.eU T (bY hz) rfl];exact .inr ⟨q,z.2,rfl,hq2,rfl⟩
 ·refine⟨none,b.not λz hz e=>hk ⟨z,hz,e⟩,?_⟩;rw[TW.dF λm hm e=>?_]
  ·exact .inl ⟨rfl,rfl⟩
  ·obtain⟨z,hz,rfl⟩:=fo hm;exact hk ⟨z,hz,e⟩
theorem gR{as:List (Addr×(Addr×Nd))}{zs:ZN}(h:as.map (·.2)=zs):(aU as).map (·.1)=((nds zs).map (·.num)).map (Sum.inl:Int→Key):=gO h
theorem je{es:ZR}{t u:List Nd}{ns:List Int}(h:ba es=ns.map (TW.dP t u)):ba (es.filter λe=>!decide (e.2.o=e.2.n))=(ns.map (TW.dP t u)).filter λr=>decide (r.o≠r.n):=by
 rw[←h];unfold ba;rw[filter_map]
 congr 1
 apply filter_congr;intro e _;show(!decide (e.2.o=e.2.n))=decide (e.2.o≠e.2.n)
 by_cases z:e.2.o=e.2.n<;>simp[z]
theorem lP{t:List Nd}{k:Int}(h:TW.aC t k≠none):k∈t.map (·.num):=by
 cases e:TW.aC t k with
 |none=>exact absurd e h
 |some m =>
  obtain⟨h1,h2⟩:=TW.ca e;exact mem_map.mpr ⟨m,h1,h2⟩
section
variable{P:Program}{w:World}{K:PySem.W.Frag}{mg:Str→Option Value}{base:Heap}
def nB:Sp:=λvs H Q _=>∃t zs,vs=[.ref t]∧Tre H t zs∧∀d as H',Same H H'→H d=none→Book H' d as zs→H' d=some (.dK (aU as))→Q (.ref d) H'
theorem zk:FnScope ["tree"] ["tree"] (ai cJ):=fsc
theorem xo{f:Addr}{fd:FuncData}(F:Fun K "parts_by_number" "parts_by_number" cJ f fd)(T:Txt mg):FnOk P w K mg base CX0 1 f fd ["tree"] nB:=by
 refine F.ok zk (λvs H Q E h=>?_) (λcdv A outer s H vs Q E hr h=>?_)
 ·obtain⟨t,zs,rfl,_⟩:=h;rfl
 ·obtain⟨t,zs,rfl,tr,k⟩:=h;have hnd:=bX tr.tr;have hl:=tr.len;have ht:=tr.tup;have hA:=tr.nod;refine⟨_,ak (av (aO (dI rfl) rfl T.dict boot_dict (aa (dA (N:=["node"]) (k:=1) (js:=[]) (g:=bj 0) rfl (cF rfl (by decide +kernel) (by decide +kernel) (by decide +kernel)) rfl (λi j x h=>by simp at h)
   (cx (pv 0)) (λs H fp=>aE (i:=0) (show(["node"]:List Str).Nodup by decide +kernel) rfl (Or.inl rfl) (Or.inr rfl))
   (λs H fp=>bn (aa (au (r:=dS K) ar (pv 0) ah (λ_ _=>rfl)) (aa (cu (r:=tR K) fe (pv 0) (cp ah) eM) ae)))) ae))),?_⟩
  refine⟨_,rfl,t,rfl,⟨_,SqT.of ht⟩,λp hp=>?_⟩;refine pZ (fr:=[]) zs.length (by omega) hp rfl (λi y H'=>∃q t' z,zs[i]?=some z∧y=.ref q∧q≠p∧t'≠p∧H' q=some (.tup [.int z.2.num,.ref t'])∧H' t'=some (.tup (aN z.2))) (λi y H1 H2 h ex=>?_) (λi H' hi s1=>?_) (λH' s1=>?_) ?_ (λi H' x H2 hi s1 hpl hy=>?_) (λys H' s1 hp' hlen hys=>?_)
  ·obtain⟨q,t',z,e1,e2,e3,e4,e5,e6⟩:=h;exact⟨q,t',z,e1,e2,e3,e4,ex q _ e3 e5,ex t' _ e4 e6⟩
  ·exact⟨_,_,SqT.of (s1 _ _ ht),dD (getElem?_eq_getElem hi)⟩
  ·exact⟨_,SqT.of (s1 _ _ ht),by rw[be];exact le_refl _⟩
  ·rintro _ _ _ _ m ⟨v1,b1,p1,xs,i1,v2,c1,c2,c3,c4,v3,b3,i3,d0,a3,xs3,d1,d2,d3,q⟩;refine⟨v1,b1,p1,xs,i1,v2,c1,c2,c3,c4,v3,b3,i3,d0,a3,xs3,d1,d2,d3,λl hl=>?_⟩;obtain⟨hz',q'⟩:=q l hl;exact⟨hz',λl' hl'=>m _ _ (q' l' hl')⟩
  ·obtain⟨rfl,hx⟩:=hy;obtain⟨z,gz,rfl⟩:=ce (hx _ (SqT.of (s1 _ _ ht)));have mz:=mem_of_getElem? gz;have hz1:=s1 _ _ (hA z mz);have ecut:dR (vals z.2) (some 1) none=aN z.2:=rfl;refine⟨rfl,_,rfl,z.1,_,_,_,rfl,rfl,SqT.of hz1,at0 z.2,_,rfl,_,rfl,z.1,_,rfl,SqT.of hz1,(by intro h;exact absurd h.1 (show ¬HT.sIx 4 0 (some 1)=0 by decide)),λt' ht'=>?_⟩;rw[ecut];have s2:=af (o:=.tup (aN z.2)) ht';have hpl2:∃ys,upd H2 t' (.tup (aN z.2)) p=some (.lst ys):=let⟨ys,e⟩:=hpl;⟨ys,s2 _ _ e⟩;refine⟨le2,λq hq=>⟨s2.trans (af hq),q,t',z,gz,rfl,dj hpl2 hq,dj hpl ht',ac,aT hq ac⟩⟩
  ·obtain⟨as,e1,e2,e3⟩:∃as:List ((Addr×Addr)×(Addr×Nd)),as.map (·.2)=zs∧ys=(as.map (·.1.1)).map V.ref∧∀a∈as,H' a.1.1=some (.tup [.int a.2.2.num,.ref a.1.2])∧H' a.1.2=some (.tup (aN a.2.2)):=by
    clear hp';have main:∀(ys:List V)(xs:ZN),ys.length=xs.length→(∀(i:Nat) y,ys[i]?=some y→∃q t' z,xs[i]?=some z∧y=.ref q∧q≠p∧t'≠p∧H' q=some (.tup [.int z.2.num,.ref t'])∧H' t'=some (.tup (aN z.2))) →
      ∃as:List ((Addr×Addr)×(Addr×Nd)),as.map (·.2)=xs∧ys=(as.map (·.1.1)).map V.ref∧∀a∈as,H' a.1.1=some (.tup [.int a.2.2.num,.ref a.1.2])∧H' a.1.2=some (.tup (aN a.2.2)):=by
     intro ys
     induction ys with
     |nil =>
      intro xs hl _;have:xs=[]:=length_eq_zero_iff.mp hl.symm;subst this;exact⟨[],rfl,rfl,by simp⟩
     |cons y ys ih =>
      intro xs hl h;cases xs with
      |nil=>simp at hl
      |cons x xs =>
       obtain⟨as,e1,e2,e3⟩:=ih xs (by simpa using hl) λi y hy=>by simpa using h (i+1) y (by simpa using hy)
       obtain⟨q,t',z,f1,f2,f3,f4,f5,f6⟩:=h 0 y rfl;have:x=z:=by simpa using f1
       subst this;refine⟨((q,t'),x)::as,by simp[e1],by simp[e2,f2],λa ha=>?_⟩;rcases mem_cons.mp ha with rfl|ha
       ·exact⟨f5,f6⟩
       ·exact e3 a ha
    exact main ys zs hlen hys
   have hal:as.length=zs.length:=by rw[←e1,length_map]
   refine⟨p,as.map λa=>(a.1.1,(Sum.inl a.2.2.num:Key),V.ref a.1.2),rfl,?_,?_,?_,?_,λd hd=>?_⟩
   ·rw[hp',e2,map_map,map_map,map_map];rfl
   ·intro z hz;obtain⟨a,ha,rfl⟩:=mem_map.mp hz;exact(e3 a ha).1
   ·rw[length_map];omega
   ·rw[map_map];have:(as.map ((λx:Addr×Key×V=>x.2.1)∘λa=>(a.1.1,(Sum.inl a.2.2.num:Key),V.ref a.1.2)))=((nds zs).map (·.num)).map (Sum.inl:Int→Key):=by
     rw[←e1];unfold nds;simp only[map_map];rfl
    rw[this];unfold Nodup at hnd⊢;rw[pairwise_map];exact hnd.imp λh e=>h (by injection e)
   ·have sd:=af (o:=.dK ((as.map λa=>(a.1.1,(Sum.inl a.2.2.num:Key),V.ref a.1.2)).map (·.2))) hd;have ed:upd H' d (.dK ((as.map λa=>(a.1.1,(Sum.inl a.2.2.num:Key),V.ref a.1.2)).map (·.2))) d=some (.dK (aU (as.map λa=>(a.1.2,a.2)))):=by
     rw[ac];refine congrArg (λx=>some (HO.dK x)) ?_;unfold aU;simp only[map_map];rfl
    refine k d (as.map λa=>(a.1.2,a.2)) _ (s1.trans sd) (s1.free hd) ⟨.inl ed,by rw[map_map];exact e1,λa ha=>?_⟩ ed;obtain⟨b,hb,rfl⟩:=mem_map.mp ha;exact sd _ _ (e3 b hb).2
def unl(e:Addr×Row):Bool:=!decide (e.2.o=e.2.n)
def pw:Sp:=λvs H Q _=>∃l es,vs=[.ref l]∧H l=some (.lst (cw es))∧(∀e∈es,RowAt H e.1 e.2)∧es.length≤60∧∀c H',Same H H'→ChgAt H' c (es.filter unl)→Q (.ref c) H'
theorem Ar:FnScope ["entries"] ["entries"] (ai cQ):=fsc
theorem zl{f:Addr}{fd:FuncData}(F:Fun K "unlike_entries" "unlike_entries" cQ f fd)(T:Txt mg):FnOk P w K mg base CX0 1 f fd ["entries"] pw:=by
 refine F.ok Ar (λvs H Q E h=>?_) (λcdv A outer s H vs Q E hr h=>?_)
 ·obtain⟨l,es,rfl,_⟩:=h;rfl
 ·obtain⟨l,es,rfl,hl,he,hn,k⟩:=h;refine⟨_,ak (av (aO bh rfl T.tuple rfl (aa (iE (N:=["entry"]) (cl:=[]) (k:=1) (js:=[]) (g:=bj 0) rfl (cF rfl (by decide +kernel) (by decide +kernel) (by decide +kernel)) rfl (λi j x h=>by simp at h)
   (cR (pv 0)) (λs H fp=>aE (i:=0) (show(["entry"]:List Str).Nodup by decide +kernel) rfl (Or.inl rfl) (Or.inr rfl))
   (λs H fp=>am (qq (bi hr)) (au (r:=dS K) ar (pv 0) ah (λ_ _=>rfl)) (au (r:=dS K) ar (pv 0) ah (λ_ _=>rfl)) (aw _)) (λs H fp=>pv 0)) ae))),?_⟩
  refine⟨_,rfl,l,rfl,⟨_,SqL.of hl⟩,λp hp=>?_⟩;refine iN (fr:=[]) es (λe=>V.ref e.1) (by omega) hp (ie (SqL.of hl)) rfl unl (λe y _=>y=.ref e.1) (λe y H H' h _=>h) (λe H' k' me s1 _ hk=>?_) (λe H' k' me _ s1 _ hk=>⟨_,rfl,hk _ H' (Same.refl _) rfl⟩) (λys H' s1 hp' hys=>?_)
  ·obtain⟨⟨vo,vn,h1,h2,h3⟩,ok⟩:=(he e me).same s1;refine⟨_,rfl,e.1,_,_,_,rfl,rfl,SqT.of h1,rfl,_,rfl,e.1,_,_,_,rfl,rfl,SqT.of h1,rfl,_,_,h2.ot,h3.ot,_,rfl,?_⟩;have eb:(!decide (e.2.o.map aN=e.2.n.map aN))=unl e:=by
    unfold unl;have:=ok.eq
    by_cases z:e.2.o=e.2.n
    ·rw[decide_eq_true (this.mpr z),decide_eq_true z]
    ·rw[decide_eq_false (λq=>z (this.mp q)),decide_eq_false z]
   rw[eb];exact hk H' (Same.refl _)
  ·have ey:=ck (f:=λe:Addr×Row=>V.ref e.1) hys (λe y _ h=>h);refine⟨p,_,rfl,.inl ⟨SqL.of hp',λc hc=>?_⟩⟩;have s2:=s1.trans (af (o:=.tup ys) hc);exact k c _ s2 ⟨by rw[ac,ey];rfl,λe me=>(he e (mem_filter.mp me).1).same s2,le_trans (length_filter_le _ _) hn⟩
end
def cbS(i:Nat):Stmt:=(br aX).getD i (.Pass ⟨0,0,0,0⟩)
def CN:List Str:=["one","other","before","after","numbers"]
theorem xp:FnScope CN ["one","other"] (ai aX):=fsc
abbrev CbX(P:Program)(w:World)(K:PySem.W.Frag)(mg:Str→Option Value)(base:Heap)(f:Addr)(cdv:Value)(A:Around)(outer:List Env)(s:Shared)(H:Hp)(E:XK):Cx:=(gF CX0 P w K mg base CN "change_between" (ai aX) f cdv A outer s H E).nox
section
variable{P:Program}{w:World}{K:PySem.W.Frag}{mg:Str→Option Value}{base:Heap}{f:Addr}{cdv:Value}{A:Around}{outer:List Env}{s:Shared}{H0:Hp}{E:XK}
theorem cb2(T:Txt mg):∃t,PS (CbX P w K mg base f cdv A outer s H0 E) (cbS 2) t∧∀(D:Ends)(H:Hp)(x0 x1 x4:Option V)(d d2:Addr)(as bs:List (Addr×(Addr×Nd)))(zs us:ZN),Book H d as zs→Book H d2 bs us→zs.length≤30→us.length≤30 →
   (∀(l:Addr)(ns:List Int)(H':Hp),Same H H'→H' l=some (.lst (ns.map V.int))→ns.Pairwise (· < ·)→ns.length≤60→(∀k,k∈ns↔k∈(nds zs).map (·.num)∨k∈(nds us).map (·.num))→D.nx [x0,x1,some (.ref d),some (.ref d2),some (.ref l)] H')→t D [x0,x1,some (.ref d),some (.ref d2),x4] H:=by
 refine⟨_,aA (i:=4) xp.nd rfl (Or.inl rfl) (aB (fG rfl) rfl T.sorted boot_sorted (aa (aD pq (aO dO rfl T.set rfl (aa (pv 2) ae)) (aO dO rfl T.set rfl (aa (pv 3) ae))) ae)),?_⟩;intro D H x0 x1 x4 d d2 as bs zs us bk bk2 hl1 hl2 q;refine⟨_,rfl,d,_,(nds zs).map (·.num),rfl,bk.dict,gR bk.of,by rw[length_map,aJ];omega,λm1 hn1 hm1 p1 hp1=>?_⟩;have s1:=af (o:=cy (CbX P w K mg base f cdv A outer s H0 E).w p1 m1) hp1;have g1:upd H p1 (cy (CbX P w K mg base f cdv A outer s H0 E).w p1 m1) p1=some (cy (CbX P w K mg base f cdv A outer s H0 E).w p1 m1):=ac;generalize upd H p1 (cy (CbX P w K mg base f cdv A outer s H0 E).w p1 m1)=H1 at s1 g1⊢;refine⟨_,rfl,d2,_,(nds us).map (·.num),rfl,(bk2.same s1).dict,gR bk2.of,by rw[length_map,aJ];omega,λm2 hn2 hm2 p2 hp2=>?_⟩;have s2:=s1.trans (af (o:=cy (CbX P w K mg base f cdv A outer s H0 E).w p2 m2) hp2);have g2:upd H1 p2 (cy (CbX P w K mg base f cdv A outer s H0 E).w p2 m2) p2=some (cy (CbX P w K mg base f cdv A outer s H0 E).w p2 m2):=ac;have g1':upd H1 p2 (cy (CbX P w K mg base f cdv A outer s H0 E).w p2 m2) p1=some (cy (CbX P w K mg base f cdv A outer s H0 E).w p1 m1):=aT hp2 g1;have hne:p1≠p2:=λe=>by rw[←e,g1]at hp2;cases hp2
 generalize upd H1 p2 (cy (CbX P w K mg base f cdv A outer s H0 E).w p2 m2)=H2 at s2 g2 g1'⊢;have k1:m1.length≤30:=by
  have:=cY hn1 λx hx=>(hm1 x).mp hx;rw[length_map,aJ]at this;omega
 have k2:m2.length≤30:=by
  have:=cY hn2 λx hx=>(hm2 x).mp hx;rw[length_map,aJ]at this;omega
 refine⟨p1,p2,m1,m2,rfl,rfl,hne,g1',g2,by omega,λm3 hn3 hm3 p3 hp3=>?_⟩;have k3:m3.length≤60:=by
  have:=cY (m:=m1++m2) hn3 λx hx=>mem_append.mpr ((hm3 x).mp hx);rw[length_append]at this;omega
 have s3:=s2.trans (af (o:=cy (CbX P w K mg base f cdv A outer s H0 E).w p3 m3) hp3);refine⟨p3,m3,rfl,ac,k3,λns hns hup l hl=>?_⟩;have s4:=s3.trans (af (o:=.lst (ns.map V.int)) hl);refine q l ns _ s4 ac hup (by rw[hns.length_eq];exact k3) λk=>?_;rw[hns.mem_iff,hm3 k,hm1 k,hm2 k]
theorem cb3(hr:Room 1 (A.deeper (PyProof.Rows.envOfC "change_between" (ai aX) s.heap.objs.size f cdv)))(CU:Has P w K mg base 1 "unlike_entries" ["entries"] pw):
  ∃t,PS (CbX P w K mg base f cdv A outer s H0 E) (cbS 3) t∧∀(D:Ends)(H:Hp)(x0 x1:Option V)(d d2 l:Addr)(as bs:List (Addr×(Addr×Nd)))(zs us:ZN)(ns:List Int),Book H d as zs→Book H d2 bs us→TW.Tree1 (nds zs)→TW.Tree1 (nds us)→H l=some (.lst (ns.map V.int))→ns.Pairwise (· < ·)→ns.length≤60→(∀k,k∈ns↔k∈(nds zs).map (·.num)∨k∈(nds us).map (·.num)) →
   (∀c es H',Same H H'→ChgAt H' c es→TW.Chg (nds zs) (nds us) (ba es)→D.rt (.ref c) H')→t D [x0,x1,some (.ref d),some (.ref d2),some (.ref l)] H:=by
 obtain⟨fU,fdU,GU,mU,kU,bU⟩:=CU;refine⟨_,av (al GU hr rfl mU kU bU .nil aF (aa (dA (N:=["number","after","before"]) (cl:=[("before",s.heap.objs.size+1),("after",s.heap.objs.size+2)]) (k:=1) (js:=[3,2]) (g:=bj 0) rfl
   (LcOk.mk' ["before","after"] rfl rfl (by decide +kernel) (by decide +kernel) ?hcl rfl (by decide +kernel)) rfl ?hj (cR (pv 4)) (λs H fp=>aE (i:=0) (show(["number","after","before"]:List Str).Nodup by decide +kernel) rfl (Or.inl rfl) (Or.inr rfl))
   (λs H fp=>bn (aa (pv 0) (aa (fg (bi hr) (pv 2) (pv 0) ⟨rfl,rfl,rfl,rfl⟩) (aa (fg (bi hr) (pv 1) (pv 0) ⟨rfl,rfl,rfl,rfl⟩) ae))))) ae)),?_⟩
 case hcl =>
  intro y hy;rcases mem_cons.mp hy with e|hy
  ·rw[e];rfl
  ·rcases mem_cons.mp hy with e|hy
   ·rw[e];rfl
   ·cases hy
 case hj =>
  intro i j x h1 h2
  match i,h1,h2 with
  |0,h1,h2 =>
   cases h1;cases h2;exact⟨rfl,Or.inr (Or.inl rfl),(show((ai aX).names.lookup ("after":Str)≠some NameKind.local)by decide +kernel),by first|exact Or.inl rfl|exact Or.inr rfl⟩
  |1,h1,h2 =>
   cases h1;cases h2;exact⟨rfl,Or.inr (Or.inl rfl),(show((ai aX).names.lookup ("before":Str)≠some NameKind.local)by decide +kernel),by first|exact Or.inl rfl|exact Or.inr rfl⟩
  |i+2,h1,h2=>simp at h1
 intro D H x0 x1 d d2 l as bs zs us ns bk bk2 T1 T2 hl hup hn hm q;refine⟨_,rfl,l,rfl,⟨_,SqL.of hl⟩,λp hp=>?_⟩;refine dL (fr:=[some (.ref d2),some (.ref d)]) ns V.int (by omega) hp (ie (SqL.of hl)) rfl (λk y H'=>∃c vo vn,y=.ref c∧c≠p∧H' c=some (.tup [.int k,vo,vn])∧cg H' vo (TW.aC (nds zs) k)∧cg H' vn (TW.aC (nds us) k)∧vo≠.ref p∧vn≠.ref p) (λk y H H' h ex=>?_) (λk H' kk mk s1 hpl hk=>?_) (λys H' s1 hp' hys=>?_)
 ·obtain⟨c,vo,vn,e,ne,h1,h2,h3,n1,n2⟩:=h;have ov:∀{v:V}{o:Option Nd},v≠.ref p→cg H v o→cg H' v o:=λhv h=>by
   rcases h with h|⟨q,n,e,h,e2⟩
   ·exact .inl h
   ·exact .inr ⟨q,n,e,ex q _ (λz=>hv (by rw[e,z])) h,e2⟩
  exact⟨c,vo,vn,e,ne,ex c _ ne h1,ov n1 h2,ov n2 h3,n1,n2⟩
 ·obtain⟨r1,hr1,ho1⟩:=(bk.same s1).optV T1 k;obtain⟨r2,hr2,ho2⟩:=(bk2.same s1).optV T2 k;have np:∀{v:V}{o:Option Nd},cg H' v o→v≠.ref p:=λh e=>by
   rcases h with⟨h,_⟩|⟨q,n,e2,h,_⟩
   ·rw[h]at e;cases e
   ·rw[e2]at e;injection e with e
    obtain⟨ys,hy⟩:=hpl;rw[e,hy]at h;cases h
  refine⟨_,rfl,_,rfl,d,rfl,.inl ⟨_,(bk.same s1).dict⟩,_,rfl,r1,hr1,_,rfl,d2,rfl,.inl ⟨_,(bk2.same s1).dict⟩,_,rfl,r2,hr2,(show 3≤sizeLine from ao (by decide)),λc hc=>?_⟩;have s2:=af (o:=.tup [.int k,r1.getD .non,r2.getD .non]) hc;exact hk _ _ s2 ⟨c,_,_,rfl,dj hpl hc,ac,ho1.same s2,ho2.same s2,np ho1,np ho2⟩
 ·obtain⟨cs,e1,e2,e3⟩:=cP (val:=V.ref) (S:=λ(k:Int) (c:Addr)=>RowAt H' c (TW.dP (nds zs) (nds us) k)) hys (λk y _ ⟨c,vo,vn,e,_,h1,h2,h3,_⟩=>⟨c,e,⟨vo,vn,h1,h2,h3⟩,pr k⟩);have hcl:cs.length=ns.length:=by rw[←e1,length_map]
  have er:ba (cs.map λx=>(x.2,TW.dP (nds zs) (nds us) x.1))=ns.map (TW.dP (nds zs) (nds us)):=by
   unfold ba;rw[map_map,←e1,map_map];rfl
  refine⟨p,cs.map λx=>(x.2,TW.dP (nds zs) (nds us) x.1),rfl,by rw[hp',e2];unfold cw;rw[map_map];rfl,λe he=>?_,by rw[length_map];omega,λc H2 s2 hc=>?_⟩
  ·obtain⟨x,hx,rfl⟩:=mem_map.mp he;exact e3 x hx
  ·refine q c _ H2 (s1.trans s2) hc ?_;have:ba ((cs.map λx=>(x.2,TW.dP (nds zs) (nds us) x.1)).filter unl)=_:=je er;rw[this];refine TW.vx hup λk hk=>.inl ((hm k).mpr ?_);rcases hk with h|h
   ·exact .inl (lP h)
   ·exact .inr (lP h)
def rP:Sp:=λvs H Q _=>∃t u zs us,vs=[.ref t,.ref u]∧Tre H t zs∧Tre H u us∧∀c es H',Same H H'→ChgAt H' c es→TW.Chg (nds zs) (nds us) (ba es)→Q (.ref c) H'
theorem zm{f:Addr}{fd:FuncData}(F:Fun K "change_between" "change_between" aX f fd)(T:Txt mg)(CP:Has P w K mg base 1 "parts_by_number" ["tree"] nB)(CU:Has P w K mg base 1 "unlike_entries" ["entries"] pw):FnOk P w K mg base CX0 2 f fd ["one","other"] rP:=by
 obtain⟨fP,fdP,GP,mP,kP,bP⟩:=CP;refine F.ok xp (λvs H Q E h=>?_) (λcdv A outer s H vs Q E hr h=>?_)
 ·obtain⟨t,u,zs,us,rfl,_⟩:=h;rfl
 ·obtain⟨t,u,zs,us,rfl,tr,tr2,q⟩:=h;have hr1:Room 1 _:=hr.mono (by decide);obtain⟨t2,p2,h2⟩:=cb2 (P:=P) (w:=w) (K:=K) (base:=base) (f:=f) (cdv:=cdv) (A:=A) (outer:=outer) (s:=s) (H0:=H) (E:=E) T;obtain⟨t3,p3,h3⟩:=cb3 (P:=P) (w:=w) (base:=base) (f:=f) (cdv:=cdv) (A:=A) (outer:=outer) (s:=s) (H0:=H) (E:=E) hr1 CU;refine⟨_,ag (aA (i:=2) xp.nd rfl (Or.inr rfl) (al GP hr1 rfl mP kP bP .nil aF (aa (pv 0) ae)))
   (ag (aA (i:=3) xp.nd rfl (Or.inr rfl) (al GP hr1 rfl mP kP bP .nil aF (aa (pv 1) ae))) (ag p2 (ak p3))),?_⟩
  refine⟨_,rfl,t,zs,rfl,tr,λd as H1 s1 _ bk _=>?_⟩;refine⟨_,rfl,u,us,rfl,tr2.same s1,λd2 bs H2 s2 _ bk2 _=>?_⟩;refine h2 _ H2 _ _ _ d d2 as bs zs us (bk.same s2) bk2 tr.len tr2.len λl ns H3 s3 hl hup hn hm=>?_;exact h3 _ H3 _ _ d d2 l as bs zs us ns ((bk.same s2).same s3) (bk2.same s3) tr.tr tr2.tr hl hup hn hm λc es H4 s4 hc hch=>q c es H4 (((s1.trans s2).trans s3).trans s4) hc hch
end
end TK
namespace L2
open PySem PySem.Spec PyProof.Rows
section
variable{X:Cx}
end
end L2
namespace TK
open PySem L2
def fH(es:ZR):List (Key×V):=es.map λe=>((Sum.inl e.2.k:Key),V.ref e.1)
section
variable{P:Program}{w:World}{K:PySem.W.Frag}{mg:Str→Option Value}{base:Heap}
def qr:Sp:=λvs H Q _=>∃c es,vs=[.ref c]∧ChgAt H c es∧(es.map (·.2.k)).Nodup∧∀d H',Same H H'→H d=none→H' d=some (.dK (fH es))→Q (.ref d) H'
theorem zn:FnScope ["tree"] ["tree"] (ai uW):=fsc
theorem xq{f:Addr}{fd:FuncData}(F:Fun K "by_number" "by_number" uW f fd)(T:Txt mg):FnOk P w K mg base CX0 1 f fd ["tree"] qr:=by
 refine F.ok zn (λvs H Q E h=>?_) (λcdv A outer s H vs Q E hr h=>?_)
 ·obtain⟨c,es,rfl,_⟩:=h;rfl
 ·obtain⟨c,es,rfl,hc,hnd,q⟩:=h;have hlen:=hc.len;refine⟨_,ak (av (aO (dI rfl) rfl T.dict boot_dict (aa (dA (N:=["node"]) (k:=1) (js:=[]) (g:=bj 0) rfl (cF rfl (by decide +kernel) (by decide +kernel) (by decide +kernel)) rfl (λi j x h=>by simp at h)
   (cx (pv 0)) (λs H fp=>aE (i:=0) (show(["node"]:List Str).Nodup by decide +kernel) rfl (Or.inl rfl) (Or.inr rfl))
   (λs H fp=>bn (aa (au (r:=dS K) ar (pv 0) ah (λ_ _=>rfl)) (aa (pv 0) ae)))) ae))),?_⟩
  refine⟨_,rfl,c,rfl,⟨_,SqT.of hc.tup⟩,λp hp=>?_⟩;refine dL (fr:=[]) es (λe=>V.ref e.1) (by omega) hp (dJ (SqT.of hc.tup)) rfl (λe y H'=>∃q,y=.ref q∧q≠p∧H' q=some (.tup [.int e.2.k,.ref e.1])) (λe y H H' ⟨q,e1,ne,h⟩ ex=>⟨q,e1,ne,ex q _ ne h⟩) (λe H' kk me s1 hpl hk=>?_) (λys H' s1 hp' hys=>?_)
  ·obtain⟨⟨vo,vn,h1,_,_⟩,_⟩:=(hc.at' e me).same s1;refine⟨_,rfl,e.1,_,_,_,rfl,rfl,SqT.of h1,rfl,_,rfl,le2,λq hq=>?_⟩;exact hk _ _ (af hq) ⟨q,rfl,dj hpl hq,ac⟩
  ·obtain⟨cs,e1,e2,e3⟩:=cP (val:=V.ref) (S:=λ(e:Addr×Row) (q:Addr)=>H' q=some (.tup [.int e.2.k,.ref e.1])) hys (λe y _ ⟨q,e,_,h⟩=>⟨q,e,h⟩);have hcl:cs.length=es.length:=by rw[←e1,length_map]
   have ek:(cs.map λx=>(x.2,(Sum.inl x.1.2.k:Key),V.ref x.1.1)).map (·.2)=fH es:=by
    unfold fH;rw[map_map,←e1,map_map];rfl
   refine⟨p,cs.map λx=>(x.2,(Sum.inl x.1.2.k:Key),V.ref x.1.1),rfl,?_,λz hz=>?_,by rw[length_map];omega,?_,λd hd=>?_⟩
   ·rw[hp',e2,map_map,map_map];rfl
   ·obtain⟨x,hx,rfl⟩:=mem_map.mp hz;exact e3 x hx
   ·have e4:(cs.map λx=>(x.2,(Sum.inl x.1.2.k:Key),V.ref x.1.1)).map (·.2.1)=(es.map (·.2.k)).map (Sum.inl:Int→Key):=by
     rw[←e1];simp only[map_map];rfl
    rw[e4];unfold Nodup at hnd⊢;rw[pairwise_map];exact hnd.imp λh e=>h (by injection e)
   ·rw[ek];exact q d _ (s1.trans (af hd)) (s1.free hd) ac
end
theorem ky{H:Hp}{d:Addr}{es:ZR}(hd:H d=some (.dK (fH es)))(hn:(es.map (·.2.k)).Nodup)(k:Int):(∃e∈es,e.2.k=k∧cN H d (.int k) (some (.ref e.1)))∨((∀e∈es,e.2.k≠k)∧cN H d (.int k) none):=by
 have hb:((es.map λe=>(e.1,(⟨e.2.k,0,"",none⟩:Nd))).map (·.2.num)).Nodup:=by rw[map_map];exact hn
 have hK:fH es=bw (es.map λe=>(e.1,(⟨e.2.k,0,"",none⟩:Nd))):=by unfold fH bw;rw[map_map];rfl
 by_cases h:∃e∈es,e.2.k=k
 ·obtain⟨e,he,rfl⟩:=h;refine .inl ⟨e,he,rfl,.inl ⟨fH es,Sum.inl e.2.k,.inl hd,rfl,?_⟩⟩;rw[hK];exact(iP hb (b:=(e.1,⟨e.2.k,0,"",none⟩)) (mem_map.mpr ⟨e,he,rfl⟩)).symm
 ·have h':∀e∈es,e.2.k≠k:=λe he z=>h ⟨e,he,z⟩;refine .inr ⟨h',.inl ⟨fH es,Sum.inl k,.inl hd,rfl,?_⟩⟩
  symm
  refine ng λhp=>?_;unfold fH at hp;rw[map_map]at hp;obtain⟨e,he,z⟩:=mem_map.mp hp;have z':(Sum.inl e.2.k:Key)=Sum.inl k:=z;injection z' with z'
  exact h' e he z'
def joS(i:Nat):Stmt:=(br eG).getD i (.Pass ⟨0,0,0,0⟩)
def JN:List Str:=["one","other","earlier","later","entries","number","first","last"]
theorem qu:FnScope JN ["one","other"] (ai eG):=fsc
abbrev JX(P:Program)(w:World)(K:PySem.W.Frag)(mg:Str→Option Value)(base:Heap)(f:Addr)(cdv:Value)(A:Around)(outer:List Env)(s:Shared)(H:Hp)(E:XK):Cx:=(gF CX0 P w K mg base JN "joined" (ai eG) f cdv A outer s H E).nox
theorem qv{t u:List Nd}{es:ZR}(h:TW.Chg t u (ba es)){e:Addr×Row}(he:e∈es):e.2.o=TW.aC t e.2.k∧e.2.n=TW.aC u e.2.k:=by
 obtain⟨h1,h2,_⟩:=(h.mem e.2).mp (mem_map.mpr ⟨e,he,rfl⟩);exact⟨h1,h2⟩
theorem jq{t u:List Nd}{es:ZR}(h:TW.Chg t u (ba es)){k:Int}(hk:∀e∈es,e.2.k≠k):TW.aC t k=TW.aC u k:=by
 by_cases z:TW.aC t k=TW.aC u k
 ·exact z
 ·have:=(h.mem ⟨k,TW.aC t k,TW.aC u k⟩).mpr ⟨rfl,rfl,z⟩;obtain⟨e,he,e2⟩:=mem_map.mp this;exact absurd (by rw[e2]) (hk e he)
theorem nC{t u:List Nd}{es:ZR}(h:TW.Chg t u (ba es)):(es.map (·.2.k)).Nodup:=by
 have:=h.up;unfold ba at this;rw[pairwise_map]at this;unfold Nodup;rw[pairwise_map];exact this.imp λh e=>by omega
theorem cg.over{H:Hp}{l:Addr}{xs:List V}{o':HO}{v:V}{o:Option Nd}(h:cg H v o)(hl:H l=some (.lst xs)):cg (upd H l o') v o:=by
 rcases h with h|⟨q,n,e,h,e2⟩
 ·exact .inl h
 ·refine .inr ⟨q,n,e,?_,e2⟩;rw[aj]
  ·exact h
  ·rintro rfl;rw[hl]at h;cases h
theorem RowAt.over{H:Hp}{l:Addr}{xs:List V}{o':HO}{e:Addr}{r:Row}(h:RowAt H e r)(hl:H l=some (.lst xs)):RowAt (upd H l o') e r:=by
 obtain⟨⟨vo,vn,h1,h2,h3⟩,hk⟩:=h;refine⟨⟨vo,vn,?_,h2.over hl,h3.over hl⟩,hk⟩;rw[aj]
 ·exact h1
 ·rintro rfl;rw[hl]at h1;cases h1
structure Jo(H0 H:Hp)(c c2 d d2 l l2:Addr)(es fs gs:ZR)(ns:List Int)(t v:List Nd)(i:Nat):Prop where
 s0:Same H0 H
 c1:∀e∈es,RowAt H e.1 e.2
 c2':∀e∈fs,RowAt H e.1 e.2
 d1:H d=some (.dK (fH es))
 d2':H d2=some (.dK (fH fs))
 l1:H l=some (.lst (cw gs))
 l2':H l2=some (.lst (ns.map V.int))
 at':∀g∈gs,RowAt H g.1 g.2
 rw':ba gs=(ns.take i).map (TW.dP t v)
theorem Jo.more{H0 H:Hp}{c c2 d d2 l l2 q:Addr}{es fs gs:ZR}{ns:List Int}{t v:List Nd}{i:Nat}{k:Int}{vo vn:V}(h:Jo H0 H c c2 d d2 l l2 es fs gs ns t v i)(hl0:H0 l=none)(hln:l2≠l)(hk:ns[i]?=some k)(hq:H q=none)(ho:cg H vo (TW.aC t k))(hn:cg H vn (TW.aC v k)):
  Jo H0 (upd (upd H q (.tup [.int k,vo,vn])) l (.lst (cw gs++[.ref q]))) c c2 d d2 l l2 es fs (gs++[(q,TW.dP t v k)]) ns t v (i+1):=by
 have s1:=af (o:=.tup [.int k,vo,vn]) hq;have hl1:=s1 _ _ h.l1;have ndl:∀{a:Addr}{u:List (Key×V)},H a=some (.dK u)→upd (upd H q (.tup [.int k,vo,vn])) l (.lst (cw gs++[.ref q])) a=some (.dK u):=λ{a u} ha=>by
  rw[aj]
  ·exact s1 _ _ ha
  ·rintro rfl;rw[h.l1]at ha;cases ha
 refine⟨aM hl0 (h.s0.trans s1),λe he=>((h.c1 e he).same s1).over hl1,λe he=>((h.c2' e he).same s1).over hl1,ndl h.d1,ndl h.d2',?_,?_,λg hg=>?_,?_⟩
 ·rw[ac];unfold cw;rw[map_append];rfl
 ·rw[aj hln];exact s1 _ _ h.l2'
 ·rcases mem_append.mp hg with hg|hg
  ·exact((h.at' g hg).same s1).over hl1
  ·have e:g=(q,TW.dP t v k):=by simpa using hg
   subst e;have r:RowAt (upd H q (.tup [.int k,vo,vn])) q (TW.dP t v k):=⟨⟨vo,vn,ac,ho.same s1,hn.same s1⟩,pr k⟩;exact r.over hl1
 ·have ht:ns.take (i+1)=ns.take i++[k]:=by rw[take_succ,hk];rfl
  rw[ht,map_append,←h.rw'];unfold ba;rw[map_append];rfl
section
variable{P:Program}{w:World}{K:PySem.W.Frag}{mg:Str→Option Value}{base:Heap}{f:Addr}{cdv:Value}{A:Around}{outer:List Env}{s:Shared}{H0:Hp}{E:XK}
abbrev joσ(c c2 d d2 l:Addr)(x5 x6 x7:Option V):St:=[some (.ref c),some (.ref c2),some (.ref d),some (.ref d2),some (.ref l),x5,x6,x7]
theorem jo3(T:Txt mg)(hr:Room 1 (A.deeper (PyProof.Rows.envOfC "joined" (ai eG) s.heap.objs.size f cdv))):
  ∃rd,PS (JX P w K mg base f cdv A outer s H0 E) (joS 3) rd∧∀(D:Ends)(H:Hp)(c c2 d d2 l:Addr)(es fs:ZR)(t u v:List Nd),H0 l=none→Same H0 H→H l=some (.lst [])→ChgAt H c es→ChgAt H c2 fs→H d=some (.dK (fH es))→H d2=some (.dK (fH fs))→TW.Chg t u (ba es)→TW.Chg u v (ba fs)→es.length≤30→fs.length≤30 →
   (∀(ns:List Int)(gs:ZR)(x5 x6 x7:Option V)(H':Hp),Same H0 H'→H' l=some (.lst (cw gs))→(∀g∈gs,RowAt H' g.1 g.2)→ba gs=ns.map (TW.dP t v)→ns.Pairwise (· < ·)→ns.length≤60→(∀k,k∈ns↔(∃e∈es,e.2.k=k)∨∃e∈fs,e.2.k=k)→D.nx (joσ c c2 d d2 l x5 x6 x7) H')→rd D (joσ c c2 d d2 l none none none) H:=by
 refine⟨_,dQ PassesOwn.never rfl (cR (aB (fG rfl) rfl T.sorted boot_sorted (aa (aD pq (aO dO rfl T.set rfl (aa (pv 2) ae)) (aO dO rfl T.set rfl (aa (pv 3) ae))) ae))) (aE (i:=5) qu.nd rfl (Or.inl rfl))
  (ag (aA (i:=6) qu.nd rfl (Or.inl rfl) (ou (bi hr) (pv 2) (pv 5) (fg (bi hr) (pv 3) (pv 5) ⟨rfl,rfl,rfl,rfl⟩) ⟨rfl,rfl,rfl,rfl⟩))
  (ag (aA (i:=7) qu.nd rfl (Or.inl rfl) (ou (bi hr) (pv 3) (pv 5) (fg (bi hr) (pv 2) (pv 5) ⟨rfl,rfl,rfl,rfl⟩) ⟨rfl,rfl,rfl,rfl⟩))
  (ag (aP (PW.pt (pw_and (fc (my (bi hr) (pv 5) (pv 2))) (pw_and (fc (my (bi hr) (pv 5) (pv 3))) (pw_and1 (am (qq (bi hr)) (au ar (pv 6) ah (λ_ _=>rfl)) (au ar (pv 7) ah (λ_ _=>rfl)) (aw _)))))) (ak nU) ay)
  (ak (bq (eY plainAttrs_list PySem.F.slot_list_append PySem.F.type_list_append bv (pv 4) (aa (bn (aa (pv 5) (aa (au ar (pv 6) ah (λ_ _=>rfl)) (aa (au ar (pv 7) ah (λ_ _=>rfl)) ae)))) ae))))))),?_⟩
 intro D H c c2 d d2 l es fs t u v hl0 s0 hl hc hc2 hd hd2 ch1 ch2 le1 le2' q;have nd1:=nC ch1;have nd2:=nC ch2;have ke:(fH es).map (·.1)=(es.map (·.2.k)).map (Sum.inl:Int→Key):=by unfold fH;rw[map_map,map_map];rfl
 have kf:(fH fs).map (·.1)=(fs.map (·.2.k)).map (Sum.inl:Int→Key):=by unfold fH;rw[map_map,map_map];rfl
 refine⟨_,rfl,d,_,es.map (·.2.k),rfl,.inl hd,ke,by rw[length_map];omega,λm1 hn1 hm1 p1 hp1=>?_⟩;have s1:=af (o:=cy (JX P w K mg base f cdv A outer s H0 E).w p1 m1) hp1;have g1:upd H p1 (cy (JX P w K mg base f cdv A outer s H0 E).w p1 m1) p1=some (cy (JX P w K mg base f cdv A outer s H0 E).w p1 m1):=ac;generalize upd H p1 (cy (JX P w K mg base f cdv A outer s H0 E).w p1 m1)=H1 at s1 g1⊢;refine⟨_,rfl,d2,_,fs.map (·.2.k),rfl,.inl (s1 _ _ hd2),kf,by rw[length_map];omega,λm2 hn2 hm2 p2 hp2=>?_⟩;have s2:=s1.trans (af (o:=cy (JX P w K mg base f cdv A outer s H0 E).w p2 m2) hp2);have g2:upd H1 p2 (cy (JX P w K mg base f cdv A outer s H0 E).w p2 m2) p2=some (cy (JX P w K mg base f cdv A outer s H0 E).w p2 m2):=ac;have g1':upd H1 p2 (cy (JX P w K mg base f cdv A outer s H0 E).w p2 m2) p1=some (cy (JX P w K mg base f cdv A outer s H0 E).w p1 m1):=aT hp2 g1;have hne:p1≠p2:=λe=>by rw[←e,g1]at hp2;cases hp2
 generalize upd H1 p2 (cy (JX P w K mg base f cdv A outer s H0 E).w p2 m2)=H2 at s2 g2 g1'⊢;have k1:m1.length≤30:=by
  have:=cY hn1 λx hx=>(hm1 x).mp hx;rw[length_map]at this;omega
 have k2:m2.length≤30:=by
  have:=cY hn2 λx hx=>(hm2 x).mp hx;rw[length_map]at this;omega
 refine⟨p1,p2,m1,m2,rfl,rfl,hne,g1',g2,by omega,λm3 hn3 hm3 p3 hp3=>?_⟩;have k3:m3.length≤60:=by
  have:=cY (m:=m1++m2) hn3 λx hx=>mem_append.mpr ((hm3 x).mp hx);rw[length_append]at this;omega
 have s3:=s2.trans (af (o:=cy (JX P w K mg base f cdv A outer s H0 E).w p3 m3) hp3);refine⟨p3,m3,rfl,ac,k3,λns hns hup l2 hl2=>?_⟩;have s4:=s3.trans (af (o:=.lst (ns.map V.int)) hl2);have g4:upd (upd H2 p3 (cy (JX P w K mg base f cdv A outer s H0 E).w p3 m3)) l2 (.lst (ns.map V.int)) l2=some (.lst (ns.map V.int)):=ac;generalize upd (upd H2 p3 (cy (JX P w K mg base f cdv A outer s H0 E).w p3 m3)) l2 (.lst (ns.map V.int))=H4 at s4 g4⊢;have hln:l2≠l:=λe=>by
  have h1:=s3 _ _ hl;rw[e,h1]at hl2;cases hl2
 have hnl:ns.length≤60:=by rw[hns.length_eq];exact k3
 have hmem:∀k,k∈ns↔(∃e∈es,e.2.k=k)∨∃e∈fs,e.2.k=k:=λk=>by
  rw[hns.mem_iff,hm3 k,hm1 k,hm2 k,mem_map,mem_map]
 have J0:Jo H0 H4 c c2 d d2 l l2 es fs [] ns t v 0:=⟨s0.trans s4,λe he=>(hc.at' e he).same s4,λe he=>(hc2.at' e he).same s4,s4 _ _ hd,s4 _ _ hd2,s4 _ _ hl,g4,by simp,by simp[ba]⟩;refine⟨l2,rfl,⟨_,SqL.of g4⟩,gS (xs:=ns.map V.int) (λi σ H'=>∃gs x5 x6 x7,σ=joσ c c2 d d2 l x5 x6 x7∧Jo H0 H' c c2 d d2 l l2 es fs gs ns t v i) ⟨[],none,none,none,rfl,J0⟩ (λi σ H' _ ⟨_,_,_,_,_,J⟩=>SqL.of J.l2') (λi x σ H' hx h=>?_) (λσ H' h=>?_)⟩
 ·obtain⟨gs,x5,x6,x7,rfl,J⟩:=h;rw[getElem?_map]at hx;cases gx:ns[i]? with
  |none=>rw[gx]at hx;cases hx
  |some k =>
   rw[gx]at hx;cases hx;have hi:i<ns.length:=(List.getElem?_eq_some_iff.mp gx).1;have hgl:gs.length≤60:=by
    have:=congrArg length J.rw';unfold ba at this;rw[length_map,length_map,length_take]at this;omega
   have isd1:IsD H' d:=.inl ⟨_,.inl J.d1⟩;have isd2:IsD H' d2:=.inl ⟨_,.inl J.d2'⟩;have small:(cw gs).length<sizeLine:=ax (by unfold cw;rw[length_map];omega);rcases ky J.d1 nd1 k with⟨e1,he1,ek1,gd1⟩|⟨no1,gd1⟩
   ·obtain⟨⟨vo1,vn1,a1,a2,a3⟩,_⟩:=J.c1 e1 he1;obtain⟨r1,r2⟩:=qv ch1 he1;rw[ek1]at a1 r1 r2;rcases ky J.d2' nd2 k with⟨e2,he2,ek2,gd2⟩|⟨no2,gd2⟩
    ·obtain⟨⟨vo2,vn2,b1,b2,b3⟩,_⟩:=J.c2' e2 he2;obtain⟨w1,w2⟩:=qv ch2 he2;rw[ek2]at b1 w1 w2;refine⟨_,rfl,d,rfl,isd1,_,rfl,_,rfl,d2,rfl,isd2,_,rfl,_,gd2,_,gd1,?_⟩;refine⟨_,rfl,d2,rfl,isd2,_,rfl,_,rfl,d,rfl,isd1,_,rfl,_,gd1,_,gd2,?_⟩;refine⟨_,rfl,_,rfl,d,_,rfl,gd1,_,rfl,aQ ⟨_,rfl,_,rfl,d2,_,rfl,gd2,_,rfl,aQ ⟨_,rfl,e1.1,_,_,_,rfl,rfl,SqT.of a1,rfl,_,rfl,e2.1,_,_,_,rfl,rfl,SqT.of b1,rfl,_,_,a3.ot,b2.ot,_,rfl,?_⟩⟩⟩;have e6:(!decide (e1.2.n.map aN=e2.2.o.map aN))=false:=by rw[r2,w1];simp
     rw[e6];refine aI ⟨_,rfl,.inl ⟨rfl,_,SqL.of J.l1⟩,_,rfl,_,rfl,e1.1,_,_,_,rfl,rfl,SqT.of a1,rfl,_,rfl,e2.1,_,_,_,rfl,rfl,SqT.of b1,rfl,(show 3≤sizeLine from ao (by decide)),λq hq=>⟨l,_,_,rfl,rfl,aT hq J.l1,small,?_⟩⟩;exact⟨_,_,_,_,rfl,J.more hl0 hln gx hq (by rw[←r1];exact a2) (by rw[←w2];exact b3)⟩
    ·have out:=jq ch2 no2;refine⟨_,rfl,d,rfl,isd1,_,rfl,_,rfl,d2,rfl,isd2,_,rfl,_,gd2,_,gd1,?_⟩;refine⟨_,rfl,d2,rfl,isd2,_,rfl,_,rfl,d,rfl,isd1,_,rfl,_,gd1,_,gd2,?_⟩;refine⟨_,rfl,_,rfl,d,_,rfl,gd1,_,rfl,aQ ⟨_,rfl,_,rfl,d2,_,rfl,gd2,_,rfl,aI (aI ?_)⟩⟩;refine⟨_,rfl,.inl ⟨rfl,_,SqL.of J.l1⟩,_,rfl,_,rfl,e1.1,_,_,_,rfl,rfl,SqT.of a1,rfl,_,rfl,e1.1,_,_,_,rfl,rfl,SqT.of a1,rfl,(show 3≤sizeLine from ao (by decide)),λq hq=>⟨l,_,_,rfl,rfl,aT hq J.l1,small,?_⟩⟩;exact⟨_,_,_,_,rfl,J.more hl0 hln gx hq (by rw[←r1];exact a2) (by rw[←out,←r2];exact a3)⟩
   ·have out1:=jq ch1 no1;rcases ky J.d2' nd2 k with⟨e2,he2,ek2,gd2⟩|⟨no2,gd2⟩
    ·obtain⟨⟨vo2,vn2,b1,b2,b3⟩,_⟩:=J.c2' e2 he2;obtain⟨w1,w2⟩:=qv ch2 he2;rw[ek2]at b1 w1 w2;refine⟨_,rfl,d,rfl,isd1,_,rfl,_,rfl,d2,rfl,isd2,_,rfl,_,gd2,_,gd1,?_⟩;refine⟨_,rfl,d2,rfl,isd2,_,rfl,_,rfl,d,rfl,isd1,_,rfl,_,gd1,_,gd2,?_⟩;refine⟨_,rfl,_,rfl,d,_,rfl,gd1,_,rfl,aI (aI ?_)⟩;refine⟨_,rfl,.inl ⟨rfl,_,SqL.of J.l1⟩,_,rfl,_,rfl,e2.1,_,_,_,rfl,rfl,SqT.of b1,rfl,_,rfl,e2.1,_,_,_,rfl,rfl,SqT.of b1,rfl,(show 3≤sizeLine from ao (by decide)),λq hq=>⟨l,_,_,rfl,rfl,aT hq J.l1,small,?_⟩⟩;exact⟨_,_,_,_,rfl,J.more hl0 hln gx hq (by rw[out1,←w1];exact b2) (by rw[←w2];exact b3)⟩
    ·exfalso
     rcases (hmem k).mp (mem_of_getElem? gx)with⟨e,he,z⟩|⟨e,he,z⟩
     ·exact no1 e he z
     ·exact no2 e he z
 ·obtain⟨gs,x5,x6,x7,rfl,J⟩:=h;have:=J.rw';rw[length_map,take_length]at this;exact q ns gs x5 x6 x7 H' J.s0 J.l1 J.at' this hup hnl hmem
def vB:Sp:=λvs H Q _=>∃c c2 es fs t u v,vs=[.ref c,.ref c2]∧ChgAt H c es∧ChgAt H c2 fs∧TW.Chg t u (ba es)∧TW.Chg u v (ba fs)∧es.length≤30∧fs.length≤30∧∀c' gs H',Same H H'→ChgAt H' c' gs→TW.Chg t v (ba gs)→Q (.ref c') H'
theorem As{f:Addr}{fd:FuncData}(F:Fun K "joined" "joined" eG f fd)(T:Txt mg)(CB:Has P w K mg base 1 "by_number" ["tree"] qr)(CU:Has P w K mg base 1 "unlike_entries" ["entries"] pw):FnOk P w K mg base CX0 2 f fd ["one","other"] vB:=by
 obtain⟨fB,fdB,GB,mB,kB,bB⟩:=CB;obtain⟨fU,fdU,GU,mU,kU,bU⟩:=CU;refine F.ok qu (λvs H Q E h=>?_) (λcdv A outer s H vs Q E hr h=>?_)
 ·obtain⟨c,c2,es,fs,t,u,v,rfl,_⟩:=h;rfl
 ·obtain⟨c,c2,es,fs,t,u,v,rfl,hc,hc2,ch1,ch2,l1,l2,q⟩:=h;have hr1:Room 1 _:=hr.mono (by decide);obtain⟨t3,p3,h3⟩:=jo3 (P:=P) (w:=w) (K:=K) (base:=base) (f:=f) (cdv:=cdv) (A:=A) (outer:=outer) (s:=s) (H0:=H) (E:=E) T hr1;refine⟨_,ag (aA (i:=2) qu.nd rfl (Or.inl rfl) (al GB hr1 rfl mB kB bB .nil aF (aa (pv 0) ae)))
   (ag (aA (i:=3) qu.nd rfl (Or.inl rfl) (al GB hr1 rfl mB kB bB .nil aF (aa (pv 1) ae)))
   (ag (aA (i:=4) qu.nd rfl (Or.inl rfl) (bu ae)) (ag p3
   (ak (av (al GU hr1 rfl mU kU bU .nil aF (aa (pv 4) ae))))))),?_⟩
  refine⟨_,rfl,c,es,rfl,hc,nC ch1,λd H1 s1 _ hd=>?_⟩;refine⟨_,rfl,c2,fs,rfl,hc2.same s1,nC ch2,λd2 H2 s2 _ hd2=>?_⟩;refine⟨zero_le _,λl hl=>?_⟩;have s3:=af (o:=.lst []) hl;have s12:=s1.trans s2;refine h3 _ _ c c2 d d2 l es fs t u v (s12.free hl) (s12.trans s3) ac ((hc.same s12).same s3) ((hc2.same s12).same s3) (s3 _ _ (s2 _ _ hd)) (s3 _ _ hd2) ch1 ch2 l1 l2 λns gs x5 x6 x7 H4 s4 hl4 hg4 hrows hup hn hm=>?_;have hgl:gs.length≤60:=by
   have:=congrArg length hrows;unfold ba at this;rw[length_map,length_map]at this;omega
  refine⟨_,rfl,l,gs,rfl,hl4,hg4,hgl,λc' H5 s5 hc'=>?_⟩;refine q c' _ H5 (s4.trans s5) hc' ?_;have e1:ba (gs.filter unl)=_:=je hrows;rw[e1];refine TW.vx hup λk hk=>?_
  by_cases z:TW.aC t k=TW.aC v k
  ·exact .inr z
  ·refine .inl ((hm k).mpr ?_)
   by_cases a:∃e∈es,e.2.k=k
   ·exact .inl a
   ·by_cases b:∃e∈fs,e.2.k=k
    ·exact .inr b
    ·exact absurd ((jq ch1 λe he ek=>a ⟨e,he,ek⟩).trans (jq ch2 λe he ek=>b ⟨e,he,ek⟩)) z
end
end TK
namespace L2
open PySem PySem.Spec PyProof.Rows
section
variable{X:Cx}
theorem kG(hc:X.calm=true):cz X (.builtin "sorted") (λxs H Q=>∃d kvs,∃ns:List Int,xs=[.ref d]∧Rd H d (.dK kvs)∧kvs.map (·.1)=ns.map (Sum.inl:Int→Key)∧ns.Nodup∧ns.length≤60 ∧
  ∀ms:List Int,ms.Perm ns→ms.Pairwise (λa b=>a<b)→∀p,H p=none→Q (.ref p) (upd H p (.lst (ms.map V.int)))):=by
 intro pins s σ H xs us Q I r h;obtain⟨d,kvs,ns,rfl,hH,hks,hnd',h60,q⟩:=h;obtain⟨u,rfl,ru⟩:=eB r;cases ru;obtain⟨hz,hsm,vs0,rel,dd⟩:=I.dK hH;obtain⟨ep,da⟩:=dd.dictAt;have hzv:vs0.length≤sizeLine:=by rw[←rel.length];exact hz
 refine SRT.kr (κ:=oneType') (PySem.W.kdl_dict hsm) (I.ok.hd hc) da hzv λh1 tk vs hk1 hlt1 hit=>?_;have rv:aH (ns.map V.int) vs:=by
  have:=wM rel hit;have e:(kvs.map λp=>kV p.1)=ns.map V.int:=by
   have:=congrArg (List.map kV) hks;rw[map_map,map_map]at this;exact this
  rw[e]at this;simpa using this
 have hvl:vs.length=ns.length:=by rw[←rv.length,length_map]
 have gd:∀i,i<ns.length→∃t,vs.getD i Value.none=.int (ns.getD i 0) t:=λi hi=>by
  obtain⟨v,hv,r⟩:=rv.get (i:=i) (x:=.int (ns.getD i 0)) (by rw[getElem?_map,(cX (d:=(0:Int)) hi).2];rfl);obtain⟨t,rfl⟩:=r;exact⟨t,by rw[getD_eq_getElem?_getD,hv];rfl⟩
 refine⟨λi j=>decide (ns.getD i 0<ns.getD j 0),⟨λi _=>by simp,λi j k _ _ _ h1 h2=>?_,λi j hi hj hij=>?_⟩,by omega,λA' s' _ _ Q' h2 hQ=>?_,λA' s' _ _ i j C hi hj hC=>?_,λp h' hrow hup kp hg=>?_⟩
 ·simp only[decide_eq_true_eq]at *;omega
 ·simp only[decide_eq_true_eq];have:ns.getD i 0≠ns.getD j 0:=by
   rw[getD_eq_getElem?_getD,getD_eq_getElem?_getD,getElem?_eq_getElem (by omega),getElem?_eq_getElem (by omega)];exact λe=>hij ((getElem_inj hnd').mp e)
  omega
 ·rw[ksk_kind (keys:=vs.toArray) (kz:=ns) (by simpa using na rv) (by rw[size_toArray];omega)];exact wpAny_pure hQ
 ·obtain⟨t1,e1⟩:=gd i (by omega);obtain⟨t2,e2⟩:=gd j (by omega);rw[e1,e2];exact kat_lt_int hC
 ·obtain⟨c,hg⟩:=hg;rw[hvl]at hrow hup;have hin:∀i∈p.toList,i<ns.length:=λi hi=>mem_range.mp (hrow.perm.mem_iff.mp hi);have hperm2:(p.toList.map λi=>ns.getD i 0).Perm ns:=by
   refine(hrow.perm.map _).trans ?_;have:(List.range ns.length).map (λi=>ns.getD i 0)=ns:=by
    apply ext_getElem?;intro i;rw[getElem?_map]
    by_cases hi:i<ns.length
    ·rw[getElem?_range hi,(cX (d:=(0:Int)) hi).2];rfl
    ·rw[getElem?_eq_none (by rw[length_range];omega),getElem?_eq_none (by omega)];rfl
   rw[this]
  have hpl:p.size=ns.length:=hrow.size;have hpw:(p.toList.map λi=>ns.getD i 0).Pairwise (λa b=>a<b):=by
   rw[pairwise_iff_getElem];intro i j hi hj hij;have hi':i<p.size:=by rw[length_map,length_toList]at hi;exact hi
   have hj':j<p.size:=by rw[length_map,length_toList]at hj;exact hj
   have:=hup i j hij (by omega);simp only[]at this;rw[getD_eq_getD_getElem?,getD_eq_getD_getElem?,Array.getElem?_eq_getElem hi',Array.getElem?_eq_getElem hj']at this;simpa using this
  refine⟨.ref h1.objs.size,_,I.laid (t':=tk) (o:=.lst ((p.toList.map λi=>ns.getD i 0).map V.int)) kp (le_of_lt hlt1) ⟨?_,_,c,iK rv p.toList hin,hg⟩,rfl,q _ hperm2 hpw _ (I.hok.fresh (le_of_lt hlt1))⟩;rw[length_map,hperm2.length_eq,sizeLine_eq];omega
end
end L2
namespace TW
section
variable{S:Type}
def vC(t:List (Nd S))(rs:List (Row S)):Prop:=∀r∈rs,r.o=aC t r.k
structure AppTo(t:List (Nd S))(rs:List (Row S))(u:List (Nd S)):Prop where
 up:cb u
 hit:∀r∈rs,aC u r.k=r.n
 miss:∀k,(∀r∈rs,r.k≠k)→aC u k=aC t k
theorem px{t:List (Nd S)}(T:cb t){m:Nd S}(hm:m∈t):aC t m.num=some m:=by
 cases e:aC t m.num with
 |none =>
  have:=find?_eq_none.mp e m hm;simp at this
 |some n =>
  obtain⟨h1,h2⟩:=ca e;rw[oS T h1 hm h2]
theorem sW{t u:List (Nd S)}(ht:cb t)(hu:cb u)(h:∀k,aC t k=aC u k):t=u:=by
 have mem:∀{a b:List (Nd S)},cb a→(∀k,aC a k=aC b k)→∀m∈a,m∈b:=λha hh m hm=>by
  have:=px ha hm;rw[hh]at this;exact(ca this).1
 have key:∀{a b:List (Nd S)},cb a→cb b→(∀m,m∈a↔m∈b)→a=b:=by
  intro a
  induction a with
  |nil =>
   intro b _ _ hm;cases b with
   |nil=>rfl
   |cons y b=>exact absurd ((hm y).mpr mem_cons_self) (by simp)
  |cons x a ih =>
   intro b ha hb hm;cases b with
   |nil=>exact absurd ((hm x).mp mem_cons_self) (by simp)
   |cons y b =>
    obtain⟨a1,a2⟩:=pairwise_cons.mp ha;obtain⟨b1,b2⟩:=pairwise_cons.mp hb;have e:x=y:=by
     rcases mem_cons.mp ((hm x).mp mem_cons_self)with e|e
     ·exact e
     ·rcases mem_cons.mp ((hm y).mpr mem_cons_self)with e'|e'
      ·exact e'.symm
      ·have q1:=b1 x e;have q2:=a1 y e';omega
    subst e
    congr 1
    refine ih a2 b2 λm=>⟨λq=>?_,λq=>?_⟩
    ·rcases mem_cons.mp ((hm m).mp (mem_cons_of_mem _ q))with e|e
     ·have:=a1 m q;rw[e]at this;omega
     ·exact e
    ·rcases mem_cons.mp ((hm m).mpr (mem_cons_of_mem _ q))with e|e
     ·have:=b1 m q;rw[e]at this;omega
     ·exact e
 exact key ht hu λm=>⟨mem ht h m,mem hu (λk=>(h k).symm) m⟩
theorem AppTo.uniq{t u v:List (Nd S)}{rs:List (Row S)}(h:AppTo t rs u)(h':AppTo t rs v):u=v:=by
 refine sW h.up h'.up λk=>?_
 by_cases hk:∃r∈rs,r.k=k
 ·obtain⟨r,hr,rfl⟩:=hk;rw[h.hit r hr,h'.hit r hr]
 ·have hk':∀r∈rs,r.k≠k:=λr hr e=>hk ⟨r,hr,e⟩;rw[h.miss k hk',h'.miss k hk']
theorem Chg.fits{t u:List (Nd S)}{rs:List (Row S)}(h:Chg t u rs):vC t rs:=λr hr=>((h.mem r).mp hr).1
theorem Chg.appTo{t u:List (Nd S)}{rs:List (Row S)}(h:Chg t u rs)(hu:cb u):AppTo t rs u:=by
 refine⟨hu,λr hr=>((h.mem r).mp hr).2.1.symm,λk hk=>?_⟩
 by_cases z:aC t k=aC u k
 ·exact z.symm
 ·exact absurd rfl (hk ⟨k,aC t k,aC u k⟩ ((h.mem _).mpr ⟨rfl,rfl,z⟩))
inductive Appl(t:List (Nd S))(rs:List (Row S)):Option (List (Nd S))→Prop
 |ok {u}:vC t rs→AppTo t rs u→Tree u→Appl t rs (some u)
 |unfit:¬vC t rs→Appl t rs none
 |notree {u}:AppTo t rs u→¬Tree u→Appl t rs none
theorem Appl.some_uniq{t u v:List (Nd S)}{rs:List (Row S)}(h:Appl t rs (some u))(h':Appl t rs (some v)):u=v:=by
 cases h with
 |ok a b c=>cases h' with
  |ok a' b' c'=>exact b.uniq b'
theorem Appl.not_both{t u:List (Nd S)}{rs:List (Row S)}(h:Appl t rs (some u))(h':Appl t rs none):False:=by
 cases h with
 |ok a b c=>cases h' with
  |unfit f=>exact f a
  |notree b' c' =>
   rw[b'.uniq b]at c';exact c' c
theorem lQ{ms:List Int}{M:Int→Option (Nd S)}(hm:ms.Pairwise (· < ·))(hM:∀k n,M k=some n→n.num=k):cb (ms.filterMap M):=by
 unfold cb;rw[List.pairwise_filterMap];refine hm.imp λ{a b} hab x hx y hy=>?_;rw[hM a x hx,hM b y hy];exact hab
theorem sX{ms:List Int}{M:Int→Option (Nd S)}(hm:ms.Pairwise (· < ·))(hM:∀k n,M k=some n→n.num=k)(k:Int):aC (ms.filterMap M) k=if k∈ms then M k else none:=by
 by_cases hk:k∈ms
 ·rw[if_pos hk];cases e:M k with
  |none =>
   refine dF λm hmm ek=>?_;obtain⟨j,_,hj⟩:=mem_filterMap.mp hmm;have:=hM j m hj;rw[ek]at this;rw[←this,e]at hj;cases hj
  |some n =>
   have mem:n∈ms.filterMap M:=mem_filterMap.mpr ⟨k,hk,e⟩;have:=px (lQ hm hM) mem;rw[hM k n e]at this;exact this
 ·rw[if_neg hk];refine dF λm hmm ek=>hk ?_;obtain⟨j,hj1,hj⟩:=mem_filterMap.mp hmm;have:=hM j m hj;rw[ek]at this;rw[this];exact hj1
end
end TW
namespace L2
open PySem PySem.Spec PyProof.Rows
theorem cN.eqK{H:Hp}{d:Addr}{kvs:List (Key×V)}{k:Int}{r:Option V}(h:cN H d (.int k) r)(hd:H d=some (.dK kvs)):r=bc kvs (Sum.inl k:Key):=by
 rcases h with⟨kvs',k',hr,e,rfl⟩|⟨_,_,_,_,e,_⟩
 ·have e2:k'=(Sum.inl k:Key):=by
   cases k' with
   |inl j=>injection e with e;rw[e]
   |inr x=>cases e
  subst e2;rcases hr with hr|⟨o,hr⟩
  ·rw[hd]at hr;injection hr with hr
   injection hr with hr
   rw[hr]
  ·rw[hd]at hr;cases hr
 ·cases e
end L2
namespace TK
open PySem L2
theorem cg.overD{H:Hp}{d:Addr}{kvs:List (Key×V)}{o':HO}{v:V}{o:Option Nd}(h:cg H v o)(hd:H d=some (.dK kvs)):cg (upd H d o') v o:=by
 rcases h with h|⟨q,n,e,h,e2⟩
 ·exact .inl h
 ·refine .inr ⟨q,n,e,?_,e2⟩;rw[aj]
  ·exact h
  ·rintro rfl;rw[hd]at h;cases h
structure PD(H:Hp)(kvs:List (Key×V))(ks:List Int)(M:Int→Option Nd):Prop where
 keys:kvs.map (·.1)=ks.map (Sum.inl:Int→Key)
 nd:ks.Nodup
 val:∀k,cg H ((bc kvs (Sum.inl k:Key)).getD .non) (M k)
 num:∀k n,M k=some n→n.num=k
theorem PD.has{H:Hp}{kvs:List (Key×V)}{ks:List Int}{M:Int→Option Nd}(h:PD H kvs ks M){k:Int}(hk:k∈ks):∃v,bc kvs (Sum.inl k:Key)=some v:=by
 cases e:bc kvs (Sum.inl k:Key)with
 |some v=>exact⟨v,rfl⟩
 |none =>
  have:=uc e;rw[h.keys]at this;exact absurd (mem_map.mpr ⟨k,hk,rfl⟩) this
theorem PD.out{H:Hp}{kvs:List (Key×V)}{ks:List Int}{M:Int→Option Nd}(h:PD H kvs ks M){k:Int}(hk:k∉ks):M k=none:=by
 have hv:=h.val k;cases e:bc kvs (Sum.inl k:Key)with
 |some v =>
  have:=qX e;rw[h.keys]at this;obtain⟨j,hj,ej⟩:=mem_map.mp this;injection ej with ej
  rw[ej]at hj;exact absurd hj hk
 |none =>
  rw[e]at hv;rcases hv with⟨_,z⟩|⟨q,n,z,_⟩
  ·exact z
  ·cases z
theorem PD.put{H:Hp}{d:Addr}{kvs:List (Key×V)}{ks:List Int}{M:Int→Option Nd}(h:PD H kvs ks M)(hd:H d=some (.dK kvs)){k:Int}{v:V}{o:Option Nd}(hv:cg H v o)(ho:∀n,o=some n→n.num=k):
  ∃ks',ks'.length≤ks.length+1∧PD (upd H d (.dK (cj kvs (Sum.inl k:Key) v))) (cj kvs (Sum.inl k:Key) v) ks' (λj=>if j=k then o else M j):=by
 have val:∀j,cg (upd H d (.dK (cj kvs (Sum.inl k:Key) v))) ((bc (cj kvs (Sum.inl k:Key) v) (Sum.inl j:Key)).getD .non) (if j=k then o else M j):=λj=>by
  rw[jI]
  by_cases e:j=k
  ·subst e;rw[if_pos rfl,if_pos rfl];exact hv.overD hd
  ·rw[if_neg (λz=>e (by injection z)),if_neg e];exact(h.val j).overD hd
 have num:∀j n,(if j=k then o else M j)=some n→n.num=j:=λj n hj=>by
  by_cases e:j=k
  ·rw[if_pos e]at hj;rw[e];exact ho n hj
  ·rw[if_neg e]at hj;exact h.num j n hj
 by_cases hk:k∈ks
 ·obtain⟨v',hv'⟩:=h.has hk;refine⟨ks,le_succ _,?_,h.nd,val,num⟩;have ha:(kvs.any λkv=>decide (kv.1=(Sum.inl k:Key)))=true:=by rw[cW,hv'];rfl
  unfold cj;rw[if_pos ha,map_map,←h.keys];apply map_congr_left;intro p _;show(if p.1=_ then (p.1,v)else p).1=p.1
  split<;>rfl
 ·refine⟨ks++[k],by rw[length_append];exact le_refl _,?_,?_,val,num⟩
  ·have hn:bc kvs (Sum.inl k:Key)=none:=by
    cases e:bc kvs (Sum.inl k:Key)with
    |none=>rfl
    |some v' =>
     have:=qX e;rw[h.keys]at this;obtain⟨j,hj,ej⟩:=mem_map.mp this;injection ej with ej
     rw[ej]at hj;exact absurd hj hk
   rw[tW v hn,map_append,h.keys,map_append];rfl
  ·rw[nodup_append];refine⟨h.nd,by simp,λa ha b hb=>?_⟩;have:b=k:=by simpa using hb
   rw[this];exact λe=>hk (e ▸ ha)
theorem PD.book{H:Hp}{d:Addr}{as:List (Addr×(Addr×Nd))}{zs:ZN}(b:Book H d as zs)(hd:H d=some (.dK (aU as)))(T:TW.Tree1 (nds zs)):PD H (aU as) ((nds zs).map (·.num)) (TW.aC (nds zs)):=by
 refine⟨gR b.of,bX T,λk=>?_,λk n h=>(TW.ca h).2⟩;obtain⟨r,h1,h2⟩:=b.optV T k;rw[←h1.eqK hd];exact h2
theorem xr(o:Option Int):dz (stV o)=true:=by cases o<;>rfl
theorem qx(H:Hp)(n:Nd)(k:Nat):∀(i:Nat) x y,(vals n)[i]?=some x→(vals n)[i]?=some y→lE H k x y:=λi x y h1 h2=>by
 have e:x=y:=Option.some.inj (h1.symm.trans h2);subst e;refine eP ⟨rfl,?_⟩
 match i,h1 with
 |0,h=>cases h;rfl
 |1,h=>cases h;rfl
 |2,h=>cases h;rfl
 |3,h=>cases h;exact xr _
 |i+4,h=>simp[vals]at h
theorem fQ{H:Hp}{us ws:ZN}(h:nds us=nds ws)(hu:At H us)(hw:At H ws):fj H (aW us) (aW ws):=by
 refine⟨by rw[be,be,←aJ us,←aJ ws,h],λi x y hx hy=>?_⟩;obtain⟨a,ga,rfl⟩:=ce hx;obtain⟨b,gb,rfl⟩:=ce hy;have e:a.2=b.2:=by
  have h1:(nds us)[i]?=some a.2:=by unfold nds;rw[getElem?_map,ga];rfl
  have h2:(nds ws)[i]?=some b.2:=by unfold nds;rw[getElem?_map,gb];rfl
  rw[h,h2]at h1;exact(Option.some.inj h1).symm
 refine .inr ⟨a.1,b.1,_,_,rfl,rfl,hu a (mem_of_getElem? ga),hw b (mem_of_getElem? gb),rfl,?_⟩;rw[e];exact qx H b.2 2
end TK
namespace L2
open PySem PySem.Spec PyProof.Rows
section
variable{X:Cx}{tg:Expr}
def Bc(te:TE):TE:=λσ H Q=>te σ H λv H1=>∃i:Int,v=.int i∧-60≤i∧i≤60∧∀y,Q (.str y) H1
theorem pz(i:Int)(h0:-60≤i)(h1:i≤60):(ofString (toString i)).length≤100:=by
 have key:∀n:Fin 121,(ofString (toString ((n.val:Nat)-60:Int))).length≤100:=by decide +kernel
 have:=key ⟨(i+60).toNat,by omega⟩;have e:(((i+60).toNat:Nat)-60:Int)=i:=by omega
 rw[e]at this;exact this
theorem zo{x:Str}{j:Nat}{p1 p2 p3:Pos}{e:Expr}{te:TE}(he:PE X e te)(hx:x.length≤800):PE X (.JoinedStr [.Constant (.str x) j p1,.FormattedValue e (-1) none p2] p3) (Bc te):=by
 intro pins s σ H Q I h;have hl:(empty++x).length≤800:=by rw[strLen_append];show 0+x.length≤800;omega
 refine JoinedStr_many (joinParts_cons (Constant_str ?_));refine⟨le_of_lt (ax (by omega)),?_⟩;refine joinParts_cons (FormattedValue_plain (thn (he pins _ σ H _ (I.tok _) h) λv s1 hpt=>?_));obtain⟨y,H1,I1,r1,q1⟩:=hpt;obtain⟨i,rfl,h0,h1,q⟩:=q1;obtain⟨t,rfl⟩:=r1;have h2:=pz i h0 h1;have h3:((empty++x)++ofString (toString i)).length≤1000:=by rw[strLen_append];omega
 refine formatField_int_small (lt_of_le_of_lt (Nat.log2_le_self _) (by omega)) ⟨le_of_lt (ax h3),?_⟩;exact joinParts_nil ⟨.str _,H1,(I1.tok _).tok _,⟨_,rfl⟩,q _⟩ (le_of_lt (ax h3))
end
theorem pA{xs:List V}{k:Nat}(h:k≤xs.length):dR xs (some (k:Int)) none=xs.drop k:=by
 unfold dR;rw[HT.nZ,HT.ma,Nat.min_eq_left h,take_of_length_le (by rw[length_drop];exact le_refl _)]
end L2
namespace TK
open PySem L2
def ci(H H':Hp):Prop:=∀b xs,H b=some (.tup xs)→H' b=some (.tup xs)
theorem ci.refl(H:Hp):ci H H:=λ_ _ h=>h
theorem ci.trans{H1 H2 H3:Hp}(a:ci H1 H2)(b:ci H2 H3):ci H1 H3:=λp xs h=>b p xs (a p xs h)
theorem Au{H H':Hp}(s:Same H H'):ci H H':=λb xs h=>s b _ h
theorem Tre.ts{H H':Hp}{t:Addr}{z:ZN}(h:Tre H t z)(s:ci H H'):Tre H' t z:=⟨s _ _ h.tup,λz hz=>s _ _ (h.nod z hz),h.tr,h.len⟩
theorem cg.ts{H H':Hp}{v:V}{o:Option Nd}(h:cg H v o)(s:ci H H'):cg H' v o:=by
 rcases h with h|⟨q,n,e,h,e2⟩
 ·exact .inl h
 ·exact .inr ⟨q,n,e,s _ _ h,e2⟩
theorem RowAt.ts{H H':Hp}{e:Addr}{r:Row}(h:RowAt H e r)(s:ci H H'):RowAt H' e r:=by
 obtain⟨⟨vo,vn,h1,h2,h3⟩,hk⟩:=h;exact⟨⟨vo,vn,s _ _ h1,h2.ts s,h3.ts s⟩,hk⟩
theorem ChgAt.ts{H H':Hp}{c:Addr}{es:ZR}(h:ChgAt H c es)(s:ci H H'):ChgAt H' c es:=⟨s _ _ h.tup,λe he=>(h.at' e he).ts s,h.len⟩
theorem kH{H:Hp}{a:Addr}{xs ys:List V}(h:H a=some (.lst xs)):ci H (upd H a (.lst ys)):=λb zs hb=>by
 rw[aj (λe=>by rw[e,h]at hb;cases hb)];exact hb
theorem vD{H:Hp}{a C dx:Addr}{fs gs:List (Str×V)}(h:H a=some (.ins C dx fs)):ci H (upd H a (.ins C dx gs)):=λb zs hb=>by
 rw[aj (λe=>by rw[e,h]at hb;cases hb)];exact hb
def Off(S:List Addr)(H H':Hp):Prop:=∀b o,H b=some o→b∉S→H' b=some o
def flW(t:Addr)(most dn:Int)(kl ml:Addr):List (Str×V):=[("tree",.ref t),("most",.int most),("deeds_done",.int dn),("kept",.ref kl),("marks_seen",.ref ml)]
def fl2(t:Addr)(m:Int):List (Str×V):=[("tree",.ref t),("most",.int m)]
def fl3(t:Addr)(m:Int):List (Str×V):=[("tree",.ref t),("most",.int m),("deeds_done",.int 0)]
def fl4(t:Addr)(m:Int)(kl:Addr):List (Str×V):=[("tree",.ref t),("most",.int m),("deeds_done",.int 0),("kept",.ref kl)]
theorem k12:¬(("tree":Str)="most"):=by decide +kernel
theorem k13:¬(("tree":Str)="deeds_done"):=by decide +kernel
theorem k14:¬(("tree":Str)="kept"):=by decide +kernel
theorem k15:¬(("tree":Str)="marks_seen"):=by decide +kernel
theorem k23:¬(("most":Str)="deeds_done"):=by decide +kernel
theorem k24:¬(("most":Str)="kept"):=by decide +kernel
theorem k25:¬(("most":Str)="marks_seen"):=by decide +kernel
theorem k34:¬(("deeds_done":Str)="kept"):=by decide +kernel
theorem k35:¬(("deeds_done":Str)="marks_seen"):=by decide +kernel
theorem k45:¬(("kept":Str)="marks_seen"):=by decide +kernel
theorem nE{f:Str}{v:V}{r:List (Str×V)}:((f,v)::r).lookup f=some v:=by rw[List.lookup_cons,beq_self_eq_true]
theorem cK{f g:Str}{v:V}{r:List (Str×V)}(h:¬g=f):((g,v)::r).lookup f=r.lookup f:=by
 have:(f==g)=false:=by simpa using λe:f=g=>h e.symm
 rw[List.lookup_cons,this]
theorem vE{f:Str}{v w:V}{r:List (Str×V)}:bG f v ((f,w)::r)=(f,v)::r:=by
 show(if f=f then _ else _)=_;rw[if_pos rfl]
theorem cr{f g:Str}{v w:V}{r:List (Str×V)}(h:¬g=f):bG f v ((g,w)::r)=(g,w)::bG f v r:=by
 show(if g=f then _ else _)=_;rw[if_neg h]
section
variable{t t' kl ml:Addr}{most dn dn':Int}
theorem kQ:(flW t most dn kl ml).lookup ("tree":Str)=some (.ref t):=nE
theorem vF:(flW t most dn kl ml).lookup ("most":Str)=some (.int most):=by unfold flW;rw[cK k12,nE]
theorem iq:(flW t most dn kl ml).lookup ("deeds_done":Str)=some (.int dn):=by unfold flW;rw[cK k13,cK k23,nE]
theorem fX:(flW t most dn kl ml).lookup ("kept":Str)=some (.ref kl):=by unfold flW;rw[cK k14,cK k24,cK k34,nE]
theorem fY{m:Str}(h1:¬(("tree":Str)=m))(h2:¬(("most":Str)=m))(h3:¬(("deeds_done":Str)=m))(h4:¬(("kept":Str)=m))(h5:¬(("marks_seen":Str)=m)):(flW t most dn kl ml).lookup m=none:=by
 unfold flW;rw[cK h1,cK h2,cK h3,cK h4,cK h5];rfl
theorem zp:bG "tree" (.ref t') (flW t most dn kl ml)=flW t' most dn kl ml:=vE
theorem zq:bG "deeds_done" (.int dn') (flW t most dn kl ml)=flW t most dn' kl ml:=by unfold flW;rw[cr k13,cr k23,vE]
theorem rQ:(flW t most dn kl ml).length<1000:=by show 5<1000;decide
end
structure WCls(K:PySem.W.Frag)(mg:Str→Option Value)(C:Addr):Prop where
 cl:Cls K C
 nT:dg K C "tree"
 nM:dg K C "most"
 nD:dg K C "deeds_done"
 nK:dg K C "kept"
 nS:dg K C "marks_seen"
 mgC:mg "Watch"=some (.ref C)
structure WAt(C:Addr)(H:Hp)(w kl ml t:Addr)(z:ZN)(most dn:Int)(ks:List (Addr×ZR))(ms:List Int):Prop where
 ob:∃dx,H w=some (.ins C dx (flW t most dn kl ml))
 tr:Tre H t z
 kp:H kl=some (.lst (ks.map λx=>V.ref x.1))
 mks:H ml=some (.lst (ms.map V.int))
 ne:kl≠ml
 ch:∀x∈ks,ChgAt H x.1 x.2
theorem WAt.same{C:Addr}{H H':Hp}{w kl ml t:Addr}{z:ZN}{most dn:Int}{ks:List (Addr×ZR)}{ms:List Int}(h:WAt C H w kl ml t z most dn ks ms)(s:Same H H'):WAt C H' w kl ml t z most dn ks ms :=
 ⟨let⟨dx,e⟩:=h.ob;⟨dx,s _ _ e⟩,h.tr.same s,s _ _ h.kp,s _ _ h.mks,h.ne,λx hx=>(h.ch x hx).same s⟩
theorem WAt.off{C:Addr}{H H':Hp}{w kl ml t:Addr}{z:ZN}{most dn:Int}{ks:List (Addr×ZR)}{ms:List Int}(h:WAt C H w kl ml t z most dn ks ms){S:List Addr}(s:Off S H H')(ts:ci H H')(n1:w∉S)(n2:kl∉S)(n3:ml∉S):WAt C H' w kl ml t z most dn ks ms :=
 ⟨let⟨dx,e⟩:=h.ob;⟨dx,s _ _ e n1⟩,h.tr.ts ts,s _ _ h.kp n2,s _ _ h.mks n3,h.ne,λx hx=>(h.ch x hx).ts ts⟩
section
variable{P:Program}{w:World}{K:PySem.W.Frag}{mg:Str→Option Value}{base:Heap}
def qy(C:Addr):Sp:=λvs H Q _=>∃p dx t z m,vs=[.ref p,.ref t,.int m]∧H p=some (.ins C dx [])∧Tre H t z∧∀kl ml H',H kl=none→H ml=none→WAt C H' p kl ml t z m 0 [] []→Off [p] H H'→Q .non H'
theorem zr:FnScope ["self","tree","most"] ["self","tree","most"] (ai fq):=fsc
theorem xt{f C:Addr}{fd:FuncData}(F:Fun K "__init__" "Watch.__init__" fq f fd)(T:WCls K mg C):FnOk P w K mg base CX0 1 f fd ["self","tree","most"] (qy C):=by
 refine F.ok zr (λvs H Q E h=>?_) (λcdv A outer s H vs Q E hr h=>?_)
 ·obtain⟨p,dx,t,z,m,rfl,_⟩:=h;rfl
 ·obtain⟨p,dx,t,z,m,rfl,hp,tr,k⟩:=h;refine⟨_,ag (iA (pv 0) (pv 1) rfl) (ag (iA (pv 0) (pv 2) rfl) (ag (iA (pv 0) ah rfl) (ag (iA (pv 0) (bu ae) rfl) (ak (iA (pv 0) (bu ae) rfl))))),?_⟩;refine⟨_,rfl,_,rfl,p,C,dx,[],rfl,hp,T.cl,T.nT,(by show 0<1000;decide),?_⟩;refine⟨_,rfl,_,rfl,p,C,dx,_,rfl,ac,T.cl,T.nM,(by show 1<1000;decide),?_⟩;refine⟨_,rfl,p,C,dx,_,rfl,ac,T.cl,T.nD,(by rw[show bG "most" (V.int m) (bG "tree" (V.ref t) [])=fl2 t m from cr k12];show 2<1000;decide),?_⟩;have e3:bG "deeds_done" (V.int 0) (bG "most" (V.int m) (bG "tree" (V.ref t) []))=fl3 t m:=by
   rw[show bG "most" (V.int m) (bG "tree" (V.ref t) [])=fl2 t m from cr k12];unfold fl2;rw[cr k13,cr k23];rfl
  rw[e3];have hp3:upd (upd (upd H p (.ins C dx (bG "tree" (V.ref t) []))) p (.ins C dx (bG "most" (V.int m) (bG "tree" (V.ref t) [])))) p (.ins C dx (fl3 t m)) p=some (.ins C dx (fl3 t m)):=ac;have o3:Off [p] H (upd (upd (upd H p (.ins C dx (bG "tree" (V.ref t) []))) p (.ins C dx (bG "most" (V.int m) (bG "tree" (V.ref t) [])))) p (.ins C dx (fl3 t m))):=λb o e hb=>by
   have hb':b≠p:=by simpa using hb
   rw[aj hb',aj hb',aj hb'];exact e
  have f3:∀b,upd (upd (upd H p (.ins C dx (bG "tree" (V.ref t) []))) p (.ins C dx (bG "most" (V.int m) (bG "tree" (V.ref t) [])))) p (.ins C dx (fl3 t m)) b=none→H b=none:=λb e=>by
   have hb':b≠p:=λz=>by rw[z,hp3]at e;cases e
   rw[aj hb',aj hb',aj hb']at e;exact e
  generalize upd (upd (upd H p (.ins C dx (bG "tree" (V.ref t) []))) p (.ins C dx (bG "most" (V.int m) (bG "tree" (V.ref t) [])))) p (.ins C dx (fl3 t m))=H3 at hp3 o3 f3⊢;refine⟨zero_le _,λkl hkl=>?_⟩;have nk:p≠kl:=aq hp3 hkl;refine⟨_,rfl,p,C,dx,_,rfl,by rw[aj nk];exact hp3,T.cl,T.nK,(by show 3<1000;decide),?_⟩;have e4:bG "kept" (V.ref kl) (fl3 t m)=fl4 t m kl:=by
   unfold fl3;rw[cr k14,cr k24,cr k34];rfl
  rw[e4];refine⟨zero_le _,λml hml=>?_⟩;have hmp:ml≠p:=λz=>by rw[z,ac]at hml;cases hml
  have hmk:ml≠kl:=λz=>by rw[aj hmp,z,ac]at hml;cases hml
  have hml3:H3 ml=none:=by rw[aj hmp,aj hmk]at hml;exact hml
  refine⟨_,rfl,p,C,dx,_,rfl,by rw[aj (Ne.symm hmp)];exact ac,T.cl,T.nS,(by show 4<1000;decide),?_⟩;have e5:bG "marks_seen" (V.ref ml) (fl4 t m kl)=flW t m 0 kl ml:=by
   unfold fl4;rw[cr k15,cr k25,cr k35,cr k45];rfl
  rw[e5];refine k kl ml _ (f3 kl hkl) (f3 ml hml3) ⟨⟨dx,ac⟩,?_,?_,?_,Ne.symm hmk,by simp⟩ λb o e hb=>?_
  ·refine tr.ts λb xs e=>?_;have hbp:b≠p:=λz=>by rw[z,hp]at e;cases e
   have e3':=o3 b _ e (by simpa using hbp);rw[aj hbp,aj (aq e3' hml3),aj hbp,aj (aq e3' hkl)];exact e3'
  ·rw[aj (Ne.symm nk),aj (Ne.symm hmk),aj (Ne.symm nk),ac];rfl
  ·rw[aj hmp,ac];rfl
  ·have hbp:b≠p:=by simpa using hb
   have e3':=o3 b _ e hb;rw[aj hbp,aj (aq e3' hml3),aj hbp,aj (aq e3' hkl)];exact e3'
def nF(C:Addr):Sp:=λvs H Q _=>∃p kl ml t z m dn ks ms,vs=[.ref p]∧WAt C H p kl ml t z m dn ks ms∧Q (.ref t) H
theorem zt:FnScope ["self"] ["self"] (ai gP):=fsc
theorem xu{f C:Addr}{fd:FuncData}(F:Fun K "now" "Watch.now" gP f fd)(T:WCls K mg C):FnOk P w K mg base CX0 1 f fd ["self"] (nF C):=by
 refine F.ok zt (λvs H Q E h=>?_) (λcdv A outer s H vs Q E hr h=>?_)
 ·obtain⟨p,kl,ml,t,z,m,dn,ks,ms,rfl,_⟩:=h;rfl
 ·obtain⟨p,kl,ml,t,z,m,dn,ks,ms,rfl,W,q⟩:=h;obtain⟨dx,hp⟩:=W.ob;exact⟨_,ak (av (dh (pv 0) rfl)),_,rfl,p,C,dx,_,_,rfl,hp,T.cl,T.nT,kQ,q⟩
def jr(C:Addr):Sp:=λvs H Q _=>∃p kl ml t z m dn ks ms,vs=[.ref p]∧WAt C H p kl ml t z m dn ks ms∧Q (.int dn) H
theorem xv:FnScope ["self"] ["self"] (ai fu):=fsc
theorem vG{f C:Addr}{fd:FuncData}(F:Fun K "mark" "Watch.mark" fu f fd)(T:WCls K mg C):FnOk P w K mg base CX0 1 f fd ["self"] (jr C):=by
 refine F.ok xv (λvs H Q E h=>?_) (λcdv A outer s H vs Q E hr h=>?_)
 ·obtain⟨p,kl,ml,t,z,m,dn,ks,ms,rfl,_⟩:=h;rfl
 ·obtain⟨p,kl,ml,t,z,m,dn,ks,ms,rfl,W,q⟩:=h;obtain⟨dx,hp⟩:=W.ob;exact⟨_,ak (av (dh (pv 0) rfl)),_,rfl,p,C,dx,_,_,rfl,hp,T.cl,T.nD,iq,q⟩
def eI(m:Int)(ks:List (Addr×ZR)):List (Addr×ZR):=if m<(ks.length:Int)then ks.drop 1 else ks
def ir(C:Addr)(cls:TW.Wd→Addr):Sp:=λvs H Q E=>∃p kl ml t z m dn ks ms d dd,vs=[.ref p,.ref d]∧WAt C H p kl ml t z m dn ks ms∧z.length≤29∧ks.length≤100∧0≤m∧H d=some (.tup (bQ dd))∧dX dd ∧
 (∀t' us c es H',TW.Told (nds z) dd (.inr (nds us))→TW.Chg (nds z) (nds us) (ba es)→WAt C H' p kl ml t' us m (dn+1) (eI m (ks++[(c,es)])) ms→Off [p,kl] H H'→ci H H'→Q .non H') ∧
 ∀wd H',Same H H'→TW.Told (nds z) dd (.inl wd)→E (.ref (cls wd)) none H'
theorem rR:FnScope ["self","deed","behind"] ["self","deed"] (ai ft):=fsc
theorem vH{f C:Addr}{fd:FuncData}{cls:TW.Wd→Addr}(F:Fun K "deed" "Watch.deed" ft f fd)(Tx:Txt mg)(T:WCls K mg C)(CD:dW P w K mg base 4 "done" ["tree","deed"] (qm cls))(CC:Has P w K mg base 2 "change_between" ["one","other"] rP):FnOk P w K mg base (CX1 P w) 5 f fd ["self","deed"] (ir C cls):=by
 obtain⟨fD,fdD,GD,mD,kD,bD⟩:=CD;obtain⟨fC,fdC,GC,mC,kC,bC⟩:=CC;refine F.okX rR (λvs H Q E h=>?_) (λcdv A outer s H vs Q E hr h=>?_)
 ·obtain⟨p,kl,ml,t,z,m,dn,ks,ms,d,dd,rfl,_⟩:=h;rfl
 ·have hr2:Room 2 _:=hr.mono (by decide);refine⟨_,ag (aA (i:=2) rR.nd rfl (Or.inl rfl) (al (E:=E) GD hr rfl mD kD bD .nil (dq bH) (aa (dh (pv 0) rfl) (aa (pv 1) ae))))
   (ag (bq (eY plainAttrs_list PySem.F.slot_list_append PySem.F.type_list_append bv (dh (pv 0) rfl) (aa (al GC hr2 rfl mC kC bC .nil aF (aa (dh (pv 0) rfl) (aa (pv 2) ae))) ae)))
   (ag (aP (am tG (aB aK rfl Tx.len boot_len (aa (dh (pv 0) rfl) ae)) (dh (pv 0) rfl) (aw _)) (ak (bq (eY plainAttrs_list slot_list_pop type_list_pop og (dh (pv 0) rfl) (aa ah ae)))) ay)
   (ag (iA (pv 0) (pv 2) rfl) (ak (si (pv 0) ah yo))))),?_⟩
  obtain⟨p,kl,ml,t,z,m,dn,ks,ms,d,dd,rfl,W,hz,hks,hm,hd,hok,qo,qE⟩:=h;obtain⟨dx,hp⟩:=W.ob;refine⟨_,rfl,p,C,dx,_,_,rfl,hp,T.cl,T.nT,kQ,_,rfl,t,d,dd,z,rfl,W.tr,hz,hd,hok,⟨λus t' H1 s1 ht' hA told=>?_,λwd H1 s1 told=>qE wd H1 s1 told⟩⟩;have W1:=W.same s1;have hp1:=s1 _ _ hp;have Tb:Tre H1 t' us:=⟨ht',hA,told.tree W.tr.tr hok.pos,by have:=told.len;rw[aJ,aJ]at this;omega⟩;refine⟨_,rfl,p,C,dx,_,_,rfl,hp1,T.cl,T.nK,fX,.inl ⟨rfl,_,SqL.of W1.kp⟩,_,rfl,p,C,dx,_,_,rfl,hp1,T.cl,T.nT,kQ,_,rfl,t,t',z,us,rfl,W1.tr,Tb,λc es H2 s2 hc hch=>?_⟩;have W2:=W1.same s2;have hp2:=s2 _ _ hp1;have npk:p≠kl:=tq hp2 W2.kp (by intro h;cases h);refine⟨kl,_,_,rfl,rfl,W2.kp,ax (by rw[length_map];omega),?_⟩;have t3:=kH (ys:=(ks.map λx=>V.ref x.1)++[.ref c]) W2.kp;have hk3:upd H2 kl (.lst ((ks.map λx=>V.ref x.1)++[.ref c])) kl=some (.lst ((ks++[(c,es)]).map λx=>V.ref x.1)):=by rw[ac,map_append];rfl
  have hp3:upd H2 kl (.lst ((ks.map λx=>V.ref x.1)++[.ref c])) p=some (.ins C dx (flW t m dn kl ml)):=by rw[aj npk];exact hp2
  have o3:Off [p,kl] H2 (upd H2 kl (.lst ((ks.map λx=>V.ref x.1)++[.ref c]))):=λb o e hb=>by
   rw[aj (λz=>hb (by rw[z];simp))];exact e
  generalize upd H2 kl (.lst ((ks.map λx=>V.ref x.1)++[.ref c]))=H3 at t3 hk3 hp3 o3⊢;have fin:∀H4,ci H3 H4→Off [p,kl] H3 H4→H4 kl=some (.lst ((eI m (ks++[(c,es)])).map λx=>V.ref x.1))→H4 p=some (.ins C dx (flW t m dn kl ml))→rY (zU K (fb 0) (fb 2) "tree") (qP K (fb 0) (tC (.int 1)) zW "deeds_done") {nx:=λ_ H'=>Q .non H',rt:=Q} [some (.ref p),some (.ref d),some (.ref t')] H4:=λH4 t4 o4 hk4 hp4=>by
   refine⟨_,rfl,_,rfl,p,C,dx,_,rfl,hp4,T.cl,T.nT,rQ,?_⟩;rw[zp];have t5:=vD (gs:=flW t' m dn kl ml) hp4;refine⟨_,rfl,p,C,dx,_,_,rfl,ac,T.cl,T.nD,iq,_,_,rfl,rfl,dx,_,ac,rQ,?_⟩;rw[zq];have t6:ci (upd H4 p (.ins C dx (flW t' m dn kl ml))) (upd (upd H4 p (.ins C dx (flW t' m dn kl ml))) p (.ins C dx (flW t' m (dn+1) kl ml))):=vD ac;have s12:=s1.trans s2;have t46:ci H2 (upd (upd H4 p (.ins C dx (flW t' m dn kl ml))) p (.ins C dx (flW t' m (dn+1) kl ml))):=((t3.trans t4).trans t5).trans t6;have nmp:ml≠p:=tq W2.mks hp2 (by intro h;cases h);refine qo t' us c es _ told hch ⟨⟨dx,ac⟩,(Tb.same s2).ts t46,by rw[aj (Ne.symm npk),aj (Ne.symm npk)];exact hk4,?_,W.ne,λx hx=>?_⟩ (λb o e hb=>?_) ((Au s12).trans t46)
   ·rw[aj nmp,aj nmp];have nmk:ml∉[p,kl]:=by simp[nmp,Ne.symm W.ne]
    exact o4 _ _ (o3 _ _ W2.mks nmk) nmk
   ·have hx':x∈ks++[(c,es)]:=by
     unfold eI at hx
     split at hx
     ·exact List.drop_subset _ _ hx
     ·exact hx
    rcases mem_append.mp hx' with h|h
    ·exact(W2.ch x h).ts t46
    ·have:x=(c,es):=by simpa using h
     rw[this];exact hc.ts t46
   ·have hb':b≠p:=λz=>hb (by rw[z];simp);rw[aj hb',aj hb'];exact o4 _ _ (o3 _ _ (s12 _ _ e) hb) hb
  refine⟨_,rfl,p,C,dx,_,_,rfl,hp3,T.cl,T.nK,fX,kl,_,rfl,.inl (SqL.of hk3),_,rfl,p,C,dx,_,_,rfl,hp3,T.cl,T.nM,vF,_,_,rfl,rfl,_,rfl,?_⟩;have hlen:((ks++[(c,es)]).map λx=>V.ref x.1).length=ks.length+1:=by rw[length_map,length_append];rfl
  by_cases hc2:m<((ks++[(c,es)]).length:Int)
  ·have e1:decide (m<(((ks++[(c,es)]).map λx=>V.ref x.1).length:Int))=true:=by rw[length_map];exact decide_eq_true hc2
   rw[e1];refine aQ ?_;have hne:∃y,((ks++[(c,es)]).map λx=>V.ref x.1)[0]?=some y:=by
    cases ks with
    |nil=>exact⟨_,rfl⟩
    |cons a r=>exact⟨_,rfl⟩
   obtain⟨y,hy⟩:=hne;refine⟨_,rfl,p,C,dx,_,_,rfl,hp3,T.cl,T.nK,fX,.inl ⟨rfl,_,SqL.of hk3⟩,kl,_,0,0,y,rfl,rfl,hk3,by decide,by decide,?_,hy,?_⟩
   ·rw[hlen];exact uO (Int.le_refl 0) (by omega)
   ·have ek:((ks++[(c,es)]).map λx=>V.ref x.1).eraseIdx 0=(eI m (ks++[(c,es)])).map λx=>V.ref x.1:=by
     unfold eI;rw[if_pos hc2,map_drop];cases hh:(ks++[(c,es)]).map λx=>V.ref x.1 with
     |nil=>rfl
     |cons a r=>rfl
    rw[ek];exact fin _ (kH hk3) (λb o e hb=>by rw[aj (λz=>hb (by rw[z];simp))];exact e) ac (by rw[aj npk];exact hp3)
  ·have e1:decide (m<(((ks++[(c,es)]).map λx=>V.ref x.1).length:Int))=false:=by rw[length_map];exact decide_eq_false hc2
   rw[e1];refine aI ?_;exact fin H3 (ci.refl _) (λb o e _=>e) (by unfold eI;rw[if_neg hc2];exact hk3) hp3
end
theorem vI{t u:List Nd}{es:ZR}(h:TW.Chg t u (ba es)){e:Addr×Row}(he:e∈es):e.2.k∈t.map (·.num)∨e.2.k∈u.map (·.num):=by
 obtain⟨h1,h2,h3⟩:=(h.mem e.2).mp (mem_map.mpr ⟨e,he,rfl⟩);cases a:TW.aC t e.2.k with
 |some m =>
  obtain⟨m1,m2⟩:=TW.ca a;exact .inl (mem_map.mpr ⟨m,m1,m2⟩)
 |none =>
  cases b:TW.aC u e.2.k with
  |some m =>
   obtain⟨m1,m2⟩:=TW.ca b;exact .inr (mem_map.mpr ⟨m,m1,m2⟩)
  |none=>exact absurd (h1.trans (a.trans (b.symm.trans h2.symm))) h3
theorem nG{t u:List Nd}{es:ZR}(h:TW.Chg t u (ba es)):(es.map (·.2.k)).Nodup:=by
 have:=h.up;unfold ba at this;rw[pairwise_map]at this;unfold Nodup;rw[pairwise_map];exact this.imp λh e=>by omega
theorem gp{t u:List Nd}{es:ZR}{ms:List Int}(h:TW.Chg t u (ba es))(ht:∀n∈t,n.num∈ms)(hu:∀n∈u,n.num∈ms):es.length≤ms.length:=by
 have:=cY (m:=ms) (nG h) λk hk=>by
  obtain⟨e,he,rfl⟩:=mem_map.mp hk;rcases vI h he with q|q<;>obtain⟨m,m1,m2⟩:=mem_map.mp q<;>rw[←m2]
  ·exact ht m m1
  ·exact hu m m1
 rw[length_map]at this;exact this
theorem vJ(t:List Nd):TW.Chg t t (ba []):=by
 refine⟨Pairwise.nil,λr=>⟨λh=>?_,λh=>?_⟩⟩
 ·cases h
 ·exact absurd (h.1.trans h.2.1.symm) h.2.2
structure Hist(ks:List (Addr×ZR))(U:Nat→List Nd)(M:List Int):Prop where
 step:∀j x,ks[j]?=some x→TW.Chg (U j) (U (j+1)) (ba x.2)
 num:∀j,j≤ks.length→∀n∈U j,n.num∈M
 few:M.length≤30
section
variable{P:Program}{w:World}{K:PySem.W.Frag}{mg:Str→Option Value}{base:Heap}
def cZ(C CM:Addr):Sp:=λvs H Q E=>∃p kl ml t z m dn ks ms mark U M,vs=[.ref p,.int mark]∧WAt C H p kl ml t z m dn ks ms∧Hist ks U M∧ks.length≤100∧-60≤mark∧mark≤60 ∧
 ((mark<0∨dn<mark)→∀H',Same H H'→E (.ref CM) none H') ∧
 (0≤mark→mark≤dn→(ks.length:Int)-(dn-mark)<0→∀H',Same H H'→Q .non H') ∧
 ∀j:Nat,0≤mark→mark≤dn→(ks.length:Int)-(dn-mark)=j→∀c es H',Same H H'→ChgAt H' c es→TW.Chg (U j) (U ks.length) (ba es)→Q (.ref c) H'
theorem pB:FnScope ["self","mark","older","whole","change"] ["self","mark"] (ai eS):=fsc
theorem sY{f C CM:Addr}{fd:FuncData}(F:Fun K "since" "Watch.since" eS f fd)(Tx:Txt mg)(T:WCls K mg C)(O:jb "NoMark" mg base CM)(CJ:Has P w K mg base 2 "joined" ["one","other"] vB):FnOk P w K mg base (CX1 P w) 3 f fd ["self","mark"] (cZ C CM):=by
 obtain⟨fJ,fdJ,GJ,mJ,kJ,bJ⟩:=CJ;refine F.okX pB (λvs H Q E h=>?_) (λcdv A outer s H vs Q E hr h=>?_)
 ·obtain⟨p,kl,ml,t,z,m,dn,ks,ms,mark,U,M,rfl,_⟩:=h;rfl
 ·refine⟨_,ag (aP (PW.pt (pw_or (am jz (pv 1) ah (aw _)) (pw_or1 (am tG (pv 1) (dh (pv 0) rfl) (aw _))))) (ak (cG (E:=E) bH O hr.hd rfl (zo (pv 1) (by decide +kernel)))) ay)
   (ag (aA (i:=2) pB.nd rfl (Or.inl rfl) (aD lW (aB aK rfl Tx.len boot_len (aa (dh (pv 0) rfl) ae)) (aD lW (dh (pv 0) rfl) (pv 1))))
   (ag (aP (am jz (pv 2) ah (aw _)) (ak (av cM)) ay)
   (ag (aA (i:=3) pB.nd rfl (Or.inl rfl) (bn ae))
   (ag (dQ (yP bH) rfl (cR (cu qV (dh (pv 0) rfl) (cp (pv 2)) eM)) (aE (i:=4) pB.nd rfl (Or.inl rfl))
    (ak (aA (i:=3) pB.nd rfl (Or.inl rfl) (al GJ hr rfl mJ kJ bJ .nil aF (aa (pv 3) (aa (pv 4) ae))))))
   (ak (av (pv 3))))))),?_⟩
  obtain⟨p,kl,ml,t,z,m,dn,ks,ms,mark,U,M,rfl,W,hi,hks,hm1,hm2,qE,qN,qC⟩:=h;obtain⟨dx,hp⟩:=W.ob;refine⟨_,rfl,_,_,rfl,rfl,_,rfl,?_⟩
  by_cases h0:mark<0
  ·rw[decide_eq_true h0];refine aQ (aQ ?_);exact⟨_,rfl,mark,rfl,hm1,hm2,λy=>⟨(show 1≤sizeLine from ao (by decide)),qE (.inl h0) H (Same.refl _)⟩⟩
  rw[decide_eq_false h0];refine aI ⟨_,rfl,_,rfl,p,C,dx,_,_,rfl,hp,T.cl,T.nD,iq,_,_,rfl,rfl,_,rfl,?_⟩
  by_cases h1:dn<mark
  ·rw[decide_eq_true h1];refine aQ ?_;exact⟨_,rfl,mark,rfl,hm1,hm2,λy=>⟨(show 1≤sizeLine from ao (by decide)),qE (.inr h1) H (Same.refl _)⟩⟩
  rw[decide_eq_false h1];refine aI ?_;refine⟨_,rfl,p,C,dx,_,_,rfl,hp,T.cl,T.nK,fX,kl,_,rfl,.inl (SqL.of W.kp),_,rfl,p,C,dx,_,_,rfl,hp,T.cl,T.nD,iq,_,rfl,_,_,rfl,rfl,_,_,rfl,rfl,?_⟩;rw[length_map];refine⟨_,rfl,_,_,rfl,rfl,_,rfl,?_⟩
  by_cases h2:(ks.length:Int)-(dn-mark)<0
  ·rw[decide_eq_true h2];exact aQ (qN (by omega) (by omega) h2 H (Same.refl _))
  rw[decide_eq_false h2];refine aI ⟨zero_le _,λc0 hc0=>?_⟩;have s1:=af (o:=.tup []) hc0;have C0:ChgAt (upd H c0 (.tup [])) c0 []:=⟨ac,by simp,by simp⟩;generalize upd H c0 (.tup [])=H1 at s1 C0⊢;obtain⟨j,hj⟩:∃j:Nat,(ks.length:Int)-(dn-mark)=j:=⟨((ks.length:Int)-(dn-mark)).toNat,by omega⟩;have hjl:j≤ks.length:=by omega
  have W1:=W.same s1;have hp1:=s1 _ _ hp;dsimp only;rw[hj];refine⟨_,rfl,p,C,dx,_,_,rfl,hp1,T.cl,T.nK,fX,_,rfl,_,rfl,kl,_,rfl,SqL.of W1.kp,λl hl=>?_⟩;rw[pA (by rw[length_map];exact hjl)];have s2:=af (o:=.lst ((ks.map λx=>V.ref x.1).drop j)) hl;have hl2:upd H1 l (.lst ((ks.map λx=>V.ref x.1).drop j)) l=some (.lst ((ks.map λx=>V.ref x.1).drop j)):=ac;generalize upd H1 l (.lst ((ks.map λx=>V.ref x.1).drop j))=H2 at s2 hl2⊢;refine⟨l,rfl,⟨_,SqL.of hl2⟩,gS (xs:=(ks.map λx=>V.ref x.1).drop j) (λi σ H'=>∃c es x4,σ=[some (.ref p),some (.int mark),some (.int j),some (.ref c),x4]∧Same H2 H'∧ChgAt H' c es∧TW.Chg (U j) (U (j+i)) (ba es)) ⟨c0,[],none,rfl,Same.refl _,C0.same s2,vJ _⟩ (λi σ H' _ h=>?_) (λi x σ H' hx h=>?_) (λσ H' h=>?_)⟩
  ·obtain⟨c,es,x4,rfl,s3,_⟩:=h;exact SqL.of (s3 _ _ hl2)
  ·obtain⟨c,es,x4,rfl,s3,hc,hch⟩:=h;rw[getElem?_drop,getElem?_map]at hx;cases hk:ks[j+i]? with
   |none=>rw[hk]at hx;cases hx
   |some y =>
    rw[hk]at hx;have ey:V.ref y.1=x:=Option.some.inj hx;subst ey;have hy:=mem_of_getElem? hk;have hlt:j+i<ks.length:=(List.getElem?_eq_some_iff.mp hk).1;have hst:=hi.step _ _ hk;have l1:=gp hch (hi.num j hjl) (hi.num (j+i) (by omega));have l2:=gp hst (hi.num (j+i) (by omega)) (hi.num (j+i+1) (by omega));have hfew:=hi.few;refine⟨_,rfl,_,rfl,c,y.1,es,y.2,U j,U (j+i),U (j+i+1),rfl,hc,((W1.ch y hy).same s2).same s3,hch,hst,by omega,by omega,λc' gs H4 s4 hc' hch'=>?_⟩;exact⟨c',gs,_,rfl,s3.trans s4,hc',hch'⟩
  ·obtain⟨c,es,x4,rfl,s3,hc,hch⟩:=h;have hle:j+((ks.map λx=>V.ref x.1).drop j).length=ks.length:=by rw[length_drop,length_map];omega
   rw[hle]at hch;exact⟨_,rfl,qC j (by omega) (by omega) hj c es H' ((s1.trans s2).trans s3) hc hch⟩
end
structure Past(ts:List (List Nd))(z:List Nd)(most:Int)(ks:List (Addr×ZR))(M:List Int):Prop where
 pos:0<ts.length
 m0:0≤most
 len:(ks.length:Int)=min ((ts.length:Int)-1) most
 last:ts[ts.length-1]?=some z
 step:∀j x,ks[j]?=some x→TW.Chg (ts.getD (ts.length-1-ks.length+j) []) (ts.getD (ts.length-1-ks.length+j+1) []) (ba x.2)
 num:∀t∈ts,∀n∈t,n.num∈M
theorem eJ{α:Type}{ts:List α}{u d:α}{i:Nat}(h:i<ts.length):(ts++[u]).getD i d=ts.getD i d:=by
 rw[getD_eq_getElem?_getD,getD_eq_getElem?_getD,getElem?_append_left h]
theorem pC{α:Type}{ts:List α}{u d:α}:(ts++[u]).getD ts.length d=u:=by
 rw[getD_eq_getElem?_getD,getElem?_append_right (le_refl _),sub_self];rfl
theorem Past.at_last{ts:List (List Nd)}{z:List Nd}{most:Int}{ks:List (Addr×ZR)}{M:List Int}(h:Past ts z most ks M):ts.getD (ts.length-1) []=z:=by
 rw[getD_eq_getElem?_getD,h.last];rfl
theorem Past.next{ts:List (List Nd)}{z u:List Nd}{most:Int}{ks:List (Addr×ZR)}{M:List Int}(h:Past ts z most ks M){c:Addr}{es:ZR}(hc:TW.Chg z u (ba es)){k:Int}(hu:∀n∈u,n.num∈k::M):Past (ts++[u]) u most (eI most (ks++[(c,es)])) (k::M):=by
 have hp:=h.pos;have hl:=h.len;have hm:=h.m0;have h1:(ks++[(c,es)]).length=ks.length+1:=by rw[length_append];rfl
 have h2:(ts++[u]).length=ts.length+1:=by rw[length_append];rfl
 have one:∀j x,(ks++[(c,es)])[j]?=some x→TW.Chg ((ts++[u]).getD (ts.length-1-ks.length+j) []) ((ts++[u]).getD (ts.length-1-ks.length+j+1) []) (ba x.2):=λj x hj=>by
  by_cases hlt:j<ks.length
  ·rw[getElem?_append_left hlt]at hj;rw[eJ (by omega),eJ (by omega)];exact h.step j x hj
  ·have hj2:j<(ks++[(c,es)]).length:=(List.getElem?_eq_some_iff.mp hj).1;have ej:j=ks.length:=by omega
   subst ej;rw[getElem?_append_right (le_refl _),sub_self]at hj;have ex:(c,es)=x:=Option.some.inj hj;subst ex;have e1:ts.length-1-ks.length+ks.length=ts.length-1:=by omega
   have e2:ts.length-1+1=ts.length:=by omega
   rw[e1,e2,pC,eJ (by omega),h.at_last];exact hc
 refine⟨by omega,hm,?_,?_,?_,λt ht n hn=>?_⟩
 ·unfold eI
  by_cases hc2:most<((ks++[(c,es)]).length:Int)
  ·rw[if_pos hc2,length_drop,h1,h2];rw[h1]at hc2;omega
  ·rw[if_neg hc2,h1,h2];rw[h1]at hc2;omega
 ·rw[h2,Nat.add_sub_cancel,getElem?_append_right (le_refl _),sub_self];rfl
 ·intro j x hj;unfold eI at hj⊢
  by_cases hc2:most<((ks++[(c,es)]).length:Int)
  ·rw[if_pos hc2]at hj;rw[if_pos hc2,length_drop,h1,h2];rw[getElem?_drop]at hj;have:=one (1+j) x hj;have hj2:1+j<(ks++[(c,es)]).length:=(List.getElem?_eq_some_iff.mp hj).1;have e1:ts.length+1-1-(ks.length+1-1)+j=ts.length-1-ks.length+(1+j):=by omega
   rw[e1];exact this
  ·rw[if_neg hc2]at hj;rw[if_neg hc2,h1,h2];rw[h1]at hc2;have e1:ts.length+1-1-(ks.length+1)+j=ts.length-1-ks.length+j:=by omega
   rw[e1];exact one j x hj
 ·rcases mem_append.mp ht with ht|ht
  ·exact mem_cons_of_mem _ (h.num t ht n hn)
  ·have:t=u:=by simpa using ht
   subst this;exact hu n hn
theorem Past.hist{ts:List (List Nd)}{z:List Nd}{most:Int}{ks:List (Addr×ZR)}{M:List Int}(h:Past ts z most ks M)(hM:M.length≤30):Hist ks (λj=>ts.getD (ts.length-1-ks.length+j) []) M:=by
 have hp:=h.pos;have hl:=h.len;refine⟨λj x hj=>h.step j x hj,λj hj n hn=>?_,hM⟩;have hlt:ts.length-1-ks.length+j<ts.length:=by omega
 rw[getD_eq_getElem?_getD,getElem?_eq_getElem hlt]at hn;exact h.num _ (getElem_mem hlt) n hn
theorem vK{α:Type}{xs:List α}{v:α}(h:xs[xs.length-1]?=some v):atI xs (-1)=some v:=by
 have hj:xs.length-1<xs.length:=(List.getElem?_eq_some_iff.mp h).1;unfold atI ixN;rw[if_neg (by omega),if_pos (by omega)];have e:(-1+(xs.length:Int)).toNat=xs.length-1:=by omega
 rw[e];exact h
structure LW(C:Addr)(H0 H:Hp)(lt w kl ml:Addr)(ts:List (Addr×ZN))(t:Addr)(z:ZN)(m:Int)(ks:List (Addr×ZR))(M:List Int)(b:Nat):Prop where
 s0:Same H0 H
 f1:H0 lt=none
 f2:H0 w=none
 f3:H0 kl=none
 f4:H0 ml=none
 n1:lt≠w
 n2:lt≠kl
 n3:lt≠ml
 lst:H lt=some (.lst (ts.map λx=>V.ref x.1))
 tre:∀x∈ts,Tre H x.1 x.2
 ok:∀x∈ts,∀n∈nds x.2,eR n
 wat:WAt C H w kl ml t z m ((ts.length:Int)-1) ks []
 past:Past (ts.map λx=>nds x.2) (nds z) m ks M
 few:M.length≤6+b
 len:ts.length≤b+1
 sz:∀x∈ts,x.2.length≤6+b
 m5:m≤30
theorem LW.same{C:Addr}{H0 H H':Hp}{lt w kl ml:Addr}{ts:List (Addr×ZN)}{t:Addr}{z:ZN}{m:Int}{ks:List (Addr×ZR)}{M:List Int}{b:Nat}(h:LW C H0 H lt w kl ml ts t z m ks M b)(s:Same H H'):LW C H0 H' lt w kl ml ts t z m ks M b :=
 ⟨h.s0.trans s,h.f1,h.f2,h.f3,h.f4,h.n1,h.n2,h.n3,s _ _ h.lst,λx hx=>(h.tre x hx).same s,h.ok,h.wat.same s,h.past,h.few,h.len,h.sz,h.m5⟩
theorem LW.more{C:Addr}{H0 H:Hp}{lt w kl ml:Addr}{ts:List (Addr×ZN)}{t:Addr}{z:ZN}{m:Int}{ks:List (Addr×ZR)}{M:List Int}{b:Nat}(h:LW C H0 H lt w kl ml ts t z m ks M b):LW C H0 H lt w kl ml ts t z m ks M (b+1) :=
 ⟨h.s0,h.f1,h.f2,h.f3,h.f4,h.n1,h.n2,h.n3,h.lst,h.tre,h.ok,h.wat,h.past,by have:=h.few;omega,by have:=h.len;omega,λx hx=>by have:=h.sz x hx;omega,h.m5⟩
theorem LW.end{C:Addr}{H0 H:Hp}{lt w kl ml:Addr}{ts:List (Addr×ZN)}{t:Addr}{z:ZN}{m:Int}{ks:List (Addr×ZR)}{M:List Int}{b:Nat}(h:LW C H0 H lt w kl ml ts t z m ks M b):∃x,ts[ts.length-1]?=some x∧x∈ts∧nds x.2=nds z∧atI (ts.map λx=>V.ref x.1) (-1)=some (.ref x.1):=by
 have hp:=h.past.pos;have hl:=h.past.last;rw[length_map]at hp hl;have hlt:ts.length-1<ts.length:=by omega
 refine⟨ts[ts.length-1],getElem?_eq_getElem hlt,getElem_mem hlt,?_,vK ?_⟩
 ·rw[getElem?_map,getElem?_eq_getElem hlt]at hl;exact Option.some.inj hl
 ·rw[length_map,getElem?_map,getElem?_eq_getElem hlt];rfl
theorem LW.off{C:Addr}{H0 H H':Hp}{lt w kl ml:Addr}{ts:List (Addr×ZN)}{t:Addr}{z:ZN}{m:Int}{ks:List (Addr×ZR)}{M:List Int}{b:Nat}(h:LW C H0 H lt w kl ml ts t z m ks M b){S:List Addr}(of:Off S H H')(tS:ci H H')(hS:∀b∈S,H0 b=none)(n:lt∉S)(nw:w∉S)(nk:kl∉S)(nm:ml∉S):LW C H0 H' lt w kl ml ts t z m ks M b :=
 ⟨λp o e=>of _ _ (h.s0 _ _ e) λhp=>(by rw[hS p hp]at e;cases e),h.f1,h.f2,h.f3,h.f4,h.n1,h.n2,h.n3,of _ _ h.lst n,λx hx=>(h.tre x hx).ts tS,h.ok,h.wat.off of tS nw nk nm,h.past,h.few,h.len,h.sz,h.m5⟩
theorem LW.deedS{C:Addr}{H0 H H':Hp}{lt w kl ml:Addr}{ts:List (Addr×ZN)}{t t' t1:Addr}{z us u1:ZN}{m:Int}{ks:List (Addr×ZR)}{M:List Int}{b:Nat}{c:Addr}{es:ZR}{dd:TW.Deed Str}(h:LW C H0 H lt w kl ml ts t z m ks M b)(hf:cv dd)(told:TW.Told (nds z) dd (.inr (nds us)))(hch:TW.Chg (nds z) (nds us) (ba es))(W:WAt C H' w kl ml t' us m ((ts.length:Int)-1+1) (eI m (ks++[(c,es)])) []){S:List Addr}(of:Off S H H')(hS:∀b∈S,H0 b=none)(hlt:lt∉S)(tS:ci H H')(T1:Tre H' t1 u1)(e1:nds u1=nds us):
  H' lt=some (.lst (ts.map λx=>V.ref x.1))∧LW C H0 (upd H' lt (.lst ((ts.map λx=>V.ref x.1)++[.ref t1]))) lt w kl ml (ts++[(t1,u1)]) t' us m (eI m (ks++[(c,es)])) (dd.key::M) (b+1):=by
 have hl':=of _ _ h.lst hlt;have ts2:=kH (ys:=(ts.map λx=>V.ref x.1)++[.ref t1]) hl';obtain⟨x,_,hx,ex,_⟩:=h.end;have hzok:∀n∈nds z,eR n:=by rw[←ex];exact h.ok x hx
 have hzt:TW.Tree1 (nds z):=h.wat.tr.tr;have hut:TW.Tree1 (nds us):=W.tr.tr;have hsz:=h.sz x hx;rw[←aJ x.2,ex]at hsz;refine⟨hl',⟨λp o e=>?_,h.f1,h.f2,h.f3,h.f4,h.n1,h.n2,h.n3,by rw[ac,map_append];rfl,λy hy=>?_,λy hy=>?_,?_,?_,?_,?_,λy hy=>?_,h.m5⟩⟩
 ·rw[aj (aq e h.f1)];exact of _ _ (h.s0 _ _ e) λhp=>by rw[hS p hp]at e;cases e
 ·rcases mem_append.mp hy with hy|hy
  ·exact(h.tre y hy).ts (tS.trans ts2)
  ·have:y=(t1,u1):=by simpa using hy
   rw[this];exact T1.ts ts2
 ·rcases mem_append.mp hy with hy|hy
  ·exact h.ok y hy
  ·have:y=(t1,u1):=by simpa using hy
   rw[this,e1];exact eR.told hzok hf told
 ·have:=W.off (S:=[lt]) (H':=upd H' lt (.lst ((ts.map λx=>V.ref x.1)++[.ref t1]))) (λp o e hp=>by rw[aj (by simpa using hp)];exact e) ts2 (by simpa using Ne.symm h.n1) (by simpa using Ne.symm h.n2) (by simpa using Ne.symm h.n3);rw[length_append];have e:((ts.length+[(t1,u1)].length:Nat):Int)-1=(ts.length:Int)-1+1:=by show((ts.length+1:Nat):Int)-1=_;omega
  rw[e];exact this
 ·have:=h.past.next (c:=c) hch (k:=dd.key) λn hn=>?_
  ·rw[map_append];show Past ((ts.map λx=>nds x.2)++[nds u1]) (nds us) m _ _;rw[e1];exact this
  ·by_cases hk:n.num=dd.key
   ·rw[hk];exact mem_cons_self
   ·refine mem_cons_of_mem _ ?_;rcases told.others hzt hut hk with e|⟨_,_,_,hno⟩
    ·rw[TW.eU hut hn rfl]at e;obtain⟨h1,h2⟩:=TW.ca e.symm;exact h.past.num (nds z) (mem_of_getElem? h.past.last) n h1
    ·exact absurd rfl (hno n hn)
 ·rw[length_cons];have:=h.few;omega
 ·rw[length_append];show ts.length+1≤_;have:=h.len;omega
 ·rcases mem_append.mp hy with hy|hy
  ·have:=h.sz y hy;omega
  ·have:y=(t1,u1):=by simpa using hy
   rw[this];have hl:=told.len;rw[←e1,aJ]at hl;show u1.length≤_;omega
section
variable{P:Program}{w:World}{K:PySem.W.Frag}{mg:Str→Option Value}{base:Heap}
def qz:Sp:=λvs H Q _=>∃t zs,vs=[.ref t]∧Tre H t zs∧∀d as H',Same H H'→H d=none→Book H' d as zs→H' d=some (.dK (aU as))→Q (.ref d) H'
theorem zu:FnScope ["_law_tree_here"] ["_law_tree_here"] (ai vc):=fsc
theorem xw{f:Addr}{fd:FuncData}(F:Fun K "_law_book" "_law_book" vc f fd)(T:Txt mg):FnOk P w K mg base CX0 1 f fd ["_law_tree_here"] qz:=by
 refine F.ok zu (λvs H Q E h=>?_) (λcdv A outer s H vs Q E hr h=>?_)
 ·obtain⟨t,zs,rfl,_⟩:=h;rfl
 ·obtain⟨t,zs,rfl,tr,k⟩:=h;have hnd:=bX tr.tr;have hl:=tr.len;have ht:=tr.tup;have hA:=tr.nod;refine⟨_,ak (av (aO (dI rfl) rfl T.dict boot_dict (aa (dA (N:=["_law_node"]) (k:=1) (js:=[]) (g:=bj 0) rfl (cF rfl (by decide +kernel) (by decide +kernel) (by decide +kernel)) rfl (λi j x h=>by simp at h)
   (cx (pv 0)) (λs H fp=>aE (i:=0) (show(["_law_node"]:List Str).Nodup by decide +kernel) rfl (Or.inl rfl) (Or.inr rfl))
   (λs H fp=>bn (aa (au (r:=dS K) ar (pv 0) ah (λ_ _=>rfl)) (aa (cu (r:=tR K) fe (pv 0) (cp ah) eM) ae)))) ae))),?_⟩
  refine⟨_,rfl,t,rfl,⟨_,SqT.of ht⟩,λp hp=>?_⟩;refine pZ (fr:=[]) zs.length (by omega) hp rfl (λi y H'=>∃q t' z,zs[i]?=some z∧y=.ref q∧q≠p∧t'≠p∧H' q=some (.tup [.int z.2.num,.ref t'])∧H' t'=some (.tup (aN z.2))) (λi y H1 H2 h ex=>?_) (λi H' hi s1=>?_) (λH' s1=>?_) ?_ (λi H' x H2 hi s1 hpl hy=>?_) (λys H' s1 hp' hlen hys=>?_)
  ·obtain⟨q,t',z,e1,e2,e3,e4,e5,e6⟩:=h;exact⟨q,t',z,e1,e2,e3,e4,ex q _ e3 e5,ex t' _ e4 e6⟩
  ·exact⟨_,_,SqT.of (s1 _ _ ht),dD (getElem?_eq_getElem hi)⟩
  ·exact⟨_,SqT.of (s1 _ _ ht),by rw[be];exact le_refl _⟩
  ·rintro _ _ _ _ m ⟨v1,b1,p1,xs,i1,v2,c1,c2,c3,c4,v3,b3,i3,d0,a3,xs3,d1,d2,d3,q⟩;refine⟨v1,b1,p1,xs,i1,v2,c1,c2,c3,c4,v3,b3,i3,d0,a3,xs3,d1,d2,d3,λl hl=>?_⟩;obtain⟨hz',q'⟩:=q l hl;exact⟨hz',λl' hl'=>m _ _ (q' l' hl')⟩
  ·obtain⟨rfl,hx⟩:=hy;obtain⟨z,gz,rfl⟩:=ce (hx _ (SqT.of (s1 _ _ ht)));have mz:=mem_of_getElem? gz;have hz1:=s1 _ _ (hA z mz);have ecut:dR (vals z.2) (some 1) none=aN z.2:=rfl;refine⟨rfl,_,rfl,z.1,_,_,_,rfl,rfl,SqT.of hz1,at0 z.2,_,rfl,_,rfl,z.1,_,rfl,SqT.of hz1,(by intro h;exact absurd h.1 (show ¬HT.sIx 4 0 (some 1)=0 by decide)),λt' ht'=>?_⟩;rw[ecut];have s2:=af (o:=.tup (aN z.2)) ht';have hpl2:∃ys,upd H2 t' (.tup (aN z.2)) p=some (.lst ys):=let⟨ys,e⟩:=hpl;⟨ys,s2 _ _ e⟩;refine⟨le2,λq hq=>⟨s2.trans (af hq),q,t',z,gz,rfl,dj hpl2 hq,dj hpl ht',ac,aT hq ac⟩⟩
  ·obtain⟨as,e1,e2,e3⟩:∃as:List ((Addr×Addr)×(Addr×Nd)),as.map (·.2)=zs∧ys=(as.map (·.1.1)).map V.ref∧∀a∈as,H' a.1.1=some (.tup [.int a.2.2.num,.ref a.1.2])∧H' a.1.2=some (.tup (aN a.2.2)):=by
    clear hp';have main:∀(ys:List V)(xs:ZN),ys.length=xs.length→(∀(i:Nat) y,ys[i]?=some y→∃q t' z,xs[i]?=some z∧y=.ref q∧q≠p∧t'≠p∧H' q=some (.tup [.int z.2.num,.ref t'])∧H' t'=some (.tup (aN z.2))) →
      ∃as:List ((Addr×Addr)×(Addr×Nd)),as.map (·.2)=xs∧ys=(as.map (·.1.1)).map V.ref∧∀a∈as,H' a.1.1=some (.tup [.int a.2.2.num,.ref a.1.2])∧H' a.1.2=some (.tup (aN a.2.2)):=by
     intro ys
     induction ys with
     |nil =>
      intro xs hl _;have:xs=[]:=length_eq_zero_iff.mp hl.symm;subst this;exact⟨[],rfl,rfl,by simp⟩
     |cons y ys ih =>
      intro xs hl h;cases xs with
      |nil=>simp at hl
      |cons x xs =>
       obtain⟨as,e1,e2,e3⟩:=ih xs (by simpa using hl) λi y hy=>by simpa using h (i+1) y (by simpa using hy)
       obtain⟨q,t',z,f1,f2,f3,f4,f5,f6⟩:=h 0 y rfl;have:x=z:=by simpa using f1
       subst this;refine⟨((q,t'),x)::as,by simp[e1],by simp[e2,f2],λa ha=>?_⟩;rcases mem_cons.mp ha with rfl|ha
       ·exact⟨f5,f6⟩
       ·exact e3 a ha
    exact main ys zs hlen hys
   have hal:as.length=zs.length:=by rw[←e1,length_map]
   refine⟨p,as.map λa=>(a.1.1,(Sum.inl a.2.2.num:Key),V.ref a.1.2),rfl,?_,?_,?_,?_,λd hd=>?_⟩
   ·rw[hp',e2,map_map,map_map,map_map];rfl
   ·intro z hz;obtain⟨a,ha,rfl⟩:=mem_map.mp hz;exact(e3 a ha).1
   ·rw[length_map];omega
   ·rw[map_map];have:(as.map ((λx:Addr×Key×V=>x.2.1)∘λa=>(a.1.1,(Sum.inl a.2.2.num:Key),V.ref a.1.2)))=((nds zs).map (·.num)).map (Sum.inl:Int→Key):=by
     rw[←e1];unfold nds;simp only[map_map];rfl
    rw[this];unfold Nodup at hnd⊢;rw[pairwise_map];exact hnd.imp λh e=>h (by injection e)
   ·have sd:=af (o:=.dK ((as.map λa=>(a.1.1,(Sum.inl a.2.2.num:Key),V.ref a.1.2)).map (·.2))) hd;have ed:upd H' d (.dK ((as.map λa=>(a.1.1,(Sum.inl a.2.2.num:Key),V.ref a.1.2)).map (·.2))) d=some (.dK (aU (as.map λa=>(a.1.2,a.2)))):=by
     rw[ac];refine congrArg (λx=>some (HO.dK x)) ?_;unfold aU;simp only[map_map];rfl
    refine k d (as.map λa=>(a.1.2,a.2)) _ (s1.trans sd) (s1.free hd) ⟨.inl ed,by rw[map_map];exact e1,λa ha=>?_⟩ ed;obtain⟨b,hb,rfl⟩:=mem_map.mp ha;exact sd _ _ (e3 b hb).2
def kX:Sp:=λvs H Q _=>∃d k g as zs p,vs=[.ref d,.int k,.int g]∧Book H d as zs∧TW.Tree1 (nds zs)∧TW.PathTo (nds zs) k p∧1≤g∧∀b,(b=true↔TW.Und (nds zs) g k)→Q (.bl b) H
theorem xX:FnScope ["_law_book_here","_law_number","_law_goal"] ["_law_book_here","_law_number","_law_goal"] (ai qh):=fsc
theorem zv{f:Addr}{fd:FuncData}(F:Fun K "_law_under" "_law_under" qh f fd):FnOk P w K mg base CX0 1 f fd ["_law_book_here","_law_number","_law_goal"] kX:=by
 refine F.ok xX (λvs H Q E h=>?_) (λcdv A outer s H vs Q E hr h=>?_)
 ·obtain⟨d,k,g,as,zs,p,rfl,_⟩:=h;rfl
 ·obtain⟨d,k,g,as,zs,p,rfl,bk,hTr,hp,hg,q⟩:=h;have hnd:=bX hTr;refine⟨_,ag (nV PassesOwn.never (PW.pt (pw_and (am eX (pv 1) ah (aw _)) (pw_and1 (am eX (pv 1) (pv 2) (aw _)))))
    (ak (aA (i:=1) xX.nd rfl (Or.inl rfl) (au ar (cS (bi hr) (pv 0) (pv 1) (λ_ _=>rfl)) ah (λ_ _=>rfl)))))
   (ak (av (dt cD (pv 1) (pv 2) (aw _)))),?_⟩
  refine nX (λσ H'=>∃at' q',σ=[some (.ref d),some (.int at'),some (.int g)]∧TW.PathTo (nds zs) at' q'∧(TW.Und (nds zs) g k↔TW.Und (nds zs) g at')∧H'=H)
   (λσ H'=>match σ with | [_,some (.int k),_]=>uQ (nds zs) k | _=>0) ⟨k,p,rfl,hp,Iff.rfl,rfl⟩ (λσ H' h=>?_) ?_
  ·obtain⟨at',q',rfl,hq',hu,rfl⟩:=h;have last:∀b:Bool,(b=true↔TW.Und (nds zs) g at')→Q (.bl b) H':=λb hb=>q b (hb.trans hu.symm);refine⟨_,rfl,rfl,_,rfl,?_⟩
   by_cases h0:at'=0
   ·have hne:decide (V.int at'=V.int 0)=true:=by simp[h0]
    rw[hne];refine aI (aI ⟨_,rfl,_,rfl,rfl,last _ ?_⟩);rw[decide_eq_true_eq];constructor
    ·intro e;injection e with e;omega
    ·intro hx;have:=hx.zero hTr h0;omega
   ·have hne:decide (V.int at'=V.int 0)=false:=by simp[h0]
    rw[hne];refine aQ ⟨_,rfl,_,rfl,rfl,_,rfl,?_⟩
    by_cases hg':at'=g
    ·have hne:decide (V.int at'=V.int g)=true:=by simp[hg']
     rw[hne];refine aI ⟨_,rfl,_,rfl,rfl,last _ ?_⟩;rw[hne];constructor
     ·intro _;rw[hg'];exact .here
     ·intro _;rfl
    ·have hne:decide (V.int at'=V.int g)=false:=by simp[hg']
     rw[hne];refine aQ ?_;obtain⟨z,hz,e1,q'',e2,hq''⟩:=wW hTr hq' h0;subst e1;obtain⟨b,hb1,hb2⟩:=bk.get hnd hz;refine⟨_,rfl,_,rfl,d,_,rfl,hb1,b,_,_,_,rfl,rfl,SqT.of hb2,Ba z.2,?_⟩;have mz:z.2∈nds zs:=mem_map.mpr ⟨z,hz,rfl⟩;refine⟨⟨z.2.par,q'',rfl,hq'',hu.trans ⟨λh=>h.inv hTr mz rfl hg',λh=>.up mz h⟩,rfl⟩,?_⟩;show uQ (nds zs) z.2.par<uQ (nds zs) z.2.num;rw[rE hTr hq'',rE hTr hq',e2];simp
  ·rintro σ H1 Q1 Q2 m ⟨v,e,h2,b,e3,q⟩;refine⟨v,e,h2,b,e3,?_⟩;cases b with
   |false=>exact m _ _ q
   |true =>
    obtain⟨v1,f1,v2,f2,h3,b',e4,q'⟩:=q;exact⟨v1,f1,v2,f2,h3,b',e4,m _ _ q'⟩
end
def ldS(i:Nat):Stmt:=(br cn).getD i (.Pass ⟨0,0,0,0⟩)
def DN:List Str:=["_law_tree_here","_law_deed_here","_law_book_here","_law_number","_law_parent"]
theorem jt:FnScope DN ["_law_tree_here","_law_deed_here"] (ai cn):=fsc
abbrev DX(P:Program)(w:World)(K:PySem.W.Frag)(mg:Str→Option Value)(base:Heap)(f:Addr)(cdv:Value)(A:Around)(outer:List Env)(s:Shared)(H:Hp)(E:XK):Cx:=(gF CX0 P w K mg base DN "_law_done" (ai cn) f cdv A outer s H E).nox
section
variable{P:Program}{w:World}{K:PySem.W.Frag}{mg:Str→Option Value}{base:Heap}{f:Addr}{cdv:Value}{A:Around}{outer:List Env}{s:Shared}{H0:Hp}{E:XK}
theorem zw(T:Txt mg)(hr:Room 1 (A.deeper (PyProof.Rows.envOfC "_law_done" (ai cn) s.heap.objs.size f cdv))):
  ∃t,PS (DX P w K mg base f cdv A outer s H0 E) (ldS 6) t∧∀(D:Ends)(H:Hp)(σ:St)(x0 x1 x3 x4:Option V)(d:Addr)(bs:List (Addr×Nd)),σ=[x0,x1,some (.ref d),x3,x4]→H d=some (.dK (bw bs))→(∀b∈bs,H b.1=some (.tup (aN b.2)))→(bs.map (·.2.num)).Nodup→bs.length≤60 →
   (∀o us t' H',Same (upd H d (.frz o (.dK (bw bs)))) H'→H' t'=some (.tup (aW us))→At H' us→(nds us).Perm (bs.map (·.2))→TW.cb (nds us)→D.rt (.ref t') H')→t D σ H:=by
 refine⟨_,av (aO bh rfl T.tuple rfl (aa (aB cE rfl T.sorted boot_sorted (aa (dA (N:=["_law_one","_law_book_here"]) (cl:=[("_law_book_here",s.heap.objs.size+1)]) (k:=1) (js:=[2]) (g:=bj 0) rfl
    (LcOk.mk' ["_law_book_here"] rfl rfl (by decide +kernel) (by decide +kernel) ?hcl rfl (by decide +kernel)) rfl ?hj (xU (pv 2)) (λs H fp=>aE (i:=0) (show(["_law_one","_law_book_here"]:List Str).Nodup by decide +kernel) rfl (Or.inl rfl) (Or.inr rfl))
    (λs H fp=>aD (r:=tT K) gU (bn (aa (pv 0) ae)) (cS (bi hr) (pv 1) (pv 0) (λ_ _=>rfl)))) ae)) ae)),?_⟩
 case hcl =>
  intro y hy;rcases mem_cons.mp hy with e|hy
  ·rw[e];rfl
  ·cases hy
 case hj =>
  intro i j x h1 h2
  match i,h1,h2 with
  |0,h1,h2 =>
   cases h1;cases h2;exact⟨rfl,Or.inr (Or.inl rfl),(show((ai cn).names.lookup ("_law_book_here":Str)≠some NameKind.local)by decide +kernel),by first|exact Or.inl rfl|exact Or.inr rfl⟩
  |i+1,h1,h2=>simp at h1
 rintro D H _ x0 x1 x3 x4 d bs rfl hd hb hnd hl q;refine⟨_,rfl,d,_,rfl,hd,λo p hp=>?_⟩;have hb1:∀b∈bs,upd H d (.frz o (.dK (bw bs))) b.1=some (.tup (aN b.2)):=λb mb=>by
  rw[aj]
  ·exact hb b mb
  ·intro e;have:=hb b mb;rw[e,hd]at this;cases this
 have hd1:upd H d (.frz o (.dK (bw bs))) d=some (.frz o (.dK (bw bs))):=ac;have sq:∀us t' H',Same (upd H d (.frz o (.dK (bw bs)))) H'→H' t'=some (.tup (aW us))→At H' us→(nds us).Perm (bs.map (·.2))→TW.cb (nds us)→D.rt (.ref t') H':=q o;generalize upd H d (.frz o (.dK (bw bs)))=H1 at hb1 hd1 sq hp⊢;rw[kg];refine dL (fr:=[some (.ref d)]) bs (λb=>V.int b.2.num) (by omega) hp (oR hd1) rfl (λb y H'=>∃q,y=.ref q∧q≠p∧H' q=some (.tup (vals b.2))) (λb y H H' ⟨q,e,ne,h⟩ ex=>⟨q,e,ne,ex q _ ne h⟩) (λb H' k mb s1 hpl hk=>?_) (λys H' s1 hp' hys=>?_)
 ·refine⟨_,rfl,(show 1≤sizeLine from ao (by decide)),λc hc=>?_⟩;have s2:=af (o:=.tup [.int b.2.num]) hc;refine⟨_,rfl,_,rfl,d,_,rfl,.inl ⟨bw bs,Sum.inl b.2.num,.inr ⟨o,s2 _ _ (s1 _ _ hd1)⟩,rfl,(iP hnd mb).symm⟩,c,b.1,_,_,rfl,rfl,SqT.of ac,SqT.of (s2 _ _ (s1 _ _ (hb1 b mb))),by simp,(show 4≤sizeLine from ao (by decide)),λh=>absurd h (cons_ne_nil _ _),λ_ q hq=>?_⟩;have hpl2:∃ys,upd H' c (.tup [.int b.2.num]) p=some (.lst ys):=let⟨ys,e⟩:=hpl;⟨ys,s2 _ _ e⟩;exact hk _ _ (s2.trans (af hq)) ⟨q,rfl,dj hpl2 hq,ac⟩
 ·obtain⟨cs,e1,e2,e3⟩:=cP (val:=V.ref) (S:=λ(b:Addr×Nd) (q:Addr)=>H' q=some (.tup (vals b.2))) hys (λb y _ ⟨q,e,_,h⟩=>⟨q,e,h⟩);have er:ys=aW (cs.map λx=>(x.2,x.1.2)):=by rw[e2,←cm,map_map];rfl
  have en:nds (cs.map λx=>(x.2,x.1.2))=bs.map (·.2):=by rw[←e1];unfold nds;rw[map_map,map_map];rfl
  have hcl:cs.length=bs.length:=by rw[←e1,length_map]
  refine jc (zs:=cs.map λx=>(x.2,x.1.2)) (.inl (SqL.of (by rw[hp',er]))) (λz hz=>?_) ?_ (by rw[length_map];omega) (λus t' H2 s2 ht' hA' hpm hrise=>?_)
  ·obtain⟨x,hx,rfl⟩:=mem_map.mp hz;exact e3 x hx
  ·rw[en,map_map];exact hnd
  ·refine sq us t' H2 (s1.trans s2) ht' hA' ?_ hrise;have:(nds us).Perm (nds (cs.map λx=>(x.2,x.1.2))):=hpm.map _;rw[en]at this;exact this
theorem xy(T:Txt mg)(hr:Room 1 (A.deeper (PyProof.Rows.envOfC "_law_done" (ai cn) s.heap.objs.size f cdv)))(CU:Has P w K mg base 1 "_law_under" ["_law_book_here","_law_number","_law_goal"] kX):
  ∃t,PS (DX P w K mg base f cdv A outer s H0 E) (ldS 4) t∧∀(D:Ends)(H:Hp)(σ:St)(a c d:Addr)(dd:TW.Deed Str)(n:Int)(as:List (Addr×(Addr×Nd)))(zs:ZN),σ=[some (.ref a),some (.ref c),some (.ref d),some (.int n),none]→Tre H a zs→H c=some (.tup (bQ dd))→Book H d as zs→1≤n →
   ((∃k,dd=.drop k)→∀us t' H' (g:Nd→Bool),Same H H'→H' t'=some (.tup (aW us))→At H' us→nds us=(nds zs).filter g→(∀m∈nds zs,g m=true↔¬TW.Und (nds zs) n m.num)→D.rt (.ref t') H')→((¬∃k,dd=.drop k)→D.nx σ H)→t D σ H:=by
 obtain⟨fU,fdU,GU,mU,kU,bU⟩:=CU;refine⟨_,aP (am cD (au ar (pv 1) ah (λ_ _=>rfl)) aY (aw _)) (ak (av (aO bh rfl T.tuple rfl (aa (iE (N:=["_law_node","_law_book_here","_law_number"]) (cl:=[("_law_number",s.heap.objs.size+2),("_law_book_here",s.heap.objs.size+1)]) (k:=1) (js:=[2,3]) (g:=bj 0) rfl
    (LcOk.mk' ["_law_number","_law_book_here"] rfl rfl (by decide +kernel) (by decide +kernel) ?hcl rfl (by decide +kernel)) rfl ?hj (cx (pv 0)) (λs H fp=>aE (i:=0) (show(["_law_node","_law_book_here","_law_number"]:List Str).Nodup by decide +kernel) rfl (Or.inl rfl) (Or.inr rfl))
    (λs H fp=>dc (db (al (X:=di _ _ _ _ _ _ _) GU hr rfl mU kU bU .nil aF (aa (pv 1) (aa (au (r:=dS K) ar (pv 0) ah (λ_ _=>rfl)) (aa (pv 2) ae)))) (λ_=>rfl))) (λs H fp=>pv 0)) ae)))) ay,?_⟩
 case hcl =>
  intro y hy;rcases mem_cons.mp hy with e|hy
  ·rw[e];rfl
  ·rcases mem_cons.mp hy with e|hy
   ·rw[e];rfl
   ·cases hy
 case hj =>
  intro i j x h1 h2
  match i,h1,h2 with
  |0,h1,h2 =>
   cases h1;cases h2;exact⟨rfl,Or.inr (Or.inl rfl),(show((ai cn).names.lookup ("_law_book_here":Str)≠some NameKind.local)by decide +kernel),by first|exact Or.inl rfl|exact Or.inr rfl⟩
  |1,h1,h2 =>
   cases h1;cases h2;exact⟨rfl,Or.inr (Or.inl rfl),(show((ai cn).names.lookup ("_law_number":Str)≠some NameKind.local)by decide +kernel),by first|exact Or.inl rfl|exact Or.inr rfl⟩
  |i+2,h1,h2=>simp at h1
 rintro D H _ a c d dd n as zs rfl tr hc bk hn q1 q2;have hT:=tr.tr;have hl:=tr.len;have sd:SqT K H c (bQ dd):=SqT.of hc;cases dd with
 |make n' p nm st=>exact⟨_,rfl,c,_,_,_,rfl,rfl,sd,rfl,rfl,_,rfl,aI (q2 λ⟨k,e⟩=>by cases e)⟩
 |write n' st=>exact⟨_,rfl,c,_,_,_,rfl,rfl,sd,rfl,rfl,_,rfl,aI (q2 λ⟨k,e⟩=>by cases e)⟩
 |move n' p nm=>exact⟨_,rfl,c,_,_,_,rfl,rfl,sd,rfl,rfl,_,rfl,aI (q2 λ⟨k,e⟩=>by cases e)⟩
 |drop n' =>
  refine⟨_,rfl,c,_,_,_,rfl,rfl,sd,rfl,rfl,_,rfl,aQ ?_⟩;refine⟨_,rfl,a,rfl,⟨_,SqT.of tr.tup⟩,λp hp=>?_⟩
  classical
  refine iN (fr:=[some (.ref d),some (.int n)]) zs (λz=>V.ref z.1) (by omega) hp (dJ (by rw[cm];exact SqT.of tr.tup)) rfl (λz=>!decide (TW.Und (nds zs) n z.2.num)) (λz y _=>y=.ref z.1) (λz y H H' h _=>h) (λz H' k mz s1 _ hk=>?_) (λz H' k mz _ s1 _ hk=>⟨_,rfl,hk _ H' (Same.refl _) rfl⟩) (λys H' s1 hp' hys=>?_)
  ·obtain⟨pa,hpa⟩:=TW.PathTo.ex hT (bY mz);refine⟨_,rfl,_,rfl,z.1,_,_,_,rfl,rfl,SqT.of (s1 _ _ (tr.nod z mz)),at0 z.2,_,rfl,d,z.2.num,n,as,zs,pa,rfl,bk.same s1,hT,hpa,hn,λb hb=>⟨b,rfl,?_⟩⟩;have:b=decide (TW.Und (nds zs) n z.2.num):=by rw[Bool.eq_iff_iff,hb,decide_eq_true_eq]
   rw[this];exact hk H' (Same.refl _)
  ·have ey:=ck (f:=λz:Addr×Nd=>V.ref z.1) hys (λz y _ h=>h);refine⟨p,_,rfl,.inl ⟨SqL.of hp',λl hl'=>?_⟩⟩;have s2:=s1.trans (af (o:=.tup ys) hl');refine q1 ⟨n',rfl⟩ (zs.filter λz=>!decide (TW.Und (nds zs) n z.2.num)) l _ (λm=>!decide (TW.Und (nds zs) n m.num)) s2 (by rw[ac,ey,cm]) (λy hy=>s2 _ _ (tr.nod y (mem_filter.mp hy).1)) ?_ λm _=>?_
   ·have hfm:∀g:Nd→Bool,nds (zs.filter λz=>g z.2)=(nds zs).filter g:=λg=>by
     unfold nds;rw[filter_map];rfl
    exact hfm λm=>!decide (TW.Und (nds zs) n m.num)
   ·rw[Bool.not_eq_true',decide_eq_false_iff_not]
end
def xY:List Stmt:=match ldS 5 with
 |.If _ _ b _=>b
 |_=>[]
def elS(i:Nat):Stmt:=xY.getD i (.Pass ⟨0,0,0,0⟩)
structure LD(H0 H:Hp)(a c d:Addr)(dd:TW.Deed Str)(as:List (Addr×(Addr×Nd)))(zs:ZN):Prop where
 s0:Same H0 H
 d0:H0 d=none
 tre:Tre H a zs
 deed:H c=some (.tup (bQ dd))
 book:Book H d as zs
theorem LD.same{H0 H H':Hp}{a c d:Addr}{dd:TW.Deed Str}{as:List (Addr×(Addr×Nd))}{zs:ZN}(h:LD H0 H a c d dd as zs)(s:Same H H'):LD H0 H' a c d dd as zs :=
 ⟨h.s0.trans s,h.d0,h.tre.same s,s _ _ h.deed,h.book.same s⟩
theorem vL{H:Hp}{a d:Addr}{xs:List V}{kvs:List (Key×V)}(h:H a=some (.tup xs))(hd:Rd H d (.dK kvs)):a≠d:=λe=>by
 rcases hd with hd|⟨o,hd⟩<;>rw[e,hd]at h<;>cases h
theorem LD.turn{H0 H:Hp}{a c d:Addr}{dd:TW.Deed Str}{as:List (Addr×(Addr×Nd))}{zs:ZN}(h:LD H0 H a c d dd as zs){u:HO}(hu:Rd (upd H d u) d (.dK (aU as))):LD H0 (upd H d u) a c d dd as zs:=by
 have keep:∀{b:Addr}{xs:List V},H b=some (.tup xs)→upd H d u b=some (.tup xs):=λhb=>by rw[aj (vL hb h.book.dict)];exact hb
 exact⟨aM h.d0 h.s0,h.d0,⟨keep h.tre.tup,λz hz=>keep (h.tre.nod z hz),h.tre.tr,h.tre.len⟩,keep h.deed,⟨hu,h.book.of,λa ha=>keep (h.book.at' a ha)⟩⟩
section
variable{P:Program}{w:World}{K:PySem.W.Frag}{mg:Str→Option Value}{base:Heap}{f:Addr}{cdv:Value}{A:Around}{outer:List Env}{s:Shared}{H0:Hp}{E:XK}
theorem zx(hr:Room 1 (A.deeper (PyProof.Rows.envOfC "_law_done" (ai cn) s.heap.objs.size f cdv))):
  ∃t,PS (DX P w K mg base f cdv A outer s H0 E) (elS 5) t∧∀(D:Ends)(H:Hp)(a c d:Addr)(dd:TW.Deed Str)(n p:Int)(nm:Str)(as:List (Addr×(Addr×Nd)))(zs:ZN)(x4:Option V)(o:Obj),LD H0 H a c d dd as zs→H d=some (.frz o (.dK (aU as)))→kh (nds zs) dd n p nm→TW.ig (nds zs) p→NotIn (nds zs) dd n p→(∀m∈nds zs,m.num≠n→¬(m.par=p∧m.nm=nm)) →
   (∀bs H',Same H0 H'→H' d=some (.dK (bw bs))→(∀b∈bs,H' b.1=some (.tup (aN b.2)))→(bs.map (·.2.num)).Nodup→bs.length≤zs.length+1→(∀us,us.Perm (bs.map (·.2))→TW.cb us→TW.Told (nds zs) dd (.inr us))→D.nx [some (.ref a),some (.ref c),some (.ref d),some (.int n),x4] H') →
   t D [some (.ref a),some (.ref c),some (.ref d),some (.int n),x4] H:=by
 refine⟨_,wO (jm (bi hr) (pv 2) (pv 3) (aD gU (cu fe (pv 1) (cp ah) (cp ah)) (bn (aa (nR (am cD (au ar (pv 1) ah (λ_ _=>rfl)) aY (aw _)) (au ar (pv 1) ah (λ_ _=>rfl)) (au ar (cS (bi hr) (pv 2) (pv 3) (λ_ _=>rfl)) ah (λ_ _=>rfl))) ae))) rfl),?_⟩;intro D H a c d dd n p nm as zs x4 o L0 hd mm hF hi hfree qn;refine⟨d,o,aU as,L0.d0,hd,?_⟩;have L:=L0.turn (u:=.dK (aU as)) (.inl ac);have hd1:upd H d (.dK (aU as)) d=some (.dK (aU as)):=ac;generalize upd H d (.dK (aU as))=H1 at L hd1⊢;have hT:=L.tre.tr;have hnd:=bX hT;have hlen:=L.tre.len;have fin:∀(st:Option Int)(q:Addr)(H2:Hp),Same H1 H2→H2 q=some (.tup (aN ⟨n,p,nm,st⟩))→(∀us,(TW.cH (nds zs) n→us=(nds zs).map (TW.put ⟨n,p,nm,st⟩)→TW.Told (nds zs) dd (.inr us))∧(¬TW.cH (nds zs) n→us.Perm (⟨n,p,nm,st⟩::nds zs)→TW.cb us→TW.Told (nds zs) dd (.inr us))) →
   D.nx [some (.ref a),some (.ref c),some (.ref d),some (.int n),x4] (upd H2 d (.dK (cj (aU as) (Sum.inl n:Key) (.ref q)))):=by
  intro st q H2 s2 hq ht;have L2':=L.same s2;obtain⟨bs,e1,e2,e3,e4,e5⟩:=oU (new:=⟨n,p,nm,st⟩) (s2 _ _ hd1) L2'.book.of L2'.book.at' hq hnd;refine qn bs _ (aM L.d0 L2'.s0) e1 e2 e3 e4 λus hp hrise=>?_;rcases e5 with⟨h1,h2⟩|⟨h1,h2⟩
  ·rw[h2]at hp;exact(ht us).1 h1 (TW.ka hrise (TW.ik hT.rise) hp)
  ·rw[h2]at hp;exact(ht us).2 h1 (hp.trans List.perm_append_comm) hrise
 have sd:∀{H2:Hp},Same H1 H2→SqT K H2 c (bQ dd):=λs2=>SqT.of (s2 _ _ L.deed);rcases mm with⟨st,rfl,hno⟩|⟨rfl,hh⟩
 ·refine⟨_,rfl,_,rfl,_,rfl,c,_,rfl,sd (Same.refl _),(λh=>absurd h.1 (show ¬HT.sIx 5 0 (some 2)=0 by decide)),λt1 ht1=>?_⟩;have s2:=af (o:=.tup (dR (bQ (.make n p nm st)) (some 2) (some 4))) ht1;refine⟨_,rfl,c,_,_,_,rfl,rfl,sd s2,rfl,rfl,_,rfl,aQ ⟨_,rfl,c,_,_,_,rfl,rfl,sd s2,rfl,(show 1≤sizeLine from ao (by decide)),λt2 ht2=>?_⟩⟩;have s3:=s2.trans (af (o:=.tup [stV st]) ht2);refine⟨t1,t2,[.int p,.str nm],[stV st],rfl,rfl,SqT.of (aT ht2 ac),SqT.of ac,by simp,(show 3≤sizeLine from ao (by decide)),λh=>absurd h (cons_ne_nil _ _),λ_ q hq=>?_⟩;have s4:=s3.trans (af (o:=.tup ([.int p,.str nm]++[stV st])) hq);refine⟨_,rfl,_,rfl,d,_,rfl,mv.k (k:=Sum.inl n) (s4 _ _ hd1) (ax ?_),fin st q _ s4 ac λus=>⟨λh _=>absurd h hno,λ_ hp hrise=>.made hno hF (λm hm h=>hfree m hm (λe=>hno ⟨m,hm,e⟩) h) hp hrise⟩⟩;have:=congrArg length L.book.of;unfold aU;rw[length_map]at this⊢;omega
 ·refine⟨_,rfl,_,rfl,_,rfl,c,_,rfl,sd (Same.refl _),(λh=>absurd h.1 (show ¬HT.sIx 4 0 (some 2)=0 by decide)),λt1 ht1=>?_⟩;have s2:=af (o:=.tup (dR (bQ (.move n p nm)) (some 2) (some 4))) ht1;obtain⟨m,hm,em⟩:=id hh;obtain⟨z,hz,rfl⟩:=fo hm;obtain⟨b,hb1,hb2⟩:=(L.same s2).book.get hnd hz;rw[em]at hb1;refine⟨_,rfl,c,_,_,_,rfl,rfl,sd s2,rfl,rfl,_,rfl,aI ⟨_,rfl,_,rfl,d,_,rfl,hb1,b,_,_,_,rfl,rfl,SqT.of hb2,yS z.2,(show 1≤sizeLine from ao (by decide)),λt2 ht2=>?_⟩⟩;have s3:=s2.trans (af (o:=.tup [stV z.2.st]) ht2);refine⟨t1,t2,[.int p,.str nm],[stV z.2.st],rfl,rfl,SqT.of (aT ht2 ac),SqT.of ac,by simp,(show 3≤sizeLine from ao (by decide)),λh=>absurd h (cons_ne_nil _ _),λ_ q hq=>?_⟩;have s4:=s3.trans (af (o:=.tup ([.int p,.str nm]++[stV z.2.st])) hq);refine⟨_,rfl,_,rfl,d,_,rfl,mv.k (k:=Sum.inl n) (s4 _ _ hd1) (ax ?_),fin z.2.st q _ s4 ac λus=>⟨λ_ e=>by rw[e];exact .moved hm em hF (hi ⟨_,rfl⟩) hfree,λh=>absurd hh h⟩⟩;have:=congrArg length L.book.of;unfold aU;rw[length_map]at this⊢;omega
theorem vM(hr:Room 1 (A.deeper (PyProof.Rows.envOfC "_law_done" (ai cn) s.heap.objs.size f cdv))):
  ∃t,PS (DX P w K mg base f cdv A outer s H0 E) (elS 4) t∧∀(D:Ends)(H:Hp)(a c d:Addr)(dd:TW.Deed Str)(n p:Int)(nm:Str)(as:List (Addr×(Addr×Nd)))(zs:ZN)(x4:Option V),LD H0 H a c d dd as zs→H d=some (.dK (aU as))→kh (nds zs) dd n p nm →
   (∀H',Same H0 H'→(∃m∈nds zs,m.num≠n∧m.par=p∧m.nm=nm)→D.rt (.str "taken") H') →
   (∀o H',LD H0 H' a c d dd as zs→H' d=some (.frz o (.dK (aU as)))→(∀m∈nds zs,m.num≠n→¬(m.par=p∧m.nm=nm))→D.nx [some (.ref a),some (.ref c),some (.ref d),some (.int n),x4] H') →
   t D [some (.ref a),some (.ref c),some (.ref d),some (.int n),x4] H:=by
 refine⟨_,aP (am (qb (bi hr)) (cu fe (pv 1) (cp ah) (cp ah)) (iE (N:=["_law_one","_law_book_here","_law_number"]) (cl:=[("_law_number",s.heap.objs.size+2),("_law_book_here",s.heap.objs.size+1)]) (k:=1) (js:=[2,3]) (g:=bj 0) rfl
    (LcOk.mk' ["_law_number","_law_book_here"] rfl rfl (by decide +kernel) (by decide +kernel) ?hcl rfl (by decide +kernel)) rfl ?hj (xU (pv 2)) (λs H fp=>aE (i:=0) (show(["_law_one","_law_book_here","_law_number"]:List Str).Nodup by decide +kernel) rfl (Or.inl rfl) (Or.inr rfl))
    (λs H fp=>am eX (pv 0) (pv 2) (aw _)) (λs H fp=>cu (r:=tR K) fe (cS (bi hr) (pv 1) (pv 0) (λ_ _=>rfl)) eM (cp ah))) rfl) (ak (av aY)) ay,?_⟩
 case hcl =>
  intro y hy;rcases mem_cons.mp hy with e|hy
  ·rw[e];rfl
  ·rcases mem_cons.mp hy with e|hy
   ·rw[e];rfl
   ·cases hy
 case hj =>
  intro i j x h1 h2
  match i,h1,h2 with
  |0,h1,h2 =>
   cases h1;cases h2;exact⟨rfl,Or.inr (Or.inl rfl),(show((ai cn).names.lookup ("_law_book_here":Str)≠some NameKind.local)by decide +kernel),by first|exact Or.inl rfl|exact Or.inr rfl⟩
  |1,h1,h2 =>
   cases h1;cases h2;exact⟨rfl,Or.inr (Or.inl rfl),(show((ai cn).names.lookup ("_law_number":Str)≠some NameKind.local)by decide +kernel),by first|exact Or.inl rfl|exact Or.inr rfl⟩
  |i+2,h1,h2=>simp at h1
 intro D H a c d dd n p nm as zs x4 L hd mm qt qn;have hT:=L.tre.tr;have hnd:=bX hT;have hlen:=L.tre.len;have ecut:dR (bQ dd) (some 2) (some 4)=[Sum.inl p,Sum.inr nm].map kV:=by rcases mm with⟨st,rfl,_⟩|⟨rfl,_⟩<;>rfl
 have nw:¬(HT.sIx (bQ dd).length 0 (some 2)=0∧HT.sIx (bQ dd).length (bQ dd).length (some 4)=(bQ dd).length):=by
  rcases mm with⟨st,rfl,_⟩|⟨rfl,_⟩
  ·exact λh=>absurd h.1 (show ¬HT.sIx 5 0 (some 2)=0 by decide)
  ·exact λh=>absurd h.1 (show ¬HT.sIx 4 0 (some 2)=0 by decide)
 refine⟨_,rfl,_,rfl,_,rfl,c,_,rfl,SqT.of L.deed,nw,λt1 ht1=>?_⟩;have s1:=af (o:=.tup (dR (bQ dd) (some 2) (some 4))) ht1;have g1:upd H t1 (.tup (dR (bQ dd) (some 2) (some 4))) t1=some (.tup ([Sum.inl p,Sum.inr nm].map kV)):=by rw[ac,ecut]
 have L1:=L.same s1;have hd1:=s1 _ _ hd;generalize upd H t1 (.tup (dR (bQ dd) (some 2) (some 4)))=H1 at L1 g1 hd1⊢;refine⟨_,rfl,d,_,rfl,hd1,λo p1 hp1=>?_⟩;have L2:=L1.turn (u:=.frz o (.dK (aU as))) (.inr ⟨o,ac⟩);have g2:upd H1 d (.frz o (.dK (aU as))) t1=some (.tup ([Sum.inl p,Sum.inr nm].map kV)):=by rw[aj (vL g1 L1.book.dict)];exact g1
 have hd2:upd H1 d (.frz o (.dK (aU as))) d=some (.frz o (.dK (aU as))):=ac;generalize upd H1 d (.frz o (.dK (aU as)))=H2 at L2 g2 hd2 hp1⊢;have eb:(as.map λa=>(a.1,a.2.2)).map (·.2)=nds zs:=by rw[←L.book.of];unfold nds;rw[map_map,map_map];rfl
 have hbl:(as.map λa=>(a.1,a.2.2)).length=zs.length:=by rw[←L.book.of,length_map,length_map]
 have hbn:((as.map λa=>(a.1,a.2.2)).map (·.2.num)).Nodup:=by
  have:(as.map λa=>(a.1,a.2.2)).map (·.2.num)=(nds zs).map (·.num):=by rw[←eb];simp only[map_map];rfl
  rw[this];exact hnd
 have hba:∀b∈as.map (λa=>(a.1,a.2.2)),H2 b.1=some (.tup (aN b.2)):=λb hb=>by
  obtain⟨x,hx,rfl⟩:=mem_map.mp hb;exact L2.book.at' x hx
 rw[nh]at hd2⊢;rw[kg];have hkeep:aU as=bw (as.map λa=>(a.1,a.2.2)):=nh as;generalize as.map (λa=>(a.1,a.2.2))=bs at eb hbl hbn hba hd2 hkeep⊢;refine iN (fr:=[some (.ref d),some (.int n)]) bs (λb=>V.int b.2.num) (by omega) hp1 (oR hd2) rfl (λb=>!decide (V.int b.2.num=V.int n)) (λb y H'=>∃q,y=.ref q∧q≠p1∧H' q=some (.tup ((plK b.2).map kV))) (λb y H H' ⟨q,e,ne,h⟩ ex=>⟨q,e,ne,ex q _ ne h⟩) (λb H' k mb s3 _ hk=>?_) (λb H' k mb _ s3 hpl hk=>?_) (λys H3 s3 hp3 hys=>?_)
 ·exact⟨_,rfl,_,rfl,rfl,_,rfl,hk H' (Same.refl _)⟩
 ·refine⟨_,rfl,_,rfl,d,_,rfl,.inl ⟨bw bs,Sum.inl b.2.num,.inr ⟨o,s3 _ _ hd2⟩,rfl,(iP hbn mb).symm⟩,_,rfl,b.1,_,rfl,SqT.of (s3 _ _ (hba b mb)),(λh=>absurd h.2 (show ¬HT.sIx 3 3 (some 2)=3 by decide)),λq hq=>?_⟩;exact hk _ _ (af hq) ⟨q,rfl,dj hpl hq,ac⟩
 ·obtain⟨cs,e1,e2,e3⟩:=cP (val:=V.ref) (S:=λ(b:Addr×Nd) (q:Addr)=>H3 q=some (.tup ((plK b.2).map kV))) hys (λb y _ ⟨q,e,_,h⟩=>⟨q,e,h⟩);refine⟨t1,p1,_,cs.map λx=>(x.2,plK x.1.2),rfl,s3 _ _ g2,rfl,SqL.of (by rw[hp3,e2,map_map,map_map];rfl),λy hy=>?_,_,rfl,?_⟩
  ·obtain⟨x,hx,rfl⟩:=mem_map.mp hy;exact e3 x hx
  ·have L3:=L2.same s3;cases ha:((cs.map λx=>(x.2,plK x.1.2)).any λz=>decide (z.2=[Sum.inl p,Sum.inr nm]))with
   |true =>
    refine aQ (qt H3 L3.s0 ?_);obtain⟨y,hy,e⟩:=any_eq_true.mp ha;obtain⟨x,hx,rfl⟩:=mem_map.mp hy;have mx:x.1∈bs.filter λb=>!decide (V.int b.2.num=V.int n):=by rw[←e1];exact mem_map.mpr ⟨x,hx,rfl⟩
    obtain⟨mx1,mx2⟩:=mem_filter.mp mx;have e':plK x.1.2=[Sum.inl p,Sum.inr nm]:=by simpa using e
    have hp:x.1.2.par=p∧x.1.2.nm=nm:=by
     unfold plK at e';injection e' with q1 q2
     injection q2 with q2 _
     injection q1 with q1
     injection q2 with q2
     exact⟨q1,q2⟩
    refine⟨x.1.2,by rw[←eb];exact mem_map.mpr ⟨x.1,mx1,rfl⟩,λe=>?_,hp⟩;simp[e]at mx2
   |false =>
    refine aI (qn o H3 L3 (by rw[hkeep];exact s3 _ _ hd2) λm hm hne h=>?_);rw[←eb]at hm;obtain⟨b,hb,rfl⟩:=mem_map.mp hm;have mb:b∈bs.filter λb=>!decide (V.int b.2.num=V.int n):=mem_filter.mpr ⟨hb,by simp[hne]⟩;rw[←e1]at mb;obtain⟨x,hx,ex⟩:=mem_map.mp mb;have:((cs.map λx=>(x.2,plK x.1.2)).any λz=>decide (z.2=[Sum.inl p,Sum.inr nm]))=true:=any_eq_true.mpr ⟨_,mem_map.mpr ⟨x,hx,rfl⟩,by
     rw[decide_eq_true_eq];show plK x.1.2=_;rw[ex];unfold plK;rw[h.1,h.2]⟩
    rw[ha]at this;cases this
theorem sZ(hr:Room 1 (A.deeper (PyProof.Rows.envOfC "_law_done" (ai cn) s.heap.objs.size f cdv)))(CU:Has P w K mg base 1 "_law_under" ["_law_book_here","_law_number","_law_goal"] kX):
  ∃t,PS (DX P w K mg base f cdv A outer s H0 E) (elS 3) t∧∀(D:Ends)(H:Hp)(a c d:Addr)(dd:TW.Deed Str)(n p:Int)(nm:Str)(as:List (Addr×(Addr×Nd)))(zs:ZN),LD H0 H a c d dd as zs→kh (nds zs) dd n p nm→TW.ig (nds zs) p→1≤n →
   (dd=.move n p nm→p≠0→TW.Und (nds zs) n p→D.rt (.str "inside") H)→(NotIn (nds zs) dd n p→D.nx [some (.ref a),some (.ref c),some (.ref d),some (.int n),some (.int p)] H) →
   t D [some (.ref a),some (.ref c),some (.ref d),some (.int n),some (.int p)] H:=by
 obtain⟨fU,fdU,GU,mU,kU,bU⟩:=CU;refine⟨_,aP (PW.pt (pw_and (am cD (au ar (pv 1) ah (λ_ _=>rfl)) aY (aw _)) (pw_and (am eX (pv 4) ah (aw _)) (pw_and1 (db (al GU hr rfl mU kU bU .nil aF (aa (pv 2) (aa (pv 4) (aa (pv 3) ae)))) (λ_=>rfl)))))) (ak (av aY)) ay,?_⟩;intro D H a c d dd n p nm as zs L mm hF hn1 q1 q2;have sd:SqT K H c (bQ dd):=SqT.of L.deed;rcases mm with⟨st,rfl,hno⟩|⟨rfl,hh⟩
 ·exact⟨_,rfl,c,_,_,_,rfl,rfl,sd,rfl,rfl,_,rfl,aI (aI (q2 λ⟨_,e⟩=>by cases e))⟩
 ·refine⟨_,rfl,c,_,_,_,rfl,rfl,sd,rfl,rfl,_,rfl,aQ ⟨_,rfl,rfl,_,rfl,?_⟩⟩
  by_cases hp0:p=0
  ·have e1:(!decide (V.int p=V.int 0))=false:=by simp[hp0]
   rw[e1];exact aI (aI (q2 λ_ h=>absurd hp0 h))
  ·have e1:(!decide (V.int p=V.int 0))=true:=by simp[hp0]
   rw[e1];rcases hF with e|⟨m,hm,_,em⟩
   ·exact absurd e hp0
   ·obtain⟨pa,hpa⟩:=TW.PathTo.ex L.tre.tr hm;rw[em]at hpa;refine aQ ⟨_,rfl,_,rfl,_,rfl,d,p,n,as,zs,pa,rfl,L.book,L.tre.tr,hpa,hn1,λb hb=>⟨b,rfl,?_⟩⟩;cases b with
    |true=>exact aQ (q1 rfl hp0 (hb.mp rfl))
    |false=>exact aI (q2 λ_ _ hu=>by have:=hb.mpr hu;cases this)
theorem xz(hr:Room 1 (A.deeper (PyProof.Rows.envOfC "_law_done" (ai cn) s.heap.objs.size f cdv)))(CU:Has P w K mg base 1 "_law_under" ["_law_book_here","_law_number","_law_goal"] kX):
  ∃t,PSs (DX P w K mg base f cdv A outer s H0 E) xY t∧∀(D:Ends)(H:Hp)(a c d:Addr)(dd:TW.Deed Str)(n p:Int)(nm:Str)(as:List (Addr×(Addr×Nd)))(zs:ZN),LD H0 H a c d dd as zs→H d=some (.dK (aU as))→kh (nds zs) dd n p nm→1≤n →
   (∀wd H',Same H0 H'→TW.Told (nds zs) dd (.inl wd)→D.rt (.str (uR wd)) H') →
   (∀x4 bs H',Same H0 H'→H' d=some (.dK (bw bs))→(∀b∈bs,H' b.1=some (.tup (aN b.2)))→(bs.map (·.2.num)).Nodup→bs.length≤zs.length+1→(∀us,us.Perm (bs.map (·.2))→TW.cb us→TW.Told (nds zs) dd (.inr us))→D.nx [some (.ref a),some (.ref c),some (.ref d),some (.int n),x4] H') →
   t D [some (.ref a),some (.ref c),some (.ref d),some (.int n),none] H:=by
 obtain⟨t3,p3,h3⟩:=sZ (f:=f) (cdv:=cdv) (outer:=outer) (H0:=H0) (E:=E) hr CU;obtain⟨t4,p4,h4⟩:=vM (P:=P) (w:=w) (mg:=mg) (base:=base) (K:=K) (f:=f) (cdv:=cdv) (outer:=outer) (H0:=H0) (E:=E) hr;obtain⟨t5,p5,h5⟩:=zx (P:=P) (w:=w) (mg:=mg) (base:=base) (K:=K) (f:=f) (cdv:=cdv) (outer:=outer) (H0:=H0) (E:=E) hr;refine⟨_,ag (aA (i:=4) jt.nd rfl (Or.inl rfl) (au ar (pv 1) ah (λ_ _=>rfl)))
  (ag (aP (PW.pt (pw_and (am eX (pv 4) ah (aw _)) (pw_and1 (fc (gh (bi hr) (pv 4) (pv 2)))))) (ak (av aY)) ay)
  (ag (aP (PW.pt (pw_and (am eX (pv 4) ah (aw _)) (pw_and1 (am lZ (au ar (cS (bi hr) (pv 2) (pv 4) (λ_ _=>rfl)) ah (λ_ _=>rfl)) cM (aw _))))) (ak (av aY)) ay)
  (ag p3 (ag p4 (ak p5))))),?_⟩
 intro D H a c d dd n p nm as zs L hd mm hn1 qw qn;have hT:=L.tre.tr;have hnd:=bX hT;have a2:atI (bQ dd) 2=some (.int p):=by rcases mm with⟨st,rfl,_⟩|⟨rfl,_⟩<;>rfl
 have rest:TW.ig (nds zs) p→rY t3 (rY t4 t5) D [some (.ref a),some (.ref c),some (.ref d),some (.int n),some (.int p)] H:=λhF=>by
  refine h3 _ H a c d dd n p nm as zs L mm hF hn1 (λe h0 hu=>?_) λhi=>?_
  ·subst e;rcases mm with⟨st,e,_⟩|⟨_,hh⟩
   ·cases e
   ·exact qw .inside H L.s0 (.vIn hh hF h0 hu)
  ·refine h4 _ H a c d dd n p nm as zs _ L hd mm (λH' s' ⟨m,hm,h1,h2,h3⟩=>qw .taken H' s' (mm.taken hF hi hm h1 h2 h3)) λo H' L' hd' hfree=>?_;exact h5 _ H' a c d dd n p nm as zs _ o L' hd' mm hF hi hfree λbs H2 e1 e2 e3 e4 e5 e6=>qn _ bs H2 e1 e2 e3 e4 e5 e6
 refine⟨_,rfl,c,_,_,_,rfl,rfl,SqT.of L.deed,a2,?_⟩;refine⟨_,rfl,rfl,_,rfl,?_⟩
 by_cases hp0:p=0
 ·have e1:(!decide (V.int p=V.int 0))=false:=by simp[hp0]
  rw[e1];refine aI (aI ⟨_,rfl,rfl,_,rfl,?_⟩);rw[e1];exact aI (aI (rest (.inl hp0)))
 ·have e1:(!decide (V.int p=V.int 0))=true:=by simp[hp0]
  rw[e1]
  by_cases hh:∃z∈zs,z.2.num=p
  ·obtain⟨z,hz,ez⟩:=hh;obtain⟨b,hb1,hb2⟩:=L.book.get hnd hz;rw[ez]at hb1;refine aQ ⟨_,rfl,_,rfl,d,_,rfl,hb1,_,rfl,aI ⟨_,rfl,rfl,_,rfl,?_⟩⟩;rw[e1];refine aQ ⟨_,rfl,_,rfl,d,_,rfl,hb1,b,_,_,_,rfl,rfl,SqT.of hb2,yS z.2,rfl,_,rfl,?_⟩;rw[rF];cases hs:z.2.st with
   |none=>exact aI (rest (.inr ⟨z.2,bY hz,hs,ez⟩))
   |some i=>exact aQ (qw .notFolder H L.s0 (mm.file hp0 (bY hz) ez (by rw[hs];simp)))
  ·exact aQ ⟨_,rfl,_,rfl,d,_,rfl,L.book.not (λz hz e=>hh ⟨z,hz,e⟩),_,rfl,aQ (qw .noNode H L.s0 (mm.no hp0 (cI hh)))⟩
theorem vN(hr:Room 1 (A.deeper (PyProof.Rows.envOfC "_law_done" (ai cn) s.heap.objs.size f cdv)))(CU:Has P w K mg base 1 "_law_under" ["_law_book_here","_law_number","_law_goal"] kX):
  ∃t,PS (DX P w K mg base f cdv A outer s H0 E) (ldS 5) t∧∀(D:Ends)(H:Hp)(a c d:Addr)(dd:TW.Deed Str)(n:Int)(as:List (Addr×(Addr×Nd)))(zs:ZN),LD H0 H a c d dd as zs→H d=some (.dK (aU as))→((∃st,dd=.write n st∧TW.cH (nds zs) n)∨∃p nm,kh (nds zs) dd n p nm)→1≤n →
   (∀wd H',Same H0 H'→TW.Told (nds zs) dd (.inl wd)→D.rt (.str (uR wd)) H') →
   (∀x4 bs H',Same H0 H'→H' d=some (.dK (bw bs))→(∀b∈bs,H' b.1=some (.tup (aN b.2)))→(bs.map (·.2.num)).Nodup→bs.length≤zs.length+1→(∀us,us.Perm (bs.map (·.2))→TW.cb us→TW.Told (nds zs) dd (.inr us))→D.nx [some (.ref a),some (.ref c),some (.ref d),some (.int n),x4] H') →
   t D [some (.ref a),some (.ref c),some (.ref d),some (.int n),none] H:=by
 obtain⟨te,pe,he⟩:=xz (f:=f) (cdv:=cdv) (outer:=outer) (H0:=H0) (E:=E) hr CU;refine⟨_,aP (am cD (au ar (pv 1) ah (λ_ _=>rfl)) aY (aw _))
  (ag (aP (am iy (au ar (cS (bi hr) (pv 2) (pv 3) (λ_ _=>rfl)) ah (λ_ _=>rfl)) cM (aw _)) (ak (av aY)) ay)
  (ak (jm (bi hr) (pv 2) (pv 3) (aD gU (cu fe (cS (bi hr) (pv 2) (pv 3) (λ_ _=>rfl)) eM (cp ah)) (bn (aa (au ar (pv 1) ah (λ_ _=>rfl)) ae))) rfl))) pe,?_⟩
 intro D H a c d dd n as zs L hd hdd hn1 qw qn;have hT:=L.tre.tr;have hnd:=bX hT;have hlen:=L.tre.len;have sd:SqT K H c (bQ dd):=SqT.of L.deed;rcases hdd with⟨st,rfl,m,hm,em⟩|⟨p,nm,mm⟩
 ·obtain⟨z,hz,rfl⟩:=fo hm;obtain⟨b,hb1,hb2⟩:=L.book.get hnd hz;rw[em]at hb1;refine⟨_,rfl,c,_,_,_,rfl,rfl,sd,rfl,rfl,_,rfl,aQ ⟨_,rfl,_,rfl,d,_,rfl,hb1,b,_,_,_,rfl,rfl,SqT.of hb2,yS z.2,rfl,_,rfl,?_⟩⟩;cases hs:z.2.st with
  |none=>exact aQ (qw .notFile H L.s0 (.wFold hm em hs))
  |some i =>
   refine aI ⟨_,rfl,_,rfl,d,_,rfl,hb1,_,rfl,b,_,rfl,SqT.of hb2,(λh=>absurd h.2 (show ¬HT.sIx 3 3 (some 2)=3 by decide)),λt1 ht1=>?_⟩;have s2:=af (o:=.tup (dR (aN z.2) none (some 2))) ht1;refine⟨_,rfl,c,_,_,_,rfl,rfl,SqT.of (s2 _ _ L.deed),rfl,(show 1≤sizeLine from ao (by decide)),λt2 ht2=>?_⟩;have s3:=s2.trans (af (o:=.tup [.int st]) ht2);refine⟨t1,t2,[.int z.2.par,.str z.2.nm],[.int st],rfl,rfl,SqT.of (aT ht2 ac),SqT.of ac,by simp,(show 3≤sizeLine from ao (by decide)),λh=>absurd h (cons_ne_nil _ _),λ_ q hq=>?_⟩;have s4:=s3.trans (af (o:=.tup ([.int z.2.par,.str z.2.nm]++[.int st])) hq);have hq4:upd (upd (upd H t1 (.tup (dR (aN z.2) none (some 2)))) t2 (.tup [.int st])) q (.tup ([.int z.2.par,.str z.2.nm]++[.int st])) q=some (.tup (aN ⟨n,z.2.par,z.2.nm,some st⟩)):=ac;have hbl:(aU as).length≤1000:=by
    have:=congrArg length L.book.of;unfold aU;rw[length_map]at this⊢;omega
   refine⟨_,rfl,_,rfl,d,_,rfl,mv.k (k:=Sum.inl n) (s4 _ _ hd) (ax hbl),?_⟩;have L4:=L.same s4;obtain⟨bs,e1,e2,e3,e4,e5⟩:=oU (new:=⟨n,z.2.par,z.2.nm,some st⟩) (s4 _ _ hd) L4.book.of L4.book.at' hq4 hnd;refine qn _ bs _ (aM L.d0 L4.s0) e1 e2 e3 e4 λus hp hrise=>?_;rcases e5 with⟨h1,h2⟩|⟨h1,h2⟩
   ·rw[h2]at hp;rw[TW.ka hrise (TW.ik hT.rise) hp];exact .wrote hm em (by rw[hs];simp)
   ·exact absurd ⟨z.2,hm,em⟩ h1
 ·rcases id mm with⟨st,rfl,_⟩|⟨rfl,_⟩
  ·exact⟨_,rfl,c,_,_,_,rfl,rfl,sd,rfl,rfl,_,rfl,aI (he D H a c d _ n p nm as zs L hd mm hn1 qw qn)⟩
  ·exact⟨_,rfl,c,_,_,_,rfl,rfl,sd,rfl,rfl,_,rfl,aI (he D H a c d _ n p nm as zs L hd mm hn1 qw qn)⟩
def ju:Sp:=λvs H Q _=>∃a c dd zs,vs=[.ref a,.ref c]∧Tre H a zs∧zs.length≤29∧H c=some (.tup (bQ dd))∧dX dd∧(∀us t' H',Same H H'→H' t'=some (.tup (aW us))→At H' us→TW.Told (nds zs) dd (.inr (nds us))→Q (.ref t') H')∧∀wd H',Same H H'→TW.Told (nds zs) dd (.inl wd)→Q (.str (uR wd)) H'
theorem vO{f:Addr}{fd:FuncData}(F:Fun K "_law_done" "_law_done" cn f fd)(T:Txt mg)(CK:Has P w K mg base 1 "_law_book" ["_law_tree_here"] qz)(CU:Has P w K mg base 1 "_law_under" ["_law_book_here","_law_number","_law_goal"] kX):
  FnOk P w K mg base CX0 2 f fd ["_law_tree_here","_law_deed_here"] ju:=by
 obtain⟨fK,fdK,GK,mK,kK,bK⟩:=CK;refine F.ok jt (λvs H Q E h=>?_) (λcdv A outer s H vs Q E hr h=>?_)
 ·obtain⟨a,c,dd,zs,rfl,_⟩:=h;rfl
 ·obtain⟨a,c,dd,zs,rfl,tr,hl,hc,hok,qo,qw⟩:=h;obtain⟨t4,p4,h4⟩:=xy (f:=f) (cdv:=cdv) (outer:=outer) (H0:=H) (E:=E) T hr CU;obtain⟨t5,p5,h5⟩:=vN (f:=f) (cdv:=cdv) (outer:=outer) (H0:=H) (E:=E) hr CU;obtain⟨t6,p6,h6⟩:=zw (P:=P) (w:=w) (K:=K) (mg:=mg) (base:=base) (f:=f) (cdv:=cdv) (outer:=outer) (H0:=H) (E:=E) T hr;refine⟨_,ag (aA (i:=2) jt.nd rfl (Or.inr rfl) (al GK hr rfl mK kK bK .nil aF (aa (pv 0) ae)))
   (ag (aA (i:=3) jt.nd rfl (Or.inr rfl) (au ar (pv 1) ah (λ_ _=>rfl)))
   (ag (aP (PW.pt (pw_and (am cD (au ar (pv 1) ah (λ_ _=>rfl)) aY (aw _)) (pw_and1 (fc (my (bi hr) (pv 3) (pv 2)))))) (ak (av aY)) ay)
   (ag (aP (PW.pt (pw_and (am eX (au ar (pv 1) ah (λ_ _=>rfl)) aY (aw _)) (pw_and1 (fc (gh (bi hr) (pv 3) (pv 2)))))) (ak (av aY)) ay)
   (ag p4 (ag p5 (ak p6)))))),?_⟩
  refine⟨_,rfl,a,zs,rfl,tr,λd as H1 s1 d0 bk hd=>?_⟩;have L:LD H H1 a c d dd as zs:=⟨s1,d0,tr.same s1,s1 _ _ hc,bk⟩;have hnd:=bX tr.tr;have sd:SqT K H1 c (bQ dd):=SqT.of L.deed;have last:∀x4 n bs H',Same H H'→H' d=some (.dK (bw bs))→(∀b∈bs,H' b.1=some (.tup (aN b.2)))→(bs.map (·.2.num)).Nodup→bs.length≤zs.length+1→(∀us,us.Perm (bs.map (·.2))→TW.cb us→TW.Told (nds zs) dd (.inr us)) →
    t6 {nx:=λ_ H'=>Q .non H',rt:=Q} [some (.ref a),some (.ref c),some (.ref d),some (.int n),x4] H':=λx4 n bs H' s' e1 e2 e3 e4 e5 =>
   h6 _ H' _ _ _ _ _ d bs rfl e1 e2 e3 (by omega) λo us t' H2 s2 ht' hA' hp hrise=>qo us t' H2 ((aM d0 s').trans s2) ht' hA' (e5 _ hp hrise)
  cases dd with
  |make n p nm st =>
   refine⟨_,rfl,c,_,_,_,rfl,rfl,sd,rfl,_,rfl,c,_,_,_,rfl,rfl,sd,rfl,rfl,_,rfl,aQ ?_⟩
   by_cases hh:∃z∈zs,z.2.num=n
   ·obtain⟨z,hz,ez⟩:=hh;obtain⟨b,hb1,_⟩:=L.book.get hnd hz;rw[ez]at hb1;exact⟨_,rfl,_,rfl,d,_,rfl,hb1,_,rfl,aQ (qw .known H1 s1 (.mKnown (eF hz ez)))⟩
   ·refine⟨_,rfl,_,rfl,d,_,rfl,L.book.not (λz hz e=>hh ⟨z,hz,e⟩),_,rfl,aI ?_⟩;refine⟨_,rfl,c,_,_,_,rfl,rfl,sd,rfl,rfl,_,rfl,aI (aI ?_)⟩;refine h4 _ H1 _ a c d _ n as zs rfl L.tre L.deed bk hok.1 (λ⟨k,e⟩=>by cases e) λ_=>?_;exact h5 _ H1 a c d _ n as zs L hd (.inr ⟨p,nm,.inl ⟨st,rfl,cI hh⟩⟩) hok.1 qw λx4 bs H'=>last x4 n bs H'
  |write n st =>
   refine⟨_,rfl,c,_,_,_,rfl,rfl,sd,rfl,_,rfl,c,_,_,_,rfl,rfl,sd,rfl,rfl,_,rfl,aI (aI ?_)⟩;refine⟨_,rfl,c,_,_,_,rfl,rfl,sd,rfl,rfl,_,rfl,aQ ?_⟩
   by_cases hh:∃z∈zs,z.2.num=n
   ·obtain⟨z,hz,ez⟩:=hh;obtain⟨b,hb1,_⟩:=L.book.get hnd hz;rw[ez]at hb1;refine⟨_,rfl,_,rfl,d,_,rfl,hb1,_,rfl,aI ?_⟩;refine h4 _ H1 _ a c d _ n as zs rfl L.tre L.deed bk hok.1 (λ⟨k,e⟩=>by cases e) λ_=>?_;exact h5 _ H1 a c d _ n as zs L hd (.inl ⟨st,rfl,eF hz ez⟩) hok.1 qw λx4 bs H'=>last x4 n bs H'
   ·exact⟨_,rfl,_,rfl,d,_,rfl,L.book.not (λz hz e=>hh ⟨z,hz,e⟩),_,rfl,aQ (qw .noNode H1 s1 (.wNo (cI hh)))⟩
  |move n p nm =>
   refine⟨_,rfl,c,_,_,_,rfl,rfl,sd,rfl,_,rfl,c,_,_,_,rfl,rfl,sd,rfl,rfl,_,rfl,aI (aI ?_)⟩;refine⟨_,rfl,c,_,_,_,rfl,rfl,sd,rfl,rfl,_,rfl,aQ ?_⟩
   by_cases hh:∃z∈zs,z.2.num=n
   ·obtain⟨z,hz,ez⟩:=hh;obtain⟨b,hb1,_⟩:=L.book.get hnd hz;rw[ez]at hb1;refine⟨_,rfl,_,rfl,d,_,rfl,hb1,_,rfl,aI ?_⟩;refine h4 _ H1 _ a c d _ n as zs rfl L.tre L.deed bk hok.1 (λ⟨k,e⟩=>by cases e) λ_=>?_;exact h5 _ H1 a c d _ n as zs L hd (.inr ⟨p,nm,.inr ⟨rfl,eF hz ez⟩⟩) hok.1 qw λx4 bs H'=>last x4 n bs H'
   ·exact⟨_,rfl,_,rfl,d,_,rfl,L.book.not (λz hz e=>hh ⟨z,hz,e⟩),_,rfl,aQ (qw .noNode H1 s1 (.vNo (cI hh)))⟩
  |drop n =>
   refine⟨_,rfl,c,_,_,_,rfl,rfl,sd,rfl,_,rfl,c,_,_,_,rfl,rfl,sd,rfl,rfl,_,rfl,aI (aI ?_)⟩;refine⟨_,rfl,c,_,_,_,rfl,rfl,sd,rfl,rfl,_,rfl,aQ ?_⟩
   by_cases hh:∃z∈zs,z.2.num=n
   ·obtain⟨z,hz,ez⟩:=hh;obtain⟨b,hb1,_⟩:=L.book.get hnd hz;rw[ez]at hb1;refine⟨_,rfl,_,rfl,d,_,rfl,hb1,_,rfl,aI ?_⟩;refine h4 _ H1 _ a c d _ n as zs rfl L.tre L.deed bk hok.1 (λ_ us t' H' g s2 ht' hA' e hg=>qo us t' H' (s1.trans s2) ht' hA' ?_) λh=>absurd ⟨n,rfl⟩ h;rw[e];exact .dropped (eF hz ez) hg
   ·exact⟨_,rfl,_,rfl,d,_,rfl,L.book.not (λz hz e=>hh ⟨z,hz,e⟩),_,rfl,aQ (qw .noNode H1 s1 (.dNo (cI hh)))⟩
def qA(K:PySem.W.Frag):Sp:=λvs H Q _=>∃a k,vs=[.ref a,.int k]∧0≤k∧eZ K H a∧∀r H',Same H H'→Q (.int r) H'
theorem zy:FnScope ["_law_script","_law_k"] ["_law_script","_law_k"] (ai va):=fsc
theorem xA{f:Addr}{fd:FuncData}(F:Fun K "_law_cell" "_law_cell" va f fd)(T:Txt mg):FnOk P w K mg base CX0 1 f fd ["_law_script","_law_k"] (qA K):=by
 refine F.ok zy (λvs H Q E h=>?_) (λcdv A outer s H vs Q E hr h=>?_)
 ·obtain⟨a,k,rfl,_⟩:=h;rfl
 ·obtain⟨a,k,rfl,hk,⟨ns,ea⟩,q⟩:=h;refine⟨_,ag (aP (am jz (pv 1) (aB aK rfl T.len boot_len (aa (pv 0) ae)) (aw _)) (ak (av (au bg (pv 0) (pv 1) (λ_ _=>rfl)))) ay)
   (ag (aP (am (gL hr.units0) (pv 0) (bu ae) (aw _)) (ak (av ah)) ay)
   (ak (av (aD aZ (aD de (au bg (pv 0) (aD lX (pv 1) (aB aK rfl T.len boot_len (aa (pv 0) ae))) (λ_ _=>rfl)) ah) (pv 1))))),?_⟩
  refine⟨_,rfl,_,rfl,a,_,rfl,.inl (ea),_,_,rfl,rfl,_,rfl,?_⟩;rw[length_map]
  by_cases h:k<(ns.length:Int)
  ·rw[decide_eq_true h];obtain⟨j,ej⟩:=oT hk h;exact aQ ⟨_,rfl,_,rfl,a,_,_,_,rfl,rfl,ea,ej,q _ _ (Same.refl _)⟩
  ·rw[decide_eq_false h];refine aI ⟨_,rfl,zero_le _,λp hp=>⟨a,p,_,rfl,rfl,((af hp).seq ea),SqL.of ac,_,rfl,?_⟩⟩
   by_cases h0:ns=[]
   ·subst h0;exact aQ (q _ _ (af hp))
   ·have hne:¬ns.map V.int=[]:=by simpa using h0
    rw[decide_eq_false hne];have hpos:0<ns.length:=List.length_pos_iff.mpr h0;have hm1:0≤k % (ns.length:Int):=emod_nonneg _ (by omega);have hm2:k % (ns.length:Int)<ns.length:=Int.emod_lt_of_pos _ (by omega);obtain⟨j,ej⟩:=oT hm1 hm2;have ej':atI (ns.map V.int) (k % ((ns.map V.int).length:Int))=some (.int j):=by rw[length_map];exact ej
    exact aI ⟨_,rfl,_,rfl,_,rfl,a,_,rfl,.inl (((af hp).seq ea)),_,_,rfl,rfl,by rw[length_map];omega,a,_,_,_,rfl,rfl,((af hp).seq ea),ej',_,_,rfl,rfl,.inr ⟨by decide,by decide⟩,_,rfl,_,_,rfl,rfl,q _ _ (af hp)⟩
def eV(K:PySem.W.Frag):Sp:=λvs H Q _=>∃a k m,vs=[.ref a,.int k,.int m]∧0≤k∧0<m∧eZ K H a∧∀r H',0≤r→r<m→Same H H'→Q (.int r) H'
theorem vP:FnScope ["_law_script","_law_k","_law_many","_law_drawn"] ["_law_script","_law_k","_law_many"] (ai vb):=fsc
theorem xB{f:Addr}{fd:FuncData}(F:Fun K "_law_pick" "_law_pick" vb f fd)(T:Txt mg)(C:Has P w K mg base 1 "_law_cell" ["_law_script","_law_k"] (qA K)):FnOk P w K mg base CX0 2 f fd ["_law_script","_law_k","_law_many"] (eV K):=by
 obtain⟨fC,fdC,GC,mC,kC,bC⟩:=C;refine F.ok vP (λvs H Q E h=>?_) (λcdv A outer s H vs Q E hr h=>?_)
 ·obtain⟨a,k,m,rfl,_⟩:=h;rfl
 ·obtain⟨a,k,m,rfl,hk,hm,hS,q⟩:=h;refine⟨_,(ag (aA (i:=3) vP.nd rfl (Or.inl rfl) (aD lX (aD de (aD aZ (al GC hr rfl mC kC bC .nil aF (aa (pv 0) (aa (pv 1) ae))) (aD de ah (aD aZ (pv 1) ah))) ah) ah))
   (ak (av (aD lX (aD lX (aD aZ (aD de (pv 3) (pv 3)) (aD qI (pv 3) ah)) ah) (pv 2))))),?_⟩
  refine⟨_,rfl,_,rfl,a,k,rfl,hk,hS,λr H1 s1=>?_⟩;refine⟨_,rfl,_,_,rfl,rfl,_,_,rfl,rfl,.inl ⟨by decide,by decide⟩,_,_,rfl,rfl,_,_,rfl,rfl,.inr ⟨by decide,by decide⟩,_,_,rfl,rfl,(by decide:(0:Int)<2147483399),?_⟩;generalize hd:(r+6151*(k+1))*40692 % 2147483399=dr;have d0:0≤dr:=by rw[←hd];exact emod_nonneg _ (by decide)
  have d1:dr<2147483399:=by rw[←hd];exact Int.emod_lt_of_pos _ (by decide)
  refine⟨_,rfl,_,rfl,_,_,rfl,rfl,.inl ⟨by omega,by omega⟩,_,rfl,_,_,rfl,rfl,⟨by decide,by decide⟩,_,_,rfl,rfl,_,_,rfl,rfl,(by decide:(0:Int)<2147483629),_,rfl,_,_,rfl,rfl,hm,?_⟩;exact q _ _ (emod_nonneg _ (by omega)) (Int.emod_lt_of_pos _ hm) s1
def nH(K:PySem.W.Frag):Sp:=λvs H Q _=>∃a at' m,vs=[.ref a,.int at',.int m]∧0≤at'∧0≤m∧m≤9∧eZ K H a∧∀t zs H',H' t=some (.tup (aW zs))→At H' zs→(zs.length:Int)≤m→TW.Tree (nds zs)→(∀z∈zs,wR z.2)→Same H H'→Q (.ref t) H'
theorem scB:FnScope ["_law_script","_law_at","_law_most","_law_left","_law_folders","_law_nodes","_law_k","_law_number","_law_parent","_law_name","_law_stamp"] ["_law_script","_law_at","_law_most"] (ai iQ):=fsc
def buS(i:Nat):Stmt:=match (br iQ).getD 3 (.Pass ⟨0,0,0,0⟩)with
 |.For _ _ b _ _=>b.getD i (.Pass ⟨0,0,0,0⟩)
 |x=>x
abbrev BX(P:Program)(w:World)(K:PySem.W.Frag)(mg:Str→Option Value)(base:Heap)(f:Addr)(cdv:Value)(A:Around)(outer:List Env)(s:Shared)(H:Hp)(E:XK):Cx:=(gF CX0 P w K mg base ["_law_script","_law_at","_law_most","_law_left","_law_folders","_law_nodes","_law_k","_law_number","_law_parent","_law_name","_law_stamp"] "_law_tree" (ai iQ) f cdv A outer s H E).nox
theorem Av{f:Addr}{cdv:Value}{A:Around}{outer:List Env}{s:Shared}{H0:Hp}{E:XK}(hr:Room 2 (A.deeper (PyProof.Rows.envOfC "_law_tree" (ai iQ) s.heap.objs.size f cdv))):
  ∃t,PS (BX P w K mg base f cdv A outer s H0 E) (buS 5) t∧∀(D:Ends)(H H6:Hp)(pl pf pn:Addr)(x0 x1 x2 x6:Option V)(lf:List Int)(zs:ZN)(num par:Int)(nm:Str)(st:Option Int),Sta H pl pf pn H6 lf (0::TW.aR (nds zs)) zs→zs.length≤20 →
   (∀H',Sta H pl pf pn H' lf (0::TW.aR (nds zs)) zs→D.nx [x0,x1,x2,some (.ref pl),some (.ref pf),some (.ref pn),x6,some (.int num),some (.int par),some (.str nm),some (stV st)] H') →
   (∀q H',(∀z∈zs,¬(z.2.par=par∧z.2.nm=nm))→Sta H pl pf pn H' lf (0::TW.aR (nds (zs++[(q,⟨num,par,nm,st⟩)]))) (zs++[(q,⟨num,par,nm,st⟩)])→D.nx [x0,x1,x2,some (.ref pl),some (.ref pf),some (.ref pn),x6,some (.int num),some (.int par),some (.str nm),some (stV st)] H') →
   t D [x0,x1,x2,some (.ref pl),some (.ref pf),some (.ref pn),x6,some (.int num),some (.int par),some (.str nm),some (stV st)] H6:=by
 refine⟨_,aP (am (la (bi hr)) (bn (aa (pv 8) (aa (pv 9) ae))) (dA (N:=["_law_node"]) (k:=1) (js:=[]) (g:=bj 0) rfl (cF rfl (by decide +kernel) (by decide +kernel) (by decide +kernel)) rfl (λi j x h=>by simp at h)
     (cR (pv 5)) (λs H fp=>aE (i:=0) (show(["_law_node"]:List Str).Nodup by decide +kernel) rfl (Or.inl rfl) (Or.inr rfl))
     (λs H fp=>cu (r:=tR K) fe (pv 0) (cp ah) (cp ah))) rfl) (ag (bq (eY plainAttrs_list PySem.F.slot_list_append PySem.F.type_list_append bv (pv 5) (aa (bn (aa (pv 7) (aa (pv 8) (aa (pv 9) (aa (pv 10) ae))))) ae))) (ak (aP (am iy (pv 10) cM (aw _)) (ak (bq (eY plainAttrs_list PySem.F.slot_list_append PySem.F.type_list_append bv (pv 4) (aa (pv 7) ae)))) ay))) ay,?_⟩
 intro D H H6 pl pf pn x0 x1 x2 x6 lf zs num par nm st A6 hzl qs qa;refine⟨_,rfl,_,rfl,le2,λq0 hq0=>?_⟩;have A7:=A6.grow (af (o:=.tup [.int par,.str nm]) hq0);have eq0:(upd H6 q0 (.tup [.int par,.str nm])) q0=some (.tup ([Sum.inl par,Sum.inr nm].map kV)):=ac;refine⟨_,rfl,pn,rfl,⟨_,SqL.of A7.n⟩,λp hp=>?_⟩;generalize upd H6 q0 (.tup [.int par,.str nm])=H7 at A7 eq0 hp⊢;refine oO (k:=1) (js:=[]) (J:=Itl K pn) (p:=p) zs.length (by omega) (λi ys σ' H'=>∃kss:List (Addr×List Key),ys=(kss.map (·.1)).map V.ref∧kss.map (·.2)=((nds zs).take i).map plK∧kss.length=i∧(∀z∈kss,H' z.1=some (.tup (z.2.map kV)))∧σ'.length=1∧Same H7 H'∧H' p=some (.lst ys))
  ⟨[],rfl,rfl,rfl,by simp,rfl,af hp,ac⟩ (λi ys σ' H' h=>?_) (λi ys σ' H' hi h=>?_) (λys σ' H' h=>?_) (λi ys σ' H' hi h v H2 hy=>?_) ?_ ?_
 ·obtain⟨kss,rfl,_,e,_⟩:=h;rw[length_map,length_map];omega
 ·obtain⟨_,_,_,_,_,_,s2,_⟩:=h;exact⟨_,_,SqL.of (s2 _ _ A7.n),dD (getElem?_eq_getElem hi)⟩
 ·obtain⟨kss,e1,e2,e3,e4,_,s2,e5⟩:=h;refine⟨⟨_,SqL.of (s2 _ _ A7.n),by rw[be];exact le_refl _⟩,?_⟩;subst e1;refine⟨q0,p,_,kss,rfl,s2 _ _ eq0,rfl,SqL.of e5,e4,_,rfl,?_⟩;rw[take_of_length_le (by rw[aJ];exact le_refl _)]at e2;have A8:=A7.grow s2;cases ea:(kss.any λz=>decide (z.2=[Sum.inl par,Sum.inr nm]))with
  |true=>exact aI (qs _ A8)
  |false =>
   have ho:∀z∈zs,¬(z.2.par=par∧z.2.nm=nm):=λz hz ⟨h1,h2⟩=>by
    have m1:plK z.2∈kss.map (·.2):=by rw[e2];exact mem_map.mpr ⟨z.2,mem_map.mpr ⟨z,hz,rfl⟩,rfl⟩
    obtain⟨y,hy,ey⟩:=mem_map.mp m1;have:(kss.any λz=>decide (z.2=[Sum.inl par,Sum.inr nm]))=true:=any_eq_true.mpr ⟨y,hy,by rw[decide_eq_true_eq,ey];unfold plK;rw[h1,h2]⟩;rw[ea]at this;cases this
   refine aQ ⟨_,rfl,.inl ⟨rfl,_,SqL.of A8.n⟩,_,rfl,_,rfl,_,rfl,_,rfl,(show 4≤sizeLine from ao (by decide)),λq hq=>⟨pn,_,_,rfl,rfl,aT hq A8.n,ax (by rw[be];omega),?_⟩⟩;have A9:=(A8.grow (af (o:=.tup (vals ⟨num,par,nm,st⟩)) hq)).node (n:=⟨num,par,nm,st⟩) ac;refine⟨_,rfl,rfl,_,rfl,?_⟩;cases st with
   |some i5 =>
    have ef:(0::TW.aR (nds zs))=(0:Int)::TW.aR (nds (zs++[(q,⟨num,par,nm,some i5⟩)])):=by simp[TW.aR,nds]
    rw[ef]at A9;exact aI (qa q _ ho A9)
   |none =>
    refine aQ ⟨_,rfl,.inl ⟨rfl,_,SqL.of A9.f⟩,_,rfl,pf,_,_,rfl,rfl,A9.f,ax ?_,?_⟩
    ·have:=TW.dN (nds zs);rw[aJ]at this;rw[length_map,length_cons];omega
    ·have A10:=A9.fold num;have ef:(0::TW.aR (nds zs))++[num]=(0:Int)::TW.aR (nds (zs++[(q,⟨num,par,nm,none⟩)])):=by simp[TW.aR,nds]
     rw[ef]at A10;exact qa q _ ho A10
 ·obtain⟨kss,e1,e2,e3,e4,e0,s2,e5⟩:=h;obtain⟨o1,rfl⟩:=uL e0;obtain⟨rfl,hx⟩:=hy;have gx:=hx _ (SqL.of (s2 _ _ A7.n));obtain⟨z1,g1,rfl⟩:=ce gx;have m1:=mem_of_getElem? g1;have ecut:dR (vals z1.2) (some 1) (some 3)=[.int z1.2.par,.str z1.2.nm]:=rfl;refine⟨_,rfl,_,rfl,_,rfl,z1.1,_,rfl,SqT.of (s2 _ _ (A7.nd z1 m1)),(λh=>by have h1:(1:Nat)=0:=h.1;cases h1),λq hq=>?_⟩;rw[ecut];refine⟨aT hq e5,kss++[(q,plK z1.2)],by rw[e1];simp,?_,by simp[e3],?_,rfl,aM hp (s2.trans (af hq)),ac⟩
  ·rw[map_append,e2,take_succ,show(nds zs)[i]?=some z1.2 by unfold nds;rw[getElem?_map,g1];rfl,map_append];rfl
  ·intro z hz;have hqp:q≠p:=λz=>by rw[z,e5]at hq;cases hq
   rcases mem_append.mp hz with hz|hz
   ·have:=aT (o:=.tup [.int z1.2.par,.str z1.2.nm]) hq (e4 z hz);rw[aj]
    ·exact this
    ·intro e;rw[e,aj (Ne.symm hqp),e5]at this;cases this
   ·have e:z=(q,plK z1.2):=by simpa using hz
    subst e;rw[aj hqp];exact ac
 ·rintro _ _ _ _ _ m h;exact m _ _ h
 ·rintro _ _ _ _ m ⟨v1,b0,i1,b1,i2,b2,a2,x2,c1,c2,c3,q⟩;exact⟨v1,b0,i1,b1,i2,b2,a2,x2,c1,c2,c3,λp hp=>m _ _ (q p hp)⟩
theorem vQ{f:Addr}{fd:FuncData}(F:Fun K "_law_tree" "_law_tree" iQ f fd)(T:Txt mg)(C:Has P w K mg base 2 "_law_pick" ["_law_script","_law_k","_law_many"] (eV K)):FnOk P w K mg base CX0 3 f fd ["_law_script","_law_at","_law_most"] (nH K):=by
 obtain⟨fP,fdP,GP,mP,kP,bP⟩:=C;refine F.ok scB (λvs H Q E h=>?_) (λcdv A outer s H vs Q E hr h=>?_)
 ·obtain⟨a,at',m,rfl,_⟩:=h;rfl
 ·obtain⟨a,at',m,rfl,ha0,hm0,hm9,hS,k⟩:=h;obtain⟨t5,p5,h5⟩:=Av (P:=P) (w:=w) (mg:=mg) (base:=base) (f:=f) (cdv:=cdv) (A:=A) (outer:=outer) (s:=s) (H0:=H) (E:=E) hr;refine⟨_,(ag (aA (i:=3) scB.nd rfl (Or.inl rfl) (aO (lh rfl) rfl T.list rfl (aa (aO sF rfl T.range rfl (aa ah (aa (aD aZ (pv 2) ah) ae))) ae)))
    (ag (aA (i:=4) scB.nd rfl (Or.inl rfl) (bu (aa ah ae)))
    (ag (aA (i:=5) scB.nd rfl (Or.inl rfl) (bu ae))
    (ag (dQ PassesOwn.never rfl (iw rfl T.range (aa (al GP hr rfl mP kP bP .nil aF (aa (pv 0) (aa (pv 1) (aa (aD aZ (pv 2) ah) ae)))) ae)) (aE (i:=6) scB.nd rfl (Or.inl rfl))
    (ag (aA (i:=7) scB.nd rfl (Or.inl rfl) (eY plainAttrs_list slot_list_pop type_list_pop og (pv 3) (aa (al GP hr rfl mP kP bP .nil aF (aa (pv 0) (aa (aD aZ (aD aZ (pv 1) ah) (aD de ah (pv 6))) (aa (aB aK rfl T.len boot_len (aa (pv 3) ae)) ae)))) ae)))
    (ag (aA (i:=8) scB.nd rfl (Or.inl rfl) (au bg (pv 4) (al GP hr rfl mP kP bP .nil aF (aa (pv 0) (aa (aD aZ (aD aZ (pv 1) ah) (aD de ah (pv 6))) (aa (aB aK rfl T.len boot_len (aa (pv 4) ae)) ae)))) (λ_ _=>rfl)))
    (ag (aA (i:=9) scB.nd rfl (Or.inl rfl) (au bg (bu (aa aY (aa aY (aa aY (aa aY ae))))) (al GP hr rfl mP kP bP .nil aF (aa (pv 0) (aa (aD aZ (aD aZ (pv 1) ah) (aD de ah (pv 6))) (aa ah ae)))) (λ_ _=>rfl)))
    (ag (aA (i:=10) scB.nd rfl (Or.inl rfl) cM)
    (ag (aP (am tG (al GP hr rfl mP kP bP .nil aF (aa (pv 0) (aa (aD aZ (aD aZ (pv 1) ah) (aD de ah (pv 6))) (aa ah ae)))) ah (aw _)) (ak (aA (i:=10) scB.nd rfl (Or.inl rfl) (au bg (bu (aa ah (aa ah (aa ah (aa ah ae))))) (al GP hr rfl mP kP bP .nil aF (aa (pv 0) (aa (aD aZ (aD aZ (pv 1) ah) (aD de ah (pv 6))) (aa ah ae)))) (λ_ _=>rfl)))) ay)
    (ak p5)))))))
    (ak (av (aO bh rfl T.tuple rfl (aa (aB iJ rfl T.sorted boot_sorted (aa (pv 5) ae)) ae)))))))),?_⟩
  refine⟨_,rfl,_,_,rfl,rfl,_,_,rfl,λp1 hp1=>⟨p1,_,_,rfl,ac,⟨by decide,by decide,by omega,by omega⟩,by omega,λpl hpl=>?_⟩⟩;refine⟨ao (by decide),λpf hpf=>⟨zero_le _,λpn hpn=>?_⟩⟩;have s0:Same H (upd (upd (upd (upd H p1 (.rng 1 (m+4))) pl (.lst ((List.range (m+4-1:Int).toNat).map λk=>V.int (1+(k:Nat))))) pf (.lst [.int 0])) pn (.lst [])):=(((af hp1).trans (af hpl)).trans (af hpf)).trans (af hpn);have hfl:pl≠pf:=λe=>by rw[←e,ac]at hpf;cases hpf
  have hln:pl≠pn:=λe=>by rw[←e,aj hfl,ac]at hpn;cases hpn
  have hfn:pf≠pn:=λe=>by rw[←e,ac]at hpn;cases hpn
  have A0:Sta H pl pf pn (upd (upd (upd (upd H p1 (.rng 1 (m+4))) pl (.lst ((List.range (m+4-1:Int).toNat).map λk=>V.int (1+(k:Nat))))) pf (.lst [.int 0])) pn (.lst [])) (lf0 m) [0] [] :=
   ⟨s0,by rw[aj hln,aj hfl,ac,lf0,map_map];rfl,by rw[aj hfn,ac];rfl,ac,λz hz=>by simp at hz,(af hp1).free hpl,((af hp1).trans (af hpl)).free hpf,(((af hp1).trans (af hpl)).trans (af hpf)).free hpn,hfl,hln,hfn⟩
  have B0:Bd [] (lf0 m):=Bd.zero hm9;refine⟨_,rfl,_,rfl,_,rfl,_,_,rfl,rfl,a,_,_,rfl,ha0,by omega,hS.same s0,λr H1 r0 r1 s1=>⟨r,rfl,by omega,by omega,?_⟩⟩;refine ix (n:=r.toNat) (λi σ H'=>∃lf zs o6 o7 o8 o9 o10,σ=[some (.ref a),some (.int at'),some (.int m),some (.ref pl),some (.ref pf),some (.ref pn),o6,o7,o8,o9,o10]∧Sta H pl pf pn H' lf (0::TW.aR (nds zs)) zs∧Bd zs lf∧(lf.length:Int)+i=m+3∧zs.length≤i)
   ⟨_,[],_,_,_,_,_,rfl,A0.grow s1,B0,by rw[wT hm0];omega,le_refl _⟩ (λi σ H' hi h=>?_) (λσ H' h=>?_)
  ·obtain⟨lf,zs,o6,o7,o8,o9,o10,rfl,A1,B,hlf,hzl⟩:=h;have hi8:i<10:=by omega
   have z0:(0:Int)≤at'+1+6*(0+(i:Int)):=by omega
   refine⟨_,rfl,.inl ⟨rfl,_,SqL.of A1.l⟩,_,rfl,_,rfl,_,_,rfl,rfl,_,rfl,_,_,rfl,rfl,.inl ⟨by decide,by decide⟩,_,_,rfl,rfl,_,rfl,pl,_,rfl,.inl (SqL.of A1.l),a,_,_,rfl,by omega,by rw[length_map];omega,hS.same A1.same,λj H2 j0 j1 s2=>?_⟩;rw[length_map]at j1;have A2:=A1.grow s2;obtain⟨num,gnum⟩:∃num,lf[j.toNat]?=some num:=⟨_,getElem?_eq_getElem (by omega)⟩;refine⟨pl,_,j,j.toNat,.int num,rfl,rfl,A2.l,by omega,by omega,by rw[length_map];exact uO j0 j1,by rw[getElem?_map,gnum];rfl,?_⟩;rw[lK];have A3:=A2.pop (lf.eraseIdx j.toNat);have elen:(lf.eraseIdx j.toNat).length=lf.length-1:=List.length_eraseIdx_of_lt (by omega);generalize upd H2 pl (.lst ((lf.eraseIdx j.toNat).map V.int))=H3 at A3⊢;refine⟨_,rfl,_,rfl,_,rfl,_,_,rfl,rfl,_,rfl,_,_,rfl,rfl,.inl ⟨by decide,by decide⟩,_,_,rfl,rfl,_,rfl,pf,_,rfl,.inl (SqL.of A3.f),a,_,_,rfl,by omega,by rw[length_map,length_cons];omega,hS.same A3.same,λj2 H4 j20 j21 s4=>?_⟩;rw[length_map]at j21;obtain⟨par,mpar,gpar⟩:=rC j20 j21;have A4:=A3.grow s4;refine⟨pf,_,_,_,rfl,rfl,SqL.of A4.f,gpar,?_⟩;refine⟨ao (by decide),λp3 hp3=>?_⟩;have A5:=A4.grow (af (o:=.lst [.str "a",.str "b",.str "c",.str "abcde"]) hp3);refine⟨_,rfl,_,rfl,_,_,rfl,rfl,_,rfl,_,_,rfl,rfl,.inl ⟨by decide,by decide⟩,_,_,rfl,rfl,a,_,_,rfl,by omega,by decide,hS.same A5.same,λj3 H5 j30 j31 s5=>?_⟩;obtain⟨nm,hnm,gnm⟩:=rD j30 j31;refine⟨p3,_,_,_,rfl,rfl,SqL.of (s5 _ _ ac),gnm,?_⟩;have A6:=A5.grow s5;refine⟨_,rfl,_,rfl,_,_,rfl,rfl,_,rfl,_,_,rfl,rfl,.inl ⟨by decide,by decide⟩,_,_,rfl,rfl,a,_,_,rfl,by omega,by decide,hS.same A6.same,λj4 H6 j40 j41 s6=>⟨_,_,rfl,rfl,_,rfl,?_⟩⟩;have A6':=A6.grow s6;refine sw (λhgt=>?_) (λhgt=>?_)
   ·refine⟨ao (by decide),λp5 hp5=>?_⟩;have A65:=A6'.grow (af (o:=.lst [.int 0,.int 1,.int 2,.int 999]) hp5);refine⟨_,rfl,_,rfl,_,_,rfl,rfl,_,rfl,_,_,rfl,rfl,.inl ⟨by decide,by decide⟩,_,_,rfl,rfl,a,_,_,rfl,by omega,by decide,hS.same A65.same,λj5 H65 j50 j51 s65=>?_⟩;obtain⟨i5,hst5,gst⟩:=wS j50 j51;refine⟨p5,_,_,_,rfl,rfl,SqL.of (s65 _ _ ac),gst,?_⟩;have A66:=A65.grow s65;exact h5 _ H H65 pl pf pn _ _ _ _ (lf.eraseIdx j.toNat) zs num par nm (some i5) A66 (by omega) (λH' A8=>⟨_,zs,_,_,_,_,_,rfl,A8,B.skip _,by rw[elen];omega,by omega⟩)
     (λq H' ho A9=>⟨_,_,_,_,_,_,_,rfl,A9,B.add (q:=q) (n:=⟨num,par,nm,(some i5)⟩) gnum mpar ho hnm hst5,by rw[elen];omega,by rw[length_append,length_singleton];omega⟩)
   ·exact h5 _ H H6 pl pf pn _ _ _ _ (lf.eraseIdx j.toNat) zs num par nm none A6' (by omega) (λH' A8=>⟨_,zs,_,_,_,_,_,rfl,A8,B.skip _,by rw[elen];omega,by omega⟩)
     (λq H' ho A9=>⟨_,_,_,_,_,_,_,rfl,A9,B.add (q:=q) (n:=⟨num,par,nm,none⟩) gnum mpar ho hnm (.inl rfl),by rw[elen];omega,by rw[length_append,length_singleton];omega⟩)
  ·obtain⟨lf,zs,o6,o7,o8,o9,o10,rfl,A1,B,hlf,hzl⟩:=h;have hzl8:(zs.length:Int)≤m:=by omega
   have hnum:(zs.map tp).map (·.2.1)=(nds zs).map (·.num):=by
    unfold nds;simp only[map_map];rfl
   have hnd:((nds zs).map (·.num)).Nodup:=(nodup_append.mp B.nd).1;refine⟨_,rfl,pn,zs.map tp,rfl,SqL.of (by rw[A1.n,jp]),λz hz=>?_,by rw[hnum];exact hnd,by rw[length_map];omega,λts pm up p hp=>?_⟩
   ·obtain⟨y,hy,rfl⟩:=mem_map.mp hz;exact A1.nd y hy
   ·obtain⟨pm2,eb⟩:=back pm;have er:(ts.map (·.1)).map V.ref=aW (ts.map un):=by rw[←jp,eb]
    rw[er];refine⟨p,_,rfl,.inl ⟨SqL.of ac,λl hl=>?_⟩⟩;have mem:∀z,z∈ts.map un→z∈zs:=λz hz=>pm2.mem_iff.mp hz;refine k l (ts.map un) _ ac ?_ (by rw[pm2.length_eq];exact hzl8) ?_ (λz hz=>B.ok z (mem z hz)) ((A1.same.trans (af hp)).trans (af hl))
    ·intro z hz;exact((af hp).trans (af hl)) _ _ (A1.nd z (mem z hz))
    ·refine TW.wP B.built (pm2.map _) ?_ hnd B.own;unfold nds;rw[pairwise_map];have up2:((ts.map un).map tp).Pairwise (λa b=>a.2.1<b.2.1):=by rw[eb];exact up
     rw[pairwise_map]at up2;exact up2.imp λh=>Int.le_of_lt h
end
def edS(i:Nat):Stmt:=(br jd).getD i (.Pass ⟨0,0,0,0⟩)
def EN:List Str:=["_law_script","_law_at","_law_tree_here","_law_numbers","_law_some","_law_number","_law_folders","_law_parent","_law_name","_law_way","_law_stamp","_law_new"]
theorem dZ:FnScope EN ["_law_script","_law_at","_law_tree_here"] (ai jd):=fsc
abbrev EX(P:Program)(w:World)(K:PySem.W.Frag)(mg:Str→Option Value)(base:Heap)(f:Addr)(cdv:Value)(A:Around)(outer:List Env)(s:Shared)(H:Hp)(E:XK):Cx:=(gF CX0 P w K mg base EN "_law_deed" (ai jd) f cdv A outer s H E).nox
def edσ(a t:Addr)(at':Int)(x3 x4 x5 x6 x7 x8 x9 x10 x11:Option V):St:=[some (.ref a),some (.int at'),some (.ref t),x3,x4,x5,x6,x7,x8,x9,x10,x11]
section
variable{P:Program}{w:World}{K:PySem.W.Frag}{mg:Str→Option Value}{base:Heap}{f:Addr}{cdv:Value}{A:Around}{outer:List Env}{s:Shared}{H0:Hp}{E:XK}
theorem ed0:∃t,PS (EX P w K mg base f cdv A outer s H0 E) (edS 0) t∧∀(D:Ends)(H:Hp)(a t':Addr)(at':Int)(zs:ZN),Tre H t' zs →
   (∀p H',Same H H'→H' p=some (.lst (((nds zs).map (·.num)).map V.int))→D.nx (edσ a t' at' (some (.ref p)) none none none none none none none none) H')→t D (edσ a t' at' none none none none none none none none none) H:=by
 refine⟨_,uI (ii:=3) (N:=["_law_node"]) (cl:=[]) (k:=1) (js:=[]) (g:=bj 0) dZ.nd rfl (Or.inl rfl) rfl (cF rfl (by decide +kernel) (by decide +kernel) (by decide +kernel)) rfl (λi j x h=>by simp at h)
  (cx (pv 2)) (λs H fp=>aE (i:=0) (show(["_law_node"]:List Str).Nodup by decide +kernel) rfl (Or.inl rfl) (Or.inr rfl)) (λs H fp=>au (r:=dS K) ar (pv 0) ah (λ_ _=>rfl)),?_⟩
 intro D H a t' at' zs tr q;have hl:=tr.len;refine⟨_,rfl,t',rfl,⟨_,SqT.of tr.tup⟩,λp hp=>?_⟩;refine dL (fr:=[]) zs (λz=>V.ref z.1) (by omega) hp (dJ (by rw[cm];exact SqT.of tr.tup)) rfl (λz y _=>y=.int z.2.num) (λz y H H' h _=>h) (λz H' k mz s1 _ hk=>⟨_,rfl,z.1,_,_,_,rfl,rfl,SqT.of (s1 _ _ (tr.nod z mz)),at0 z.2,hk _ H' (Same.refl _) rfl⟩) (λys H' s1 hp' hys=>?_);have ey:=ck (f:=λz:Addr×Nd=>V.int z.2.num) hys (λz y _ h=>h);refine q p H' s1 ?_;rw[hp',ey];unfold nds;rw[map_map,map_map];rfl
theorem ed1:∃t,PS (EX P w K mg base f cdv A outer s H0 E) (edS 1) t∧∀(D:Ends)(H:Hp)(a t' p:Addr)(at':Int)(ns:List Int),H p=some (.lst (ns.map V.int))→ns.length≤60 →
   (∀q H',Same H H'→H' q=some (.lst ((ns++ns++ns++[55]).map V.int))→D.nx (edσ a t' at' (some (.ref p)) (some (.ref q)) none none none none none none none) H')→t D (edσ a t' at' (some (.ref p)) none none none none none none none none) H:=by
 refine⟨_,aA (i:=4) dZ.nd rfl (Or.inl rfl) (aD iB (aD iB (aD iB (pv 3) (pv 3)) (pv 3)) (bu (aa ah ae))),?_⟩;intro D H a t' p at' ns hp hl q;refine⟨_,rfl,_,rfl,p,p,_,_,rfl,rfl,hp,hp,ao (by rw[length_map];omega),λp1 h1=>?_⟩;have s1:=af (o:=.lst (ns.map V.int++ns.map V.int)) h1;refine⟨_,rfl,p1,p,_,_,rfl,rfl,ac,s1 _ _ hp,ao (by rw[length_append,length_map];omega),λp2 h2=>?_⟩;have s2:=s1.trans (af (o:=.lst (ns.map V.int++ns.map V.int++ns.map V.int)) h2);refine⟨ao (show 1≤1000 by decide),λp3 h3=>?_⟩;have s3:=s2.trans (af (o:=.lst [.int 55]) h3);refine⟨p2,p3,_,_,rfl,rfl,aT h3 ac,ac,ao (by rw[length_append,length_append,length_map];show _+1≤1000;omega),λp4 h4=>?_⟩;refine q p4 _ (s3.trans (af h4)) ?_;rw[ac];simp only[map_append,map_cons,map_nil]
theorem ed3:∃t,PS (EX P w K mg base f cdv A outer s H0 E) (edS 3) t∧∀(D:Ends)(H:Hp)(a t':Addr)(at':Int)(zs:ZN)(x3 x4 x5:Option V),Tre H t' zs →
   (∀p H' (fs:List Int),Same H H'→H' p=some (.lst (fs.map V.int))→(∀x∈fs,x=0∨∃m∈nds zs,m.num=x)→1≤fs.length→fs.length≤31→D.nx (edσ a t' at' x3 x4 x5 (some (.ref p)) none none none none none) H')→t D (edσ a t' at' x3 x4 x5 none none none none none none) H:=by
 refine⟨_,aA (i:=6) dZ.nd rfl (Or.inl rfl) (aD iB (iE (N:=["_law_node"]) (cl:=[]) (k:=1) (js:=[]) (g:=bj 0) rfl (cF rfl (by decide +kernel) (by decide +kernel) (by decide +kernel)) rfl (λi j x h=>by simp at h)
  (cx (pv 2)) (λs H fp=>aE (i:=0) (show(["_law_node"]:List Str).Nodup by decide +kernel) rfl (Or.inl rfl) (Or.inr rfl)) (λs H fp=>am iy (au (r:=dS K) ar (pv 0) ah (λ_ _=>rfl)) cM (aw _)) (λs H fp=>au (r:=dS K) ar (pv 0) ah (λ_ _=>rfl))) (bu (aa ah ae))),?_⟩
 intro D H a t' at' zs x3 x4 x5 tr q;have hl:=tr.len;refine⟨_,rfl,t',rfl,⟨_,SqT.of tr.tup⟩,λp hp=>?_⟩;refine iN (fr:=[]) zs (λz=>V.ref z.1) (by omega) hp (dJ (by rw[cm];exact SqT.of tr.tup)) rfl (λz=>decide (stV z.2.st=V.non)) (λz y _=>y=.int z.2.num) (λz y H H' h _=>h) (λz H' k mz s1 _ hk=>⟨_,rfl,z.1,_,_,_,rfl,rfl,SqT.of (s1 _ _ (tr.nod z mz)),at3 z.2,rfl,_,rfl,hk H' (Same.refl _)⟩)
  (λz H' k mz _ s1 _ hk=>⟨_,rfl,z.1,_,_,_,rfl,rfl,SqT.of (s1 _ _ (tr.nod z mz)),at0 z.2,hk _ H' (Same.refl _) rfl⟩) (λys H' s1 hp' hys=>?_)
 have ey:=ck (f:=λz:Addr×Nd=>V.int z.2.num) hys (λz y _ h=>h);have hfl:=length_filter_le (λz:Addr×Nd=>decide (stV z.2.st=V.non)) zs;have ey2:ys=((zs.filter λz:Addr×Nd=>decide (stV z.2.st=V.non)).map λz=>z.2.num).map V.int:=by rw[ey,map_map];rfl
 refine⟨ao (show 1≤1000 by decide),λp2 h2=>?_⟩;refine⟨p,p2,_,_,rfl,rfl,aT h2 hp',ac,ao (by rw[ey,length_map];show _+1≤1000;omega),λp3 h3=>?_⟩;refine q p3 _ (((zs.filter λz:Addr×Nd=>decide (stV z.2.st=V.non)).map λz=>z.2.num)++[0]) ((s1.trans (af h2)).trans (af h3)) ?_ (λx hx=>?_) (by simp) (by rw[length_append,length_map];simp;omega)
 ·rw[ac,ey2,map_append];rfl
 ·rcases mem_append.mp hx with h|h
  ·obtain⟨z,hz,rfl⟩:=mem_map.mp h;exact .inr ⟨z.2,bY (mem_filter.mp hz).1,rfl⟩
  ·exact .inl (by simpa using h)
end
def zA:List Stmt:=match edS 7 with
 |.If _ a _ _=>a
 |_=>[]
theorem vR{j:Int}(h0:0≤j)(h1:j<6):∃st,atI [V.non,.non,.int 0,.int 1,.int 2,.int 3] j=some (stV st)∧wY st:=by
 have hj:j=0∨j=1∨j=2∨j=3∨j=4∨j=5:=by omega
 rcases hj with rfl|rfl|rfl|rfl|rfl|rfl
 ·exact⟨none,rfl,λi e=>by cases e⟩
 ·exact⟨none,rfl,λi e=>by cases e⟩
 ·exact⟨some 0,rfl,λi e=>by cases e;decide⟩
 ·exact⟨some 1,rfl,λi e=>by cases e;decide⟩
 ·exact⟨some 2,rfl,λi e=>by cases e;decide⟩
 ·exact⟨some 3,rfl,λi e=>by cases e;decide⟩
theorem vS{j:Int}(h0:0≤j)(h1:j<4):∃i,atI [V.int 0,.int 1,.int 2,.int 998] j=some (.int i)∧0≤i∧i≤999:=by
 have hj:j=0∨j=1∨j=2∨j=3:=by omega
 rcases hj with rfl|rfl|rfl|rfl
 ·exact⟨0,rfl,by decide,by decide⟩
 ·exact⟨1,rfl,by decide,by decide⟩
 ·exact⟨2,rfl,by decide,by decide⟩
 ·exact⟨998,rfl,by decide,by decide⟩
theorem vT{j x y:Int}(h0:0≤j)(h1:j<5):∃z,atI [V.int x,.int y] (j / 4)=some (.int z)∧(z=x∨z=y):=by
 have hj:j / 4=0∨j / 4=1:=by omega
 rcases hj with e|e
 ·rw[e];exact⟨x,rfl,.inl rfl⟩
 ·rw[e];exact⟨y,rfl,.inr rfl⟩
section
variable{P:Program}{w:World}{K:PySem.W.Frag}{mg:Str→Option Value}{base:Heap}{f:Addr}{cdv:Value}{A:Around}{outer:List Env}{s:Shared}{H0:Hp}{E:XK}
theorem edM(hr:Room 2 (A.deeper (PyProof.Rows.envOfC "_law_deed" (ai jd) s.heap.objs.size f cdv)))(CP:Has P w K mg base 2 "_law_pick" ["_law_script","_law_k","_law_many"] (eV K)):
  ∃t,PSs (EX P w K mg base f cdv A outer s H0 E) zA t∧∀(D:Ends)(H:Hp)(a t':Addr)(at' n p:Int)(nm:Str)(x3 x4 x6 x9:Option V),eZ K H a→0≤at'→1≤n→n≤60→0≤p→p≤60→li nm →
   (∀c dd H',Same H H'→H' c=some (.tup (bQ dd))→cv dd→D.rt (.ref c) H')→t D (edσ a t' at' x3 x4 (some (.int n)) x6 (some (.int p)) (some (.str nm)) x9 none none) H:=by
 obtain⟨fP,fdP,GP,mP,kP,bP⟩:=CP;refine⟨_,ag (aA (i:=10) dZ.nd rfl (Or.inl rfl) (au bg (bu (aa cM (aa cM (aa ah (aa ah (aa ah (aa ah ae))))))) (al GP hr rfl mP kP bP .nil aF (aa (pv 0) (aa (aD aZ (pv 1) ah) (aa ah ae)))) (λ_ _=>rfl)))
  (ag (aA (i:=11) dZ.nd rfl (Or.inl rfl) (au bg (bu (aa (aD aZ ah (al GP hr rfl mP kP bP .nil aF (aa (pv 0) (aa (aD aZ (pv 1) ah) (aa ah ae))))) (aa (pv 5) ae))) (aD qI (al GP hr rfl mP kP bP .nil aF (aa (pv 0) (aa (aD aZ (pv 1) ah) (aa ah ae)))) ah) (λ_ _=>rfl)))
  (ak (av (bn (aa aY (aa (pv 11) (aa (pv 7) (aa (pv 8) (aa (pv 10) ae))))))))),?_⟩
 intro D H a t' at' n p nm x3 x4 x6 x9 hS hat hn1 hn2 hp1 hp2 hnm q;refine⟨ao (show 6≤1000 by decide),λl1 hl1=>?_⟩;have s1:=af (o:=.lst [.non,.non,.int 0,.int 1,.int 2,.int 3]) hl1;refine⟨_,rfl,_,rfl,_,_,rfl,rfl,a,_,_,rfl,by omega,by decide,hS.same s1,λj1 H1 j10 j11 s2=>?_⟩;obtain⟨st,est,hst⟩:=vR j10 j11;refine⟨l1,_,_,_,rfl,rfl,SqL.of (s2 _ _ ac),est,?_⟩;have s12:=s1.trans s2;refine⟨_,rfl,_,rfl,_,_,rfl,rfl,a,_,_,rfl,by omega,by decide,hS.same s12,λj2 H2 j20 j21 s3=>?_⟩;refine⟨_,_,rfl,rfl,_,rfl,le2,λl2 hl2=>?_⟩;have s13:=s12.trans s3;have s4:=s13.trans (af (o:=.lst [.int (1+j2),.int n]) hl2);refine⟨_,rfl,_,rfl,_,_,rfl,rfl,a,_,_,rfl,by omega,by decide,hS.same s4,λj3 H3 j30 j31 s5=>?_⟩;obtain⟨nw,enw,hnw⟩:=vT (x:=1+j2) (y:=n) j30 j31;refine⟨_,_,rfl,rfl,⟨by decide,by decide⟩,l2,_,_,_,rfl,rfl,SqL.of (s5 _ _ ac),enw,?_⟩;refine⟨_,rfl,_,rfl,_,rfl,_,rfl,(show 5≤sizeLine from ao (by decide)),λc hc=>?_⟩;refine q c (.make nw p nm st) _ ((s4.trans s5).trans (af hc)) ac ⟨?_,?_,hp1,hp2,hnm,hst⟩
 ·rcases hnw with e|e<;>omega
 ·rcases hnw with e|e<;>omega
theorem ed7(hr:Room 2 (A.deeper (PyProof.Rows.envOfC "_law_deed" (ai jd) s.heap.objs.size f cdv)))(CP:Has P w K mg base 2 "_law_pick" ["_law_script","_law_k","_law_many"] (eV K)):
  ∃t,PS (EX P w K mg base f cdv A outer s H0 E) (edS 7) t∧∀(D:Ends)(H:Hp)(a t' pn:Addr)(at' n p wy:Int)(nm:Str)(ns:List Int)(x4 x6:Option V),eZ K H a→0≤at'→1≤n→n≤60→0≤p→p≤60→li nm→H pn=some (.lst (ns.map V.int)) →
   (∀c dd H',Same H H'→H' c=some (.tup (bQ dd))→cv dd→D.rt (.ref c) H')→(∀H',Same H H'→D.nx (edσ a t' at' (some (.ref pn)) x4 (some (.int n)) x6 (some (.int p)) (some (.str nm)) (some (.int wy)) none none) H') →
   t D (edσ a t' at' (some (.ref pn)) x4 (some (.int n)) x6 (some (.int p)) (some (.str nm)) (some (.int wy)) none none) H:=by
 obtain⟨tM,pM,hM⟩:=edM (f:=f) (cdv:=cdv) (outer:=outer) (H0:=H0) (E:=E) hr CP;refine⟨_,aP (PW.pt (pw_or (am jz (pv 9) ah (aw _)) (pw_or1 (am (gL hr.units0) (pv 3) (bu ae) (aw _))))) pM ay,?_⟩;intro D H a t' pn at' n p wy nm ns x4 x6 hS hat hn1 hn2 hp1 hp2 hnm hpn q qn;refine⟨_,rfl,_,_,rfl,rfl,_,rfl,?_⟩;refine sw (λhlt=>?_) (λhlt=>?_)
 ·exact aQ (hM D H a t' at' n p nm _ _ _ _ hS hat hn1 hn2 hp1 hp2 hnm q)
 ·refine⟨_,rfl,zero_le _,λl hl=>?_⟩;have s1:=af (o:=.lst []) hl;refine⟨pn,l,_,rfl,rfl,SqL.of (s1 _ _ hpn),SqL.of ac,_,rfl,?_⟩;refine sw (λ_=>?_) (λ_=>?_)
  ·exact hM D _ a t' at' n p nm _ _ _ _ (hS.same s1) hat hn1 hn2 hp1 hp2 hnm λc dd H' s'=>q c dd H' (s1.trans s')
  ·exact qn _ s1
theorem ed8(hr:Room 2 (A.deeper (PyProof.Rows.envOfC "_law_deed" (ai jd) s.heap.objs.size f cdv)))(CP:Has P w K mg base 2 "_law_pick" ["_law_script","_law_k","_law_many"] (eV K)):
  ∃t,PSs (EX P w K mg base f cdv A outer s H0 E) [edS 8,edS 9,edS 10] t∧∀(D:Ends)(H:Hp)(a t':Addr)(at' n p wy:Int)(nm:Str)(x3 x4 x6:Option V),eZ K H a→0≤at'→1≤n→n≤60→0≤p→p≤60→li nm →
   (∀c dd H',Same H H'→H' c=some (.tup (bQ dd))→cv dd→D.rt (.ref c) H') →
   t D (edσ a t' at' x3 x4 (some (.int n)) x6 (some (.int p)) (some (.str nm)) (some (.int wy)) none none) H:=by
 obtain⟨fP,fdP,GP,mP,kP,bP⟩:=CP;refine⟨_,ag (aP (am cD (pv 9) ah (aw _)) (ak (av (bn (aa aY (aa (pv 5) (aa (au bg (bu (aa ah (aa ah (aa ah (aa ah ae))))) (al GP hr rfl mP kP bP .nil aF (aa (pv 0) (aa (aD aZ (pv 1) ah) (aa ah ae)))) (λ_ _=>rfl)) ae)))))) ay)
  (ag (aP (am jz (pv 9) ah (aw _)) (ak (av (bn (aa aY (aa (pv 5) (aa (pv 7) (aa (pv 8) ae))))))) ay)
  (ak (av (bn (aa aY (aa (pv 5) ae)))))),?_⟩
 intro D H a t' at' n p wy nm x3 x4 x6 hS hat hn1 hn2 hp1 hp2 hnm q;refine⟨_,rfl,rfl,_,rfl,?_⟩;refine sw (λ_=>?_) (λ_=>?_)
 ·refine⟨_,rfl,ao (show 4≤1000 by decide),λl1 hl1=>?_⟩;have s1:=af (o:=.lst [.int 0,.int 1,.int 2,.int 998]) hl1;refine⟨_,rfl,_,rfl,_,_,rfl,rfl,a,_,_,rfl,by omega,by decide,hS.same s1,λj1 H1 j10 j11 s2=>?_⟩;obtain⟨i,ei,hi1,hi2⟩:=vS j10 j11;refine⟨l1,_,_,_,rfl,rfl,SqL.of (s2 _ _ ac),ei,(show 3≤sizeLine from ao (by decide)),λc hc=>?_⟩;exact q c (.write n i) _ ((s1.trans s2).trans (af hc)) ac ⟨hn1,hn2,hi1,hi2⟩
 ·refine⟨_,rfl,_,_,rfl,rfl,_,rfl,?_⟩;refine sw (λ_=>?_) (λ_=>?_)
  ·exact⟨_,rfl,_,rfl,_,rfl,(show 4≤sizeLine from ao (by decide)),λc hc=>q c (.move n p nm) _ (af hc) ac ⟨hn1,hn2,hp1,hp2,hnm⟩⟩
  ·exact⟨_,rfl,(show 2≤sizeLine from le2),λc hc=>q c (.drop n) _ (af hc) ac ⟨hn1,hn2⟩⟩
def nI(K:PySem.W.Frag):Sp:=λvs H Q _=>∃a at' t zs,vs=[.ref a,.int at',.ref t]∧0≤at'∧eZ K H a∧Tre H t zs∧(∀n∈nds zs,eR n)∧∀c dd H',Same H H'→H' c=some (.tup (bQ dd))→cv dd→Q (.ref c) H'
theorem xC{f:Addr}{fd:FuncData}(F:Fun K "_law_deed" "_law_deed" jd f fd)(T:Txt mg)(CP:Has P w K mg base 2 "_law_pick" ["_law_script","_law_k","_law_many"] (eV K)):FnOk P w K mg base CX0 3 f fd ["_law_script","_law_at","_law_tree_here"] (nI K):=by
 obtain⟨fP,fdP,GP,mP,kP,bP⟩:=id CP;refine F.ok dZ (λvs H Q E h=>?_) (λcdv A outer s H vs Q E hr h=>?_)
 ·obtain⟨a,at',t,zs,rfl,_⟩:=h;rfl
 ·obtain⟨a,at',t,zs,rfl,hat,hS,tr,hok,q⟩:=h;obtain⟨t0,p0,h0⟩:=ed0 (P:=P) (w:=w) (K:=K) (mg:=mg) (base:=base) (f:=f) (cdv:=cdv) (A:=A) (outer:=outer) (s:=s) (H0:=H) (E:=E);obtain⟨t1,p1,h1⟩:=ed1 (P:=P) (w:=w) (K:=K) (mg:=mg) (base:=base) (f:=f) (cdv:=cdv) (A:=A) (outer:=outer) (s:=s) (H0:=H) (E:=E);obtain⟨t3,p3,h3⟩:=ed3 (P:=P) (w:=w) (K:=K) (mg:=mg) (base:=base) (f:=f) (cdv:=cdv) (A:=A) (outer:=outer) (s:=s) (H0:=H) (E:=E);obtain⟨t7,p7,h7⟩:=ed7 (f:=f) (cdv:=cdv) (outer:=outer) (H0:=H) (E:=E) hr CP;obtain⟨t8,p8,h8⟩:=ed8 (f:=f) (cdv:=cdv) (outer:=outer) (H0:=H) (E:=E) hr CP;refine⟨_,ag p0 (ag p1
   (ag (aA (i:=5) dZ.nd rfl (Or.inl rfl) (au bg (pv 4) (al GP hr rfl mP kP bP .nil aF (aa (pv 0) (aa (pv 1) (aa (aB aK rfl T.len boot_len (aa (pv 4) ae)) ae)))) (λ_ _=>rfl)))
   (ag p3
   (ag (aA (i:=7) dZ.nd rfl (Or.inl rfl) (au bg (aD iB (aD iB (pv 6) (pv 6)) (pv 4)) (al GP hr rfl mP kP bP .nil aF (aa (pv 0) (aa (aD aZ (pv 1) ah) (aa (aD aZ (aD de ah (aB aK rfl T.len boot_len (aa (pv 6) ae))) (aB aK rfl T.len boot_len (aa (pv 4) ae))) ae)))) (λ_ _=>rfl)))
   (ag (aA (i:=8) dZ.nd rfl (Or.inl rfl) (au bg (bu (aa aY (aa aY (aa aY (aa aY ae))))) (al GP hr rfl mP kP bP .nil aF (aa (pv 0) (aa (aD aZ (pv 1) ah) (aa ah ae)))) (λ_ _=>rfl)))
   (ag (aA (i:=9) dZ.nd rfl (Or.inl rfl) (al GP hr rfl mP kP bP .nil aF (aa (pv 0) (aa (aD aZ (pv 1) ah) (aa ah ae)))))
   (ag p7 p8))))))),?_⟩
  have hl:=tr.len;have hnr:∀x∈(nds zs).map (·.num),1≤x∧x≤60:=λx hx=>by
   obtain⟨n,hn,rfl⟩:=mem_map.mp hx;exact⟨(hok n hn).1,(hok n hn).2.1⟩
  refine h0 _ H a t at' zs tr λpn H1 s1 hpn=>?_;generalize hns:(nds zs).map (·.num)=ns at hpn hnr;have hnl:ns.length=zs.length:=by rw[←hns,length_map,aJ]
  refine h1 _ H1 a t pn at' ns hpn (by omega) λps H2 s2 hps=>?_;have hsr:∀x∈ns++ns++ns++[55],1≤x∧x≤60:=λx hx=>by
   rcases mem_append.mp hx with h|h
   ·rcases mem_append.mp h with h|h
    ·rcases mem_append.mp h with h|h<;>exact hnr x h
    ·exact hnr x h
   ·have:x=55:=by simpa using h
    omega
  have hsl:(ns++ns++ns++[55]).length≤100∧1≤(ns++ns++ns++[55]).length:=by simp;omega
  generalize ns++ns++ns++[55]=ss at hps hsr hsl⊢;have s12:=s1.trans s2;refine⟨_,rfl,_,rfl,_,rfl,_,rfl,ps,_,rfl,.inl (SqL.of hps),a,at',_,rfl,hat,by rw[length_map];omega,hS.same s12,λj H3 j0 j1 s3=>?_⟩;rw[length_map]at j1;obtain⟨n,en,hn1,hn2⟩:=rG j0 j1 hsr;refine⟨ps,_,_,_,rfl,rfl,SqL.of (s3 _ _ hps),en,?_⟩;have s13:=s12.trans s3;refine h3 _ H3 a t at' zs _ _ _ (tr.same s13) λpf H4 fs s4 hpf hfs hf1 hf2=>?_;have s14:=s13.trans s4;have hps4:=s4 _ _ (s3 _ _ hps);refine⟨_,rfl,_,rfl,pf,pf,_,_,rfl,rfl,hpf,hpf,ao (by rw[length_map];omega),λl1 hl1=>?_⟩;have u1:=af (o:=.lst (fs.map V.int++fs.map V.int)) hl1;refine⟨_,rfl,l1,ps,_,_,rfl,rfl,ac,u1 _ _ hps4,ao (by rw[length_append,length_map,length_map];omega),λl2 hl2=>?_⟩;have u2:=u1.trans (af (o:=.lst (fs.map V.int++fs.map V.int++ss.map V.int)) hl2);have hl2':upd (upd H4 l1 (.lst (fs.map V.int++fs.map V.int))) l2 (.lst (fs.map V.int++fs.map V.int++ss.map V.int)) l2=some (.lst ((fs++fs++ss).map V.int)):=by rw[ac];simp only[map_append]
  generalize upd (upd H4 l1 (.lst (fs.map V.int++fs.map V.int))) l2 (.lst (fs.map V.int++fs.map V.int++ss.map V.int))=H5 at u2 hl2'⊢;have s15:=s14.trans u2;refine⟨_,rfl,_,rfl,_,_,rfl,rfl,_,rfl,pf,_,rfl,.inl (SqL.of (u2 _ _ hpf)),_,_,rfl,rfl,.inl ⟨by decide,by decide⟩,_,rfl,ps,_,rfl,.inl (SqL.of (u2 _ _ hps4)),_,_,rfl,rfl,a,_,_,rfl,by omega,by rw[length_map,length_map];omega,hS.same s15,λj2 H6 j20 j21 s6=>?_⟩;rw[length_map,length_map]at j21;obtain⟨p,ep,hp1,hp2⟩:=rG (ns:=fs++fs++ss) (P:=λx=>0≤x∧x≤60) j20 (by rw[length_append,length_append];omega) (λx hx=>by
   have hf:∀x∈fs,0≤x∧x≤60:=λx hx=>by
    rcases hfs x hx with e|⟨m,hm,e⟩
    ·omega
    ·have:=hok m hm;have h1:=this.1;have h2:=this.2.1;omega
   rcases mem_append.mp hx with h|h
   ·rcases mem_append.mp h with h|h<;>exact hf x h
   ·have:=hsr x h;omega)
  refine⟨l2,_,_,_,rfl,rfl,SqL.of (s6 _ _ hl2'),ep,?_⟩;have s16:=s15.trans s6;refine⟨ao (show 4≤1000 by decide),λl3 hl3=>?_⟩;have s17:=s16.trans (af (o:=.lst [.str "a",.str "b",.str "c",.str "abcde"]) hl3);refine⟨_,rfl,_,rfl,_,_,rfl,rfl,a,_,_,rfl,by omega,by decide,hS.same s17,λj3 H7 j30 j31 s7=>?_⟩;obtain⟨nm,hnm,gnm⟩:=rD j30 j31;refine⟨l3,_,_,_,rfl,rfl,SqL.of (s7 _ _ ac),gnm,?_⟩;have s18:=s17.trans s7;refine⟨_,rfl,_,rfl,_,_,rfl,rfl,a,_,_,rfl,by omega,by decide,hS.same s18,λwy H8 _ _ s8=>?_⟩;have s19:=s18.trans s8;have s29:Same H1 H8:=((((s2.trans s3).trans s4).trans u2).trans s6).trans ((af hl3).trans (s7.trans s8));refine h7 _ H8 a t pn at' n p wy nm ns _ _ (hS.same s19) hat hn1 hn2 hp1 hp2 hnm (s29 _ _ hpn) (λc dd H' s'=>q c dd H' (s19.trans s')) λH9 s9=>?_;exact h8 _ H9 a t at' n p wy nm _ _ _ (hS.same (s19.trans s9)) hat hn1 hn2 hp1 hp2 hnm λc dd H' s'=>q c dd H' ((s19.trans s9).trans s')
end
theorem vU{σ:St}(h:σ.length=3):∃a b c,σ=[a,b,c]:=by
 cases σ with
 |nil=>cases h
 |cons a σ=>cases σ with
  |nil=>cases h
  |cons b σ=>cases σ with
   |nil=>cases h
   |cons c σ=>cases σ with
    |nil=>exact⟨a,b,c,rfl⟩
    |cons d σ=>cases h
section
variable{P:Program}{w:World}{K:PySem.W.Frag}{mg:Str→Option Value}{base:Heap}
def xD:Sp:=λvs H Q _=>∃c es,vs=[.ref c]∧ChgAt H c es∧∀c' es' H',Same H H'→ChgAt H' c' es'→ba es'=(ba es).map TW.Row.swap→Q (.ref c') H'
theorem Be:FnScope ["change"] ["change"] (ai dY):=fsc
theorem Aw{f:Addr}{fd:FuncData}(F:Fun K "turned_back" "turned_back" dY f fd)(T:Txt mg):FnOk P w K mg base CX0 1 f fd ["change"] xD:=by
 refine F.ok Be (λvs H Q E h=>?_) (λcdv A outer s H vs Q E hr h=>?_)
 ·obtain⟨c,es,rfl,_⟩:=h;rfl
 ·obtain⟨c,es,rfl,hc,q⟩:=h;have hlen:=hc.len;refine⟨_,ak (av (aO bh rfl T.tuple rfl (aa (dA (N:=["number","old","new"]) (cl:=[]) (k:=3) (js:=[]) (g:=wf K 3 (iS (bj 0) (iS (bj 1) (iS (bj 2) we)))) rfl (cF rfl (by decide +kernel) (by decide +kernel) (by decide +kernel)) rfl (λi j x h=>by simp at h)
   (cx (pv 0))
   (λs H fp=>pE (n:=3) rfl (cV (aE (i:=0) (show(["number","old","new"]:List Str).Nodup by decide +kernel) rfl (Or.inl rfl) (Or.inr rfl)) (cV (aE (i:=1) (show(["number","old","new"]:List Str).Nodup by decide +kernel) rfl (Or.inl rfl) (Or.inr rfl)) (cV (aE (i:=2) (show(["number","old","new"]:List Str).Nodup by decide +kernel) rfl (Or.inl rfl) (Or.inr rfl)) lT))))
   (λs H fp=>bn (aa (pv 0) (aa (pv 2) (aa (pv 1) ae))))) ae))),?_⟩
  refine⟨_,rfl,c,rfl,⟨_,SqT.of hc.tup⟩,λp hp=>?_⟩;refine vz (fr:=[]) es (λe=>V.ref e.1) (by omega) hp (dJ (SqT.of hc.tup)) ⟨_,rfl,rfl⟩ (λe y H'=>∃q vo vn,y=.ref q∧q≠p∧H' q=some (.tup [.int e.2.k,vn,vo])∧cg H' vo e.2.o∧cg H' vn e.2.n∧vo≠.ref p∧vn≠.ref p) (λe y H H' h ex=>?_) (λe σ0 H' kk hσ me s1 hpl hk=>?_) (λys H' s1 hp' hys=>?_)
  ·obtain⟨q,vo,vn,e1,ne,h1,h2,h3,n1,n2⟩:=h;have ov:∀{v:V}{o:Option Nd},v≠.ref p→cg H v o→cg H' v o:=λhv h=>by
    rcases h with h|⟨q,n,e,h,e2⟩
    ·exact .inl h
    ·exact .inr ⟨q,n,e,ex q _ (λz=>hv (by rw[e,z])) h,e2⟩
   exact⟨q,vo,vn,e1,ne,ex q _ ne h1,ov n1 h2,ov n2 h3,n1,n2⟩
  ·obtain⟨x0,x1,x2,rfl⟩:=vU hσ;obtain⟨⟨vo,vn,h1,h2,h3⟩,_⟩:=(hc.at' e me).same s1;have np:∀{v:V}{o:Option Nd},cg H' v o→v≠.ref p:=λh e=>by
    rcases h with⟨h,_⟩|⟨q,n,e2,h,_⟩
    ·rw[h]at e;cases e
    ·rw[e2]at e;injection e with e
     obtain⟨ys,hy⟩:=hpl;rw[e,hy]at h;cases h
   refine⟨e.1,_,rfl,SqT.of h1,rfl,_,_,rfl,_,_,rfl,_,_,rfl,rfl,?_⟩;refine⟨_,rfl,_,rfl,_,rfl,(show 3≤sizeLine from ao (by decide)),λq hq=>?_⟩;have s2:=af (o:=.tup [.int e.2.k,vn,vo]) hq;exact hk _ _ _ ⟨[some (.int e.2.k),some vo,some vn],rfl,rfl⟩ s2 ⟨q,vo,vn,rfl,dj hpl hq,ac,h2.same s2,h3.same s2,np h2,np h3⟩
  ·obtain⟨cs,e1,e2,e3⟩:=cP (val:=V.ref) (S:=λ(e:Addr×Row) (q:Addr)=>∃vo vn,H' q=some (.tup [.int e.2.k,vn,vo])∧cg H' vo e.2.o∧cg H' vn e.2.n) hys (λe y _ ⟨q,vo,vn,e,_,h1,h2,h3,_⟩=>⟨q,e,vo,vn,h1,h2,h3⟩);refine⟨p,_,rfl,.inl ⟨SqL.of hp',λc' hc'=>?_⟩⟩;have s2:=af (o:=.tup ys) hc';have hcl:cs.length=es.length:=by rw[←e1,length_map]
   refine q c' (cs.map λx=>(x.2,x.1.2.swap)) _ (s1.trans s2) ⟨by rw[ac,e2];unfold cw;rw[map_map];rfl,λe he=>?_,by rw[length_map];omega⟩ ?_
   ·obtain⟨x,hx,rfl⟩:=mem_map.mp he;obtain⟨vo,vn,h1,h2,h3⟩:=e3 x hx;have mx:x.1∈es:=by rw[←e1];exact mem_map.mpr ⟨x,hx,rfl⟩
    have ok:=(hc.at' x.1 mx).ok;exact⟨⟨vn,vo,s2 _ _ h1,h3.same s2,h2.same s2⟩,⟨ok.2,ok.1⟩⟩
   ·unfold ba;rw[map_map,←e1,map_map,map_map];rfl
end
def letters:Str:="abcdefghijklmnopqrstuvwxyz"
def inL(c:Nat):Bool:=!(Builtin.Str.occurrences letters ⟨#[c]⟩ 0 letters.length 1).isEmpty
def vV(x:Str):Bool:=decide (1≤x.length)&&decide (x.length≤5)&&x.cps.toList.all inL
theorem li.b{x:Str}(h:li x):vV x=true:=by rcases h with e|e|e|e<;>rw[e]<;>decide +kernel
section
variable{P:Program}{w:World}{K:PySem.W.Frag}{mg:Str→Option Value}{base:Heap}
def jv:Sp:=λvs H Q _=>∃i,vs=[.int i]∧Q (.bl true) H
theorem xE:FnScope ["thing"] ["thing"] (ai qe):=fsc
theorem vW{f:Addr}{fd:FuncData}(F:Fun K "is_whole" "is_whole" qe f fd)(T:Txt mg):FnOk P w K mg base CX0 1 f fd ["thing"] jv:=by
 refine F.ok xE (λvs H Q E h=>?_) (λcdv A outer s H vs Q E hr h=>?_)
 ·obtain⟨v,rfl,_⟩:=h;rfl
 ·obtain⟨i,rfl,k⟩:=h;refine⟨_,ak (av (iu (aB cA rfl T.isin boot_isinstance (aa (pv 0) (aa (gg (v:=.ty "int") rfl T.int boot_int rfl) ae)))
   (jy (yf (aB cA rfl T.isin boot_isinstance (aa (pv 0) (aa (gg (v:=.ty "bool") rfl T.bool boot_bool rfl) ae))))))),?_⟩
  exact⟨_,rfl,_,_,_,_,rfl,.int i,(by kernel_rfl:_=some true),_,rfl,aQ ⟨_,rfl,_,_,_,_,rfl,.int i,(by kernel_rfl:_=some false),_,rfl,k⟩⟩
def qB:Sp:=λvs H Q _=>∃x,vs=[.str x]∧vV x=true∧∀H',Same H H'→Q (.bl true) H'
theorem zB:FnScope ["thing"] ["thing"] (ai uS):=fsc
theorem xF{f:Addr}{fd:FuncData}(F:Fun K "is_name" "is_name" uS f fd)(T:Txt mg):FnOk P w K mg base CX0 1 f fd ["thing"] qB:=by
 obtain⟨tl,hL⟩:=T.letters;obtain⟨tn,hN⟩:=T.longest;refine F.ok zB (λvs H Q E h=>?_) (λcdv A outer s H vs Q E hr h=>?_)
 ·obtain⟨v,rfl,_⟩:=h;rfl
 ·obtain⟨x,rfl,hb,k⟩:=h;refine⟨_,ag (aP (PW.pt (pw_or (dc (db (aB cA rfl T.isin boot_isinstance (aa (pv 0) (aa (gg (v:=.ty "str") rfl T.str boot_str rfl) ae))) (λ_=>rfl)))
    (pw_or1 (dc (tJ qO qO ah (aB mr rfl T.len boot_len (aa (pv 0) ae)) (gf (v:=.int 5) rfl hN ⟨_,rfl⟩))))))
   (ak (av eW)) ay)
   (ak (av (aB (jU rfl) rfl T.all boot_all (aa (dA (N:=["sign"]) (k:=1) (js:=[]) rfl (cF rfl (by decide +kernel) (by decide +kernel) (by decide +kernel)) rfl (λi j x h=>by simp at h)
    (yJ (pv 0)) (λs H fp=>aE (i:=0) (show(["sign"]:List Str).Nodup by decide +kernel) rfl (Or.inl rfl) (Or.inr rfl)) (λs H fp=>dt sf (pv 0) (gf (v:=.str letters) rfl hL ⟨_,rfl⟩) (by with_unfolding_all rfl))) ae)))),?_⟩
  unfold vV at hb;rw[and_eq_true,and_eq_true,decide_eq_true_eq,decide_eq_true_eq]at hb;obtain⟨⟨a1,a2⟩,a3⟩:=hb;refine⟨_,rfl,_,_,_,_,rfl,.str x,(by kernel_rfl:_=some true),_,rfl,aI ?_⟩;refine⟨_,rfl,x,rfl,le_of_lt (ax (by omega)),_,_,rfl,rfl,_,rfl,?_⟩;have h1:decide ((1:Int)≤(x.length:Int))=true:=decide_eq_true (by omega);have h2:decide ((x.length:Int)≤5)=true:=decide_eq_true (by omega);rw[h1];refine aQ ⟨_,_,rfl,rfl,_,rfl,?_⟩;rw[h2];refine aI ?_;have hsz:x.cps.size=x.length:=rfl;refine⟨_,rfl,x,rfl,λp hp=>?_⟩;refine oO (k:=1) (js:=[]) (J:=Its x) (p:=p) x.cps.size (by omega) (λi ys σ' H'=>ys=((x.cps.toList.take i).map inL).map V.bl∧σ'.length=1∧Same H H'∧H' p=some (.lst ys))
   ⟨rfl,rfl,af hp,ac⟩ (λi ys σ' H' h=>?_) (λi ys σ' H' hi h=>hi) (λys σ' H' h=>?_) (λi ys σ' H' hi h v H2 hy=>?_) ?_ ?_
  ·rw[h.1,length_map,length_map,length_take];omega
  ·obtain⟨e1,_,s1,e2⟩:=h;have e3:ys=(x.cps.toList.map inL).map V.bl:=by rw[e1,take_of_length_le (by simp)]
   subst e3;refine⟨le_refl _,_,_,rfl,SqL.of e2,?_⟩;have e4:(x.cps.toList.map inL).all id=true:=by rw[all_map];exact a3
   rw[e4];exact k _ s1
  ·obtain⟨e1,e0,s1,e2⟩:=h;obtain⟨rfl,c,hc,rfl⟩:=hy;refine⟨_,List.getElem?_set_self (by omega),_,_,rfl,rfl,e2,?_,by simpa using e0,aM hp s1,ac⟩
   have hc':x.cps.toList[i]?=some c:=by simpa using hc
   rw[e1,take_succ,hc'];simp[inL]
  ·intro _ _ _ _ _ m q;exact m _ _ q
  ·rintro _ _ _ _ m ⟨v,hv,i,j,a1,a2,q⟩;exact⟨v,hv,i,j,a1,a2,m _ _ q⟩
def nJ:Sp:=λvs H Q _=>∃o,vs=[stV o]∧wY o∧Q (.bl true) H
theorem xG:FnScope ["thing"] ["thing"] (ai qf):=fsc
theorem vX{f:Addr}{fd:FuncData}(F:Fun K "is_stamp" "is_stamp" qf f fd)(T:Txt mg)(CW:Has P w K mg base 1 "is_whole" ["thing"] jv):FnOk P w K mg base CX0 2 f fd ["thing"] nJ:=by
 obtain⟨fW,fdW,GW,mW,kW,bW⟩:=CW;obtain⟨tg,hG⟩:=T.greatest;refine F.ok xG (λvs H Q E h=>?_) (λcdv A outer s H vs Q E hr h=>?_)
 ·obtain⟨v,rfl,_⟩:=h;rfl
 ·obtain⟨o,rfl,ho,k⟩:=h;refine⟨_,ak (av (zM (dt iy (pv 0) cM (aw _)) (jy (iu (al GW hr rfl mW kW bW .nil aF (aa (pv 0) ae)) (jy (tI qO qO ah (pv 0) (gf (v:=.int 999) rfl hG ⟨_,rfl⟩))))))),?_⟩;refine⟨_,rfl,rfl,_,rfl,?_⟩;cases o with
  |none=>exact aQ k
  |some i =>
   obtain⟨a1,a2⟩:=ho i rfl;refine aI ⟨_,rfl,_,rfl,_,rfl,aQ ?_⟩;refine⟨_,rfl,_,_,rfl,rfl,_,rfl,?_⟩;have h1:decide (0≤i)=true:=decide_eq_true a1;rw[h1];refine aQ ⟨_,_,rfl,rfl,?_⟩;have h2:decide (i≤999)=true:=decide_eq_true a2;show Q (V.bl (decide (i≤999))) H;rw[h2];exact k
def qD:Sp:=λvs H Q _=>∃a n,vs=[.ref a]∧H a=some (.tup (vals n))∧eR n∧∀H',Same H H'→Q (.bl true) H'
theorem zC:FnScope ["thing"] ["thing"] (ai uT):=fsc
theorem xH{f:Addr}{fd:FuncData}(F:Fun K "is_node" "is_node" uT f fd)(T:Txt mg)(CW:Has P w K mg base 1 "is_whole" ["thing"] jv)(CN:Has P w K mg base 1 "is_name" ["thing"] qB)(CS:Has P w K mg base 2 "is_stamp" ["thing"] nJ):FnOk P w K mg base CX0 3 f fd ["thing"] qD:=by
 obtain⟨fW,fdW,GW,mW,kW,bW⟩:=CW;obtain⟨fN,fdN,GN,mN,kN,bN⟩:=CN;obtain⟨fS,fdS,GS,mS,kS,bS⟩:=CS;refine F.ok zC (λvs H Q E h=>?_) (λcdv A outer s H vs Q E hr h=>?_)
 ·obtain⟨a,n,rfl,_⟩:=h;rfl
 ·obtain⟨a,n,rfl,e,ok,k⟩:=h;obtain⟨o1,o2,o3,o4⟩:=ok;have hr1:Room 1 _:=hr.mono (by decide);refine⟨_,ag (aP (PW.pt (pw_or (dc (db (aB cA rfl T.isin boot_isinstance (aa (pv 0) (aa (gg (v:=.ty "tuple") rfl T.tuple boot_tuple rfl) ae))) (λ_=>rfl)))
    (pw_or1 (am eX (aB aK rfl T.len boot_len (aa (pv 0) ae)) ah (aw _))))) (ak (av eW)) ay)
   (ag (aP (PW.pt (pw_or (dc (db (al GW hr1 rfl mW kW bW .nil aF (aa (au ar (pv 0) ah (λ_ _=>rfl)) ae)) (λ_=>rfl))) (pw_or1 (am jz (au ar (pv 0) ah (λ_ _=>rfl)) ah (aw _))))) (ak (av eW)) ay)
   (ak (av (iu (al GW hr1 rfl mW kW bW .nil aF (aa (au ar (pv 0) ah (λ_ _=>rfl)) ae)) (iu (al GN hr1 rfl mN kN bN .nil aF (aa (au ar (pv 0) ah (λ_ _=>rfl)) ae))
    (jy (al GS hr rfl mS kS bS .nil aF (aa (au ar (pv 0) ah (λ_ _=>rfl)) ae)))))))),?_⟩
  refine⟨_,rfl,_,_,_,_,rfl,.tup e,(by kernel_rfl:_=some true),_,rfl,aI ?_⟩;refine⟨_,rfl,a,_,rfl,.inr (SqT.of e),rfl,_,rfl,?_⟩;refine Af rfl ?_;refine⟨_,rfl,a,_,_,_,rfl,rfl,SqT.of e,at0 n,_,rfl,_,rfl,aI ?_⟩;refine⟨_,rfl,a,_,_,_,rfl,rfl,SqT.of e,at0 n,_,_,rfl,rfl,_,rfl,?_⟩;have h1:decide (n.num<1)=false:=decide_eq_false (by omega);rw[h1];refine aI ?_;refine⟨_,rfl,a,_,_,_,rfl,rfl,SqT.of e,at1 n,_,rfl,_,rfl,aQ ?_⟩;refine⟨_,rfl,a,_,_,_,rfl,rfl,SqT.of e,at2 n,_,rfl,o3.b,λH1 s1=>⟨_,rfl,aQ ?_⟩⟩;exact⟨_,rfl,a,_,_,_,rfl,rfl,SqT.of (s1 _ _ e),at3 n,n.st,rfl,o4,k H1 s1⟩
def ltP(p:Nd×Nd):Bool:=decide (p.1.num<p.2.num)
def qF:Sp:=λvs H Q _=>∃t zs,vs=[.ref t]∧H t=some (.tup (aW zs))∧At H zs∧zs.length≤100∧∀H',Same H H'→Q (.bl (TW.adj (nds zs))) H'
theorem zD:FnScope ["nodes"] ["nodes"] (ai uU):=fsc
theorem xI{f:Addr}{fd:FuncData}(F:Fun K "are_rising" "are_rising" uU f fd)(T:Txt mg):FnOk P w K mg base CX0 1 f fd ["nodes"] qF:=by
 refine F.ok zD (λvs H Q E h=>?_) (λcdv A outer s H vs Q E hr h=>?_)
 ·obtain⟨t,zs,rfl,_⟩:=h;rfl
 ·obtain⟨t,zs,rfl,ht,hA,hl,k⟩:=h;refine⟨_,ak (av (aB (jU rfl) rfl T.all boot_all (aa (dA (N:=["one","other"]) (k:=2) (js:=[]) (g:=wf K 2 (iS (bj 0) (iS (bj 1) we))) rfl (cF rfl (by decide +kernel) (by decide +kernel) (by decide +kernel)) rfl (λi j x h=>by simp at h)
   (yK rfl T.zip (aa (pv 0) (aa (cu (SlR.or fe pV) (pv 0) (cp ah) eM) ae)))
   (λs H fp=>pE (n:=2) rfl (cV (aE (i:=0) (show(["one","other"]:List Str).Nodup by decide +kernel) rfl (Or.inl rfl) (Or.inr rfl)) (cV (aE (i:=1) (show(["one","other"]:List Str).Nodup by decide +kernel) rfl (Or.inl rfl) (Or.inr rfl)) lT)))
   (λs H fp=>dt jz (au (r:=dS K) ar (pv 0) ah (λ_ _=>rfl)) (au (r:=dS K) ar (pv 1) ah (λ_ _=>rfl)) (aw _))) ae))),?_⟩
  have main:∀(t2:Addr)(H1:Hp),Same H H1→H1 t2=some (.tup (aW (zs.drop 1)))→∀p,H1 p=none→∀Q':VK,(∀(q:Addr)(bs:List Bool)(H':Hp),Same H H'→H' q=some (.lst (bs.map V.bl))→bs.all id=TW.adj (nds zs)→Q' (.ref q) H') →
    LcW 2 [] (wf K 2 (iS (bj 0) (iS (bj 1) we))) (tOp (rI0 λi j=>.bl (decide (i<j))) (tOp (dS K) (fb 0) (tC (.int 0))) (tOp (dS K) (fb 1) (tC (.int 0)))) (start ["nodes"] [.ref t]) Q' (Itz K t t2) H1 p:=by
   intro t2 H1 s1 ht2 p hp Q' k';have hp0:H p=none:=s1.free hp;have h1t:H1 t=some (.tup (aW zs)):=s1 _ _ ht;have hzl:((nds zs).zip ((nds zs).drop 1)).length=zs.length-1:=by rw[List.length_zip,length_drop,aJ];omega
   refine oO (k:=2) (js:=[]) (J:=Itz K t t2) (p:=p) (zs.length-1) (by omega) (λi ys σ' H'=>ys=((((nds zs).zip ((nds zs).drop 1)).take i).map ltP).map V.bl∧σ'.length=2∧Same H1 H'∧H' p=some (.lst ys))
    ⟨rfl,rfl,af hp,ac⟩ (λi ys σ' H' h=>?_) (λi ys σ' H' hi h=>?_) (λys σ' H' h=>?_) (λi ys σ' H' hi h v H2 hy=>?_) ?_ ?_
   ·rw[h.1,length_map,length_map,length_take];omega
   ·obtain⟨_,_,s2,_⟩:=h;refine⟨_,_,_,_,SqT.of (s2 _ _ h1t),SqT.of (s2 _ _ ht2),dD (getElem?_eq_getElem (by omega)),dD (z:=zs[i+1]) ?_⟩;rw[getElem?_drop,show 1+i=i+1 by omega,getElem?_eq_getElem (by omega)]
   ·obtain⟨e1,_,s2,e2⟩:=h;refine⟨⟨_,_,SqT.of (s2 _ _ h1t),SqT.of (s2 _ _ ht2),.inr (by rw[be,length_drop];exact le_refl _)⟩,?_⟩;rw[e1]at e2;refine k' p _ H' (s1.trans s2) e2 ?_;rw[take_of_length_le (by omega),all_map,TW.ro];rfl
   ·obtain⟨e1,e0,s2,e2⟩:=h;obtain⟨o1,o2,rfl⟩:=yQ e0;obtain⟨q,x,y,hq,rfl,hx,hy',rfl⟩:=hy;have gx:=hx _ (SqT.of (s2 _ _ h1t));have gy:=hy' _ (SqT.of (s2 _ _ ht2));obtain⟨z1,g1,rfl⟩:=ce gx;obtain⟨z2,g2,rfl⟩:=ce gy;rw[getElem?_drop,show 1+i=i+1 by omega]at g2;have m1:=mem_of_getElem? g1;have m2:=mem_of_getElem? g2;have s3:Same H (upd H' q (.tup [.ref z1.1,.ref z2.1])):=(s1.trans s2).trans (af hq);refine⟨q,_,rfl,SqT.of ac,rfl,_,_,rfl,_,_,rfl,rfl,?_⟩;refine⟨_,rfl,z1.1,_,_,_,rfl,rfl,SqT.of (s3 _ _ (hA z1 m1)),at0 z1.2,_,rfl,z2.1,_,_,_,rfl,rfl,SqT.of (s3 _ _ (hA z2 m2)),at0 z2.2,_,_,rfl,rfl,aT hq e2,?_,rfl,aM hp (s2.trans (af hq)),ac⟩;have ge:((nds zs).zip ((nds zs).drop 1))[i]?=some (z1.2,z2.2):=by
     rw[List.getElem?_zip_eq_some];refine⟨by unfold nds;rw[getElem?_map,g1];rfl,by unfold nds;rw[getElem?_drop,getElem?_map,show 1+i=i+1 by omega,g2];rfl⟩
    rw[e1,take_succ,ge];simp[ltP]
   ·rintro _ _ _ _ _ m ⟨a,xs,h1,h2,h3,v1,r1,h4,v2,r2,h5,h6,q⟩;exact⟨a,xs,h1,h2,h3,v1,r1,h4,v2,r2,h5,h6,m _ _ q⟩
   ·rintro _ _ _ _ m ⟨v1,a1,p1,x1,i1,w1,b1,b2,b3,b4,v2,a2,p2,x2,i2,w2,c1,c2,c3,c4,i,j,d1,d2,q⟩;exact⟨v1,a1,p1,x1,i1,w1,b1,b2,b3,b4,v2,a2,p2,x2,i2,w2,c1,c2,c3,c4,i,j,d1,d2,m _ _ q⟩
  have fin:∀(q:Addr)(bs:List Bool)(H':Hp),Same H H'→H' q=some (.lst (bs.map V.bl))→bs.all id=TW.adj (nds zs)→∃a,∃bs':List Bool,[V.ref q]=[V.ref a]∧SqL K H' a (bs'.map V.bl)∧Q (.bl (bs'.all id)) H':=λq bs H' s' e eb =>
   ⟨q,bs,rfl,SqL.of e,by rw[eb];exact k _ s'⟩
  refine⟨_,rfl,_,rfl,_,rfl,?_⟩
  by_cases hz:zs=[]
  ·subst hz;refine .inr ⟨t,_,rfl,SqT.of ht,rfl,rfl,t,t,_,_,rfl,ht,ht,λp hp=>?_⟩;exact main t H (Same.refl H) ht p hp _ fin
  ·have hlen:1≤zs.length:=by
    cases zs with
    |nil=>exact absurd rfl hz
    |cons _ _=>simp
   refine .inl ⟨t,_,rfl,SqT.of ht,?_,λp1 hp1=>?_⟩
   ·rw[be];intro h;have:HT.sIx zs.length 0 (some ((1:Nat):Int))=min 1 zs.length:=HT.ma _ _ _;have h1:HT.sIx zs.length 0 (some ((1:Nat):Int))=0:=h.1;omega
   ·have ecut:dR (aW zs) (some 1) none=aW (zs.drop 1):=by
     unfold dR;rw[HT.nZ,be,show HT.sIx zs.length 0 (some (1:Int))=min 1 zs.length from HT.ma _ _ 1,show min 1 zs.length=1 by omega];unfold aW;rw[←map_drop,←map_drop,take_of_length_le (by simp)]
    rw[ecut];refine⟨t,p1,_,_,rfl,aT hp1 ht,ac,λp hp=>?_⟩;exact main p1 _ (af hp1) ac p hp _ fin
def vY:Sp:=λvs H Q _=>∃t zs,vs=[.ref t]∧H t=some (.tup (aW zs))∧At H zs∧zs.length≤60∧∀b H',(b=true↔TW.dk (nds zs))→Same H H'→Q (.bl b) H'
theorem Ax:FnScope ["nodes"] ["nodes"] (ai yT):=fsc
theorem zE{f:Addr}{fd:FuncData}(F:Fun K "have_own_places" "have_own_places" yT f fd)(T:Txt mg):FnOk P w K mg base CX0 1 f fd ["nodes"] vY:=by
 refine F.ok Ax (λvs H Q E h=>?_) (λcdv A outer s H vs Q E hr h=>?_)
 ·obtain⟨t,zs,rfl,_⟩:=h;rfl
 ·obtain⟨t,zs,rfl,ht,hA,hl,k⟩:=h;refine⟨_,ak (av (dt cD (aB oM rfl T.len boot_len (aa (aO (lc rfl (kb hr)) rfl T.set rfl (aa (dA (N:=["node"]) (k:=1) (js:=[]) (g:=bj 0) rfl (cF rfl (by decide +kernel) (by decide +kernel) (by decide +kernel)) rfl (λi j x h=>by simp at h)
   (cx (pv 0))
   (λs H fp=>aE (i:=0) (show(["node"]:List Str).Nodup by decide +kernel) rfl (Or.inl rfl) (Or.inr rfl))
   (λs H fp=>bn (aa (au (r:=dS K) ar (pv 0) ah (λ_ _=>rfl)) (aa (au (r:=dS K) ar (pv 0) ah (λ_ _=>rfl)) ae)))) ae)) ae))
   (aB aK rfl T.len boot_len (aa (pv 0) ae)) (aw _))),?_⟩
  refine⟨_,rfl,t,rfl,⟨_,SqT.of ht⟩,λp hp=>?_⟩;refine oO (k:=1) (js:=[]) (J:=Itt K t) (p:=p) zs.length (by omega) (λi ys σ' H'=>∃kss:List (Addr×List Key),ys=(kss.map (·.1)).map V.ref∧kss.map (·.2)=((nds zs).take i).map plK∧kss.length=i∧(∀z∈kss,H' z.1=some (.tup (z.2.map kV)))∧σ'.length=1∧Same H H'∧H' p=some (.lst ys))
    ⟨[],rfl,rfl,rfl,by simp,rfl,af hp,ac⟩ (λi ys σ' H' h=>?_) (λi ys σ' H' hi h=>?_) (λys σ' H' h=>?_) (λi ys σ' H' hi h v H2 hy=>?_) ?_ ?_
  ·obtain⟨kss,rfl,_,e,_⟩:=h;rw[length_map,length_map];omega
  ·obtain⟨_,_,_,_,_,_,s2,_⟩:=h;exact⟨_,_,SqT.of (s2 _ _ ht),dD (getElem?_eq_getElem hi)⟩
  ·obtain⟨kss,e1,e2,e3,e4,_,s2,e5⟩:=h;refine⟨⟨_,SqT.of (s2 _ _ ht),by rw[be];exact le_refl _⟩,?_⟩;subst e1;refine⟨p,kss,rfl,SqL.of e5,e4,by omega,λn hn hiff q hq=>?_⟩;refine⟨q,n,rfl,ac,by omega,?_⟩;have s3:Same H (upd H' q (.ext (mX q n))):=s2.trans (af hq);refine⟨_,rfl,t,_,rfl,.inr (SqT.of (s3 _ _ ht)),rfl,?_⟩;refine k _ _ ?_ s3;rw[take_of_length_le (by rw[aJ];exact le_refl _)]at e2;rw[e2,sO,e3]at hiff;rw[←hiff,decide_eq_true_eq,be];constructor
   ·intro z;injection z with z;omega
   ·intro z;rw[z]
  ·obtain⟨kss,e1,e2,e3,e4,e0,s2,e5⟩:=h;obtain⟨o1,rfl⟩:=uL e0;obtain⟨rfl,hx⟩:=hy;have gx:=hx _ (SqT.of (s2 _ _ ht));obtain⟨z1,g1,rfl⟩:=ce gx;have m1:=mem_of_getElem? g1;refine⟨_,rfl,z1.1,_,_,_,rfl,rfl,SqT.of (s2 _ _ (hA z1 m1)),at1 z1.2,_,rfl,z1.1,_,_,_,rfl,rfl,SqT.of (s2 _ _ (hA z1 m1)),at2 z1.2,le2,λq hq=>?_⟩;refine⟨aT hq e5,kss++[(q,plK z1.2)],by rw[e1];simp,?_,by simp[e3],?_,rfl,aM hp (s2.trans (af hq)),ac⟩
   ·rw[map_append,e2,take_succ,show(nds zs)[i]?=some z1.2 by unfold nds;rw[getElem?_map,g1];rfl];simp
   ·intro z hz;have hqp:q≠p:=λz=>by rw[z,e5]at hq;cases hq
    rcases mem_append.mp hz with hz|hz
    ·have:=aT (o:=.tup [.int z1.2.par,.str z1.2.nm]) hq (e4 z hz);rw[aj]
     ·exact this
     ·intro e;rw[e,aj (Ne.symm hqp),e5]at this;cases this
    ·have e:z=(q,plK z1.2):=by simpa using hz
     subst e;rw[aj hqp];exact ac
  ·rintro _ _ _ _ _ m h;exact m _ _ h
  ·rintro _ _ _ _ m ⟨v1,b0,a1,x1,i1,w1,b1,b2,b3,b4,v2,c0,a2,x2,i2,w2,c1,c2,c3,c4,l,q⟩;exact⟨v1,b0,a1,x1,i1,w1,b1,b2,b3,b4,v2,c0,a2,x2,i2,w2,c1,c2,c3,c4,l,λp hp=>m _ _ (q p hp)⟩
theorem zF:FnScope ["thing"] ["thing"] (ai uV):=fsc
def nL:Sp:=λvs H Q _=>∃t zs,vs=[.ref t]∧H t=some (.tup (aW zs))∧At H zs∧zs.length≤60∧(∀n∈nds zs,eR n)∧∀b H',(b=true↔TW.Tree (nds zs))→Same H H'→Q (.bl b) H'
theorem vZ{f:Addr}{fd:FuncData}(F:Fun K "is_tree" "is_tree" uV f fd)(T:Txt mg)(CN:Has P w K mg base 3 "is_node" ["thing"] qD)(CR:Has P w K mg base 1 "are_rising" ["nodes"] qF)(CO:Has P w K mg base 1 "have_own_places" ["nodes"] vY)(CI:Has P w K mg base 1 "numbers_inside" ["nodes","folder"] oV):FnOk P w K mg base CX0 4 f fd ["thing"] nL:=by
 obtain⟨fN,fdN,GN,mN,kN,bN⟩:=CN;obtain⟨fR,fdR,GR,mR,kR,bR⟩:=CR;obtain⟨fO,fdO,GO,mO,kO,bO⟩:=CO;obtain⟨fI,fdI,GI,mI,kI,bI⟩:=CI;obtain⟨tt,hT⟩:=T.top;refine F.ok zF (λvs H Q E h=>?_) (λcdv A outer s H vs Q E hr h=>?_)
 ·obtain⟨v,φ,rfl,_⟩:=h;rfl
 ·obtain⟨a,zs,rfl,e,hA,hlen,hok,k⟩:=h;have hr1:Room 1 _:=hr.mono (by decide);refine⟨_,ag (aP (PW.pt (pw_or (dc (db (aB cA rfl T.isin boot_isinstance (aa (pv 0) (aa (gg (v:=.ty "tuple") rfl T.tuple boot_tuple rfl) ae))) (λ_=>rfl)))
    (pw_or1 (dc (db (aB (jU rfl) rfl T.all boot_all (aa (dA (N:=["part"]) (k:=1) (js:=[]) (g:=bj 0) rfl (cF rfl (by decide +kernel) (by decide +kernel) (by decide +kernel)) rfl (λi j x h=>by simp at h)
     (cx (pv 0)) (λs H fp=>aE (i:=0) (show(["part"]:List Str).Nodup by decide +kernel) rfl (Or.inl rfl) (Or.inr rfl))
     (λs H fp=>al (X:=di _ _ _ _ _ _ _) GN hr rfl mN kN bN .nil aF (aa (pv 0) ae))) ae)) (λ_=>rfl)))))) (ak (av eW)) ay)
   (ag (aP (PW.pt (pw_or (dc (db (al GR hr1 rfl mR kR bR .nil aF (aa (pv 0) ae)) (λ_=>rfl))) (pw_or1 (dc (db (al GO hr1 rfl mO kO bO .nil aF (aa (pv 0) ae)) (λ_=>rfl)))))) (ak (av eW)) ay)
   (ak (av (dt cD (aB aK rfl T.len boot_len (aa (al GI hr1 rfl mI kI bI .nil aF (aa (pv 0) (aa (gf (v:=.int 0) rfl hT ⟨_,rfl⟩) ae))) ae)) (aB aK rfl T.len boot_len (aa (pv 0) ae)) (aw _))))),?_⟩
  refine⟨_,rfl,_,_,_,_,rfl,.tup e,(by kernel_rfl:_=some true),_,rfl,aI ?_⟩;refine⟨_,rfl,a,rfl,⟨_,SqT.of e⟩,λp hp=>?_⟩;refine dL (fr:=[]) zs (λz=>V.ref z.1) (by omega) hp (dJ (by rw[cm];exact SqT.of e)) rfl (λz y _=>y=.bl true) (λz y H H' h _=>h) (λz H' kk mz s1 _ hk=>?_) (λys H1 s1 hp1 hys=>?_)
  ·exact⟨_,rfl,z.1,z.2,rfl,s1 _ _ (hA z mz),hok z.2 (bY mz),λH3 s3=>hk _ H3 s3 rfl⟩
  ·have ey:=ck (f:=λ_:Addr×Nd=>V.bl true) hys (λz y _ h=>h);have e2:ys=(zs.map λ_=>true).map V.bl:=by rw[ey,map_map];rfl
   refine⟨p,zs.map λ_=>true,rfl,SqL.of (by rw[hp1,e2]),_,rfl,?_⟩;have et:(zs.map λ_=>true).all id=true:=by simp
   rw[et];refine aI ?_;refine⟨_,rfl,a,zs,rfl,s1 _ _ e,hA.same s1,by omega,λH2 s2=>⟨_,rfl,?_⟩⟩;have s12:=s1.trans s2;cases hR:TW.adj (nds zs)with
   |false =>
    refine aQ (aQ (k false H2 ?_ s12));constructor
    ·intro h;cases h
    ·intro h;have:=(TW.nb _).mpr h.rise;rw[hR]at this;cases this
   |true =>
    have hR':=(TW.nb _).mp hR;refine aI ⟨_,rfl,a,zs,rfl,s12 _ _ e,hA.same s12,hlen,λb H3 hb s3=>⟨_,rfl,?_⟩⟩;have s13:=s12.trans s3;cases b with
    |false =>
     refine aQ (k false H3 ?_ s13);constructor
     ·intro h;cases h
     ·intro h;exact hb.mpr h.own
    |true =>
     have hO:=hb.mp rfl;refine aI ⟨_,rfl,a,0,zs,rfl,s13 _ _ e,hA.same s13,by omega,λfd dn l H4 wk el s4=>?_⟩;have s14:=s13.trans s4;refine⟨l,_,rfl,.inl (SqL.of el),_,rfl,a,_,rfl,.inr (SqT.of (s14 _ _ e)),rfl,k _ H4 ?_ s14⟩;rw[decide_eq_true_eq,be];have wa:=wk.all;rw[aJ]at wa;constructor
     ·intro h;injection h with h
      refine⟨hR',hO,wa.mp ?_⟩;simp only[dE,length_map]at h;omega
     ·intro h;have:=wa.mpr h.down;simp only[dE,length_map];rw[this]
end
def wb(r:Row):Prop:=0≤r.k∧r.k≤60∧∀n,r.n=some n→eR n
def apS(i:Nat):Stmt:=(br cC).getD i (.Pass ⟨0,0,0,0⟩)
def AN:List Str:=["tree","change","parts","number","old","new","behind"]
theorem tf:FnScope AN ["tree","change"] (ai cC):=fsc
abbrev ApX(P:Program)(w:World)(K:PySem.W.Frag)(mg:Str→Option Value)(base:Heap)(f:Addr)(cdv:Value)(A:Around)(outer:List Env)(s:Shared)(H:Hp)(E:XK):Cx:=gF (CX1 P w) P w K mg base AN "applied" (ai cC) f cdv A outer s H E
structure Ap(H0 H:Hp)(d:Addr)(t:List Nd)(es:ZR)(n0 i:Nat)(kvs:List (Key×V))(ks:List Int)(M:Int→Option Nd):Prop where
 s0:Same H0 H
 dict:H d=some (.dK kvs)
 pd:PD H kvs ks M
 len:ks.length≤n0+i
 hit:∀e∈es.take i,M e.2.k=e.2.n
 miss:∀k,(∀e∈es.take i,e.2.k≠k)→M k=TW.aC t k
 fit:∀e∈es.take i,e.2.o=TW.aC t e.2.k
 ok:∀k n,M k=some n→eR n
theorem Ap.kv{H0 H:Hp}{d:Addr}{t:List Nd}{es:ZR}{n0 i:Nat}{kvs:List (Key×V)}{ks:List Int}{M:Int→Option Nd}(h:Ap H0 H d t es n0 i kvs ks M):kvs.length=ks.length:=by
 have:=congrArg length h.pd.keys;rw[length_map,length_map]at this;exact this
theorem rS{es:ZR}(hnd:(es.map (·.2.k)).Nodup){i:Nat}{e:Addr×Row}(ge:es[i]?=some e):∀x∈es.take i,x.2.k≠e.2.k:=λx hx h=>by
 obtain⟨j,hj,ej⟩:=List.getElem_of_mem hx;have hji:j<i:=by rw[length_take]at hj;omega
 have hi:i<es.length:=(List.getElem?_eq_some_iff.mp ge).1;have e1:(es.map (·.2.k))[j]'(by rw[length_map];omega)=(es.map (·.2.k))[i]'(by rw[length_map];omega):=by
  rw[getElem_map,getElem_map,(List.getElem?_eq_some_iff.mp ge).2];rw[getElem_take]at ej;rw[ej];exact h
 have:=(getElem_inj hnd).mp e1;omega
theorem zG{k:Int}{o o':Option Nd}(h:∀n,o=some n→n.num=k)(h':∀n,o'=some n→n.num=k):decide (o.map aN=o'.map aN)=decide (o=o'):=by
 have:=(show vA ⟨k,o,o'⟩from⟨h,h'⟩).eq;rw[Bool.eq_iff_iff,decide_eq_true_eq,decide_eq_true_eq];exact this
section
variable{P:Program}{w:World}{K:PySem.W.Frag}{mg:Str→Option Value}{base:Heap}{f:Addr}{cdv:Value}{A:Around}{outer:List Env}{s:Shared}{H0:Hp}{E:XK}
theorem xJ{CN:Addr}(O:jb "NoMatch" mg base CN)(hr:Room 1 (A.deeper (PyProof.Rows.envOfC "applied" (ai cC) s.heap.objs.size f cdv))):
  ∃rd,PS (ApX P w K mg base f cdv A outer s H0 E) (apS 1) rd∧∀(D:Ends)(H:Hp)(a c d:Addr)(t:List Nd)(es:ZR)(n0:Nat)(kvs:List (Key×V))(ks:List Int)(M:Int→Option Nd),H0 d=none→H c=some (.tup (cw es))→(∀e∈es,RowAt H e.1 e.2)→(∀e∈es,wb e.2)→(es.map (·.2.k)).Nodup→n0+es.length≤60→(∀e∈es,RowAt H0 e.1 e.2)→H0 c=some (.tup (cw es))→Ap H0 H d t es n0 0 kvs ks M →
   (∀H',Same H0 H'→¬TW.vC t (ba es)→E (.ref CN) none H') →
   (∀x3 x4 x5 H' kvs ks M,Ap H0 H' d t es n0 es.length kvs ks M→D.nx [some (.ref a),some (.ref c),some (.ref d),x3,x4,x5,none] H')→rd D [some (.ref a),some (.ref c),some (.ref d),none,none,none,none] H:=by
 refine⟨_,dQ (yP bH) rfl (cx (pv 1)) (pE (n:=3) rfl (cV (aE (i:=3) tf.nd rfl (Or.inl rfl)) (cV (aE (i:=4) tf.nd rfl (Or.inl rfl)) (cV (aE (i:=5) tf.nd rfl (Or.inl rfl)) lT))))
  (ag (aP (am (qq (bi hr)) (fg (bi hr) (pv 2) (pv 3) ⟨rfl,rfl,rfl,rfl⟩) (pv 4) (aw _)) (ak (cG bH O hr.hd rfl (ic (dB (c:=100) (by decide +kernel) (iM (pv 3) (dB (c:=100) (by decide +kernel) jY))) (by decide)))) ay)
  (ak (jm (bi hr) (pv 2) (pv 3) (pv 5) rfl))),?_⟩
 intro D H a c d t es n0 kvs ks M hd0 hc0 hrows0 hok hnd hlen hrows hc J0 qE qn;refine⟨_,rfl,c,rfl,⟨_,SqT.of hc0⟩,lV (xs:=cw es) (λi σ H'=>∃x3 x4 x5 kvs ks M,σ=[some (.ref a),some (.ref c),some (.ref d),x3,x4,x5,none]∧Ap H0 H' d t es n0 i kvs ks M) ⟨none,none,none,_,_,_,rfl,J0⟩ (λi σ H' _ ⟨_,_,_,_,_,_,_,J⟩=>SqT.of (J.s0 _ _ hc)) (λi x σ H' hx h=>?_) (λσ H' h=>?_)⟩
 ·obtain⟨x3,x4,x5,kvs,ks,M,rfl,J⟩:=h;unfold cw at hx;rw[getElem?_map]at hx;cases gx:es[i]? with
  |none=>rw[gx]at hx;cases hx
  |some e =>
   rw[gx]at hx;cases hx;have me:=mem_of_getElem? gx;have hi:i<es.length:=(List.getElem?_eq_some_iff.mp gx).1;obtain⟨⟨vo,vn,h1,h2,h3⟩,rn⟩:=(hrows e me).same J.s0;obtain⟨r0,r1,r2⟩:=hok e me;have hMk:M e.2.k=TW.aC t e.2.k:=J.miss _ (rS hnd gx);refine⟨e.1,_,rfl,SqT.of h1,rfl,_,_,rfl,_,_,rfl,_,_,rfl,rfl,?_⟩;refine⟨_,rfl,d,rfl,.inl ⟨_,.inl J.dict⟩,_,rfl,_,cN.k (k:=Sum.inl e.2.k) J.dict,_,rfl,_,_,(J.pd.val e.2.k).ot,h2.ot,_,rfl,?_⟩;rw[zG (J.pd.num e.2.k) rn.1]
   by_cases z:M e.2.k=e.2.o
   ·rw[decide_eq_true z];obtain⟨ks',hl',pd'⟩:=J.pd.put J.dict (k:=e.2.k) h3 rn.2;refine aI ⟨_,rfl,_,rfl,_,rfl,d,_,rfl,mv.k (k:=Sum.inl e.2.k) J.dict (ax (by rw[J.kv];have:=J.len;omega)),_,_,_,_,ks',_,rfl,aM hd0 J.s0,ac,pd',by have:=J.len;omega,λx hx=>?_,λk hk=>?_,λx hx=>?_,λk n hn=>?_⟩
    ·rw[cB gx]at hx;show(if x.2.k=e.2.k then e.2.n else M x.2.k)=x.2.n;rcases mem_append.mp hx with hx|hx
     ·rw[if_neg (rS hnd gx x hx)];exact J.hit x hx
     ·have ex:x=e:=by simpa using hx
      rw[ex,if_pos rfl]
    ·rw[cB gx]at hk;show(if k=e.2.k then e.2.n else M k)=_;rw[if_neg (λz=>hk e (mem_append.mpr (.inr (by simp))) z.symm)];exact J.miss k λx hx=>hk x (mem_append.mpr (.inl hx))
    ·rw[cB gx]at hx;rcases mem_append.mp hx with hx|hx
     ·exact J.fit x hx
     ·have ex:x=e:=by simpa using hx
      rw[ex,←z,hMk]
    ·by_cases ek:k=e.2.k
     ·have hn':(if k=e.2.k then e.2.n else M k)=some n:=hn;rw[if_pos ek]at hn';exact r2 n hn'
     ·have hn':(if k=e.2.k then e.2.n else M k)=some n:=hn;rw[if_neg ek]at hn';exact J.ok k n hn'
   ·rw[decide_eq_false z];refine aQ ⟨_,rfl,e.2.k,rfl,r0,r1,λy=>⟨ao (show 1≤1000 by decide),qE H' J.s0 λhf=>z ?_⟩⟩;rw[hMk];exact(hf e.2 (mem_map.mpr ⟨e,me,rfl⟩)).symm
 ·obtain⟨x3,x4,x5,kvs,ks,M,rfl,J⟩:=h;have e1:(cw es).length=es.length:=by unfold cw;rw[length_map]
  rw[e1]at J;exact qn x3 x4 x5 H' kvs ks M J
end
theorem xK{α:Type}{ms:List Int}{M:Int→Option α}{bs:List (Int×(Addr×α))}(h:bs.map (·.1)=ms.filter λk=>(M k).isSome)(hb:∀x∈bs,M x.1=some x.2.2):bs.map (·.2.2)=ms.filterMap M:=by
 have e1:ms.filterMap M=(ms.filter λk=>(M k).isSome).filterMap M:=by
  clear h hb
  induction ms with
  |nil=>rfl
  |cons k ms ih =>
   cases e:M k with
   |none=>rw[filterMap_cons_none e,filter_cons_of_neg (by rw[e];simp),ih]
   |some n=>rw[filterMap_cons_some e,filter_cons_of_pos (by rw[e];rfl),filterMap_cons_some e,ih]
 rw[e1,←h];clear h e1
 induction bs with
 |nil=>rfl
 |cons b bs ih =>
  rw[map_cons,map_cons,filterMap_cons_some (hb b mem_cons_self),ih λx hx=>hb x (mem_cons_of_mem _ hx)]
section
variable{P:Program}{w:World}{K:PySem.W.Frag}{mg:Str→Option Value}{base:Heap}{f:Addr}{cdv:Value}{A:Around}{outer:List Env}{s:Shared}{H0:Hp}{E:XK}
theorem tm(T:Txt mg)(hr:Room 1 (A.deeper (PyProof.Rows.envOfC "applied" (ai cC) s.heap.objs.size f cdv))):
  ∃rd,PS (ApX P w K mg base f cdv A outer s H0 E) (apS 2) rd∧∀(D:Ends)(H:Hp)(a c d:Addr)(t:List Nd)(es:ZR)(n0:Nat)(kvs:List (Key×V))(ks:List Int)(M:Int→Option Nd)(x3 x4 x5:Option V),Ap H0 H d t es n0 es.length kvs ks M→n0+es.length≤60 →
   (∀(us:ZN)(ms:List Int)(t':Addr)(H':Hp),Same H0 H'→H' t'=some (.tup (aW us))→At H' us→ms.Perm ks→ms.Pairwise (· < ·)→nds us=ms.filterMap M→D.nx [some (.ref a),some (.ref c),some (.ref d),x3,x4,x5,some (.ref t')] H')→rd D [some (.ref a),some (.ref c),some (.ref d),x3,x4,x5,none] H:=by
 refine⟨_,aA (i:=6) tf.nd rfl (Or.inl rfl) (aO bh rfl T.tuple rfl (aa (iE (N:=["number","parts"]) (cl:=[("parts",s.heap.objs.size+1)]) (k:=1) (js:=[2]) (g:=bj 0) rfl
    (LcOk.mk' ["parts"] rfl rfl (by decide +kernel) (by decide +kernel) ?hcl rfl (by decide +kernel)) rfl ?hj (cR (aB (kG rfl) rfl T.sorted boot_sorted (aa (pv 2) ae))) (λs H fp=>aE (i:=0) (show(["number","parts"]:List Str).Nodup by decide +kernel) rfl (Or.inl rfl) (Or.inr rfl))
    (λs H fp=>am lZ (cS (bi hr) (pv 1) (pv 0) (λ_ _=>rfl)) cM (aw _)) (λs H fp=>aD (r:=tT K) gU (bn (aa (pv 0) ae)) (cS (bi hr) (pv 1) (pv 0) (λ_ _=>rfl)))) ae)),?_⟩
 case hcl =>
  intro y hy;rcases mem_cons.mp hy with e|hy
  ·rw[e];rfl
  ·cases hy
 case hj =>
  intro i j x h1 h2
  match i,h1,h2 with
  |0,h1,h2 =>
   cases h1;cases h2;exact⟨rfl,Or.inr (Or.inl rfl),(show((ai cC).names.lookup ("parts":Str)≠some NameKind.local)by decide +kernel),by first|exact Or.inl rfl|exact Or.inr rfl⟩
  |i+1,h1,h2=>simp at h1
 intro D H a c d t es n0 kvs ks M x3 x4 x5 J hlen q;have hkl:ks.length≤60:=le_trans J.len hlen;refine⟨_,rfl,d,kvs,ks,rfl,.inl J.dict,J.pd.keys,J.pd.nd,hkl,λms hperm hup l hl=>?_⟩;have s1:=af (o:=.lst (ms.map V.int)) hl;have g1:upd H l (.lst (ms.map V.int)) l=some (.lst (ms.map V.int)):=ac;generalize upd H l (.lst (ms.map V.int))=H1 at s1 g1⊢;have hml:ms.length≤60:=by rw[hperm.length_eq];exact hkl
 refine⟨l,rfl,⟨_,SqL.of g1⟩,λp hp=>?_⟩;have ex:∀{k:Int}{H':Hp},k∈ms→Same H1 H'→∃v,cN H' d (.int k) (some v)∧cg H' v (M k):=λ{k H'} hk s2=>by
  obtain⟨v,hv⟩:=J.pd.has (hperm.mem_iff.mp hk);have hd':H' d=some (.dK kvs):=s2 _ _ (s1 _ _ J.dict);have hval:=((J.pd.val k).same s1).same s2;rw[hv]at hval;have g:=cN.k (k:=Sum.inl k) hd';rw[hv]at g;exact⟨v,g,hval⟩
 refine iN (fr:=[some (.ref d)]) ms V.int (by omega) hp (ie (SqL.of g1)) rfl (λk=>(M k).isSome) (λk y H'=>∃q n,y=.ref q∧q≠p∧M k=some n∧H' q=some (.tup (vals n))) (λk y H H' ⟨q,n,e,ne,e2,h⟩ ex=>⟨q,n,e,ne,e2,ex q _ ne h⟩) (λk H' kk mk s2 _ hk=>?_) (λk H' kk mk hs s2 hpl hk=>?_) (λys H' s2 hp' hys=>?_)
 ·obtain⟨v,g,ov⟩:=ex mk s2;refine⟨_,rfl,_,rfl,d,_,rfl,g,rfl,_,rfl,?_⟩;have e:(!decide (v=V.non))=(M k).isSome:=by
   rcases ov with⟨e,e2⟩|⟨q,n,e,_,e2⟩
   ·rw[e,e2];rfl
   ·rw[e,e2];rfl
  rw[e];exact hk H' (Same.refl _)
 ·obtain⟨v,g,ov⟩:=ex mk s2;rcases ov with⟨e,e2⟩|⟨q,n,e,hq,e2⟩
  ·rw[e2]at hs;cases hs
  ·subst e;have s3:∀{c:Addr},H' c=none→Same H' (upd H' c (.tup [.int k])):=λhc=>af hc;refine⟨_,rfl,(show 1≤sizeLine from ao (by decide)),λc1 hc1=>?_⟩;have s4:=s3 hc1;have g4:cN (upd H' c1 (.tup [.int k])) d (.int k) (some (.ref q)):=by
    obtain⟨v',g',_⟩:=ex mk (s2.trans s4);have e1:=g'.eqK (s4 _ _ (s2 _ _ (s1 _ _ J.dict)));have e2:=g.eqK (s2 _ _ (s1 _ _ J.dict));rw[e2,←e1];exact g'
   refine⟨_,rfl,_,rfl,d,_,rfl,g4,c1,q,_,_,rfl,rfl,SqT.of ac,SqT.of (s4 _ _ hq),by simp,(show 4≤sizeLine from ao (by decide)),λh=>absurd h (cons_ne_nil _ _),λ_ q2 hq2=>?_⟩;have hpl2:∃ys,upd H' c1 (.tup [.int k]) p=some (.lst ys):=let⟨ys,e⟩:=hpl;⟨ys,s4 _ _ e⟩;refine hk _ _ (s4.trans (af hq2)) ⟨q2,n,rfl,dj hpl2 hq2,e2,?_⟩;rw[ac];have en:=J.pd.num k n e2;show some (HO.tup ([.int k]++aN n))=some (.tup (vals n));rw[←en];rfl
 ·obtain⟨bs,b1,b2,b3⟩:=cP (val:=λb:Addr×Nd=>V.ref b.1) (S:=λ(k:Int) (b:Addr×Nd)=>M k=some b.2∧H' b.1=some (.tup (vals b.2))) hys (λk y _ ⟨q,n,e,_,e2,h⟩=>⟨(q,n),e,e2,h⟩);refine⟨p,_,rfl,.inl ⟨SqL.of hp',λt' ht'=>?_⟩⟩;have s3:=af (o:=.tup ys) ht';refine q (bs.map (·.2)) ms t' _ (((J.s0.trans s1).trans s2).trans s3) (by rw[ac,b2,←cm,map_map];rfl) (λz hz=>?_) hperm hup ?_
  ·obtain⟨x,hx,rfl⟩:=mem_map.mp hz;exact s3 _ _ (b3 x hx).2
  ·have:=xK (bs:=bs) b1 λx hx=>(b3 x hx).1;rw[←this];unfold nds;rw[map_map];rfl
def pD(CN:Addr):Sp:=λvs H Q E=>∃t c zs es,vs=[.ref t,.ref c]∧Tre H t zs∧(∀n∈nds zs,eR n)∧ChgAt H c es∧(es.map (·.2.k)).Nodup∧(∀e∈es,wb e.2)∧zs.length+es.length≤60 ∧
 (∀us t' H',Same H H'→H' t'=some (.tup (aW us))→At H' us→TW.Appl (nds zs) (ba es) (some (nds us))→Q (.ref t') H')∧∀H',Same H H'→TW.Appl (nds zs) (ba es) none→E (.ref CN) none H'
theorem zH{f CN:Addr}{fd:FuncData}(F:Fun K "applied" "applied" cC f fd)(T:Txt mg)(O:jb "NoMatch" mg base CN)(CP:Has P w K mg base 1 "parts_by_number" ["tree"] nB)(CT:Has P w K mg base 4 "is_tree" ["thing"] nL):FnOk P w K mg base (CX1 P w) 5 f fd ["tree","change"] (pD CN):=by
 obtain⟨fP,fdP,GP,mP,kP,bP⟩:=CP;obtain⟨fT,fdT,GT,mT,kT,bT⟩:=CT;refine F.okX tf (λvs H Q E h=>?_) (λcdv A outer s H vs Q E hr h=>?_)
 ·obtain⟨t,c,zs,es,rfl,_⟩:=h;rfl
 ·obtain⟨t,c,zs,es,rfl,tr,hok,hc,hnd,hro,hlen,qo,qE⟩:=h;have hr1:Room 1 _:=hr.mono (by decide);obtain⟨t1,p1,h1⟩:=xJ (P:=P) (w:=w) (K:=K) (f:=f) (cdv:=cdv) (A:=A) (outer:=outer) (s:=s) (H0:=H) (E:=E) O hr1;obtain⟨t2,p2,h2⟩:=tm (P:=P) (w:=w) (K:=K) (base:=base) (f:=f) (cdv:=cdv) (A:=A) (outer:=outer) (s:=s) (H0:=H) (E:=E) T hr1;refine⟨_,ag (aA (i:=2) tf.nd rfl (Or.inr rfl) (al GP hr1 rfl mP kP bP .nil aF (aa (pv 0) ae)))
   (ag p1 (ag p2 (ag (aP (dc (db (al GT hr rfl mT kT bT .nil aF (aa (pv 6) ae)) (λ_=>rfl))) (ak (cG bH O hr.hd rfl aY)) ay)
   (ak (av (pv 6)))))),?_⟩
  refine⟨_,rfl,t,zs,rfl,tr,λd as H1 s1 hd0 bk hd=>?_⟩;have hT:=tr.tr;have J0:Ap H H1 d (nds zs) es zs.length 0 (aU as) ((nds zs).map (·.num)) (TW.aC (nds zs)):=⟨s1,hd,PD.book bk hd hT,by rw[length_map,aJ];exact le_refl _,by simp,λk _=>rfl,by simp,λk n hn=>hok n (TW.ca hn).1⟩;refine h1 _ H1 t c d (nds zs) es zs.length _ _ _ hd0 (s1 _ _ hc.tup) (λe he=>(hc.at' e he).same s1) hro hnd hlen hc.at' hc.tup J0 (λH' s' hf=>qE H' s' (.unfit hf)) λx3 x4 x5 H2 kvs ks M J=>?_;refine h2 _ H2 t c d (nds zs) es zs.length kvs ks M x3 x4 x5 J hlen λus ms t' H3 s3 ht' hA hperm hup hnds=>?_;have hks:ks.length≤60:=le_trans J.len hlen;have hul:us.length≤60:=by
   have h1:(nds us).length≤ms.length:=by rw[hnds];exact List.length_filterMap_le _ _
   rw[aJ,hperm.length_eq]at h1;omega
  have huo:∀n∈nds us,eR n:=λn hn=>by
   rw[hnds]at hn;obtain⟨k,_,hk⟩:=mem_filterMap.mp hn;exact J.ok k n hk
  have tk:es.take es.length=es:=take_length;have hfit:TW.vC (nds zs) (ba es):=λr hr=>by
   obtain⟨e,he,rfl⟩:=mem_map.mp hr;exact J.fit e (by rw[tk];exact he)
  have hto:TW.AppTo (nds zs) (ba es) (nds us):=by
   have hf:∀k,TW.aC (nds us) k=M k:=λk=>by
    rw[hnds,TW.sX hup J.pd.num k]
    by_cases hk:k∈ms
    ·rw[if_pos hk]
    ·rw[if_neg hk,J.pd.out λh=>hk (hperm.mem_iff.mpr h)]
   refine⟨by rw[hnds];exact TW.lQ hup J.pd.num,λr hr=>?_,λk hk=>?_⟩
   ·obtain⟨e,he,rfl⟩:=mem_map.mp hr;rw[hf];exact J.hit e (by rw[tk];exact he)
   ·rw[hf];refine J.miss k λe he=>hk e.2 ?_;rw[tk]at he;exact mem_map.mpr ⟨e,he,rfl⟩
  refine⟨_,rfl,t',us,rfl,ht',hA,hul,huo,λb H4 hb s4=>⟨_,rfl,?_⟩⟩;cases b with
  |true=>exact aI ⟨_,rfl,qo us t' H4 (s3.trans s4) (s4 _ _ ht') (hA.same s4) (.ok hfit hto (hb.mp rfl))⟩
  |false=>exact aQ ⟨ao (show 1≤1000 by decide),qE H4 (s3.trans s4) (.notree hto λh=>by have:=hb.mpr h;cases this)⟩
end
def OWN:List Str:=["_law_script","_law_trees","_law_watch","_law_deeds","_law_j","_law_deed_here","_law_behind","_law_one","_law_other","_law_first","_law_second"]
theorem ji:FnScope OWN ["_law_script"] (ai fw):=fsc
abbrev OWX(P:Program)(w:World)(K:PySem.W.Frag)(mg:Str→Option Value)(base:Heap)(f:Addr)(cdv:Value)(A:Around)(outer:List Env)(s:Shared)(H:Hp)(E:XK):Cx:=(gF CX0 P w K mg base OWN "_law_once" (ai fw) f cdv A outer s H E).nox
def owS(i:Nat):Stmt:=(br fw).getD i (.Pass ⟨0,0,0,0⟩)
abbrev owσ(a lt w ld:Addr)(x4 x5 x6 x7 x8 x9 x10:Option V):St:=[some (.ref a),some (.ref lt),some (.ref w),some (.ref ld),x4,x5,x6,x7,x8,x9,x10]
structure LDs(H:Hp)(ld:Addr)(ds:List (Addr×TW.Deed Str))(T:List (List Nd)):Prop where
 lst:H ld=some (.lst (ds.map λx=>V.ref x.1))
 at':∀x∈ds,H x.1=some (.tup (bQ x.2))
 fine:∀x∈ds,cv x.2
 len:T.length=ds.length+1
 told:∀i x,ds[i]?=some x→TW.Told (T.getD i []) x.2 (.inr (T.getD (i+1) []))
theorem LDs.same{H H':Hp}{ld:Addr}{ds:List (Addr×TW.Deed Str)}{T:List (List Nd)}(h:LDs H ld ds T)(s:Same H H'):LDs H' ld ds T:=⟨s _ _ h.lst,λx hx=>s _ _ (h.at' x hx),h.fine,h.len,h.told⟩
theorem LDs.off{H H':Hp}{ld:Addr}{ds:List (Addr×TW.Deed Str)}{T:List (List Nd)}(h:LDs H ld ds T){S:List Addr}(of:Off S H H')(tS:ci H H')(n:ld∉S):LDs H' ld ds T:=⟨of _ _ h.lst n,λx hx=>tS _ _ (h.at' x hx),h.fine,h.len,h.told⟩
theorem LDs.next{H H':Hp}{ld d:Addr}{dd:TW.Deed Str}{ds:List (Addr×TW.Deed Str)}{T:List (List Nd)}{u:List Nd}(h:LDs H ld ds T)(tS:ci H H')(hl:H' ld=some (.lst ((ds++[(d,dd)]).map λx=>V.ref x.1)))(hd:H d=some (.tup (bQ dd)))(hf:cv dd)(told:TW.Told (T.getD (T.length-1) []) dd (.inr u)):LDs H' ld (ds++[(d,dd)]) (T++[u]):=by
 have hlen:=h.len;refine⟨hl,λx hx=>?_,λx hx=>?_,by rw[length_append,length_append,hlen];rfl,λi x hi=>?_⟩
 ·rcases mem_append.mp hx with hx|hx
  ·exact tS _ _ (h.at' x hx)
  ·have:x=(d,dd):=by simpa using hx
   rw[this];exact tS _ _ hd
 ·rcases mem_append.mp hx with hx|hx
  ·exact h.fine x hx
  ·have:x=(d,dd):=by simpa using hx
   rw[this];exact hf
 ·by_cases hlt:i<ds.length
  ·rw[getElem?_append_left hlt]at hi;rw[eJ (by omega),eJ (by omega)];exact h.told i x hi
  ·have hi2:i<(ds++[(d,dd)]).length:=(List.getElem?_eq_some_iff.mp hi).1;rw[length_append]at hi2;have ei:i=ds.length:=by
    have:i<ds.length+1:=hi2;omega
   subst ei;rw[getElem?_append_right (le_refl _),sub_self]at hi;have ex:(d,dd)=x:=Option.some.inj hi;subst ex;rw[show ds.length+1=T.length by omega,pC,eJ (by omega)];rw[show T.length-1=ds.length by omega]at told;exact told
structure LX(C:Addr)(H0 H:Hp)(lt w kl ml ld:Addr)(ts:List (Addr×ZN))(ds:List (Addr×TW.Deed Str))(t:Addr)(z:ZN)(ks:List (Addr×ZR))(M:List Int)(b:Nat):Prop where
 lw:LW C H0 H lt w kl ml ts t z 30 ks M b
 dl:LDs H ld ds (ts.map λx=>nds x.2)
 f5:H0 ld=none
 n4:ld≠lt
 n5:ld≠w
 n6:ld≠kl
 n7:ld≠ml
theorem LX.same{C:Addr}{H0 H H':Hp}{lt w kl ml ld:Addr}{ts:List (Addr×ZN)}{ds:List (Addr×TW.Deed Str)}{t:Addr}{z:ZN}{ks:List (Addr×ZR)}{M:List Int}{b:Nat}(h:LX C H0 H lt w kl ml ld ts ds t z ks M b)(s:Same H H'):LX C H0 H' lt w kl ml ld ts ds t z ks M b:=⟨h.lw.same s,h.dl.same s,h.f5,h.n4,h.n5,h.n6,h.n7⟩
section
variable{P:Program}{w:World}{K:PySem.W.Frag}{mg:Str→Option Value}{base:Heap}{f C:Addr}{cdv:Value}{A:Around}{outer:List Env}{s:Shared}{H0:Hp}{E:XK}{cls:TW.Wd→Addr}
theorem ow3(T:Txt mg)(TC:WCls K mg C)(hr:Room 5 (A.deeper (PyProof.Rows.envOfC "_law_once" (ai fw) s.heap.objs.size f cdv)))(CP:Has P w K mg base 2 "_law_pick" ["_law_script","_law_k","_law_many"] (eV K))(CE:Has P w K mg base 3 "_law_deed" ["_law_script","_law_at","_law_tree_here"] (nI K))(CL:Has P w K mg base 2 "_law_done" ["_law_tree_here","_law_deed_here"] ju){fD:Addr}{fdD:FuncData}(GD:FnOk P w K mg base (CX1 P w) 5 fD fdD ["self","deed"] (ir C cls))(mD:Meth K C "deed" fD)(bD:bf K fdD ["self","deed"] []):
  ∃rd,PS (OWX P w K mg base f cdv A outer s H0 E) (owS 3) rd∧∀(D:Ends)(H1 H:Hp)(a lt p kl ml ld t:Addr)(ts:List (Addr×ZN))(ds:List (Addr×TW.Deed Str))(z:ZN)(ks:List (Addr×ZR))(M:List Int)(x4 x5 x6 x7 x8 x9 x10:Option V),eZ K H1 a→LX C H1 H lt p kl ml ld ts ds t z ks M 0 →
   (∀H' ts' ds' t' z' ks' M' b x4 x5 x6,b≤9→LX C H1 H' lt p kl ml ld ts' ds' t' z' ks' M' b→D.nx (owσ a lt p ld x4 x5 x6 x7 x8 x9 x10) H')→rd D (owσ a lt p ld x4 x5 x6 x7 x8 x9 x10) H:=by
 obtain⟨fP,fdP,GP,mP,kP,bP⟩:=CP;obtain⟨fE,fdE,GE,mE,kE,bE⟩:=CE;obtain⟨fL,fdL,GL,mL,kL,bL⟩:=CL;have hr2:Room 2 _:=hr.mono (by decide);have hr3:Room 3 _:=hr.mono (by decide);refine⟨_,dQ PassesOwn.never rfl (iw rfl T.range (aa (al GP hr2 rfl mP kP bP .nil aF (aa (pv 0) (aa ah (aa ah ae)))) ae)) (aE (i:=4) ji.nd rfl (Or.inl rfl))
  (ag (aA (i:=5) ji.nd rfl (Or.inl rfl) (al GE hr3 rfl mE kE bE .nil aF (aa (pv 0) (aa (aD aZ ah (aD de ah (pv 4))) (aa (au bg (pv 1) (qH lY ah) (λ_ _=>rfl)) ae)))))
  (ag (aA (i:=6) ji.nd rfl (Or.inl rfl) (al GL hr2 rfl mL kL bL .nil aF (aa (au bg (pv 1) (qH lY ah) (λ_ _=>rfl)) (aa (pv 5) ae))))
  (ak (aP (dc (db (aB cA rfl T.isin boot_isinstance (aa (pv 6) (aa (gg (v:=.ty "str") rfl T.str boot_str rfl) ae))) (λ_=>rfl)))
   (ag (bq (dG (pv 2) TC.cl mD GD hr bD .nil gC (aa (pv 5) ae)))
   (ag (bq (eY plainAttrs_list PySem.F.slot_list_append PySem.F.type_list_append bv (pv 3) (aa (pv 5) ae)))
   (ak (bq (eY plainAttrs_list PySem.F.slot_list_append PySem.F.type_list_append bv (pv 1) (aa (pv 6) ae)))))) ay)))),?_⟩
 intro D H1 H a lt p kl ml ld t ts ds z ks M x4 x5 x6 x7 x8 x9 x10 hS L q;refine⟨_,rfl,a,_,_,rfl,by decide,by decide,hS.same L.lw.s0,λr H2 r0 r1 s2=>?_⟩;refine⟨r,rfl,by omega,by omega,?_⟩;refine ix (n:=r.toNat) (λi σ H'=>∃ts ds t z ks M x4 x5 x6,σ=owσ a lt p ld x4 x5 x6 x7 x8 x9 x10∧LX C H1 H' lt p kl ml ld ts ds t z ks M i) ⟨_,_,_,_,_,_,_,_,_,rfl,L.same s2⟩ (λi σ H' hi h=>?_) (λσ H' h=>?_)
 ·obtain⟨ts,ds,t,z,ks,M,y4,y5,y6,rfl,L⟩:=h;rw[show(0:Int)+(i:Int)=((i:Nat):Int)by omega];obtain⟨x,hx1,hx2,ex,hxa⟩:=L.lw.end;have hsz:=L.lw.sz x hx2;have hks:ks.length≤100:=by have h1:=L.lw.past.len;have h2:=L.lw.m5;omega
  refine⟨_,rfl,_,rfl,_,_,rfl,rfl,.inl ⟨by decide,by decide⟩,_,_,rfl,rfl,_,rfl,_,rfl,lt,_,_,_,rfl,rfl,SqL.of L.lw.lst,hxa,a,_,x.1,x.2,rfl,by omega,hS.same L.lw.s0,L.lw.tre x hx2,L.lw.ok x hx2,λc dd H3 s3 hc hf=>?_⟩;have L3:=L.same s3;refine⟨_,rfl,_,rfl,lt,_,_,_,rfl,rfl,SqL.of L3.lw.lst,hxa,_,rfl,x.1,c,dd,x.2,rfl,L3.lw.tre x hx2,by omega,hc,hf.ok,λu1 t1 H4 s4 ht1 hA1 told=>?_,λwd H4 s4 told=>?_⟩
  ·have L4:=L3.same s4;rw[ex]at told;refine⟨_,rfl,_,_,_,_,rfl,.tup ht1,(by kernel_rfl:_=some false),_,rfl,aQ ?_⟩;obtain⟨dx,hp⟩:=L4.lw.wat.ob;refine⟨_,rfl,p,dx,_,rfl,hp,fY (by decide +kernel) (by decide +kernel) (by decide +kernel) (by decide +kernel) (by decide +kernel),_,rfl,p,kl,ml,t,z,30,_,ks,[],c,dd,rfl,L4.lw.wat,?_,hks,by decide,s4 _ _ hc,hf.ok,λt' us cc es H5 told2 hch W of tS=>?_,λwd H5 s5 told2=>?_⟩
   ·have:=aJ x.2;rw[ex,aJ]at this;omega
   ·have eu:nds u1=nds us:=by
     have:=told.one L4.lw.wat.tr.tr told2;injection this
    have T1:Tre H4 t1 u1:=⟨ht1,hA1,by rw[eu];exact W.tr.tr,by
     have h1:=told.len;have h2:=aJ x.2;rw[aJ,←ex,h2]at h1;omega⟩
    have hld5:H5 ld=some (.lst (ds.map λx=>V.ref x.1)):=of _ _ L4.dl.lst (by simp[L4.n5,L4.n6]);have hdl:ds.length≤100:=by have h1:=L4.dl.len;have h2:=L4.lw.len;rw[length_map]at h1;omega
    refine⟨_,rfl,.inl ⟨rfl,_,SqL.of hld5⟩,_,rfl,ld,_,_,rfl,rfl,hld5,ax (by rw[length_map];omega),?_⟩;have t6:=kH (ys:=(ds.map λx=>V.ref x.1)++[.ref c]) hld5;have o6:Off [p,kl,ld] (show Hp from H4) (upd H5 ld (.lst ((ds.map λx=>V.ref x.1)++[.ref c]))):=λb o e hb=>by
     have h1:b≠ld:=λz=>hb (by rw[z];simp);rw[aj h1];exact of _ _ e λz=>hb (by rcases mem_cons.mp z with z|z<;>simp_all)
    have hl6:upd H5 ld (.lst ((ds.map λx=>V.ref x.1)++[.ref c])) ld=some (.lst ((ds++[(c,dd)]).map λx=>V.ref x.1)):=by rw[ac,map_append];rfl
    have W6:WAt C (upd H5 ld (.lst ((ds.map λx=>V.ref x.1)++[.ref c]))) p kl ml t' us 30 ((ts.length:Int)-1+1) (eI 30 (ks++[(cc,es)])) []:=W.off (S:=[ld]) (λb o e hb=>by rw[aj (by simpa using hb)];exact e) t6 (by simpa using Ne.symm L4.n5) (by simpa using Ne.symm L4.n6) (by simpa using Ne.symm L4.n7);generalize upd H5 ld (.lst ((ds.map λx=>V.ref x.1)++[.ref c]))=H6 at t6 o6 hl6 W6⊢;obtain⟨hlt6,L7⟩:=L4.lw.deedS hf told2 hch W6 o6 (λb hb=>by
     simp only[mem_cons,List.mem_nil_iff,or_false]at hb;rcases hb with e|e|e<;>rw[e]
     ·exact L4.lw.f2
     ·exact L4.lw.f3
     ·exact L4.f5) (by simp[L4.lw.n1,L4.lw.n2,Ne.symm L4.n4]) (tS.trans t6) (T1.ts (tS.trans t6)) eu
    refine⟨_,rfl,.inl ⟨rfl,_,SqL.of hlt6⟩,_,rfl,lt,_,_,rfl,rfl,hlt6,ax (by rw[length_map];have:=L.lw.len;omega),?_⟩;have t7:=kH (ys:=(ts.map λx=>V.ref x.1)++[.ref t1]) hlt6;refine⟨_,ds++[(c,dd)],_,_,_,_,_,_,_,rfl,L7,?_,L4.f5,L4.n4,L4.n5,L4.n6,L4.n7⟩;rw[map_append];refine L4.dl.next ((tS.trans t6).trans t7) (by rw[aj L4.n4];exact hl6) (s4 _ _ hc) hf ?_;rw[L4.lw.past.at_last];show TW.Told (nds z) dd (.inr (nds u1));rw[eu];exact told2
   ·exact absurd (told.one L4.lw.wat.tr.tr told2) (by intro h;cases h)
  ·refine⟨_,rfl,_,_,_,_,rfl,.str _,(by kernel_rfl:_=some true),_,rfl,aI ?_⟩;have L4:=L3.same s4;exact⟨_,_,_,_,_,_,_,_,_,rfl,L4.lw.more,L4.dl,L4.f5,L4.n4,L4.n5,L4.n6,L4.n7⟩
 ·obtain⟨ts,ds,t,z,ks,M,y4,y5,y6,rfl,L⟩:=h;exact q H' ts ds t z ks M r.toNat _ _ _ (by omega) L
end
theorem kY{t u:List Nd}{es:ZR}(h:TW.Chg t u (ba es))(ht:∀n∈t,eR n)(hu:∀n∈u,eR n):∀e∈es,wb e.2:=λe he=>by
 have hk:1≤e.2.k∧e.2.k≤60:=by
  rcases vI h he with hk|hk<;>obtain⟨m,hm,em⟩:=mem_map.mp hk<;>rw[←em]
  ·exact⟨(ht m hm).1,(ht m hm).2.1⟩
  ·exact⟨(hu m hm).1,(hu m hm).2.1⟩
 obtain⟨_,h2,_⟩:=(h.mem e.2).mp (mem_map.mpr ⟨e,he,rfl⟩);refine⟨by omega,hk.2,λn hn=>hu n ?_⟩;rw[h2]at hn;exact(TW.ca hn).1
theorem lR{t u:List Nd}{rs:List Row}(h:TW.Chg t u rs)(T:TW.Tree1 u):TW.Appl t rs (some u):=.ok h.fits (h.appTo T.rise) T.toTree
theorem eK{C CM:Addr}{H:Hp}{p kl ml t:Addr}{z:ZN}{ks:List (Addr×ZR)}{T:List (List Nd)}{M:List Int}(W:WAt C H p kl ml t z 30 ((T.length:Int)-1) ks [])(Pa:Past T (nds z) 30 ks M)(hM:M.length≤30)(hT:T.length≤20){k:Nat}(hk:k<T.length){Q:VK}{E:XK}(q:∀c es H',Same H H'→ChgAt H' c es→TW.Chg (T.getD k []) (nds z) (ba es)→Q (.ref c) H'):cZ C CM [.ref p,.int k] H Q E:=by
 have hl:=Pa.len;refine⟨p,kl,ml,t,z,30,_,ks,[],k,_,M,rfl,W,Pa.hist hM,by omega,by omega,by omega,λh=>?_,λ_ _ h=>?_,λj a1 a2 a3 c es H' s hc hch=>?_⟩
 ·omega
 ·omega
 ·refine q c es H' s hc ?_;have e1:T.length-1-ks.length+j=k:=by omega
  have e2:T.length-1-ks.length+ks.length=T.length-1:=by omega
  rw[e1,e2,Pa.at_last]at hch;exact hch
structure LT(H:Hp)(lt:Addr)(ts:List (Addr×ZN))(T:List (List Nd))(M:List Int):Prop where
 eT:T=ts.map λx=>nds x.2
 lst:H lt=some (.lst (ts.map λx=>V.ref x.1))
 tre:∀x∈ts,Tre H x.1 x.2
 ok:∀x∈ts,∀n∈nds x.2,eR n
 num:∀t∈T,∀n∈t,n.num∈M
 sz:∀x∈ts,x.2.length≤15
theorem LX.lt'{C:Addr}{H0 H:Hp}{lt w kl ml ld:Addr}{ts:List (Addr×ZN)}{ds:List (Addr×TW.Deed Str)}{t:Addr}{z:ZN}{ks:List (Addr×ZR)}{M:List Int}{b:Nat}(h:LX C H0 H lt w kl ml ld ts ds t z ks M b)(hb:b≤9):LT H lt ts (ts.map λx=>nds x.2) M :=
 ⟨rfl,h.lw.lst,h.lw.tre,h.lw.ok,h.lw.past.num,λx hx=>by have:=h.lw.sz x hx;omega⟩
theorem LT.get{H:Hp}{lt:Addr}{ts:List (Addr×ZN)}{T:List (List Nd)}{M:List Int}(h:LT H lt ts T M){k:Nat}(hk:k<ts.length):∃x,x∈ts∧nds x.2=T.getD k []∧atI (ts.map λx=>V.ref x.1) (k:Int)=some (.ref x.1)∧T.getD k []∈T:=by
 have e:T.getD k []=nds ts[k].2:=by rw[h.eT,getD_eq_getElem?_getD,getElem?_map,getElem?_eq_getElem hk];rfl
 refine⟨ts[k],getElem_mem hk,e.symm,md (by rw[getElem?_map,getElem?_eq_getElem hk];rfl),?_⟩;rw[e,h.eT];exact mem_map.mpr ⟨_,getElem_mem hk,rfl⟩
section
variable{P:Program}{w:World}{K:PySem.W.Frag}{mg:Str→Option Value}{base:Heap}{f C CM CN:Addr}{cdv:Value}{A:Around}{outer:List Env}{s:Shared}{H0:Hp}{E:XK}{cls:TW.Wd→Addr}
theorem ow7(TC:WCls K mg C)(hr:Room 5 (A.deeper (PyProof.Rows.envOfC "_law_once" (ai fw) s.heap.objs.size f cdv)))(CJ:Has P w K mg base 2 "joined" ["one","other"] vB){fS:Addr}{fdS:FuncData}(GS:FnOk P w K mg base (CX1 P w) 3 fS fdS ["self","mark"] (cZ C CM))(mS:Meth K C "since" fS)(bS:bf K fdS ["self","mark"] []):
  ∃rd,PS (OWX P w K mg base f cdv A outer s H0 E) (owS 7) rd∧∀(D:Ends)(H1 H:Hp)(a lt p kl ml ld t c1:Addr)(ts:List (Addr×ZN))(ds:List (Addr×TW.Deed Str))(z:ZN)(ks:List (Addr×ZR))(M:List Int)(b k k2:Nat)(e1:ZR)(x4 x5 x6 x10:Option V),LX C H1 H lt p kl ml ld ts ds t z ks M b→b≤9→k≤k2→k2<ts.length→ChgAt H c1 e1→TW.Chg ((ts.map λx=>nds x.2).getD k []) ((ts.map λx=>nds x.2).getD k2 []) (ba e1) →
   (∀H',Same H H'→D.nx (owσ a lt p ld x4 x5 x6 (some (.int k)) (some (.int k2)) (some (.ref c1)) x10) H')→rd D (owσ a lt p ld x4 x5 x6 (some (.int k)) (some (.int k2)) (some (.ref c1)) x10) H:=by
 obtain⟨fJ,fdJ,GJ,mJ,kJ,bJ⟩:=CJ;have hr2:Room 2 _:=hr.mono (by decide);have hr3:Room 3 _:=hr.mono (by decide);have hu4:=kb hr;refine⟨_,aP (am (pY hu4) (al GJ hr2 rfl mJ kJ bJ .nil aF (aa (pv 9) (aa (dG (pv 2) TC.cl mS GS hr3 bS .nil gC (aa (pv 8) ae)) ae))) (dG (pv 2) TC.cl mS GS hr3 bS .nil gC (aa (pv 7) ae)) (aw _)) (ak (av eW)) ay,?_⟩;intro D H1 H a lt p kl ml ld t c1 ts ds z ks M b k k2 e1 x4 x5 x6 x10 L hb hk hk2 hc1 hch1 q;have hlen:=L.lw.len;have hfew:=L.lw.few;have LT':=L.lt' hb;have hTl:(ts.map λx=>nds x.2).length=ts.length:=length_map ..;obtain⟨dx,hp⟩:=L.lw.wat.ob;have no:∀{t:Addr}{d:Int}{kl ml:Addr},(flW t 30 d kl ml).lookup ("since":Str)=none:=fY (by decide +kernel) (by decide +kernel) (by decide +kernel) (by decide +kernel) (by decide +kernel);have W0:=L.lw.wat;rw[←hTl]at W0;refine⟨_,rfl,_,rfl,p,dx,_,rfl,hp,no,_,rfl,?_⟩;dsimp only[gr,cons_append,nil_append,append_nil];refine eK W0 L.lw.past (by omega) (by omega) (k:=k2) (by omega) λc2 e2 H2 s2 hc2 hch2=>?_;have hzm:∀n∈nds z,n.num∈M:=L.lw.past.num _ (mem_of_getElem? L.lw.past.last);obtain⟨_,_,_,_,m1⟩:=LT'.get (k:=k) (by omega);obtain⟨_,_,_,_,m2⟩:=LT'.get hk2;have l1:=gp hch1 (LT'.num _ m1) (LT'.num _ m2);have l2:=gp hch2 (LT'.num _ m2) hzm;refine⟨c1,c2,e1,e2,_,_,_,rfl,hc1.same s2,hc2,hch1,hch2,by omega,by omega,λc3 e3 H3 s3 hc3 hch3=>?_⟩;have s23:=s2.trans s3;refine⟨_,rfl,p,dx,_,rfl,s23 _ _ hp,no,_,rfl,?_⟩;dsimp only[gr,cons_append,nil_append,append_nil];refine eK (W0.same s23) L.lw.past (by omega) (by omega) (k:=k) (by omega) λc4 e4 H4 s4 hc4 hch4=>?_;exact .inr ⟨c3,c4,_,_,rfl,rfl,kx (hch3.uniq hch4) (hc3.same s4).at' hc4.at',.inr ⟨(hc3.same s4).tup,hc4.tup⟩,_,rfl,aI (q H4 (s23.trans s4))⟩
theorem ow8(TC:WCls K mg C)(hr:Room 5 (A.deeper (PyProof.Rows.envOfC "_law_once" (ai fw) s.heap.objs.size f cdv)))(CA:dW P w K mg base 5 "applied" ["tree","change"] (pD CN)){fS:Addr}{fdS:FuncData}(GS:FnOk P w K mg base (CX1 P w) 3 fS fdS ["self","mark"] (cZ C CM))(mS:Meth K C "since" fS)(bS:bf K fdS ["self","mark"] []):
  ∃rd,PS (OWX P w K mg base f cdv A outer s H0 E) (owS 8) rd∧∀(D:Ends)(H1 H:Hp)(a lt p kl ml ld t:Addr)(ts:List (Addr×ZN))(ds:List (Addr×TW.Deed Str))(z:ZN)(ks:List (Addr×ZR))(M:List Int)(b k:Nat)(x4 x5 x6 x8 x9 x10:Option V),LX C H1 H lt p kl ml ld ts ds t z ks M b→b≤9→k<ts.length →
   (∀H',Same H H'→D.nx (owσ a lt p ld x4 x5 x6 (some (.int k)) x8 x9 x10) H')→rd D (owσ a lt p ld x4 x5 x6 (some (.int k)) x8 x9 x10) H:=by
 obtain⟨fA,fdA,GA,mA,kA,bA⟩:=CA;have hr3:Room 3 _:=hr.mono (by decide);have hu4:=kb hr;refine⟨_,aP (am (pY hu4) (al GA hr rfl mA kA bA .nil gC (aa (au bg (pv 1) (pv 7) (λ_ _=>rfl)) (aa (dG (pv 2) TC.cl mS GS hr3 bS .nil gC (aa (pv 7) ae)) ae))) (au bg (pv 1) (qH lY ah) (λ_ _=>rfl)) (aw _)) (ak (av eW)) ay,?_⟩;intro D H1 H a lt p kl ml ld t ts ds z ks M b k x4 x5 x6 x8 x9 x10 L hb hk q;have hlen:=L.lw.len;have hfew:=L.lw.few;have LT':=L.lt' hb;have hTl:(ts.map λx=>nds x.2).length=ts.length:=length_map ..;obtain⟨dx,hp⟩:=L.lw.wat.ob;have no:∀{t:Addr}{d:Int}{kl ml:Addr},(flW t 30 d kl ml).lookup ("since":Str)=none:=fY (by decide +kernel) (by decide +kernel) (by decide +kernel) (by decide +kernel) (by decide +kernel);have W0:=L.lw.wat;rw[←hTl]at W0;obtain⟨x,hx,exk,hxa,m1⟩:=LT'.get hk;obtain⟨y,hy1,hy2,ey,hya⟩:=L.lw.end;have hzm:∀n∈nds z,n.num∈M:=L.lw.past.num _ (mem_of_getElem? L.lw.past.last);have hzok:∀n∈nds z,eR n:=by rw[←ey];exact L.lw.ok y hy2
 refine⟨_,rfl,_,rfl,lt,_,_,_,rfl,rfl,SqL.of L.lw.lst,hxa,_,rfl,p,dx,_,rfl,hp,no,_,rfl,?_⟩;dsimp only[gr,cons_append,nil_append,append_nil];refine eK W0 L.lw.past (by omega) (by omega) (k:=k) (by omega) λc2 e2 H2 s2 hc2 hch2=>?_;have L2:=L.same s2;rw[←exk]at hch2;have l2:=gp hch2 (by rw[exk];exact LT'.num _ m1) hzm;have hsz:=LT'.sz x hx;have ap0:=lR hch2 L.lw.wat.tr.tr;refine⟨x.1,c2,x.2,e2,rfl,L2.lw.tre x hx,L2.lw.ok x hx,hc2,nG hch2,kY hch2 (L2.lw.ok x hx) hzok,by omega,λus t' H3 s3 ht' hA ap=>?_,λH3 _ ap=>(ap0.not_both ap).elim⟩;have L3:=L2.same s3;refine⟨_,rfl,_,rfl,lt,_,_,_,rfl,rfl,SqL.of L3.lw.lst,hya,.inr ⟨t',y.1,_,_,rfl,rfl,fQ ((ap.some_uniq ap0).trans ey.symm) hA (L3.lw.tre y hy2).nod,.inr ⟨ht',(L3.lw.tre y hy2).tup⟩,_,rfl,aI (q H3 (s2.trans s3))⟩⟩
theorem ow9(TC:WCls K mg C)(hr:Room 5 (A.deeper (PyProof.Rows.envOfC "_law_once" (ai fw) s.heap.objs.size f cdv)))(CA:dW P w K mg base 5 "applied" ["tree","change"] (pD CN))(CT:Has P w K mg base 1 "turned_back" ["change"] xD){fS:Addr}{fdS:FuncData}(GS:FnOk P w K mg base (CX1 P w) 3 fS fdS ["self","mark"] (cZ C CM))(mS:Meth K C "since" fS)(bS:bf K fdS ["self","mark"] []):
  ∃rd,PS (OWX P w K mg base f cdv A outer s H0 E) (owS 9) rd∧∀(D:Ends)(H1 H:Hp)(a lt p kl ml ld t:Addr)(ts:List (Addr×ZN))(ds:List (Addr×TW.Deed Str))(z:ZN)(ks:List (Addr×ZR))(M:List Int)(b k:Nat)(x4 x5 x6 x7 x9 x10:Option V),LX C H1 H lt p kl ml ld ts ds t z ks M b→b≤9→k<ts.length →
   (∀H',Same H H'→D.nx (owσ a lt p ld x4 x5 x6 x7 (some (.int k)) x9 x10) H')→rd D (owσ a lt p ld x4 x5 x6 x7 (some (.int k)) x9 x10) H:=by
 obtain⟨fA,fdA,GA,mA,kA,bA⟩:=CA;obtain⟨fT,fdT,GT,mT,kT,bT⟩:=CT;have hr1:Room 1 _:=hr.mono (by decide);have hr3:Room 3 _:=hr.mono (by decide);have hu4:=kb hr;refine⟨_,aP (am (pY hu4) (al GA hr rfl mA kA bA .nil gC (aa (au bg (pv 1) (qH lY ah) (λ_ _=>rfl)) (aa (al GT hr1 rfl mT kT bT .nil aF (aa (dG (pv 2) TC.cl mS GS hr3 bS .nil gC (aa (pv 8) ae)) ae)) ae))) (au bg (pv 1) (pv 8) (λ_ _=>rfl)) (aw _)) (ak (av eW)) ay,?_⟩;intro D H1 H a lt p kl ml ld t ts ds z ks M b k x4 x5 x6 x7 x9 x10 L hb hk q;have hlen:=L.lw.len;have hfew:=L.lw.few;have LT':=L.lt' hb;have hTl:(ts.map λx=>nds x.2).length=ts.length:=length_map ..;obtain⟨dx,hp⟩:=L.lw.wat.ob;have no:∀{t:Addr}{d:Int}{kl ml:Addr},(flW t 30 d kl ml).lookup ("since":Str)=none:=fY (by decide +kernel) (by decide +kernel) (by decide +kernel) (by decide +kernel) (by decide +kernel);have W0:=L.lw.wat;rw[←hTl]at W0;obtain⟨x,hx,exk,hxa,m1⟩:=LT'.get hk;obtain⟨y,hy1,hy2,ey,hya⟩:=L.lw.end;have hzm:∀n∈nds z,n.num∈M:=L.lw.past.num _ (mem_of_getElem? L.lw.past.last);refine⟨_,rfl,_,rfl,lt,_,_,_,rfl,rfl,SqL.of L.lw.lst,hya,_,rfl,p,dx,_,rfl,hp,no,_,rfl,?_⟩;dsimp only[gr,cons_append,nil_append,append_nil];refine eK W0 L.lw.past (by omega) (by omega) (k:=k) (by omega) λc2 e2 H2 s2 hc2 hch2=>?_;refine⟨c2,e2,rfl,hc2,λc3 e3 H3 s3 hc3 r3=>?_⟩;have L3:=(L.same s2).same s3;have hch3:TW.Chg (nds y.2) (nds x.2) (ba e3):=by rw[r3,ey,exk];exact hch2.swap
 have l3:=gp hch3 (by rw[ey];exact hzm) (by rw[exk];exact LT'.num _ m1);have hsz:=LT'.sz y hy2;have ap0:=lR hch3 (L.lw.tre x hx).tr;refine⟨y.1,c3,y.2,e3,rfl,L3.lw.tre y hy2,L3.lw.ok y hy2,hc3,nG hch3,kY hch3 (L3.lw.ok y hy2) (L3.lw.ok x hx),by omega,λus t' H4 s4 ht' hA ap=>?_,λH4 _ ap=>(ap0.not_both ap).elim⟩;have L4:=L3.same s4;refine⟨_,rfl,_,rfl,lt,_,_,_,rfl,rfl,SqL.of L4.lw.lst,hxa,.inr ⟨t',x.1,_,_,rfl,rfl,fQ (ap.some_uniq ap0) hA (L4.lw.tre x hx).nod,.inr ⟨ht',(L4.lw.tre x hx).tup⟩,_,rfl,aI (q H4 ((s2.trans s3).trans s4))⟩⟩
end
theorem LX.off{C:Addr}{H0 H H':Hp}{lt w kl ml ld:Addr}{ts:List (Addr×ZN)}{ds:List (Addr×TW.Deed Str)}{t:Addr}{z:ZN}{ks:List (Addr×ZR)}{M:List Int}{b:Nat}(h:LX C H0 H lt w kl ml ld ts ds t z ks M b){S:List Addr}(of:Off S H H')(tS:ci H H')(hS:∀b∈S,H0 b=none)(n:lt∉S)(nw:w∉S)(nk:kl∉S)(nm:ml∉S)(nd:ld∉S):LX C H0 H' lt w kl ml ld ts ds t z ks M b :=
 ⟨h.lw.off of tS hS n nw nk nm,h.dl.off of tS nd,h.f5,h.n4,h.n5,h.n6,h.n7⟩
structure L2W(C:Addr)(H1 H:Hp)(p2 kl2 ml2 t2:Addr)(z2:ZN)(ks2:List (Addr×ZR))(T:List (List Nd))(M:List Int)(k i:Nat):Prop where
 wat:WAt C H p2 kl2 ml2 t2 z2 30 i ks2 []
 past:Past ((T.drop k).take (i+1)) (nds z2) 30 ks2 M
 f1:H1 p2=none
 f2:H1 kl2=none
section
variable{P:Program}{w:World}{K:PySem.W.Frag}{mg:Str→Option Value}{base:Heap}{f C CM:Addr}{cdv:Value}{A:Around}{outer:List Env}{s:Shared}{H0:Hp}{E:XK}{cls:TW.Wd→Addr}
theorem Bf(TC:WCls K mg C)(hr:Room 5 (A.deeper (PyProof.Rows.envOfC "_law_once" (ai fw) s.heap.objs.size f cdv))){fD:Addr}{fdD:FuncData}(GD:FnOk P w K mg base (CX1 P w) 5 fD fdD ["self","deed"] (ir C cls))(mD:Meth K C "deed" fD)(bD:bf K fdD ["self","deed"] []):
  ∃rd,PS (OWX P w K mg base f cdv A outer s H0 E) (owS 11) rd∧∀(D:Ends)(H1 H:Hp)(a lt p kl ml ld t p2 kl2 ml2 t2:Addr)(ts:List (Addr×ZN))(ds:List (Addr×TW.Deed Str))(z z2:ZN)(ks ks2:List (Addr×ZR))(M:List Int)(b k:Nat)(x4 x5 x6 x8 x9:Option V),LX C H1 H lt p kl ml ld ts ds t z ks M b→b≤9→k<ts.length→L2W C H1 H p2 kl2 ml2 t2 z2 ks2 (ts.map λx=>nds x.2) M k 0 →
   (∀q∈[lt,p,kl,ml,ld],q≠p2∧q≠kl2) →
   (∀H' t2 z2 ks2 x5,LX C H1 H' lt p kl ml ld ts ds t z ks M b→L2W C H1 H' p2 kl2 ml2 t2 z2 ks2 (ts.map λx=>nds x.2) M k (ds.length-k)→D.nx (owσ a lt p ld x4 x5 x6 (some (.int k)) x8 x9 (some (.ref p2))) H')→rd D (owσ a lt p ld x4 x5 x6 (some (.int k)) x8 x9 (some (.ref p2))) H:=by
 refine⟨_,dQ PassesOwn.never rfl (cR (cu qV (pv 3) (cp (pv 7)) eM)) (aE (i:=5) ji.nd rfl (Or.inl rfl))
  (ak (bq (dG (pv 10) TC.cl mD GD hr bD .nil gC (aa (pv 5) ae)))),?_⟩
 intro D H1 H a lt p kl ml ld t p2 kl2 ml2 t2 ts ds z z2 ks ks2 M b k x4 x5 x6 x8 x9 L hb hk U2 hne q;have hdl:=L.dl.len;rw[length_map]at hdl;have LT':=L.lt' hb;refine⟨_,rfl,_,rfl,_,rfl,ld,_,rfl,SqL.of L.dl.lst,λl hl=>?_⟩;rw[pA (by rw[length_map];omega)];have s2:=af (o:=.lst ((ds.map λx=>V.ref x.1).drop k)) hl;have hl2:upd H l (.lst ((ds.map λx=>V.ref x.1).drop k)) l=some (.lst ((ds.map λx=>V.ref x.1).drop k)):=ac;obtain⟨dx0,hp0⟩:=U2.wat.ob;have nl:l∉[p2,kl2]:=by
  have h1:p2≠l:=aq hp0 hl;have h2:kl2≠l:=aq U2.wat.kp hl;simp[Ne.symm h1,Ne.symm h2]
 generalize upd H l (.lst ((ds.map λx=>V.ref x.1).drop k))=H2 at s2 hl2⊢;have hS:∀b∈[p2,kl2],H1 b=none:=λb hb=>by
  rcases mem_cons.mp hb with e|hb
  ·rw[e];exact U2.f1
  ·have:b=kl2:=by simpa using hb
   rw[this];exact U2.f2
 have nin:∀{x:Addr},x∈[lt,p,kl,ml,ld]→x∉[p2,kl2]:=λ{x} hx h=>by
  obtain⟨h1,h2⟩:=hne x hx;rcases mem_cons.mp h with e|h
  ·exact h1 e
  ·exact h2 (by simpa using h)
 refine⟨l,rfl,⟨_,SqL.of hl2⟩,gS (xs:=(ds.map λx=>V.ref x.1).drop k) (λi σ H'=>∃t2 z2 ks2 x5,σ=owσ a lt p ld x4 x5 x6 (some (.int k)) x8 x9 (some (.ref p2))∧H' l=some (.lst ((ds.map λx=>V.ref x.1).drop k))∧LX C H1 H' lt p kl ml ld ts ds t z ks M b∧L2W C H1 H' p2 kl2 ml2 t2 z2 ks2 (ts.map λx=>nds x.2) M k i)
  ⟨t2,z2,ks2,_,rfl,hl2,L.same s2,U2.wat.same s2,U2.past,U2.f1,U2.f2⟩ (λi σ H' _ h=>?_) (λi x σ H' hx h=>?_) (λσ H' h=>?_)⟩
 ·obtain⟨t2,z2,ks2,y5,rfl,hl',_⟩:=h;exact SqL.of hl'
 ·obtain⟨t2,z2,ks2,y5,rfl,hl',L',V'⟩:=h;rw[getElem?_drop,getElem?_map]at hx;cases hd:ds[k+i]? with
  |none=>rw[hd]at hx;cases hx
  |some d =>
   rw[hd]at hx;have ed:V.ref d.1=x:=Option.some.inj hx;subst ed;have hdm:=mem_of_getElem? hd;have hlt:k+i<ds.length:=(List.getElem?_eq_some_iff.mp hd).1;have htl:(ts.map λx=>nds x.2).length=ts.length:=length_map ..;have told:=L'.dl.told (k+i) d hd;have hf:=L'.dl.fine d hdm;have ez:nds z2=(ts.map λx=>nds x.2).getD (k+i) []:=by
    have:=V'.past.last;rw[length_take,length_drop,show min (i+1) ((ts.map λx=>nds x.2).length-k)-1=i by omega,List.getElem?_take_of_lt (lt_succ_self i),getElem?_drop]at this;rw[getD_eq_getElem?_getD,this];rfl
   obtain⟨x1,hx1,ex1,_,mx1⟩:=LT'.get (k:=k+i) (by omega);have hzl:z2.length≤15:=by
    have h1:=LT'.sz x1 hx1;have h2:=aJ x1.2;rw[ex1,←ez,aJ]at h2;omega
   have hks:ks2.length≤100:=by have:=V'.past.len;omega
   obtain⟨dx,hp⟩:=V'.wat.ob;refine⟨_,rfl,p2,dx,_,rfl,hp,fY (by decide +kernel) (by decide +kernel) (by decide +kernel) (by decide +kernel) (by decide +kernel),_,rfl,p2,kl2,ml2,t2,z2,30,_,ks2,[],d.1,d.2,rfl,V'.wat,by omega,hks,by decide,L'.dl.at' d hdm,hf.ok,λt' us cc es H5 told2 hch W of tS=>?_,λwd H5 s5 told2=>?_⟩
   ·rw[←ez]at told;have eu:nds us=(ts.map λx=>nds x.2).getD (k+i+1) []:=by
     have:=told2.one V'.wat.tr.tr told;injection this
    obtain⟨x2,hx2,ex2,_,mx2⟩:=LT'.get (k:=k+i+1) (by omega);refine⟨t',us,eI 30 (ks2++[(cc,es)]),_,rfl,of _ _ hl' nl,L'.off of tS hS (nin (by simp)) (nin (by simp)) (nin (by simp)) (nin (by simp)) (nin (by simp)),?_,?_,V'.f1,V'.f2⟩
    ·have:=W;rw[show((i:Int)+1)=((i+1:Nat):Int)by omega]at this;exact this
    ·have pn:=V'.past.next (c:=cc) hch (k:=d.2.key) (λn hn=>mem_cons_of_mem _ (by rw[eu]at hn;exact LT'.num _ mx2 n hn));have et:((ts.map λx=>nds x.2).drop k).take (i+1+1)=((ts.map λx=>nds x.2).drop k).take (i+1)++[nds us]:=by
      rw[List.take_add_one (i:=i+1),getElem?_drop]
      congr 1
      rw[eu,getD_eq_getElem?_getD,show k+(i+1)=k+i+1 by omega,getElem?_eq_getElem (show k+i+1<(ts.map λx=>nds x.2).length by omega)];rfl
     rw[et];refine⟨pn.pos,pn.m0,pn.len,pn.last,pn.step,λtt ht n hn=>?_⟩;rw[←et]at ht;exact LT'.num tt (List.mem_of_mem_drop (List.mem_of_mem_take ht)) n hn
   ·rw[←ez]at told;exact absurd (told.one V'.wat.tr.tr told2) (by intro h;cases h)
 ·obtain⟨t2,z2,ks2,y5,rfl,hl',L',V'⟩:=h;rw[length_drop,length_map]at V';exact q H' t2 z2 ks2 _ L' V'
theorem Bg(T:Txt mg)(TC:WCls K mg C)(hr:Room 5 (A.deeper (PyProof.Rows.envOfC "_law_once" (ai fw) s.heap.objs.size f cdv))){fS fM fN:Addr}{fdS fdM fdN:FuncData}(GS:FnOk P w K mg base (CX1 P w) 3 fS fdS ["self","mark"] (cZ C CM))(mS:Meth K C "since" fS)(bS:bf K fdS ["self","mark"] [])(GM:FnOk P w K mg base CX0 1 fM fdM ["self"] (jr C))(mM:Meth K C "mark" fM)(bM:bf K fdM ["self"] [])(GN:FnOk P w K mg base CX0 1 fN fdN ["self"] (nF C))(mN:Meth K C "now" fN)(bN:bf K fdN ["self"] []):
  ∃rd,PS (OWX P w K mg base f cdv A outer s H0 E) (owS 12) rd∧∀(D:Ends)(H1 H:Hp)(a lt p kl ml ld t p2 kl2 ml2 t2:Addr)(ts:List (Addr×ZN))(ds:List (Addr×TW.Deed Str))(z z2:ZN)(ks ks2:List (Addr×ZR))(M:List Int)(b k:Nat)(x4 x5 x6 x8 x9:Option V),LX C H1 H lt p kl ml ld ts ds t z ks M b→b≤9→k<ts.length→L2W C H1 H p2 kl2 ml2 t2 z2 ks2 (ts.map λx=>nds x.2) M k (ds.length-k) →
   (∀H',Same H H'→D.rt (.bl true) H')→rd D (owσ a lt p ld x4 x5 x6 (some (.int k)) x8 x9 (some (.ref p2))) H:=by
 have hr1:Room 1 _:=hr.mono (by decide);have hr3:Room 3 _:=hr.mono (by decide);have hu4:=kb hr;refine⟨_,av (iu (dt (uJ hu4) (dG (pv 10) TC.cl mS GS hr3 bS .nil gC (aa ah ae)) (dG (pv 2) TC.cl mS GS hr3 bS .nil gC (aa (pv 7) ae)) (aw _))
  (iu (dt cD (jF (pv 10) TC.cl mM GM hr1 bM .nil aF) (aD lW (aB aK rfl T.len boot_len (aa (pv 3) ae)) (pv 7)) (aw _))
  (jy (dt (uJ hu4) (jF (pv 10) TC.cl mN GN hr1 bN .nil aF) (jF (pv 2) TC.cl mN GN hr1 bN .nil aF) (aw _))))),?_⟩
 intro D H1 H a lt p kl ml ld t p2 kl2 ml2 t2 ts ds z z2 ks ks2 M b k x4 x5 x6 x8 x9 L hb hk U2 q;have hdl:=L.dl.len;rw[length_map]at hdl;have hlen:=L.lw.len;have hfew:=L.lw.few;have hTl:(ts.map λx=>nds x.2).length=ts.length:=length_map ..;obtain⟨dx,hp⟩:=L.lw.wat.ob;obtain⟨dx2,hp2⟩:=U2.wat.ob;have no:∀{t:Addr}{d:Int}{kl ml:Addr},(flW t 30 d kl ml).lookup ("since":Str)=none:=fY (by decide +kernel) (by decide +kernel) (by decide +kernel) (by decide +kernel) (by decide +kernel);have noM:∀{t:Addr}{d:Int}{kl ml:Addr},(flW t 30 d kl ml).lookup ("mark":Str)=none:=fY (by decide +kernel) (by decide +kernel) (by decide +kernel) (by decide +kernel) (by decide +kernel);have noN:∀{t:Addr}{d:Int}{kl ml:Addr},(flW t 30 d kl ml).lookup ("now":Str)=none:=fY (by decide +kernel) (by decide +kernel) (by decide +kernel) (by decide +kernel) (by decide +kernel);have W0:=L.lw.wat;rw[←hTl]at W0;have et:((ts.map λx=>nds x.2).drop k).take (ds.length-k+1)=(ts.map λx=>nds x.2).drop k:=take_of_length_le (by rw[length_drop,hTl];omega);have pa2:=U2.past;rw[et]at pa2;have hdl2:((ts.map λx=>nds x.2).drop k).length=ts.length-k:=by rw[length_drop,hTl]
 have W2:=U2.wat;rw[show(((ds.length-k:Nat)):Int)=((((ts.map λx=>nds x.2).drop k).length:Nat):Int)-1 by rw[hdl2];omega]at W2;have ez2:nds z2=nds z:=by
  have h1:=pa2.at_last;have h2:=L.lw.past.at_last;rw[getD_eq_getElem?_getD,getElem?_drop,hdl2,show k+(ts.length-k-1)=(ts.map λx=>nds x.2).length-1 by rw[hTl];omega,←getD_eq_getElem?_getD,h2]at h1;exact h1.symm
 refine⟨_,rfl,p2,dx2,_,rfl,hp2,no,?_⟩;dsimp only[gr,cons_append,nil_append,append_nil,cL,tC];refine eK W2 pa2 (by omega) (by omega) (k:=0) (by omega) λc2 e2 H2 s2 hc2 hch2=>?_;refine⟨_,rfl,p,dx,_,rfl,s2 _ _ hp,no,_,rfl,?_⟩;dsimp only[gr,cons_append,nil_append,append_nil];refine eK (W0.same s2) L.lw.past (by omega) (by omega) (k:=k) (by omega) λc4 e4 H4 s4 hc4 hch4=>?_;have hch2':TW.Chg ((ts.map λx=>nds x.2).getD k []) (nds z) (ba e2):=by
  rw[ez2,getD_eq_getElem?_getD,getElem?_drop,add_zero,←getD_eq_getElem?_getD]at hch2;exact hch2
 have s24:=s2.trans s4;have V4:=U2.wat.same s24;have L4:=L.same s24;refine .inr ⟨c2,c4,_,_,rfl,rfl,kx (hch2'.uniq hch4) (hc2.same s4).at' hc4.at',.inr ⟨(hc2.same s4).tup,hc4.tup⟩,_,rfl,aQ ?_⟩;refine⟨_,rfl,p2,dx2,_,rfl,s24 _ _ hp2,noM,p2,kl2,ml2,t2,z2,30,_,ks2,[],rfl,V4,_,rfl,ld,_,rfl,.inl (SqL.of L4.dl.lst),_,rfl,_,_,rfl,rfl,rfl,_,rfl,?_⟩;have e9:decide (V.int ((ds.length-k:Nat):Int)=V.int (((ds.map λx=>V.ref x.1).length:Int)-(k:Int)))=true:=by
  rw[length_map];refine decide_eq_true (congrArg V.int ?_);omega
 rw[e9];refine aQ ⟨_,rfl,p2,dx2,_,rfl,s24 _ _ hp2,noN,p2,kl2,ml2,t2,z2,30,_,ks2,[],rfl,V4,_,rfl,p,dx,_,rfl,s24 _ _ hp,noN,p,kl,ml,t,z,30,_,ks,[],rfl,L4.lw.wat,?_⟩;exact .inr ⟨t2,t,_,_,rfl,rfl,fQ ez2 V4.tr.nod L4.lw.wat.tr.nod,.inr ⟨V4.tr.tup,L4.lw.wat.tr.tup⟩,q _ s24⟩
def qG(K:PySem.W.Frag):Sp:=λvs H Q _=>∃a,vs=[.ref a]∧eZ K H a∧∀H',Same H H'→Q (.bl true) H'
theorem xL{f C CM CN fI fD fS fM fN:Addr}{cls:TW.Wd→Addr}{fd fdI fdD fdS fdM fdN:FuncData}(F:Fun K "_law_once" "_law_once" fw f fd)(T:Txt mg)(TC:WCls K mg C)(M:Mk K C fI)(GI:FnOk P w K mg base CX0 1 fI fdI ["self","tree","most"] (qy C))(bI:bf K fdI ["self","tree","most"] [])(GD:FnOk P w K mg base (CX1 P w) 5 fD fdD ["self","deed"] (ir C cls))(mD:Meth K C "deed" fD)(bD:bf K fdD ["self","deed"] [])(GS:FnOk P w K mg base (CX1 P w) 3 fS fdS ["self","mark"] (cZ C CM))(mS:Meth K C "since" fS)(bS:bf K fdS ["self","mark"] [])(GM:FnOk P w K mg base CX0 1 fM fdM ["self"] (jr C))(mM:Meth K C "mark" fM)(bM:bf K fdM ["self"] [])(GN:FnOk P w K mg base CX0 1 fN fdN ["self"] (nF C))(mN:Meth K C "now" fN)(bN:bf K fdN ["self"] [])(CB:Has P w K mg base 3 "_law_tree" ["_law_script","_law_at","_law_most"] (nH K))(CP:Has P w K mg base 2 "_law_pick" ["_law_script","_law_k","_law_many"] (eV K))(CE:Has P w K mg base 3 "_law_deed" ["_law_script","_law_at","_law_tree_here"] (nI K))(CL:Has P w K mg base 2 "_law_done" ["_law_tree_here","_law_deed_here"] ju)(CC:Has P w K mg base 2 "change_between" ["one","other"] rP)(CJ:Has P w K mg base 2 "joined" ["one","other"] vB)(CA:dW P w K mg base 5 "applied" ["tree","change"] (pD CN))(CT:Has P w K mg base 1 "turned_back" ["change"] xD):FnOk P w K mg base CX0 6 f fd ["_law_script"] (qG K):=by
 have CP':=CP;obtain⟨fB,fdB,GB,mB,kB,bB⟩:=CB;obtain⟨fP,fdP,GP,mP,kP,bP⟩:=CP;obtain⟨fC,fdC,GC,mC,kC,bC⟩:=CC;refine F.ok ji (λvs H Q E h=>?_) (λcdv A outer s H vs Q E hr h=>?_)
 ·obtain⟨a,rfl,_⟩:=h;rfl
 ·obtain⟨a,rfl,hS,q⟩:=h;have hr2:Room 2 _:=hr.mono (by decide);have hr3:Room 3 _:=hr.mono (by decide);obtain⟨r3,p3,h3⟩:=ow3 (outer:=outer) (H0:=H) (E:=E) T TC hr CP' CE CL GD mD bD;obtain⟨r7,p7,h7⟩:=ow7 (outer:=outer) (H0:=H) (E:=E) TC hr CJ GS mS bS;obtain⟨r8,p8,h8⟩:=ow8 (outer:=outer) (H0:=H) (E:=E) TC hr CA GS mS bS;obtain⟨r9,p9,h9⟩:=ow9 (outer:=outer) (H0:=H) (E:=E) TC hr CA CT GS mS bS;obtain⟨r11,p11,h11⟩:=Bf (outer:=outer) (H0:=H) (E:=E) TC hr GD mD bD;obtain⟨r12,p12,h12⟩:=Bg (outer:=outer) (H0:=H) (E:=E) T TC hr GS mS bS GM mM bM GN mN bN;refine⟨_,ag (aA (i:=1) ji.nd rfl (Or.inl rfl) (bu (aa (al GB hr3 rfl mB kB bB .nil aF (aa (pv 0) (aa ah (aa ah ae)))) ae)))
   (ag (aA (i:=2) ji.nd rfl (Or.inl rfl) (qR M GI hr2 rfl TC.mgC bI .nil aF (aa (au bg (pv 1) ah (λ_ _=>rfl)) (aa ah ae))))
   (ag (aA (i:=3) ji.nd rfl (Or.inl rfl) (bu ae))
   (ag p3
   (ag (aA (i:=7) ji.nd rfl (Or.inl rfl) (al GP hr2 rfl mP kP bP .nil aF (aa (pv 0) (aa ah (aa (aB aK rfl T.len boot_len (aa (pv 1) ae)) ae)))))
   (ag (aA (i:=8) ji.nd rfl (Or.inl rfl) (aD aZ (pv 7) (al GP hr2 rfl mP kP bP .nil aF (aa (pv 0) (aa ah (aa (aD lW (aB aK rfl T.len boot_len (aa (pv 1) ae)) (pv 7)) ae))))))
   (ag (aA (i:=9) ji.nd rfl (Or.inl rfl) (al GC hr2 rfl mC kC bC .nil aF (aa (au bg (pv 1) (pv 7) (λ_ _=>rfl)) (aa (au bg (pv 1) (pv 8) (λ_ _=>rfl)) ae))))
   (ag p7 (ag p8 (ag p9
   (ag (aA (i:=10) ji.nd rfl (Or.inl rfl) (qR M GI hr2 rfl TC.mgC bI .nil aF (aa (au bg (pv 1) (pv 7) (λ_ _=>rfl)) (aa ah ae))))
   (ag p11 (ak p12)))))))))))),?_⟩
  refine⟨_,rfl,a,0,6,rfl,by decide,by decide,by decide,hS,λt1 z1 H1 ht1 hA1 hl1 hT1 hG1 s1=>?_⟩;have tr1:TW.Tree1 (nds z1):=⟨hT1,λn hn=>by obtain⟨z,hz,rfl⟩:=fo hn;exact(hG1 z hz).1⟩;have T1:Tre H1 t1 z1:=⟨ht1,hA1,tr1,by omega⟩;have ok1:∀n∈nds z1,eR n:=λn hn=>by obtain⟨z,hz,rfl⟩:=fo hn;exact(hG1 z hz).ok
  refine⟨(show 1≤sizeLine from ao (by decide)),λlt hlt=>?_⟩;have s2:=af (o:=.lst [.ref t1]) hlt;have flt:H lt=none:=s1.free hlt;have hl2:upd H1 lt (.lst [.ref t1]) lt=some (.lst [.ref t1]):=ac;generalize upd H1 lt (.lst [.ref t1])=H3 at s2 hl2⊢;have s13:=s1.trans s2;have T3:=T1.same s2;refine⟨_,rfl,lt,_,0,_,rfl,rfl,SqL.of hl2,rfl,λp dx hpn hdn hdp=>?_⟩;have s4:Same H3 (upd (upd H3 dx (.own p)) p (.ins C dx [])):=λb o e=>by
   rw[aj (aq e hpn),aj (aq e hdn)];exact e
  refine⟨p,dx,t1,z1,30,rfl,ac,T3.same s4,λkl ml H4 hkl hml W of=>⟨rfl,?_⟩⟩;have fkl:H3 kl=none:=s4.free hkl;have fml:H3 ml=none:=s4.free hml;have s5:Same H3 H4:=λb o e=>of _ _ (s4 _ _ e) (by simpa using aq e hpn);have s15:=s13.trans s5;have n1:lt≠p:=aq hl2 hpn;have L0:LW C H H4 lt p kl ml [(t1,z1)] t1 z1 30 [] ((nds z1).map (·.num)) 0:=by
   refine⟨s15,flt,s13.free hpn,s13.free fkl,s13.free fml,n1,aq hl2 fkl,aq hl2 fml,s5 _ _ hl2,λx hx=>?_,λx hx=>?_,W,⟨Nat.zero_lt_one,by decide,(show(0:Int)=min ((1:Int)-1) 30 by decide),rfl,λj x hj=>by simp at hj,λt ht n hn=>?_⟩,?_,le_refl _,λx hx=>?_,by decide⟩
   ·have:x=(t1,z1):=by simpa using hx
    rw[this];exact T3.same s5
   ·have:x=(t1,z1):=by simpa using hx
    rw[this];exact ok1
   ·have:t=nds z1:=by simpa using ht
    rw[this]at hn;exact mem_map.mpr ⟨n,hn,rfl⟩
   ·rw[length_map,aJ];omega
   ·have:x=(t1,z1):=by simpa using hx
    rw[this];show z1.length≤6+0;omega
  refine⟨zero_le _,λld hld=>?_⟩;have s6:=af (o:=.lst []) hld;have hl6:upd H4 ld (.lst []) ld=some (.lst []):=ac;have X0:LX C H (upd H4 ld (.lst [])) lt p kl ml ld [(t1,z1)] [] t1 z1 [] ((nds z1).map (·.num)) 0:=by
   obtain⟨dx',hp'⟩:=W.ob;exact⟨L0.same s6,⟨hl6,by simp,by simp,rfl,λi x hi=>by simp at hi⟩,s15.free hld,Ne.symm (aq L0.lst hld),Ne.symm (aq hp' hld),Ne.symm (aq W.kp hld),Ne.symm (aq W.mks hld)⟩
  generalize upd H4 ld (.lst [])=H5 at X0⊢;refine h3 _ H H5 a lt p kl ml ld t1 _ _ z1 _ _ _ _ _ _ _ _ _ hS X0 λH6 ts ds t z ks M' b y4 y5 y6 hb X=>?_;have hpos:=X.lw.past.pos;rw[length_map]at hpos;refine⟨_,rfl,_,rfl,lt,_,rfl,.inl (SqL.of X.lw.lst),a,_,_,rfl,by decide,by rw[length_map];omega,hS.same X.lw.s0,λr7 H7 r70 r71 s7=>?_⟩;rw[length_map]at r71;obtain⟨k,rfl⟩:∃k:Nat,r7=k:=⟨r7.toNat,by omega⟩;have X7:=X.same s7;refine⟨_,rfl,_,rfl,_,rfl,lt,_,rfl,.inl (SqL.of X7.lw.lst),_,rfl,_,_,rfl,rfl,a,_,_,rfl,by decide,?_,hS.same X7.lw.s0,λr8 H8 r80 r81 s8=>?_⟩
  ·rw[length_map];omega
  rw[length_map]at r81;obtain⟨j,rfl⟩:∃j:Nat,r8=j:=⟨r8.toNat,by omega⟩;have X8:=X7.same s8;refine⟨_,_,rfl,rfl,?_⟩;dsimp only;rw[show((k:Int)+(j:Int))=((k+j:Nat):Int)by omega];have LT8:=X8.lt' hb;have hk1:k<ts.length:=by omega
  have hk2:k+j<ts.length:=by omega
  obtain⟨x1,hx1,ex1,ha1,_⟩:=LT8.get hk1;obtain⟨x2,hx2,ex2,ha2,_⟩:=LT8.get hk2;refine⟨_,rfl,_,rfl,lt,_,_,_,rfl,rfl,SqL.of X8.lw.lst,ha1,_,rfl,_,rfl,lt,_,_,_,rfl,rfl,SqL.of X8.lw.lst,ha2,x1.1,x2.1,x1.2,x2.2,rfl,X8.lw.tre x1 hx1,X8.lw.tre x2 hx2,λc1 e1 H9 s9 hc1 hch1=>?_⟩;rw[ex1,ex2]at hch1;have X9:=X8.same s9;refine h7 _ H H9 a lt p kl ml ld t c1 ts ds z ks M' b k (k+j) e1 _ _ _ _ X9 hb (by omega) hk2 hc1 hch1 λHa sa=>?_;have Xa:=X9.same sa;refine h8 _ H Ha a lt p kl ml ld t ts ds z ks M' b k _ _ _ _ _ _ Xa hb hk1 λHb sb=>?_;have Xb:=Xa.same sb;refine h9 _ H Hb a lt p kl ml ld t ts ds z ks M' b (k+j) _ _ _ _ _ _ Xb hb hk2 λHc sc=>?_;have Xc:=Xb.same sc;have LTc:=Xc.lt' hb;refine⟨_,rfl,_,rfl,lt,_,_,_,rfl,rfl,SqL.of Xc.lw.lst,ha1,λp2 dx2 hpn2 hdn2 hdp2=>?_⟩;have s40:Same Hc (upd (upd Hc dx2 (.own p2)) p2 (.ins C dx2 [])):=λb o e=>by
   rw[aj (aq e hpn2),aj (aq e hdn2)];exact e
  refine⟨p2,dx2,x1.1,x1.2,30,rfl,ac,(Xc.lw.tre x1 hx1).same s40,λkl2 ml2 Hd hkl2 hml2 W2 of2=>⟨rfl,?_⟩⟩;have fkl2:Hc kl2=none:=s40.free hkl2;have s50:Same Hc Hd:=λb o e=>of2 _ _ (s40 _ _ e) (by simpa using aq e hpn2);have Xd:=Xc.same s50;obtain⟨dxp,hpp⟩:=Xc.lw.wat.ob;have hne:∀q∈[lt,p,kl,ml,ld],q≠p2∧q≠kl2:=λq hq=>by
   have:∃o,Hc q=some o:=by
    simp only[mem_cons,List.mem_nil_iff,or_false]at hq;rcases hq with e|e|e|e|e<;>rw[e]
    ·exact⟨_,Xc.lw.lst⟩
    ·exact⟨_,hpp⟩
    ·exact⟨_,Xc.lw.wat.kp⟩
    ·exact⟨_,Xc.lw.wat.mks⟩
    ·exact⟨_,Xc.dl.lst⟩
   obtain⟨o,ho⟩:=this;exact⟨aq ho hpn2,aq ho fkl2⟩
  have hTl:(ts.map λx=>nds x.2).length=ts.length:=length_map ..;have V0:L2W C H Hd p2 kl2 ml2 x1.1 x1.2 [] (ts.map λx=>nds x.2) M' k 0:=by
   have e0:((ts.map λx=>nds x.2).drop k).take (0+1)=[nds x1.2]:=by
    rw[List.take_add_one,List.take_zero,nil_append,getElem?_drop,add_zero,getElem?_eq_getElem (by omega),ex1,getD_eq_getElem?_getD,getElem?_eq_getElem (show k<(ts.map λx=>nds x.2).length by omega)];rfl
   refine⟨W2,?_,Xc.lw.s0.free hpn2,Xc.lw.s0.free fkl2⟩;rw[e0];refine⟨Nat.zero_lt_one,by decide,(show(0:Int)=min ((1:Int)-1) 30 by decide),rfl,λj x hj=>by simp at hj,λt ht n hn=>?_⟩;have:t=nds x1.2:=by simpa using ht
   rw[this]at hn;exact LTc.num _ (mem_map.mpr ⟨x1,hx1,rfl⟩) n hn
  refine h11 _ H Hd a lt p kl ml ld t p2 kl2 ml2 x1.1 ts ds z x1.2 ks [] M' b k _ _ _ _ _ Xd hb hk1 V0 hne λHe t2 z2 ks2 y5 Xe Ve=>?_;exact h12 _ H He a lt p kl ml ld t p2 kl2 ml2 t2 ts ds z z2 ks ks2 M' b k _ _ _ _ _ Xe hb hk1 Ve λH' s'=>q H' (Xe.lw.s0.trans s')
def rT(K:PySem.W.Frag):Sp:=λvs H Q _=>∃(a:Addr) (ns:List Int),vs=[.ref a]∧SqL K H a (ns.map V.int)∧ns.length≤63∧∀H',Q (.bl true) H'
theorem xZ:FnScope ["_law_script","_law_turn"] ["_law_script"] (ai wZ):=fsc
theorem zI{f:Addr}{fd:FuncData}(F:Fun K "law" "law" wZ f fd)(T:Txt mg)(CO:Has P w K mg base 6 "_law_once" ["_law_script"] (qG K)):FnOk P w K mg base CX0 7 f fd ["_law_script"] (rT K):=by
 obtain⟨fO,fdO,GO,mO,kO,bO⟩:=CO;refine F.ok xZ (λvs H Q E h=>?_) (λcdv A outer s H vs Q E hr h=>?_)
 ·obtain⟨a,ns,rfl,_⟩:=h;rfl
 ·obtain⟨a,ns,rfl,hS,hlen,k⟩:=h;refine⟨_,ag (dQ PassesOwn.never rfl (iw rfl T.range (aa ah ae)) (aE (i:=1) xZ.nd rfl (Or.inr rfl))
   (ag (aP (dc (db (al GO hr rfl mO kO bO .nil aF (aa (dA (N:=["_law_cell_here","_law_turn"]) (cl:=[("_law_turn",s.heap.objs.size+1)]) (k:=1) (js:=[1]) (g:=bj 0) rfl
      (LcOk.mk' ["_law_turn"] rfl rfl (by decide +kernel) (by decide +kernel) ?hcl rfl (by decide +kernel)) rfl ?hj
     (cR (pv 0)) (λs H fp=>aE (i:=0) (show(["_law_cell_here","_law_turn"]:List Str).Nodup by decide +kernel) rfl (Or.inl rfl) (Or.inr rfl))
     (λs H fp=>aD aZ (pv 0) (aD de ah (pv 1)))) ae)) (λ_=>rfl))) (ak (av eW)) ay)
   (ak (aP (am (gL hr.units0) (pv 0) (bu ae) (aw _)) (ak tw) ay))))
   (ak (av eW)),?_⟩
  case hcl =>
   intro y hy;rcases mem_cons.mp hy with e|hy
   ·rw[e];rfl
   ·cases hy
  case hj =>
   intro i j x h1 h2
   match i,h1,h2 with
   |0,h1,h2 =>
    cases h1;cases h2;exact⟨rfl,Or.inr (Or.inl rfl),(show((ai wZ).names.lookup ("_law_turn":Str)≠some NameKind.local)by decide +kernel),by first|exact Or.inl rfl|exact Or.inr rfl⟩
   |i+1,h1,h2=>simp at h1
  refine⟨8,rfl,by decide,by decide,ix (n:=8) (λi σ H'=>∃o,σ=[some (.ref a),o]∧Same H H') ⟨_,rfl,Same.refl H⟩ (λi σ H1 hi h=>?_) (λσ H1 h=>?_)⟩
  ·obtain⟨o,rfl,s1⟩:=h;have hS1:=s1.seq hS;refine⟨_,rfl,a,rfl,⟨_,hS1⟩,λp hp=>?_⟩;refine dL (fr:=[some (.int (0+(i:Int)))]) ns V.int (by omega) hp (ie hS1) rfl (λn y _=>y=.int (n+7919*(0+(i:Int)))) (λn y H H' h _=>h) (λn H' k' mn s2 _ hk=>?_) (λys H' s2 hp' hys=>?_)
   ·exact⟨_,rfl,_,rfl,_,_,rfl,rfl,.inl ⟨by decide,by decide⟩,_,_,rfl,rfl,hk _ H' (Same.refl _) rfl⟩
   ·have ey:=ck (f:=λn:Int=>V.int (n+7919*(0+(i:Int)))) hys (λz y _ h=>h);refine⟨p,rfl,⟨ns.map λn=>n+7919*(0+(i:Int)),SqL.of (by rw[hp',ey,map_map];rfl)⟩,λH3 s3=>⟨_,rfl,aI ?_⟩⟩;have s4:=(s1.trans s2).trans s3;refine⟨_,rfl,zero_le _,λq hq=>⟨a,q,_,rfl,rfl,(s4.trans (af hq)).seq hS,SqL.of ac,_,rfl,sw (λ_=>?_) (λ_=>?_)⟩⟩
    ·exact k _
    ·exact⟨_,rfl,s4.trans (af hq)⟩
  ·obtain⟨o,rfl,s1⟩:=h;exact k _
end
end TK
namespace TK
open PySem PySem.W PyProof.Rows L2
theorem fZ{K:PySem.W.Frag}{h:Heap}{mg:Str→Option Value}{x:Str}{C:Addr}{bB:List Value}{nid:String}(X:K.In h)(hb:mg x=some (.ref C))(q:excIn K C bB nid=true):OwnCls x C bB nid mg h:=by
 have hobj:∃bm N nm q' bs hdct sn sub ab col dd k0 k1 k2 k3 k5 mN,h.get? C=some (excClassObj nm q' C N bs bm hdct sn sub ab col dd k0 k1 k2 k3 k5 nid)∧h.Ns N mN∧mN "__init__"=none∧OwnTail h bB bm:=by
  unfold excIn at q
  split at q
  case h_2=>exact absurd q (by simp)
  case h_1 d0 c0 s0 hK =>
   split at q
   case h_2=>exact absurd q (by simp)
   case h_1 C1 b1 u0 u1 u2 u3 u4 u5 e1 e2 =>
    rw[and_eq_true,and_eq_true,and_eq_true,and_eq_true,and_eq_true]at q;obtain⟨⟨⟨⟨⟨y1,y2⟩,y3⟩,g4⟩,g5⟩,y6⟩:=q;have g1:C1=C:=beq_iff_eq.mp y1;have g2:u4=nid:=beq_iff_eq.mp y2;have g3:c0.hasDel=false:=by simpa using y3
    have g6:nsIn K c0.ns "__init__"=some none:=beq_iff_eq.mp y6;clear y1 y2 y3 y6;cases c0;cases s0;dsimp only at e1 e2 g3 g5 g6;subst g1 g2 g3 e1 e2;exact⟨_,_,_,_,_,_,_,_,_,_,_,_,_,_,_,_,_,X _ _ hK,Heap.Ns.of_isNs (PySem.W.isNs_of_in X g5),PySem.W.nsMap_none_of_in X g5 g6,PySem.W.tail_of_in X g4⟩
 exact⟨hb,hobj⟩
theorem Bh{α:Type}{P:List α→Prop}{us:List α}(hl:us.length=0)(h:P []):P us:=by cases us with|nil=>exact h|cons a r=>cases hl
theorem Ay{α:Type}{P:List α→Prop}{us:List α}(hl:us.length=1)(h:∀a0,P [a0]):P us:=by cases us with|nil=>cases hl|cons a r=>exact Bh (P:=λr=>P (a::r)) (Nat.succ.inj hl) (h a)
theorem Az{α:Type}{P:List α→Prop}{us:List α}(hl:us.length=2)(h:∀a0 a1,P [a0,a1]):P us:=by cases us with|nil=>cases hl|cons a r=>exact Ay (P:=λr=>P (a::r)) (Nat.succ.inj hl) (h a)
theorem AA{α:Type}{P:List α→Prop}{us:List α}(hl:us.length=3)(h:∀a0 a1 a2,P [a0,a1,a2]):P us:=by cases us with|nil=>cases hl|cons a r=>exact Az (P:=λr=>P (a::r)) (Nat.succ.inj hl) (h a)
theorem AB{α:Type}{P:List α→Prop}{us:List α}(hl:us.length=4)(h:∀a0 a1 a2 a3,P [a0,a1,a2,a3]):P us:=by cases us with|nil=>cases hl|cons a r=>exact AA (P:=λr=>P (a::r)) (Nat.succ.inj hl) (h a)
theorem Bi{α:Type}{P:List α→Prop}{us:List α}(hl:us.length=5)(h:∀a0 a1 a2 a3 a4,P [a0,a1,a2,a3,a4]):P us:=by cases us with|nil=>cases hl|cons a r=>exact AB (P:=λr=>P (a::r)) (Nat.succ.inj hl) (h a)
abbrev gA(K:PySem.W.Frag)(x:Str)(f:Addr):Prop:=nsIn K mainGlobals x=some (some (.ref f))
abbrev gN(K:PySem.W.Frag)(x:Str):Prop:=nsIn K mainGlobals x=some none
theorem fh{P:Program}{w:World}{K:PySem.W.Frag}{mg:Str→Option Value}{base h:Heap}{k:Nat}{x q:Str}{st:Stmt}{f:Addr}{fd:FuncData}{ps:List Str}{sp:Sp}(X:K.In h)(G:h.Ns mainGlobals mg)(F:Fun K x q st f fd)(a:gA K x f)(b:bf K fd ps [])(O:FnOk P w K mg base CX0 k f fd ps sp):Has P w K mg base k x ps sp:=⟨f,fd,O,mg_of X G a,F.kp,b⟩
theorem fhX{P:Program}{w:World}{K:PySem.W.Frag}{mg:Str→Option Value}{base h:Heap}{k:Nat}{x q:Str}{st:Stmt}{f:Addr}{fd:FuncData}{ps:List Str}{sp:Sp}(X:K.In h)(G:h.Ns mainGlobals mg)(F:Fun K x q st f fd)(a:gA K x f)(b:bf K fd ps [])(O:FnOk P w K mg base (CX1 P w) k f fd ps sp):dW P w K mg base k x ps sp:=⟨f,fd,O,mg_of X G a,F.kp,b⟩
theorem fb1{K:PySem.W.Frag}{x q a0:Str}{st:Stmt}{f:Addr}{fd:FuncData}(F:Fun K x q st f fd)(h:∀(kV doc pm:Value) (an:Option Addr) (cdv ct v0:Value),bindArgs (fnOf x q (du st) (br st) (ai st) .none kV doc pm an cdv ct) ⟨[v0],[]⟩=pure (List.zip [a0] [v0]):=by intros;rfl):bf K fd [a0] []:=F.binds λkV doc pm an cdv ct us hl=>Ay (P:=λus=>bindArgs _ ⟨us,[]⟩=pure (List.zip _ us)) hl (h kV doc pm an cdv ct)
theorem fb2{K:PySem.W.Frag}{x q a0 a1:Str}{st:Stmt}{f:Addr}{fd:FuncData}(F:Fun K x q st f fd)(h:∀(kV doc pm:Value) (an:Option Addr) (cdv ct v0 v1:Value),bindArgs (fnOf x q (du st) (br st) (ai st) .none kV doc pm an cdv ct) ⟨[v0,v1],[]⟩=pure (List.zip [a0,a1] [v0,v1]):=by intros;rfl):bf K fd [a0,a1] []:=F.binds λkV doc pm an cdv ct us hl=>Az (P:=λus=>bindArgs _ ⟨us,[]⟩=pure (List.zip _ us)) hl (h kV doc pm an cdv ct)
theorem fb3{K:PySem.W.Frag}{x q a0 a1 a2:Str}{st:Stmt}{f:Addr}{fd:FuncData}(F:Fun K x q st f fd)(h:∀(kV doc pm:Value) (an:Option Addr) (cdv ct v0 v1 v2:Value),bindArgs (fnOf x q (du st) (br st) (ai st) .none kV doc pm an cdv ct) ⟨[v0,v1,v2],[]⟩=pure (List.zip [a0,a1,a2] [v0,v1,v2]):=by intros;rfl):bf K fd [a0,a1,a2] []:=F.binds λkV doc pm an cdv ct us hl=>AA (P:=λus=>bindArgs _ ⟨us,[]⟩=pure (List.zip _ us)) hl (h kV doc pm an cdv ct)
theorem fb4{K:PySem.W.Frag}{x q a0 a1 a2 a3:Str}{st:Stmt}{f:Addr}{fd:FuncData}(F:Fun K x q st f fd)(h:∀(kV doc pm:Value) (an:Option Addr) (cdv ct v0 v1 v2 v3:Value),bindArgs (fnOf x q (du st) (br st) (ai st) .none kV doc pm an cdv ct) ⟨[v0,v1,v2,v3],[]⟩=pure (List.zip [a0,a1,a2,a3] [v0,v1,v2,v3]):=by intros;rfl):bf K fd [a0,a1,a2,a3] []:=F.binds λkV doc pm an cdv ct us hl=>AB (P:=λus=>bindArgs _ ⟨us,[]⟩=pure (List.zip _ us)) hl (h kV doc pm an cdv ct)
theorem fb5{K:PySem.W.Frag}{x q a0 a1 a2 a3 a4:Str}{st:Stmt}{f:Addr}{fd:FuncData}(F:Fun K x q st f fd)(h:∀(kV doc pm:Value) (an:Option Addr) (cdv ct v0 v1 v2 v3 v4:Value),bindArgs (fnOf x q (du st) (br st) (ai st) .none kV doc pm an cdv ct) ⟨[v0,v1,v2,v3,v4],[]⟩=pure (List.zip [a0,a1,a2,a3,a4] [v0,v1,v2,v3,v4]):=by intros;rfl):bf K fd [a0,a1,a2,a3,a4] []:=F.binds λkV doc pm an cdv ct us hl=>Bi (P:=λus=>bindArgs _ ⟨us,[]⟩=pure (List.zip _ us)) hl (h kV doc pm an cdv ct)
theorem zJ{l:PySem.W.OpenLaw}{w:World}{K:PySem.W.Frag}{h:Heap}{mg:Str→Option Value}{fa f1 f2 f3 f4 f5 f6 f7 f8 f9 f10 f11 f12 f13 f14 f15 f16 f17 f18 f19 f20 f21 f22 f23 f24 f25 f26 f27 f28 f29 f30 f31 f32 f33 f34 f35 f36 f37 f38 f39 OWatch:Addr}(X:K.In h)(G:h.Ns mainGlobals mg)(hfa:mg "law"=some (.ref fa)){d1 d2 d3 d4 d5 d6 d7 d8 d9 d10 d11 d12 d13 d14 d15 d16 d17 d18 d19 d20 d21 d22 d23 d24 d25 d26 d27 d28 d29 d30 d31 d32 d33 d34 d35 d36 d37 d38 d39:FuncData}{t1:Tok}(a1:gA K "is_whole" f1)(F1:Fun K "is_whole" "is_whole" qe f1 d1)(a2:gA K "is_name" f2)(F2:Fun K "is_name" "is_name" uS f2 d2)(a3:gA K "is_stamp" f3)(F3:Fun K "is_stamp" "is_stamp" qf f3 d3)(a4:gA K "is_node" f4)(F4:Fun K "is_node" "is_node" uT f4 d4)(a5:gA K "are_rising" f5)(F5:Fun K "are_rising" "are_rising" uU f5 d5)(a6:gA K "have_own_places" f6)(F6:Fun K "have_own_places" "have_own_places" yT f6 d6)(a7:gA K "numbers_inside" f7)(F7:Fun K "numbers_inside" "numbers_inside" yU f7 d7)(a8:gA K "is_tree" f8)(F8:Fun K "is_tree" "is_tree" uV f8 d8)(a9:gA K "by_number" f9)(F9:Fun K "by_number" "by_number" uW f9 d9)(a10:gA K "node_of" f10)(F10:Fun K "node_of" "node_of" yV f10 d10)(a11:gA K "check_folder" f11)(F11:Fun K "check_folder" "check_folder" yW f11 d11)(a12:gA K "below" f12)(F12:Fun K "below" "below" yX f12 d12)(a13:gA K "parts_by_number" f13)(F13:Fun K "parts_by_number" "parts_by_number" cJ f13 d13)(a14:gA K "unlike_entries" f14)(F14:Fun K "unlike_entries" "unlike_entries" cQ f14 d14)(a15:gA K "change_between" f15)(F15:Fun K "change_between" "change_between" aX f15 d15)(a16:gA K "turned_back" f16)(F16:Fun K "turned_back" "turned_back" dY f16 d16)(a17:gA K "joined" f17)(F17:Fun K "joined" "joined" eG f17 d17)(a18:gA K "applied" f18)(F18:Fun K "applied" "applied" cC f18 d18)(a19:gA K "check_place" f19)(F19:Fun K "check_place" "check_place" yY f19 d19)(a20:gA K "with_node" f20)(F20:Fun K "with_node" "with_node" rH f20 d20)(a21:gA K "make" f21)(F21:Fun K "make" "make" uX f21 d21)(a22:gA K "write" f22)(F22:Fun K "write" "write" qg f22 d22)(a23:gA K "move" f23)(F23:Fun K "move" "move" uY f23 d23)(a24:gA K "drop" f24)(F24:Fun K "drop" "drop" rJ f24 d24)(a25:gA K "done" f25)(F25:Fun K "done" "done" uZ f25 d25)(a26:findIn K (.ref OWatch) "__init__"=some (some (.ref f26)))(i26:isFn K (.ref f26)=true)(F26:Fun K "__init__" "Watch.__init__" fq f26 d26)(a27:findIn K (.ref OWatch) "deed"=some (some (.ref f27)))(i27:isFn K (.ref f27)=true)(F27:Fun K "deed" "Watch.deed" ft f27 d27)(a28:findIn K (.ref OWatch) "now"=some (some (.ref f28)))(i28:isFn K (.ref f28)=true)(F28:Fun K "now" "Watch.now" gP f28 d28)(a29:findIn K (.ref OWatch) "mark"=some (some (.ref f29)))(i29:isFn K (.ref f29)=true)(F29:Fun K "mark" "Watch.mark" fu f29 d29)(a30:findIn K (.ref OWatch) "since"=some (some (.ref f30)))(i30:isFn K (.ref f30)=true)(F30:Fun K "since" "Watch.since" eS f30 d30)(a31:gA K "_law_cell" f31)(F31:Fun K "_law_cell" "_law_cell" va f31 d31)(a32:gA K "_law_pick" f32)(F32:Fun K "_law_pick" "_law_pick" vb f32 d32)(a33:gA K "_law_tree" f33)(F33:Fun K "_law_tree" "_law_tree" iQ f33 d33)(a34:gA K "_law_book" f34)(F34:Fun K "_law_book" "_law_book" vc f34 d34)(a35:gA K "_law_under" f35)(F35:Fun K "_law_under" "_law_under" qh f35 d35)(a36:gA K "_law_done" f36)(F36:Fun K "_law_done" "_law_done" cn f36 d36)(a37:gA K "_law_deed" f37)(F37:Fun K "_law_deed" "_law_deed" jd f37 d37)(a38:gA K "_law_once" f38)(F38:Fun K "_law_once" "_law_once" fw f38 d38)(a39:gA K "law" f39)(F39:Fun K "law" "law" wZ f39 d39)(z1:gN K "isinstance")(z2:gN K "dict")(z3:gN K "len")(z4:gN K "tuple")(z5:gN K "list")(z6:gN K "range")(z7:gN K "sorted")(z8:gN K "reversed")(z9:gN K "ValueError")(z10:gN K "str")(z11:gN K "set")(z12:gN K "max")(z13:gN K "min")(z14:gN K "sum")(z15:gN K "zip")(z16:gN K "enumerate")(z17:gN K "all")(z18:gN K "int")(z19:gN K "bool")(v1t:nsIn K mainGlobals "TOP"=some (some (.int 0 t1))){t2:Tok}(v2t:nsIn K mainGlobals "LETTERS"=some (some (.str "abcdefghijklmnopqrstuvwxyz" t2))){t3:Tok}(v3t:nsIn K mainGlobals "LONGEST_NAME"=some (some (.int 5 t3))){t4:Tok}(v4t:nsIn K mainGlobals "GREATEST_STAMP"=some (some (.int 999 t4))){B0 B1 B2 B3 B4 B5 CN CM:Addr}(x0:nsIn K mainGlobals "Inside"=some (some (.ref B0)))(q0:excIn K B0 bmV "ValueError.__new__"=true)(x1:nsIn K mainGlobals "Known"=some (some (.ref B1)))(q1:excIn K B1 bmV "ValueError.__new__"=true)(x2:nsIn K mainGlobals "NoNode"=some (some (.ref B2)))(q2:excIn K B2 bmV "ValueError.__new__"=true)(x3:nsIn K mainGlobals "NotFile"=some (some (.ref B3)))(q3:excIn K B3 bmV "ValueError.__new__"=true)(x4:nsIn K mainGlobals "NotFolder"=some (some (.ref B4)))(q4:excIn K B4 bmV "ValueError.__new__"=true)(x5:nsIn K mainGlobals "Taken"=some (some (.ref B5)))(q5:excIn K B5 bmV "ValueError.__new__"=true)(xN:nsIn K mainGlobals "NoMatch"=some (some (.ref CN)))(qN:excIn K CN bmV "ValueError.__new__"=true)(xM:nsIn K mainGlobals "NoMark"=some (some (.ref CM)))(qM:excIn K CM bmV "ValueError.__new__"=true)(aWatch:nsIn K mainGlobals "Watch"=some (some (.ref OWatch)))(pgWatch:plainGet K OWatch empty=true)(hdWatch:hasDictIn K OWatch=true)(poWatch:plainOver K OWatch=true)(saWatch:findIn K (.ref OWatch) "__setattr__"=some (some (.builtin "object.__setattr__")))(mkWatch:makesIn K OWatch=true)(kcWatch:keepIn K (.ref OWatch)=true)(naWatch0:findIn K (.ref OWatch) "tree"=some none)(naWatch1:findIn K (.ref OWatch) "most"=some none)(naWatch2:findIn K (.ref OWatch) "deeds_done"=some none)(naWatch3:findIn K (.ref OWatch) "kept"=some none)(naWatch4:findIn K (.ref OWatch) "marks_seen"=some none):
  ∃fd:FuncData,(∀(s:Shared)(v:Value),BindsTo s fd ⟨[v],[]⟩ [("_law_script",v)])∧∀base:Heap,K.In base→base.Ns mainGlobals mg→FnOk l.prog w K mg base CX0 7 fa fd ["_law_script"] (rT K):=by
 have e:=hfa.symm.trans (mg_of X G a39);cases e;have T:Txt mg:=⟨mg_none_of X G z1,mg_none_of X G z2,mg_none_of X G z3,mg_none_of X G z4,mg_none_of X G z5,mg_none_of X G z6,mg_none_of X G z7,mg_none_of X G z8,mg_none_of X G z9,mg_none_of X G z10,mg_none_of X G z11,mg_none_of X G z12,mg_none_of X G z13,mg_none_of X G z14,mg_none_of X G z15,mg_none_of X G z16,mg_none_of X G z17,mg_none_of X G z18,mg_none_of X G z19,⟨_,mg_of X G v1t⟩,⟨_,mg_of X G v2t⟩,⟨_,mg_of X G v3t⟩,⟨_,mg_of X G v4t⟩⟩
 let cls:TW.Wd→Addr:=λwd=>match wd with | .inside=>B0 | .known=>B1 | .noNode=>B2 | .notFile=>B3 | .notFolder=>B4 | .taken=>B5
 have TWatch:WCls K mg OWatch:=⟨⟨pgWatch,hdWatch,poWatch,saWatch⟩,naWatch0,naWatch1,naWatch2,naWatch3,naWatch4,mg_of X G aWatch⟩;have MkWatch:Mk K OWatch f26:=⟨mkWatch,a26,i26,kcWatch⟩;have M_Watch___init__:Meth K OWatch "__init__" f26:=⟨a26,i26,F26.kp⟩;have b_Watch___init__:bf K d26 ["self","tree","most"] []:=fb3 F26;have M_Watch_deed:Meth K OWatch "deed" f27:=⟨a27,i27,F27.kp⟩;have b_Watch_deed:bf K d27 ["self","deed"] []:=fb2 F27;have M_Watch_now:Meth K OWatch "now" f28:=⟨a28,i28,F28.kp⟩;have b_Watch_now:bf K d28 ["self"] []:=fb1 F28;have M_Watch_mark:Meth K OWatch "mark" f29:=⟨a29,i29,F29.kp⟩;have b_Watch_mark:bf K d29 ["self"] []:=fb1 F29;have M_Watch_since:Meth K OWatch "since" f30:=⟨a30,i30,F30.kp⟩;have b_Watch_since:bf K d30 ["self","mark"] []:=fb2 F30;have hb:∀(s:Shared)(v:Value),BindsTo s d39 ⟨[v],[]⟩ [("_law_script",v)]:=by
  obtain⟨_,_,_,_,_,_,_,_,_,e,_,_⟩:=F39.ex;subst e;exact λs v=>.of_eq rfl
 refine⟨d39,hb,λbase KB _=>?_⟩
 let H:=Has l.prog w K mg base
 let HX:=dW l.prog w K mg base
 have W6:wX mg base cls:=λwd=>match wd with | .inside=>fZ KB (mg_of X G x0) q0 | .known=>fZ KB (mg_of X G x1) q1 | .noNode=>fZ KB (mg_of X G x2) q2 | .notFile=>fZ KB (mg_of X G x3) q3 | .notFolder=>fZ KB (mg_of X G x4) q4 | .taken=>fZ KB (mg_of X G x5) q5
 have OW:jb "NoMatch" mg base CN:=fZ KB (mg_of X G xN) qN;have OM:jb "NoMark" mg base CM:=fZ KB (mg_of X G xM) qM;have C_is_whole:H 1 "is_whole" ["thing"] jv:=fh X G F1 a1 (fb1 F1) (vW F1 T);have C_is_name:H 1 "is_name" ["thing"] qB:=fh X G F2 a2 (fb1 F2) (xF F2 T);have C_is_stamp:H 2 "is_stamp" ["thing"] nJ:=fh X G F3 a3 (fb1 F3) (vX F3 T C_is_whole);have C_is_node:H 3 "is_node" ["thing"] qD:=fh X G F4 a4 (fb1 F4) (xH F4 T C_is_whole C_is_name C_is_stamp);have C_are_rising:H 1 "are_rising" ["nodes"] qF:=fh X G F5 a5 (fb1 F5) (xI F5 T);have C_have_own_places:H 1 "have_own_places" ["nodes"] vY:=fh X G F6 a6 (fb1 F6) (zE F6 T);have C_numbers_inside:H 1 "numbers_inside" ["nodes","folder"] oV:=fh X G F7 a7 (fb2 F7) (yZ F7 T);have C_is_tree:H 4 "is_tree" ["thing"] nL:=fh X G F8 a8 (fb1 F8) (vZ F8 T C_is_node C_are_rising C_have_own_places C_numbers_inside);have C_by_number:H 1 "by_number" ["tree"] kj:=fh X G F9 a9 (fb1 F9) (za F9 T);have C_by_number_C:H 1 "by_number" ["tree"] qr:=fh X G F9 a9 (fb1 F9) (xq F9 T);have C_node_of:HX 1 "node_of" ["nodes","number"] (km (cls .noNode)):=fhX X G F10 a10 (fb2 F10) (zb F10 (W6 .noNode));have C_check_folder:HX 2 "check_folder" ["nodes","number"] (rL (cls .noNode) (cls .notFolder)):=fhX X G F11 a11 (fb2 F11) (zd F11 T (W6 .notFolder) C_node_of);have C_below:HX 2 "below" ["tree","number"] (rK (cls .noNode)):=fhX X G F12 a12 (fb2 F12) (zc F12 T C_by_number C_node_of C_numbers_inside);have C_parts_by_number:H 1 "parts_by_number" ["tree"] nB:=fh X G F13 a13 (fb1 F13) (xo F13 T);have C_unlike_entries:H 1 "unlike_entries" ["entries"] pw:=fh X G F14 a14 (fb1 F14) (zl F14 T);have C_change_between:H 2 "change_between" ["one","other"] rP:=fh X G F15 a15 (fb2 F15) (zm F15 T C_parts_by_number C_unlike_entries);have C_turned_back:H 1 "turned_back" ["change"] xD:=fh X G F16 a16 (fb1 F16) (Aw F16 T);have C_joined:H 2 "joined" ["one","other"] vB:=fh X G F17 a17 (fb2 F17) (As F17 T C_by_number_C C_unlike_entries);have C_applied:HX 5 "applied" ["tree","change"] (pD CN):=fhX X G F18 a18 (fb2 F18) (zH F18 T OW C_parts_by_number C_is_tree);have C_check_place:HX 1 "check_place" ["tree","number","parent","name"] (oW (cls .taken)):=fhX X G F19 a19 (fb4 F19) (ze F19 (W6 .taken));have C_with_node:H 1 "with_node" ["tree","changed"] kn:=fh X G F20 a20 (fb2 F20) (xa F20 T);have C_make:HX 3 "make" ["tree","number","parent","name","stamp"] (qi cls):=fhX X G F21 a21 (fb5 F21) (xb F21 T W6 C_by_number C_check_folder C_check_place);have C_write:HX 2 "write" ["tree","number","stamp"] (nq cls):=fhX X G F22 a22 (fb3 F22) (vf F22 W6 C_by_number C_node_of C_with_node);have C_move:HX 3 "move" ["tree","number","parent","name"] (qj cls):=fhX X G F23 a23 (fb4 F23) (xc F23 W6 C_by_number C_node_of C_check_folder C_below C_check_place C_with_node);have C_drop:HX 3 "drop" ["tree","number"] (ql cls):=fhX X G F24 a24 (fb2 F24) (xf F24 T C_by_number C_node_of C_below);have C_done:HX 4 "done" ["tree","deed"] (qm cls):=fhX X G F25 a25 (fb2 F25) (xg F25 C_make C_write C_move C_drop);have G_Watch___init__:FnOk l.prog w K mg base CX0 1 f26 _ ["self","tree","most"] (qy OWatch):=xt F26 TWatch;have G_Watch_deed:FnOk l.prog w K mg base (CX1 l.prog w) 5 f27 _ ["self","deed"] (ir OWatch cls):=vH F27 T TWatch C_done C_change_between;have G_Watch_now:FnOk l.prog w K mg base CX0 1 f28 _ ["self"] (nF OWatch):=xu F28 TWatch;have G_Watch_mark:FnOk l.prog w K mg base CX0 1 f29 _ ["self"] (jr OWatch):=vG F29 TWatch;have G_Watch_since:FnOk l.prog w K mg base (CX1 l.prog w) 3 f30 _ ["self","mark"] (cZ OWatch CM):=sY F30 T TWatch OM C_joined;have C__law_cell:H 1 "_law_cell" ["_law_script","_law_k"] (qA K):=fh X G F31 a31 (fb2 F31) (xA F31 T);have C__law_pick:H 2 "_law_pick" ["_law_script","_law_k","_law_many"] (eV K):=fh X G F32 a32 (fb3 F32) (xB F32 T C__law_cell);have C__law_tree:H 3 "_law_tree" ["_law_script","_law_at","_law_most"] (nH K):=fh X G F33 a33 (fb3 F33) (vQ F33 T C__law_pick);have C__law_book:H 1 "_law_book" ["_law_tree_here"] qz:=fh X G F34 a34 (fb1 F34) (xw F34 T);have C__law_under:H 1 "_law_under" ["_law_book_here","_law_number","_law_goal"] kX:=fh X G F35 a35 (fb3 F35) (zv F35);have C__law_done:H 2 "_law_done" ["_law_tree_here","_law_deed_here"] ju:=fh X G F36 a36 (fb2 F36) (vO F36 T C__law_book C__law_under);have C__law_deed:H 3 "_law_deed" ["_law_script","_law_at","_law_tree_here"] (nI K):=fh X G F37 a37 (fb3 F37) (xC F37 T C__law_pick);have C__law_once:H 6 "_law_once" ["_law_script"] (qG K):=fh X G F38 a38 (fb1 F38) (xL F38 T TWatch MkWatch G_Watch___init__ b_Watch___init__ G_Watch_deed M_Watch_deed b_Watch_deed G_Watch_since M_Watch_since b_Watch_since G_Watch_mark M_Watch_mark b_Watch_mark G_Watch_now M_Watch_now b_Watch_now C__law_tree C__law_pick C__law_deed C__law_done C_change_between C_joined C_applied C_turned_back);exact zI F39 T C__law_once
theorem walk{l:PySem.W.OpenLaw}{q:Program}{loose:List Str}{XP:(Str→Option Value)→Heap→Prop}{YP:World→Heap→Prop}{d:DefRec}{K:Params→PySem.W.Frag}(hn:l.most=some 63)(hdf:d.params.defaults=[])(hY:∀(w:World) (h:Heap),YP w h→(K w.params).In h)(F:∀(w:World) (mg:Str→Option Value) (fa:Addr) (h:Heap),(K w.params).In h→h.Ns mainGlobals mg→mg d.name=some (.ref fa) →
   ∃fd:FuncData,(∀(s:Shared) (u:Value),BindsTo s fd ⟨[u],[]⟩ [("_law_script",u)])∧∀base:Heap,(K w.params).In base→base.Ns mainGlobals mg→FnOk l.prog w (K w.params) mg base CX0 7 fa fd ["_law_script"] (rT (K w.params))):
  PySem.W.WalkO q loose XP YP l.row.toRowW d [] (λf vs=>PySem.call f vs) :=
 L2.wx (n:=63) (k:=7) (x:="_law_script") (CX:=λ_=>CX0) (sp:=λw=>rT (K w.params)) hn (by decide) hdf ⟨rfl,by decide,by decide⟩ hY F (λ_ _ a ns hl _ hS=>⟨a,ns,rfl,hS,hl,λ_=>rfl⟩) λ_ _ _ _ _ z=>z
end TK
end
open PySem PySem.W PyProof.Rows
def PySem.W.Fast.tw3225836564314719172:Unit:=()
def PySem.W.Fast.tw3850217107231061775:Unit:=()
def PySem.W.Fast.tw16939483498797967826:Unit:=()
def PySem.W.Fast.tw3948834681308820852:Unit:=()
def PySem.W.Fast.tw150277919226602137:Unit:=()
def PySem.W.Fast.tw7505388793577481335:Unit:=()
def PySem.W.Fast.tw8953103983440085517:Unit:=()
def PySem.W.Fast.tw677313987679332861:Unit:=()
def PySem.W.Fast.tw17643782383637504110:Unit:=()
def PySem.W.Fast.tw14284592991533579409:Unit:=()
def PySem.W.Fast.tw3438884433804587464:Unit:=()
def PySem.W.Fast.tw17454832589182556627:Unit:=()
def PySem.W.Fast.tw2227058115823546977:Unit:=()
def PySem.W.Fast.tw2342560731655892295:Unit:=()
def PySem.W.Fast.tw10918051035513768576:Unit:=()
def PySem.W.Fast.tw10081314692899269148:Unit:=()
def PySem.W.Fast.tw13810089935582485486:Unit:=()
def PySem.W.Fast.tw15683609607483546612:Unit:=()
def PySem.W.Fast.tw7138415929205290104:Unit:=()
def PySem.W.Fast.tw6574345981453536458:Unit:=()
def PySem.W.Fast.tw4092161703671276632:Unit:=()
def PySem.W.Fast.tw8340352740188580567:Unit:=()
def PySem.W.Fast.tw13806978687482110093:Unit:=()
def PySem.W.Fast.tw2385888898221717723:Unit:=()
def PySem.W.Fast.tw2257439742278663815:Unit:=()
def PySem.W.Fast.tw16120772883300396769:Unit:=()
def PySem.W.Fast.tw6328199267322319035:Unit:=()
def PySem.W.Fast.tw2852995548724831292:Unit:=()
def PySem.W.Fast.tw14805608966052025092:Unit:=()
def PySem.W.Fast.tw4448873253682390004:Unit:=()
def PySem.W.Fast.tw3870181607002424719:Unit:=()
def PySem.W.Fast.tw2144155257350338038:Unit:=()
def PySem.W.Fast.tw4509794355917565307:Unit:=()
def PySem.W.Fast.tw2053662460447972539:Unit:=()
def PySem.W.Fast.tw657209616293581985:Unit:=()
def PySem.W.Fast.tw4672631939564782465:Unit:=()
def PySem.W.Fast.tw688413888623369076:Unit:=()
def PySem.W.Fast.tw12735863814132979007:Unit:=()
def PySem.W.Fast.tw15270104740911507533:Unit:=()
def PySem.W.Fast.tw8841305311887436000:Unit:=()
def PySem.W.Fast.tw14600209635589116982:Unit:=()
def PySem.W.Fast.tw9612565022263887649:Unit:=()
def PySem.W.Fast.tw17848403390230402301:Unit:=()
def PySem.W.Fast.tw12416013262699782301:Unit:=()
def PySem.W.Fast.tw15406361147274918429:Unit:=()
def PySem.W.Fast.tw4512645126786649284:Unit:=()
def PySem.W.Fast.tw8669316006434564169:Unit:=()
def PySem.W.Fast.tw6268403394282242167:Unit:=()
def PySem.W.Fast.tw1611372095148772995:Unit:=()
def PySem.W.Fast.tw16445978792952470148:Unit:=()
def PySem.W.Fast.tw14433320067363834530:Unit:=()
def PySem.W.Fast.tw6440529543068167510:Unit:=()
def PySem.W.Fast.tw7123347281784248357:Unit:=()
def PySem.W.Fast.tw16150982220400304390:Unit:=()
def PySem.W.Fast.tw14612347468741331676:Unit:=()
def PySem.W.Fast.tw3574227267437202036:Unit:=()
def PySem.W.Fast.tw5658724462742901888:Unit:=()
def PySem.W.Fast.tw3673381365176079864:Unit:=()
def PySem.W.Fast.tw660471048540359645:Unit:=()
def PySem.W.Fast.tw1494823910465029798:Unit:=()
set_option maxRecDepth 100000 in
set_option maxHeartbeats 0 in
theorem PySem.Challenge.cw_treewatch_k42_whole_from_mark_to_mark_holds : PySem.Challenge.rw_treewatch_k42_whole_from_mark_to_mark.Holds := by
 w_on; o_law; k_head; (case hw=>w_witness2)
 k_fill
 refine TK.walk (l:=PySem.Challenge.rw_treewatch_k42_whole_from_mark_to_mark) rfl rfl (λw h Y=>PySem.W.kIn_of Y) ?F
 case F =>
  intro w mg fa h KX G hmg
  refine' TK.zJ KX G hmg ?a1 ?F1 ?a2 ?F2 ?a3 ?F3 ?a4 ?F4 ?a5 ?F5 ?a6 ?F6 ?a7 ?F7 ?a8 ?F8 ?a9 ?F9 ?a10 ?F10 ?a11 ?F11 ?a12 ?F12 ?a13 ?F13 ?a14 ?F14 ?a15 ?F15 ?a16 ?F16 ?a17 ?F17 ?a18 ?F18 ?a19 ?F19 ?a20 ?F20 ?a21 ?F21 ?a22 ?F22 ?a23 ?F23 ?a24 ?F24 ?a25 ?F25 ?a26 ?i26 ?F26 ?a27 ?i27 ?F27 ?a28 ?i28 ?F28 ?a29 ?i29 ?F29 ?a30 ?i30 ?F30 ?a31 ?F31 ?a32 ?F32 ?a33 ?F33 ?a34 ?F34 ?a35 ?F35 ?a36 ?F36 ?a37 ?F37 ?a38 ?F38 ?a39 ?F39 ?z1 ?z2 ?z3 ?z4 ?z5 ?z6 ?z7 ?z8 ?z9 ?z10 ?z11 ?z12 ?z13 ?z14 ?z15 ?z16 ?z17 ?z18 ?z19 ?v1t ?v2t ?v3t ?v4t ?x0 ?q0 ?x1 ?q1 ?x2 ?q2 ?x3 ?q3 ?x4 ?q4 ?x5 ?q5 ?xN ?qN ?xM ?qM ?aWatch ?pgWatch ?hdWatch ?poWatch ?saWatch ?mkWatch ?kcWatch ?naWatch0 ?naWatch1 ?naWatch2 ?naWatch3 ?naWatch4
  (case aWatch=>k_is)
  (case a1|a2|a3|a4|a5|a6|a7|a8|a9|a10|a11|a12|a13|a14|a15|a16|a17|a18|a19|a20|a21|a22|a23|a24|a25=>unfold TK.gA; k_is)
  (case F1|F2|F3|F4|F5|F6|F7|F8|F9|F10|F11|F12|F13|F14|F15|F16|F17|F18|F19|F20|F21|F22|F23|F24|F25=>apply L2.iD <;> k_is)
  (case a26|i26=>k_is)
  (case F26=>apply L2.iD <;> k_is)
  (case a27|i27=>k_is)
  (case F27=>apply L2.iD <;> k_is)
  (case a28|i28=>k_is)
  (case F28=>apply L2.iD <;> k_is)
  (case a29|i29=>k_is)
  (case F29=>apply L2.iD <;> k_is)
  (case a30|i30=>k_is)
  (case a31|a32|a33|a34|a35|a36|a37|a38|a39=>unfold TK.gA; k_is)
  (case F30|F31|F32|F33|F34|F35|F36|F37|F38|F39=>apply L2.iD <;> k_is)
  (case z1|z2|z3|z4|z5|z6|z7|z8|z9|z10|z11|z12|z13|z14|z15|z16|z17|z18|z19=>unfold TK.gN; k_is)
  (case v1t|v2t|v3t|v4t|x0=>k_is)
  (case x1|x2|x3|x4|x5|xN|xM=>k_is)
  (case q0|q1|q2|q3|q4|q5|qN|qM=>k_exc)
  (case pgWatch|hdWatch|poWatch|saWatch|mkWatch|kcWatch|naWatch0|naWatch1|naWatch2|naWatch3|naWatch4=>k_is)
