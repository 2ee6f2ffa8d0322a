import PyProof.Rows.All
import Wide.All
import OpenK.AllK
import Wide.FinOn
import Lean
import PyProof.EqAt
import PyProof.EqKinds
import PyProof.TupleCall
import PyProof.CompFree
import PySem.SetTable
import PyProof.SetScanFacts
import PyProof.TupleKey
import PyProof.SetKind
import PyProof.IsRules
import PyProof.SetRoads
import PyProof.InstSpecial
import PyProof.Rows.SetFrom
import KE.KSortTup
import PyProof.StrWalks
import PyProof.EnumMake
import PyProof.ConsumeWalk
import PyProof.ListRange
import PyProof.NeKinds
import PyProof.ZipIter
import KE.KTryDeep
import OpenK.KOwn
import PyProof.RulesAs
import PyProof.NsDelKeeps
import PyProof.ExcArgsOwn
import PyProof.ExcAttrAll.ValueError
import KE.KIsAll
import OpenK.KNot
import PyProof.IsiH_list
import PyProof.Rows.FStr
import KE.KDictOf
import PyProof.AttrMissHeap
import PyProof.DictIter
import PyProof.DictWalks
import PyProof.Rows.DictUnroll
import KE.KRevIter
import KE.KDictList
import PyProof.CollectIter
import PyProof.TupleOfGen
import KE.KSortKey
import PyProof.FactsAll.NoneType_1
import PyProof.CompUse
import PyProof.Rows.FStrParts
import KE.KLam
import KE.KNestM
import PySem.Challenge.RW_treewatch_k04_whole_meetings
set_option Elab.async false
set_option linter.all false
set_option maxRecDepth 100000
set_option maxHeartbeats 8000000
open PySem.W (methodObj hideAll hideAll_size hideAll_get of_hideAll hideAll_none keepIn fnOf codeIn kat_cons KatTups kat_lt_int KdlSrc envX CodeHd kla_obj tabObj kla_fn Looks codeHdIn codeHd_of_K excIn nsIn mg_of mg_none_of)
open PyProof.Rows (boot_tuple boot_dict boot_sorted boot_min)
open PySem.F (slot_dict_pop slot_dict_get entry_dict_get args_dict_get_2 plainAttrs_dict plain_list_iadd called_tuple slot_NoneType_hash plainAttrs_list slot_list_pop type_list_pop)
open List (mem_filter mem_range filterMap_cons mem_cons_self mem_cons_of_mem mem_cons mem_append mem_append_left getElem_inj mem_append_right size_toArray append_nil nodup_cons of_mem_zip length length_take getElem?_append_right getElem?_append_left getElem?_map mem_of_getElem? length_append length_map map_nil map_cons any_cons length_singleton find?_cons length_cons filter_cons length_filter_le forIn_cons forIn_nil toArray mem_map any_map any_eq_true length_range length_eq_zero_iff not_mem_nil getD_eq_getElem?_getD getElem?_eq_getElem getElem_mem ext_getElem? getElem?_range getElem?_eq_none pairwise_iff_getElem map_map map_congr_left take_succ getElem_map nodup_nil map_append take_length not_lt Nodup pairwise_map filter_cons_of_pos filter_cons_of_neg append_inj' append_assoc all_eq_true Sublist nil_append take_zero)
open Nat (lt_of_lt_of_le lt_irrefl ne_of_lt le_trans le_of_lt ne_of_gt le_refl zero_le le_succ lt_trans lt_of_le_of_lt lt_succ_of_lt zero_add le_add_right le_of_eq)
open Array (length_toList toList getElem?_toList getD_eq_getD_getElem? toList_inj)
open Option (map_some)
open Bool (and_eq_true false_eq_true)
open PySem.Heap (lt_size SameBut get?_push_of_some get?_push_size size_push size_update get?_push_ne get?_update_ne IsTuple FlyingW)
open PySem.Calls (spliced_nil spliced_cons callWith_builtin evalArgs_plain)
open PySem.SeqAt (EqAt)
open PySem.Value (type)
open PySem (SetTable boot_len)
open PySem.Str (ofString empty)
open Ne (symm)
noncomputable section
namespace L2
open PySem PySem.Spec PyProof.Rows
abbrev Key:=Sum Int Str
def cp:Key→Value→Bool
 |.inl k,v=>Value.isInt k v
 |.inr x,v=>Value.isStrOf x v
def qc(w:World):Key→Int
 |.inl k=>hashInt k
 |.inr x=>hashStr w x
theorem av:∀{k:Key}{v:Value},cp k v=true→(∃i t,k=Sum.inl i∧v=Value.int i t)∨(∃x t,k=Sum.inr x∧v=Value.str x t)
 |.inl i,v,h=>by
  obtain⟨t,e⟩:=Value.isInt_shape (k:=i) (v:=v) h;exact .inl ⟨i,t,rfl,e⟩
 |.inr x,v,h=>by
  obtain⟨t,e⟩:=Value.isStrOf_shape (x:=x) (v:=v) h;exact .inr ⟨x,t,rfl,e⟩
theorem jO(i:Int)(t:Tok):cp (.inl i) (.int i t)=true:=by simp[cp,Value.isInt]
theorem fb(x:Str)(t:Tok):cp (.inr x) (.str x t)=true:=by simp[cp,Value.isStrOf]
theorem ox(a b:Int):decide ((Sum.inl a:Key)=Sum.inl b)=(a==b):=by
 by_cases e:a=b
 ·subst e;simp
 ·have h:¬(Sum.inl a:Key)=Sum.inl b:=λq=>e (Sum.inl.inj q);rw[decide_eq_false h];exact(beq_eq_false_iff_ne.mpr e).symm
theorem oy(a b:Str):decide ((Sum.inr a:Key)=Sum.inr b)=decide (a=b):=by
 by_cases e:a=b
 ·subst e;simp
 ·have h:¬(Sum.inr a:Key)=Sum.inr b:=λq=>e (Sum.inr.inj q);rw[decide_eq_false h,decide_eq_false e]
theorem oz(a:Int)(b:Str):decide ((Sum.inl a:Key)=Sum.inr b)=false:=decide_eq_false (λq=>nomatch q)
theorem oA(a:Str)(b:Int):decide ((Sum.inr a:Key)=Sum.inl b)=false:=decide_eq_false (λq=>nomatch q)
def am(prog:Program)(w:World):PySem.KeyKind prog w Key where
 is:=cp
 hash:=qc w
 inj:=λv a b ha hb=>by
  rcases av ha with⟨i,t,rfl,rfl⟩|⟨x,t,rfl,rfl⟩
  ·rcases av hb with⟨j,u,rfl,e⟩|⟨y,u,rfl,e⟩
   ·injection e with e1 _;rw[e1]
   ·exact nomatch e
  ·rcases av hb with⟨j,u,rfl,e⟩|⟨y,u,rfl,e⟩
   ·exact nomatch e
   ·injection e with e1 _;rw[e1]
 byValue:=λk v h=>by
  rcases av h with⟨i,t,rfl,rfl⟩|⟨x,t,rfl,rfl⟩<;>rfl
 pyHash:=λhv h=>by
  rcases av hv with⟨i,t,rfl,rfl⟩|⟨x,t,rfl,rfl⟩
  ·exact wpAny_pyHash_int h
  ·exact wpAny_pyHash_str h
 eqBool:=λhu hv h=>by
  rcases av hu with⟨i,t,rfl,rfl⟩|⟨x,t,rfl,rfl⟩
  ·rcases av hv with⟨j,u,rfl,rfl⟩|⟨y,u,rfl,rfl⟩
   ·rw[ox]at h;exact wpAny_eqBool_int h
   ·rw[oz]at h;exact EqAt.int_str i t y u _ _ _ _ h
  ·rcases av hv with⟨j,u,rfl,rfl⟩|⟨y,u,rfl,rfl⟩
   ·rw[oA]at h;exact EqAt.str_int x t j u _ _ _ _ h
   ·rw[oy]at h;exact wpAny_eqBool_str h
 «strs»:=λk x t v h=>by
  rcases av h with⟨i,u,rfl,e⟩|⟨y,u,rfl,e⟩
  ·exact nomatch e
  ·injection e with e1 _
   subst e1;cases v<;>rfl
theorem gG(prog:Program)(w:World)(i:Int)(t:Tok):(am prog w).is (.inl i) (.int i t)=true:=jO i t
theorem gH(prog:Program)(w:World)(x:Str)(t:Tok):(am prog w).is (.inr x) (.str x t)=true:=fb x t
inductive V where
 |non|bl (b:Bool)|int (i:Int)|str (x:Str)|byt (b:Array UInt8)|flt (b:UInt64)|ref (a:Addr)|ty (n:String)
 deriving DecidableEq
def aq:V→Value→Prop
 |.non,u=>u=Value.none
 |.bl b,u=>u=Value.bool b
 |.int i,u=>∃t,u=Value.int i t
 |.str x,u=>∃t,u=Value.str x t
 |.byt b,u=>∃t,u=Value.bytes b t
 |.flt b,u=>∃t,u=Value.float b t
 |.ref a,u=>u=Value.ref a
 |.ty n,u=>u=type n
abbrev ao:List V→List Value→Prop:=Paired aq
theorem ao.length{xs:List V}{us:List Value}(r:ao xs us):xs.length=us.length:=Paired.length r
theorem ao.get:∀{xs:List V}{us:List Value}{i:Nat}{x:V},ao xs us→xs[i]?=some x→∃u,us[i]?=some u∧aq x u
 |_,_,_,_,.nil,e=>by simp at e
 |_,_,0,_,.cons r _,e=>by simp at e;subst e;exact⟨_,rfl,r⟩
 |_,_,i+1,x,.cons _ t,e=>by
  obtain⟨u,h1,h2⟩:=ao.get (i:=i) (x:=x) t (by simpa using e);exact⟨u,by simpa using h1,h2⟩
theorem ao.append:∀{xs ys:List V}{us ws:List Value},ao xs us→ao ys ws→ao (xs++ys) (us++ws)
 |_,_,_,_,.nil,s=>s
 |_,_,_,_,.cons r t,s=>.cons r (ao.append t s)
theorem ao.take:∀{xs:List V}{us:List Value}(n:Nat),ao xs us→ao (xs.take n) (us.take n)
 |_,_,0,_=>.nil
 |_,_,_+1,.nil=>.nil
 |_,_,n+1,.cons r t=>.cons r (ao.take n t)
theorem ao.drop:∀{xs:List V}{us:List Value}(n:Nat),ao xs us→ao (xs.drop n) (us.drop n)
 |_,_,0,r=>r
 |_,_,_+1,.nil=>.nil
 |_,_,n+1,.cons _ t=>ao.drop n t
def cD:Option V→Option Value→Prop
 |some v,some u=>aq v u
 |none,none=>True
 |_,_=>False
def KV{κ:Type}:List (κ×V)→List (κ×Value)→Prop:=Paired λ(p:κ×V) (q:κ×Value)=>p.1=q.1∧aq p.2 q.2
def kV:Key→V
 |.inl i=>.int i
 |.inr x=>.str x
inductive HO where
 |lst (xs:List V)
 |tup (xs:List V)
 |dK (kvs:List (Key×V))|dT (kvs:List (List Key×V))
 |set (S:Int→Bool) (n:Nat)
 |ins (C dx:Addr) (fs:List (Str×V))
 |own (x:Addr)
 |xd (fs:List (Str×V))
 |met (f x:Addr)
 |rng (lo hi:Int)
 |frz (o:Obj) (u:HO)
 |tbl (ps:Array Value)
 |ext (φ:Heap→Prop)
abbrev Hp:=Addr→Option HO
def upd(H:Hp)(a:Addr)(o:HO):Hp:=λb=>if b=a then some o else H b
theorem ac{H:Hp}{a:Addr}{o:HO}:upd H a o a=some o:=by unfold upd;rw[if_pos rfl]
theorem af{H:Hp}{a b:Addr}{o:HO}(h:b≠a):upd H a o b=H b:=by unfold upd;rw[if_neg h]
theorem ap{H:Hp}{a b:Addr}{o:HO}(h:H a=some o)(h':H b=none):a≠b:=by
 intro e;subst e;rw[h]at h';cases h'
section
variable(P:Program)(w:World)
def aO(H:Hp)(h:Heap)(a:Addr):HO→Prop
 |.lst xs=>xs.length≤sizeLine∧∃(its:List Value) (n:Nat),ao xs its∧h.get? a=some {cls:=.type "list",data:=.seq its.toArray n}
 |.tup xs=>xs.length≤sizeLine∧∃its:List Value,ao xs its∧IsTup h a its.toArray
 |.dK kvs=>kvs.length≤sizeLine∧(a==sysModules)=false∧∃vs,KV kvs vs∧h.DictOf (am P w) a vs
 |.dT kvs=>kvs.length≤sizeLine∧(a==sysModules)=false∧∃xs:List (List Key×Addr×Value),
   Paired (λ(p:List Key×V) (q:List Key×Addr×Value)=>p.1=q.1∧H q.2.1=some (.tup (p.1.map kV))∧aq p.2 q.2.2) kvs xs ∧
   ∃o es ep,h.get? a=some o∧o.ExactDict∧o.data=.dict es ep∧es.toList=xs.map (entryOfKey (tupleKind (am P w)))∧(xs.map (·.1)).Nodup
 |.set S n=>h.SetOf (intKind P w) a S n
 |.ins C dx fs=>H dx=some (.own a)∧fs.length≤1000∧dx≠a∧h.get? a=some (PySem.W.instObj C dx) ∧
   ∃mA,h.Ns1 dx mA∧(∀f,cD (fs.lookup f) (mA f))∧PySem.Within mA (fs.map (·.1))
 |.own _=>∃o,h.get? a=some o
 |.xd fs=>∃mA,h.Ns1 a mA∧∀f,cD (fs.lookup f) (mA f)
 |.rng lo hi=>∃t u v,h.get? a=some {cls:=.type "range",data:=.fields #[.int lo t,.int hi u,.int 1 v]}
 |.frz o u=>h.get? a=some o∧aO H h a u
 |.tbl ps=>h.get? a=some {cls:=.none,data:=.fields ps}
 |.met f x=>h.get? a=some (methodObj (.ref f) (.ref x))
 |.ext φ=>φ h∧(∃o,h.get? a=some o)∧∀h1 h2:Heap,φ h1→(∀o,h1.get? a=some o→h2.get? a=some o)→φ h2
def HOk(H:Hp)(h:Heap):Prop:=∀a o,H a=some o→aO P w H h a o
end
section
variable{P:Program}{w:World}{H H':Hp}{h h':Heap}{a:Addr}{o:HO}
theorem aO.lt(x:aO P w H h a o):a<h.objs.size:=by
 cases o with
 |lst xs=>obtain⟨_,_,_,_,e⟩:=x;exact lt_size e
 |tup xs=>obtain⟨_,_,_,p⟩:=x;exact p.lt
 |dK kvs=>obtain⟨_,_,_,_,o,_,_,e,_⟩:=x;exact lt_size e
 |dT kvs=>obtain⟨_,_,_,_,o,_,_,e,_⟩:=x;exact lt_size e
 |set S n=>obtain⟨o,_,_,_,e,_⟩:=x;exact lt_size e
 |ins C dx fs=>obtain⟨_,_,_,e,_⟩:=x;exact lt_size e
 |own y=>obtain⟨_,e⟩:=x;exact lt_size e
 |xd fs=>obtain⟨_,⟨_,_,_,e,_⟩,_⟩:=x;exact lt_size e
 |rng lo hi=>obtain⟨_,_,_,e⟩:=x;exact lt_size e
 |frz ob u=>obtain⟨e,_⟩:=x;exact lt_size e
 |tbl ps=>exact lt_size (show h.get? a=some _ from x)
 |met f y=>exact lt_size (show h.get? a=some _ from x)
 |ext φ=>obtain⟨_,⟨_,e⟩,_⟩:=x;exact lt_size e
theorem Paired.mapP{α β:Type}{F G:α→β→Prop}:∀{l₁:List α}{l₂:List β},Paired F l₁ l₂→(∀a b,F a b→G a b)→Paired G l₁ l₂
 |_,_,.nil,_=>.nil
 |_,_,.cons r t,f=>.cons (f _ _ r) (Paired.mapP t f)
theorem aO.stay(x:aO P w H h a o)(k:∀b u,(b=a∨H b=some (.own a))→h.get? b=some u→h'.get? b=some u)(ho:∀b,H b=some (.own a)→H' b=some (.own a))(ht:∀b xs,H b=some (.tup xs)→H' b=some (.tup xs)):aO P w H' h' a o:=by
 induction o with
 |lst xs=>obtain⟨z,its,n,r,e⟩:=x;exact⟨z,its,n,r,k _ _ (.inl rfl) e⟩
 |tup xs=>obtain⟨z,its,r,ob,e,c⟩:=x;exact⟨z,its,r,ob,k _ _ (.inl rfl) e,c⟩
 |dK kvs=>obtain⟨z,y,vs,r,ob,es,ep,e,c⟩:=x;exact⟨z,y,vs,r,ob,es,ep,k _ _ (.inl rfl) e,c⟩
 |dT kvs =>
  obtain⟨z,y,xs,r,ob,es,ep,e,c⟩:=x;exact⟨z,y,xs,Paired.mapP r λp q z=>⟨z.1,ht _ _ z.2.1,z.2.2⟩,ob,es,ep,k _ _ (.inl rfl) e,c⟩
 |set S n=>obtain⟨ob,es,ep,t,e,c⟩:=x;exact⟨ob,es,ep,t,k _ _ (.inl rfl) e,c⟩
 |ins C dx fs =>
  obtain⟨d,z,ne,e,mA,⟨od,es,ep,e2,c⟩,r⟩:=x;exact⟨ho _ d,z,ne,k _ _ (.inl rfl) e,mA,⟨od,es,ep,k _ _ (.inr d) e2,c⟩,r⟩
 |own y=>obtain⟨ob,e⟩:=x;exact⟨ob,k _ _ (.inl rfl) e⟩
 |xd fs=>obtain⟨mA,⟨od,es,ep,e,c⟩,r⟩:=x;exact⟨mA,⟨od,es,ep,k _ _ (.inl rfl) e,c⟩,r⟩
 |rng lo hi=>obtain⟨t,u,v,e⟩:=x;exact⟨t,u,v,k _ _ (.inl rfl) e⟩
 |frz ob u ih=>obtain⟨e,q⟩:=x;exact⟨k _ _ (.inl rfl) e,ih q⟩
 |tbl ps =>
  have e:h.get? a=some {cls:=.none,data:=.fields ps}:=x;show h'.get? a=some {cls:=.none,data:=.fields ps};exact k a _ (.inl rfl) e
 |met f y =>
  have e:h.get? a=some (methodObj (.ref f) (.ref y)):=x;show h'.get? a=some (methodObj (.ref f) (.ref y));exact k a _ (.inl rfl) e
 |ext φ=>obtain⟨p,⟨o,e⟩,st⟩:=x;exact⟨st _ _ p λo q=>k _ _ (.inl rfl) q,⟨o,k _ _ (.inl rfl) e⟩,st⟩
theorem HOk.lt(x:HOk P w H h)(e:H a=some o):a<h.objs.size:=(x a o e).lt
theorem HOk.fresh(x:HOk P w H h)(e:h.objs.size≤a):H a=none:=by
 cases q:H a with
 |none=>rfl
 |some u=>exact absurd (lt_of_lt_of_le (x.lt q) e) (lt_irrefl _)
theorem HOk.kept(x:HOk P w H h)(k:∀b u,h.get? b=some u→h'.get? b=some u):HOk P w H h':=λa o e =>
 (x a o e).stay (λb u _ q=>k b u q) (λ_ q=>q) λ_ _ q=>q
theorem HOk.laid(x:HOk P w H h)(k:∀b u,h.get? b=some u→h'.get? b=some u)(hp:h.objs.size≤a)(new:aO P w (upd H a o) h' a o):HOk P w (upd H a o) h':=λb u e=>by
 have hn:=x.fresh hp
 by_cases hb:b=a
 ·subst hb;rw[ac]at e;cases e;exact new
 ·rw[af hb]at e;exact(x b u e).stay (λc v _ q=>k c v q) (λc q=>by rw[af (ap q hn)];exact q) λc xs q=>by rw[af (ap q hn)];exact q
end
def Rd(H:Hp)(a:Addr)(u:HO):Prop:=H a=some u∨∃o,H a=some (.frz o u)
theorem Rd.of{H:Hp}{a:Addr}{u:HO}(h:H a=some u):Rd H a u:=.inl h
theorem Rd.ok{P:Program}{w:World}{H:Hp}{h:Heap}{a:Addr}{u:HO}(r:Rd H a u)(x:HOk P w H h):aO P w H h a u:=by
 rcases r with r|⟨o,r⟩
 ·exact x a u r
 ·obtain⟨_,q⟩:=x a _ r;exact q
def Mut:Option HO→Prop
 |some (.lst _)=>True
 |some (.dK _)=>True
 |some (.dT _)=>True
 |some (.set _ _)=>True
 |some (.ins _ _ _)=>True
 |some (.ext _)=>True
 |_=>False
section
variable{P:Program}{w:World}{H:Hp}{h h':Heap}{x e:Addr}{o':HO}
theorem HOk.write(ok:HOk P w H h)(mu:Mut (H x))(he:e=x∨H e=some (.own x))(k:∀b u,b≠e→h.get? b=some u→h'.get? b=some u)(heo:∃u,h'.get? e=some u)(new:aO P w (upd H x o') h' x o'):HOk P w (upd H x o') h':=λb u q=>by
 have nown:∀c y,H c=some (.own y)→c≠x:=λc y r z=>by subst z;rw[r]at mu;exact mu
 have ntup:∀c xs,H c=some (.tup xs)→c≠x:=λc xs r z=>by subst z;rw[r]at mu;exact mu
 by_cases hb:b=x
 ·subst hb;rw[ac]at q;cases q;exact new
 ·rw[af hb]at q
  by_cases hbe:b=e
  ·have q':H b=some (.own x):=by
    rcases he with z|z
    ·exact absurd (hbe.trans z) hb
    ·rw[hbe];exact z
   rw[q]at q';cases q';obtain⟨v,hv⟩:=heo;exact⟨v,by rw[hbe];exact hv⟩
  ·refine(ok b u q).stay (λc v hc r=>k c v ?_ r) (λc r=>by rw[af (nown c b r)];exact r) λc xs r=>by rw[af (ntup c xs r)];exact r
   rcases hc with rfl|hc
   ·exact hbe
   ·rintro rfl;rcases he with z|z
    ·exact nown c b hc z
    ·rw[hc]at z;cases z;exact hb rfl
end
structure Un(fs ex:List Addr)(H H':Hp)(h h':Heap):Prop where
 keep:∀b o,h.get? b=some o→H b=none→b∉fs→b∉ex→h'.get? b=some o
 slot:∀b o,h.get? b=some o→H b=none→b∈fs→b∉ex→∃sl,h'.get? b=some {o with slots:=sl}
 free:∀b o,h.get? b=some o→H b=none→b∉ex→H' b=none
 there:∀b o,h.get? b=some o→b∉ex→∃o',h'.get? b=some o'
 tups:∀b xs,H b=some (.tup xs)→H' b=some (.tup xs)
 frzs:∀b o u,H b=some (.frz o u)→H' b=some (.frz o u)
 tbls:∀b ps,H b=some (.tbl ps)→∃more,H' b=some (.tbl (ps++more))
section
variable{fs fs' ex ex':List Addr}{H H1 H2:Hp}{h h1 h2 h':Heap}{a x e:Addr}{o:HO}
theorem Un.any(u:Un fs ex H H1 h h1){b:Addr}{ob:Obj}(q:h.get? b=some ob)(n:H b=none)(hx:b∉ex):∃sl,h1.get? b=some {ob with slots:=sl}:=by
 by_cases hb:b∈fs
 ·exact u.slot b ob q n hb hx
 ·exact⟨ob.slots,u.keep b ob q n hb hx⟩
theorem Un.trans(a:Un fs ex H H1 h h1)(b:Un fs ex H1 H2 h1 h2):Un fs ex H H2 h h2 where
 keep:=λc ob q n hc hx=>b.keep c ob (a.keep c ob q n hc hx) (a.free c ob q n hx) hc hx
 slot:=λc ob q n hc hx=>by
  obtain⟨sl,e1⟩:=a.slot c ob q n hc hx;obtain⟨sl',e2⟩:=b.slot c _ e1 (a.free c ob q n hx) hc hx;exact⟨sl',e2⟩
 free:=λc ob q n hx=>by
  obtain⟨o',e1⟩:=a.there c ob q hx;exact b.free c o' e1 (a.free c ob q n hx) hx
 there:=λc ob q hx=>by
  obtain⟨o',e1⟩:=a.there c ob q hx;exact b.there c o' e1 hx
 tups:=λc xs q=>b.tups c xs (a.tups c xs q)
 frzs:=λc ob xs q=>b.frzs c ob xs (a.frzs c ob xs q)
 tbls:=λc ps q=>by
  obtain⟨m1,e1⟩:=a.tbls c ps q;obtain⟨m2,e2⟩:=b.tbls c _ e1;exact⟨m1++m2,by rw[e2,Array.append_assoc]⟩
theorem Un.kept(k:∀b u,h.get? b=some u→h'.get? b=some u):Un fs ex H H h h' :=
 ⟨λb ob q _ _ _=>k b ob q,λb ob q _ _ _=>⟨ob.slots,k b ob q⟩,λ_ _ _ n _=>n,λb ob q _=>⟨ob,k b ob q⟩,λ_ _ q=>q,λ_ _ _ q=>q,λ_ ps q=>⟨#[],by rw[q];simp⟩⟩
theorem Un.refl:Un fs ex H H h h:=Un.kept λ_ _ q=>q
theorem Un.laid(k:∀b u,h.get? b=some u→h'.get? b=some u)(hp:h.objs.size≤a)(hn:H a=none):Un fs ex H (upd H a o) h h' where
 keep:=λb u q _ _ _=>k b u q
 slot:=λb u q _ _ _=>⟨u.slots,k b u q⟩
 free:=λb u q n _=>by rw[af (ne_of_lt (lt_of_lt_of_le (lt_size q) hp))];exact n
 there:=λb u q _=>⟨u,k b u q⟩
 tups:=λb xs q=>by rw[af (ap q hn)];exact q
 frzs:=λb u xs q=>by rw[af (ap q hn)];exact q
 tbls:=λb ps q=>⟨#[],by rw[af (ap q hn),q];simp⟩
theorem Un.write(mu:Mut (H x))(he:e=x∨H e=some (.own x))(k:∀b u,b≠e→h.get? b=some u→h'.get? b=some u)(heo:∃u,h'.get? e=some u):Un fs ex H (upd H x o) h h':=by
 have hx:∀b,H b=none→b≠x:=λb n z=>by subst z;rw[n]at mu;exact mu
 have hb:∀b,H b=none→b≠e:=λb n z=>by
  subst z;rcases he with r|r
  ·exact hx b n r
  ·rw[n]at r;cases r
 have hm:∀b u,H b=some u→¬Mut (some u)→b≠x:=λb u q nm z=>by subst z;rw[q]at mu;exact nm mu
 refine⟨λb u q n _ _=>k b u (hb b n) q,λb u q n _ _=>⟨u.slots,k b u (hb b n) q⟩,λb u q n _=>by rw[af (hx b n)];exact n,λb u q _=>?_,
  λb xs q=>by rw[af (hm b _ q λz=>z)];exact q,λb u xs q=>by rw[af (hm b _ q λz=>z)];exact q,λb ps q=>⟨#[],by rw[af (hm b _ q λz=>z),q];simp⟩⟩
 by_cases hbe:b=e
 ·subst hbe;exact heo
 ·exact⟨u,k b u hbe q⟩
end
def trk(h:Heap)(H:Hp):List Addr:=(List.range h.objs.size).filter λa=>(H a).isSome
def eT(h:Heap)(H:Hp):Heap:=hideAll h (trk h H)
theorem jP(h:Heap)(H:Hp):(eT h H).objs.size=h.objs.size:=hideAll_size _ _
theorem kE{h:Heap}{H:Hp}{b:Addr}{o:Obj}(e:h.get? b=some o)(n:H b=none):(eT h H).get? b=some o :=
 hideAll_get _ e λhm=>by
  have q:(H b).isSome=true:=(mem_filter.mp hm).2;rw[n]at q;simp at q
theorem my{h:Heap}{H:Hp}{b:Addr}{o:Obj}(e:(eT h H).get? b=some o):h.get? b=some o∧H b=none:=by
 have e':h.get? b=some o:=of_hideAll (trk h H) e;refine⟨e',?_⟩;cases q:H b with
 |none=>rfl
 |some x =>
  have hm:b∈trk h H:=mem_filter.mpr ⟨mem_range.mpr (lt_size e'),by simp[q]⟩;have z:(eT h H).get? b=none:=hideAll_none (trk h H) hm;rw[z]at e;cases e
structure Mod(K:PySem.W.Frag)(mg:Str→Option Value)(base:Heap):Prop where
 kin:K.In base
 glob:base.Ns mainGlobals mg
 blt:∃mb,base.Ns builtinsNs mb∧∀x:Str,x≠"__name__"→mb x=bootBuiltins x
 nolimit:base.NoLimit
structure Cx where
 prog:Program
 w:World
 K:PySem.W.Frag
 mg:Str→Option Value
 base:Heap
 A:Around
 N:List Str
 s₀:Shared
 H₀:Hp
 env:Env
 outer:List Env
 stack:List Env
 ex:List Addr
 fn:Str→Bool
 calm:Bool
 pn:List (Addr×Obj)
 xe:Value→Shared→Prop
def frs(l:List Env):List Addr:=l.filterMap (·.frame)
abbrev Cx.fs(X:Cx):List Addr:=frs X.outer
def Vis(sc:Scope)(x:Str):Prop:=sc.names.lookup x=some .local∨sc.names.lookup x=some .cell∨sc.names.lookup x=some .free
def Loc(sc:Scope)(x:Str):Prop:=sc.names.lookup x=some .local∨sc.names.lookup x=some .cell
def qU(env:Env)(h:Heap)(m:Str→Option Value)(x:Str)(u:Value):Prop :=
 (env.kindOf x=some .local∧m x=some u)∨((env.kindOf x=some .cell∨env.kindOf x=some .free)∧∃c,env.cells.lookup x=some c∧h.IsCell c (some u))
structure Cx.Ok(X:Cx):Prop where
 mod:Mod X.K X.mg X.base
 kind:X.env.scope.kind=.function
 glob:X.env.globals=mainGlobals
 blt:X.env.builtins=builtinsNs
 above:X.s₀.heap.objs.size≤X.env.locals
 inj:∀x y c,X.env.cells.lookup x=some c→X.env.cells.lookup y=some c→x=y
 has:∀x,(X.env.kindOf x=some .cell∨X.env.kindOf x=some .free)→∃c,X.env.cells.lookup x=some c
 cab:∀x c,X.fn x=true→X.env.cells.lookup x=some c→X.s₀.heap.objs.size≤c
 hd:X.calm=true→X.A.handled=none
 frames:X.A.frames=some X.stack
 stk:X.stack=X.outer∨(X.stack=X.env::X.outer∧X.env.frame=some X.env.locals)
 exf:∀b∈X.ex,b≠X.env.locals∧∀x c,X.env.cells.lookup x=some c→c≠b
 bs:∀b o,X.base.get? b=some o→X.s₀.heap.get? b=some o∧X.H₀ b=none
 bsz:X.base.objs.size≤X.s₀.heap.objs.size
 noex:∀b o,X.base.get? b=some o→b∉X.ex
 exfs:∀b∈X.ex,b∉X.fs
 funs:X.s₀.heap.FunFrames X.base X.outer
 frf:∀b∈X.fs,X.H₀ b=none
structure Inv(X:Cx)(pins:List (Addr×Obj))(σ:List (Option V))(H:Hp)(s:Shared):Prop where
 ok:X.Ok
 os:s.os=X.s₀.os
 bare:AllBare s.gens
 base:Un X.fs X.ex X.H₀ H X.s₀.heap s.heap
 loc:∃m,s.heap.Ns X.env.locals m∧∀(i:Nat)(x:Str)(v:V),X.N[i]?=some x→σ[i]?=some (some v)→Vis X.env.scope x→∃u,aq v u∧qU X.env s.heap m x u
 cell:∀x c,X.env.cells.lookup x=some c→∃v,s.heap.IsCell c v
 free:H X.env.locals=none
 freeC:∀x c,X.env.cells.lookup x=some c→H c=none
 pin:∀p∈X.pn++pins,s.heap.get? p.1=some p.2∧H p.1=none∧p.1≠X.env.locals∧p.1∉X.fs∧∀v,p.2.data≠.cell v
 hok:HOk X.prog X.w H s.heap
 len:σ.length=X.N.length
section
variable{X:Cx}{pins:List (Addr×Obj)}{σ:List (Option V)}{H H':Hp}{s:Shared}{h':Heap}
theorem Cx.Ok.nofr(ok:X.Ok){b:Addr}{o:Obj}(e:X.base.get? b=some o):b∉X.fs:=λhb=>by
 have:=(ok.funs.mem hb).1;rw[e]at this;cases this
theorem Inv.bs(I:Inv X pins σ H s):∀b o,X.base.get? b=some o→s.heap.get? b=some o∧H b=none:=λb o e =>
 ⟨I.base.keep b o (I.ok.bs b o e).1 (I.ok.bs b o e).2 (I.ok.nofr e) (I.ok.noex b o e),I.base.free b o (I.ok.bs b o e).1 (I.ok.bs b o e).2 (I.ok.noex b o e)⟩
theorem Inv.bk(I:Inv X pins σ H s):∀b o,X.base.get? b=some o→s.heap.get? b=some o:=λb o e=>(I.bs b o e).1
theorem Inv.mod(I:Inv X pins σ H s):Mod X.K X.mg X.base:=I.ok.mod
theorem Inv.kIn(I:Inv X pins σ H s):X.K.In s.heap:=I.ok.mod.kin.keeps I.bk
theorem Inv.lt(I:Inv X pins σ H s):X.env.locals<s.heap.objs.size:=let⟨_,hn,_⟩:=I.loc;hn.lt
theorem Inv.sz(I:Inv X pins σ H s):X.s₀.heap.objs.size≤s.heap.objs.size:=le_trans I.ok.above (le_of_lt I.lt)
theorem Inv.nofs(I:Inv X pins σ H s){a:Addr}(h:s.heap.objs.size≤a):a∉X.fs:=λhb=>by
 obtain⟨_,o,ho,_⟩:=I.ok.funs.mem hb;exact absurd (lt_of_lt_of_le (lt_size ho) (le_trans I.sz h)) (lt_irrefl _)
theorem Inv.cne(I:Inv X pins σ H s):∀x c,X.env.cells.lookup x=some c→c≠X.env.locals:=λx c e z=>by
 obtain⟨v,o,ho,hd⟩:=I.cell x c e;obtain⟨m,⟨o',es,ep,ho',hd',_⟩,_⟩:=I.loc;rw[z,ho']at ho;cases ho;rw[hd']at hd;cases hd
theorem Inv.funs(I:Inv X pins σ H s):s.heap.FunFrames X.base X.outer:=by
 have all:∀(l:List Env),(∀b∈frs l,b∈X.fs)→X.s₀.heap.FunFrames X.base l→s.heap.FunFrames X.base l:=by
  intro l
  induction l with
  |nil=>intro _ _;trivial
  |cons env r ih =>
   intro hs hl;obtain⟨hk,⟨L,o,hf,hn,ho,hd⟩,hr⟩:=hl;have hL:L∈X.fs:=hs L (by unfold frs;rw[filterMap_cons,hf];exact mem_cons_self);obtain⟨sl,e⟩:=I.base.slot L o ho (I.ok.frf L hL) hL λz=>I.ok.exfs L z hL;exact⟨hk,⟨L,_,hf,hn,e,hd⟩,ih (λb hb=>hs b (by unfold frs;rw[filterMap_cons,hf];exact mem_cons_of_mem _ hb)) hr⟩
 exact all X.outer (λ_ hb=>hb) I.ok.funs
theorem Inv.stack(I:Inv X pins σ H s):s.heap.FunFrames X.base X.stack:=by
 rcases I.ok.stk with e|⟨e,hf⟩
 ·rw[e];exact I.funs
 ·rw[e];obtain⟨m,hn,_⟩:=I.loc;refine .cons (by rw[I.ok.kind];decide) hf hn ?_ I.funs;exact Heap.get?_none_of_le (le_trans I.ok.bsz I.ok.above)
theorem Inv.stkSub(I:Inv X pins σ H s):∀b∈frs X.stack,b∈X.env.locals::X.fs:=λb hb=>by
 rcases I.ok.stk with e|⟨e,hf⟩
 ·rw[e]at hb;exact mem_cons_of_mem _ hb
 ·rw[e]at hb;unfold frs at hb;rw[filterMap_cons,hf]at hb;exact hb
theorem Inv.stkFree(I:Inv X pins σ H s):∀b∈frs X.stack,H b=none:=λb hb=>by
 rcases mem_cons.mp (I.stkSub b hb)with e|hb
 ·rw[e];exact I.free
 ·obtain⟨_,o,ho,_⟩:=I.ok.funs.mem hb;exact I.base.free b o ho (I.ok.frf b hb) λz=>I.ok.exfs b z hb
theorem Inv.step{g':Array GenState}{t':Nat}{d':Drawn}{ch:List Addr}(I:Inv X pins σ H s)(hch:∀b∈ch,(b∈X.ex∨X.s₀.heap.objs.size≤b)∧b≠X.env.locals∧(∀x c,X.env.cells.lookup x=some c→c≠b)∧∀p∈X.pn++pins,p.1≠b)(keep:∀b o,b≠X.env.locals→b∉X.fs→b∉ch→s.heap.get? b=some o→H b=none→h'.get? b=some o)(slot:∀b o,b≠X.env.locals→b∈X.fs→b∉ch→s.heap.get? b=some o→H b=none→∃sl,h'.get? b=some {o with slots:=sl})(free:∀b o,b∉ch→s.heap.get? b=some o→H b=none→H' b=none)(there:∀b o,b∉ch→s.heap.get? b=some o→∃o',h'.get? b=some o')(tups:∀b xs,H b=some (.tup xs)→H' b=some (.tup xs))(frzs:∀b o u,H b=some (.frz o u)→H' b=some (.frz o u))(tbls:∀b ps,H b=some (.tbl ps)→∃more,H' b=some (.tbl (ps++more)))(ns:∀m,s.heap.Ns X.env.locals m→h'.Ns X.env.locals m)(hok:HOk X.prog X.w H' h')(hg:AllBare g'):
  Inv X pins σ H' {s with heap:=h',gens:=g',drawn:=d',toks:=t'}:=by
 have neL:∀b o,X.s₀.heap.get? b=some o→b≠X.env.locals:=λb o e=>ne_of_lt (lt_of_lt_of_le (lt_size e) I.ok.above);have neC:∀b o,X.s₀.heap.get? b=some o→b∉X.ex→b∉ch:=λb o e hx hb=>by
  rcases (hch b hb).1 with z|z
  ·exact hx z
  ·exact absurd (lt_of_lt_of_le (lt_size e) z) (lt_irrefl _)
 have cellK:∀x c,X.env.cells.lookup x=some c→∀v,s.heap.IsCell c v→h'.IsCell c v:=λx c e v ⟨o,ho,hd⟩=>by
  have nch:c∉ch:=λz=>(hch c z).2.2.1 x c e rfl
  by_cases hc:c∈X.fs
  ·obtain⟨sl,q⟩:=slot c o (I.cne x c e) hc nch ho (I.freeC x c e);exact⟨_,q,hd⟩
  ·exact⟨o,keep c o (I.cne x c e) hc nch ho (I.freeC x c e),hd⟩
 refine⟨I.ok,I.os,hg,⟨λb o e n hb hx=>?_,λb o e n hb hx=>?_,λb o e n hx=>?_,λb o e hx=>?_,λb xs e=>tups b xs (I.base.tups b xs e),λb o xs e=>frzs b o xs (I.base.frzs b o xs e),λb ps e=>?_⟩,?_,λx c e=>?_,?_,λx c e=>?_,λp hp=>?_,hok,I.len⟩
 ·exact keep b o (neL b o e) hb (neC b o e hx) (I.base.keep b o e n hb hx) (I.base.free b o e n hx)
 ·obtain⟨sl,e1⟩:=I.base.slot b o e n hb hx;obtain⟨sl',e2⟩:=slot b _ (neL b o e) hb (neC b o e hx) e1 (I.base.free b o e n hx);exact⟨sl',e2⟩
 ·obtain⟨o',e1⟩:=I.base.there b o e hx;exact free b o' (neC b o e hx) e1 (I.base.free b o e n hx)
 ·obtain⟨o',e1⟩:=I.base.there b o e hx;exact there b o' (neC b o e hx) e1
 ·obtain⟨m1,e1⟩:=I.base.tbls b ps e;obtain⟨m2,e2⟩:=tbls b _ e1;exact⟨m1++m2,by rw[e2,Array.append_assoc]⟩
 ·obtain⟨m,hn,hl⟩:=I.loc;refine⟨m,ns m hn,λi x v e1 e2 e3=>?_⟩;obtain⟨u,r,l⟩:=hl i x v e1 e2 e3;refine⟨u,r,?_⟩;rcases l with l|⟨k,c,e,z⟩
  ·exact .inl l
  ·exact .inr ⟨k,c,e,cellK x c e _ z⟩
 ·obtain⟨v,z⟩:=I.cell x c e;exact⟨v,cellK x c e v z⟩
 ·obtain⟨m,⟨o,_,_,ho,_⟩,_⟩:=I.loc;exact free _ o (λz=>(hch _ z).2.1 rfl) ho I.free
 ·obtain⟨v,o,ho,hd⟩:=I.cell x c e;exact free c o (λz=>(hch c z).2.2.1 x c e rfl) ho (I.freeC x c e)
 ·obtain⟨e,n,ne,nf,d⟩:=I.pin p hp;have nch:p.1∉ch:=λz=>(hch p.1 z).2.2.2 p hp rfl;exact⟨keep p.1 p.2 ne nf nch e n,free p.1 p.2 nch e n,ne,nf,d⟩
theorem Inv.un{t':Nat}(I:Inv X pins σ H s)(u:Un X.fs [] H H' s.heap h')(hok:HOk X.prog X.w H' h'):Inv X pins σ H' {s with heap:=h',toks:=t'}:=by
 obtain⟨m,⟨o,es,ep,ho,r⟩,_⟩:=id I.loc;obtain⟨sl,hL⟩:=u.any ho I.free (by simp);exact I.step (g':=s.gens) (d':=s.drawn) (ch:=[]) (λ_ z=>nomatch z) (λb o _ hb _ e n=>u.keep b o e n hb (by simp)) (λb o _ hb _ e n=>u.slot b o e n hb (by simp)) (λb o _ e n=>u.free b o e n (by simp)) (λb o _ e=>u.there b o e (by simp)) u.tups u.frzs u.tbls (λm' hm=>by
  obtain⟨o',es',ep',ho',r'⟩:=hm;rw[ho]at ho';cases ho';exact⟨_,es',ep',hL,r'⟩) hok I.bare
theorem Inv.call{g':Array GenState}{t':Nat}{d':Drawn}{ch:List Addr}(I:Inv X pins σ H s)(u:Un (frs X.stack) ch H H' s.heap h')(hok:HOk X.prog X.w H' h')(hg:AllBare g')(hch:∀b∈ch,(b∈X.ex∨X.s₀.heap.objs.size≤b)∧b≠X.env.locals∧(∀x c,X.env.cells.lookup x=some c→c≠b)∧∀p∈X.pn++pins,p.1≠b):
  Inv X pins σ H' {s with heap:=h',gens:=g',drawn:=d',toks:=t'}:=by
 obtain⟨m,⟨o,es,ep,ho,r⟩,_⟩:=id I.loc;obtain⟨sl,hL⟩:=u.any ho I.free λz=>(hch _ z).2.1 rfl;exact I.step (ch:=ch) hch (λb o hL hb hc e n=>u.keep b o e n (λz=>(mem_cons.mp (I.stkSub b z)).elim hL hb) hc) (λb o _ _ hc e n=>u.any e n hc) (λb o hc e n=>u.free b o e n hc) (λb o hc e=>u.there b o e hc) u.tups u.frzs u.tbls (λm' hm=>by
  obtain⟨o',es',ep',ho',r'⟩:=hm;rw[ho]at ho';cases ho';exact⟨_,es',ep',hL,r'⟩) hok hg
theorem Inv.turned{t':Nat}{it:Addr}(I:Inv X pins σ H s)(k:∀b o,b≠it→s.heap.get? b=some o→h'.get? b=some o)(hn:H it=none)(hL:it≠X.env.locals)(h1:it∈X.ex∨X.s₀.heap.objs.size≤it)(h2:∀x c,X.env.cells.lookup x=some c→c≠it)(h3:∀p∈X.pn++pins,p.1≠it):Inv X pins σ H {s with heap:=h',toks:=t'}:=by
 have nit:∀b u,H b=some u→b≠it:=λb u e z=>by rw[z,hn]at e;cases e
 refine I.step (g':=s.gens) (d':=s.drawn) (ch:=[it]) (λb hb=>?_) (λb o _ _ hc e _=>k b o (λz=>hc (by simp[z])) e) (λb o _ _ hc e _=>⟨o.slots,k b o (λz=>hc (by simp[z])) e⟩) (λ_ _ _ _ n=>n)
  (λb o hc e=>⟨o,k b o (λz=>hc (by simp[z])) e⟩) (λ_ _ e=>e) (λ_ _ _ e=>e) (λb ps e=>⟨#[],by rw[e];simp⟩) (λm hm=>?_) (λb u e=>?_) I.bare
 ·have e:b=it:=by simpa using hb
  subst e;exact⟨h1,hL,h2,h3⟩
 ·obtain⟨o,es,ep,ho,r⟩:=hm;exact⟨o,es,ep,k _ o (symm hL) ho,r⟩
 ·refine(I.hok b u e).stay (λc v hc q=>k c v ?_ q) (λ_ q=>q) λ_ _ q=>q;rcases hc with z|z
  ·rw[z];exact nit b u e
  ·exact nit c _ z
theorem Inv.tok(I:Inv X pins σ H s)(t:Nat):Inv X pins σ H {s with toks:=t}:=I.un (h':=s.heap) (t':=t) Un.refl I.hok
theorem Inv.kept{t':Nat}(I:Inv X pins σ H s)(k:∀b u,s.heap.get? b=some u→h'.get? b=some u):Inv X pins σ H {s with heap:=h',toks:=t'}:=I.un (Un.kept k) (I.hok.kept k)
theorem Inv.laid{a:Addr}{o:HO}{t':Nat}(I:Inv X pins σ H s)(k:∀b u,s.heap.get? b=some u→h'.get? b=some u)(hp:s.heap.objs.size≤a)(new:aO X.prog X.w (upd H a o) h' a o):
  Inv X pins σ (upd H a o) {s with heap:=h',toks:=t'}:=I.un (Un.laid k hp (I.hok.fresh hp)) (I.hok.laid k hp new)
theorem Inv.write{x e:Addr}{o:HO}{t':Nat}(I:Inv X pins σ H s)(mu:Mut (H x))(he:e=x∨H e=some (.own x))(k:∀b u,b≠e→s.heap.get? b=some u→h'.get? b=some u)(heo:∃u,h'.get? e=some u)(new:aO X.prog X.w (upd H x o) h' x o):Inv X pins σ (upd H x o) {s with heap:=h',toks:=t'}:=I.un (Un.write mu he k heo) (I.hok.write mu he k heo new)
theorem Inv.pins_of{pins':List (Addr×Obj)}(I:Inv X pins σ H s)(h:∀p∈pins',s.heap.get? p.1=some p.2∧H p.1=none∧p.1≠X.env.locals∧p.1∉X.fs∧∀v,p.2.data≠.cell v):Inv X pins' σ H s :=
 ⟨I.ok,I.os,I.bare,I.base,I.loc,I.cell,I.free,I.freeC,λp hp=>(mem_append.mp hp).elim (λz=>I.pin p (mem_append_left _ z)) (h p),I.hok,I.len⟩
theorem gI{N:List Str}(hN:N.Nodup){i j:Nat}{x:Str}(a:N[i]?=some x)(b:N[j]?=some x):i=j:=by
 obtain⟨h1,e1⟩:=List.getElem?_eq_some_iff.mp a;obtain⟨h2,e2⟩:=List.getElem?_eq_some_iff.mp b;exact(getElem_inj hN).mp (e1.trans e2.symm)
theorem fc{M:Model}{A:Around}{E:Value→Shared→Prop}{i:Nat}{x:Str}{v:V}{u:Value}{Q:Unit→Shared→Prop}(I:Inv X pins σ H s)(hN:X.N.Nodup)(hi:X.N[i]?=some x)(hx:Loc X.env.scope x)(r:aq v u)(h:∀s',Inv X pins (σ.set i (some v)) H s'→(∃a,SameBut a s.heap s'.heap∧(a=X.env.locals∨X.env.cells.lookup x=some a))→Q () s')(hf:X.fn x=true∨X.env.scope.names.lookup x=some .local:=by first|exact .inl rfl|exact .inr rfl|assumption):wpAny M A (storeName X.env x u) Q E s:=by
 obtain⟨m,hn,hl⟩:=id I.loc;have hcls:(X.env.scope.kind==.class||(X.env.scope.kind==.module&&X.env.locals != X.env.globals))=false:=by rw[I.ok.kind];rfl
 have hiσ:i<σ.length:=by rw[I.len];exact(List.getElem?_eq_some_iff.mp hi).1
 have cne:=I.cne;have tracked:∀{a:Addr}{h':Heap},(∃o,s.heap.get? a=some o∧H a=none)→SameBut a s.heap h'→HOk X.prog X.w H h':=λ{a h'} ha hs b ob e=>by
  obtain⟨_,_,hfree⟩:=ha;refine(I.hok b ob e).stay (λc w' hc q=>(hs.2 c ?_).trans q) (λ_ q=>q) λ_ _ q=>q;rintro rfl;rcases hc with rfl|hc
  ·rw[hfree]at e;cases e
  ·rw[hfree]at hc;cases hc
 rcases hx with hk|hk
 ·refine wpAny_storeName_local hk hn (λh' hn' hs=>?_) hcls;obtain⟨oL,_,_,hoL,_⟩:=id hn;refine h _ ⟨I.ok,I.os,I.bare,⟨λb o e n hb hx=>?_,λb o e n hb hx=>?_,I.base.free,λb o e hx=>?_,I.base.tups,I.base.frzs,I.base.tbls⟩,⟨_,hn',λj y v' e1 e2 e3=>?_⟩,λy c e=>?_,I.free,I.freeC,λp hp=>?_,tracked ⟨oL,hoL,I.free⟩ hs,by simpa using I.len⟩ ⟨_,hs,.inl rfl⟩
  ·exact(hs.2 b (ne_of_lt (lt_of_lt_of_le (lt_size e) I.ok.above))).trans (I.base.keep b o e n hb hx)
  ·obtain⟨sl,e1⟩:=I.base.slot b o e n hb hx;exact⟨sl,(hs.2 b (ne_of_lt (lt_of_lt_of_le (lt_size e) I.ok.above))).trans e1⟩
  ·obtain⟨o',e1⟩:=I.base.there b o e hx;exact⟨o',(hs.2 b (ne_of_lt (lt_of_lt_of_le (lt_size e) I.ok.above))).trans e1⟩
  ·by_cases hj:j=i
   ·subst hj;rw[hi]at e1;cases e1;rw[List.getElem?_set_self hiσ]at e2;cases e2;exact⟨u,r,.inl ⟨hk,by simp⟩⟩
   ·rw[List.getElem?_set_ne (symm hj)]at e2;obtain⟨u',r',q⟩:=hl j y v' e1 e2 e3;refine⟨u',r',?_⟩;rcases q with⟨k,e⟩|⟨k,c,e,z⟩
    ·refine .inl ⟨k,?_⟩;have:y≠x:=λe=>hj (gI hN e1 (e ▸ hi));simp[this,e]
    ·exact .inr ⟨k,c,e,z.sameBut hs (cne y c e)⟩
  ·obtain⟨w',z⟩:=I.cell y c e;exact⟨w',z.sameBut hs (cne y c e)⟩
  ·obtain⟨e,n,ne,nf,d⟩:=I.pin p hp;exact⟨(hs.2 p.1 ne).trans e,n,ne,nf,d⟩
 ·have hfn:X.fn x=true:=by
   rcases hf with z|z
   ·exact z
   ·rw[z]at hk;cases hk
  obtain⟨c,hc⟩:=I.ok.has x (.inl hk);obtain⟨w',z⟩:=I.cell x c hc;refine wpAny_storeName_cell I.ok.kind hk hc z (λh' hc' hs=>?_);obtain⟨oc,hoc,hocd⟩:=id z;refine h {s with heap:=h'} ⟨I.ok,I.os,I.bare,⟨λb o e n hb hx=>?_,λb o e n hb hx=>?_,I.base.free,λb o e hx=>?_,I.base.tups,I.base.frzs,I.base.tbls⟩,⟨m,hn.sameBut hs (symm (cne x c hc)),λj y v' e1 e2 e3=>?_⟩,λy c' e=>?_,I.free,I.freeC,λp hp=>?_,tracked ⟨oc,hoc,I.freeC x c hc⟩ hs,by simpa using I.len⟩ ⟨c,hs,.inr hc⟩
  ·exact(hs.2 b (ne_of_lt (lt_of_lt_of_le (lt_size e) (I.ok.cab x c hfn hc)))).trans (I.base.keep b o e n hb hx)
  ·obtain⟨sl,e1⟩:=I.base.slot b o e n hb hx;exact⟨sl,(hs.2 b (ne_of_lt (lt_of_lt_of_le (lt_size e) (I.ok.cab x c hfn hc)))).trans e1⟩
  ·obtain⟨o',e1⟩:=I.base.there b o e hx;exact⟨o',(hs.2 b (ne_of_lt (lt_of_lt_of_le (lt_size e) (I.ok.cab x c hfn hc)))).trans e1⟩
  ·by_cases hj:j=i
   ·subst hj;rw[hi]at e1;cases e1;rw[List.getElem?_set_self hiσ]at e2;cases e2;exact⟨u,r,.inr ⟨.inl hk,c,hc,hc'⟩⟩
   ·rw[List.getElem?_set_ne (symm hj)]at e2;obtain⟨u',r',q⟩:=hl j y v' e1 e2 e3;refine⟨u',r',?_⟩;rcases q with q|⟨k,c',e,z'⟩
    ·exact .inl q
    ·refine .inr ⟨k,c',e,z'.sameBut hs ?_⟩;rintro rfl;exact hj (gI hN e1 (I.ok.inj _ _ _ e hc ▸ hi))
  ·by_cases hcc:c'=c
   ·subst hcc;exact⟨_,hc'⟩
   ·obtain⟨w2,z2⟩:=I.cell y c' e;exact⟨w2,z2.sameBut hs hcc⟩
  ·obtain⟨e,n,ne,nf,d⟩:=I.pin p hp;refine⟨(hs.2 p.1 ?_).trans e,n,ne,nf,d⟩;intro q;rw[q,hoc]at e;have q':oc=p.2:=Option.some.inj e;exact d w' (by rw[←q'];exact hocd)
theorem cq{M:Model}{A:Around}{E:Value→Shared→Prop}{i:Nat}{x:Str}{v:V}{u:Value}{Q:Unit→Shared→Prop}(I:Inv X pins σ H s)(hN:X.N.Nodup)(hi:X.N[i]?=some x)(hx:Loc X.env.scope x)(r:aq v u)(h:∀s',Inv X pins (σ.set i (some v)) H s'→Q () s')(hf:X.fn x=true∨X.env.scope.names.lookup x=some .local:=by first|exact .inl rfl|exact .inr rfl|assumption):wpAny M A (storeName X.env x u) Q E s :=
 fc I hN hi hx r (λs' I' _=>h s' I') hf
theorem Inv.call'{s':Shared}{ch:List Addr}(I:Inv X pins σ H s)(ho:s'.os=s.os)(u:Un (frs X.stack) ch H H' s.heap s'.heap)(hok:HOk X.prog X.w H' s'.heap)(hg:AllBare s'.gens)(hch:∀b∈ch,(b∈X.ex∨X.s₀.heap.objs.size≤b)∧b≠X.env.locals∧(∀x c,X.env.cells.lookup x=some c→c≠b)∧∀p∈X.pn++pins,p.1≠b):Inv X pins σ H' s':=by
 obtain⟨h',g',d',t',o'⟩:=s';have e:o'=s.os:=ho;subst e;exact I.call (g':=g') (t':=t') (d':=d') u hok hg hch
end
abbrev XK:=Value→Option Addr→Hp→Prop
abbrev St:=List (Option V)
abbrev VK:=V→Hp→Prop
abbrev TE:=St→Hp→VK→Prop
abbrev TT:=St→Hp→(Bool→Hp→Prop)→Prop
abbrev TA:=St→Hp→(List V→Hp→Prop)→Prop
structure Ends where
 nx:St→Hp→Prop
 rt:VK
 bk:St→Hp→Prop:=λ_ _=>False
 ct:St→Hp→Prop:=λ_ _=>False
abbrev TS:=Ends→St→Hp→Prop
def EP(X:Cx)(pins:List (Addr×Obj))(σ:St)(Q:VK)(u:Value)(s':Shared):Prop:=∃v H',Inv X pins σ H' s'∧aq v u∧Q v H'
def TP(X:Cx)(pins:List (Addr×Obj))(σ:St)(Q:Bool→Hp→Prop)(b:Bool)(s':Shared):Prop:=∃H',Inv X pins σ H' s'∧Q b H'
def AP(X:Cx)(pins:List (Addr×Obj))(σ:St)(Q:List V→Hp→Prop)(us:List Value)(s':Shared):Prop:=∃vs H',Inv X pins σ H' s'∧ao vs us∧Q vs H'
def SP(X:Cx)(pins:List (Addr×Obj))(D:Ends)(f:Flow)(s':Shared):Prop :=
 match f with
 |.next=>∃σ' H',Inv X pins σ' H' s'∧D.nx σ' H'
 |.brk=>∃σ' H',Inv X pins σ' H' s'∧D.bk σ' H'
 |.cont=>∃σ' H',Inv X pins σ' H' s'∧D.ct σ' H'
 |.ret u=>∃v σ' H',Inv X pins σ' H' s'∧aq v u∧D.rt v H'
def PE(X:Cx)(e:Expr)(t:TE):Prop :=
 ∀(pins:List (Addr×Obj))(s:Shared)(σ:St)(H:Hp)(Q:VK),Inv X pins σ H s→t σ H Q→wpAny (model X.prog X.w) X.A (eval e X.env) (EP X pins σ Q) X.xe s
def PT(X:Cx)(e:Expr)(t:TT):Prop :=
 ∀(pins:List (Addr×Obj))(s:Shared)(σ:St)(H:Hp)(Q:Bool→Hp→Prop),Inv X pins σ H s→t σ H Q→wpAny (model X.prog X.w) X.A (isTrue e X.env (eval e X.env)) (TP X pins σ Q) X.xe s
def PW(X:Cx)(e:Expr)(t:TT):Prop :=
 ∀(whole:Sem Value)(pins:List (Addr×Obj))(s:Shared)(σ:St)(H:Hp)(Q:Bool→Hp→Prop),Inv X pins σ H s→t σ H Q→wpAny (model X.prog X.w) X.A (isTrue e X.env whole) (TP X pins σ Q) X.xe s
theorem PW.pt{X:Cx}{e:Expr}{t:TT}(h:PW X e t):PT X e t:=h _
def PA(X:Cx)(es:List Expr)(t:TA):Prop :=
 ∀(pos:Pos)(pins:List (Addr×Obj))(s:Shared)(σ:St)(H:Hp)(Q:List V→Hp→Prop),Inv X pins σ H s→t σ H Q→wpAny (model X.prog X.w) X.A (spliced (backTo pos (starEach es X.env))) (AP X pins σ Q) X.xe s
def PS(X:Cx)(st:Stmt)(t:TS):Prop :=
 ∀(pins:List (Addr×Obj))(s:Shared)(σ:St)(H:Hp)(D:Ends),Inv X pins σ H s→t D σ H→wpAny (model X.prog X.w) X.A (exec st X.env) (SP X pins D) X.xe s
def PSs(X:Cx)(st:List Stmt)(t:TS):Prop :=
 ∀(pins:List (Addr×Obj))(s:Shared)(σ:St)(H:Hp)(D:Ends),Inv X pins σ H s→t D σ H→wpAny (model X.prog X.w) X.A (execs st X.env) (SP X pins D) X.xe s
theorem thn{α:Type}{t:Sem α}{Q Q':α→Shared→Prop}{M:Model}{A:Around}{E:Value→Shared→Prop}{s:Shared}(h:wpAny M A t Q E s)(hQ:∀a s,Q a s→Q' a s):wpAny M A t Q' E s:=wpAny_mono h hQ λ_ _ x=>x
section
variable{X:Cx}
def jQ(i:Nat):TE:=λσ H Q=>∃v,σ[i]?=some (some v)∧Q v H
def tC(v:V):TE:=λ_ H Q=>Q v H
theorem oB{i:Nat}{x:Str}{pos:Pos}(hN:X.N[i]?=some x)(hv:Vis X.env.scope x)(hd:(x==("__debug__":Str))=false:=by decide)(hcd:(x==("__classdict__":Str))=false:=by decide):PE X (.Name x pos) (jQ i):=by
 intro pins s σ H Q I h;obtain⟨v,e,h⟩:=h;obtain⟨m,hn,hl⟩:=I.loc;obtain⟨u,r,l⟩:=hl i x v hN e hv;have fin:EP X pins σ Q u s:=⟨v,H,I,r,h⟩;rcases l with⟨hk,hm⟩|⟨hk,c,hc,hcell⟩
 ·exact wpAny_Name (wpAny_loadName_local I.ok.kind hk hn hm fin) hd
 ·rcases hk with hk|hk
  ·exact wpAny_Name (wpAny_loadName_cell I.ok.kind hk hc hcell fin) hd
  ·exact wpAny_Name (wpAny_loadName_free I.ok.kind hk hc hcell fin hcd) hd
theorem aj{i j pos}:PE X (.Constant (.int i) j pos) (tC (.int i)):=λ_ _ _ H _ I h=>wpAny_Constant_int ⟨.int i,H,I.tok _,⟨_,rfl⟩,h⟩
theorem qd{b j pos}:PE X (.Constant (.bool b) j pos) (tC (.bl b)):=λ_ _ _ H _ I h=>Constant_bool ⟨.bl b,H,I,rfl,h⟩
theorem gc{j pos}:PE X (.Constant .none j pos) (tC .non):=λ_ _ _ H _ I h=>Constant_none ⟨.non,H,I,rfl,h⟩
theorem gf{x j pos}:PE X (.Constant (.str x) j pos) (tC (.str x)):=λ_ _ _ H _ I h=>Calls.Constant_str ⟨.str x,H,I.tok _,⟨_,rfl⟩,h⟩
def Gl(X:Cx)(x:Str):Prop:=X.env.kindOf x=some .globalImplicit
theorem gg{E:Value→Shared→Prop}{pins:List (Addr×Obj)}{s:Shared}{σ:St}{H:Hp}{x:Str}{u:Value}{pos:Pos}{Q:Value→Shared→Prop}(I:Inv X pins σ H s)(hg:Gl X x)(hm:X.mg x=some u)(h:Q u s)(hd:(x==("__debug__":Str))=false:=by decide):wpAny (model X.prog X.w) X.A (eval (.Name x pos) X.env) Q E s :=
 Calls.Name_function_global I.ok.kind hg (Calls.loadGlobal_global (by rw[I.ok.glob];exact I.mod.glob.keeps I.bk) hm h) hd
theorem cH{E:Value→Shared→Prop}{pins:List (Addr×Obj)}{s:Shared}{σ:St}{H:Hp}{x:Str}{u:Value}{pos:Pos}{Q:Value→Shared→Prop}(I:Inv X pins σ H s)(hg:Gl X x)(hm:X.mg x=none)(hv:bootBuiltins x=some u)(h:Q u s)(hn:x≠"__name__":=by decide)(hd:(x==("__debug__":Str))=false:=by decide):wpAny (model X.prog X.w) X.A (eval (.Name x pos) X.env) Q E s:=by
 obtain⟨mb,h1,h2⟩:=I.mod.blt;exact Calls.Name_function_global I.ok.kind hg (Calls.loadGlobal_builtin (by rw[I.ok.glob];exact I.mod.glob.keeps I.bk) hm (by rw[I.ok.blt];exact h1.keeps I.bk) ((h2 x hn).trans hv) h) hd
theorem dN{x:Str}{v:V}{u:Value}{pos:Pos}(hg:Gl X x)(hm:X.mg x=some u)(r:aq v u)(hd:(x==("__debug__":Str))=false:=by decide):PE X (.Name x pos) (tC v) :=
 λ_ _ _ H _ I h=>gg I hg hm ⟨v,H,I,r,h⟩ hd
variable{a b:Expr}{ta tb:TE}{pos:Pos}
def PC(X:Cx)(op:CmpOp)(a b:Expr)(t:TE):Prop :=
 ∀(pins:List (Addr×Obj))(s:Shared)(σ:St)(H:Hp)(Q:VK),Inv X pins σ H s→t σ H Q →
  wpAny (model X.prog X.w) X.A (eval a X.env) (λv s₁=>wpAny (model X.prog X.w) X.A (eval b X.env) (λu s₂=>wpAny (model X.prog X.w) X.A (compareOp op v u) (EP X pins σ Q) X.xe s₂) X.xe s₁) X.xe s
def tB(t:TE):TT:=λσ H Q=>t σ H λx H1=>∃c,x=.bl c∧Q c H1
theorem oC{op:CmpOp}{t:TE}(h:PC X op a b t)(h1:behindInMarks op b=false:=by first|exact nobehind _ (by decide) (by decide)|rfl):PT X (.Compare a [op] [b] pos) (tB t):=by
 intro pins s σ H Q I hw;refine wpAny_isTrue_Compare1 (thn (h pins s σ H _ I hw) λv s1 h1=>thn h1 λu s2 h2=>thn h2 λc s3 ⟨x,H1,I1,r1,q1⟩=>?_) h1;obtain⟨d,rfl,q⟩:=q1;cases r1;exact wpAny_truthy_bool ⟨H1,I1,q⟩
theorem iA{e:Expr}{t:TE}(h:PE X e t)(he:∀whole,isTrue e X.env whole=(do let v ← whole;standAt e.pos;holding [v] (truthy v)):=by intro _;rfl):PT X e (tB t):=by
 intro pins s σ H Q I hw;refine isTrue_plain (thn (h pins s σ H _ I hw) λv s1 ⟨x,H1,I1,r1,q1⟩=>?_) (he _);obtain⟨d,rfl,q⟩:=q1;cases r1;exact wpAny_truthy_bool ⟨H1,I1,q⟩
variable{tA tB':TT}{rest:List Expr}
def qV(t u:TT):TT:=λσ H Q=>t σ H λc H1=>if c=true then u σ H1 Q else Q false H1
def tOr(t u:TT):TT:=λσ H Q=>t σ H λc H1=>if c=true then Q true H1 else u σ H1 Q
def qW(t:TT):TT:=λσ H Q=>t σ H λc H1=>Q (!c) H1
theorem pw_and1(ha:PT X a tA):PW X (.BoolOp .And [a] pos) tA:=by
 intro wh pins s σ H Q I h;refine isTrue_and (thn (ha pins s σ H Q I h) λc s1 e=>?_);cases c with
 |true=>exact isTrue_and_nil e
 |false=>exact e
theorem pw_or1(ha:PT X a tA):PW X (.BoolOp .Or [a] pos) tA:=by
 intro wh pins s σ H Q I h;refine isTrue_or (thn (ha pins s σ H Q I h) λc s1 e=>?_);cases c with
 |false=>exact isTrue_or_nil e
 |true=>exact e
theorem pw_and(ha:PT X a tA)(hb:PW X (.BoolOp .And (b::rest) pos) tB'):PW X (.BoolOp .And (a::b::rest) pos) (qV tA tB'):=by
 intro wh pins s σ H Q I h;refine isTrue_and (thn (ha pins s σ H _ I h) λc s1 hpt=>?_);obtain⟨H1,I1,q1⟩:=hpt;cases c with
 |true=>exact hb wh pins s1 σ H1 Q I1 q1
 |false=>exact⟨H1,I1,q1⟩
theorem pw_or(ha:PT X a tA)(hb:PW X (.BoolOp .Or (b::rest) pos) tB'):PW X (.BoolOp .Or (a::b::rest) pos) (tOr tA tB'):=by
 intro wh pins s σ H Q I h;refine isTrue_or (thn (ha pins s σ H _ I h) λc s1 hpt=>?_);obtain⟨H1,I1,q1⟩:=hpt;cases c with
 |true=>exact⟨H1,I1,q1⟩
 |false=>exact hb wh pins s1 σ H1 Q I1 q1
theorem kG(ha:PT X a tA):PT X (.UnaryOp .Not a pos) (qW tA):=by
 intro pins s σ H Q I h;exact isTrue_not (ha pins s σ H (λc H1=>Q (!c) H1) I h)
end
def SqL(K:PySem.W.Frag)(H:Hp)(a:Addr)(xs:List V):Prop :=
 Rd H a (.lst xs) ∨
  ∃(o:Obj) (its:Array Value) (n:Nat),K.lookup a=some o∧o.cls=.type "list"∧o.dict=none∧o.data=.seq its n∧its.size≤sizeLine∧ao xs its.toList
def SqT(K:PySem.W.Frag)(H:Hp)(a:Addr)(xs:List V):Prop :=
 Rd H a (.tup xs) ∨
  ∃(o:Obj) (its:Array Value) (n:Nat),K.lookup a=some o∧o.cls=.type "tuple"∧o.data=.seq its n∧its.size≤sizeLine∧ao xs its.toList
def qX:Value→Option V
 |.none=>some .non
 |.bool b=>some (.bl b)
 |.int i _=>some (.int i)
 |.str x _=>some (.str x)
 |.bytes b _=>some (.byt b)
 |.float b _=>some (.flt b)
 |.ref a=>some (.ref a)
 |.type n=>some (.ty n)
 |_=>none
theorem aq.abs{x:V}{u:Value}(r:aq x u):qX u=some x:=by
 cases x with
 |non=>cases r;rfl
 |bl _=>cases r;rfl
 |int _=>obtain⟨t,rfl⟩:=r;rfl
 |str _=>obtain⟨t,rfl⟩:=r;rfl
 |byt _=>obtain⟨t,rfl⟩:=r;rfl
 |flt _=>obtain⟨t,rfl⟩:=r;rfl
 |ref _=>cases r;rfl
 |ty _=>cases r;rfl
theorem aq.inj{x y:V}{u:Value}(r:aq x u)(q:aq y u):x=y:=Option.some.inj (r.abs.symm.trans q.abs)
theorem ao.inj:∀{xs ys:List V}{us:List Value},ao xs us→ao ys us→xs=ys
 |_,_,_,.nil,.nil=>rfl
 |_,_,_,.cons r t,.cons r' t'=>by rw[r.inj r',ao.inj t t']
section
variable{X:Cx}{pins:List (Addr×Obj)}{σ:St}{H:Hp}{s:Shared}{a:Addr}{xs ys:List V}
theorem SqL.of{K:PySem.W.Frag}(h:H a=some (.lst xs)):SqL K H a xs:=.inl (.inl h)
theorem SqT.of{K:PySem.W.Frag}(h:H a=some (.tup xs)):SqT K H a xs:=.inl (.inl h)
theorem Inv.list(I:Inv X pins σ H s)(h:SqL X.K H a xs):∃its:List Value,ao xs its∧PlainL s.heap a its.toArray∧xs.length≤sizeLine:=by
 rcases h with h|⟨o,its,n,hk,hc,hd,hs,hz,r⟩
 ·obtain⟨z,its,n,r,e⟩:=h.ok I.hok;exact⟨its,r,⟨_,n,e,rfl,rfl,rfl⟩,z⟩
 ·refine⟨its.toList,r,⟨o,n,I.kIn a o hk,hc,hd,by simpa using hs⟩,?_⟩
  have e:=r.length;simp only[length_toList]at e;omega
theorem Inv.tuple(I:Inv X pins σ H s)(h:SqT X.K H a xs):∃its:List Value,ao xs its∧IsTup s.heap a its.toArray∧xs.length≤sizeLine:=by
 rcases h with h|⟨o,its,n,hk,hc,hs,hz,r⟩
 ·obtain⟨z,its,r,p⟩:=h.ok I.hok;exact⟨its,r,p,z⟩
 ·refine⟨its.toList,r,⟨o,I.kIn a o hk,hc,n,by simpa using hs⟩,?_⟩
  have e:=r.length;simp only[length_toList]at e;omega
theorem Inv.list_inj(I:Inv X pins σ H s)(h:SqL X.K H a xs)(h':SqL X.K H a ys):xs=ys:=by
 obtain⟨its,r,⟨o,n,e,_,_,d⟩,_⟩:=I.list h;obtain⟨its',r',⟨o',n',e',_,_,d'⟩,_⟩:=I.list h';rw[e]at e';cases e';rw[d]at d';injection d' with d1 _
 have:its=its':=by simpa using congrArg toList d1
 subst this;exact r.inj r'
theorem Inv.tuple_inj(I:Inv X pins σ H s)(h:SqT X.K H a xs)(h':SqT X.K H a ys):xs=ys:=by
 obtain⟨its,r,⟨o,e,_,n,d⟩,_⟩:=I.tuple h;obtain⟨its',r',⟨o',e',_,n',d'⟩,_⟩:=I.tuple h';rw[e]at e';cases e';rw[d]at d';injection d' with d1 _
 have:its=its':=by simpa using congrArg toList d1
 subst this;exact r.inj r'
end
abbrev Cx.wish(X:Cx)(E:Value→Shared→Prop):Cx:={X with xe:=E}
abbrev Cx.nox(X:Cx):Cx:=X.wish λ_ _=>False
theorem Cx.Ok.wish{X:Cx}(ok:X.Ok)(E:Value→Shared→Prop):(X.wish E).Ok :=
 ⟨ok.mod,ok.kind,ok.glob,ok.blt,ok.above,ok.inj,ok.has,ok.cab,ok.hd,ok.frames,ok.stk,ok.exf,ok.bs,ok.bsz,ok.noex,ok.exfs,ok.funs,ok.frf⟩
theorem Cx.Ok.unwish{X:Cx}{E:Value→Shared→Prop}(ok:(X.wish E).Ok):X.Ok :=
 ⟨ok.mod,ok.kind,ok.glob,ok.blt,ok.above,ok.inj,ok.has,ok.cab,ok.hd,ok.frames,ok.stk,ok.exf,ok.bs,ok.bsz,ok.noex,ok.exfs,ok.funs,ok.frf⟩
section
variable{X:Cx}{pins:List (Addr×Obj)}{σ:St}{H:Hp}{s:Shared}{E:Value→Shared→Prop}
theorem Inv.wish(I:Inv X pins σ H s)(E:Value→Shared→Prop):Inv (X.wish E) pins σ H s:=⟨I.ok.wish E,I.os,I.bare,I.base,I.loc,I.cell,I.free,I.freeC,I.pin,I.hok,I.len⟩
theorem Inv.unwish(I:Inv (X.wish E) pins σ H s):Inv X pins σ H s:=⟨I.ok.unwish,I.os,I.bare,I.base,I.loc,I.cell,I.free,I.freeC,I.pin,I.hok,I.len⟩
theorem SP.unwish{D:Ends}{f:Flow}{s':Shared}(h:SP (X.wish E) pins D f s'):SP X pins D f s':=by
 cases f with
 |next=>obtain⟨σ',H',I,q⟩:=h;exact⟨σ',H',I.unwish,q⟩
 |brk=>obtain⟨σ',H',I,q⟩:=h;exact⟨σ',H',I.unwish,q⟩
 |cont=>obtain⟨σ',H',I,q⟩:=h;exact⟨σ',H',I.unwish,q⟩
 |ret u=>obtain⟨v,σ',H',I,r,q⟩:=h;exact⟨v,σ',H',I.unwish,r,q⟩
theorem PSs.nox{st:List Stmt}{t:TS}(h:PSs X.nox st t):PSs X st t:=λpins s σ H D I hw =>
 wpAny_mono (h pins s σ H D (I.wish _) hw) (λ_ _ q=>q.unwish) λ_ _ z=>False.elim z
end
section
variable{X:Cx}{st:Stmt}{rest:List Stmt}{t u:TS}{e:Expr}{te:TE}{pos:Pos}
def qe:TS:=λD σ H=>D.nx σ H
def mE(t u:TS):TS:=λD σ H=>t {D with nx:=u D} σ H
theorem aI:PSs X [] qe:=λ_ _ σ H _ I h=>wpAny_execs_nil ⟨σ,H,I,h⟩
theorem ah(h1:PS X st t)(h2:PSs X rest u):PSs X (st::rest) (mE t u):=by
 intro pins s σ H D I h;refine wpAny_execs_cons (thn (h1 pins s σ H {D with nx:=u D} I h) λf s1 q=>?_);cases f with
 |next =>
  obtain⟨σ',H',I',q⟩:=q;exact h2 pins s1 σ' H' D I' q
 |ret v=>exact q
 |brk=>exact q
 |cont=>exact q
theorem ak(h1:PS X st t):PSs X [st] t:=by
 intro pins s σ H D I h;refine wpAny_execs_cons (thn (h1 pins s σ H D I h) λf s1 q=>?_);cases f with
 |next=>exact wpAny_execs_nil q
 |ret v=>exact q
 |brk=>exact q
 |cont=>exact q
def oD:TS:=λD σ H=>D.bk σ H
theorem gJ:PS X (.Break pos) oD:=λ_ _ σ H _ I h=>wpAny_Break ⟨σ,H,I,h⟩
theorem Inv.quiet{pins:List (Addr×Obj)}{σ:St}{H:Hp}{s:Shared}(I:Inv X pins σ H s):interactive X.env=false:=by simp[interactive,I.ok.kind]
def qf(te:TE):TS:=λD σ H=>te σ H λ_ H1=>D.nx σ H1
theorem bf(he:PE X e te)(hs:swapsWith e none pos.line X.env=pure false:=by rfl):PS X (.Expr e pos) (qf te):=by
 intro pins s σ H D I h;exact wpAny_Expr_any (thn (he pins s σ H _ I h) λv s1 ⟨x,H1,I1,r1,q1⟩=>⟨σ,H1,I1,q1⟩) I.quiet hs
def oE(te:TE):TS:=λD σ H=>te σ H D.rt
theorem aM(he:PE X e te):PS X (.Return (some e) pos) (oE te):=by
 intro pins s σ H D I h;exact wpAny_Return_some (thn (he pins s σ H _ I h) λv s1 ⟨x,H1,I1,r1,q1⟩=>⟨x,σ,H1,I1,r1,q1⟩)
def qY(c:TT)(t u:TS):TS:=λD σ H=>c σ H λb H1=>if b=true then t D σ H1 else u D σ H1
theorem bi{c:Expr}{a b:List Stmt}{tc:TT}(hc:PT X c tc)(ha:PSs X a t)(hb:PSs X b u):PS X (.If c a b pos) (qY tc t u):=by
 intro pins s σ H D I h;refine wpAny_If (thn (hc pins s σ H _ I h) λd s1 hpt=>?_);obtain⟨H1,I1,q1⟩:=hpt;cases d with
 |true=>exact ha pins s1 σ H1 D I1 q1
 |false=>exact hb pins s1 σ H1 D I1 q1
def oF:TS:=λ_ _ _=>False
theorem bt{sts:List Stmt}:PSs X sts oF:=λ_ _ _ _ _ _ h=>h.elim
end
abbrev TG:=V→St→Hp→(St→Hp→Prop)→Prop
abbrev TGs:=List V→St→Hp→(St→Hp→Prop)→Prop
def PG(X:Cx)(target:Expr)(t:TG):Prop :=
 ∀(pins:List (Addr×Obj))(s:Shared)(σ:St)(H:Hp)(v:V)(u:Value)(Q:St→Hp→Prop),Inv X pins σ H s→aq v u→t v σ H Q →
  wpAny (model X.prog X.w) X.A (assign target X.env u) (λ_ s'=>∃σ' H',Inv X pins σ' H' s'∧Q σ' H') X.xe s
def PGs(X:Cx)(ts:List Expr)(t:TGs):Prop :=
 ∀(pins:List (Addr×Obj))(s:Shared)(σ:St)(H:Hp)(vs:List V)(us:List Value)(Q:St→Hp→Prop),Inv X pins σ H s→ao vs us→t vs σ H Q →
  wpAny (model X.prog X.w) X.A (assignInOrder ((assignEach ts X.env).map (·.2)) us) (λ_ s'=>∃σ' H',Inv X pins σ' H' s'∧Q σ' H') X.xe s
abbrev TIp:=V→V→Hp→VK→Prop
def PIp(X:Cx)(op:Operator)(t:TIp):Prop :=
 ∀(pins:List (Addr×Obj))(s:Shared)(σ:St)(H:Hp)(x y:V)(v u:Value)(Q:VK),Inv X pins σ H s→aq x v→aq y u→t x y H Q →
  wpAny (model X.prog X.w) X.A (inplaceOp op v u) (EP X pins σ Q) X.xe s
section
variable{X:Cx}{pos:Pos}
def bp(i:Nat):TG:=λv σ H Q=>Q (σ.set i (some v)) H
theorem aJ{i:Nat}{x:Str}(hN:X.N.Nodup)(hi:X.N[i]?=some x)(hx:Loc X.env.scope x)(hf:X.fn x=true∨X.env.scope.names.lookup x=some .local:=by first|exact .inl rfl|exact .inr rfl|assumption):PG X (.Name x pos) (bp i):=by
 intro pins s σ H v u Q I r h;exact wpAny_assign_Name (cq I hN hi hx r (λs' I'=>⟨_,H,I',h⟩) hf)
def qZ:TGs:=λvs σ H Q=>vs=[]∧Q σ H
def qg(t:TG)(u:TGs):TGs:=λvs σ H Q=>∃v r,vs=v::r∧t v σ H λσ' H'=>u r σ' H' Q
theorem jg:PGs X [] qZ:=by
 intro pins s σ H vs us Q I r h;obtain⟨e,h⟩:=h;subst e;cases r;exact assignInOrder_nil ⟨σ,H,I,h⟩
theorem cQ{e:Expr}{es:List Expr}{t:TG}{u:TGs}(h1:PG X e t)(h2:PGs X es u)(hs:(assignEach (e::es) X.env).map (·.2)=assign e X.env::(assignEach es X.env).map (·.2):=by rfl):PGs X (e::es) (qg t u):=by
 intro pins s σ H vs us Q I r h;obtain⟨v,vr,e1,h⟩:=h;subst e1;cases r with
 |cons r rr =>
  rw[hs];refine assignInOrder_cons (thn (h1 pins s σ H _ _ _ I r h) λ_ s1 hpt=>?_);obtain⟨σ1,H1,I1,q1⟩:=hpt;exact h2 pins s1 σ1 H1 _ _ Q I1 rr q1
def ra(K:PySem.W.Frag)(n:Nat)(t:TGs):TG:=λv σ H Q=>∃a xs,v=.ref a∧SqT K H a xs∧xs.length=n∧t xs σ H Q
theorem kH{es:List Expr}{k:Nat}{t:TGs}{n:Nat}(hc:X.calm=true)(h:PGs X es t)(hn:(assignEach es X.env).length=n:=by rfl)(hst:(assignEach es X.env).findIdx? (·.1)=none:=by rfl):PG X (.Tuple es k pos) (ra X.K n t):=by
 intro pins s σ H v u Q I r hw;obtain⟨a,xs,e1,hq,hl,hw⟩:=hw;subst e1;cases r;obtain⟨its,rv,ht,hz⟩:=I.tuple hq;refine assign_Tuple_tuple (I.ok.hd hc) ht (by simp[hn,←hl,rv.length]) hst λh' hx=>?_;have I1:Inv X pins σ H {s with heap:=h'}:=I.kept (t':=s.toks) λb o e=>hx b o (ne_of_lt (lt_size e)) e
 exact h pins _ σ H xs _ Q I1 (by simpa using rv) hw
def qh(te:TE)(g:TG):TS:=λD σ H=>te σ H λx H1=>g x σ H1 D.nx
theorem ar{i:Nat}{x:Str}{e:Expr}{te:TE}{pos':Pos}(hN:X.N.Nodup)(hi:X.N[i]?=some x)(hx:Loc X.env.scope x)(he:PE X e te)(hs:swapsWith e (some (.Name x pos')) pos.line X.env=pure false:=by rfl)(hf:X.fn x=true∨X.env.scope.names.lookup x=some .local:=by first|exact .inl rfl|exact .inr rfl|assumption):
  PS X (.Assign [.Name x pos'] e pos) (qh te (bp i)):=by
 intro pins s σ H D I h;refine wpAny_Assign_Name (thn (he pins s σ H _ I h) λv s1 ⟨y,H1,I1,r1,q1⟩=>?_) hs;exact cq I1 hN hi hx r1 (λs2 I2=>⟨_,H1,I2,q1⟩) hf
def rb(i:Nat)(te:TE)(ti:TIp):TS:=λD σ H=>∃x,σ[i]?=some (some x)∧te σ H λy H1=>ti x y H1 λz H2=>D.nx (σ.set i (some z)) H2
theorem oG{i:Nat}{x:Str}{e:Expr}{te:TE}{op:Operator}{ti:TIp}{pos':Pos}(hN:X.N.Nodup)(hi:X.N[i]?=some x)(hx:Loc X.env.scope x)(he:PE X e te)(ho:PIp X op ti)(hf:X.fn x=true∨X.env.scope.names.lookup x=some .local:=by first|exact .inl rfl|exact .inr rfl|assumption):
  PS X (.AugAssign (.Name x pos') op e pos) (rb i te ti):=by
 intro pins s σ H D I h;obtain⟨v,e1,h⟩:=h;obtain⟨m,hn,hl⟩:=I.loc;have vis:Vis X.env.scope x:=by rcases hx with k|k;exact .inl k;exact .inr (.inl k)
 obtain⟨u,r,l⟩:=hl i x v hi e1 vis;refine wpAny_AugAssign_Name ?_;have go:wpAny (model X.prog X.w) X.A (eval e X.env) (λw s₂=>wpAny (model X.prog X.w) X.A (inplaceOp op u w) (λr s₃=>wpAny (model X.prog X.w) X.A (storeName X.env x r) (λ_=>SP X pins D .next) X.xe s₃) X.xe s₂) X.xe s:=by
  refine thn (he pins s σ H _ I h) λw s1 hpt=>?_;obtain⟨y,H1,I1,r1,q1⟩:=hpt;refine thn (ho pins s1 σ H1 v y u w _ I1 r r1 q1) λz s2 hpt=>?_;obtain⟨zv,H2,I2,r2,q2⟩:=hpt;exact cq I2 hN hi hx r2 (λs3 I3=>⟨_,H2,I3,q2⟩) hf
 rcases l with⟨hk,hm⟩|⟨hk,c,hc,hcell⟩
 ·exact wpAny_loadName_local I.ok.kind hk hn hm go
 ·rcases hk with hk|hk
  ·exact wpAny_loadName_cell I.ok.kind hk hc hcell go
  ·rcases hx with k|k
   ·have:X.env.scope.names.lookup x=some .free:=hk;rw[k]at this;cases this
   ·have:X.env.scope.names.lookup x=some .free:=hk;rw[k]at this;cases this
def kJ(c:TT)(tb:TS):TS:=λD σ H=>∃W:Nat→St→Hp→Prop,(∃m,W m σ H)∧∀m σ H,W m σ H →
 c σ H λb H1=>if b=true then ∃N:St→Hp→Prop,(∀σ' H',N σ' H'→∃m',m'<m∧W m' σ' H')∧tb {D with nx:=N,ct:=N,bk:=D.nx} σ H1 else D.nx σ H1
theorem cR{c:Expr}{body:List Stmt}{tc:TT}{tb:TS}(hp:PassesOwn (model X.prog X.w) X.A X.env X.xe)(hc:PT X c tc)(hb:PSs X body tb):PS X (.While c body [] pos) (kJ tc tb):=by
 intro pins s σ H D I h;obtain⟨W,⟨m0,w0⟩,turn⟩:=h;refine wpAny_While (codeAny_whileLoop (λn s'=>∃σ' H',Inv X pins σ' H' s'∧W n σ' H') ?_ m0 ⟨σ,H,I,w0⟩);rintro n s1 ⟨σ1,H1,I1,w1⟩;refine wpAny_passesOwn hp (thn (hc pins s1 σ1 H1 _ I1 (turn n σ1 H1 w1)) λb s2 hpt=>?_);obtain⟨H2,I2,q2⟩:=hpt;cases b with
 |true =>
  obtain⟨N,hN,q2⟩:=q2;rw[if_pos rfl];refine wpAny_passesOwn hp (thn (hb pins s2 σ1 H2 _ I2 q2) λf s3 q3=>?_);cases f with
  |next =>
   obtain⟨σ3,H3,I3,n3⟩:=q3;obtain⟨m',hm,w3⟩:=hN σ3 H3 n3;exact⟨m',hm,σ3,H3,I3,w3⟩
  |cont =>
   obtain⟨σ3,H3,I3,n3⟩:=q3;obtain⟨m',hm,w3⟩:=hN σ3 H3 n3;exact⟨m',hm,σ3,H3,I3,w3⟩
  |brk=>exact q3
  |ret v=>exact q3
 |false =>
  rw[if_neg Bool.false_ne_true];exact wpAny_execs_nil ⟨σ1,H2,I2,q2⟩
end
structure It where
 go:Nat→Hp→Prop
 yld:Nat→Hp→V→Hp→Prop
 stop:Nat→Hp→Prop
def cI(X:Cx)(pins:List (Addr×Obj))(H:Hp)(b:Addr):Prop :=
 H b=none∧b≠X.env.locals∧b∉X.fs∧(b∈X.ex∨X.s₀.heap.objs.size≤b)∧(∀x c,X.env.cells.lookup x=some c→c≠b)∧∀p∈X.pn++pins,p.1≠b
theorem Inv.fpOk{X:Cx}{pins:List (Addr×Obj)}{σ:St}{H H':Hp}{s:Shared}{b:Addr}(I:Inv X pins σ H s)(hb:s.heap.objs.size≤b)(hn:H' b=none):cI X pins H' b:=by
 refine⟨hn,ne_of_gt (lt_of_lt_of_le I.lt hb),I.nofs hb,.inr (le_trans I.sz hb),λx c e z=>?_,λp hp z=>?_⟩
 ·obtain⟨v,q⟩:=I.cell x c e;exact absurd (lt_of_lt_of_le q.lt (by rw[z];exact hb)) (lt_irrefl _)
 ·exact absurd (lt_of_lt_of_le (lt_size (I.pin p hp).1) (by rw[z];exact hb)) (lt_irrefl _)
structure Turn(P:Program)(w:World)(K:PySem.W.Frag)(tg:Expr)(J:It)(fp:List Addr)(it:Addr)(tn:Nat→Heap→Prop):Prop where
 mem:it∈fp
 obj:∀i h,tn i h→∀b∈fp,∃o,h.get? b=some o∧∀v,o.data≠.cell v
 keep:∀i h h',tn i h→(∀b∈fp,∀o,h.get? b=some o→h'.get? b=some o)→tn i h'
 item:∀(X:Cx),X.prog=P→X.w=w→X.K=K→X.calm=true→∀(i:Nat)(pins:List (Addr×Obj))(s:Shared)(σ:St)(H:Hp)(E:Value→Shared→Prop),Inv X pins σ H s→(∀b∈fp,cI X pins H b)→tn i s.heap→J.go i H →
  wpAny (model P w) X.A (pyNext (.ref it)) (λr s1=>∃u,r=some u ∧
   wpAny (model P w) X.A (letOwnedTupleGo tg (.ref it) u) (λ_ s2=>∃x H',Inv X pins σ H' s2∧aq x u∧J.yld i H x H'∧tn (i+1) s2.heap∧∀b∈fp,H' b=none) E s1) E s
 done:∀(X:Cx),X.prog=P→X.w=w→X.K=K→X.calm=true→∀(i:Nat)(pins:List (Addr×Obj))(s:Shared)(σ:St)(H:Hp)(E:Value→Shared→Prop),Inv X pins σ H s→(∀b∈fp,cI X pins H b)→tn i s.heap→J.stop i H →
  wpAny (model P w) X.A (pyNext (.ref it)) (λr s1=>r=none∧Inv X pins σ H s1) E s
 self:∀(A:Around)(i:Nat)(s:Shared)(Q:Value→Shared→Prop)(E:Value→Shared→Prop),tn i s.heap→Q (.ref it) s→wpAny (model P w) A (pyIter (.ref it)) Q E s
abbrev TI:=St→Hp→(It→Hp→Prop)→Prop
def PIE(X:Cx)(pins:List (Addr×Obj))(σ:St)(tg:Expr)(R:It→Hp→Prop)(itv:Value)(s2:Shared):Prop :=
 ∃(it:Addr) (fp:List Addr) (tn:Nat→Heap→Prop) (J:It) (H':Hp),itv=.ref it∧Inv X pins σ H' s2∧Turn X.prog X.w X.K tg J fp it tn∧tn 0 s2.heap∧(∀b∈fp,cI X pins H' b)∧R J H'
def PI(X:Cx)(tg iter:Expr)(wi:TI):Prop :=
 ∀(pins:List (Addr×Obj))(s:Shared)(σ:St)(H:Hp)(R:It→Hp→Prop),Inv X pins σ H s→wi σ H R →
  wpAny (model X.prog X.w) X.A (eval iter X.env) (λv s1=>wpAny (model X.prog X.w) X.A (pyIter v) (PIE X pins σ tg R) X.xe s1) X.xe s
theorem kO{M:Model}{A:Around}{E:Value→Shared→Prop}{s:Shared}{tg:Expr}{it:Addr}{u:Value}{o:Obj}{n:String}{vs:Array Value}{Q:Unit→Shared→Prop}(ho:s.heap.get? it=some o)(hc:o.cls=.type n)(hd:o.data=.fields vs)(hn:["enumerate","zip","dict_itemiterator","dict_reverseitemiterator","odict_iterator","itertools.zip_longest","itertools.pairwise"].contains n=false)(hQ:Q () s):wpAny M A (letOwnedTupleGo tg (.ref it) u) Q E s:=by
 unfold letOwnedTupleGo;cases tg<;>first
  |exact wpAny_pure hQ
  | (cases u<;>first
    |exact wpAny_pure hQ
    | (refine wpAny_bind (wpAny_load ho ?_)
       rw[hc,hd];show wpAny M A (if (["enumerate","zip","dict_itemiterator","dict_reverseitemiterator","odict_iterator","itertools.zip_longest","itertools.pairwise"].contains n&&vs[0]?==some (rawInt _))=true then _ else _) Q E s
       rw[if_neg (by intro h;rw[hn,Bool.false_and]at h;cases h)];exact wpAny_pure hQ))
def Itl(K:PySem.W.Frag)(a:Addr):It :=
 ⟨λi H=>∃xs x,SqL K H a xs∧xs[i]?=some x,λi H x H'=>H'=H∧∀xs,SqL K H a xs→xs[i]?=some x,λi H=>∃xs,SqL K H a xs∧xs.length≤i⟩
def Itt(K:PySem.W.Frag)(a:Addr):It :=
 ⟨λi H=>∃xs x,SqT K H a xs∧xs[i]?=some x,λi H x H'=>H'=H∧∀xs,SqT K H a xs→xs[i]?=some x,λi H=>∃xs,SqT K H a xs∧xs.length≤i⟩
def Itr(lo:Int)(n:Nat):It:=⟨λi _=>i<n,λi H x H'=>H'=H∧x=.int (lo+i),λi _=>n≤i⟩
theorem jR{P:Program}{w:World}{K:PySem.W.Frag}{tg:Expr}(a it:Addr):Turn P w K tg (Itl K a) [it] it (λi h=>h.IsListIter it a i) where
 mem:=by simp
 obj:=λi h st b hb=>by
  have e:b=it:=by simpa using hb
  subst e;obtain⟨o,e,c,d⟩:=st;exact⟨o,e,λv z=>by rw[d]at z;cases z⟩
 keep:=λi h h' st k=>st.at λo e=>k it (by simp) o e
 item:=by
  intro X hP hw hK hc i pins s σ H E I hf st hg;subst hP hw hK;obtain⟨xs,x,hq,hx⟩:=hg;obtain⟨its,rv,p,hz⟩:=I.list hq;obtain⟨u,hu,ru⟩:=rv.get hx;obtain⟨f0,f1,f2,f3,f4,f5⟩:=hf it (by simp);refine wpAny_pyNext_list_item st p.isList (x:=u) (by simpa using hu) λh' st' sb=>?_;have I1:Inv X pins σ H {s with heap:=h'}:=I.turned (t':=s.toks) (λb o hb e=>(sb.2 b hb).trans e) f0 f1 f3 f4 f5
  obtain⟨o,e,c,d⟩:=id st';exact⟨u,rfl,kO (s:={s with heap:=h'}) e c d (by decide) ⟨x,H,I1,ru,⟨rfl,λys hy=>by rw[I.list_inj hy hq];exact hx⟩,st',λb hb=>(hf b hb).1⟩⟩
 done:=by
  intro X hP hw hK hc i pins s σ H E I hf st hg;subst hP hw hK;obtain⟨xs,hq,hx⟩:=hg;obtain⟨its,rv,p,hz⟩:=I.list hq;obtain⟨f0,f1,f2,f3,f4,f5⟩:=hf it (by simp);have hl:=rv.length;exact wpAny_pyNext_list_end (I.ok.hd hc) st p.isList (by simp;omega) λh' eb=>⟨rfl,I.turned (t':=s.toks) (λb o hb e=>eb b o hb e) f0 f1 f3 f4 f5⟩
 self:=λ_ _ _ _ _ st h=>wpAny_pyIter_listiter st h
theorem iB{P:Program}{w:World}{K:PySem.W.Frag}{tg:Expr}(a it:Addr):Turn P w K tg (Itt K a) [it] it (λi h=>h.IsTupleIter it a i) where
 mem:=by simp
 obj:=λi h st b hb=>by
  have e:b=it:=by simpa using hb
  subst e;obtain⟨o,e,c,d⟩:=st;exact⟨o,e,λv z=>by rw[d]at z;cases z⟩
 keep:=λi h h' st k=>st.at λo e=>k it (by simp) o e
 item:=by
  intro X hP hw hK hc i pins s σ H E I hf st hg;subst hP hw hK;obtain⟨xs,x,hq,hx⟩:=hg;obtain⟨its,rv,p,hz⟩:=I.tuple hq;obtain⟨u,hu,ru⟩:=rv.get hx;obtain⟨f0,f1,f2,f3,f4,f5⟩:=hf it (by simp);refine wpAny_pyNext_tuple_item st (show s.heap.IsTuple a its.toArray from p) (x:=u) (by simpa using hu) λh' st' sb=>?_;have I1:Inv X pins σ H {s with heap:=h'}:=I.turned (t':=s.toks) (λb o hb e=>(sb.2 b hb).trans e) f0 f1 f3 f4 f5
  obtain⟨o,e,c,d⟩:=id st';exact⟨u,rfl,kO (s:={s with heap:=h'}) e c d (by decide) ⟨x,H,I1,ru,⟨rfl,λys hy=>by rw[I.tuple_inj hy hq];exact hx⟩,st',λb hb=>(hf b hb).1⟩⟩
 done:=by
  intro X hP hw hK hc i pins s σ H E I hf st hg;subst hP hw hK;obtain⟨xs,hq,hx⟩:=hg;obtain⟨its,rv,p,hz⟩:=I.tuple hq;obtain⟨f0,f1,f2,f3,f4,f5⟩:=hf it (by simp);have hl:=rv.length;exact wpAny_pyNext_tuple_end (I.ok.hd hc) st (show s.heap.IsTuple a its.toArray from p) (by simp;omega) λh' eb=>⟨rfl,I.turned (t':=s.toks) (λb o hb e=>eb b o hb e) f0 f1 f3 f4 f5⟩
 self:=λ_ _ _ _ _ st h=>wpAny_pyIter_tupleiter st h
theorem iC{P:Program}{w:World}{K:PySem.W.Frag}{tg:Expr}(it:Addr)(lo:Int)(n:Nat):Turn P w K tg (Itr lo n) [it] it (λi h=>IsRangeIter h it (lo+(i:Nat)*1) ((n:Int)-(i:Nat)) 1) where
 mem:=by simp
 obj:=λi h st b hb=>by
  have e:b=it:=by simpa using hb
  subst e;exact⟨_,st,λv z=>by
   have z':Data.fields _=Data.cell v:=z;cases z'⟩
 keep:=λi h h' st k=>k it (by simp) _ st
 item:=by
  intro X hP hw hK hc i pins s σ H E I hf st hg;subst hP hw hK;obtain⟨f0,f1,f2,f3,f4,f5⟩:=hf it (by simp);have W:=Walks.range (prog:=X.prog) (w:=X.w) (I.ok.hd hc) it lo 1 n;refine W.item i s _ _ hg st λv h' tk hv st' kk=>?_;obtain⟨t,rfl⟩:=hv;have I1:Inv X pins σ H {s with heap:=h',toks:=tk}:=I.turned (λb o hb e=>kk b o (by simpa using hb) e) f0 f1 f3 f4 f5
  refine⟨_,rfl,kO (s:={s with heap:=h',toks:=tk}) (n:="range_iterator") st' rfl rfl (by decide) ⟨.int (lo+i),H,I1,⟨t,?_⟩,⟨rfl,rfl⟩,st',λb hb=>(hf b hb).1⟩⟩;rw[Int.mul_one]
 done:=by
  intro X hP hw hK hc i pins s σ H E I hf st hg;subst hP hw hK;obtain⟨f0,f1,f2,f3,f4,f5⟩:=hf it (by simp);exact wpAny_pyNext_range_end (I.ok.hd hc) st (by have:n≤i:=hg;omega) λh' eb=>⟨rfl,I.turned (t':=s.toks) (λb o hb e=>eb b o hb e) f0 f1 f3 f4 f5⟩
 self:=λ_ _ _ _ _ st h=>wpAny_pyIter_rangeiter st h
section
variable{X:Cx}{tg:Expr}
def qi(K:PySem.W.Frag)(tl:TE):TI:=λσ H R=>tl σ H λx H1=>∃a,x=.ref a∧(∃xs,SqL K H1 a xs)∧R (Itl K a) H1
def rc(K:PySem.W.Frag)(tl:TE):TI:=λσ H R=>tl σ H λx H1=>∃a,x=.ref a∧(∃xs,SqT K H1 a xs)∧R (Itt K a) H1
theorem cS{l:Expr}{tl:TE}(hl:PE X l tl):PI X tg l (qi X.K tl):=by
 intro pins s σ H R I h;refine thn (hl pins s σ H _ I h) λv s1 hpt=>?_;obtain⟨x,H1,I1,r1,q1⟩:=hpt;obtain⟨a,e,⟨xs,hq⟩,q⟩:=q1;subst e;cases r1;obtain⟨its,rv,p,hz⟩:=I1.list hq;refine wpAny_pyIter_list p.isList ?_;refine⟨s1.heap.objs.size,[s1.heap.objs.size],_,_,H1,rfl,I1.kept (t':=s1.toks) λb o e=>get?_push_of_some _ e,jR a _,⟨_,get?_push_size _ rfl,rfl,rfl⟩,λb hb=>?_,q⟩;have e:b=s1.heap.objs.size:=by simpa using hb
 subst e;exact I1.fpOk (le_refl _) (I1.hok.fresh (le_refl _))
theorem dt{l:Expr}{tl:TE}(hl:PE X l tl):PI X tg l (rc X.K tl):=by
 intro pins s σ H R I h;refine thn (hl pins s σ H _ I h) λv s1 hpt=>?_;obtain⟨x,H1,I1,r1,q1⟩:=hpt;obtain⟨a,e,⟨xs,hq⟩,q⟩:=q1;subst e;cases r1;obtain⟨its,rv,p,hz⟩:=I1.tuple hq;refine wpAny_pyIter_tuple (show s1.heap.IsTuple a its.toArray from p) ?_;refine⟨s1.heap.objs.size,[s1.heap.objs.size],_,_,H1,rfl,I1.kept (t':=s1.toks) λb o e=>get?_push_of_some _ e,iB a _,⟨_,get?_push_size _ rfl,rfl,rfl⟩,λb hb=>?_,q⟩;have e:b=s1.heap.objs.size:=by simpa using hb
 subst e;exact I1.fpOk (le_refl _) (I1.hok.fresh (le_refl _))
theorem kQ{pins:List (Addr×Obj)}{σ:St}{H:Hp}{s:Shared}{R:It→Hp→Prop}{E:Value→Shared→Prop}{lo hi:Int}{t u v:Tok}{tk:Nat}(I:Inv X pins σ H s)(h1:-(2 ^ 62)≤lo)(h2:lo<2 ^ 62)(h3:-(2 ^ 62)≤hi)(h4:hi<2 ^ 62)(q:R (Itr lo (hi-lo).toNat) H):wpAny (model X.prog X.w) X.A (pyIter (.ref s.heap.objs.size)) (PIE X pins σ tg R) E {s with heap:=s.heap.push {cls:=.type "range",data:=.fields #[.int lo t,.int hi u,.int 1 v]},toks:=tk}:=by
 refine wpAny_pyIter_range (IsRange.new ..) (small_one h1 h2 h3 h4) ?_;have I1:Inv X pins σ H {s with heap:=s.heap.push {cls:=.type "range",data:=.fields #[.int lo t,.int hi u,.int 1 v]},toks:=tk}:=I.kept λb o e=>get?_push_of_some _ e
 refine⟨(s.heap.push {cls:=.type "range",data:=.fields #[.int lo t,.int hi u,.int 1 v]}).objs.size,[(s.heap.push {cls:=.type "range",data:=.fields #[.int lo t,.int hi u,.int 1 v]}).objs.size],_,_,H,rfl,
  I1.kept (t':=tk) λb o e=>get?_push_of_some _ e,iC _ lo (hi-lo).toNat,?_,λb hb=>?_,q⟩
 ·have e1:lo+((0:Nat):Int)*1=lo:=by simp
  have e2:(((hi-lo).toNat:Nat):Int)-((0:Nat):Int)=Builtin.Range.rangeSize lo hi 1:=by rw[rangeSize_one];split<;>omega
  show IsRangeIter _ _ (lo+((0:Nat):Int)*1) ((((hi-lo).toNat:Nat):Int)-((0:Nat):Int)) 1;rw[e1,e2];exact get?_push_size _ rfl
 ·have e:b=(s.heap.push {cls:=.type "range",data:=.fields #[.int lo t,.int hi u,.int 1 v]}).objs.size:=by simpa using hb
  subst e;exact I1.fpOk (le_refl _) (I1.hok.fresh (le_refl _))
def qj(ta:TA):TI:=λσ H R=>ta σ H λvs H1=>∃j:Int,vs=[.int j]∧-(2 ^ 62)≤j∧j<2 ^ 62∧R (Itr 0 j.toNat) H1
theorem fe{a:Expr}{ta:TA}{p pos:Pos}(hg:Gl X "range")(hm:X.mg "range"=none)(ha:PA X [a] ta)(hs:starEach [a] X.env=[(false,eval a X.env)]:=by rfl):PI X tg (.Call (.Name "range" p) [a] [] pos) (qj ta):=by
 intro pins s σ H R I h;refine Call_ (cH I hg hm boot_range (PyProof.Rows.callWith_type1 (thn (ha pos pins s σ H _ I h) λus s1 ⟨vs,H1,I1,r1,q1⟩=>?_) hs rfl));obtain⟨j,e,q1,q2,q⟩:=q1;subst e;cases r1 with
 |cons r rr =>
  cases rr;obtain⟨t,rfl⟩:=r;exact call_range_1 (kQ I1 (by omega) (by omega) q1 q2 (by simpa using q))
def re(wi:TI)(g:TG)(tb:TS):TS:=λD σ H=>wi σ H λJ H1=>∃W:Nat→Nat→St→Hp→Prop,(∃m,W 0 m σ H1)∧∀i m σ H,W i m σ H →
 (J.stop i H∧D.nx σ H)∨(J.go i H∧∃N:St→Hp→Prop,(∀σ' H',N σ' H'→∃m',m'<m∧W (i+1) m' σ' H')∧∀x H',J.yld i H x H'→g x σ H' λσ2 H2=>tb {D with nx:=N,ct:=N,bk:=D.nx} σ2 H2)
def gh(fp:List Addr)(h:Heap):List (Addr×Obj):=fp.filterMap λb=>(h.get? b).map λo=>(b,o)
theorem aC{fp:List Addr}{h:Heap}{b:Addr}{o:Obj}(hb:b∈fp)(e:h.get? b=some o):(b,o)∈gh fp h:=List.mem_filterMap.mpr ⟨b,hb,by rw[e];rfl⟩
theorem jS{fp:List Addr}{h:Heap}{p:Addr×Obj}(hp:p∈gh fp h):p.1∈fp∧h.get? p.1=some p.2:=by
 obtain⟨b,hb,e⟩:=List.mem_filterMap.mp hp;cases q:h.get? b with
 |none=>rw[q]at e;cases e
 |some o =>
  rw[q]at e;have e':(b,o)=p:=Option.some.inj e;subst e';exact⟨hb,q⟩
theorem Inv.pinned{pins:List (Addr×Obj)}{σ:St}{H:Hp}{s:Shared}{fp:List Addr}(I:Inv X pins σ H s)(hf:∀b∈fp,cI X pins H b)(ho:∀b∈fp,∃o,s.heap.get? b=some o∧∀v,o.data≠.cell v):Inv X (pins++gh fp s.heap) σ H s :=
 I.pins_of λp hp=>(mem_append.mp hp).elim (λz=>I.pin p (mem_append_right _ z)) λz=>by
  obtain⟨hb,e⟩:=jS z;obtain⟨f0,f1,f2,_⟩:=hf p.1 hb;obtain⟨o,e',d⟩:=ho p.1 hb;rw[e]at e';cases e';exact⟨e,f0,f1,f2,d⟩
theorem Inv.unpinned{pins pl:List (Addr×Obj)}{σ:St}{H:Hp}{s:Shared}(I:Inv X (pins++pl) σ H s):Inv X pins σ H s:=I.pins_of λp hp=>I.pin p (mem_append_right _ (mem_append_left _ hp))
theorem cr{iter:Expr}{body:List Stmt}{wi:TI}{g:TG}{tb:TS}{pos:Pos}(hp:PassesOwn (model X.prog X.w) X.A X.env X.xe)(hc:X.calm=true)(hi:PI X tg iter wi)(hg:PG X tg g)(hb:PSs X body tb)(hs:∀x,foldedSetIterable iter X.env x=pure x:=by intro _;rfl):PS X (.For tg iter body [] pos) (re wi g tb):=by
 intro pins s σ H D I h;refine wpAny_For (thn (hi pins s σ H _ I h) λv s1 h1=>thn h1 λitv s2 h2=>?_) hs;obtain⟨it,fp,tn,J,H2,e,I2,T,st2,f2,W,⟨m0,w0⟩,turn⟩:=h2;subst e;have stat:∀{H':Hp},(∀b∈fp,H' b=none)→∀b∈fp,cI X pins H' b:=λhn b hb=>⟨hn b hb,(f2 b hb).2⟩;refine codeAny_forLoop_any (λn s'=>∃i σ' H',Inv X pins σ' H' s'∧tn i s'.heap∧(∀b∈fp,H' b=none)∧W i n σ' H') ?_ m0 ⟨0,σ,H2,I2,st2,λb hb=>(f2 b hb).1,w0⟩;rintro n s3 ⟨i,σ3,H3,I3,st3,fr3,w3⟩;rcases turn i n σ3 H3 w3 with⟨stop,qn⟩|⟨go,N,hN,step⟩
 ·refine wpAny_passesOwn hp (thn (T.done X rfl rfl rfl hc i pins s3 σ3 H3 X.xe I3 (stat fr3) st3 stop) λr s4 hpt=>?_);obtain⟨hr,I4⟩:=hpt;subst hr;exact wpAny_execs_nil ⟨σ3,H3,I4,qn⟩
 ·refine wpAny_passesOwn hp (thn (T.item X rfl rfl rfl hc i pins s3 σ3 H3 X.xe I3 (stat fr3) st3 go) λr s4 hpt=>?_);obtain⟨u,hr,h4⟩:=hpt;subst hr;refine wpAny_passesOwn hp (thn h4 λ_ s5 hpt=>?_);obtain⟨x,H5,I5,r5,y5,st5,fr5⟩:=hpt;have I5':=I5.pinned (stat fr5) (T.obj _ _ st5);refine wpAny_passesOwn hp (thn (hg _ s5 σ3 H5 x u _ I5' r5 (step x H5 y5)) λ_ s6 hpt=>?_);obtain⟨σ6,H6,I6,q6⟩:=hpt;refine wpAny_passesOwn hp (thn (hb _ s6 σ6 H6 _ I6 q6) λf s7 q7=>?_);have again:∀{σ7:St}{H7:Hp},Inv X (pins++gh fp s5.heap) σ7 H7 s7→N σ7 H7→∃m,m<n∧∃i σ' H',Inv X pins σ' H' s7∧tn i s7.heap∧(∀b∈fp,H' b=none)∧W i m σ' H':=λ{σ7 H7} I7 n7=>by
   obtain⟨m',hm,w7⟩:=hN σ7 H7 n7;refine⟨m',hm,i+1,σ7,H7,I7.unpinned,T.keep _ _ _ st5 λb hb o e=>(I7.pin (b,o) (mem_append_right _ (mem_append_right _ (aC hb e)))).1,λb hb=>?_,w7⟩;obtain⟨o,e,d⟩:=T.obj _ _ st5 b hb;exact(I7.pin (b,o) (mem_append_right _ (mem_append_right _ (aC hb e)))).2.1
  cases f with
  |next=>obtain⟨σ7,H7,I7,n7⟩:=q7;exact again I7 n7
  |cont=>obtain⟨σ7,H7,I7,n7⟩:=q7;exact again I7 n7
  |brk=>obtain⟨σ7,H7,I7,q7⟩:=q7;exact⟨σ7,H7,I7.unpinned,q7⟩
  |ret v=>obtain⟨x7,σ7,H7,I7,r7,q7⟩:=q7;exact⟨x7,σ7,H7,I7.unpinned,r7,q7⟩
end
theorem gK{K:PySem.W.Frag}{a:Addr}{xs:List V}{g:TG}{tb:TS}{D:Ends}{σ:St}{H:Hp}(Pv:Nat→St→Hp→Prop)(h0:Pv 0 σ H)(hl:∀i σ H,i≤xs.length→Pv i σ H→SqL K H a xs)(hs:∀i x σ H,xs[i]?=some x→Pv i σ H→g x σ H λσ2 H2=>tb {D with nx:=Pv (i+1),ct:=Pv (i+1),bk:=D.nx} σ2 H2)(hd:∀σ H,Pv xs.length σ H→D.nx σ H):
  ∃W:Nat→Nat→St→Hp→Prop,(∃m,W 0 m σ H)∧∀i m σ H,W i m σ H →
   ((Itl K a).stop i H∧D.nx σ H)∨((Itl K a).go i H∧∃N:St→Hp→Prop,(∀σ' H',N σ' H'→∃m',m'<m∧W (i+1) m' σ' H')∧∀x H',(Itl K a).yld i H x H'→g x σ H' λσ2 H2=>tb {D with nx:=N,ct:=N,bk:=D.nx} σ2 H2):=by
 refine⟨λi m σ H=>m=xs.length-i∧i≤xs.length∧Pv i σ H,⟨xs.length,by simp,zero_le _,h0⟩,?_⟩;rintro i m σ H ⟨rfl,hi,p⟩;have q:=hl i σ H hi p
 by_cases hlt:i<xs.length
 ·refine .inr ⟨⟨xs,xs[i],q,by simp[hlt]⟩,Pv (i+1),λσ' H' p'=>⟨xs.length-(i+1),by omega,rfl,hlt,p'⟩,λx H' y=>?_⟩;obtain⟨e,y⟩:=y;subst e;exact hs i x σ _ (y xs q) p
 ·have e:i=xs.length:=by omega
  subst e;exact .inl ⟨⟨xs,q,le_refl _⟩,hd σ H p⟩
theorem jh{K:PySem.W.Frag}{a:Addr}{xs:List V}{g:TG}{tb:TS}{D:Ends}{σ:St}{H:Hp}(Pv:Nat→St→Hp→Prop)(h0:Pv 0 σ H)(hl:∀i σ H,i≤xs.length→Pv i σ H→SqT K H a xs)(hs:∀i x σ H,xs[i]?=some x→Pv i σ H→g x σ H λσ2 H2=>tb {D with nx:=Pv (i+1),ct:=Pv (i+1),bk:=D.nx} σ2 H2)(hd:∀σ H,Pv xs.length σ H→D.nx σ H):
  ∃W:Nat→Nat→St→Hp→Prop,(∃m,W 0 m σ H)∧∀i m σ H,W i m σ H →
   ((Itt K a).stop i H∧D.nx σ H)∨((Itt K a).go i H∧∃N:St→Hp→Prop,(∀σ' H',N σ' H'→∃m',m'<m∧W (i+1) m' σ' H')∧∀x H',(Itt K a).yld i H x H'→g x σ H' λσ2 H2=>tb {D with nx:=N,ct:=N,bk:=D.nx} σ2 H2):=by
 refine⟨λi m σ H=>m=xs.length-i∧i≤xs.length∧Pv i σ H,⟨xs.length,by simp,zero_le _,h0⟩,?_⟩;rintro i m σ H ⟨rfl,hi,p⟩;have q:=hl i σ H hi p
 by_cases hlt:i<xs.length
 ·refine .inr ⟨⟨xs,xs[i],q,by simp[hlt]⟩,Pv (i+1),λσ' H' p'=>⟨xs.length-(i+1),by omega,rfl,hlt,p'⟩,λx H' y=>?_⟩;obtain⟨e,y⟩:=y;subst e;exact hs i x σ _ (y xs q) p
 ·have e:i=xs.length:=by omega
  subst e;exact .inl ⟨⟨xs,q,le_refl _⟩,hd σ H p⟩
theorem ff{lo:Int}{n:Nat}{g:TG}{tb:TS}{D:Ends}{σ:St}{H:Hp}(Pv:Nat→St→Hp→Prop)(h0:Pv 0 σ H)(hs:∀i σ H,i<n→Pv i σ H→g (.int (lo+i)) σ H λσ2 H2=>tb {D with nx:=Pv (i+1),ct:=Pv (i+1),bk:=D.nx} σ2 H2)(hd:∀σ H,Pv n σ H→D.nx σ H):
  ∃W:Nat→Nat→St→Hp→Prop,(∃m,W 0 m σ H)∧∀i m σ H,W i m σ H →
   ((Itr lo n).stop i H∧D.nx σ H)∨((Itr lo n).go i H∧∃N:St→Hp→Prop,(∀σ' H',N σ' H'→∃m',m'<m∧W (i+1) m' σ' H')∧∀x H',(Itr lo n).yld i H x H'→g x σ H' λσ2 H2=>tb {D with nx:=N,ct:=N,bk:=D.nx} σ2 H2):=by
 refine⟨λi m σ H=>m=n-i∧i≤n∧Pv i σ H,⟨n,by simp,zero_le _,h0⟩,?_⟩;rintro i m σ H ⟨rfl,hi,p⟩
 by_cases hlt:i<n
 ·refine .inr ⟨hlt,Pv (i+1),λσ' H' p'=>⟨n-(i+1),by omega,rfl,hlt,p'⟩,λx H' y=>?_⟩;obtain⟨e,y⟩:=y;subst e y;exact hs i σ _ hlt p
 ·have e:i=n:=by omega
  subst e;exact .inl ⟨le_refl _,hd σ H p⟩
theorem cT{c:TT}{tb:TS}{D:Ends}{σ:St}{H:Hp}(Pv:St→Hp→Prop)(μ:St→Hp→Nat)(h0:Pv σ H)(hs:∀σ H,Pv σ H→c σ H λb H1=>if b=true then tb {D with nx:=λσ' H'=>Pv σ' H'∧μ σ' H'<μ σ H,ct:=λσ' H'=>Pv σ' H'∧μ σ' H'<μ σ H,bk:=D.nx} σ H1 else D.nx σ H1)(mono:∀σ H Q Q',(∀b H1,Q b H1→Q' b H1)→c σ H Q→c σ H Q'):kJ c tb D σ H:=by
 refine⟨λm σ H=>m=μ σ H∧Pv σ H,⟨_,rfl,h0⟩,?_⟩;rintro m σ H ⟨rfl,p⟩;refine mono σ H _ _ (λb H1 q=>?_) (hs σ H p);cases b with
 |true=>exact⟨_,λσ' H' ⟨p',l⟩=>⟨_,l,rfl,p'⟩,q⟩
 |false=>exact q
abbrev R2:=V→V→Hp→VK→Prop
def OpR(X:Cx)(f:Value→Value→Sem Value)(r:R2):Prop :=
 ∀(pins:List (Addr×Obj))(s:Shared)(σ:St)(H:Hp)(x y:V)(v u:Value)(Q:VK),Inv X pins σ H s→aq x v→aq y u→r x y H Q →
  wpAny (model X.prog X.w) X.A (f v u) (EP X pins σ Q) X.xe s
def bw(X:Cx)(f:Value)(r:List V→Hp→VK→Prop):Prop :=
 ∀(pins:List (Addr×Obj))(s:Shared)(σ:St)(H:Hp)(xs:List V)(us:List Value)(Q:VK),Inv X pins σ H s→ao xs us→r xs H Q →
  wpAny (model X.prog X.w) X.A (call f us) (EP X pins σ Q) X.xe s
def rf(X:Cx)(r:V→Hp→(Bool→Hp→Prop)→Prop):Prop :=
 ∀(pins:List (Addr×Obj))(s:Shared)(σ:St)(H:Hp)(x:V)(v:Value)(Q:Bool→Hp→Prop),Inv X pins σ H s→aq x v→r x H Q →
  wpAny (model X.prog X.w) X.A (truthy v) (TP X pins σ Q) X.xe s
def tOp(r:R2)(ta tb:TE):TE:=λσ H Q=>ta σ H λx H1=>tb σ H1 λy H2=>r x y H2 Q
def rI(C:Int→Int→Prop)(g:Int→Int→V):R2:=λx y H Q=>∃i j,x=.int i∧y=.int j∧C i j∧Q (g i j) H
def rI0(g:Int→Int→V):R2:=λx y H Q=>∃i j,x=.int i∧y=.int j∧Q (g i j) H
section
variable{X:Cx}{a b c:Expr}{ta tb tc:TE}{pos:Pos}
theorem oH(ha:PE X a ta)(hb:PE X b tb){pins:List (Addr×Obj)}{s:Shared}{σ:St}{H:Hp}{R:V→V→Hp→Prop}(I:Inv X pins σ H s)(h:ta σ H λx H1=>tb σ H1 λy H2=>R x y H2){Q:Value→Shared→Prop}{f:Value→Value→Sem Value}(hf:∀v u s2 x y H2,Inv X pins σ H2 s2→aq x v→aq y u→R x y H2→wpAny (model X.prog X.w) X.A (f v u) Q X.xe s2):
  wpAny (model X.prog X.w) X.A (eval a X.env) (λv s₁=>wpAny (model X.prog X.w) X.A (eval b X.env) (λu s₂=>wpAny (model X.prog X.w) X.A (f v u) Q X.xe s₂) X.xe s₁) X.xe s:=by
 refine thn (ha pins s σ H _ I h) λv s1 hpt=>?_;obtain⟨x,H1,I1,r1,q1⟩:=hpt;refine thn (hb pins s1 σ H1 _ I1 q1) λu s2 hpt=>?_;obtain⟨y,H2,I2,r2,q2⟩:=hpt;exact hf v u s2 x y H2 I2 r1 r2 q2
theorem aB{op:Operator}{r:R2}(ho:OpR X (binaryOp op) r)(ha:PE X a ta)(hb:PE X b tb):PE X (.BinOp a op b pos) (tOp r ta tb):=by
 intro pins s σ H Q I h;exact wpAny_BinOp (oH ha hb I h λv u s2 x y H2 I2 rx ry q=>ho pins s2 σ H2 x y v u Q I2 rx ry q)
theorem opI{f:Value→Value→Sem Value}{C:Int→Int→Prop}{g:Int→Int→Int}(rule:∀(i j:Int) (t u:Tok) (s:Shared) (Q:Value→Shared→Prop) (E:Value→Shared→Prop),C i j→Q (.int (g i j) s.toks) {s with toks:=s.toks+1}→wpAny (model X.prog X.w) X.A (f (.int i t) (.int j u)) Q E s):
  OpR X f (rI C λi j=>.int (g i j)):=by
 intro pins s σ H x y v u Q I rx ry h;obtain⟨i,j,rfl,rfl,hc,q⟩:=h;obtain⟨t,rfl⟩:=rx;obtain⟨t',rfl⟩:=ry;exact rule i j t t' s _ _ hc ⟨.int (g i j),H,I.tok _,⟨_,rfl⟩,q⟩
theorem qk{f:Value→Value→Sem Value}{g:Int→Int→Int}(rule:∀(i j:Int) (t u:Tok) (s:Shared) (Q:Value→Shared→Prop) (E:Value→Shared→Prop),Q (.int (g i j) s.toks) {s with toks:=s.toks+1}→wpAny (model X.prog X.w) X.A (f (.int i t) (.int j u)) Q E s):
  OpR X f (rI0 λi j=>.int (g i j)):=by
 intro pins s σ H x y v u Q I rx ry h;obtain⟨i,j,rfl,rfl,q⟩:=h;obtain⟨t,rfl⟩:=rx;obtain⟨t',rfl⟩:=ry;exact rule i j t t' s _ _ ⟨.int (g i j),H,I.tok _,⟨_,rfl⟩,q⟩
theorem oJ{f:Value→Value→Sem Value}{g:Int→Int→Bool}(rule:∀(i j:Int) (t u:Tok) (s:Shared) (Q:Value→Shared→Prop) (E:Value→Shared→Prop),Q (.bool (g i j)) s→wpAny (model X.prog X.w) X.A (f (.int i t) (.int j u)) Q E s):
  OpR X f (rI0 λi j=>.bl (g i j)):=by
 intro pins s σ H x y v u Q I rx ry h;obtain⟨i,j,rfl,rfl,q⟩:=h;obtain⟨t,rfl⟩:=rx;obtain⟨t',rfl⟩:=ry;exact rule i j t t' s _ _ ⟨.bl (g i j),H,I,rfl,q⟩
def rg(i j:Int):Prop:=0<j∧j<1073741824
def oK(i j:Int):Prop:=(-(2 ^ 64)<i∧i<2 ^ 64)∨(-(2 ^ 64)<j∧j<2 ^ 64)
theorem oK.ok{i j:Int}(h:oK i j):IntMulOk i j:=by
 rcases h with⟨h1,h2⟩|⟨h1,h2⟩
 ·exact .of_left (intBits_le_64 h1 h2)
 ·exact .of_right (intBits_le_64 h1 h2)
theorem aR:OpR X (binaryOp .Add) (rI0 λi j=>.int (i+j)):=qk λ_ _ _ _ _ _ _ q=>add_int q
theorem ce:OpR X (binaryOp .Mult) (rI oK λi j=>.int (i*j)):=opI λ_ _ _ _ _ _ _ hc q=>mul_int q hc.ok
theorem mG:OpR X (binaryOp .FloorDiv) (rI rg λi j=>.int (i / j)):=opI λi j _ _ _ _ _ hc q=>by
 have h1:(0:Int)<j:=hc.1;have h2:j<1073741824:=hc.2;exact floordiv_int (by omega) (by rw[Int.fdiv_eq_ediv_of_nonneg i (by omega)];exact q) (.inl (PyProof.noPylong_small (by omega)))
theorem gk:OpR X (binaryOp .Mod) (rI (λ_ j=>0<j) λi j=>.int (i % j)):=opI λi j _ _ _ _ _ hc q=>by
 have h1:(0:Int)<j:=hc;exact mod_int' (by omega) (by rw[Int.fmod_eq_emod_of_nonneg i (by omega)];exact q)
theorem mH:OpR X (inplaceOp .Add) (rI0 λi j=>.int (i+j)):=qk λ_ _ _ _ _ _ _ q=>iadd_int q
end
def ql:V→V→Bool
 |.non,.non=>true | .non,.int _=>true | .int _,.non=>true | .non,.bl _=>true | .bl _,.non=>true | .non,.str _=>true | .str _,.non=>true
 |.int _,.int _=>true | .bl _,.bl _=>true | .str _,.str _=>true | .byt _,.byt _=>true
 |.int _,.str _=>true | .str _,.int _=>true | .bl _,.str _=>true | .str _,.bl _=>true
 |_,_=>false
def rEq:R2:=λx y H Q=>ql x y=true∧Q (.bl (decide (x=y))) H
def rNe:R2:=λx y H Q=>ql x y=true∧Q (.bl (!decide (x=y))) H
theorem ji{i j:Int}:decide (V.int i=V.int j)=(i==j):=by
 rw[Bool.eq_iff_iff];simp
theorem kR{i j:Bool}:decide (V.bl i=V.bl j)=(i==j):=by
 rw[Bool.eq_iff_iff];simp
theorem jj{i j:Str}:decide (V.str i=V.str j)=(i==j):=by
 rw[Bool.eq_iff_iff];simp
theorem jk{i j:Array UInt8}:decide (V.byt i=V.byt j)=(i.toList==j.toList):=by
 rw[Bool.eq_iff_iff];cases i;cases j;simp
section
variable{X:Cx}{a b c:Expr}{ta tb tc:TE}{pos:Pos}
theorem ax{pins:List (Addr×Obj)}{σ:St}{H:Hp}{s:Shared}{Q:VK}{k k':Bool}(I:Inv X pins σ H s)(q:Q (.bl k) H)(e:k=k'):EP X pins σ Q (.bool k') s:=by
 subst e;exact⟨.bl k,H,I,rfl,q⟩
theorem nY:OpR X (compareOp .Eq) rEq:=by
 intro pins s σ H x y v u Q I rx ry h;obtain⟨hs,q⟩:=h;cases x with
 |non =>
  cases rx;cases y with
  |non=>cases ry;exact PySem.EqNone.eq_none_none (ax I q (by simp))
  |bl j=>cases ry;exact PySem.EqNone.eq_none_bool (ax I q (by simp))
  |int j=>obtain⟨t',rfl⟩:=ry;exact PySem.EqNone.eq_none_int (ax I q (by simp))
  |str j=>obtain⟨t',rfl⟩:=ry;exact PySem.EqNone.eq_none_str (ax I q (by simp))
  |_=>exact absurd (show false=true from hs) Bool.false_ne_true
 |bl i =>
  cases rx;cases y with
  |non=>cases ry;exact PySem.EqNone.eq_bool_none (ax I q (by simp))
  |bl j=>cases ry;exact eq_bool (ax I q kR)
  |str j=>obtain⟨t',rfl⟩:=ry;exact PySem.EqMixed.eq_bool_str (ax I q (by simp))
  |_=>exact absurd (show false=true from hs) Bool.false_ne_true
 |int i =>
  obtain⟨t,rfl⟩:=rx;cases y with
  |non=>cases ry;exact PySem.EqNone.eq_int_none (ax I q (by simp))
  |int j=>obtain⟨t',rfl⟩:=ry;exact eq_int (ax I q ji)
  |str j=>obtain⟨t',rfl⟩:=ry;exact PySem.EqMixed.eq_int_str (ax I q (by simp))
  |_=>exact absurd (show false=true from hs) Bool.false_ne_true
 |str i =>
  obtain⟨t,rfl⟩:=rx;cases y with
  |non=>cases ry;exact PySem.EqNone.eq_str_none (ax I q (by simp))
  |bl j=>cases ry;exact PySem.EqMixed.eq_str_bool (ax I q (by simp))
  |int j=>obtain⟨t',rfl⟩:=ry;exact PySem.EqMixed.eq_str_int (ax I q (by simp))
  |str j=>obtain⟨t',rfl⟩:=ry;exact eq_str (ax I q jj)
  |_=>exact absurd (show false=true from hs) Bool.false_ne_true
 |byt i =>
  obtain⟨t,rfl⟩:=rx;cases y with
  |byt j=>obtain⟨t',rfl⟩:=ry;exact PySem.W.eq_bytes (ax I q jk)
  |_=>exact absurd (show false=true from hs) Bool.false_ne_true
 |_=>cases y<;>exact absurd (show false=true from hs) Bool.false_ne_true
theorem bQ:OpR X (compareOp .NotEq) rNe:=by
 intro pins s σ H x y v u Q I rx ry h;obtain⟨hs,q⟩:=h;cases x with
 |non =>
  cases rx;cases y with
  |non=>cases ry;exact PySem.EqNone.ne_none_none (ax I q (by simp))
  |bl j=>cases ry;exact PySem.EqNone.ne_none_bool (ax I q (by simp))
  |int j=>obtain⟨t',rfl⟩:=ry;exact PySem.EqNone.ne_none_int (ax I q (by simp))
  |str j=>obtain⟨t',rfl⟩:=ry;exact PySem.EqNone.ne_none_str (ax I q (by simp))
  |_=>exact absurd (show false=true from hs) Bool.false_ne_true
 |bl i =>
  cases rx;cases y with
  |non=>cases ry;exact PySem.EqNone.ne_bool_none (ax I q (by simp))
  |bl j=>cases ry;exact ne_bool (ax I q (congrArg not kR))
  |str j=>obtain⟨t',rfl⟩:=ry;exact PySem.EqMixed.ne_bool_str (ax I q (by simp))
  |_=>exact absurd (show false=true from hs) Bool.false_ne_true
 |int i =>
  obtain⟨t,rfl⟩:=rx;cases y with
  |non=>cases ry;exact PySem.EqNone.ne_int_none (ax I q (by simp))
  |int j=>obtain⟨t',rfl⟩:=ry;exact ne_int (ax I q (congrArg not ji))
  |str j=>obtain⟨t',rfl⟩:=ry;exact PySem.EqMixed.ne_int_str (ax I q (by simp))
  |_=>exact absurd (show false=true from hs) Bool.false_ne_true
 |str i =>
  obtain⟨t,rfl⟩:=rx;cases y with
  |non=>cases ry;exact PySem.EqNone.ne_str_none (ax I q (by simp))
  |bl j=>cases ry;exact PySem.EqMixed.ne_str_bool (ax I q (by simp))
  |int j=>obtain⟨t',rfl⟩:=ry;exact PySem.EqMixed.ne_str_int (ax I q (by simp))
  |str j=>obtain⟨t',rfl⟩:=ry;exact ne_str (ax I q (congrArg not jj))
  |_=>exact absurd (show false=true from hs) Bool.false_ne_true
 |byt i =>
  obtain⟨t,rfl⟩:=rx;cases y with
  |byt j=>obtain⟨t',rfl⟩:=ry;exact PySem.W.ne_bytes (ax I q (congrArg not jk))
  |_=>exact absurd (show false=true from hs) Bool.false_ne_true
 |_=>cases y<;>exact absurd (show false=true from hs) Bool.false_ne_true
theorem qm:OpR X (compareOp .Lt) (rI0 λi j=>.bl (decide (i<j))):=oJ λ_ _ _ _ _ _ _ q=>lt_int q
theorem qo:OpR X (compareOp .Gt) (rI0 λi j=>.bl (decide (j<i))):=oJ λ_ _ _ _ _ _ _ q=>gt_int q
theorem qp:OpR X (compareOp .GtE) (rI0 λi j=>.bl (decide (j≤i))):=oJ λ_ _ _ _ _ _ _ q=>ge_int q
theorem kW:OpR X (compareOp .Is) (λx y H Q=>y=.non∧Q (.bl (decide (x=.non))) H):=by
 intro pins s σ H x y v u Q I rx ry h;obtain⟨rfl,q⟩:=h;cases ry;refine is_none_gen (ax I q ?_);cases x<;>first
  |(cases rx;rfl)
  |(obtain⟨t,rfl⟩:=rx;rfl)
theorem mJ:OpR X (compareOp .IsNot) (λx y H Q=>y=.non∧Q (.bl (!decide (x=.non))) H):=by
 intro pins s σ H x y v u Q I rx ry h;obtain⟨rfl,q⟩:=h;cases ry;refine isnot_none_gen (ax I q ?_);cases x<;>first
  |(cases rx;rfl)
  |(obtain⟨t,rfl⟩:=rx;rfl)
theorem aF(b:Expr){op:CmpOp}(h:op≠.In:=by decide)(h2:op≠.NotIn:=by decide):behindInMarks op b=false:=by
 have e1:(op==CmpOp.In)=false:=by cases op<;>first|rfl|exact absurd rfl h
 have e2:(op==CmpOp.NotIn)=false:=by cases op<;>first|rfl|exact absurd rfl h2
 cases b<;>simp[behindInMarks,e1,e2]
theorem mO{op:CmpOp}{r:R2}(ho:OpR X (compareOp op) r)(ha:PE X a ta)(hb:PE X b tb)(hm:behindInMarks op b=false):PE X (.Compare a [op] [b] pos) (tOp r ta tb):=by
 intro pins s σ H Q I h;exact wpAny_Compare1 (oH ha hb I h λv u s2 x y H2 I2 rx ry q=>ho pins s2 σ H2 x y v u Q I2 rx ry q) hm
def qr(t:TE):TT:=λσ H Q=>t σ H λx H'=>∃k,x=.bl k∧Q k H'
theorem aw{op:CmpOp}{r:R2}(ho:OpR X (compareOp op) r)(ha:PE X a ta)(hb:PE X b tb)(hm:behindInMarks op b=false):PT X (.Compare a [op] [b] pos) (qr (tOp r ta tb)):=by
 intro pins s σ H Q I h;refine wpAny_isTrue_Compare1 (thn (ha pins s σ H _ I h) λv s1 ⟨x,H1,I1,r1,q1⟩=>thn (hb pins s1 σ H1 _ I1 q1) λu s2 ⟨y,H2,I2,r2,q2⟩ =>
  thn (ho pins s2 σ H2 x y v u _ I2 r1 r2 q2) λc s3 ⟨z,H3,I3,r3,k,e,q3⟩=>?_) hm
 subst e;cases r3;exact wpAny_truthy_bool ⟨H3,I3,q3⟩
def qt(K:PySem.W.Frag)(x:V)(H:Hp)(k:Bool):Prop :=
 match x with
 |.non=>k=false
 |.bl b=>k=b
 |.int i=>k=(i != 0)
 |.str y=>y.length≤sizeLine∧k=((y.length:Int) != 0)
 |.byt y=>y.size≤sizeLine∧k=((y.size:Int) != 0)
 |.ref p=>(∃xs,SqL K H p xs∧k = !xs.isEmpty)∨(∃xs,SqT K H p xs∧k = !xs.isEmpty)∨∃kvs,H p=some (.dK kvs)∧k = !kvs.isEmpty
 |_=>False
theorem iD{κ:Type}{kvs:List (κ×V)}{vs:List (κ×Value)}(r:KV kvs vs):(!vs.isEmpty) = !kvs.isEmpty:=by
 cases r<;>rfl
theorem dW{xs:List V}{its:List Value}(r:ao xs its):(!its.toArray.isEmpty) = !xs.isEmpty:=by
 cases r<;>simp
theorem gl:(sizeLine:Nat)<2 ^ 63:=by rw[sizeLine_eq];decide
theorem oM:rf X (λx H Q=>∃k,qt X.K x H k∧Q k H):=by
 intro pins s σ H x v Q I rx h;obtain⟨k,e,q⟩:=h;have hl:=gl;have hs:sizeLine=16777216:=sizeLine_eq;cases x with
 |non =>
  cases rx;have e':k=false:=e;subst e';exact truthy_none ⟨H,I,q⟩
 |bl b =>
  cases rx;have e':k=b:=e;subst e';exact wpAny_truthy_bool ⟨H,I,q⟩
 |int i =>
  obtain⟨t,rfl⟩:=rx;have e':k=(i != 0):=e;subst e';exact PySem.P.truthy_int ⟨H,I,q⟩
 |str y =>
  obtain⟨t,rfl⟩:=rx;obtain⟨hy,e'⟩:y.length≤sizeLine∧k=((y.length:Int) != 0):=e;subst e';exact PySem.P.truthy_str (by omega) ⟨H,I.tok _,q⟩
 |byt y =>
  obtain⟨t,rfl⟩:=rx;obtain⟨hy,e'⟩:y.size≤sizeLine∧k=((y.size:Int) != 0):=e;subst e';exact PySem.W.truthy_bytes (by omega) ⟨H,I.tok _,q⟩
 |ref p =>
  cases rx;have e':(∃xs,SqL X.K H p xs∧k = !xs.isEmpty)∨(∃xs,SqT X.K H p xs∧k = !xs.isEmpty)∨∃kvs,H p=some (.dK kvs)∧k = !kvs.isEmpty:=e;rcases e' with⟨xs,hx,e'⟩|⟨xs,hx,e'⟩|⟨kvs,hx,e'⟩
  ·subst e';obtain⟨its,r,pl,hz⟩:=I.list hx;have hlen:=r.length;exact wpAny_truthy_list pl.isList (by simp only[size_toArray];omega) ⟨H,I.tok _,by rw[dW r];exact q⟩
  ·subst e';obtain⟨its,r,pl,hz⟩:=I.tuple hx;have hlen:=r.length;exact truthy_tuple pl (by simp only[size_toArray];omega) ⟨H,I.tok _,by rw[dW r];exact q⟩
  ·subst e';obtain⟨hz,hS,vs,r,m⟩:kvs.length≤sizeLine∧(p==sysModules)=false∧∃vs,KV kvs vs∧s.heap.DictOf (am X.prog X.w) p vs:=I.hok p _ hx;have hlen:kvs.length=vs.length:=Paired.length r;exact wpAny_truthy_dict hS m (by omega) ⟨H,I.tok _,by rw[iD r];exact q⟩
 |_=>exact(show False from e).elim
theorem kX(ha:PE X a ta)(he:∀whole,isTrue a X.env whole=(do let v ← whole;standAt a.pos;holding [v] (truthy v))):
  PT X a (λσ H Q=>ta σ H λx H'=>∃k,qt X.K x H' k∧Q k H'):=by
 intro pins s σ H Q I h;exact isTrue_plain (thn (ha pins s σ H _ I h) λv s1 ⟨x,H1,I1,r1,q1⟩=>oM pins s1 σ H1 x v Q I1 r1 q1) (he _)
theorem cF{x:V}{us:List Value}(r:ao [x] us):∃u,us=[u]∧aq x u:=by
 cases r with
 |cons r1 r2=>cases r2;exact⟨_,rfl,r1⟩
theorem kY{x y:V}{us:List Value}(r:ao [x,y] us):∃u w',us=[u,w']∧aq x u∧aq y w':=by
 cases r with
 |cons r1 r2 =>
  cases r2 with
  |cons r3 r4=>cases r4;exact⟨_,_,rfl,r1,r3⟩
theorem fg(hc:X.calm=true):bw X (.builtin "min") (λxs H Q=>∃i j,xs=[.int i,.int j]∧Q (.int (if j<i then j else i)) H):=by
 intro pins s σ H xs us Q I r h;obtain⟨i,j,rfl,q⟩:=h;obtain⟨u,w',rfl,⟨t,rfl⟩,⟨t',rfl⟩⟩:=kY r;refine min_two_ints (I.ok.hd hc) λh' tk k=>⟨_,H,I.kept k,?_,q⟩
 by_cases hj:j<i
 ·rw[if_pos hj,if_pos hj];exact⟨_,rfl⟩
 ·rw[if_neg hj,if_neg hj];exact⟨_,rfl⟩
end
section
variable{prog:Program}{w:World}{A:Around}{E:Value→Shared→Prop}{s:Shared}{K:PySem.W.Frag}{x dx C f:Addr}{mA:Str→Option Value}{name:Str}{v:Value}
end
theorem cD.some_of{v:V}{o:Option Value}(r:cD (some v) o):∃u,o=some u∧aq v u:=by
 cases o with
 |none=>exact(show False from r).elim
 |some u=>exact⟨u,rfl,r⟩
theorem cD.none_of{o:Option Value}(r:cD none o):o=none:=by
 cases o with
 |none=>rfl
 |some u=>exact(show False from r).elim
section
variable{P:Program}{w:World}{H H':Hp}{h h':Heap}{a C dx:Addr}{fs fs':List (Str×V)}
end
section
variable{X:Cx}{pins:List (Addr×Obj)}{σ:St}{H:Hp}{s:Shared}{a C dx:Addr}{fs:List (Str×V)}{f:Str}{v:V}{A:Around}{E:Value→Shared→Prop}
end
section
variable{X:Cx}{o e value:Expr}{f:Str}{pos pos' tpos:Pos}{ta tv:TE}
end
section
variable{X:Cx}{pins:List (Addr×Obj)}{σ:St}{H:Hp}{s:Shared}{A:Around}{E:Value→Shared→Prop}{Q:Value→Shared→Prop}{c:Value}{b:Bool}
end
structure Room(k:Nat)(A:Around):Prop where
 hd:A.handled=none
 dp:A.depth+3*k+5<recursionLimit
 un:A.units+16*k+200<cLine
theorem Room.mono{j k:Nat}{A:Around}(r:Room k A)(h:j≤k):Room j A:=⟨r.hd,by have:=r.dp;omega,by have:=r.un;omega⟩
theorem Room.deeper{k:Nat}{A:Around}(r:Room (k+1) A)(env:Env):Room k (A.deeper env) :=
 ⟨r.hd,by have:=r.dp;show A.depth+1+3*k+5<_;omega,by have:=r.un;show A.units+3+16*k+200<_;omega⟩
theorem Room.in1{k:Nat}{A:Around}(r:Room (k+1) A):Room k A.in1 :=
 ⟨r.hd,by have:=r.dp;show A.depth+3*k+5<_;omega,by have:=r.un;show A.units+1+16*k+200<_;omega⟩
theorem Room.depth{k:Nat}{A:Around}(r:Room k A):A.depth<recursionLimit:=by have:=r.dp;omega
theorem Room.units{k:Nat}{A:Around}(r:Room k A):A.units+64<cLine:=by have:=r.un;omega
theorem Room.units0{k:Nat}{A:Around}(r:Room k A):A.units<cLine:=by have:=r.un;omega
def iE:TA:=λ_ H Q=>Q [] H
def dB(ta:TE)(tr:TA):TA:=λσ H Q=>ta σ H λx H1=>tr σ H1 λxs H2=>Q (x::xs) H2
section
variable{X:Cx}{e:Expr}{es:List Expr}{te:TE}{t:TA}{pos:Pos}
theorem ae:PA X [] iE:=λ_ _ _ _ H Q I h=>spliced_nil ⟨[],H,I,.nil,h⟩
theorem aa(ha:PE X e te)(hr:PA X es t)(hs:starEach (e::es) X.env=(false,eval e X.env)::starEach es X.env:=by rfl):PA X (e::es) (dB te t):=by
 intro pos pins s σ H Q I h;rw[hs];show wpAny _ _ (spliced ((false,eval e X.env)::backTo pos (starEach es X.env))) _ _ s;refine spliced_cons (thn (ha pins s σ H _ I h) λu s1 hpt=>?_);obtain⟨x,H1,I1,r1,q1⟩:=hpt;exact thn (hr pos pins s1 σ H1 _ I1 q1) λus s2 ⟨xs,H2,I2,r2,q2⟩=>⟨x::xs,H2,I2,.cons r1 r2,q2⟩
def rh(t:TA):TE:=λσ H Q=>t σ H λxs H1=>xs.length≤sizeLine∧∀p,H1 p=none→Q (.ref p) (upd H1 p (.tup xs))
def ri(t:TA):TE:=λσ H Q=>t σ H λxs H1=>xs.length≤sizeLine∧∀p,H1 p=none→Q (.ref p) (upd H1 p (.lst xs))
theorem cf{x1}(h:PA X es t):PE X (.Tuple es x1 pos) (rh t):=by
 intro pins s σ H Q I hq;refine wpAny_Tuple_spliced (thn (h pos pins s σ H _ I hq) λus s1 ⟨xs,H1,I1,r,z,q⟩=>⟨by rw[←r.length];exact z,?_⟩);have hf:H1 s1.heap.objs.size=none:=I1.hok.fresh (le_refl _);refine⟨.ref s1.heap.objs.size,upd H1 s1.heap.objs.size (.tup xs),I1.laid (t':=s1.toks) (λb u e=>get?_push_of_some _ e) (le_refl _) ?_,rfl,q _ hf⟩;exact⟨z,us,r,⟨_,get?_push_size _ rfl,rfl,_,rfl⟩⟩
theorem aX(h:PA X es t):PE X (.List es pos) (ri t):=by
 intro pins s σ H Q I hq;refine wpAny_List_spliced (thn (h pos pins s σ H _ I hq) λus s1 ⟨xs,H1,I1,r,z,q⟩=>⟨by rw[←r.length];exact z,?_⟩);have hf:H1 s1.heap.objs.size=none:=I1.hok.fresh (le_refl _);refine⟨.ref s1.heap.objs.size,upd H1 s1.heap.objs.size (.lst xs),I1.laid (t':=s1.toks) (λb u e=>get?_push_of_some _ e) (le_refl _) ?_,rfl,q _ hf⟩;exact⟨z,us,0,r,get?_push_size _ rfl⟩
end
abbrev Sp:=List V→Hp→VK→XK→Prop
abbrev CXT:=List Env→Hp→Shared→XK→Value→Shared→Prop
structure Env0(P:Program)(w:World)(K:PySem.W.Frag)(mg:Str→Option Value)(base:Heap)(A:Around)(outer:List Env)(s:Shared)(H:Hp):Prop where
 frames:A.frames=some outer
 mod:Mod K mg base
 bs:∀b o,base.get? b=some o→s.heap.get? b=some o∧H b=none
 bsz:base.objs.size≤s.heap.objs.size
 funs:s.heap.FunFrames base outer
 frf:∀b∈frs outer,H b=none
 hok:HOk P w H s.heap
 bare:AllBare s.gens
def CE(outer:List Env)(P:Program)(w:World)(H:Hp)(s:Shared)(Q:VK)(u:Value)(s':Shared):Prop :=
 ∃v H',s'.os=s.os∧AllBare s'.gens∧Un (frs outer) [] H H' s.heap s'.heap∧HOk P w H' s'.heap∧aq v u∧Q v H'
def CR(CX:CXT)(outer:List Env)(P:Program)(w:World)(H:Hp)(s:Shared)(Q:VK)(E:XK)(r:Result)(s':Shared):Prop :=
 match r with
 |.ok (.ret u)=>CE outer P w H s Q u s'
 |.ok _=>False
 |.error e=>CX outer H s E e s'
structure FnOk(P:Program)(w:World)(K:PySem.W.Frag)(mg:Str→Option Value)(base:Heap)(CX:CXT)(k:Nat)(f:Addr)(fd:FuncData)(ps:List Str)(sp:Sp):Prop where
 len:∀vs H Q E,sp vs H Q E→vs.length=ps.length
 run:∀(A:Around)(outer:List Env)(s:Shared)(H:Hp)(args:Args)(us:List Value)(vs:List V)(Q:VK)(E:XK),Room k A→Env0 P w K mg base A outer s H→BindsTo s fd args (ps.zip us)→ao vs us→sp vs H Q E →
  codeAny (model P w) A (.call (.ref f) args) (CR CX outer P w H s Q E) s
theorem Env0.in1{P:Program}{w:World}{K:PySem.W.Frag}{mg:Str→Option Value}{base:Heap}{A:Around}{outer:List Env}{s:Shared}{H:Hp}(e:Env0 P w K mg base A outer s H):
  Env0 P w K mg base A.in1 outer s H:=⟨e.frames,e.mod,e.bs,e.bsz,e.funs,e.frf,e.hok,e.bare⟩
section
variable{X:Cx}{pins:List (Addr×Obj)}{σ:St}{H:Hp}{s s':Shared}
theorem Inv.env0(I:Inv X pins σ H s):Env0 X.prog X.w X.K X.mg X.base X.A X.stack s H :=
 ⟨I.ok.frames,I.ok.mod,I.bs,le_trans I.ok.bsz I.sz,I.stack,I.stkFree,I.hok,I.bare⟩
theorem Inv.after{Q:VK}{u:Value}(I:Inv X pins σ H s)(h:CE X.stack X.prog X.w H s Q u s'):EP X pins σ Q u s':=by
 obtain⟨v,H',os,bare,un,hok,r,q⟩:=h;obtain⟨hh,g,d,t,os'⟩:=s';obtain rfl:os'=s.os:=os;exact⟨v,H',I.call (h':=hh) (g':=g) (d':=d) (t':=t) (ch:=[]) un hok bare (λb z=>absurd z (by simp)),r,q⟩
end
def nZ(sp:Sp)(dvs:List V)(E:XK)(t:TA):TE:=λσ H Q=>t σ H λvs H1=>sp (vs++dvs) H1 Q E
def bx(K:PySem.W.Frag)(fd:FuncData)(ps:List Str)(ds:List Value):Prop :=
 ∀(s:Shared)(us:List Value),K.In s.heap→(us++ds).length=ps.length→BindsTo s fd ⟨us,[]⟩ (ps.zip (us++ds))
theorem bx.all{K:PySem.W.Frag}{fd:FuncData}{ps:List Str}(h:∀us:List Value,us.length=ps.length→bindArgs fd ⟨us,[]⟩=pure (ps.zip us)):bx K fd ps []:=λs us _ hl=>by
 rw[append_nil]at hl⊢;exact .of_eq (h us hl)
def dX(CX:CXT)(X:Cx)(E:XK):Prop:=∀(pins:List (Addr×Obj))(σ:St)(H:Hp)(s:Shared)(e:Value)(s':Shared),Inv X pins σ H s→CX X.stack H s E e s'→X.xe e s'
section
variable{X:Cx}{CX:CXT}{k:Nat}{f C:Addr}{fd:FuncData}{ps:List Str}{sp:Sp}{dvs:List V}{ds:List Value}{E:XK}{x m:Str}{p pos apos:Pos}{e o:Expr}{es:List Expr}{ta:TE}{t:TA}
theorem oN{pins:List (Addr×Obj)}{σ:St}{H:Hp}{s:Shared}{Q:VK}{us:List Value}{vs:List V}(F:FnOk X.prog X.w X.K X.mg X.base CX k f fd ps sp)(hr:Room k X.A)(hb:bx X.K fd ps ds)(hd:ao dvs ds)(hx:dX CX X E)(I:Inv X pins σ H s)(r:ao vs us)(h:sp (vs++dvs) H Q E):wpAny (model X.prog X.w) X.A (call (.ref f) us) (EP X pins σ Q) X.xe s:=by
 have r2:ao (vs++dvs) (us++ds):=r.append hd;have hl:(us++ds).length=ps.length:=by rw[←r2.length];exact F.len _ _ _ _ h
 refine wpAny_call (codeAny_mono (F.run X.A X.stack s H ⟨us,[]⟩ (us++ds) (vs++dvs) Q E hr I.env0 (hb s us I.kIn hl) r2 h) λr s' hq=>?_);cases r with
 |error e=>exact hx pins σ H s e s' I hq
 |ok fl =>
  cases fl with
  |ret u=>exact I.after hq
  |next=>exact False.elim hq
  |brk=>exact False.elim hq
  |cont=>exact False.elim hq
theorem al(F:FnOk X.prog X.w X.K X.mg X.base CX k f fd ps sp)(hr:Room k X.A)(hg:Gl X x)(hm:X.mg x=some (.ref f))(hk:keepIn X.K (.ref f)=true)(hb:bx X.K fd ps ds)(hd:ao dvs ds)(hx:dX CX X E)(ha:PA X (e::es) t)(hdb:(x==("__debug__":Str))=false:=by decide)(he:starEach (e::es) X.env=(false,eval e X.env)::starEach es X.env:=by rfl)(hpl:(backTo pos (starEach es X.env)).any (·.1)=false:=by rfl):
  PE X (.Call (.Name x p) (e::es) [] pos) (nZ sp dvs E t):=by
 intro pins s σ H Q I h;refine wpAny_Call_Name_kw (gg I hg hm ?_ hdb);refine PySem.W.callWith_K (h₀:=X.base) I.ok.mod.kin hk (thn (ha pos pins s σ H _ I h) λus s1 ⟨vs,H1,I1,r,q⟩=>⟨I1.kIn,?_⟩) he hpl;exact oN F hr hb hd hx I1 r q
end
section
variable{X:Cx}{CX:CXT}{k:Nat}{f C:Addr}{fd:FuncData}{ps ks:List Str}{sp:Sp}{E:XK}{x m:Str}{p pos apos kpos:Pos}{e o:Expr}{es:List Expr}{kws:List Keyword}{te ta:TE}{t tk:TA}{nm:Option Str}
variable{g:List Value→List Value→List Value}{gV:List V→List V→List V}
end
structure FnScope(N P:List Str)(sc:Scope):Prop where
 kind:sc.kind=.function
 co:sc.isCoroutine=false
 gen:sc.isGenerator=false
 nd:N.Nodup
 pre:N.take P.length=P
 par:∀x∈P,sc.names.lookup x=some .local∨sc.names.lookup x=some .cell
 nofree:∀y∈sc.names,y.2≠.free
theorem fsc{N P:List Str}{c:Scope}(a:c.kind=.function:=by rfl)(b:c.isCoroutine=false:=by rfl)(d:c.isGenerator=false:=by rfl)(e:N.Nodup:=by decide +kernel)(f:N.take P.length=P:=by rfl)(g:∀x∈P,c.names.lookup x=some .local∨c.names.lookup x=some .cell:=by decide +kernel)(h:∀y∈c.names,y.2≠.free:=by decide +kernel):FnScope N P c:=⟨a,b,d,e,f,g,h⟩
theorem fi{kindOf:Str→Option NameKind}{x:Str}:∀{binds:List (Str×Value)}{m:Str→Option Value},(∀v,(x,v)∉binds)→bindL kindOf binds m x=m x
 |[],_,_=>rfl
 |(n,v)::r,m,h=>by
  unfold bindL;rw[fi λw hw=>h w (mem_cons_of_mem _ hw)]
  split
  ·have:x≠n:=by rintro rfl;exact h v mem_cons_self
   simp[this]
  ·rfl
theorem fj{kindOf:Str→Option NameKind}{x:Str}:∀{binds:List (Str×Value)}{m:Str→Option Value},(∀v,(x,v)∉binds)→bindC kindOf binds m x=m x
 |[],_,_=>rfl
 |(n,v)::r,m,h=>by
  unfold bindC;rw[fj λw hw=>h w (mem_cons_of_mem _ hw)]
  split
  ·rfl
  ·have:x≠n:=by rintro rfl;exact h v mem_cons_self
   simp[this]
theorem fk{kindOf:Str→Option NameKind}{x:Str}{v:Value}:∀{P:List Str}{vs:List Value}{i:Nat}{m:Str→Option Value},P.Nodup→P[i]?=some x→vs[i]?=some v→kindOf x=some .local →
  bindL kindOf (P.zip vs) m x=some v
 |[],_,_,_,_,h,_,_=>by simp at h
 |_::_,[],_,_,_,_,h,_=>by simp at h
 |p::P,w::vs,0,m,nd,h1,h2,hk=>by
  simp at h1 h2;subst h1;subst h2;show bindL kindOf ((p,w)::P.zip vs) m p=_;unfold bindL;rw[fi λv hv=>(nodup_cons.mp nd).1 (of_mem_zip hv).1,if_pos hk];simp
 |p::P,w::vs,i+1,m,nd,h1,h2,hk=>by
  show bindL kindOf ((p,w)::P.zip vs) m x=_;unfold bindL;exact fk (i:=i) (nodup_cons.mp nd).2 (by simpa using h1) (by simpa using h2) hk
theorem fm{kindOf:Str→Option NameKind}{x:Str}{v:Value}:∀{P:List Str}{vs:List Value}{i:Nat}{m:Str→Option Value},P.Nodup→P[i]?=some x→vs[i]?=some v→kindOf x≠some .local →
  bindC kindOf (P.zip vs) m x=some v
 |[],_,_,_,_,h,_,_=>by simp at h
 |_::_,[],_,_,_,_,h,_=>by simp at h
 |p::P,w::vs,0,m,nd,h1,h2,hk=>by
  simp at h1 h2;subst h1;subst h2;show bindC kindOf ((p,w)::P.zip vs) m p=_;unfold bindC;rw[fj λv hv=>(nodup_cons.mp nd).1 (of_mem_zip hv).1,if_neg hk];simp
 |p::P,w::vs,i+1,m,nd,h1,h2,hk=>by
  show bindC kindOf ((p,w)::P.zip vs) m x=_;unfold bindC;exact fm (i:=i) (nodup_cons.mp nd).2 (by simpa using h1) (by simpa using h2) hk
def start(N:List Str)(vs:List V):St:=vs.map some++List.replicate (N.length-vs.length) none
def dJ(CX:CXT)(P:Program)(w:World)(K:PySem.W.Frag)(mg:Str→Option Value)(base:Heap)(N:List Str)(qual:Str)(scope:Scope)(f:Addr)(cd:Value)(A:Around)(outer:List Env)(s:Shared)(H:Hp)(E:XK):Cx where
 prog:=P
 w:=w
 K:=K
 mg:=mg
 base:=base
 A:=A.deeper (envOfC qual scope s.heap.objs.size f cd)
 N:=N
 s₀:=s
 H₀:=H
 env:=envOfC qual scope s.heap.objs.size f cd
 outer:=outer
 stack:=envOfC qual scope s.heap.objs.size f cd::outer
 ex:=[]
 calm:=true
 fn:=λ_=>true
 pn:=[]
 xe:=λe s'=>wpAny (model P w) (A.deeper (envOfC qual scope s.heap.objs.size f cd)) (leaving (envOfC qual scope s.heap.objs.size f cd) e) (λ_ s''=>CX outer H s E e s'') (λe' s''=>CX outer H s E e' s'') s'
theorem gL{sc:Scope}{n:Nat}{x:Str}(h:sc.names.lookup x=some .cell):∃c,(cellsFrom n sc.names []).lookup x=some c:=by
 have q:=PySem.W.cellsFrom_some sc.names n [] (.inl h);exact Option.isSome_iff_exists.mp q
theorem jT{CX:CXT}{P:Program}{w:World}{K:PySem.W.Frag}{mg:Str→Option Value}{base:Heap}{N ps:List Str}{qual:Str}{scope:Scope}{f:Addr}{cd:Value}{A:Around}{outer:List Env}{s s1:Shared}{H:Hp}{E:XK}{us:List Value}{vs:List V}(S:FnScope N ps scope)(hd:A.handled=none)(e0:Env0 P w K mg base A outer s H)(hl:vs.length=ps.length)(r:ao vs us)(x:InCallC s s.heap.objs.size (bindL (envOfC qual scope s.heap.objs.size f cd).kindOf (ps.zip us) λ_=>none) (cellsFrom (s.heap.objs.size+1) scope.names []) (bindC (envOfC qual scope s.heap.objs.size f cd).kindOf (ps.zip us) λ_=>none) s1):
  Inv (dJ CX P w K mg base N qual scope f cd A outer s H E) [] (start N vs) H s1:=by
 have hpl:ps.length≤N.length:=by have:=congrArg length S.pre;rw[length_take]at this;omega
 obtain⟨h1,tk,rfl,hk⟩:=x.done;have noA:∀b:Addr,b∉(dJ CX P w K mg base N qual scope f cd A outer s H E).ex:=λb z=>absurd (show b∈([]:List Addr)from z) (by simp);refine⟨⟨e0.mod,S.kind,rfl,rfl,le_refl _,λy z c h1 h2=>?_,λy hy=>?_,λy c _ h=>?_,λ_=>hd,Around.frames_deeper e0.frames,.inr ⟨rfl,rfl⟩,λb z=>absurd z (noA b),e0.bs,e0.bsz,λb _ _=>noA b,λb z=>absurd z (noA b),e0.funs,e0.frf⟩,
  rfl,e0.bare,Un.kept hk,⟨_,x.toInCall.ns,λi y v h1 h2 h3=>?_⟩,λy c h=>⟨_,x.cell y c h⟩,e0.hok.fresh (le_refl _),λy c h=>?_,λp hp=>absurd (show p∈([]:List (Addr×Obj))from hp) (by simp),e0.hok.kept hk,?_⟩
 ·exact name_of_addr x.apart (PySem.mem_of_lookup h1) (PySem.mem_of_lookup h2)
 ·have hy:scope.names.lookup y=some .cell∨scope.names.lookup y=some .free:=hy;rcases hy with hy|hy
  ·exact gL hy
  ·exact absurd rfl (S.nofree _ (PySem.mem_of_lookup hy))
 ·exact le_of_lt (x.above y c (PySem.mem_of_lookup h))
 ·have hi:i<vs.length:=by
   unfold start at h2
   by_cases hi:i<vs.length
   ·exact hi
   ·rw[getElem?_append_right (by simpa using hi)]at h2;rw[List.getElem?_replicate]at h2
    split at h2<;>cases h2
  have ha:vs[i]?=some v:=by
   unfold start at h2;rw[getElem?_append_left (by simpa using hi),getElem?_map]at h2;cases e:vs[i]? with
   |none=>rw[e]at h2;cases h2
   |some a=>rw[e]at h2;cases h2;rfl
  obtain⟨u,hu,rv⟩:=r.get ha;have hp:ps[i]?=some y:=by
   rw[←S.pre,List.getElem?_take_of_lt (by omega)];exact h1
  have ndP:ps.Nodup:=by rw[←S.pre];exact S.nd.sublist (List.take_sublist _ _)
  refine⟨u,rv,?_⟩;rcases S.par y (mem_of_getElem? hp)with k|k
  ·exact .inl ⟨k,fk ndP hp hu k⟩
  ·obtain⟨c,e⟩:=gL (n:=s.heap.objs.size+1) k;refine .inr ⟨.inl k,c,e,?_⟩;have q:=x.cell y c e;rw[fm ndP hp hu (by show scope.names.lookup y≠_;rw[k];decide)]at q;exact q
 ·exact e0.hok.fresh (le_of_lt (x.above y c (PySem.mem_of_lookup h)))
 ·unfold start;show _=N.length;rw[length_append,length_map,List.length_replicate];omega
theorem kZ{CX:CXT}{P:Program}{w:World}{K:PySem.W.Frag}{mg:Str→Option Value}{base:Heap}{k:Nat}{f:Addr}{name qual:Str}{params:Arguments}{body:List Stmt}{scope:Scope}{dV kV doc pm cdv ct oc:Value}{an od:Option Addr}{osl:Array (Option Value)}{N ps:List Str}{sp:Sp}(lk:K.lookup f=some ⟨oc,od,.func (fnOf name qual params body scope dV kV doc pm an cdv ct),osl⟩)(hcd:codeIn K cdv qual=true)(S:FnScope N ps scope)(len:∀vs H Q E,sp vs H Q E→vs.length=ps.length)(hbody:∀(A:Around) (outer:List Env) (s:Shared) (H:Hp) (vs:List V) (Q:VK) (E:XK),Room k (A.deeper (envOfC qual scope s.heap.objs.size f cdv))→sp vs H Q E →
   ∃t,PSs (dJ CX P w K mg base N qual scope f cdv A outer s H E) body t∧t {nx:=λ_ H'=>Q .non H',rt:=Q} (start N vs) H):
  FnOk P w K mg base CX (k+1) f (fnOf name qual params body scope dV kV doc pm an cdv ct) ps sp:=by
 refine⟨len,λA outer s H args us vs Q E hr e0 hb r hsp=>?_⟩;have hl:=len _ _ _ _ hsp;have KX:K.In s.heap:=e0.mod.kin.keeps λb o e=>(e0.bs b o e).1;have lim:s.heap.NoLimit:=e0.mod.nolimit.keeps λb o e=>(e0.bs b o e).1;have hkind:∀y∈ps.zip us,scope.names.lookup y.1=some .local∨(scope.names.lookup y.1=some .cell∧((cellsFrom (s.heap.objs.size+1) scope.names []).lookup y.1).isSome=true):=λ⟨n,v⟩ hy=>by
  rcases S.par n (of_mem_zip hy).1 with q|q
  ·exact .inl q
  ·exact .inr ⟨q,PySem.W.cellsFrom_some _ _ _ (.inl q)⟩
 refine codeAny_call_function hr.depth (KX _ _ lk) rfl S.co S.gen rfl (PySem.W.codeRec_of KX hcd) (hb _ _ _ _ ?_);refine wpAny_newFunctionEnv_cells S.kind hkind λenv he s1 x=>?_;subst he;refine⟨lim.keeps x.toInCall.keep,codeAny_func ?_⟩;obtain⟨t,ht,hq⟩:=hbody A outer s H vs Q E (hr.deeper _) hsp;have I:Inv (dJ CX P w K mg base N qual scope f cdv A outer s H E) [] (start N vs) H s1:=jT S hr.hd e0 hl r x;refine wpAny_mono (ht [] s1 (start N vs) H _ I hq) (λfl s' hs=>?_) λe s' hs=>hs;have fin:∀{σ':St}{H':Hp}{v:V}{u:Value},Inv (dJ CX P w K mg base N qual scope f cdv A outer s H E) [] σ' H' s'→aq v u→Q v H'→CE outer P w H s Q u s' :=
  λ{σ' H' v u} J rv q=>⟨v,H',J.os,J.bare,J.base,J.hok,rv,q⟩
 cases fl with
 |ret u =>
  obtain⟨v,σ',H',J,rv,q⟩:=hs;exact fin J rv q
 |next =>
  obtain⟨σ',H',J,q⟩:=hs;exact fin (v:=V.non) (u:=Value.none) J rfl q
 |brk =>
  obtain⟨_,_,_,q⟩:=hs;exact False.elim q
 |cont =>
  obtain⟨_,_,_,q⟩:=hs;exact False.elim q
section
variable{X:Cx}{x:Str}{p pos:Pos}{e:Expr}{es:List Expr}{t:TA}{id T:String}{r:List V→Hp→VK→Prop}
def tCB(r:List V→Hp→VK→Prop)(t:TA):TE:=λσ H Q=>t σ H λvs H1=>r vs H1 Q
theorem aN(hc:bw X (.builtin id) r)(hg:Gl X x)(hm:X.mg x=none)(hv:bootBuiltins x=some (.builtin id))(ha:PA X (e::es) t)(hn:x≠"__name__":=by decide)(hdb:(x==("__debug__":Str))=false:=by decide)(he:starEach (e::es) X.env=(false,eval e X.env)::starEach es X.env:=by rfl)(hpl:(backTo pos (starEach es X.env)).any (·.1)=false:=by rfl):PE X (.Call (.Name x p) (e::es) [] pos) (tCB r t):=by
 intro pins s σ H Q I h;refine wpAny_Call_Name_kw (cH I hg hm hv ?_ hn hdb);exact PyProof.Rows.callWith_builtin1 (thn (ha pos pins s σ H _ I h) λus s1 ⟨vs,H1,I1,r1,q1⟩=>hc pins s1 σ H1 vs us Q I1 r1 q1) he hpl
theorem aZ(hc:bw X (.type T) r)(hg:Gl X x)(hm:X.mg x=none)(hv:bootBuiltins x=some (.type T))(ha:PA X (e::es) t)(hn:x≠"__name__":=by decide)(hdb:(x==("__debug__":Str))=false:=by decide)(he:starEach (e::es) X.env=(false,eval e X.env)::starEach es X.env:=by rfl)(hpl:(backTo pos (starEach es X.env)).any (·.1)=false:=by rfl):PE X (.Call (.Name x p) (e::es) [] pos) (tCB r t):=by
 intro pins s σ H Q I h;refine wpAny_Call_Name_kw (cH I hg hm hv ?_ hn hdb);exact PyProof.Rows.callWith_type1 (thn (ha pos pins s σ H _ I h) λus s1 ⟨vs,H1,I1,r1,q1⟩=>hc pins s1 σ H1 vs us Q I1 r1 q1) he hpl
end
end L2
namespace HT
open PySem PyProof.Rows
section
open PySem.SeqAt
open PySem.AutoSeq1 (wpAny_loadPart')
open PySem.MeetsSeq PySem.MeetsSeq2 PySem.MeetsSeq3
end
section
variable{prog:Program}{w:World}{A:Around}{E:Value→Shared→Prop}{s:Shared}
def sIx(n d:Nat):Option Int→Nat
 |none=>d
 |some v=>if v<0 then (v+(n:Int)).toNat else min v.toNat n
theorem la(n d:Nat):sIx n d none=d:=rfl
theorem jl(n d k:Nat):sIx n d (some (k:Int))=min k n:=by
 show(if (k:Int)<0 then ((k:Int)+(n:Int)).toNat else min (k:Int).toNat n)=min k n
 rw[if_neg (by omega),Int.toNat_natCast]
theorem oO(n d:Nat)(hd:d≤n)(o:Option Int):sIx n d o≤n:=by
 cases o with
 |none=>exact hd
 |some v =>
  show(if v<0 then (v+(n:Int)).toNat else min v.toNat n)≤n
  by_cases hv:v<0
  ·rw[if_pos hv];omega
  ·rw[if_neg hv];exact Nat.min_le_right _ _
theorem jm(v:Int)(n d:Nat):(if v<0 then max (v+(n:Int)) 0 else min v (n:Int))=((sIx n d (some v):Nat):Int):=by
 show(if v<0 then max (v+(n:Int)) 0 else min v (n:Int))=(((if v<0 then (v+(n:Int)).toNat else min v.toNat n):Nat):Int)
 by_cases hv:v<0
 ·simp only[if_pos hv];omega
 ·simp only[if_neg hv];omega
theorem iF(lo hi:Option Int)(n:Nat):Builtin.Slice.sliceAdjust lo hi 1 (n:Int)=(((sIx n 0 lo:Nat):Int),((sIx n n hi:Nat):Int)):=by
 have h1:¬((1:Int)<0):=by omega
 unfold Builtin.Slice.sliceAdjust;simp only[h1,if_false];refine Prod.ext ?_ ?_
 ·cases lo with
  |none=>rfl
  |some v=>exact jm v n 0
 ·cases hi with
  |none=>rfl
  |some v=>exact jm v n n
theorem iG(i j:Nat):Builtin.Slice.slicePlaces (i:Int) (j:Int) 1=j-i:=by
 unfold Builtin.Slice.slicePlaces;have h1:(1:Int)>0:=by omega
 simp only[h1,if_true,Int.ediv_one]
 split<;>omega
theorem dY{v:Value}{o:Option Int}{Q:Option Int→Shared→Prop}(p:IsPart v o)(h:Q o s):wpAny (model prog w) A (Builtin.Slice.slicePartIndex v) Q E s:=by
 cases p with
 |none=>exact slicePart_none h
 |int i t=>exact slicePart_int h
theorem bR{sl:Addr}{vl vu:Value}{lo hi:Option Int}{n:Nat}{Q:Int×Int×Nat→Shared→Prop}(hs:s.heap.IsSliceOf sl vl vu .none)(pl:IsPart vl lo)(pu:IsPart vu hi)(h:Q (((sIx n 0 lo:Nat):Int),1,sIx n n hi-sIx n 0 lo) s):wpAny (model prog w) A (Builtin.Slice.sliceApplied (.ref sl) (pure (n:Int))) Q E s:=by
 obtain⟨os,hos,hcs,hds⟩:=id hs;unfold Builtin.Slice.sliceApplied Builtin.Slice.sliceFields;refine wpAny_bind (wpAny_bind (wpAny_field hos hds (x:=vl) rfl (wpAny_bind (wpAny_field hos hds (x:=vu) rfl (wpAny_bind (wpAny_field hos hds (x:=.none) rfl (wpAny_pure ?_)))))));refine wpAny_bind (slicePart_none ?_);show wpAny _ _ (if ((1:Int)==0)=true then _ else _) _ _ s
 rw[if_neg (by decide)];refine wpAny_bind (dY pl (wpAny_bind (dY pu (wpAny_bind (wpAny_pure ?_)))));show wpAny _ _ (match Builtin.Slice.sliceAdjust lo hi 1 (n:Int)with|(lo,hi)=>pure (lo,(1:Int),Builtin.Slice.slicePlaces lo hi 1)) _ _ s
 rw[iF lo hi n];show wpAny _ _ (pure (((sIx n 0 lo:Nat):Int),(1:Int),Builtin.Slice.slicePlaces ((sIx n 0 lo:Nat):Int) ((sIx n n hi:Nat):Int) 1)) _ _ s;rw[iG];exact wpAny_pure h
theorem lc(xs:Array Value)(i k:Nat):((List.range k).filterMap λ(m:Nat)=>xs[((i:Int)+(m:Int)*1).toNat]?).toArray=((xs.toList.drop i).take k).toArray:=by
 have e:(λ(m:Nat)=>xs[((i:Int)+(m:Int)*1).toNat]?)=λm=>xs[i+m]?:=by
  funext m
  have:((i:Int)+(m:Int)*1).toNat=i+m:=by omega
  rw[this]
 rw[e];have:=pick_run xs i k;rw[List.filterMap_map]at this;have e2:((λx=>xs[x]?)∘λx=>i+x)=λm=>xs[i+m]?:=rfl;rw[e2]at this;rw[this]
theorem cU{t sl:Addr}{items:Array Value}{vl vu:Value}{lo hi:Option Int}{Q:Value→Shared→Prop}(ht:IsTup s.heap t items)(hs:s.heap.IsSliceOf sl vl vu .none)(pl:IsPart vl lo)(pu:IsPart vu hi)(hw:¬(sIx items.size 0 lo=0∧sIx items.size items.size hi=items.size))(h:Q (.ref s.heap.objs.size) {s with heap:=s.heap.push {cls:=.type "tuple",data:=.seq ((items.toList.drop (sIx items.size 0 lo)).take (sIx items.size items.size hi-sIx items.size 0 lo)).toArray}})(hsz:items.size≤sizeLine):wpAny (model prog w) A (getItem (.ref t) (.ref sl)) Q E s:=by
 have htake:sizeOk (.seq ((items.toList.drop (sIx items.size 0 lo)).take (sIx items.size items.size hi-sIx items.size 0 lo)).toArray):=by
  show((items.toList.drop (sIx items.size 0 lo)).take (sIx items.size items.size hi-sIx items.size 0 lo)).toArray.size≤sizeLine;rw[size_toArray,length_take,List.length_drop,length_toList];omega
 have hj:sIx items.size items.size hi≤items.size:=oO _ _ (le_refl _) hi;obtain⟨os,hos,hcs,hds⟩:=id hs;have hTs:s.TypeIs (.ref sl) "slice":=⟨os,hos,hcs⟩;unfold getItem
 try with_reducible refine wpAny_holding ?_
 first|refine wpAny_bind (wpAny_pure ?_)|skip
 refine wpAny_bind (wpAny_sequenceKey ht.typeIs (by decide) ?_);refine wpAny_bind (wpAny_callSpecial?_slot (name:=ofString "__getitem__") ht.typeIs PyProof.Rows.slot_tuple_getitem
  (wpAny_call_entry PyProof.Rows.slot_tuple_getitem ht.typeIs entry_tuple_getitem ?_ (args_tuple_getitem _ _)))
 show wpAny _ _ (Builtin.Tuple.tupleItemsOf (.ref t) >>= _) _ _ s;refine wpAny_bind (tupleItemsOf_ ht ?_);refine wpAny_bind (wpAny_typeOf hTs ?_);rw[if_pos (by decide)];refine wpAny_bind (bR hs pl pu ?_);have hno:¬((((sIx items.size 0 lo:Nat):Int)==0&&(1:Int)==1&&(sIx items.size items.size hi-sIx items.size 0 lo)==items.size)=true):=by
  intro q;rw[and_eq_true,and_eq_true]at q;have q1:((sIx items.size 0 lo:Nat):Int)=0:=eq_of_beq q.1.1;have q2:sIx items.size items.size hi-sIx items.size 0 lo=items.size:=eq_of_beq q.2;exact hw ⟨by omega,by omega⟩
 show wpAny _ _ (if (((sIx items.size 0 lo:Nat):Int)==0&&(1:Int)==1&&(sIx items.size items.size hi-sIx items.size 0 lo)==items.size)=true then _ else _) _ _ s
 rw[if_neg hno,lc]
 first
  |exact wpAny_bind (m:=Builtin.Tuple.tupleExact _) (wpAny_newObj_type (wpAny_pure ⟨_,rfl,wpAny_pure h⟩) htake)
  |exact wpAny_bind (m:=Builtin.Tuple.tupleExact _) (wpAny_newObj_type (wpAny_bind (wpAny_pure (wpAny_pure ⟨_,rfl,wpAny_pure h⟩))) htake)
  |exact wpAny_bind (wpAny_bind (m:=Builtin.Tuple.tupleExact _) (wpAny_newObj_type (wpAny_pure (wpAny_pure ⟨_,rfl,wpAny_pure h⟩)) htake))
  |exact wpAny_bind (wpAny_bind (m:=Builtin.Tuple.tupleExact _) (wpAny_newObj_type (wpAny_pure ⟨_,rfl,wpAny_pure h⟩) htake))
end
end HT
namespace L2
open PySem PySem.Spec PyProof.Rows
abbrev TO:=St→Hp→(Option Int→Hp→Prop)→Prop
def PO(X:Cx)(e:Option Expr)(t:TO):Prop :=
 ∀(pins:List (Addr×Obj))(s:Shared)(σ:St)(H:Hp)(Q:Option Int→Hp→Prop),Inv X pins σ H s→t σ H Q →
  wpAny (model X.prog X.w) X.A (evalPart e X.env) (λu s'=>∃o H',Inv X pins σ H' s'∧IsPart u o∧Q o H') X.xe s
def jn:TO:=λ_ H Q=>Q none H
def oa(t:TE):TO:=λσ H Q=>t σ H λx H1=>∃i,x=.int i∧Q (some i) H1
theorem iH{ns:List Int}:∀{us:List Value},ao (ns.map V.int) us→IntsAre us ns:=by
 induction ns with
 |nil=>intro us r;rw[map_nil]at r;cases r;exact .nil
 |cons n ns ih =>
  intro us r;rw[map_cons]at r;cases r with
  |cons r1 r2 =>
   obtain⟨t,e⟩:=r1;subst e;exact .cons n t (ih r2)
section
variable{X:Cx}{e:Expr}{te:TE}{lo hi:Option Expr}{tl th:TO}{pos p2:Pos}
theorem jo:PO X none jn:=by
 intro pins s σ H Q I h;rw[evalPart_none];exact wpAny_pure ⟨none,H,I,.none,h⟩
theorem dO(h:PE X e te):PO X (some e) (oa te):=by
 intro pins s σ H Q I hw;rw[evalPart_some];refine thn (h pins s σ H _ I hw) λu s1 hpt=>?_;obtain⟨x,H1,I1,r1,q1⟩:=hpt;obtain⟨i,rfl,q⟩:=q1;obtain⟨t,rfl⟩:=r1;exact⟨some i,H1,I1,.int i t,q⟩
def SlR(X:Cx)(r:V→Option Int→Option Int→Hp→VK→Prop):Prop :=
 ∀(pins:List (Addr×Obj))(s:Shared)(σ:St)(H:Hp)(x:V)(v vl vu:Value)(lo hi:Option Int)(sl:Addr)(Q:VK),Inv X pins σ H s→aq x v→s.heap.IsSliceOf sl vl vu .none→IsPart vl lo→IsPart vu hi→r x lo hi H Q →
  ∃T id,typeLookup (.type T) "__getitem__"=pure (some (.builtin id))∧s.TypeIs v T∧wpAny (model X.prog X.w) X.A (getItem v (.ref sl)) (EP X pins σ Q) X.xe s
theorem SlR.or{r r':V→Option Int→Option Int→Hp→VK→Prop}(h:SlR X r)(h':SlR X r'):SlR X (λx lo hi H Q=>r x lo hi H Q∨r' x lo hi H Q):=by
 intro pins s σ H x v vl vu lo hi sl Q I rx hs pl pu q;rcases q with q|q
 ·exact h pins s σ H x v vl vu lo hi sl Q I rx hs pl pu q
 ·exact h' pins s σ H x v vl vu lo hi sl Q I rx hs pl pu q
def tSl(r:V→Option Int→Option Int→Hp→VK→Prop)(te:TE)(tl th:TO):TE:=λσ H Q=>te σ H λx H1=>tl σ H1 λl H2=>th σ H2 λu H3=>r x l u H3 Q
theorem dZ{r:V→Option Int→Option Int→Hp→VK→Prop}(hr:SlR X r)(he:PE X e te)(hl:PO X lo tl)(hu:PO X hi th):PE X (.Subscript e (.Slice lo hi none p2) pos) (tSl r te tl th):=by
 intro pins s σ H Q I h;refine Subscript_ (thn (he pins s σ H _ I h) λv s1 hpt=>?_);obtain⟨x,H1,I1,r1,q1⟩:=hpt;refine wpAny_Slice (thn (hl pins s1 σ H1 _ I1 q1) λvl s2 ⟨l,H2,I2,pl,q2⟩=>thn (hu pins s2 σ H2 _ I2 q2) λvu s3 hpt=>?_);obtain⟨u,H3,I3,pu,q3⟩:=hpt;rw[evalPart_none];refine wpAny_pure ?_;have I4:Inv X pins σ H3 {s3 with heap:=s3.heap.push {cls:=.type "slice",data:=.fields #[vl,vu,.none]}}:=I3.kept (t':=s3.toks) λb ob q=>get?_push_of_some _ q
 obtain⟨T,id,hT,ht,hg⟩:=hr pins {s3 with heap:=s3.heap.push {cls:=.type "slice",data:=.fields #[vl,vu,.none]}} σ H3 x v vl vu l u s3.heap.objs.size Q I4 r1 (Heap.IsSliceOf.new ..) pl pu q3
 show wpAny (model X.prog X.w) X.A (subscriptTail e (.Slice lo hi none p2) v (.ref s3.heap.objs.size)) (EP X pins σ Q) X.xe {s3 with heap:=s3.heap.push {cls:=.type "slice",data:=.fields #[vl,vu,.none]}}
 exact tail_any (ops:=[.ref s3.heap.objs.size,v]) ht hT hg (by with_unfolding_all rfl)
def gM(xs:List V)(lo hi:Option Int):List V:=(xs.drop (HT.sIx xs.length 0 lo)).take (HT.sIx xs.length xs.length hi-HT.sIx xs.length 0 lo)
theorem gO(xs:List V)(lo hi:Option Int):(gM xs lo hi).length≤xs.length:=by
 unfold gM;rw[length_take,List.length_drop];omega
def mQ(K:PySem.W.Frag):V→Option Int→Option Int→Hp→VK→Prop:=λx lo hi H Q=>∃a xs,x=.ref a∧SqT K H a xs ∧
 ¬(HT.sIx xs.length 0 lo=0∧HT.sIx xs.length xs.length hi=xs.length)∧∀p,H p=none→Q (.ref p) (upd H p (.tup (gM xs lo hi)))
theorem iI:SlR X (mQ X.K):=by
 intro pins s σ H x v vl vu lo hi sl Q I rx hs pl pu h;obtain⟨a,xs,rfl,hx,hw,q⟩:=h;cases rx;obtain⟨its,r,ht,hz⟩:=I.tuple hx;have hlen:its.toArray.size=xs.length:=by rw[size_toArray];exact r.length.symm
 refine⟨"tuple",_,PyProof.Rows.slot_tuple_getitem.lookup,ht.typeIs,?_⟩;refine HT.cU ht hs pl pu (by rw[hlen];exact hw) ?_ (by rw[hlen];exact hz);rw[hlen];refine⟨.ref s.heap.objs.size,_,I.laid (t':=s.toks) (o:=.tup (gM xs lo hi)) (λb ob q=>get?_push_of_some _ q) (le_refl _) ?_,rfl,q _ (I.hok.fresh (le_refl _))⟩;exact⟨le_trans (gO xs lo hi) hz,_,(r.drop (HT.sIx xs.length 0 lo)).take (HT.sIx xs.length xs.length hi-HT.sIx xs.length 0 lo),IsTup.new _ _⟩
theorem ao.nil_iff{xs:List V}{us:List Value}(r:ao xs us):us=[]↔xs=[]:=by
 cases r with
 |nil=>simp
 |cons _ _=>simp
end
def ixN(n:Nat)(i:Int):Option Nat:=if 0≤i then (if i<n then some i.toNat else none)else if -(n:Int)≤i then some (i+n).toNat else none
def atI{α:Type}(xs:List α)(i:Int):Option α:=(ixN xs.length i).bind λj=>xs[j]?
theorem jp{n:Nat}{i:Int}{j:Nat}(h:ixN n i=some j):seqIndex? i n=some j∧j<n∧-(n:Int)≤i∧i<n:=by
 unfold ixN at h
 by_cases h0:0≤i
 ·rw[if_pos h0]at h
  by_cases h1:i<n
  ·rw[if_pos h1]at h;have e:i.toNat=j:=Option.some.inj h;exact⟨by rw[seqIndex_of h0 h1,e],by omega,by omega,h1⟩
  ·rw[if_neg h1]at h;cases h
 ·rw[if_neg h0]at h
  by_cases h1:-(n:Int)≤i
  ·rw[if_pos h1]at h;have e:(i+n).toNat=j:=Option.some.inj h;exact⟨by rw[seqIndex_neg (by omega) h1,e],by omega,h1,by omega⟩
  ·rw[if_neg h1]at h;cases h
theorem jq{α:Type}{xs:List α}{i:Int}{v:α}(h:atI xs i=some v):∃j,seqIndex? i xs.length=some j∧xs[j]?=some v∧j<xs.length∧-(xs.length:Int)≤i∧i<xs.length:=by
 unfold atI at h;cases e:ixN xs.length i with
 |none=>rw[e]at h;cases h
 |some j =>
  rw[e]at h;obtain⟨h1,h2,h3,h4⟩:=jp e;exact⟨j,h1,h,h2,h3,h4⟩
theorem cV{α:Type}{xs:List α}{j:Nat}{v:α}(h:xs[j]?=some v):atI xs (j:Int)=some v:=by
 have hj:j<xs.length:=(List.getElem?_eq_some_iff.mp h).1;have e:ixN xs.length (j:Int)=some j:=by
  unfold ixN;rw[if_pos (by omega),if_pos (by omega)];simp
 unfold atI;rw[e];exact h
def mR(b:Expr):Prop:=∀o i,subscripted b false o i=operate [o,i] (getItem o i)
def IxR(X:Cx)(r:R2):Prop :=
 ∀(value slice:Expr)(pins:List (Addr×Obj))(s:Shared)(σ:St)(H:Hp)(x y:V)(v u:Value)(Q:VK),Inv X pins σ H s→aq x v→aq y u→r x y H Q →
  subscripted slice false v u=operate [v,u] (getItem v u)→wpAny (model X.prog X.w) X.A (subscriptTail value slice v u) (EP X pins σ Q) X.xe s
def MtR(X:Cx)(id:String)(r:V→List V→Hp→VK→Prop):Prop :=
 ∀(pins:List (Addr×Obj))(s:Shared)(σ:St)(H:Hp)(x:V)(xs:List V)(v:Value)(us:List Value)(Q:VK),Inv X pins σ H s→aq x v→ao xs us→r x xs H Q →
  wpAny (model X.prog X.w) X.A (call (.builtin id) (v::us)) (EP X pins σ Q) X.xe s
section
variable{X:Cx}{a b:Expr}{ta tb:TE}{pos:Pos}
theorem aP{r:R2}(hr:IxR X r)(ha:PE X a ta)(hb:PE X b tb)(hs:mR b):PE X (.Subscript a b pos) (tOp r ta tb):=by
 intro pins s σ H Q I h;exact Subscript_ (oH ha hb I h λv u s2 x y H2 I2 rx ry q=>hr a b pins s2 σ H2 x y v u Q I2 rx ry q (hs _ _))
def rk(K:PySem.W.Frag):R2:=λx y H Q=>∃p xs i v,x=.ref p∧y=.int i∧SqL K H p xs∧atI xs i=some v∧Q v H
def gm(K:PySem.W.Frag):R2:=λx y H Q=>∃p xs i v,x=.ref p∧y=.int i∧SqT K H p xs∧atI xs i=some v∧Q v H
theorem bG:IxR X (rk X.K):=by
 intro value slice pins s σ H x y v u Q I rx ry h hs;obtain⟨p,xs,i,z,rfl,rfl,hq,he,q⟩:=h;cases rx;obtain⟨t,rfl⟩:=ry;obtain⟨its,r,pl,hz⟩:=I.list hq;obtain⟨j,h1,h2,h3,h4,h5⟩:=jq he;obtain⟨w,ew,rw'⟩:=r.get h2;have hl:=r.length;have hn:=gl;have fin:EP X pins σ Q w s:=⟨z,H,I,rw',q⟩
 by_cases h0:0≤i
 ·have hj:i.toNat=j:=by
   rw[seqIndex_of h0 h5]at h1;exact Option.some.inj h1
  exact item_listR pl.isList h0 (by omega) (by rw[hj];simpa using ew) fin hs
 ·have hj:(i+(its.toArray.size:Int)).toNat=j:=by
   rw[seqIndex_neg (by omega) h4]at h1;rw[size_toArray,←hl];exact Option.some.inj h1
  exact subscriptTail_builtinR (x:=w) pl.isList.typeIs slot_list_getitem.lookup
   (wpAny_getItem_list_neg (Q:=λr s'=>r=w∧EP X pins σ Q r s') pl.isList (by omega) (by rw[size_toArray]<;>omega) (by omega) (by rw[hj];simpa using ew) ⟨rfl,fin⟩) hs
theorem aS:IxR X (gm X.K):=by
 intro value slice pins s σ H x y v u Q I rx ry h hs;obtain⟨p,xs,i,z,rfl,rfl,hq,he,q⟩:=h;cases rx;obtain⟨t,rfl⟩:=ry;obtain⟨its,r,pl,hz⟩:=I.tuple hq;obtain⟨j,h1,h2,h3,h4,h5⟩:=jq he;obtain⟨w,ew,rw'⟩:=r.get h2;have hl:=r.length;have hn:=gl;have fin:EP X pins σ Q w s:=⟨z,H,I,rw',q⟩;exact subscriptTail_builtinR (x:=w) pl.typeIs slot_tuple_getitem.lookup
  (getItem_tuple (j:=j) (Q:=λr s'=>r=w∧EP X pins σ Q r s') pl (by omega) (by omega) (by rw[size_toArray,←hl];exact h1) (by simpa using ew) ⟨rfl,fin⟩) hs
def cW:V→Bool
 |.non=>true
 |.bl _=>true
 |.int _=>true
 |.str _=>true
 |_=>false
def eqV:V→V→Bool
 |.non,.non=>true
 |.bl a,.bl b=>a==b
 |.bl a,.int b=>(if a then 1 else 0)==b
 |.int a,.bl b=>a==(if b then 1 else 0)
 |.int a,.int b=>a==b
 |.str a,.str b=>a==b
 |_,_=>false
theorem lg{A:Around}{s:Shared}{y x:V}{u v:Value}(ry:aq y u)(rx:aq x v)(fy:cW y=true)(fx:cW x=true):EqAt A s u v (eqV y x):=by
 cases y with
 |non =>
  cases ry;cases x with
  |non=>cases rx;exact EqAt.same _
  |bl b=>cases rx;exact EqAt.none_bool b
  |int b=>obtain⟨t,rfl⟩:=rx;exact EqAt.none_int b t
  |str b=>obtain⟨t,rfl⟩:=rx;exact EqAt.none_str b t
  |_=>exact absurd (show false=true from fx) Bool.false_ne_true
 |bl a =>
  cases ry;cases x with
  |non=>cases rx;exact EqAt.bool_none a
  |bl b=>cases rx;exact EqAt.bool_bool a b
  |int b=>obtain⟨t,rfl⟩:=rx;exact EqAt.bool_int a b t
  |str b=>obtain⟨t,rfl⟩:=rx;exact EqAt.bool_str a b t
  |_=>exact absurd (show false=true from fx) Bool.false_ne_true
 |int a =>
  obtain⟨t',rfl⟩:=ry;cases x with
  |non=>cases rx;exact EqAt.int_none a t'
  |bl b=>cases rx;exact EqAt.int_bool a t' b
  |int b=>obtain⟨t,rfl⟩:=rx;exact EqAt.int_int a t' b t
  |str b=>obtain⟨t,rfl⟩:=rx;exact EqAt.int_str a t' b t
  |_=>exact absurd (show false=true from fx) Bool.false_ne_true
 |str a =>
  obtain⟨t',rfl⟩:=ry;cases x with
  |non=>cases rx;exact EqAt.str_none a t'
  |bl b=>cases rx;exact EqAt.str_bool a t' b
  |int b=>obtain⟨t,rfl⟩:=rx;exact EqAt.str_int a t' b t
  |str b=>obtain⟨t,rfl⟩:=rx;exact EqAt.str_str a t' b t
  |_=>exact absurd (show false=true from fx) Bool.false_ne_true
 |_=>exact absurd (show false=true from fy) Bool.false_ne_true
def eqU(x:V)(u:Value):Bool:=match u with
 |.none=>eqV .non x
 |.bool b=>eqV (.bl b) x
 |.int i _=>eqV (.int i) x
 |.str z _=>eqV (.str z) x
 |_=>false
theorem lh{x y:V}{u:Value}(r:aq y u)(f:cW y=true):eqU x u=eqV y x:=by
 cases y with
 |non=>cases r;rfl
 |bl b=>cases r;rfl
 |int i=>obtain⟨t,rfl⟩:=r;rfl
 |str z=>obtain⟨t,rfl⟩:=r;rfl
 |_=>exact absurd (show false=true from f) Bool.false_ne_true
theorem cX{x:V}:∀{xs:List V}{us:List Value},ao xs us→xs.all cW=true→us.any (eqU x)=xs.any λy=>eqV y x
 |_,_,.nil,_=>rfl
 |y::xs,u::us,.cons r t,f=>by
  rw[List.all_cons,and_eq_true]at f;rw[any_cons,any_cons,lh r f.1,cX t f.2]
theorem cs{A:Around}{s:Shared}{x:V}{v:Value}(rx:aq x v)(fx:cW x=true):∀{xs:List V}{us:List Value},ao xs us→xs.all cW=true→∀u∈us,EqAt A s u v (eqU x u)
 |_,_,.nil,_=>λu hu=>by cases hu
 |y::xs,u::us,.cons r t,f=>λu' hu=>by
  rw[List.all_cons,and_eq_true]at f;rcases mem_cons.mp hu with rfl|hu
  ·rw[lh r f.1];exact lg r rx f.1 fx
  ·exact cs rx fx t f.2 u' hu
def inV(x:V)(xs:List V):Bool:=xs.any λy=>eqV y x
def rIn(K:PySem.W.Frag)(neg:Bool):R2:=λx y H Q=>∃p xs,y=.ref p∧(SqL K H p xs∨SqT K H p xs)∧cW x=true∧xs.all cW=true∧Q (.bl (if neg then !inV x xs else inV x xs)) H
theorem fo:OpR X (compareOp .In) (rIn X.K false):=by
 intro pins s σ H x y v u Q I rx ry h;obtain⟨p,xs,rfl,hq,fx,fs,q⟩:=h;cases ry;rcases hq with hq|hq
 ·obtain⟨its,r,pl,hz⟩:=I.list hq;refine SeqAt.in_listAt (eqU x) pl.isList (λw hw=>cs rx fx r fs w (by simpa using hw)) ⟨.bl _,H,I,rfl,?_⟩;rw[show its.toArray.any (eqU x)=its.any (eqU x)by simp,cX r fs];exact q
 ·obtain⟨its,r,pl,hz⟩:=I.tuple hq;refine SeqAt.in_tupleAt (eqU x) pl (λw hw=>cs rx fx r fs w (by simpa using hw)) ⟨.bl _,H,I,rfl,?_⟩;rw[show its.toArray.any (eqU x)=its.any (eqU x)by simp,cX r fs];exact q
theorem gn:OpR X (compareOp .NotIn) (rIn X.K true):=by
 intro pins s σ H x y v u Q I rx ry h;obtain⟨p,xs,rfl,hq,fx,fs,q⟩:=h;cases ry;rcases hq with hq|hq
 ·obtain⟨its,r,pl,hz⟩:=I.list hq;refine SeqAt.notIn_listAt (eqU x) pl.isList (λw hw=>cs rx fx r fs w (by simpa using hw)) ⟨.bl _,H,I,rfl,?_⟩;rw[show its.toArray.any (eqU x)=its.any (eqU x)by simp,cX r fs];exact q
 ·obtain⟨its,r,pl,hz⟩:=I.tuple hq;refine SeqAt.notIn_tupleAt (eqU x) pl (λw hw=>cs rx fx r fs w (by simpa using hw)) ⟨.bl _,H,I,rfl,?_⟩;rw[show its.toArray.any (eqU x)=its.any (eqU x)by simp,cX r fs];exact q
theorem aK:bw X (.builtin "len") (λxs H Q=>∃p ys,xs=[.ref p]∧(SqL X.K H p ys∨SqT X.K H p ys)∧Q (.int ys.length) H):=by
 intro pins s σ H xs us Q I r h;obtain⟨p,ys,rfl,hq,q⟩:=h;obtain⟨u,rfl,rx⟩:=cF r;cases rx;have hn:=gl;rcases hq with hq|hq
 ·obtain⟨its,r',pl,hz⟩:=I.list hq;have hlen:=r'.length;exact Calls.call_len_list pl.isList (by simp only[size_toArray]<;>omega) ⟨.int ys.length,H,I.tok _,⟨s.toks+1,by rw[size_toArray,hlen]⟩,q⟩
 ·obtain⟨its,r',pl,hz⟩:=I.tuple hq;have hlen:=r'.length;exact len_tuple pl (by simp only[size_toArray]<;>omega) ⟨.int ys.length,H,I.tok _,⟨s.toks+1,by rw[size_toArray,hlen]⟩,q⟩
theorem bO:bw X (.type "tuple") (λxs H Q=>∃p ys,xs=[.ref p]∧((SqL X.K H p ys∧∀l,H l=none→Q (.ref l) (upd H l (.tup ys)))∨(SqT X.K H p ys∧Q (.ref p) H))):=by
 intro pins s σ H xs us Q I r h;obtain⟨p,ys,rfl,h⟩:=h;obtain⟨u,rfl,rx⟩:=cF r;cases rx;rcases h with⟨hq,q⟩|⟨hq,q⟩
 ·obtain⟨its,r',pl,hz⟩:=I.list hq;have hlen:=r'.length;refine call_tuple_list pl.isList (λh' kp=>?_) (by simp only[size_toArray]<;>omega);have I1:Inv X pins σ H {s with heap:=h'}:=I.kept (t':=s.toks) kp
  have I2:Inv X pins σ (upd H h'.objs.size (.tup ys)) {s with heap:=h'.push {cls:=.type "tuple",data:=.seq its.toArray}} :=
   I1.laid (t':=s.toks) (λb o e=>get?_push_of_some _ e) (le_refl _) (show aO X.prog X.w _ _ _ (.tup ys)from⟨hz,its,r',IsTup.new _ _⟩)
  exact⟨.ref h'.objs.size,_,I2,rfl,q _ (I1.hok.fresh (le_refl _))⟩
 ·obtain⟨its,r',pl,hz⟩:=I.tuple hq;exact call_tuple_same pl ⟨.ref p,H,I,rfl,q⟩
def tyV(K:PySem.W.Frag)(T:String)(x:V)(H:Hp):Prop:=match x with
 |.str _=>T="str"
 |.int _=>T="int"
 |.ref p=>(T="list"∧∃xs,SqL K H p xs)∨(T="tuple"∧∃o,K.lookup p=some o∧o.cls=.type "tuple"∧o.dict=none) ∨
   (T="dict"∧((∃kvs,H p=some (.dK kvs))∨∃kvs,H p=some (.dT kvs)))∨(T="set"∧∃S n,H p=some (.set S n))
 |_=>False
theorem li{pins:List (Addr×Obj)}{σ:St}{H:Hp}{s:Shared}{T:String}{x:V}{v:Value}(I:Inv X pins σ H s)(r:aq x v)(ty:tyV X.K T x H):
  s.TypeIs v T∧∀a,v=.ref a→∃ob,s.heap.get? a=some ob∧ob.dict=none:=by
 cases x with
 |str z =>
  obtain⟨t,rfl⟩:=r;cases (show T="str" from ty);exact⟨typeIs_str s z t,λ_ e=>nomatch e⟩
 |int i =>
  obtain⟨t,rfl⟩:=r;cases (show T="int" from ty);exact⟨typeIs_int s i t,λ_ e=>nomatch e⟩
 |ref p =>
  cases r;rcases ty with⟨rfl,xs,hq⟩|⟨rfl,o,hk,hc,hd⟩|⟨rfl,hk⟩|⟨rfl,S,n,hk⟩
  ·obtain⟨its,_,pl,_⟩:=I.list hq;refine⟨pl.isList.typeIs,λa e=>?_⟩;cases e;obtain⟨o,n,e,c,hd,_⟩:=pl;exact⟨o,e,hd⟩
  ·refine⟨⟨o,I.kIn p o hk,hc⟩,λa e=>?_⟩;cases e;exact⟨o,I.kIn _ o hk,hd⟩
  ·have z:∃o,s.heap.get? p=some o∧o.ExactDict:=by
    rcases hk with⟨kvs,hk⟩|⟨kvs,hk⟩
    ·obtain⟨_,_,_,_,o,_,_,e,ex,_⟩:=I.hok p _ hk;exact⟨o,e,ex⟩
    ·obtain⟨_,_,_,_,o,_,_,e,ex,_⟩:=I.hok p _ hk;exact⟨o,e,ex⟩
   obtain⟨o,e,ex⟩:=z;refine⟨⟨o,e,ex.1⟩,λa e2=>?_⟩;cases e2;exact⟨o,e,ex.2.1⟩
  ·obtain⟨o,_,_,_,e,ex,_⟩:=I.hok p _ hk;refine⟨⟨o,e,ex.1⟩,λa e2=>?_⟩;cases e2;exact⟨o,e,ex.2.1⟩
 |_=>exact False.elim ty
def rl(K:PySem.W.Frag)(T:String)(r:V→List V→Hp→VK→Prop)(to:TE):TE:=λσ H Q=>to σ H λx H1=>tyV K T x H1∧r x [] H1 Q
def tBM(K:PySem.W.Frag)(T:String)(r:V→List V→Hp→VK→Prop)(to:TE)(t:TA):TE:=λσ H Q=>to σ H λx H1=>tyV K T x H1∧t σ H1 λxs H2=>r x xs H2 Q
variable{o e:Expr}{es:List Expr}{to:TE}{t:TA}{name:Str}{apos cpos:Pos}{T id:String}{r:V→List V→Hp→VK→Prop}
theorem oP(pa:PlainAttrs T)(slot:Slot T name id)(hty:typeOf (.builtin id)=pure (.type "method_descriptor"))(hm:MtR X id r)(ho:PE X o to)(hbase:attributeBase o name X.env (eval o X.env)=eval o X.env:=by rfl)(hline:(apos.endLine==cpos.line)=true:=by rfl):PE X (.Call (.Attribute o name apos) [] [] cpos) (rl X.K T r to):=by
 intro pins s σ H Q I h;refine wpAny_Call_method0_late hbase hline (thn (ho pins s σ H _ I h) λv s1 hpt=>?_);obtain⟨x,H1,I1,r1,ty,q1⟩:=hpt;obtain⟨h1,h2⟩:=li I1 r1 ty;exact⟨T,id,pa,slot,hty,h1,h2,callWith_builtin rfl (PySem.evalArgs_none (hm pins s1 σ H1 x [] v [] Q I1 r1 .nil q1))⟩
theorem cY(pa:PlainAttrs T)(slot:Slot T name id)(hty:typeOf (.builtin id)=pure (.type "method_descriptor"))(hm:MtR X id r)(ho:PE X o to)(ha:PA X (e::es) t)(hbase:attributeBase o name X.env (eval o X.env)=eval o X.env:=by rfl)(hfew:((backTo cpos (starEach (e::es) X.env)).all (λx=>!x.1)&&(backToKw cpos (keywordEach [] X.env)).all (λx=>x.1.isSome)
   && decide ((e::es).length+([]:List Keyword).length+(if ([]:List Keyword).isEmpty then 0 else 1)<30))=true:=by rfl)(hline:(apos.endLine==cpos.line)=true:=by rfl)(hs:starEach (e::es) X.env=(false,eval e X.env)::starEach es X.env:=by rfl)(hplain:(backTo cpos (starEach es X.env)).any (·.1)=false:=by rfl):
  PE X (.Call (.Attribute o name apos) (e::es) [] cpos) (tBM X.K T r to t):=by
 intro pins s σ H Q I h;refine wpAny_Call_method_late hbase hfew hline rfl (thn (ho pins s σ H _ I h) λv s1 hpt=>?_);obtain⟨x,H1,I1,r1,ty,q1⟩:=hpt;obtain⟨h1,h2⟩:=li I1 r1 ty;refine⟨T,id,pa,slot,hty,h1,h2,?_⟩;have hA:=ha cpos pins s1 σ H1 _ I1 q1;rw[hs]at hA⊢;refine callWith_builtin (by show(false||(backTo cpos (starEach es X.env)).any (·.1))=false;rw[hplain]<;>rfl) (evalArgs_plain ?_);exact thn hA λus s2 ⟨vs,H2,I2,r2,q2⟩=>hm pins s2 σ H2 x vs v us Q I2 r1 r2 q2
end
def MtM(X:Cx)(id:String)(r:V→List V→Hp→VK→Prop):Prop :=
 ∀(pins:List (Addr×Obj))(s:Shared)(σ:St)(H:Hp)(x:V)(xs:List V)(v:Value)(us:List Value)(Q:VK),Inv X pins σ H s→aq x v→ao xs us→r x xs H Q →
  wpAny (model X.prog X.w) X.A (call (.builtin id) (v::us)) (EP X pins σ Q) X.xe s
theorem ao.one:∀{x:V}{us:List Value},ao [x] us→∃u,us=[u]∧aq x u
 |_,_,.cons r .nil=>⟨_,rfl,r⟩
theorem ao.two:∀{x y:V}{us:List Value},ao [x,y] us→∃u v,us=[u,v]∧aq x u∧aq y v
 |_,_,_,.cons r (.cons q .nil)=>⟨_,_,rfl,r,q⟩
theorem ao.zero:∀{us:List Value},ao [] us→us=[]
 |_,.nil=>rfl
theorem ao.dropLast{xs:List V}{us:List Value}(h:ao xs us):ao xs.dropLast us.dropLast:=by
 induction h with
 |nil=>exact .nil
 |cons r t ih =>
  cases t with
  |nil=>exact .nil
  |cons q t'=>exact .cons r ih
theorem ao.eraseIdx:∀{xs:List V}{us:List Value}(i:Nat),ao xs us→ao (xs.eraseIdx i) (us.eraseIdx i)
 |_,_,_,.nil=>.nil
 |_,_,0,.cons _ t=>t
 |_,_,i+1,.cons r t=>.cons r (ao.eraseIdx i t)
theorem ao.reverse{xs:List V}{us:List Value}(h:ao xs us):ao xs.reverse us.reverse:=by
 induction h with
 |nil=>exact .nil
 |cons r t ih=>rw[List.reverse_cons,List.reverse_cons];exact ao.append ih (.cons r .nil)
theorem iJ{α:Type}(l:List α):l.eraseIdx (l.length-1)=l.dropLast:=by
 induction l with
 |nil=>rfl
 |cons a r ih =>
  cases r with
  |nil=>rfl
  |cons b r =>
   have e:(a::b::r).length-1=((b::r).length-1)+1:=by
    have h1:(a::b::r).length=r.length+2:=rfl;have h2:(b::r).length=r.length+1:=rfl;omega
   rw[e,List.eraseIdx_cons_succ,ih]
   all_goals rfl
theorem fq{α:Type}:∀(l:List α)(i:Nat),(l.eraseIdx i).length≤l.length
 |[],_=>le_refl _
 |_::_,0=>le_succ _
 |_::r,i+1=>Nat.succ_le_succ (fq r i)
section
variable{X:Cx}{pins:List (Addr×Obj)}{σ:St}{H:Hp}{s:Shared}{l b:Addr}{xs ys zs:List V}
theorem Inv.lset{its its':List Value}{n:Nat}{f:Array Value→Array Value}{t':Nat}(I:Inv X pins σ H s)(hH:H l=some (.lst xs))(e:s.heap.get? l=some {cls:=.type "list",data:=.seq its.toArray n})(hf:f its.toArray=its'.toArray)(hv:ao ys its')(hz:ys.length≤sizeLine):
  Inv X pins σ (upd H l (.lst ys)) {s with heap:=s.heap.update l (Obj.mapSeq f),toks:=t'}:=by
 have q:=PySem.IsL.update e f;rw[hf]at q;refine I.write (x:=l) (e:=l) (by rw[hH];exact trivial) (.inl rfl) (λb' u hb hu=>(Heap.get?_update_other s.heap (Obj.mapSeq f) (symm hb)).trans hu) ⟨_,q⟩ ?_;exact⟨hz,its',_,hv,q⟩
theorem Inv.lnew{its:List Value}{t':Nat}(I:Inv X pins σ H s)(hv:ao ys its)(hz:ys.length≤sizeLine):
  Inv X pins σ (upd H s.heap.objs.size (.lst ys)) {s with heap:=s.heap.push {cls:=.type "list",data:=.seq its.toArray},toks:=t'} :=
 I.laid (λ_ _ q=>get?_push_of_some _ q) (le_refl _) ⟨hz,its,0,hv,get?_push_size _ rfl⟩
theorem Inv.fresh(I:Inv X pins σ H s):H s.heap.objs.size=none:=I.hok.fresh (le_refl _)
theorem Inv.lstM(I:Inv X pins σ H s)(hH:H l=some (.lst xs)):xs.length≤sizeLine∧∃(its:List Value) (n:Nat),ao xs its∧xs.length=its.length∧s.heap.get? l=some {cls:=.type "list",data:=.seq its.toArray n}:=by
 obtain⟨z,its,n,r,e⟩:=I.hok l _ hH;exact⟨z,its,n,r,r.length,e⟩
def mV:V→List V→Hp→VK→Prop:=λx vs H Q=>∃l xs y,x=.ref l∧vs=[y]∧H l=some (.lst xs)∧xs.length<sizeLine∧Q .non (upd H l (.lst (xs++[y])))
theorem aQ:MtM X "list.append" mV:=by
 intro pins s σ H x vs v us Q I rx rv h;obtain⟨l,xs,y,rfl,rfl,hH,hz,q⟩:=h;cases rx;obtain⟨u,rfl,ru⟩:=rv.one;obtain⟨z,its,n,r,hl,e⟩:=I.lstM hH;refine call_meets F.slot_list_append ⟨_,e,rfl⟩ F.entry_list_append (F.args_list_append_2 _ _) (PySem.list_append l its.toArray n u (by rw[size_toArray];omega)) ⟨e,?_⟩;refine⟨.non,_,I.lset (its':=its++[u]) hH e (by simp) (r.append (.cons ru .nil)) ?_,rfl,q⟩;rw[length_append,length_singleton];omega
def rm:V→List V→Hp→VK→Prop:=λx vs H Q=>∃l xs y,x=.ref l∧vs=[]∧H l=some (.lst xs)∧xs[xs.length-1]?=some y∧Q y (upd H l (.lst xs.dropLast))
theorem oQ:MtM X "list.pop" rm:=by
 intro pins s σ H x vs v us Q I rx rv h;obtain⟨l,xs,y,rfl,rfl,hH,hy,q⟩:=h;cases rx;have hus:=rv.zero;subst hus;obtain⟨z,its,n,r,hl,e⟩:=I.lstM hH;obtain⟨u,hu,ru⟩:=r.get hy;have hy':its.toArray[its.toArray.size-1]?=some u:=by
  show its.toArray[its.length-1]?=some u;rw[←getElem?_toList,←hl];exact hu
 refine call_meets F.slot_list_pop ⟨_,e,rfl⟩ F.entry_list_pop (F.args_list_pop_1 _) (MeetsSeq.list_pop_last l its.toArray n u hy' (by rw[size_toArray];omega)) ⟨e,?_⟩;refine⟨y,_,I.lset (its':=its.dropLast) hH e ?_ r.dropLast ?_,ru,q⟩
 ·show its.toArray.eraseIdxIfInBounds (its.toArray.size-1)=its.dropLast.toArray;rw[size_toArray,List.eraseIdxIfInBounds_toArray,iJ]
 ·rw[List.length_dropLast];omega
def oR:V→List V→Hp→VK→Prop:=λx vs H Q=>∃l xs i k y,x=.ref l∧vs=[.int i]∧H l=some (.lst xs)∧-(2 ^ 63)≤i∧i<2 ^ 63∧seqIndex? i xs.length=some k∧xs[k]?=some y∧Q y (upd H l (.lst (xs.eraseIdx k)))
theorem lj:MtM X "list.pop" oR:=by
 intro pins s σ H x vs v us Q I rx rv h;obtain⟨l,xs,i,k,y,rfl,rfl,hH,h1,h2,hk,hy,q⟩:=h;cases rx;obtain⟨u,rfl,ru⟩:=rv.one;obtain⟨t,rfl⟩:=ru;obtain⟨z,its,n,r,hl,e⟩:=I.lstM hH;obtain⟨w,hw,rw'⟩:=r.get hy;refine call_meets F.slot_list_pop ⟨_,e,rfl⟩ F.entry_list_pop (F.args_list_pop_2 _ _)
  (MeetsSeq.list_pop_at l its.toArray n i t k w (fitsIndex_both h1 h2) (by rw[size_toArray,←hl];exact hk) (by rw[←getElem?_toList];exact hw) (by rw[size_toArray];omega)) ⟨e,?_⟩
 refine⟨y,_,I.lset (its':=its.eraseIdx k) hH e ?_ (r.eraseIdx k) ?_,rw',q⟩
 ·show its.toArray.eraseIdxIfInBounds k=(its.eraseIdx k).toArray;rw[List.eraseIdxIfInBounds_toArray]
 ·have:=fq xs k;omega
def rn:R2:=λx y H Q=>∃l b xs zs,x=.ref l∧y=.ref b∧H l=some (.lst xs)∧H b=some (.lst zs)∧xs.length+zs.length≤sizeLine∧∀p,H p=none→Q (.ref p) (upd H p (.lst (xs++zs)))
theorem iK:OpR X (binaryOp .Add) rn:=by
 intro pins s σ H x y v u Q I rx ry h;obtain⟨l,b,xs,zs,rfl,rfl,hH,hB,hz,q⟩:=h;cases rx;cases ry;obtain⟨z,its,n,r,hl,e⟩:=I.lstM hH;obtain⟨z2,its2,n2,r2,hl2,e2⟩:=I.lstM hB;refine PySem.P.add_list e e2 ?_ (by rw[size_toArray,size_toArray];omega);have ea:its.toArray++its2.toArray=(its++its2).toArray:=by simp
 rw[ea];exact⟨.ref _,_,I.lnew (t':=s.toks) (r.append r2) (by rw[length_append];omega),rfl,q _ I.fresh⟩
end
section
variable{prog:Program}{w:World}{A:Around}{E:Value→Shared→Prop}{s:Shared}
end
section
variable{X:Cx}
end
section
variable{κ:Type}[DecidableEq κ]
def aL(kvs:List (κ×V))(k:κ):Option V:=(kvs.find? λkv=>decide (kv.1=k)).map (·.2)
def ee(kvs:List (κ×V))(k:κ)(v:V):List (κ×V) :=
 if (kvs.any λkv=>decide (kv.1=k))=true then kvs.map (λkv=>if kv.1=k then (kv.1,v)else kv)else kvs++[(k,v)]
def bq(kvs:List (κ×V))(k:κ):List (κ×V):=kvs.filter λkv=>decide (kv.1≠k)
theorem aG{p:κ×V}{r:List (κ×V)}{k:κ}(e:p.1=k):aL (p::r) k=some p.2:=by simp[aL,find?_cons,e]
theorem aA{p:κ×V}{r:List (κ×V)}{k:κ}(e:¬p.1=k):aL (p::r) k=aL r k:=by simp[aL,find?_cons,e]
theorem eA(k:κ):∀kvs:List (κ×V),(kvs.any λkv=>decide (kv.1=k))=(aL kvs k).isSome
 |[]=>rfl
 |p::r=>by
  rw[any_cons]
  by_cases e:p.1=k
  ·simp only[aG e,decide_eq_true e,Bool.true_or,Option.isSome_some]
  ·rw[aA e,decide_eq_false e,Bool.false_or];exact eA k r
theorem gP(k j:κ)(y:V):∀kvs:List (κ×V),aL (kvs.map λkv=>if kv.1=k then (kv.1,y)else kv) j=(aL kvs j).map λx=>if j=k then y else x
 |[]=>rfl
 |p::r=>by
  have ih:=gP k j y r;rw[map_cons]
  by_cases h:p.1=k
  ·rw[if_pos h]
   by_cases e:p.1=j
   ·rw[aG (p:=(p.1,y)) e,aG e,map_some,if_pos (e.symm.trans h)]
   ·rw[aA (p:=(p.1,y)) e,aA e,ih]
  ·rw[if_neg h]
   by_cases e:p.1=j
   ·rw[aG (p:=p) e,aG e,map_some,if_neg (λz=>h (e.trans z))]
   ·rw[aA (p:=p) e,aA e,ih]
theorem ft(k j:κ)(y:V):∀kvs:List (κ×V),aL kvs k=none→aL (kvs++[(k,y)]) j=if j=k then some y else aL kvs j
 |[],_=>by
  by_cases e:k=j
  ·rw[if_pos e.symm];exact aG (p:=(k,y)) e
  ·rw[if_neg (λz=>e z.symm)];exact aA (p:=(k,y)) e
 |p::r,hn=>by
  rw[List.cons_append];have hk:¬p.1=k:=λz=>by rw[aG z]at hn;cases hn
  rw[aA hk]at hn;have ih:=ft k j y r hn
  by_cases e:p.1=j
  ·rw[aG e,aG e,if_neg (λz=>hk (e.trans z))]
  ·rw[aA e,aA e,ih]
theorem ll(kvs:List (κ×V))(k j:κ)(y:V):aL (ee kvs k y) j=if j=k then some y else aL kvs j:=by
 unfold ee
 by_cases a:(kvs.any λkv=>decide (kv.1=k))=true
 ·rw[if_pos a,gP];rw[eA]at a
  by_cases e:j=k
  ·obtain⟨x,hx⟩:=Option.isSome_iff_exists.mp a;rw[if_pos e,e,hx,map_some,if_pos rfl]
  ·rw[if_neg e];cases aL kvs j with
   |none=>rfl
   |some x=>rw[map_some,if_neg e]
 ·rw[if_neg a];refine ft k j y kvs ?_;rw[eA]at a;cases q:aL kvs k with
  |none=>rfl
  |some x=>rw[q]at a;exact(a rfl).elim
theorem dC(kvs:List (κ×V))(k:κ)(v:V):(ee kvs k v).length≤kvs.length+1:=by
 unfold ee
 split
 ·rw[length_map];omega
 ·rw[length_append,length_cons,List.length_nil];omega
theorem cD.isSome_eq{o:Option V}{u:Option Value}(r:cD o u):o.isSome=u.isSome:=by
 cases o with
 |none=>cases u with
  |none=>rfl
  |some _=>exact(show False from r).elim
 |some _=>cases u with
  |none=>exact(show False from r).elim
  |some _=>rfl
theorem cD.getD{o:Option V}{u:Option Value}{d:V}{d':Value}(r:cD o u)(rd:aq d d'):aq (o.getD d) (u.getD d'):=by
 cases o with
 |none=>cases u with
  |none=>exact rd
  |some _=>exact(show False from r).elim
 |some _=>cases u with
  |none=>exact(show False from r).elim
  |some _=>exact r
theorem KV.val{kvs:List (κ×V)}{vs:List (κ×Value)}(r:KV kvs vs)(k:κ):cD (aL kvs k) (valueAt vs k):=by
 unfold KV at r
 induction r with
 |nil=>exact True.intro
 |@cons p q ps qs h t ih =>
  obtain⟨h1,h2⟩:=h
  by_cases e:p.1=k
  ·have e':q.1=k:=h1.symm.trans e;have b:valueAt (q::qs) k=some q.2:=by simp[valueAt,find?_cons,e']
   rw[aG e,b];exact h2
  ·have e':¬q.1=k:=λz=>e (h1.trans z);have b:valueAt (q::qs) k=valueAt qs k:=by simp[valueAt,find?_cons,e']
   rw[aA e,b];exact ih
theorem KV.any{kvs:List (κ×V)}{vs:List (κ×Value)}(r:KV kvs vs)(k:κ):(kvs.any λkv=>decide (kv.1=k))=vs.any λkv=>decide (kv.1=k):=by
 unfold KV at r
 induction r with
 |nil=>rfl
 |cons h t ih=>rw[any_cons,any_cons,ih,h.1]
theorem KV.repl{kvs:List (κ×V)}{vs:List (κ×Value)}(r:KV kvs vs)(k:κ){y:V}{u:Value}(ry:aq y u):
  KV (kvs.map λkv=>if kv.1=k then (kv.1,y)else kv) (vs.map λkv=>if kv.1=k then (kv.1,u)else kv):=by
 unfold KV at r⊢
 induction r with
 |nil=>exact .nil
 |@cons p q ps qs h t ih =>
  rw[map_cons,map_cons];refine .cons ?_ ih;obtain⟨h1,h2⟩:=h
  by_cases e:p.1=k
  ·rw[if_pos e,if_pos (h1.symm.trans e)];exact⟨h1,ry⟩
  ·rw[if_neg e,if_neg (λz=>e (h1.trans z))];exact⟨h1,h2⟩
theorem KV.put{kvs:List (κ×V)}{vs:List (κ×Value)}(r:KV kvs vs)(k:κ){y:V}{u:Value}(ry:aq y u):KV (ee kvs k y) (stored vs k u):=by
 unfold ee stored;rw[r.any k]
 by_cases e:(vs.any λkv=>decide (kv.1=k))=true
 ·rw[if_pos e,if_pos e];exact r.repl k ry
 ·rw[if_neg e,if_neg e];exact Paired.snoc r ⟨rfl,ry⟩
theorem KV.drop{kvs:List (κ×V)}{vs:List (κ×Value)}(r:KV kvs vs)(k:κ):KV (bq kvs k) (without vs k):=by
 unfold KV at r⊢;unfold bq without
 induction r with
 |nil=>exact .nil
 |@cons p q ps qs h t ih =>
  obtain⟨h1,h2⟩:=h;rw[filter_cons,filter_cons]
  by_cases e:p.1=k
  ·have a:¬decide (p.1≠k)=true:=by simp[e]
   have b:¬decide (q.1≠k)=true:=by simp[h1.symm.trans e]
   rw[if_neg a,if_neg b];exact ih
  ·have e':¬q.1=k:=λz=>e (h1.trans z);have a:decide (p.1≠k)=true:=by simp[e]
   have b:decide (q.1≠k)=true:=by simp[e']
   rw[if_pos a,if_pos b];exact .cons ⟨h1,h2⟩ ih
theorem KV.length{kvs:List (κ×V)}{vs:List (κ×Value)}(r:KV kvs vs):kvs.length=vs.length:=Paired.length r
theorem gQ(kvs:List (κ×V))(k:κ):(bq kvs k).length≤kvs.length:=length_filter_le _ _
end
theorem dD{P:Program}{w:World}{k:Key}{u:Value}(r:aq (kV k) u):(am P w).is k u=true:=by
 cases k with
 |inl i=>obtain⟨t,e⟩:=(show ∃t,u=Value.int i t from r);subst e;exact gG P w i t
 |inr x=>obtain⟨t,e⟩:=(show ∃t,u=Value.str x t from r);subst e;exact gH P w x t
theorem oS{a b:Key}(e:kV a=kV b):a=b:=by
 cases a with
 |inl i=>cases b with
  |inl j=>have e':V.int i=V.int j:=e;injection e' with e';rw[e']
  |inr y=>exact nomatch (show V.int i=V.str y from e)
 |inr x=>cases b with
  |inl j=>exact nomatch (show V.str x=V.int j from e)
  |inr y=>have e':V.str x=V.str y:=e;injection e' with e';rw[e']
theorem jr:∀{a b:List Key},a.map kV=b.map kV→a=b
 |[],[],_=>rfl
 |[],_::_,e=>by simp at e
 |_::_,[],e=>by simp at e
 |x::xs,y::ys,e=>by
  rw[map_cons,map_cons]at e;injection e with e1 e2
  rw[oS e1,jr e2]
theorem du{P:Program}{w:World}:∀{ks:List Key}{us:List Value},ao (ks.map kV) us→ItemsAre (am P w) ks us
 |[],_,r=>by rw[map_nil]at r;cases r;exact .nil
 |k::ks,_,r=>by
  rw[map_cons]at r;cases r with
  |cons h t=>exact .cons (dD h) (du t)
abbrev KT(H:Hp):List (List Key×V)→List (List Key×Addr×Value)→Prop:=Paired λp q=>p.1=q.1∧H q.2.1=some (.tup (p.1.map kV))∧aq p.2 q.2.2
theorem KT.val{H:Hp}{kvs:List (List Key×V)}{xs:List (List Key×Addr×Value)}(r:KT H kvs xs)(k:List Key):cD (aL kvs k) ((atKey xs k).map (·.2)):=by
 induction r with
 |nil=>exact True.intro
 |@cons p q ps qs h t ih =>
  obtain⟨h1,_,h2⟩:=h
  by_cases e:p.1=k
  ·have e':q.1=k:=h1.symm.trans e;have b:atKey (q::qs) k=some q.2:=by simp[atKey,find?_cons,e']
   rw[aG e,b];exact h2
  ·have e':¬q.1=k:=λz=>e (h1.trans z);have b:atKey (q::qs) k=atKey qs k:=by simp[atKey,find?_cons,e']
   rw[aA e,b];exact ih
section
variable{P:Program}{w:World}{H:Hp}{h:Heap}{a:Addr}
theorem og{u:HO}(ok:HOk P w H h)(e:Rd H a u):aO P w H h a u:=e.ok ok
theorem fu{kvs:List (Key×V)}(ok:HOk P w H h)(e:Rd H a (.dK kvs)):kvs.length≤sizeLine∧(a==sysModules)=false∧∃vs,KV kvs vs∧h.DictOf (am P w) a vs :=
 show aO P w H h a (.dK kvs)from og ok e
theorem lm{kvs:List (Key×V)}(ok:HOk P w H h)(e:H a=some (.dK kvs)):kvs.length≤sizeLine∧(a==sysModules)=false∧∃vs,KV kvs vs∧h.DictOf (am P w) a vs:=fu ok (.inl e)
theorem gp{ks:List Key}(ok:HOk P w H h)(e:H a=some (.tup (ks.map kV))):(tupleKind (am P w)).is h ks a:=by
 obtain⟨_,its,r,o,h1,h2,n,h3⟩:=(show aO P w H h a (.tup (ks.map kV))from ok a _ e);exact⟨o,its.toArray,n,h1,h2,h3,by simpa using du r⟩
theorem fw{kvs:List (List Key×V)}(ok:HOk P w H h)(e:Rd H a (.dT kvs)):kvs.length≤sizeLine∧(a==sysModules)=false ∧
  ∃xs,KT H kvs xs∧h.DictOfH (tupleKind (am P w)) a xs:=by
 obtain⟨z,y,xs,r,o,es,ep,h1,h2,h3,h4,h5⟩:=(show aO P w H h a (.dT kvs)from og ok e);refine⟨z,y,xs,r,o,es,ep,h1,h2,h3,h4,λx hx=>?_,h5⟩;have all:∀{l:List (List Key×V)}{m:List (List Key×Addr×Value)},KT H l m→∀x∈m,(tupleKind (am P w)).is h x.1 x.2.1:=by
  intro l m q
  induction q with
  |nil=>intro x hx;exact nomatch hx
  |@cons p q ps qs hq t ih =>
   intro x hx;rcases mem_cons.mp hx with e|hx
   ·subst e;exact gp ok (by rw[←hq.1];exact hq.2.1)
   ·exact ih x hx
 exact all r x hx
end
def gq(H:Hp)(a:Addr)(y:V)(r:Option V):Prop :=
 (∃kvs k,Rd H a (.dK kvs)∧y=kV k∧r=aL kvs k)∨∃kvs k b,Rd H a (.dT kvs)∧y=.ref b∧H b=some (.tup (k.map kV))∧r=aL kvs k
section
variable{X:Cx}{pins:List (Addr×Obj)}{σ:St}{H:Hp}{s:Shared}{a:Addr}{y v:V}{u r:Value}{o:Option V}{A:Around}{E:Value→Shared→Prop}
theorem Inv.big(I:Inv X pins σ H s):sysModules<s.heap.objs.size:=by
 have h:mainGlobals<s.heap.objs.size:=(I.mod.glob.keeps I.bk).lt;exact lt_trans (by decide) h
theorem jU{Q:Value→Shared→Prop}(hu:A.units+1<cLine)(I:Inv X pins σ H s)(g:gq H a y (some v))(ry:aq y u)(h:∀w' s',Inv X pins σ H s'→aq v w'→Q w' s'):
  wpAny (model X.prog X.w) A (getItem (.ref a) u) Q E s:=by
 rcases g with⟨kvs,k,e,ey,l⟩|⟨kvs,k,b,e,ey,eb,l⟩
 ·subst ey;obtain⟨z,hd,vs,rel,dd⟩:=fu I.hok e;obtain⟨w',hw,rw'⟩:=cD.some_of (v:=v) (o:=valueAt vs k) (by rw[l];exact rel.val k);exact wpAny_getItem_of (dD ry) dd.mapOf hw (h w' _ (I.tok _) rw')
 ·subst ey;cases (show u=Value.ref b from ry);obtain⟨z,hd,xs,rel,dd⟩:=fw I.hok e;obtain⟨w',hw,rw'⟩:=cD.some_of (v:=v) (o:=(atKey xs k).map (·.2)) (by rw[l];exact rel.val k);obtain⟨p,hp,hp2⟩:=Option.map_eq_some_iff.mp hw;refine wpAny_getItem_heap (tupleKind_room_in1 hu) (gp I.hok eb) dd hp ?_;rw[hp2];exact h w' _ (I.tok _) rw'
theorem mW{Q:Value→Shared→Prop}(hu:A.units+1<cLine)(I:Inv X pins σ H s)(g:gq H a y o)(ry:aq y u)(h:∀s',Inv X pins σ H s'→Q (.bool (!o.isSome)) s'):
  wpAny (model X.prog X.w) A (compareOp .NotIn u (.ref a)) Q E s:=by
 rcases g with⟨kvs,k,e,ey,l⟩|⟨kvs,k,b,e,ey,eb,l⟩
 ·subst ey;obtain⟨z,hd,vs,rel,dd⟩:=fu I.hok e;refine wpAny_notIn_of (dD ry) hd dd.mapOf ?_;rw[←(rel.val k).isSome_eq,←l];exact h _ (I.tok _)
 ·subst ey;cases (show u=Value.ref b from ry);obtain⟨z,hd,xs,rel,dd⟩:=fw I.hok e;refine wpAny_notIn_heap (tupleKind_room_in1 hu) (gp I.hok eb) hd dd ?_;have q:=(rel.val k).isSome_eq;rw[Option.isSome_map]at q;rw[←q,←l];exact h _ (I.tok _)
theorem jt{h':Heap}{t':Nat}{ob:HO}(I:Inv X pins σ H s)(mu:Mut (H a))(hs:SameBut a s.heap h')(he:∃q,h'.get? a=some q)(new:aO X.prog X.w (upd H a ob) h' a ob):
  Inv X pins σ (upd H a ob) {s with heap:=h',toks:=t'} :=
 I.write (x:=a) (e:=a) mu (.inl rfl) (λb q hb z=>(hs.2 b hb).trans z) he new
theorem iL{P:Program}{w:World}{H':Hp}{h':Heap}{kvs:List (Key×V)}{vs:List (Key×Value)}(z:kvs.length≤sizeLine)(hd:(a==sysModules)=false)(rel:KV kvs vs)(dd:h'.DictOf (am P w) a vs):
  aO P w H' h' a (.dK kvs):=⟨z,hd,vs,rel,dd⟩
end
section
variable{X:Cx}{pins:List (Addr×Obj)}{σ:St}{H:Hp}{s:Shared}{a:Addr}{kvs:List (Key×V)}{k:Key}{u:Value}{A:Around}{E:Value→Shared→Prop}
theorem qu{v:V}{more:List Value}{Q:Value→Shared→Prop}(I:Inv X pins σ H s)(e:H a=some (.dK kvs))(ry:aq (kV k) u)(l:aL kvs k=some v)(hm:more=[]∨∃x,more=[x])(h:∀w' s',Inv X pins σ (upd H a (.dK (bq kvs k))) s'→aq v w'→Q w' s'):wpAny (model X.prog X.w) A (call (.builtin "dict.pop") (.ref a::u::more)) Q E s:=by
 obtain⟨z,hd,vs,rel,dd⟩:=lm I.hok e;obtain⟨w',hw,rw'⟩:=cD.some_of (v:=v) (o:=valueAt vs k) (by rw[←l];exact rel.val k);have hp:(keyPart u).isSome=true:=by
  cases k with
  |inl i=>obtain⟨t,q⟩:=(show ∃t,u=Value.int i t from ry);subst q;rfl
  |inr x=>obtain⟨t,q⟩:=(show ∃t,u=Value.str x t from ry);subst q;rfl
 have ha:argsOk "dict.pop" ⟨.ref a::u::more,[]⟩:=by
  rcases hm with q|⟨x,q⟩
  ·subst q;exact PySem.F.args_dict_pop_2 _ _
  ·subst q;exact PySem.F.args_dict_pop_3 _ _ _
 refine call_meetsIn slot_dict_pop dd.typeIs PySem.F.entry_dict_pop ha (meets_dict_pop_there (am X.prog X.w) a (dD ry) more hm hp)
  ⟨vs,w',dd,by rw[←rel.length];exact z,hw,λh' dd' hs=>h w' _ ?_ rw'⟩
 have he:∃q,h'.get? a=some q:=let⟨q,_,_,hq,_⟩:=dd';⟨q,hq⟩;exact jt I (by rw[e];exact True.intro) hs he (iL (le_trans (gQ kvs k) z) hd (rel.drop k) dd')
theorem oT{r:Value}{Q:Value→Shared→Prop}(I:Inv X pins σ H s)(e:H a=some (.dK kvs))(ry:aq (kV k) u)(l:aL kvs k=none)(h:∀s',Inv X pins σ H s'→Q r s'):
  wpAny (model X.prog X.w) A (call (.builtin "dict.pop") [.ref a,u,r]) Q E s:=by
 obtain⟨z,hd,vs,rel,dd⟩:=lm I.hok e;have hn:valueAt vs k=none:=cD.none_of (by rw[←l];exact rel.val k);have hp:(keyPart u).isSome=true:=by
  cases k with
  |inl i=>obtain⟨t,q⟩:=(show ∃t,u=Value.int i t from ry);subst q;rfl
  |inr x=>obtain⟨t,q⟩:=(show ∃t,u=Value.str x t from ry);subst q;rfl
 exact call_meetsIn slot_dict_pop dd.typeIs PySem.F.entry_dict_pop (PySem.F.args_dict_pop_3 _ _ _) (meets_dict_pop_default (am X.prog X.w) a (dD ry) hd hp r) ⟨vs,dd,hn,h _ (I.tok _)⟩
end
def qv(i:Expr):Prop:=∀ov iv,subscripted i false ov iv=operate [ov,iv] (getItem ov iv)
theorem mX{prog:Program}{w:World}{A:Around}{E:Value→Shared→Prop}{s:Shared}{env:Env}{value slice:Expr}{pos:Pos}{T id:String}{Q:Value→Shared→Prop}(hl:typeLookup (.type T) "__getitem__"=pure (some (.builtin id)))(hs:qv slice)(h:wpAny (model prog w) A (eval value env) (λo s₁=>wpAny (model prog w) A (eval slice env) (λi s₂=>s₂.TypeIs o T∧wpAny (model prog w) A (getItem o i) Q E s₂) E s₁) E s):
  wpAny (model prog w) A (eval (.Subscript value slice pos) env) Q E s:=by
 refine Subscript_ (wpAny_mono h (λo s₁ h₁=>wpAny_mono h₁ (λi s₂ h₂=>?_) λ_ _ x=>x) λ_ _ x=>x);obtain⟨hT,h₂⟩:=h₂;unfold subscriptTail;refine wpAny_bind ?_;rw[getitemInPython_of_ne hT.not_modules];refine wpAny_bind (wpAny_specialOf hT hl ?_);have fin:wpAny (model prog w) A (subscripted slice false o i) (λr s₃=>wpAny (model prog w) A (letTemporaryGo value o r >>= λ_=>pure r) Q E s₃) E s₂:=by
  rw[hs o i];exact wpAny_operating (wpAny_mono h₂ (λr s₃ h₃=>wpAny_bind (wpAny_letTemporaryGo (wpAny_pure h₃))) λ_ _ x=>x)
 first
  |exact wpAny_pure (wpAny_bind fin)
  |exact wpAny_bind (wpAny_pure (wpAny_bind fin))
  |exact wpAny_bind fin
theorem gR{X:Cx}{pins:List (Addr×Obj)}{σ:St}{H:Hp}{s:Shared}{a:Addr}{y:V}{o:Option V}(I:Inv X pins σ H s)(g:gq H a y o):s.TypeIs (.ref a) "dict":=by
 rcases g with⟨kvs,k,e,_,_⟩|⟨kvs,k,b,e,_,_,_⟩
 ·obtain⟨_,_,vs,_,dd⟩:=fu I.hok e;exact dd.typeIs
 ·obtain⟨_,_,xs,_,dd⟩:=fw I.hok e;exact dd.typeIs
def qw(td ty:TE):TE:=λσ H Q=>td σ H λx H1=>ty σ H1 λy H2=>∃a v,x=.ref a∧gq H2 a y (some v)∧Q v H2
def mY(ty td:TE):TE:=λσ H Q=>ty σ H λy H1=>td σ H1 λx H2=>∃a o,x=.ref a∧gq H2 a y o∧Q (.bl (!o.isSome)) H2
section
variable{X:Cx}{o i e value:Expr}{pos pos' tpos:Pos}{td ty tv:TE}
theorem cA(hu:X.A.units+1<cLine)(ho:PE X o td)(hi:PE X i ty)(hs:qv i):PE X (.Subscript o i pos) (qw td ty):=by
 intro pins s σ H Q I h;refine mX PySem.F.slot_dict_getitem.lookup hs (thn (ho pins s σ H _ I h) λu s1 ⟨x,H1,I1,rx,q1⟩=>thn (hi pins s1 σ H1 _ I1 q1) λiv s2 hpt=>?_);obtain⟨y,H2,I2,ry,a,v,ex,g,q2⟩:=hpt;subst ex;obtain rfl:u=Value.ref a:=rx;exact⟨gR I2 g,jU hu I2 g ry λw' s3 I3 rw'=>⟨v,H2,I3,rw',q2⟩⟩
theorem jV(hu:X.A.units+1<cLine)(hi:PE X i ty)(ho:PE X o td):PC X .NotIn i o (mY ty td):=by
 intro pins s σ H Q I h;refine thn (hi pins s σ H _ I h) λiv s1 ⟨y,H1,I1,ry,q1⟩=>thn (ho pins s1 σ H1 _ I1 q1) λu s2 hpt=>?_;obtain⟨x,H2,I2,rx,a,ov,ex,g,q2⟩:=hpt;subst ex;obtain rfl:u=Value.ref a:=rx;exact mW hu I2 g ry λs3 I3=>⟨.bl (!ov.isSome),H2,I3,rfl,q2⟩
end
theorem ln{P:Program}{w:World}{H:Hp}(h:Heap)(hb:sysModules<h.objs.size):aO P w H (h.push {cls:=.type "dict",data:=.dict #[]}) h.objs.size (.dK []) :=
 ⟨zero_le _,beq_eq_false_iff_ne.mpr (symm (ne_of_lt hb)),[],.nil,Heap.DictOf.new h⟩
def oU:TE:=λ_ H Q=>∀p,H p=none→Q (.ref p) (upd H p (.dK []))
section
variable{X:Cx}{pos:Pos}
theorem lp:PE X (.Dict [] [] pos) oU:=λpins s σ H Q I h =>
 wpAny_Dict_empty ⟨.ref s.heap.objs.size,_,I.laid (a:=s.heap.objs.size) (o:=.dK []) (t':=s.toks) (λ_ _ q=>get?_push_of_some _ q) (le_refl _) (ln s.heap I.big),rfl,h _ (I.hok.fresh (le_refl _))⟩
end
structure M1(X:Cx)(o:Expr)(m:Str)(apos:Pos)(e:Expr)(cpos:Pos):Prop where
 base:attributeBase o m X.env (eval o X.env)=eval o X.env
 few:((backTo cpos (starEach [e] X.env)).all (λx=>!x.1)&&(backToKw cpos (keywordEach [] X.env)).all (λx=>x.1.isSome)
  && decide (([e]:List Expr).length+([]:List Keyword).length+(if ([]:List Keyword).isEmpty then 0 else 1)<30))=true
 line:(apos.endLine==cpos.line)=true
 trees:backTo cpos (starEach [e] X.env)=[(false,eval e X.env)]
structure M2(X:Cx)(o:Expr)(m:Str)(apos:Pos)(e f:Expr)(cpos:Pos):Prop where
 base:attributeBase o m X.env (eval o X.env)=eval o X.env
 few:((backTo cpos (starEach [e,f] X.env)).all (λx=>!x.1)&&(backToKw cpos (keywordEach [] X.env)).all (λx=>x.1.isSome)
  && decide (([e,f]:List Expr).length+([]:List Keyword).length+(if ([]:List Keyword).isEmpty then 0 else 1)<30))=true
 line:(apos.endLine==cpos.line)=true
 trees:backTo cpos (starEach [e,f] X.env)=[(false,eval e X.env),(false,eval f X.env)]
def IsD(H:Hp)(a:Addr):Prop:=(∃kvs,Rd H a (.dK kvs))∨∃kvs,Rd H a (.dT kvs)
theorem oV{X:Cx}{pins:List (Addr×Obj)}{σ:St}{H:Hp}{s:Shared}{a:Addr}(I:Inv X pins σ H s)(d:IsD H a):
  s.TypeIs (.ref a) "dict"∧(∀b,Value.ref a=.ref b→∃ob,s.heap.get? b=some ob∧ob.dict=none)∧(a==sysModules)=false:=by
 rcases d with⟨kvs,e⟩|⟨kvs,e⟩
 ·obtain⟨_,hd,vs,_,dd⟩:=fu I.hok e;refine⟨dd.typeIs,λb q=>?_,hd⟩;cases q;obtain⟨ob,_,_,h1,h2,_⟩:=dd;exact⟨ob,h1,h2.2.1⟩
 ·obtain⟨_,hd,xs,_,dd⟩:=fw I.hok e;refine⟨dd.typeIs,λb q=>?_,hd⟩;cases q;obtain⟨ob,_,_,h1,h2,_⟩:=dd;exact⟨ob,h1,h2.2.1⟩
section
variable{X:Cx}{pins:List (Addr×Obj)}{σ:St}{H:Hp}{s:Shared}{a:Addr}{y d:V}{u r:Value}{o:Option V}{A:Around}{E:Value→Shared→Prop}
theorem oW{Q:Value→Shared→Prop}(hu:A.units+1<cLine)(I:Inv X pins σ H s)(g:gq H a y o)(ry:aq y u)(h:∀w' s',Inv X pins σ H s'→aq (o.getD .non) w'→Q w' s'):
  wpAny (model X.prog X.w) A (call (.builtin "dict.get") [.ref a,u]) Q E s:=by
 rcases g with⟨kvs,k,e,ey,l⟩|⟨kvs,k,b,e,ey,eb,l⟩
 ·subst ey;obtain⟨z,hd,vs,rel,dd⟩:=fu I.hok e;refine call_meetsIn slot_dict_get dd.typeIs entry_dict_get (args_dict_get_2 _ _) (meets_dict_get (am X.prog X.w) a (dD ry) hd) ⟨_,dd.mapOf,h _ _ (I.tok _) ?_⟩;rw[l];exact(rel.val k).getD rfl
 ·subst ey;cases (show u=Value.ref b from ry);obtain⟨z,hd,xs,rel,dd⟩:=fw I.hok e;refine call_meetsIn slot_dict_get dd.typeIs entry_dict_get (args_dict_get_2 _ _) (meetsH_dict_get (tupleKind (am X.prog X.w)) a b hd) ⟨tupleKind_room_in1 hu,k,xs,gp I.hok eb,dd,h _ _ (I.tok _) ?_⟩;rw[l];exact(rel.val k).getD rfl
end
def oX(td ty tx:TE):TE:=λσ H Q=>td σ H λx H1=>∃a,x=.ref a∧IsD H1 a∧ty σ H1 λy H2=>tx σ H2 λz H3=>∃kvs k,H3 a=some (.dK kvs)∧y=kV k ∧
 (∀v,aL kvs k=some v→Q v (upd H3 a (.dK (bq kvs k))))∧(aL kvs k=none→Q z H3)
section
variable{X:Cx}{o e f:Expr}{apos cpos:Pos}{td ty tx:TE}
theorem lr(ho:PE X o td)(he:PE X e ty)(hf:PE X f tx)(m:M2 X o "pop" apos e f cpos):PE X (.Call (.Attribute o "pop" apos) [e,f] [] cpos) (oX td ty tx):=by
 intro pins s σ H Q I h;refine wpAny_Call_method m.base m.few m.line plainAttrs_dict slot_dict_pop PySem.F.type_dict_pop (thn (ho pins s σ H _ I h) λu s1 hpt=>?_);obtain⟨x,H1,I1,rx,a,ex,d,q1⟩:=hpt;subst ex;obtain rfl:u=Value.ref a:=rx;obtain⟨t1,t2,_⟩:=oV I1 d;refine⟨t1,t2,?_⟩;rw[m.trees];refine callWith_builtin rfl (evalArgs_plain (spliced_cons (thn (he pins s1 σ H1 _ I1 q1) λiv s2 ⟨y,H2,I2,ry,q2⟩ =>
  spliced_cons (thn (hf pins s2 σ H2 _ I2 q2) λfv s3 ⟨z,H3,I3,rz,kvs,k,ea,ey,q3,q4⟩=>spliced_nil ?_))))
 subst ey;cases l:aL kvs k with
 |some v=>exact qu I3 ea ry l (.inr ⟨fv,rfl⟩) λw' s4 I4 rw'=>⟨v,_,I4,rw',q3 v l⟩
 |none=>exact oT I3 ea ry l λs4 I4=>⟨z,H3,I4,rz,q4 l⟩
end
section
variable{X:Cx}{pins:List (Addr×Obj)}{σ:St}{H:Hp}{s:Shared}{a:Addr}{kvs:List (Key×V)}{A:Around}{E:Value→Shared→Prop}
end
section
variable{X:Cx}{pins:List (Addr×Obj)}{σ:St}{H:Hp}{s:Shared}{a:Addr}{y:V}{u:Value}{A:Around}{E:Value→Shared→Prop}
end
end L2
namespace Att
open PySem PySem.W PySem.Calls PyProof.Rows
theorem dL{P:Params}{h:Heap}:∀(ns:List Int)(vs:List Value),WellAll P h vs (ns.map WData.int)→IntsAre vs ns:=by
 intro ns
 induction ns with
 |nil =>
  intro vs w;rw[map_nil]at w;cases w;exact .nil
 |cons n ns ih =>
  intro vs w;rw[map_cons]at w;cases w with
  |cons a b =>
   cases a;exact .cons _ _ (ih _ b)
theorem jW{l:OpenLaw}{n:Nat}(hn:l.most=some n){P:Params}{h:Heap}{args:List WData}{vals:List Value}(hpre:l.row.toRowW.claim.pre args=true)(hwl:WellAll P h vals args):
  ∃a vs ns,vals=[Value.ref a]∧args=[WData.list (ns.map WData.int)]∧h.get? a=some {cls:=.type "list",data:=.seq vs.toArray}∧IntsAre vs ns∧ns.length≤n:=by
 have hsh:WShape.hasAll [] args [.list .int]=true:=(pre_splitW hpre).1;have hc:l.pre.holds [] {args:=args}=true:=(pre_splitW hpre).2;obtain⟨d,r,rfl,h1,h2⟩:=hasAllW_cons hsh;obtain rfl:=hasAllW_nil h2;obtain⟨xs,rfl,h3⟩:=hasW_list h1;obtain⟨ns,rfl⟩:=items_int h3;have hlen:ns.length≤n:=by
  unfold OpenLaw.pre at hc;have h4:(WTm.not (.lt (.lit (.int (n:Int))) (.len (.arg 0)))).holds [] {args:=[.list (ns.map .int)]}=true:=by
   have h4:=(holds_andW hc).1;rw[hn]at h4;exact h4
  have h5:=condW_of h4 (w_not (w_lt w_lit (w_len_list (w_arg rfl))));rw[length_map]at h5;refine Nat.le_of_not_lt λq=>?_;have q':(n:Int)<((ns.length:Nat):Int):=by omega
  first
   |(rw[decide_eq_true q']at h5;exact absurd h5 (by decide))
   |(simp at h5;omega)
 cases hwl with
 |cons w1 w2 =>
  cases w2;cases w1 with
  |list ho hall=>exact⟨_,_,ns,rfl,rfl,ho,dL ns _ hall,hlen⟩
theorem jX(l:OpenLaw)(args:List WData):l.row.toRowW.claim.post args (.bool true) args=true :=
 postW_of (r:=l.row.toRowW) (X:=(true==true))
  (show WShape.has [] (.bool true) .bool=true by first|rfl|decide|simp[WShape.has,WShape.arms,WShape.armsAll])
  (show(WTm.eq .res (.lit (.bool true))).value [] {args:=args,res:=some (.bool true),after:=args}=some (.bool (true==true))from w_eq_bool (w_res rfl) w_lit) rfl
theorem gS{l:OpenLaw}{n:Nat}{q:Program}{loose:List Str}{XP:(Str→Option Value)→Heap→Prop}{YP:World→Heap→Prop}{d:DefRec}(hn:l.most=some n)(hdf:d.params.defaults=[])(call:∀(w:World) (s₀ s₁:Shared) (mg mb:Str→Option Value) (fa:Addr) (o:Obj) (pm cd doc:Value) (a:Addr) (vs:List Value) (ns:List Int),
   Ground q loose [] XP w s₀ mg mb s₁.heap→YP w s₁.heap →
   s₁.heap.get? fa=some o→o.data=.func (docDef d.name d.params d.body d.scope pm cd doc)→s₁.heap.CodeRec cd d.name→mg d.name=some (.ref fa) →
   s₁.heap.get? a=some {cls:=.type "list",data:=.seq vs.toArray}→IntsAre vs ns→ns.length≤n→s₁.gens=#[] →
   codeAny (model l.prog w) callerA (.call (.ref fa) ⟨[.ref a],[]⟩) (λr s'=>r=.ok (.ret (.bool true))∧OldK s₁.heap s'.heap∧s'.os=s₁.os∧AllBare s'.gens) s₁):
  WalkO q loose XP YP l.row.toRowW d [] (λf vs=>PySem.call f vs):=by
 intro w s₀ s₁ mg mb G Y fa o pm cd doc dV kV ho hd hcd hD hmg hg args vals as hpre hlay hrd hwl hlo;obtain rfl:dV=.none:=Dflts.none hD hdf;obtain rfl:kV=.none:=Dflts.noKw hD;obtain⟨a,vs,ns,rfl,rfl,hobj,hints,hlen⟩:=jW hn hpre hwl;refine enter_call (codeAny_mono (call w s₀ s₁ mg mb fa o pm cd doc a vs ns G Y ho (fd_plain hd) hcd hmg hobj hints hlen hg) λr s' hq=>?_);obtain⟨rfl,h2,h3,h4⟩:=hq;exact⟨.inl ⟨.bool true,.bool true,[],rfl,λ_=>rfl,.bool true,jX l _,λ_=>⟨List.Pairwise.nil,λ_ hm=>(nomatch hm)⟩⟩,h2,h3,h4⟩
section
variable{prog:Program}{w:World}{A:Around}{E:Value→Shared→Prop}{s:Shared}{K:Frag}
end
end Att
namespace L2
open PySem PySem.Spec PyProof.Rows
theorem fz:∀{vs:List Value}{ns:List Int},IntsAre vs ns→ao (ns.map V.int) vs
 |_,_,.nil=>.nil
 |_,_,.cons n t h=>.cons ⟨t,rfl⟩ (fz h)
def cg(s:Stmt):Arguments:=match s with
 |.FunctionDef _ a _ _ _ _ _ _ _ _=>a
 |_=>{posonlyargs:=[],args:=[],vararg:=none,kwonlyargs:=[],kw_defaults:=[],kwarg:=none,defaults:=[]}
def aU(s:Stmt):List Stmt:=match s with
 |.FunctionDef _ _ b _ _ _ _ _ _ _=>b
 |_=>[]
def ai(s:Stmt):Scope:=match s with
 |.FunctionDef _ _ _ _ _ _ sc _ _ _=>sc
 |_=>{kind:=.function,names:=[],isGenerator:=false,isCoroutine:=false}
abbrev CX0:CXT:=λ_ _ _ _ _ _=>False
abbrev E0:XK:=λ_ _ _=>False
theorem aD{X:Cx}:dX CX0 X E0:=λ_ _ _ _ _ _ _ h=>h.elim
structure Fun(K:PySem.W.Frag)(x qual:Str)(st:Stmt)(f:Addr)(fd:FuncData):Prop where
 ex:∃(oc:Value) (od:Option Addr) (kV doc pm:Value) (an:Option Addr) (cdv ct:Value) (osl:Array (Option Value)),
  fd=fnOf x qual (cg st) (aU st) (ai st) .none kV doc pm an cdv ct∧K.lookup f=some ⟨oc,od,.func fd,osl⟩∧codeIn K cdv qual=true
 kp:keepIn K (.ref f)=true
section
variable{P:Program}{w:World}{K:PySem.W.Frag}{mg:Str→Option Value}{base:Heap}
theorem Fun.ok{x qual:Str}{st:Stmt}{f:Addr}{fd:FuncData}{N ps:List Str}{k:Nat}{sp:Sp}(F:Fun K x qual st f fd)(S:FnScope N ps (ai st))(len:∀vs H Q E,sp vs H Q E→vs.length=ps.length)(hbody:∀(cdv:Value) (A:Around) (outer:List Env) (s:Shared) (H:Hp) (vs:List V) (Q:VK) (E:XK),Room k (A.deeper (envOfC qual (ai st) s.heap.objs.size f cdv))→sp vs H Q E →
   ∃t,PSs (dJ CX0 P w K mg base N qual (ai st) f cdv A outer s H E).nox (aU st) t∧t {nx:=λ_ H'=>Q .non H',rt:=Q} (start N vs) H):FnOk P w K mg base CX0 (k+1) f fd ps sp:=by
 obtain⟨oc,od,kV,doc,pm,an,cdv,ct,osl,rfl,lk,hcd⟩:=F.ex;refine kZ lk hcd S len λA outer s H vs Q E hr hsp=>?_;obtain⟨t,h,q⟩:=hbody cdv A outer s H vs Q E hr hsp;exact⟨t,h.nox,q⟩
theorem Fun.binds{x qual:Str}{st:Stmt}{f:Addr}{fd:FuncData}{ps:List Str}(F:Fun K x qual st f fd)(h:∀(kV doc pm:Value) (an:Option Addr) (cdv ct:Value) (us:List Value),us.length=ps.length→bindArgs (fnOf x qual (cg st) (aU st) (ai st) .none kV doc pm an cdv ct) ⟨us,[]⟩=pure (ps.zip us)):bx K fd ps []:=by
 obtain⟨oc,od,kV,doc,pm,an,cdv,ct,osl,rfl,lk,hcd⟩:=F.ex;exact .all (h kV doc pm an cdv ct)
theorem oY{x qual:Str}{st:Stmt}{f:Addr}{oc:Value}{od an:Option Addr}{osl:Array (Option Value)}{kV doc pm cdv ct:Value}(l:K.lookup f=some ⟨oc,od,.func (fnOf x qual (cg st) (aU st) (ai st) .none kV doc pm an cdv ct),osl⟩)(c:codeIn K cdv qual=true)(k:keepIn K (.ref f)=true):Fun K x qual st f (fnOf x qual (cg st) (aU st) (ai st) .none kV doc pm an cdv ct):=⟨⟨oc,od,kV,doc,pm,an,cdv,ct,osl,rfl,l,c⟩,k⟩
end
theorem dE{A:Around}{k:Nat}(hr:Room k A):A.units+1<cLine:=lt_of_le_of_lt (Nat.add_le_add_left (by decide:1≤64) _) hr.units
theorem ay{n:Nat}(h:n≤1000):n<sizeLine:=lt_of_le_of_lt h (by decide)
section
variable{X:Cx}
theorem pv(i:Nat){x:Str}{pos:Pos}(hN:X.N[i]?=some x:=by rfl)(hv:Vis X.env.scope x:=by first|exact Or.inl rfl|exact Or.inr (Or.inl rfl)|exact Or.inr (Or.inr rfl))(hd:(x==("__debug__":Str))=false:=by decide)(hcd:(x==("__classdict__":Str))=false:=by decide):PE X (.Name x pos) (jQ i):=oB hN hv hd hcd
end
theorem aW{A B:Prop}(h:B):if false=true then A else B:=by
 rw[if_neg Bool.false_ne_true];exact h
theorem cn{A B:Prop}(h:A):if true=true then A else B:=by
 rw[if_pos rfl];exact h
theorem ro{c A B:Prop}[Decidable c](h1:c→A)(h2:¬c→B):if c then A else B:=by
 by_cases h:c
 ·rw[if_pos h];exact h1 h
 ·rw[if_neg h];exact h2 h
def Same(H H':Hp):Prop:=∀b o,H b=some o→H' b=some o
theorem Same.refl(H:Hp):Same H H:=λ_ _ h=>h
theorem Same.trans{H H1 H2:Hp}(a:Same H H1)(b:Same H1 H2):Same H H2:=λc o h=>b c o (a c o h)
theorem Same.free{H H':Hp}(e:Same H H'){l:Addr}(h:H' l=Option.none):H l=Option.none:=by
 cases q:H l with
 |none=>rfl
 |some o =>
  rw[e l o q]at h;cases h
theorem Same.seq{K:PySem.W.Frag}{H H':Hp}{a:Addr}{xs:List V}(e:Same H H')(h:SqL K H a xs):SqL K H' a xs:=by
 rcases h with (h|⟨o,h⟩)|h
 ·exact .inl (.inl (e _ _ h))
 ·exact .inl (.inr ⟨o,e _ _ h⟩)
 ·exact .inr h
section
variable{κ:Type}[DecidableEq κ]
theorem jY{p:κ×V}{r:List (κ×V)}{k:κ}(e:p.1=k):bq (p::r) k=bq r k:=by
 unfold bq;rw[filter_cons,if_neg (by simp[e])]
theorem jZ{p:κ×V}{r:List (κ×V)}{k:κ}(e:¬p.1=k):bq (p::r) k=p::bq r k:=by
 unfold bq;rw[filter_cons,if_pos (by simp[e])]
end
structure LcOk(X:Cx)(scope:Scope)(cl:List (Str×Addr)):Prop where
 kind:scope.kind=.function
 clos:closureFor scope X.env=pure cl
 names:∀x∈scope.names,x.2=.local→scope.names.lookup x.1=some .local
 nocell:∀x∈scope.names,x.2≠.cell
 cells:∀x c,cl.lookup x=some c→X.env.cells.lookup x=some c
 has:∀x,((relabel scope X.env).names.lookup x=some .cell∨(relabel scope X.env).names.lookup x=some .free)→∃c,cl.lookup x=some c
abbrev bo(X:Cx)(N:List Str)(scope:Scope)(cl:List (Str×Addr))(s:Shared)(H:Hp)(ex:List Addr):Cx :=
 {X with N:=N,s₀:=s,H₀:=H,env:=compEnvC scope cl s.heap.objs.size X.env,outer:=X.stack,stack:=X.stack,ex:=ex,fn:=λ_=>false,pn:=[],xe:=λ_ _=>False}
section
variable{X:Cx}{pins:List (Addr×Obj)}{σ:St}{H:Hp}{s:Shared}{N:List Str}{scope:Scope}{cl:List (Str×Addr)}{fp:List Addr}
theorem ju(I:Inv X pins σ H s)(L:LcOk X scope cl)(hf:∀b∈fp,cI X pins H b)(ho:∀b∈fp,b<s.heap.objs.size):(bo X N scope cl s H fp).Ok where
 mod:=I.ok.mod
 kind:=L.kind
 glob:=I.ok.glob
 blt:=I.ok.blt
 above:=le_refl _
 inj:=λx y c h1 h2=>I.ok.inj x y c (L.cells x c h1) (L.cells y c h2)
 has:=λx hx=>L.has x hx
 cab:=λx c h _=>absurd h (by simp)
 hd:=I.ok.hd
 frames:=I.ok.frames
 stk:=.inl rfl
 exf:=λb hb=>⟨ne_of_lt (ho b hb),λx c h=>(hf b hb).2.2.2.2.1 x c (L.cells x c h)⟩
 bs:=I.bs
 bsz:=le_trans I.ok.bsz I.sz
 noex:=λb o e hb=>by
  rcases (hf b hb).2.2.2.1 with z|z
  ·exact I.ok.noex b o e z
  ·exact absurd (lt_of_lt_of_le (lt_size e) (le_trans I.ok.bsz z)) (lt_irrefl _)
 exfs:=λb hb hs=>by
  rcases mem_cons.mp (I.stkSub b hs)with z|z
  ·exact(hf b hb).2.1 z
  ·exact(hf b hb).2.2.1 z
 funs:=I.stack
 frf:=I.stkFree
def br(k:Nat)(js:List Nat)(σ:St):St:=List.replicate k none++js.map λj=>(σ[j]?).getD none
theorem eB{h₁:Heap}{tk:Nat}{k:Nat}{js:List Nat}(I:Inv X pins σ H s)(L:LcOk X scope cl)(hf:∀b∈fp,cI X pins H b)(ho:∀b∈fp,b<s.heap.objs.size)(hns:∃m,h₁.Ns s.heap.objs.size m)(hk:∀b o,s.heap.get? b=some o→h₁.get? b=some o)(hN:N.length=k+js.length)(hj:∀(i j:Nat) x,js[i]?=some j→N[k+i]?=some x→X.N[j]?=some x∧Vis X.env.scope x∧X.env.scope.names.lookup x≠some .local∧((relabel scope X.env).names.lookup x=some .cell∨(relabel scope X.env).names.lookup x=some .free)):
  Inv (bo X N scope cl s H fp) [] (br k js σ) H {s with heap:=h₁,toks:=tk}:=by
 obtain⟨m,hm⟩:=hns;have cellK:∀c v,s.heap.IsCell c v→h₁.IsCell c v:=λc v ⟨o,e,d⟩=>⟨o,hk c o e,d⟩;refine⟨ju I L hf ho,rfl,I.bare,Un.kept hk,⟨m,hm,λi x v e1 e2 e3=>?_⟩,λx c e=>?_,I.hok.fresh (le_refl _),λx c e=>I.freeC x c (L.cells x c e),λp hp=>absurd (show p∈([]:List (Addr×Obj))from hp) (by simp),I.hok.kept hk,?_⟩
 ·unfold br at e2
  by_cases hi:i<k
  ·rw[getElem?_append_left (by simpa using hi),List.getElem?_replicate]at e2
   split at e2<;>cases e2
  ·obtain⟨i',rfl⟩:∃i',i=k+i':=⟨i-k,by omega⟩;rw[getElem?_append_right (by simp),List.length_replicate,Nat.add_sub_cancel_left,getElem?_map]at e2;cases ej:js[i']? with
   |none=>rw[ej]at e2;cases e2
   |some j =>
    rw[ej]at e2;have e2':(σ[j]?).getD none=some v:=Option.some.inj e2;obtain⟨h1,h2,h3,h4⟩:=hj i' j x ej e1;have e4:σ[j]?=some (some v):=by
     cases q:σ[j]? with
     |none=>rw[q]at e2';cases e2'
     |some y=>rw[q]at e2';exact congrArg some e2'
    obtain⟨m0,_,hl⟩:=I.loc;obtain⟨u,r,lk⟩:=hl j x v h1 e4 h2;refine⟨u,r,.inr ⟨h4,?_⟩⟩;rcases lk with⟨q,_⟩|⟨_,c,e5,e6⟩
    ·exact absurd q h3
    ·obtain⟨c',e7⟩:=L.has x h4;have:c'=c:=Option.some.inj ((L.cells x c' e7).symm.trans e5);subst this;exact⟨c',e7,cellK c' _ e6⟩
 ·obtain⟨v,e1⟩:=I.cell x c (L.cells x c e);exact⟨v,cellK c v e1⟩
 ·unfold br;rw[length_append,List.length_replicate,length_map];exact hN.symm
theorem iM{H':Hp}{σ':St}{s':Shared}{h':Heap}(I:Inv X pins σ H s)(hf:∀b∈fp,cI X pins H b)(J:Inv (bo X N scope cl s H fp) [] σ' H' s')(hs:SameBut s.heap.objs.size s'.heap h'):Inv X pins σ H' {s' with heap:=h'}:=by
 have ne:∀b o,s.heap.get? b=some o→b≠s.heap.objs.size:=λb o e=>ne_of_lt (lt_size e);have u:=J.base;have u':Un (frs X.stack) fp H H' s.heap h' :=
  ⟨λb o e n hb hx=>(hs.2 b (ne b o e)).trans (u.keep b o e n hb hx),λb o e n hb hx=>by
   obtain⟨sl,q⟩:=u.slot b o e n hb hx;exact⟨sl,(hs.2 b (ne b o e)).trans q⟩,u.free,λb o e hx=>by
   obtain⟨o',q⟩:=u.there b o e hx;exact⟨o',(hs.2 b (ne b o e)).trans q⟩,u.tups,u.frzs,u.tbls⟩
 have nt:∀b o,H' b=some o→b≠s.heap.objs.size:=λb o e z=>by
  have:=J.free;rw[show(bo X N scope cl s H fp).env.locals=s.heap.objs.size from rfl,←z,e]at this;cases this
 refine I.call' (s':={s' with heap:=h'}) J.os u' (λb o e=>?_) J.bare λb hb=>?_
 ·refine(J.hok b o e).stay (λc v hc q=>(hs.2 c ?_).trans q) (λ_ q=>q) λ_ _ q=>q;rcases hc with z|z
  ·rw[z];exact nt b o e
  ·exact nt c _ z
 ·obtain⟨f0,f1,f2,f3,f4,f5⟩:=hf b hb;exact⟨f3,f1,f4,f5⟩
end
section
variable{prog:Program}{w:World}{A:Around}{R:Result→Shared→Prop}{s:Shared}
theorem mZ{elt target iter:Expr}{scope:Scope}{pos:Pos}{it acc:Value}{env:Env}(I:Nat→Shared→Prop)(turn:∀n s,I n s→wpAny (model prog w) A (pyNext it) (λr s₁=>match r with
   |none=>R (.ok .next) s₁
   | some v=>wpAny (model prog w) A (letOwnedTupleGo target it v) (λ_ s₂=>wpAny (model prog w) A (assign target env v) (λ_ s₃=>wpAny (model prog w) A (eval elt env) (λx s₄ =>
     wpAny (model prog w) A (call (.builtin "list.append") [acc,x]) (λ_ s₅=>∃m,m<n∧I m s₅) (λ_ _=>False) s₄) (λ_ _=>False) s₃) (λ_ _=>False) s₂) (λ_ _=>False) s₁) (λ_ _=>False) s)(n:Nat)(h:I n s):codeAny (model prog w) A (.compLoop (.ListComp elt [⟨target,iter,[],0⟩] scope pos) 0 it acc env) R s:=by
 refine codeAny_loop rfl I (λn s hI=>?_) n h;show wpAny _ _ ((compTurn (.ListComp elt [⟨target,iter,[],0⟩] scope pos) 0 it acc env).onRaise (λx=>do noteFrame x env;theTreesLotGoes x)) _ _ s;refine wpAny_noted ?_;rw[compTurn_list1];refine wpAny_bind (wpAny_standAt (wpAny_bind (wpAny_mono (turn n s hI) (λr s₁ h₁=>?_) λ_ _ h'=>h'.elim)));cases r with
 |none=>exact wpAny_pure h₁
 |some v =>
  refine wpAny_bind (wpAny_mono h₁ (λ_ s₂ h₂=>?_) λ_ _ h'=>h'.elim);exact wpAny_bind (wpAny_mono h₂ (λ_ s₂ h₂=>wpAny_bind (wpAny_bind (wpAny_mono h₂ (λx s₃ h₃=>wpAny_bind (wpAny_mono h₃
   (λ_ s₄ h₄=>wpAny_pure (wpAny_pure ⟨rfl,h₄⟩)) λ_ _ h'=>h'.elim)) λ_ _ h'=>h'.elim))) λ_ _ h'=>h'.elim)
theorem eD(elt target iter c:Expr)(scope:Scope)(pos:Pos)(it acc:Value)(env:Env):
  compTurn (.ListComp elt [⟨target,iter,[c],0⟩] scope pos) 0 it acc env=(standAt iter.pos >>= λ_=>pyNext it >>= λr=>match r with
   |none=>pure (.done .next)
   |some v=>letOwnedTupleGo target it v >>= λ_=>assign target env v >>= λ_ =>
    (forIn [c] true λc r=>if r=true then do let ok ← isTrue c env (eval c env);pure (ForInStep.yield ok)else pure (ForInStep.yield r)) >>= λok =>
    if ok=true then (eval elt env >>= λx=>call (.builtin "list.append") [acc,x] >>= λ_=>pure ()) >>= λ_ =>
     again (.compLoop (.ListComp elt [⟨target,iter,[c],0⟩] scope pos) 0 it acc env)
    else again (.compLoop (.ListComp elt [⟨target,iter,[c],0⟩] scope pos) 0 it acc env)):=by rfl
theorem gT{elt target iter c:Expr}{scope:Scope}{pos:Pos}{it acc:Value}{env:Env}(I:Nat→Shared→Prop)(turn:∀n s,I n s→wpAny (model prog w) A (pyNext it) (λr s₁=>match r with
   |none=>R (.ok .next) s₁
   | some v=>wpAny (model prog w) A (letOwnedTupleGo target it v) (λ_ s₂=>wpAny (model prog w) A (assign target env v) (λ_ s₃=>wpAny (model prog w) A (isTrue c env (eval c env)) (λok s₃ =>
     if ok=true then wpAny (model prog w) A (eval elt env) (λx s₄ =>
      wpAny (model prog w) A (call (.builtin "list.append") [acc,x]) (λ_ s₅=>∃m,m<n∧I m s₅) (λ_ _=>False) s₄) (λ_ _=>False) s₃
     else ∃m,m<n∧I m s₃) (λ_ _=>False) s₃) (λ_ _=>False) s₂) (λ_ _=>False) s₁) (λ_ _=>False) s)(n:Nat)(h:I n s):codeAny (model prog w) A (.compLoop (.ListComp elt [⟨target,iter,[c],0⟩] scope pos) 0 it acc env) R s:=by
 refine codeAny_loop rfl I (λn s hI=>?_) n h;show wpAny _ _ ((compTurn (.ListComp elt [⟨target,iter,[c],0⟩] scope pos) 0 it acc env).onRaise (λx=>do noteFrame x env;theTreesLotGoes x)) _ _ s;refine wpAny_noted ?_;rw[eD];refine wpAny_bind (wpAny_standAt (wpAny_bind (wpAny_mono (turn n s hI) (λr s₁ h₁=>?_) λ_ _ h'=>h'.elim)));cases r with
 |none=>exact wpAny_pure h₁
 |some v =>
  refine wpAny_bind (wpAny_mono h₁ (λ_ s₂ h₂=>?_) λ_ _ h'=>h'.elim);refine wpAny_bind (wpAny_mono h₂ (λ_ s₃ h₃=>?_) λ_ _ h'=>h'.elim);rw[forIn_cons];simp only[if_true];refine wpAny_bind (wpAny_bind (wpAny_bind (wpAny_mono h₃ (λok s₄ h₄=>wpAny_pure ?_) λ_ _ h'=>h'.elim)));simp only[forIn_nil];refine wpAny_pure ?_;cases ok with
  |true =>
   rw[if_pos rfl]at h₄⊢;exact wpAny_bind (wpAny_bind (wpAny_mono h₄ (λx s₃ h₃=>wpAny_bind (wpAny_mono h₃ (λ_ s₄ h₄=>wpAny_pure (wpAny_pure ⟨rfl,h₄⟩)) λ_ _ h'=>h'.elim)) λ_ _ h'=>h'.elim))
  |false =>
   rw[if_neg (by simp)]at h₄⊢;exact wpAny_pure ⟨rfl,h₄⟩
end
def LcW(k:Nat)(js:List Nat)(g:TG)(te:TE)(σ:St)(Q:VK)(J:It)(H1:Hp)(p:Addr):Prop:=∃W:Nat→Nat→List V→St→Hp→Prop,
 (∃m,W 0 m [] (br k js σ) (upd H1 p (.lst [])))∧∀i m ys σ' H',W i m ys σ' H'→(J.stop i H'∧Q (.ref p) H') ∨
  (J.go i H'∧ys.length<sizeLine∧∀x H2,J.yld i H' x H2→g x σ' H2 λσ2 H3=>te σ2 H3 λy H4=>H4 p=some (.lst ys)∧∃m',m'<m∧W (i+1) m' (ys++[y]) σ2 (upd H4 p (.lst (ys++[y]))))
def tLc(k:Nat)(js:List Nat)(wi:TI)(g:TG)(te:TE):TE:=λσ H Q=>wi σ H λJ H1=>∀p,H1 p=none→LcW k js g te σ Q J H1 p
def qx(k:Nat)(js:List Nat)(g:TG)(tc:TT)(te:TE)(σ:St)(Q:VK)(J:It)(H1:Hp)(p:Addr):Prop:=∃W:Nat→Nat→List V→St→Hp→Prop,
 (∃m,W 0 m [] (br k js σ) (upd H1 p (.lst [])))∧∀i m ys σ' H',W i m ys σ' H'→(J.stop i H'∧Q (.ref p) H') ∨
  (J.go i H'∧ys.length<sizeLine∧∀x H2,J.yld i H' x H2→g x σ' H2 λσ2 H3=>tc σ2 H3 λb H4=>if b=true then te σ2 H4 λy H5=>H5 p=some (.lst ys)∧∃m',m'<m∧W (i+1) m' (ys++[y]) σ2 (upd H5 p (.lst (ys++[y])))
   else ∃m',m'<m∧W (i+1) m' ys σ2 H4)
def qy(k:Nat)(js:List Nat)(wi:TI)(g:TG)(tc:TT)(te:TE):TE:=λσ H Q=>wi σ H λJ H1=>∀p,H1 p=none→qx k js g tc te σ Q J H1 p
section
variable{X:Cx}{N:List Str}{scope:Scope}{cl:List (Str×Addr)}{k:Nat}{js:List Nat}
theorem gU{elt tg iter:Expr}{pos:Pos}{wi:TI}{g:TG}{te:TE}(hc:X.calm=true)(L:LcOk X scope cl)(hN:N.length=k+js.length)(hj:∀(i j:Nat) x,js[i]?=some j→N[k+i]?=some x→X.N[j]?=some x∧Vis X.env.scope x∧X.env.scope.names.lookup x≠some .local∧((relabel scope X.env).names.lookup x=some .cell∨(relabel scope X.env).names.lookup x=some .free))(hi:PI X tg iter wi)(hg:∀s H fp,PG (bo X N scope cl s H fp) tg g)(he:∀s H fp,PE (bo X N scope cl s H fp) elt te)(hs:∀x,foldedSetIterable iter X.env x=pure x:=by intro _;rfl):PE X (.ListComp elt [⟨tg,iter,[],0⟩] scope pos) (tLc k js wi g te):=by
 intro pins s σ H Q I h;rw[eval_ListComp];refine wpAny_comprehension_free (use:=none) rfl hs L.clos L.kind L.names ?_;refine thn (hi pins s σ H _ I h) λv s1 h1=>thn h1 λitv s2 h2=>?_;obtain⟨it,fp,tn,J,H2,e,I2,T,st2,f2,hW⟩:=h2;subst e;have hfp:∀b∈fp,b<s2.heap.objs.size:=λb hb=>by
  obtain⟨o,e,_⟩:=T.obj _ _ st2 b hb;exact lt_size e
 refine wpAny_newObj_type (wpAny_newFunctionEnv L.nocell (by intro y hy;simp at hy) (λh₁ hns hsb=>?_) L.kind);dsimp only at hns hsb⊢;obtain⟨W,⟨m0,w0⟩,turn⟩:=hW s2.heap.objs.size (I2.hok.fresh (le_refl _));have I3:Inv X pins σ (upd H2 s2.heap.objs.size (.lst [])) {s2 with heap:=s2.heap.push {cls:=.type "list",dict:=none,data:=.seq ([]:List Value).toArray}}:=I2.lnew (t':=s2.toks) .nil (zero_le _)
 generalize hA:s2.heap.push {cls:=.type "list",dict:=none,data:=.seq ([]:List Value).toArray}=hpA at hns hsb I3⊢;have hszA:hpA.objs.size=s2.heap.objs.size+1:=by rw[←hA,size_push]
 have keepA:∀b o,s2.heap.get? b=some o→hpA.get? b=some o:=λb o e=>by rw[←hA];exact get?_push_of_some _ e
 have f3:∀b∈fp,cI X pins (upd H2 s2.heap.objs.size (.lst [])) b:=λb hb=>⟨by rw[af (ne_of_lt (hfp b hb))];exact(f2 b hb).1,(f2 b hb).2⟩;have hfp3:∀b∈fp,b<hpA.objs.size:=λb hb=>by rw[hszA];exact lt_succ_of_lt (hfp b hb)
 have keep1:∀b o,hpA.get? b=some o→h₁.get? b=some o:=λb o e=>hsb.extBut b o (ne_of_lt (lt_size e)) (get?_push_of_some _ e);have J0:=eB (N:=N) (k:=k) (js:=js) (tk:=s2.toks+([]:List (Str×Value)).length) I3 L f3 hfp3 ⟨_,hns⟩ keep1 hN hj;have st1:tn 0 h₁:=T.keep _ _ _ st2 λb hb o e=>keep1 b o (keepA b o e);have stat:∀{H':Hp},(∀b∈fp,H' b=none)→∀b∈fp,cI (bo X N scope cl {s2 with heap:=hpA} (upd H2 s2.heap.objs.size (.lst [])) fp) [] H' b:=λhn b hb =>
  ⟨hn b hb,ne_of_lt (hfp3 b hb),(ju (N:=N) I3 L f3 hfp3).exfs b hb,.inl hb,λx c h=>(f3 b hb).2.2.2.2.1 x c (L.cells x c h),λp hp=>absurd (show p∈([]:List (Addr×Obj))from hp) (by simp)⟩
 have loop:codeAny (model X.prog X.w) X.A (.compLoop (.ListComp elt [⟨tg,iter,[],0⟩] scope pos) 0 (.ref it) (.ref s2.heap.objs.size) (compEnvC scope cl hpA.objs.size X.env))
   (compPost (model X.prog X.w) X.A X.xe none (EP X pins σ Q) (.ref s2.heap.objs.size) hpA.objs.size) {s2 with heap:=h₁,toks:=s2.toks+([]:List (Str×Value)).length}:=by
  refine mZ (λn s'=>∃i ys σ' H',Inv (bo X N scope cl {s2 with heap:=hpA} (upd H2 s2.heap.objs.size (.lst [])) fp) [] σ' H' s'∧tn i s'.heap∧(∀b∈fp,H' b=none)∧W i n ys σ' H') ?_ m0 ⟨0,[],_,_,J0,st1,λb hb=>(f3 b hb).1,w0⟩
  rintro n s3 ⟨i,ys,σ3,H3,J3,st3,fr3,w3⟩;rcases turn i n ys σ3 H3 w3 with⟨stop,qn⟩|⟨go,hlen,step⟩
  ·refine thn (T.done (bo X N scope cl {s2 with heap:=hpA} (upd H2 s2.heap.objs.size (.lst [])) fp) rfl rfl rfl hc i [] s3 σ3 H3 (λ_ _=>False) J3 (stat fr3) st3 stop) λr s4 hpt=>?_
   obtain⟨hr,J4⟩:=hpt;subst hr;obtain⟨m,hm,_⟩:=J4.loc;exact⟨m,hm,λh' hs'=>⟨.ref s2.heap.objs.size,H3,iM I3 f3 J4 hs',rfl,qn⟩⟩
  ·refine thn (T.item (bo X N scope cl {s2 with heap:=hpA} (upd H2 s2.heap.objs.size (.lst [])) fp) rfl rfl rfl hc i [] s3 σ3 H3 (λ_ _=>False) J3 (stat fr3) st3 go) λr s4 hpt=>?_
   obtain⟨u,hr,h4⟩:=hpt;subst hr;refine thn h4 λ_ s5 hpt=>?_;obtain⟨x,H5,J5,r5,y5,st5,fr5⟩:=hpt;have J5':=J5.pinned (stat fr5) (T.obj _ _ st5);refine thn (hg _ _ _ _ s5 σ3 H5 x u _ J5' r5 (step x H5 y5)) λ_ s6 hpt=>?_;obtain⟨σ6,H6,J6,q6⟩:=hpt;refine thn (he _ _ _ _ s6 σ6 H6 _ J6 q6) λy s7 hpt=>?_;obtain⟨vy,H7,J7,r7,q7,m',hm',w7⟩:=hpt;refine thn (aQ _ s7 σ6 H7 (.ref s2.heap.objs.size) [vy] _ _ (λ_ H8=>H8=upd H7 s2.heap.objs.size (.lst (ys++[vy]))) J7 rfl (.cons r7 .nil) ⟨_,ys,vy,rfl,rfl,q7,hlen,rfl⟩) λ_ s8 hpt=>?_;obtain⟨_,H8,J8,_,e8⟩:=hpt;subst e8;refine⟨m',hm',i+1,ys++[vy],σ6,_,J8.unpinned,T.keep _ _ _ st5 λb hb o e=>(J8.pin (b,o) (mem_append_right _ (mem_append_right _ (aC hb e)))).1,λb hb=>?_,w7⟩;obtain⟨o,e,d⟩:=T.obj _ _ st5 b hb;exact(J8.pin (b,o) (mem_append_right _ (mem_append_right _ (aC hb e)))).2.1
 exact codeAny_compStart_list loop (T.self _ 0 _ _ _ st1 loop)
theorem oZ{elt tg iter c:Expr}{pos:Pos}{wi:TI}{g:TG}{tc:TT}{te:TE}(hc:X.calm=true)(L:LcOk X scope cl)(hN:N.length=k+js.length)(hj:∀(i j:Nat) x,js[i]?=some j→N[k+i]?=some x→X.N[j]?=some x∧Vis X.env.scope x∧X.env.scope.names.lookup x≠some .local∧((relabel scope X.env).names.lookup x=some .cell∨(relabel scope X.env).names.lookup x=some .free))(hi:PI X tg iter wi)(hg:∀s H fp,PG (bo X N scope cl s H fp) tg g)(ht:∀s H fp,PT (bo X N scope cl s H fp) c tc)(he:∀s H fp,PE (bo X N scope cl s H fp) elt te)(hs:∀x,foldedSetIterable iter X.env x=pure x:=by intro _;rfl):PE X (.ListComp elt [⟨tg,iter,[c],0⟩] scope pos) (qy k js wi g tc te):=by
 intro pins s σ H Q I h;rw[eval_ListComp];refine wpAny_comprehension_free (use:=none) rfl hs L.clos L.kind L.names ?_;refine thn (hi pins s σ H _ I h) λv s1 h1=>thn h1 λitv s2 h2=>?_;obtain⟨it,fp,tn,J,H2,e,I2,T,st2,f2,hW⟩:=h2;subst e;have hfp:∀b∈fp,b<s2.heap.objs.size:=λb hb=>by
  obtain⟨o,e,_⟩:=T.obj _ _ st2 b hb;exact lt_size e
 refine wpAny_newObj_type (wpAny_newFunctionEnv L.nocell (by intro y hy;simp at hy) (λh₁ hns hsb=>?_) L.kind);dsimp only at hns hsb⊢;obtain⟨W,⟨m0,w0⟩,turn⟩:=hW s2.heap.objs.size (I2.hok.fresh (le_refl _));have I3:Inv X pins σ (upd H2 s2.heap.objs.size (.lst [])) {s2 with heap:=s2.heap.push {cls:=.type "list",dict:=none,data:=.seq ([]:List Value).toArray}}:=I2.lnew (t':=s2.toks) .nil (zero_le _)
 generalize hA:s2.heap.push {cls:=.type "list",dict:=none,data:=.seq ([]:List Value).toArray}=hpA at hns hsb I3⊢;have hszA:hpA.objs.size=s2.heap.objs.size+1:=by rw[←hA,size_push]
 have keepA:∀b o,s2.heap.get? b=some o→hpA.get? b=some o:=λb o e=>by rw[←hA];exact get?_push_of_some _ e
 have f3:∀b∈fp,cI X pins (upd H2 s2.heap.objs.size (.lst [])) b:=λb hb=>⟨by rw[af (ne_of_lt (hfp b hb))];exact(f2 b hb).1,(f2 b hb).2⟩;have hfp3:∀b∈fp,b<hpA.objs.size:=λb hb=>by rw[hszA];exact lt_succ_of_lt (hfp b hb)
 have keep1:∀b o,hpA.get? b=some o→h₁.get? b=some o:=λb o e=>hsb.extBut b o (ne_of_lt (lt_size e)) (get?_push_of_some _ e);have J0:=eB (N:=N) (k:=k) (js:=js) (tk:=s2.toks+([]:List (Str×Value)).length) I3 L f3 hfp3 ⟨_,hns⟩ keep1 hN hj;have st1:tn 0 h₁:=T.keep _ _ _ st2 λb hb o e=>keep1 b o (keepA b o e);have stat:∀{H':Hp},(∀b∈fp,H' b=none)→∀b∈fp,cI (bo X N scope cl {s2 with heap:=hpA} (upd H2 s2.heap.objs.size (.lst [])) fp) [] H' b:=λhn b hb =>
  ⟨hn b hb,ne_of_lt (hfp3 b hb),(ju (N:=N) I3 L f3 hfp3).exfs b hb,.inl hb,λx c h=>(f3 b hb).2.2.2.2.1 x c (L.cells x c h),λp hp=>absurd (show p∈([]:List (Addr×Obj))from hp) (by simp)⟩
 have loop:codeAny (model X.prog X.w) X.A (.compLoop (.ListComp elt [⟨tg,iter,[c],0⟩] scope pos) 0 (.ref it) (.ref s2.heap.objs.size) (compEnvC scope cl hpA.objs.size X.env))
   (compPost (model X.prog X.w) X.A X.xe none (EP X pins σ Q) (.ref s2.heap.objs.size) hpA.objs.size) {s2 with heap:=h₁,toks:=s2.toks+([]:List (Str×Value)).length}:=by
  refine gT (λn s'=>∃i ys σ' H',Inv (bo X N scope cl {s2 with heap:=hpA} (upd H2 s2.heap.objs.size (.lst [])) fp) [] σ' H' s'∧tn i s'.heap∧(∀b∈fp,H' b=none)∧W i n ys σ' H') ?_ m0 ⟨0,[],_,_,J0,st1,λb hb=>(f3 b hb).1,w0⟩
  rintro n s3 ⟨i,ys,σ3,H3,J3,st3,fr3,w3⟩;rcases turn i n ys σ3 H3 w3 with⟨stop,qn⟩|⟨go,hlen,step⟩
  ·refine thn (T.done (bo X N scope cl {s2 with heap:=hpA} (upd H2 s2.heap.objs.size (.lst [])) fp) rfl rfl rfl hc i [] s3 σ3 H3 (λ_ _=>False) J3 (stat fr3) st3 stop) λr s4 hpt=>?_
   obtain⟨hr,J4⟩:=hpt;subst hr;obtain⟨m,hm,_⟩:=J4.loc;exact⟨m,hm,λh' hs'=>⟨.ref s2.heap.objs.size,H3,iM I3 f3 J4 hs',rfl,qn⟩⟩
  ·refine thn (T.item (bo X N scope cl {s2 with heap:=hpA} (upd H2 s2.heap.objs.size (.lst [])) fp) rfl rfl rfl hc i [] s3 σ3 H3 (λ_ _=>False) J3 (stat fr3) st3 go) λr s4 hpt=>?_
   obtain⟨u,hr,h4⟩:=hpt;subst hr;refine thn h4 λ_ s5 hpt=>?_;obtain⟨x,H5,J5,r5,y5,st5,fr5⟩:=hpt;have J5':=J5.pinned (stat fr5) (T.obj _ _ st5);refine thn (hg _ _ _ _ s5 σ3 H5 x u _ J5' r5 (step x H5 y5)) λ_ s6 hpt=>?_;obtain⟨σ6,H6,J6,q6⟩:=hpt;refine thn (ht _ _ _ _ s6 σ6 H6 _ J6 q6) λb s6 hpt=>?_;obtain⟨H6,J6,q6⟩:=hpt;cases b with
   |true =>
    rw[if_pos rfl]at q6⊢;refine thn (he _ _ _ _ s6 σ6 H6 _ J6 q6) λy s7 hpt=>?_;obtain⟨vy,H7,J7,r7,q7,m',hm',w7⟩:=hpt;refine thn (aQ _ s7 σ6 H7 (.ref s2.heap.objs.size) [vy] _ _ (λ_ H8=>H8=upd H7 s2.heap.objs.size (.lst (ys++[vy]))) J7 rfl (.cons r7 .nil) ⟨_,ys,vy,rfl,rfl,q7,hlen,rfl⟩) λ_ s8 hpt=>?_;obtain⟨_,H8,J8,_,e8⟩:=hpt;subst e8;refine⟨m',hm',i+1,ys++[vy],σ6,_,J8.unpinned,T.keep _ _ _ st5 λb hb o e=>(J8.pin (b,o) (mem_append_right _ (mem_append_right _ (aC hb e)))).1,λb hb=>?_,w7⟩;obtain⟨o,e,d⟩:=T.obj _ _ st5 b hb;exact(J8.pin (b,o) (mem_append_right _ (mem_append_right _ (aC hb e)))).2.1
   |false =>
    rw[if_neg (by simp)]at q6⊢;obtain⟨m',hm',w7⟩:=q6;refine⟨m',hm',i+1,ys,σ6,_,J6.unpinned,T.keep _ _ _ st5 λb hb o e=>(J6.pin (b,o) (mem_append_right _ (mem_append_right _ (aC hb e)))).1,λb hb=>?_,w7⟩;obtain⟨o,e,d⟩:=T.obj _ _ st5 b hb;exact(J6.pin (b,o) (mem_append_right _ (mem_append_right _ (aC hb e)))).2.1
 exact codeAny_compStart_list loop (T.self _ 0 _ _ _ st1 loop)
end
end L2
namespace TB
open PySem SetTable
section
variable{prog:Program}{w:World}{K:Type}[DecidableEq K]{knd:KeyKind prog w K}{A:Around}{E:Value→Shared→Prop}{s:Shared}
end
section
variable{prog:Program}{w:World}{K:Type}[DecidableEq K](knd:KeyKind prog w K)
variable{knd}
variable{A:Around}{E:Value→Shared→Prop}{s:Shared}
end
section
variable{prog:Program}{w:World}{K:Type}[DecidableEq K]{knd:KeyKind prog w K}{A:Around}{E:Value→Shared→Prop}{s:Shared}
end
section
variable{prog:Program}{w:World}{K:Type}[DecidableEq K]{knd:KeyKind prog w K}{A:Around}{R:Result→Shared→Prop}{I:Addr}{fp wr:List Addr}{G:Array GenState→Array GenState→Prop}{n:Nat}{P:Nat→Value→Prop}{St:Nat→Shared→Prop}
end
section
variable{prog:Program}{w:World}{K:Type}[DecidableEq K]{knd:KeyKind prog w K}{A:Around}{E:Value→Shared→Prop}{s:Shared}
end
end TB
namespace SRT
open PySem PySem.W PyProof.Rows
def run{α:Type}(f:Nat→Nat→Bool):KasT α→α
 |.ret a=>a
 |.ask i j k=>run f (k (f i j))
theorem bV{α β:Type}(f:Nat→Nat→Bool)(g:α→KasT β):∀t:KasT α,run f (t.bind g)=run f (g (run f t))
 |.ret a=>rfl
 |.ask i j k=>bV f g (k (f i j))
def cZ{α:Type}(f:Nat→Nat→Bool)(n:Nat):KasT α→Prop
 |.ret _=>True
 |.ask i j k=>i<n∧j<n∧cZ f n (k (f i j))
theorem bu{α β:Type}{f:Nat→Nat→Bool}{n:Nat}{g:α→KasT β}:∀{t:KasT α},cZ f n t→cZ f n (g (run f t))→cZ f n (t.bind g)
 |.ret a,_,h=>h
 |.ask i j k,h,h'=>⟨h.1,h.2.1,bu (t:=k (f i j)) h.2.2 h'⟩
theorem gr{α:Type}{f:Nat→Nat→Bool}{n:Nat}{cmp:Nat→Nat→(Bool→Shared→Prop)→Shared→Prop}{s:Shared}(hc:∀i j C,i<n→j<n→C (f i j) s→cmp i j C s)(Q:α→Shared→Prop):∀t:KasT α,cZ f n t→Q (run f t) s→t.kasWp cmp Q s
 |.ret a,_,h=>h
 |.ask i j k,p,h=>hc i j _ p.1 p.2.1 (gr hc Q (k (f i j)) p.2.2 h)
structure Ord(f:Nat→Nat→Bool)(n:Nat):Prop where
 irr:∀i,i<n→f i i=false
 tr:∀i j k,i<n→j<n→k<n→f i j=true→f j k=true→f i k=true
 tot:∀i j,i<n→j<n→i≠j→f i j=true∨f j i=true
section
variable{f:Nat→Nat→Bool}{n:Nat}
structure Row(n:Nat)(p:Array Nat):Prop where
 perm:p.toList.Perm (List.range n)
theorem Row.size{p:Array Nat}(r:Row n p):p.size=n:=by have:=r.perm.length_eq;simpa using this
theorem Row.lt{p:Array Nat}(r:Row n p){i:Nat}(hi:i<n):p.getD i 0<n:=by
 have hs:=r.size;have:p.getD i 0∈p.toList:=by
  rw[getD_eq_getD_getElem?,Array.getElem?_eq_getElem (by omega)];exact Array.getElem_mem_toList (by omega)
 exact mem_range.mp (r.perm.mem_iff.mp this)
theorem Row.ne{p:Array Nat}(r:Row n p){i j:Nat}(hi:i<n)(hj:j<n)(hij:i≠j):p.getD i 0≠p.getD j 0:=by
 have hs:=r.size;have nd:p.toList.Nodup:=r.perm.nodup_iff.mpr List.nodup_range;rw[getD_eq_getD_getElem?,getD_eq_getD_getElem?,Array.getElem?_eq_getElem (by omega),Array.getElem?_eq_getElem (by omega)];intro e;have e':p.toList[i]'(by simpa using (by omega:i<p.size))=p.toList[j]'(by simpa using (by omega:j<p.size)):=by simpa using e
 exact hij ((getElem_inj nd).mp e')
theorem Row.rev{p:Array Nat}(r:Row n p)(i j:Nat):Row n (kas_rev p i j):=⟨(Array.perm_iff_toList_perm.mp (mirror_perm p i j _)).trans r.perm⟩
theorem Row.bub{p:Array Nat}(r:Row n p)(i j:Nat):Row n (bubble p i j):=⟨(Array.perm_iff_toList_perm.mp (bubble_perm p i j)).trans r.perm⟩
def Up(f:Nat→Nat→Bool)(p:Array Nat)(m:Nat):Prop:=∀i j,i<j→j<m→f (p.getD i 0) (p.getD j 0)=true
theorem na(O:Ord f n){p:Array Nat}(r:Row n p){m:Nat}(hm:m<n)(h1:1≤m)(u:Up f p m)(h:f (p.getD m 0) (p.getD (m-1) 0)=false):Up f p (m+1):=by
 have hl:f (p.getD (m-1) 0) (p.getD m 0)=true:=by
  rcases O.tot _ _ (r.lt (i:=m) hm) (r.lt (i:=m-1) (by omega)) (r.ne hm (by omega) (by omega))with z|z
  ·rw[h]at z;cases z
  ·exact z
 intro i j hij hj
 by_cases e:j=m
 ·subst e
  by_cases e2:i=j-1
  ·rw[e2];exact hl
  ·exact O.tr _ _ _ (r.lt (by omega)) (r.lt (by omega)) (r.lt hm) (u i (j-1) (by omega) (by omega)) hl
 ·exact u i j hij (by omega)
theorem gs(O:Ord f n){p:Array Nat}(r:Row n p):∀(fuel m:Nat),1≤m→m+fuel≤n→Up f p m →
  m≤run f (kas_asc p fuel m)∧run f (kas_asc p fuel m)≤m+fuel∧Up f p (run f (kas_asc p fuel m))∧(run f (kas_asc p fuel m)<m+fuel→f (p.getD (run f (kas_asc p fuel m)) 0) (p.getD (run f (kas_asc p fuel m)-1) 0)=true)
 |0,m,_,_,u=>⟨le_refl _,le_refl _,u,λh=>absurd h (by simp[kas_asc,run])⟩
 |fuel+1,m,h1,hm,u=>by
  cases e:f (p.getD m 0) (p.getD (m-1) 0)with
  |true =>
   have er:run f (kas_asc p (fuel+1) m)=m:=by
    show run f (if f (p.getD m 0) (p.getD (m-1) 0)=true then KasT.ret m else kas_asc p fuel (m+1))=m
    rw[e,if_pos rfl];rfl
   rw[er];exact⟨le_refl _,by omega,u,λ_=>e⟩
  |false =>
   have er:run f (kas_asc p (fuel+1) m)=run f (kas_asc p fuel (m+1)):=by
    show run f (if f (p.getD m 0) (p.getD (m-1) 0)=true then KasT.ret m else kas_asc p fuel (m+1))=_
    rw[e,if_neg (by simp)]
   rw[er];obtain⟨a1,a2,a3,a4⟩:=gs O r fuel (m+1) (by omega) (by omega) (na O r (by omega) h1 u e);exact⟨by omega,by omega,a3,λh=>a4 (by omega)⟩
def pc(f:Nat→Nat→Bool)(p:Array Nat)(m:Nat):Prop:=∀i j,i<j→j<m→f (p.getD j 0) (p.getD i 0)=true
theorem gu(O:Ord f n){p:Array Nat}(r:Row n p):∀(fuel m:Nat),1≤m→m+fuel≤n→pc f p m →
  ∃m',run f (kas_desc fuel p m 0)=(p,m',0)∧m≤m'∧m'≤m+fuel∧pc f p m'
 |0,m,_,_,u=>⟨m,rfl,le_refl _,le_refl _,u⟩
 |fuel+1,m,h1,hm,u=>by
  cases e:f (p.getD m 0) (p.getD (m-1) 0)with
  |true =>
   have er:run f (kas_desc (fuel+1) p m 0)=run f (kas_desc fuel p (m+1) 0):=by
    show run f (if f (p.getD m 0) (p.getD (m-1) 0)=true then (if 0>0 then _ else kas_desc fuel p (m+1) 0)else _)=_
    rw[e,if_pos rfl,if_neg (by omega)]
   rw[er];obtain⟨m',a1,a2,a3,a4⟩:=gu O r fuel (m+1) (by omega) (by omega) (by
    intro i j hij hj
    by_cases ej:j=m
    ·subst ej
     by_cases e2:i=j-1
     ·rw[e2];exact e
     ·exact O.tr _ _ _ (r.lt (by omega)) (r.lt (i:=j-1) (by omega)) (r.lt (by omega)) e (u i (j-1) (by omega) (by omega))
    ·exact u i j hij (by omega))
   exact⟨m',a1,by omega,by omega,a4⟩
  |false =>
   have e2:f (p.getD (m-1) 0) (p.getD m 0)=true:=by
    rcases O.tot _ _ (r.lt (i:=m) (by omega)) (r.lt (i:=m-1) (by omega)) (r.ne (by omega) (by omega) (by omega))with z|z
    ·rw[e]at z;cases z
    ·exact z
   have er:run f (kas_desc (fuel+1) p m 0)=(p,m,0):=by
    show run f (if f (p.getD m 0) (p.getD (m-1) 0)=true then _ else KasT.ask (p.getD (m-1) 0) (p.getD m 0) λd=>if d=true then .ret (p,m,0)else kas_desc fuel p (m+1) (0+1))=_
    rw[e,if_neg (by simp)];show run f (if f (p.getD (m-1) 0) (p.getD m 0)=true then KasT.ret (p,m,0)else kas_desc fuel p (m+1) (0+1))=_
    rw[e2,if_pos rfl];rfl
   exact⟨m,er,le_refl _,by omega,u⟩
theorem jv{p:Array Nat}{m:Nat}(hm:m≤p.size)(k:Nat)(hk:k<m):(kas_rev p 0 m).getD k 0=p.getD (m-1-k) 0:=by
 unfold kas_rev;rw[getD_eq_getD_getElem?,getElem?_mirror_all hm k,if_pos ⟨by omega,hk⟩,getD_eq_getD_getElem?]
 congr 2
 omega
theorem pe{p:Array Nat}{m:Nat}(hm:m≤p.size)(d:pc f p m):Up f (kas_rev p 0 m) m:=by
 intro i j hij hj;rw[jv hm i (by omega),jv hm j hj];exact d _ _ (by omega) (by omega)
theorem gW(O:Ord f n){p:Array Nat}(r:Row n p)(h2:1≤n):∃m p',run f (kas_count n p)=(m,p')∧1≤m∧m≤n∧Row n p'∧Up f p' m:=by
 obtain⟨a1,a2,a3,a4⟩:=gs O r (n-1) 1 (by omega) (by omega) (by intro i j hij hj;omega);have er:run f (kas_count n p)=run f (if (run f (kas_asc p (n-1) 1)==n)=true then KasT.ret (run f (kas_asc p (n-1) 1),p)else if run f (kas_asc p (n-1) 1)>1 then .ask (p.getD 0 0) (p.getD (run f (kas_asc p (n-1) 1)-1) 0) λc=>if c=true then .ret (run f (kas_asc p (n-1) 1),p)else kas_descPart (run f (kas_asc p (n-1) 1)) n (kas_rev p 0 (run f (kas_asc p (n-1) 1)))
  else kas_descPart (run f (kas_asc p (n-1) 1)) n p):=by
  unfold kas_count;rw[bV]
 rw[er];generalize run f (kas_asc p (n-1) 1)=m at a1 a2 a3 a4⊢
 by_cases e:m=n
 ·rw[if_pos (by simp[e])];exact⟨m,p,rfl,a1,by omega,r,a3⟩
 ·rw[if_neg (by simpa using e)]
  by_cases e1:m>1
  ·rw[if_pos e1];refine⟨m,p,?_,a1,by omega,r,a3⟩;show run f (if f (p.getD 0 0) (p.getD (m-1) 0)=true then KasT.ret (m,p)else _)=_
   rw[a3 0 (m-1) (by omega) (by omega),if_pos rfl];rfl
  ·rw[if_neg e1];have em:m=1:=by omega
   subst em;have hd:=a4 (by omega);unfold kas_descPart;obtain⟨m',b1,b2,b3,b4⟩:=gu O r (n-(1+1)) (1+1) (by omega) (by omega) (by
    intro i j hij hj;have:i=0∧j=1:=by omega
    rw[this.1,this.2];exact hd)
   rw[bV,b1];dsimp only;rw[if_neg (by omega)];unfold kas_tail3;have hs:=r.size;have ur:=pe (f:=f) (by omega:m'≤p.size) b4;obtain⟨c1,c2,c3,c4⟩:=gs O (r.rev 0 m') (n-m') m' (by omega) (by omega) ur;rw[bV];exact⟨_,_,rfl,by omega,by omega,r.rev 0 m',c3⟩
theorem db(O:Ord f n){p:Array Nat}(r:Row n p){k:Nat}(hk:k<n)(u:Up f p k):∀(fuel l r':Nat),r'-l≤fuel→l≤r'→r'≤k →
  (∀i,i<l→f (p.getD i 0) (p.getD k 0)=true)→(∀i,r'≤i→i<k→f (p.getD k 0) (p.getD i 0)=true) →
  run f (kas_place p k fuel l r')≤k∧(∀i,i<run f (kas_place p k fuel l r')→f (p.getD i 0) (p.getD k 0)=true)∧(∀i,run f (kas_place p k fuel l r')≤i→i<k→f (p.getD k 0) (p.getD i 0)=true)
 |0,l,r',h1,h2,h3,h4,h5=>by
  have:l=r':=by omega
  subst this;exact⟨h3,h4,h5⟩
 |fuel+1,l,r',h1,h2,h3,h4,h5=>by
  unfold kas_place
  by_cases e:l≥r'
  ·rw[if_pos e];have:l=r':=by omega
   subst this;exact⟨h3,h4,h5⟩
  ·rw[if_neg e];have hmid:(l+r') / 2<k:=by omega
   cases c:f (p.getD k 0) (p.getD ((l+r') / 2) 0)with
   |true =>
    have er:run f (KasT.ask (p.getD k 0) (p.getD ((l+r') / 2) 0) λc=>if c=true then kas_place p k fuel l ((l+r') / 2)else kas_place p k fuel ((l+r') / 2+1) r')=run f (kas_place p k fuel l ((l+r') / 2)):=by
     show run f (if f (p.getD k 0) (p.getD ((l+r') / 2) 0)=true then _ else _)=_
     rw[c,if_pos rfl]
    rw[er];refine db O r hk u fuel l _ (by omega) (by omega) (by omega) h4 (λi hi hik=>?_)
    by_cases ei:i=(l+r') / 2
    ·rw[ei];exact c
    ·exact O.tr _ _ _ (r.lt hk) (r.lt (i:=(l+r') / 2) (by omega)) (r.lt (by omega)) c (u _ _ (by omega) hik)
   |false =>
    have er:run f (KasT.ask (p.getD k 0) (p.getD ((l+r') / 2) 0) λc=>if c=true then kas_place p k fuel l ((l+r') / 2)else kas_place p k fuel ((l+r') / 2+1) r')=run f (kas_place p k fuel ((l+r') / 2+1) r'):=by
     show run f (if f (p.getD k 0) (p.getD ((l+r') / 2) 0)=true then _ else _)=_
     rw[c,if_neg (by simp)]
    rw[er];have c':f (p.getD ((l+r') / 2) 0) (p.getD k 0)=true:=by
     rcases O.tot _ _ (r.lt (i:=k) hk) (r.lt (i:=(l+r') / 2) (by omega)) (r.ne hk (by omega) (by omega))with z|z
     ·rw[c]at z;cases z
     ·exact z
    refine db O r hk u fuel _ r' (by omega) (by omega) h3 (λi hi=>?_) h5
    by_cases ei:i=(l+r') / 2
    ·rw[ei];exact c'
    ·exact O.tr _ _ _ (r.lt (by omega)) (r.lt (i:=(l+r') / 2) (by omega)) (r.lt hk) (u i _ (by omega) (by omega)) c'
theorem dP{p:Array Nat}{k l:Nat}(hk:k<p.size)(hl:l≤k)(i:Nat):(bubble p k (k-l)).getD i 0=if i=l then p.getD k 0 else if l<i∧i≤k then p.getD (i-1) 0 else p.getD i 0:=by
 simp only[getD_eq_getD_getElem?];rw[getElem?_bubble hk (k-l) (by omega) i];have e:k-(k-l)=l:=by omega
 rw[e]
 by_cases h1:i=l
 ·rw[if_pos h1,if_pos h1]
 ·rw[if_neg h1,if_neg h1]
  by_cases h2:l<i∧i≤k
  ·rw[if_pos h2,if_pos h2]
  ·rw[if_neg h2,if_neg h2]
theorem ls(O:Ord f n):∀(fuel:Nat)(p:Array Nat)(k:Nat),Row n p→k+fuel=n→Up f p k→Row n (run f (kas_bin fuel p k))∧Up f (run f (kas_bin fuel p k)) n
 |0,p,k,r,hk,u=>by
  have:k=n:=by omega
  subst this;exact⟨r,u⟩
 |fuel+1,p,k,r,hk,u=>by
  have hkn:k<n:=by omega
  obtain⟨a1,a2,a3⟩:=db O r hkn u k 0 k (by omega) (by omega) (le_refl _) (λi hi=>by omega) (λi h1 h2=>by omega);have er:run f (kas_bin (fuel+1) p k)=run f (kas_bin fuel (bubble p k (k-run f (kas_place p k k 0 k))) (k+1)):=by
   show run f ((kas_place p k k 0 k).bind λl=>kas_bin fuel (bubble p k (k-l)) (k+1))=_;rw[bV]
  rw[er];generalize run f (kas_place p k k 0 k)=l at a1 a2 a3⊢;have hs:=r.size;refine ls O fuel _ (k+1) (r.bub _ _) (by omega) ?_;intro i j hij hj;rw[dP (by omega) a1 i,dP (by omega) a1 j]
  by_cases ei:i=l
  ·rw[if_pos ei,if_neg (by omega),if_pos ⟨by omega,by omega⟩];exact a3 (j-1) (by omega) (by omega)
  ·rw[if_neg ei]
   by_cases ej:j=l
   ·rw[if_pos ej,if_neg (by omega)];exact a2 i (by omega)
   ·rw[if_neg ej]
    by_cases hi2:l<i∧i≤k
    ·rw[if_pos hi2,if_pos ⟨by omega,by omega⟩];exact u _ _ (by omega) (by omega)
    ·rw[if_neg hi2]
     by_cases hj2:l<j∧j≤k
     ·rw[if_pos hj2]
      by_cases e3:i=j-1
      ·omega
      ·exact u i (j-1) (by omega) (by omega)
     ·rw[if_neg hj2];exact u i j hij (by omega)
theorem eE{p:Array Nat}(r:Row n p):∀(fuel m:Nat),1≤m→m+fuel≤n→cZ f n (kas_asc p fuel m)
 |0,m,_,_=>trivial
 |fuel+1,m,h1,hm=>by
  refine⟨r.lt (by omega),r.lt (by omega),?_⟩;show cZ f n (if f (p.getD m 0) (p.getD (m-1) 0)=true then KasT.ret m else kas_asc p fuel (m+1))
  split
  ·exact trivial
  ·exact eE r fuel (m+1) (by omega) (by omega)
theorem fA(O:Ord f n){p:Array Nat}(r:Row n p):∀(fuel m:Nat),1≤m→m+fuel≤n→cZ f n (kas_desc fuel p m 0)
 |0,m,_,_=>trivial
 |fuel+1,m,h1,hm=>by
  refine⟨r.lt (by omega),r.lt (by omega),?_⟩;show cZ f n (if f (p.getD m 0) (p.getD (m-1) 0)=true then (if 0>0 then _ else kas_desc fuel p (m+1) 0)else KasT.ask (p.getD (m-1) 0) (p.getD m 0) λd=>if d=true then .ret (p,m,0)else kas_desc fuel p (m+1) (0+1))
  cases e:f (p.getD m 0) (p.getD (m-1) 0)with
  |true =>
   rw[if_pos rfl,if_neg (by omega)];exact fA O r fuel (m+1) (by omega) (by omega)
  |false =>
   rw[if_neg (by simp)];have e2:f (p.getD (m-1) 0) (p.getD m 0)=true:=by
    rcases O.tot _ _ (r.lt (i:=m) (by omega)) (r.lt (i:=m-1) (by omega)) (r.ne (by omega) (by omega) (by omega))with z|z
    ·rw[e]at z;cases z
    ·exact z
   refine⟨r.lt (by omega),r.lt (by omega),?_⟩;dsimp only;rw[e2,if_pos rfl];exact trivial
theorem iN(O:Ord f n){p:Array Nat}(r:Row n p)(h2:1≤n):cZ f n (kas_count n p):=by
 obtain⟨a1,a2,a3,a4⟩:=gs O r (n-1) 1 (by omega) (by omega) (by intro i j hij hj;omega);unfold kas_count;refine bu (eE r _ _ (by omega) (by omega)) ?_;generalize run f (kas_asc p (n-1) 1)=m at a1 a2 a3 a4⊢
 by_cases e:m=n
 ·rw[if_pos (by simp[e])];exact trivial
 ·rw[if_neg (by simpa using e)]
  by_cases e1:m>1
  ·rw[if_pos e1];refine⟨r.lt (by omega),r.lt (by omega),?_⟩;dsimp only;rw[a3 0 (m-1) (by omega) (by omega),if_pos rfl];exact trivial
  ·rw[if_neg e1];have em:m=1:=by omega
   subst em;have hd:=a4 (by omega);unfold kas_descPart;refine bu (fA O r _ _ (by omega) (by omega)) ?_;obtain⟨m',b1,b2,b3,b4⟩:=gu O r (n-(1+1)) (1+1) (by omega) (by omega) (by
    intro i j hij hj;have:i=0∧j=1:=by omega
    rw[this.1,this.2];exact hd)
   rw[b1];dsimp only;rw[if_neg (by omega)];unfold kas_tail3;exact bu (eE (r.rev 0 m') _ _ (by omega) (by omega)) trivial
theorem cJ{p:Array Nat}(r:Row n p){k:Nat}(hk:k<n):∀(fuel l r':Nat),r'≤k→cZ f n (kas_place p k fuel l r')
 |0,l,r',_=>trivial
 |fuel+1,l,r',h=>by
  unfold kas_place
  by_cases e:l≥r'
  ·rw[if_pos e];exact trivial
  ·rw[if_neg e];refine⟨r.lt hk,r.lt (by omega),?_⟩;dsimp only
   split
   ·exact cJ r hk fuel _ _ (by omega)
   ·exact cJ r hk fuel _ _ h
theorem gX(O:Ord f n):∀(fuel:Nat)(p:Array Nat)(k:Nat),Row n p→k+fuel=n→Up f p k→cZ f n (kas_bin fuel p k)
 |0,p,k,r,hk,u=>trivial
 |fuel+1,p,k,r,hk,u=>by
  have hkn:k<n:=by omega
  show cZ f n ((kas_place p k k 0 k).bind λl=>kas_bin fuel (bubble p k (k-l)) (k+1));refine bu (cJ r hkn _ _ _ (le_refl _)) ?_;obtain⟨a1,a2,a3⟩:=db O r hkn u k 0 k (by omega) (by omega) (le_refl _) (λi hi=>by omega) (λi h1 h2=>by omega);generalize run f (kas_place p k k 0 k)=l at a1 a2 a3⊢;have hs:=r.size;refine gX O fuel _ (k+1) (r.bub _ _) (by omega) ?_;intro i j hij hj;rw[dP (by omega) a1 i,dP (by omega) a1 j]
  by_cases ei:i=l
  ·rw[if_pos ei,if_neg (by omega),if_pos ⟨by omega,by omega⟩];exact a3 (j-1) (by omega) (by omega)
  ·rw[if_neg ei]
   by_cases ej:j=l
   ·rw[if_pos ej,if_neg (by omega)];exact a2 i (by omega)
   ·rw[if_neg ej]
    by_cases hi2:l<i∧i≤k
    ·rw[if_pos hi2,if_pos ⟨by omega,by omega⟩];exact u _ _ (by omega) (by omega)
    ·rw[if_neg hi2]
     by_cases hj2:l<j∧j≤k
     ·rw[if_pos hj2]
      by_cases e3:i=j-1
      ·omega
      ·exact u i (j-1) (by omega) (by omega)
     ·rw[if_neg hj2];exact u i j hij (by omega)
theorem fE(O:Ord f n)(h:1≤n):cZ f n (kas_sort n):=by
 have r0:Row n (toArray (List.range n)):=⟨by simp⟩;obtain⟨m,p',e,h1,h2,r,u⟩:=gW O r0 h;unfold kas_sort;refine bu (iN O r0 h) ?_;rw[e];dsimp only
 by_cases hm:m<n
 ·rw[if_pos hm];have:max m 1=m:=by omega
  rw[this];exact gX O (n-m) p' m r (by omega) u
 ·rw[if_neg hm];exact trivial
theorem jw(O:Ord f n)(h:1≤n):Row n (run f (kas_sort n))∧Up f (run f (kas_sort n)) n:=by
 have r0:Row n (toArray (List.range n)):=⟨by simp⟩;obtain⟨m,p',e,h1,h2,r,u⟩:=gW O r0 h;unfold kas_sort;rw[bV,e];dsimp only
 by_cases hm:m<n
 ·rw[if_pos hm];have:max m 1=m:=by omega
  rw[this];exact ls O (n-m) p' m r (by omega) u
 ·rw[if_neg hm];have:m=n:=by omega
  subst this;exact⟨r,u⟩
end
section
variable{prog:Program}{w:World}{A:Around}{E:Value→Shared→Prop}{s:Shared}
theorem nb{vs:List Value}(h:vs.length<2):((vs.toArray.zip vs.toArray).map (·.2)).toList=(toArray ((toArray (List.range vs.length)).toList.map λi=>vs.getD i Value.none)).toList:=by
 cases vs with
 |nil=>simp
 |cons v r =>
  cases r with
  |nil=>simp
  |cons u r=>exact absurd h (by simp)
theorem dc{f:Nat→Nat→Bool}{a:Addr}{vs:List Value}{n:Nat}{κ:SortKind}{P:PySem.Fin→Shared→Prop}(O:Ord f vs.length)(ho:s.heap.get? a=some (seqObj "list" vs.toArray n))(h64:vs.length<64)(hk:∀s':Shared,(∀b o,b≠a→s.heap.get? b=some o→s'.heap.get? b=some o)→∀Q:SortKind→Shared→Prop,2≤vs.length→Q κ s'→wpAny (model prog w) A (keyKind' vs.toArray) Q (λ_ _=>False) s')(hlt:∀s':Shared,(∀b o,b≠a→s.heap.get? b=some o→s'.heap.get? b=some o)→∀(i j:Nat) (C:Bool→Shared→Prop),i<vs.length→j<vs.length→C (f i j) s'→wpAny (model prog w) A (keyLt' κ (vs.getD i Value.none) (vs.getD j Value.none)) C (λ_ _=>False) s')(h:∀p:Array Nat,Row vs.length p→Up f p vs.length→P (.done (.ret .none)) {s with heap:=sortedHeap s.heap a vs (toArray (p.toList.map λi=>vs.getD i Value.none))}):
  wpAny (model prog w) A (Builtin.«list.sort» ⟨[.ref a],[]⟩) P E s:=by
 have ha:a<s.heap.objs.size:=lt_size ho;have s1:=SameBut.update s.heap a (Obj.mapSeq λ_=>(#[]:Array Value));obtain⟨e1,ho1⟩:∃e1,(s.heap.update a (Obj.mapSeq λ_=>(#[]:Array Value))).get? a=some (seqObj "list" #[] e1):=⟨_,get?_update_seq ho λ_=>#[]⟩;rw[list_sort_plain];refine wpAny_bind (listItems_at ho rfl ?_);refine wpAny_bind (listUpdate_at ho rfl ?_ (by rw[size_toArray,sizeLine_eq];omega) (zero_le _));refine wpAny_bind (seqEpoch_at ho1 rfl ?_);refine wpAny_bind (wpAny_newTuple ?_ (by show vs.length≤_;rw[sizeLine_eq];omega));refine wpAny_bind (wpAny_newList ?_ (zero_le _));refine wpAny_holding ?_;have ho6:(((s.heap.update a (Obj.mapSeq λ_=>(#[]:Array Value))).push (seqObj "tuple" vs.toArray 0)).push (seqObj "list" #[] 0)).get? a=some (seqObj "list" #[] e1):=get?_push_of_some _ (get?_push_of_some _ ho1);have keep:∀b o,b≠a→s.heap.get? b=some o→(((s.heap.update a (Obj.mapSeq λ_=>(#[]:Array Value))).push (seqObj "tuple" vs.toArray 0)).push (seqObj "list" #[] 0)).get? b=some o:=λb o hb e =>
  get?_push_of_some _ (get?_push_of_some _ ((s1.2 b hb).trans e))
 show wpAny (model prog w) A _ P E {s with heap:=((s.heap.update a (Obj.mapSeq λ_=>(#[]:Array Value))).push (seqObj "tuple" vs.toArray 0)).push (seqObj "list" #[] 0)}
 dsimp only
 by_cases hn2:vs.toArray.size<2
 ·rw[if_pos hn2,if_pos hn2];refine wpAny_bind (wpAny_pure ?_);rw[StateT.run_pure];refine wpAny_bind (wpAny_pure ?_);dsimp only;have hn2':vs.length<2:=by simpa using hn2
  have hr:Row vs.length (toArray (List.range vs.length)):=⟨by simp⟩;have hu:Up f (toArray (List.range vs.length)) vs.length:=λi j hij hj=>by omega
  have e2:(arrOf (SortSt.mk' general' (vs.toArray.zip vs.toArray) #[] 7 none)).map (·.2)=toArray ((toArray (List.range vs.length)).toList.map λi=>vs.getD i Value.none):=by
   show(vs.toArray.zip vs.toArray).map (·.2)=_;apply toList_inj.mp;exact nb hn2'
  refine wpAny_bind (seqEpoch_at ho6 rfl ?_);rw[e2];refine wpAny_bind (listUpdate_at ho6 rfl ?_ (zero_le _) (by rw[size_toArray,length_map,length_toList,hr.size,sizeLine_eq];omega));show wpAny _ _ (if (e1 != e1)=true then _ else _) _ _ _
  simp only[bne_self_eq_false,false_eq_true,if_false];exact wpAny_pure (h _ hr hu)
 ·have hn2':2≤vs.length:=by rw[size_toArray]at hn2;omega
  rw[if_neg hn2,if_neg hn2];refine wpAny_bind (wpAny_mono (hk {s with heap:=((s.heap.update a (Obj.mapSeq λ_=>(#[]:Array Value))).push (seqObj "tuple" vs.toArray 0)).push (seqObj "list" #[] 0)} keep (λk' s'=>k'=κ∧s'={s with heap:=((s.heap.update a (Obj.mapSeq λ_=>(#[]:Array Value))).push (seqObj "tuple" vs.toArray 0)).push (seqObj "list" #[] 0)}) hn2' ⟨rfl,rfl⟩) (λκ' s0 hes=>?_) λ_ _ x=>x.elim)
  obtain⟨ek,es⟩:=hes;subst ek es;obtain⟨hrow,hup⟩:=jw O (by omega:1≤vs.length);refine wpAny_bind (wpAny_mono (kat_run (Q:=λst' s'=>∃p:Array Nat,p.size=vs.length∧arrOf st'=p.map (kas_item (vs.toArray.zip vs.toArray))∧failedOf st'=none∧p=run f (kas_sort vs.length)∧s'={s with heap:=((s.heap.update a (Obj.mapSeq λ_=>(#[]:Array Value))).push (seqObj "tuple" vs.toArray 0)).push (seqObj "list" #[] 0)})
   rfl hn2' h64 (λp' st' s' a1 a2 a3 a4=>⟨p',a1,a2,a3,a4⟩) (gr (n:=vs.length) (λi j C hi hj hC=>hlt _ keep i j C hi hj hC) (λp s'=>p=run f (kas_sort vs.length)∧s'={s with heap:=((s.heap.update a (Obj.mapSeq λ_=>(#[]:Array Value))).push (seqObj "tuple" vs.toArray 0)).push (seqObj "list" #[] 0)}) _ (fE O (by omega)) ⟨rfl,rfl⟩)) ?_ λ_ _ e=>e)
  rintro⟨⟨⟩,st'⟩ s' ⟨p,hp,har,hf,ep,es⟩;subst es;dsimp only;have hout:=kat_snds (ks:=vs) rfl har;refine wpAny_bind (seqEpoch_at ho6 rfl ?_);rw[hout];refine wpAny_bind (listUpdate_at ho6 rfl ?_ (zero_le _) (by rw[size_toArray,length_map,length_toList,hp,sizeLine_eq];omega));rw[hf];simp only[bne_self_eq_false,false_eq_true,if_false];rw[ep];exact wpAny_pure (h _ hrow hup)
theorem gY{l:Addr}{vs:List Value}{Q:List Value→Shared→Prop}(hl:IsTup s.heap l vs.toArray)(h:Q vs {s with heap:=(s.heap.push (seqObj "list" #[] 0)).update s.heap.objs.size (Obj.mapSeq (· ++ vs.toArray))})(hsz:vs.length≤sizeLine):
  wpAny (model prog w) A (collect (.ref l)) Q E s:=by
 obtain⟨o,ho,hc,n,hd⟩:=id hl;unfold collect;refine wpAny_bind (wpAny_runValue (codeAny_builtin entry_proto_collect' ?_));show wpAny _ _ (do again (.builtin "list.__iadd__" ⟨[←newList [],.ref l],[]⟩)) _ _ s
 refine wpAny_bind (wpAny_newList (wpAny_pure ⟨Code.quiet_builtin _ (by decide +kernel),codeAny_builtin entry_list_iadd' ?_⟩));show wpAny _ _ (Builtin.List.listExtendWith (.ref s.heap.objs.size) (.ref l) (.ref s.heap.objs.size)) _ _ {s with heap:=s.heap.push (seqObj "list" #[] 0)}
 unfold Builtin.List.listExtendWith;have ho':(s.heap.push (seqObj "list" #[] 0)).get? l=some o:=get?_push_of_some _ ho;refine wpAny_bind (wpAny_typeOf (T:="tuple") ⟨o,ho',hc⟩ ?_);have ht:(type "tuple"==type "tuple")=true:=by rfl
 rw[if_pos (by rw[ht];simp)];refine wpAny_bind (listItems_at ho' hd ?_);refine wpAny_bind (listItems_at (xs:=#[]) (n:=0) (get?_push_size _ rfl) rfl ?_);rw[if_neg (by simp)];refine wpAny_bind (listUpdate_at (xs:=#[]) (n:=0) (get?_push_size _ rfl) rfl ?_ (zero_le _) (by show(#[]++vs.toArray).size≤sizeLine+1;simp only[Array.size_append,size_toArray,List.length_nil];omega));refine wpAny_pure ?_;show wpAny (model prog w) A (do
   let o ← load s.heap.objs.size
   match o.data with
   |.seq xs _=>pure xs.toList
   | _=>unsupported "internal:collect") Q E {s with heap:=(s.heap.push (seqObj "list" #[] 0)).update s.heap.objs.size (Obj.mapSeq (· ++ vs.toArray))}
 refine wpAny_bind (wpAny_load (get?_update_seq (get?_push_size _ rfl) _) ?_);show wpAny _ _ (pure ((#[]:Array Value)++vs.toArray).toList) Q E _;rw[show((#[]:Array Value)++vs.toArray).toList=vs by simp];exact wpAny_pure h
theorem gZ{l:Addr}{vs:List Value}{Q:List Value→Shared→Prop}(hl:s.heap.IsList l vs.toArray∨IsTup s.heap l vs.toArray)(h:Q vs {s with heap:=(s.heap.push (seqObj "list" #[] 0)).update s.heap.objs.size (Obj.mapSeq (· ++ vs.toArray))})(hsz:vs.length≤sizeLine):
  wpAny (model prog w) A (collect (.ref l)) Q E s:=by
 rcases hl with hl|hl
 ·exact collect_list hl h hsz
 ·exact gY hl h hsz
theorem eF{f:Nat→Nat→Bool}{l:Addr}{vs:List Value}{κ:SortKind}{Q:Value→Shared→Prop}(O:Ord f vs.length)(hl:s.heap.IsList l vs.toArray∨IsTup s.heap l vs.toArray)(h64:vs.length<64)(hk:∀(A':Around) (s':Shared),A'.units≤A.units+2→(∀b o,s.heap.get? b=some o→s'.heap.get? b=some o)→∀Q:SortKind→Shared→Prop,2≤vs.length→Q κ s'→wpAny (model prog w) A' (keyKind' vs.toArray) Q (λ_ _=>False) s')(hlt:∀(A':Around) (s':Shared),A'.units≤A.units+2→(∀b o,s.heap.get? b=some o→s'.heap.get? b=some o)→∀(i j:Nat) (C:Bool→Shared→Prop),i<vs.length→j<vs.length→C (f i j) s'→wpAny (model prog w) A' (keyLt' κ (vs.getD i Value.none) (vs.getD j Value.none)) C (λ_ _=>False) s')(h:∀(p:Array Nat) (h':Heap),Row vs.length p→Up f p vs.length→(∀b o,s.heap.get? b=some o→h'.get? b=some o)→s.heap.objs.size≤s.heap.objs.size+1→(∃k,h'.get? (s.heap.objs.size+1)=some (seqObj "list" (toArray (p.toList.map λi=>vs.getD i Value.none)) k))→Q (.ref (s.heap.objs.size+1)) {s with heap:=h'}):
  wpAny (model prog w) A (call (.builtin "sorted") [.ref l]) Q E s:=by
 refine Calls.call_function_entry kind_sorted plain_sorted entry_sorted (args_sorted1 _) ?_;unfold Builtin.«sorted»;refine wpAny_bind (m:=checkCount "sorted" 1 1 _) (wpAny_pure ?_);refine wpAny_bind (gZ hl ?_ (by rw[sizeLine_eq];omega));refine wpAny_bind (wpAny_newList ?_ (by rw[sizeLine_eq];omega));have hsz:((s.heap.push (seqObj "list" #[] 0)).update s.heap.objs.size (Obj.mapSeq (· ++ vs.toArray))).objs.size=s.heap.objs.size+1:=by
  rw[size_update,size_push']
 have hoL:(((s.heap.push (seqObj "list" #[] 0)).update s.heap.objs.size (Obj.mapSeq (· ++ vs.toArray))).push (seqObj "list" vs.toArray 0)).get? (s.heap.objs.size+1)=some (seqObj "list" vs.toArray 0):=by
  rw[←hsz];exact get?_push_size _ rfl
 have keep:∀b o,s.heap.get? b=some o→(((s.heap.push (seqObj "list" #[] 0)).update s.heap.objs.size (Obj.mapSeq (· ++ vs.toArray))).push (seqObj "list" vs.toArray 0)).get? b=some o:=λb o q=>by
  have hlt:b<s.heap.objs.size:=lt_size q;rw[get?_push_ne _ _ _ (by rw[hsz];exact ne_of_lt (lt_succ_of_lt hlt)),get?_update_ne _ _ _ _ (ne_of_lt hlt),get?_push_ne _ _ _ (ne_of_lt hlt)];exact q
 have neD:∀b o,s.heap.get? b=some o→b≠s.heap.objs.size+1:=λb o q=>ne_of_lt (lt_succ_of_lt (lt_size q));show wpAny _ _ _ _ _ {s with heap:=((s.heap.push (seqObj "list" #[] 0)).update s.heap.objs.size (Obj.mapSeq (· ++ vs.toArray))).push (seqObj "list" vs.toArray 0)}
 rw[hsz];refine wpAny_bind (wpAny_holding (wpAny_call_entry slot_list_sort ⟨_,hoL,rfl⟩ entry_list_sort (dc (κ:=κ) (s:={s with heap:=((s.heap.push (seqObj "list" #[] 0)).update s.heap.objs.size (Obj.mapSeq (· ++ vs.toArray))).push (seqObj "list" vs.toArray 0)}) O hoL h64 ?_ ?_ λp hr hu=>⟨_,rfl,?_⟩) (args_list_sort _)))
 ·intro s' hs' Q' h2 hq;exact hk _ s' (by simp[Around.in1_units]) (λb o e=>hs' b o (neD b o e) (keep b o e)) Q' h2 hq
 ·intro s' hs' i j C hi hj hC;exact hlt _ s' (by simp[Around.in1_units]) (λb o e=>hs' b o (neD b o e) (keep b o e)) i j C hi hj hC
 ·refine wpAny_pure ⟨_,rfl,h p _ hr hu (λb o e=>?_) (le_succ _) ?_⟩
  ·unfold sortedHeap;rw[get?_update_ne _ _ _ _ (neD b o e)];refine get?_push_of_some _ (get?_push_of_some _ ?_);rw[get?_update_ne _ _ _ _ (neD b o e)];exact keep b o e
  ·unfold sortedHeap;obtain⟨e1,ho1⟩:∃e1,((((s.heap.push (seqObj "list" #[] 0)).update s.heap.objs.size (Obj.mapSeq (· ++ vs.toArray))).push (seqObj "list" vs.toArray 0)).update (s.heap.objs.size+1) (Obj.mapSeq λ_=>(#[]:Array Value))).get? (s.heap.objs.size+1)=some (seqObj "list" #[] e1):=⟨_,get?_update_seq hoL λ_=>#[]⟩;exact⟨_,get?_update_seq (get?_push_of_some _ (get?_push_of_some _ ho1)) _⟩
theorem ka{f:Nat→Nat→Bool}{l:Addr}{vs:List Value}{κ:SortKind}{Q:Value→Shared→Prop}(O:Ord f vs.length)(hl:s.heap.IsList l vs.toArray)(h64:vs.length<64)(hk:∀(A':Around) (s':Shared),A'.units≤A.units+2→(∀b o,s.heap.get? b=some o→s'.heap.get? b=some o)→∀Q:SortKind→Shared→Prop,2≤vs.length→Q κ s'→wpAny (model prog w) A' (keyKind' vs.toArray) Q (λ_ _=>False) s')(hlt:∀(A':Around) (s':Shared),A'.units≤A.units+2→(∀b o,s.heap.get? b=some o→s'.heap.get? b=some o)→∀(i j:Nat) (C:Bool→Shared→Prop),i<vs.length→j<vs.length→C (f i j) s'→wpAny (model prog w) A' (keyLt' κ (vs.getD i Value.none) (vs.getD j Value.none)) C (λ_ _=>False) s')(h:∀(p:Array Nat) (h':Heap),Row vs.length p→Up f p vs.length→(∀b o,s.heap.get? b=some o→h'.get? b=some o)→s.heap.objs.size≤s.heap.objs.size+1→(∃k,h'.get? (s.heap.objs.size+1)=some (seqObj "list" (toArray (p.toList.map λi=>vs.getD i Value.none)) k))→Q (.ref (s.heap.objs.size+1)) {s with heap:=h'}):
  wpAny (model prog w) A (call (.builtin "sorted") [.ref l]) Q E s:=eF O (.inl hl) h64 hk hlt h
end
end SRT
namespace L2
open PySem PySem.Spec PyProof.Rows
section
variable{X:Cx}{tg:Expr}
theorem pg{pins:List (Addr×Obj)}{σ:St}{H:Hp}{s:Shared}{a:Addr}{ks:List Key}(I:Inv X pins σ H s)(h:H a=some (.tup (ks.map kV)))(P:Program)(w:World):IsTupleKey (am P w) s.heap ks a:=by
 obtain⟨_,its,r,o,e,c,n,d⟩:=I.hok a _ h;exact⟨o,its.toArray,n,e,c,d,by simpa using du r⟩
theorem bW:∀{as:List Addr}{us:List Value},ao (as.map V.ref) us→us=as.map Value.ref
 |[],_,.nil=>rfl
 |b::bs,_,.cons r t=>by
  have e:_=Value.ref b:=r;rw[e,bW t];rfl
theorem eU(hu:X.A.units+1<cLine):OpR X (compareOp .NotIn) (λx y H Q=>∃a p ks,∃kss:List (Addr×List Key),x=.ref a∧H a=some (.tup (ks.map kV))∧y=.ref p∧SqL X.K H p ((kss.map (·.1)).map V.ref) ∧
  (∀z∈kss,H z.1=some (.tup (z.2.map kV)))∧Q (.bl (!(kss.any λz=>decide (z.2=ks)))) H):=by
 intro pins s σ H x y v u Q I rx ry h;obtain⟨a,p,ks,kss,rfl,ha,rfl,hq,hk,q⟩:=h;cases rx;cases ry;obtain⟨its,rv,pl,hz⟩:=I.list hq;have e:=bW rv;subst e
 let e:Value→Bool:=λv=>match v with | .ref b=>((kss.find? λz=>z.1==b).map λz=>decide (z.2=ks)).getD false | _=>false
 have he:∀z∈kss,e (.ref z.1)=decide (z.2=ks):=λz hz'=>by
  show((kss.find? λy=>y.1==z.1).map λz=>decide (z.2=ks)).getD false=_;cases ef:kss.find? λy=>y.1==z.1 with
  |none=>have:=List.find?_eq_none.mp ef z hz';simp at this
  |some y =>
   have h1:=List.find?_some ef;have h2:=List.mem_of_find?_eq_some ef;have e1:y.1=z.1:=by simpa using h1
   have e2:=hk y h2;rw[e1,hk z hz']at e2;have e3:z.2.map kV=y.2.map kV:=by injection (Option.some.inj e2)
   rw[jr e3];rfl
 refine SeqAt.notIn_listAt e pl.isList (λy hy=>?_) ⟨.bl _,H,I,rfl,?_⟩
 ·have hy':y∈(kss.map (·.1)).map Value.ref:=by simpa using hy
  obtain⟨b,hb,rfl⟩:=mem_map.mp hy';obtain⟨z,hz',rfl⟩:=mem_map.mp hb;rw[he z hz'];intro prog w E' Q' hQ;exact wpAny_eqBool_tuple (knd:=am prog w) (by simp;exact hu) (pg I (hk z hz') prog w) (pg I ha prog w) hQ
 ·have e1:(((kss.map (·.1)).map Value.ref).toArray.any e)=kss.any λz=>decide (z.2=ks):=by
   rw[List.any_toArray,any_map,any_map];apply Bool.eq_iff_iff.mpr;rw[any_eq_true,any_eq_true];constructor
   ·rintro⟨z,hz',h1⟩;exact⟨z,hz',by rw[←he z hz'];exact h1⟩
   ·rintro⟨z,hz',h1⟩;exact⟨z,hz',by show e (.ref z.1)=true;rw[he z hz'];exact h1⟩
  rw[e1];exact q
def nc:V→List V→Hp→VK→Prop:=λx vs H Q=>∃d kvs k y,x=.ref d∧vs=[kV k,y]∧H d=some (.dK kvs)∧kvs.length<sizeLine∧(∀v,aL kvs k=some v→Q v H)∧(aL kvs k=none→Q y (upd H d (.dK (ee kvs k y))))
theorem eV:MtM X "dict.setdefault" nc:=by
 intro pins s σ H x vs v us Q I rx rv h;obtain⟨d,kvs,k,y,rfl,rfl,hd,hz,q1,q2⟩:=h;cases rx;obtain⟨u,u',rfl,ru,ru'⟩:=rv.two;obtain⟨z,hs,ws,rel,dd⟩:=lm I.hok hd;have hzw:ws.length≤sizeLine:=by rw[←rel.length];exact z
 refine call_meetsIn F.slot_dict_setdefault dd.typeIs F.entry_dict_setdefault (F.args_dict_setdefault_3 _ _ _) (kt_meets_setdefault (am X.prog X.w) d (dD ru) hs u') ⟨ws,dd,hzw,λw' hw=>?_,λhw h' dd' sb=>?_⟩
 ·have:=rel.val k;rw[hw]at this;cases e:aL kvs k with
  |none=>rw[e]at this;cases this
  |some v =>
   rw[e]at this;exact⟨v,H,I.tok _,this,q1 v e⟩
 ·have:=rel.val k;rw[hw]at this;cases e:aL kvs k with
  |some v=>rw[e]at this;cases this
  |none =>
   have he:∃q,h'.get? d=some q:=let⟨q,_,_,hq,_⟩:=dd';⟨q,hq⟩;have hl:(ee kvs k y).length≤sizeLine:=by have:=dC kvs k y;omega
   exact⟨y,_,jt I (by rw[hd];exact True.intro) sb he (iL hl hs (rel.put k ru') dd'),ru',q2 e⟩
theorem kb:bw X (.type "range") (λxs H Q=>∃i j,xs=[.int i,.int j]∧∀p,H p=none→Q (.ref p) (upd H p (.rng i j))):=by
 intro pins s σ H xs us Q I r h;obtain⟨i,j,rfl,q⟩:=h;obtain⟨u,u',rfl,⟨t,rfl⟩,⟨t',rfl⟩⟩:=kY r;refine call_range_2 ⟨.ref s.heap.objs.size,_,I.laid (t':=s.toks+1) (o:=.rng i j) (λb ob q=>get?_push_of_some _ q) (le_refl _) ?_,rfl,q _ (I.hok.fresh (le_refl _))⟩;exact⟨t,t',_,get?_push_size _ rfl⟩
theorem iO{lo:Int}{n:Nat}{acc:Array Value}(h:ItemsOf (λi v=>∃t,v=.int (lo+i*1) t) acc n):ao ((List.range n).map λk=>V.int (lo+(k:Nat))) acc.toList:=by
 obtain⟨h1,h2⟩:=h;have key:∀(l:List Value)(k:Nat),(∀(i:Nat)(v:Value),l[i]?=some v→∃t,v=Value.int (lo+(k+i:Nat)) t)→ao ((List.range' k l.length).map λk=>V.int (lo+(k:Nat))) l:=by
  intro l
  induction l with
  |nil=>intro k _;exact .nil
  |cons v l ih =>
   intro k hv;rw[length_cons,List.range'_succ,map_cons];refine .cons ?_ (ih (k+1) λi w hw=>?_)
   ·obtain⟨t,e⟩:=hv 0 v rfl;exact⟨t,e⟩
   ·obtain⟨t,e⟩:=hv (i+1) w hw;exact⟨t,by rw[e,show k+(i+1)=k+1+i by omega]⟩
 have hl:acc.toList.length=n:=by simpa using h1
 have:=key acc.toList 0 λi v hv=>by
  have hv':acc[i]?=some v:=by simpa using hv
  obtain⟨t,e⟩:=h2 i v hv';exact⟨t,by rw[e,Int.mul_one,zero_add]⟩
 rw[hl]at this;rw[List.range_eq_range'];exact this
theorem eW(hc:X.calm=true):bw X (.type "list") (λxs H Q=>∃p i j,xs=[.ref p]∧H p=some (.rng i j)∧(-(2 ^ 62)≤i∧i<2 ^ 62∧-(2 ^ 62)≤j∧j<2 ^ 62)∧(j-i).toNat≤1000 ∧
  ∀l,H l=none→Q (.ref l) (upd H l (.lst ((List.range (j-i).toNat).map λk=>V.int (i+(k:Nat)))))):=by
 intro pins s σ H xs us Q I r h;obtain⟨p,i,j,rfl,hp,⟨b1,b2,b3,b4⟩,hn,q⟩:=h;obtain⟨u,rfl,rx⟩:=cF r;cases rx;obtain⟨t,t',t'',e⟩:=(show aO X.prog X.w H s.heap p (.rng i j)from I.hok p _ hp);have hsz:Builtin.Range.rangeSize i j 1=((j-i).toNat:Nat):=by rw[rangeSize_one];split<;>omega
 refine call_list_range (n:=(j-i).toNat) (I.ok.hd hc) e (small_one b1 b2 b3 b4) hsz (by omega) λh' tk acc c' kp hg hi=>?_;refine⟨.ref s.heap.objs.size,_,I.laid (t':=tk) kp (le_refl _) (show aO X.prog X.w _ h' _ (.lst _)from⟨?_,acc.toList,c',iO hi,by simpa using hg⟩),rfl,q _ (I.hok.fresh (le_refl _))⟩
 rw[length_map,length_range,sizeLine_eq];omega
theorem de{prog:Program}{w:World}{A:Around}{E:Value→Shared→Prop}{s:Shared}{t sl:Addr}{items:Array Value}{vl vu:Value}{lo hi:Option Int}{Q:Value→Shared→Prop}(ht:IsTup s.heap t items)(hs:s.heap.IsSliceOf sl vl vu .none)(pl:IsPart vl lo)(pu:IsPart vu hi)(hw:HT.sIx items.size 0 lo=0∧HT.sIx items.size items.size hi=items.size)(h:Q (.ref t) s):wpAny (model prog w) A (getItem (.ref t) (.ref sl)) Q E s:=by
 obtain⟨os,hos,hcs,hds⟩:=id hs;have hTs:s.TypeIs (.ref sl) "slice":=⟨os,hos,hcs⟩;unfold getItem
 try with_reducible refine wpAny_holding ?_
 first|refine wpAny_bind (wpAny_pure ?_)|skip
 refine wpAny_bind (wpAny_sequenceKey ht.typeIs (by decide) ?_);refine wpAny_bind (wpAny_callSpecial?_slot (name:=ofString "__getitem__") ht.typeIs PyProof.Rows.slot_tuple_getitem
  (wpAny_call_entry PyProof.Rows.slot_tuple_getitem ht.typeIs entry_tuple_getitem ?_ (args_tuple_getitem _ _)))
 show wpAny _ _ (Builtin.Tuple.tupleItemsOf (.ref t) >>= _) _ _ s;refine wpAny_bind (tupleItemsOf_ ht ?_);refine wpAny_bind (wpAny_typeOf hTs ?_);rw[if_pos (by decide)];refine wpAny_bind (HT.bR hs pl pu ?_);have hyes:((((HT.sIx items.size 0 lo:Nat):Int)==0&&(1:Int)==1&&(HT.sIx items.size items.size hi-HT.sIx items.size 0 lo)==items.size)=true):=by
  rw[hw.1,hw.2];simp
 show wpAny _ _ (if (((HT.sIx items.size 0 lo:Nat):Int)==0&&(1:Int)==1&&(HT.sIx items.size items.size hi-HT.sIx items.size 0 lo)==items.size)=true then _ else _) _ _ s
 rw[if_pos hyes];refine wpAny_bind ?_;unfold Builtin.Tuple.tupleIsExact;refine wpAny_bind (wpAny_typeOf ht.typeIs (wpAny_pure ?_));rw[if_pos (by decide)];exact wpAny_bind (wpAny_rule (wpAny_pure ⟨_,rfl,wpAny_pure h⟩))
theorem iP:SlR X (λx lo hi H Q=>∃a xs,x=.ref a∧SqT X.K H a xs∧HT.sIx xs.length 0 lo=0∧HT.sIx xs.length xs.length hi=xs.length∧Q (.ref a) H):=by
 intro pins s σ H x v vl vu lo hi sl Q I rx hs pl pu h;obtain⟨a,xs,rfl,hx,h1,h2,q⟩:=h;cases rx;obtain⟨its,r,ht,hz⟩:=I.tuple hx;have hlen:its.toArray.size=xs.length:=by rw[size_toArray];exact r.length.symm
 exact⟨"tuple",_,PyProof.Rows.slot_tuple_getitem.lookup,ht.typeIs,de ht hs pl pu (by rw[hlen];exact⟨h1,h2⟩) ⟨.ref a,H,I,rfl,q⟩⟩
theorem iQ(hu:X.A.units<cLine):OpR X (compareOp .Eq) (λx y H Q=>∃a b xs,x=.ref a∧y=.ref b∧SqL X.K H a xs∧SqL X.K H b []∧Q (.bl (decide (xs=[]))) H):=by
 intro pins s σ H x y v u Q I rx ry h;obtain⟨a,b,xs,rfl,rfl,ha,hb,q⟩:=h;cases rx;cases ry;obtain⟨its,r1,ht,_⟩:=I.list ha;obtain⟨its2,r2,hb',_⟩:=I.list hb;cases r2
 by_cases e:xs=[]
 ·subst e;cases r1;refine SeqAt.eq_listAt (e:=λ_=>true) ht.isList hb'.isList rfl hu (λj h1 h2=>absurd h2 (by simp)) ⟨.bl _,H,I,?_,q⟩;rfl
 ·have e2:its≠[]:=λz=>e (r1.nil_iff.mp z);have e3:its.length≠0:=λz=>e2 (length_eq_zero_iff.mp z);refine SeqAt.eq_list_lengthsAt ht.isList hb'.isList (by simp[e3]) hu ⟨.bl _,H,I,?_,q⟩;show _=Value.bool _;simp[e]
end
end L2
namespace ZT
open PySem PySem.SeqAt
section
variable{prog:Program}{w:World}{A:Around}{E:Value→Shared→Prop}{s:Shared}
theorem cK{it t:Addr}{i:Nat}{items:Array Value}{x:Value}{Q:Value→Shared→Prop}(hi:s.heap.IsTupleIter it t i)(ht:s.heap.IsTuple t items)(hx:items[i]?=some x)(q:∀g,g.IsTupleIter it t (i+1)→SameBut it s.heap g→Q x {s with heap:=g}):wpAny (model prog w) A (Builtin.SmallTypes.nextOf (.ref it)) Q E s:=by
 obtain⟨oi,e1,e2,e3⟩:=id hi;obtain⟨ot,e4,_,k,e5⟩:=ht;unfold Builtin.SmallTypes.nextOf;refine wpAny_bind (wpAny_callSpecial?_slot (name:=ofString "__next__") hi.typeIs F.slot_tuple_iterator_next (wpAny_call_entry F.slot_tuple_iterator_next hi.typeIs F.entry_tuple_iterator_next ?body (F.args_tuple_iterator_next_1 _)))
 case body =>
  refine wpAny_bind (m:=field (.ref it) 0) (wpAny_field e1 e3 (x:=.ref t) rfl ?_);rw[if_neg (show ¬((Value.ref t==Value.none)=true)by simp)];refine wpAny_bind (m:=field (.ref it) 1) (wpAny_field e1 e3 (x:=.int i 0) rfl ?_);refine wpAny_bind (m:=seqItems? (.ref t)) (wpAny_seqItems e4 e5 ?_);simp only[Int.toNat_natCast,hx];have up:(Obj.mapFields (·.setIfInBounds 1 (rawInt ((i:Int)+1))) oi).data=.fields #[.ref t,.int ((i+1:Nat):Int) 0]:=by rw[Obj.data_mapFields e3];simp[rawInt]
  exact wpAny_bind (wpAny_setField e1 e3 (by simp) (wpAny_pure ⟨x,rfl,wpAny_pure (q _ ⟨_,Heap.get?_update_self _ e1 (Obj.isFreed_of_fields (Obj.data_mapFields e3 _)),(Obj.cls_mapFields ..).trans e2,up⟩ (SameBut.update ..))⟩))
theorem fG{it t:Addr}{i:Nat}{items:Array Value}{Q:Value→Shared→Prop}(hh:A.handled=none)(hi:s.heap.IsTupleIter it t i)(ht:s.heap.IsTuple t items)(hx:items[i]?=none)(q:∀g e,Heap.ExtBut it s.heap g→(∃o,g.get? e=some o∧o.cls=.type "StopIteration")→E (.ref e) {s with heap:=g}):wpAny (model prog w) A (Builtin.SmallTypes.nextOf (.ref it)) Q E s:=by
 obtain⟨oi,e1,e2,e3⟩:=id hi;obtain⟨ot,e4,_,k,e5⟩:=ht;unfold Builtin.SmallTypes.nextOf;refine wpAny_bind (wpAny_callSpecial?_slot (name:=ofString "__next__") hi.typeIs F.slot_tuple_iterator_next (wpAny_call_entry F.slot_tuple_iterator_next hi.typeIs F.entry_tuple_iterator_next ?body (F.args_tuple_iterator_next_1 _)))
 case body =>
  refine wpAny_bind (m:=field (.ref it) 0) (wpAny_field e1 e3 (x:=.ref t) rfl ?_);rw[if_neg (show ¬((Value.ref t==Value.none)=true)by simp)];refine wpAny_bind (m:=field (.ref it) 1) (wpAny_field e1 e3 (x:=.int i 0) rfl ?_);refine wpAny_bind (m:=seqItems? (.ref t)) (wpAny_seqItems e4 e5 ?_);simp only[Int.toNat_natCast,hx];refine wpAny_bind (wpAny_rule (wpAny_bind (wpAny_setField e1 e3 (by simp) ?_)));refine wpAny_bind (m:=newExc (.type "StopIteration") []) ?_;unfold newExc newTuple;refine wpAny_bind (wpAny_newObj_type (hd:=by size_fits) ?_);refine wpAny_bind (m:=firstArgMember _ _) (wpAny_of_eq (a:=Value.none) (by first|rfl|(unfold firstArgMember;rfl)) (wpAny_newObj_type (hd:=by size_fits) ?_))
  unfold raiseNew;refine wpAny_bind (wpAny_handled ?_)
  first|rw[show A.in1.handled=none from hh]|rw[hh]
  exact wpAny_bind (wpAny_pure (wpAny_throw (q _ _ (((SameBut.update ..).extBut.push _).push _) ⟨_,get?_push_size _ rfl,rfl⟩)))
structure Rec(h:Heap)(z a b i1 i2 t1 t2:Addr)(out:Value)(k:Nat):Prop where
 zz:IsZip h z a b out
 ti:IsPair h a (.ref i1) (.ref i2)
 to:∃u v,IsPair h b u v
 n1:h.IsTupleIter i1 t1 k
 n2:h.IsTupleIter i2 t2 k
structure Apart(z a b i1 i2 t1 t2:Nat):Prop where
 az:a≠z
 bz:b≠z
 z1:i1≠z
 z2:i2≠z
 ab:a≠b
 a1:a≠i1
 a2:a≠i2
 b1:b≠i1
 b2:b≠i2
 d12:i1≠i2
 tz:t1≠z∧t2≠z
 tb:t1≠b∧t2≠b
 t1n:t1≠i1∧t2≠i1
 t2n:t1≠i2∧t2≠i2
theorem lu(n t1 t2:Nat)(h1:t1<n)(h2:t2<n):Apart (n+4) (n+2) (n+3) n (n+1) t1 t2 :=
 ⟨by omega,by omega,by omega,by omega,by omega,by omega,by omega,by omega,by omega,by omega,⟨by omega,by omega⟩,⟨by omega,by omega⟩,⟨by omega,by omega⟩,⟨by omega,by omega⟩⟩
theorem kc{z a b i1 i2 t1 t2:Addr}{k:Nat}{xs ys:Array Value}{x y:Value}{Q:Value→Shared→Prop}(D:Apart z a b i1 i2 t1 t2)(R:Rec s.heap z a b i1 i2 t1 t2 .none k)(h1:s.heap.IsTuple t1 xs)(h2:s.heap.IsTuple t2 ys)(hx:xs[k]?=some x)(hy:ys[k]?=some y)(q:∀g,Rec g z a b i1 i2 t1 t2 (rawInt s.heap.objs.size) (k+1)→IsPair g s.heap.objs.size x y→(∀c o,c≠z→c≠b→c≠i1→c≠i2→s.heap.get? c=some o→g.get? c=some o)→Q (.ref s.heap.objs.size) {s with heap:=g}):
  wpAny (model prog w) A (Builtin.«zip.__next__» ⟨[.ref z],[]⟩) (λfin s'=>∃v,fin=.done (.ret v)∧Q v s') E s:=by
 obtain⟨hz,hti,⟨u,v,hto⟩,n1,n2⟩:=R;refine wpAny_bind (m:=field (.ref z) 2) (wpAny_field hz rfl (x:=.bool false) rfl ?_);refine wpAny_bind (m:=field (.ref z) 3) (wpAny_field hz rfl (x:=.ref a) rfl ?_);refine wpAny_bind (m:=seqItems? (.ref a)) (wpAny_seqItems hti rfl ?_);refine wpAny_bind (m:=Builtin.SmallTypes.ownedTupleIsFree (.ref z)) ?_;unfold Builtin.SmallTypes.ownedTupleIsFree;refine wpAny_bind (wpAny_field hz rfl (x:=.none) rfl (wpAny_pure ?_));simp only[if_true];refine wpAny_bind (wpAny_rule (wpAny_bind (wpAny_field hz rfl (x:=.ref b) rfl (wpAny_bind (wpAny_setField_rec hz (by simp) λg1 z1 s1=>?_)))));have z1':IsZip g1 z a b .ellipsis:=z1;refine wpAny_bind ?_;simp only[List.zipIdx_cons,List.zipIdx_nil,forIn_cons,forIn_nil];refine wpAny_bind (wpAny_bind (wpAny_onRaise (wpAny_bind (m:=Builtin.SmallTypes.nextOf (.ref i1)) (cK (n1.extBut s1.extBut D.z1) (h1.extBut s1.extBut D.tz.1) hx λg2 m1 s2=>wpAny_pure ?_))));have to2:IsPair g2 b u v:=s2.extBut _ _ D.b1 (s1.extBut _ _ D.bz hto);refine wpAny_bind (wpAny_seqItems to2 rfl (wpAny_bind (wpAny_updateSeq_pair to2 λg3 to3 s3=>wpAny_bind (wpAny_letGo (wpAny_pure ?_)))));have to3':IsPair g3 b x v:=to3;refine wpAny_bind (wpAny_bind (wpAny_onRaise (wpAny_bind (m:=Builtin.SmallTypes.nextOf (.ref i2)) (cK (((n2.extBut s1.extBut D.z2).extBut s2.extBut D.d12.symm).extBut s3.extBut D.b2.symm)
  (((h2.extBut s1.extBut D.tz.2).extBut s2.extBut D.t1n.2).extBut s3.extBut D.tb.2) hy λg4 m2 s4=>wpAny_pure ?_))))
 have to4:IsPair g4 b x v:=s4.extBut _ _ D.b2 to3';refine wpAny_bind (wpAny_seqItems to4 rfl (wpAny_bind (wpAny_updateSeq_pair to4 λg5 to5 s5=>wpAny_bind (wpAny_letGo (wpAny_pure (wpAny_pure ?_))))));have to5':IsPair g5 b x y:=to5;refine wpAny_bind (wpAny_seqItems to5' rfl (wpAny_bind (wpAny_newTuple ?_)));have size5:g5.objs.size=s.heap.objs.size:=by rw[s5.1,s4.1,s3.1,s2.1,s1.1]
 have keep5:∀c o,c≠z→c≠b→c≠i1→c≠i2→s.heap.get? c=some o→g5.get? c=some o:=λc o c1 c2 c3 c4 e=>s5.extBut _ _ c2 (s4.extBut _ _ c4 (s3.extBut _ _ c2 (s2.extBut _ _ c3 (s1.extBut _ _ c1 e))));have z5:IsZip g5 z a b .ellipsis:=s5.extBut _ _ D.bz.symm (s4.extBut _ _ D.z2.symm (s3.extBut _ _ D.bz.symm (s2.extBut _ _ D.z1.symm z1')));have m15:g5.IsTupleIter i1 t1 (k+1):=((m1.extBut s3.extBut D.b1.symm).extBut s4.extBut D.d12).extBut s5.extBut D.b1.symm;have m25:g5.IsTupleIter i2 t2 (k+1):=m2.extBut s5.extBut D.b2.symm;have ti5:IsPair g5 a (.ref i1) (.ref i2):=keep5 _ _ D.az D.ab D.a1 D.a2 hti;refine wpAny_bind (m:=Builtin.SmallTypes.ownedTupleHandOut (.ref z) (.ref g5.objs.size)) ?_;unfold Builtin.SmallTypes.ownedTupleHandOut;have z6:IsZip (g5.push {cls:=.type "tuple",data:=.seq #[x,y]}) z a b .ellipsis:=get?_push_of_some _ z5;refine wpAny_bind (wpAny_setField_rec z6 (by simp) λg7 z7 s7=>?_);have z7':IsZip g7 z a b (rawInt g5.objs.size):=z7;refine wpAny_setField_rec z7' (by simp) λg8 z8 s8=>?_;have z8':IsZip g8 z a b (rawInt g5.objs.size):=z8;have up:∀c o,c≠z→g5.get? c=some o→g8.get? c=some o:=λc o c1 e=>s8.extBut _ _ c1 (s7.extBut _ _ c1 (get?_push_of_some _ e));have nz:g5.objs.size≠z:=ne_of_gt (lt_size z5);have new8:IsPair g8 g5.objs.size x y:=s8.extBut _ _ nz (s7.extBut _ _ nz (get?_push_size _ rfl));rw[size5]at z8' new8;refine wpAny_pure ⟨_,rfl,?_⟩;show Q (.ref g5.objs.size) _;rw[size5];exact q g8 ⟨z8',up _ _ D.az ti5,⟨_,_,up _ _ D.bz to5'⟩,(let⟨o,e,r⟩:=m15;⟨o,up _ o D.z1 e,r⟩),(let⟨o,e,r⟩:=m25;⟨o,up _ o D.z2 e,r⟩)⟩ new8 λc o c1 c2 c3 c4 e=>up c o c1 (keep5 c o c1 c2 c3 c4 e)
theorem lv{z a b i1 i2 t1 t2:Addr}{k:Nat}{xs ys:Array Value}{Q:PySem.Fin→Shared→Prop}(hh:A.handled=none)(D:Apart z a b i1 i2 t1 t2)(R:Rec s.heap z a b i1 i2 t1 t2 .none k)(h1:s.heap.IsTuple t1 xs)(h2:s.heap.IsTuple t2 ys)(hend:xs[k]?=none∨ys[k]?=none)(q:∀g e,(∀c o,c≠z→c≠b→c≠i1→c≠i2→s.heap.get? c=some o→g.get? c=some o)→(∃o,g.get? e=some o∧o.cls=.type "StopIteration")→E (.ref e) {s with heap:=g}):
  wpAny (model prog w) A (Builtin.«zip.__next__» ⟨[.ref z],[]⟩) Q E s:=by
 obtain⟨hz,hti,⟨u,v,hto⟩,n1,n2⟩:=R;refine wpAny_bind (m:=field (.ref z) 2) (wpAny_field hz rfl (x:=.bool false) rfl ?_);refine wpAny_bind (m:=field (.ref z) 3) (wpAny_field hz rfl (x:=.ref a) rfl ?_);refine wpAny_bind (m:=seqItems? (.ref a)) (wpAny_seqItems hti rfl ?_);refine wpAny_bind (m:=Builtin.SmallTypes.ownedTupleIsFree (.ref z)) ?_;unfold Builtin.SmallTypes.ownedTupleIsFree;refine wpAny_bind (wpAny_field hz rfl (x:=.none) rfl (wpAny_pure ?_));simp only[if_true];refine wpAny_bind (wpAny_rule (wpAny_bind (wpAny_field hz rfl (x:=.ref b) rfl (wpAny_bind (wpAny_setField_rec hz (by simp) λg1 z1 s1=>?_)))));have z1':IsZip g1 z a b .ellipsis:=z1;refine wpAny_bind ?_;simp only[List.zipIdx_cons,List.zipIdx_nil,forIn_cons,forIn_nil];refine wpAny_bind (wpAny_bind (wpAny_onRaise ?_));refine wpAny_bind (m:=Builtin.SmallTypes.nextOf (.ref i1)) ?_;cases hx:xs[k]? with
 |none =>
  refine fG hh (n1.extBut s1.extBut D.z1) (h1.extBut s1.extBut D.tz.1) hx λg2 e s2 he=>?_;obtain⟨oe,e1,e2⟩:=he;have z2':IsZip g2 z a b .ellipsis:=s2 _ _ D.z1.symm z1';have ne:e≠z:=λc=>by rw[c,z2']at e1;cases e1;simp at e2
  exact wpAny_setField_rec z2' (by simp) λg3 _ s3=>q g3 e (λc o c1 _ c3 _ h=>s3.extBut _ _ c1 (s2 _ _ c3 (s1.extBut _ _ c1 h))) ⟨oe,s3.extBut _ _ ne e1,e2⟩
 |some x =>
  have hy:ys[k]?=none:=hend.resolve_left (by rw[hx];simp);refine cK (n1.extBut s1.extBut D.z1) (h1.extBut s1.extBut D.tz.1) hx λg2 m1 s2=>wpAny_pure ?_;have to2:IsPair g2 b u v:=s2.extBut _ _ D.b1 (s1.extBut _ _ D.bz hto);refine wpAny_bind (wpAny_seqItems to2 rfl (wpAny_bind (wpAny_updateSeq_pair to2 λg3 to3 s3=>wpAny_bind (wpAny_letGo (wpAny_pure ?_)))));refine wpAny_bind (wpAny_bind (wpAny_onRaise (wpAny_bind (m:=Builtin.SmallTypes.nextOf (.ref i2)) (fG hh (((n2.extBut s1.extBut D.z2).extBut s2.extBut D.d12.symm).extBut s3.extBut D.b2.symm)
   (((h2.extBut s1.extBut D.tz.2).extBut s2.extBut D.t1n.2).extBut s3.extBut D.tb.2) hy λg4 e s4 he=>?_))))
  obtain⟨oe,e1,e2⟩:=he;have z4':IsZip g4 z a b .ellipsis:=s4 _ _ D.z2.symm (s3.extBut _ _ D.bz.symm (s2.extBut _ _ D.z1.symm z1'));have ne:e≠z:=λc=>by rw[c,z4']at e1;cases e1;simp at e2
  exact wpAny_setField_rec z4' (by simp) λg5 _ s5=>q g5 e (λc o c1 c2 c3 c4 h=>s5.extBut _ _ c1 (s4 _ _ c4 (s3.extBut _ _ c2 (s2.extBut _ _ c3 (s1.extBut _ _ c1 h))))) ⟨oe,s5.extBut _ _ ne e1,e2⟩
theorem iR{z a b i1 i2 t1 t2:Addr}{k:Nat}{xs ys:Array Value}{x y:Value}{Q:Option Value→Shared→Prop}(D:Apart z a b i1 i2 t1 t2)(R:Rec s.heap z a b i1 i2 t1 t2 .none k)(h1:s.heap.IsTuple t1 xs)(h2:s.heap.IsTuple t2 ys)(hx:xs[k]?=some x)(hy:ys[k]?=some y)(q:∀g,Rec g z a b i1 i2 t1 t2 (rawInt s.heap.objs.size) (k+1)→IsPair g s.heap.objs.size x y→(∀c o,c≠z→c≠b→c≠i1→c≠i2→s.heap.get? c=some o→g.get? c=some o)→Q (some (.ref s.heap.objs.size)) {s with heap:=g}):
  wpAny (model prog w) A (pyNext (.ref z)) Q E s:=by
 have hT:s.TypeIs (.ref z) "zip":=⟨_,R.zz,rfl⟩;unfold pyNext;exact wpAny_bind (wpAny_attempt (wpAny_callSpecial?_slot (name:=ofString "__next__") hT F.slot_zip_next (wpAny_call_entry F.slot_zip_next hT F.entry_zip_next (kc D R h1 h2 hx hy λg r n k=>wpAny_pure (q g r n k)) (F.args_zip_next_1 _))))
theorem kd{z a b i1 i2 t1 t2:Addr}{k:Nat}{xs ys:Array Value}{Q:Option Value→Shared→Prop}(hh:A.handled=none)(D:Apart z a b i1 i2 t1 t2)(R:Rec s.heap z a b i1 i2 t1 t2 .none k)(h1:s.heap.IsTuple t1 xs)(h2:s.heap.IsTuple t2 ys)(hend:xs[k]?=none∨ys[k]?=none)(q:∀g,(∀c o,c≠z→c≠b→c≠i1→c≠i2→s.heap.get? c=some o→g.get? c=some o)→Q none {s with heap:=g}):wpAny (model prog w) A (pyNext (.ref z)) Q E s:=by
 have hT:s.TypeIs (.ref z) "zip":=⟨_,R.zz,rfl⟩;unfold pyNext;refine wpAny_bind (wpAny_attempt (wpAny_callSpecial?_slot (name:=ofString "__next__") hT F.slot_zip_next (wpAny_call_entry F.slot_zip_next hT F.entry_zip_next (lv hh D R h1 h2 hend λg e k he=>?_) (F.args_zip_next_1 _))));obtain⟨o,e1,e2⟩:=he;exact wpAny_bind (wpAny_isInstance (T:="StopIteration") (b:=true) ⟨o,e1,e2⟩ isSubtype_stop (wpAny_pure (q g k)))
def made(h:Heap)(t1 t2:Addr):Heap :=
 ((((h.push {cls:=.type "tuple_iterator",data:=.fields #[.ref t1,.int 0 0]}).push {cls:=.type "tuple_iterator",data:=.fields #[.ref t2,.int 0 0]}).push {cls:=.type "tuple",data:=.seq #[.ref h.objs.size,.ref (h.objs.size+1)]}).push
  {cls:=.type "tuple",data:=.seq #[.none,.none]}).push {cls:=.type "zip",data:=.fields #[.none,.bool false,.bool false,.ref (h.objs.size+2),.ref (h.objs.size+3)]}
theorem ng(t1 t2:Addr)(xs ys:Array Value):Meets (Builtin.«zip.__new__» ⟨[.type "zip",.ref t1,.ref t2],[]⟩) (λ_ R s=>s.heap.IsTuple t1 xs∧s.heap.IsTuple t2 ys∧R (.ok (.ret (.ref (s.heap.objs.size+4)))) {s with heap:=made s.heap t1 t2}) :=
 .of_wp λprog w A R s h=>by
  obtain⟨hp,g,d,tk,os⟩:=s;obtain⟨k1,k2,h⟩:=h;have hsub:=sub_zip;have u1:IsTuple (Shared.heap ⟨hp,g,d,tk,os⟩) t1 xs:=k1;have u2:IsTuple (Shared.heap ⟨hp.push {cls:=.type "tuple_iterator",data:=.fields #[.ref t1,.int 0 0]},g,d,tk,os⟩) t2 ys:=IsTuple.push k2 _
  wp_walk using wpAny_pyIter_tuple u1,wpAny_pyIter_tuple u2
  refine⟨_,rfl,?_⟩;unfold made at h;simp only[size_push];exact h
theorem lw{t1 t2:Addr}{xs ys:Array Value}{Q:Value→Shared→Prop}(h1:s.heap.IsTuple t1 xs)(h2:s.heap.IsTuple t2 ys)(q:Q (.ref (s.heap.objs.size+4)) {s with heap:=made s.heap t1 t2}):wpAny (model prog w) A (call (.type "zip") [.ref t1,.ref t2]) Q E s:=by
 refine callType_new F.called_zip (by decide) (F.typeCall_zip_2 _ _) (F.newCall_zip_2 _ _) (λobj=>F.args_object_init_3 obj _ _) F.entry_zip_new (ng t1 t2 xs ys) ⟨h1,h2,?_⟩;have e:(made s.heap t1 t2).get? (s.heap.objs.size+4)=some {cls:=.type "zip",data:=.fields #[.none,.bool false,.bool false,.ref (s.heap.objs.size+2),.ref (s.heap.objs.size+3)]}:=by
  unfold made;have:=get?_push_size ((((s.heap.push {cls:=.type "tuple_iterator",data:=.fields #[.ref t1,.int 0 0]}).push {cls:=.type "tuple_iterator",data:=.fields #[.ref t2,.int 0 0]}).push {cls:=.type "tuple",data:=.seq #[.ref s.heap.objs.size,.ref (s.heap.objs.size+1)]}).push {cls:=.type "tuple",data:=.seq #[.none,.none]})
   (o:={cls:=.type "zip",data:=.fields #[.none,.bool false,.bool false,.ref (s.heap.objs.size+2),.ref (s.heap.objs.size+3)]}) rfl
  simpa only [size_push]using this
 exact⟨⟨_,e,rfl⟩,q⟩
end
end ZT
namespace L2
open PySem PySem.Spec PyProof.Rows
section
variable{X:Cx}{tg:Expr}
def Itz(K:PySem.W.Frag)(t1 t2:Addr):It :=
 ⟨λi H=>∃xs ys x y,SqT K H t1 xs∧SqT K H t2 ys∧xs[i]?=some x∧ys[i]?=some y,λi H v H'=>∃p x y,H p=none∧v=.ref p∧(∀xs,SqT K H t1 xs→xs[i]?=some x)∧(∀ys,SqT K H t2 ys→ys[i]?=some y)∧H'=upd H p (.tup [x,y]),
  λi H=>∃xs ys,SqT K H t1 xs∧SqT K H t2 ys∧(xs.length≤i∨ys.length≤i)⟩
theorem lx{P:Program}{w:World}{K:PySem.W.Frag}{es:List Expr}{k:Nat}{p0:Pos}(z a b i1 i2 t1 t2:Addr)(D:ZT.Apart z a b i1 i2 t1 t2):
  Turn P w K (.Tuple es k p0) (Itz K t1 t2) [z,a,b,i1,i2] z (λi h=>ZT.Rec h z a b i1 i2 t1 t2 .none i) where
 mem:=by simp
 obj:=λi h R c hc=>by
  obtain⟨z1,z2,⟨u,v,z3⟩,⟨o4,z4,_,z4'⟩,⟨o5,z5,_,z5'⟩⟩:=R;simp only[mem_cons,not_mem_nil,or_false]at hc;rcases hc with rfl|rfl|rfl|rfl|rfl
  ·exact⟨_,z1,λv z=>nomatch z⟩
  ·exact⟨_,z2,λv z=>nomatch z⟩
  ·exact⟨_,z3,λv z=>nomatch z⟩
  ·exact⟨_,z4,λv z=>by rw[z4']at z;cases z⟩
  ·exact⟨_,z5,λv z=>by rw[z5']at z;cases z⟩
 keep:=λi h h' R kp=>by
  obtain⟨z1,z2,⟨u,v,z3⟩,⟨o4,z4,r4⟩,⟨o5,z5,r5⟩⟩:=R;exact⟨kp _ (by simp) _ z1,kp _ (by simp) _ z2,⟨u,v,kp _ (by simp) _ z3⟩,⟨o4,kp _ (by simp) _ z4,r4⟩,⟨o5,kp _ (by simp) _ z5,r5⟩⟩
 item:=by
  intro X hP hw hK hc i pins s σ H E I hf st hg;subst hP hw hK;obtain⟨xs,ys,x,y,hq1,hq2,hx,hy⟩:=hg;obtain⟨its1,rv1,k1,_⟩:=I.tuple hq1;obtain⟨its2,rv2,k2,_⟩:=I.tuple hq2;obtain⟨u1,hu1,ru1⟩:=rv1.get hx;obtain⟨u2,hu2,ru2⟩:=rv2.get hy;refine ZT.iR D st k1 k2 (x:=u1) (y:=u2) (by simpa using hu1) (by simpa using hu2) λg R' new kp=>⟨_,rfl,?_⟩;refine wpAny_letOwnedTupleGo_zip R'.zz λg' z' sb=>?_;have nz:s.heap.objs.size≠z:=ne_of_gt (lt_size st.zz);have kp':∀c o,c≠z→c≠b→c≠i1→c≠i2→s.heap.get? c=some o→g'.get? c=some o:=λc o c1 c2 c3 c4 e=>(sb.2 c c1).trans (kp c o c1 c2 c3 c4 e);have kpO:∀c o,c∉[z,a,b,i1,i2]→s.heap.get? c=some o→g'.get? c=some o:=λc o hn e=>kp' c o (λq=>hn (by simp[q])) (λq=>hn (by simp[q])) (λq=>hn (by simp[q])) (λq=>hn (by simp[q])) e;have hnot:∀c o,H c=some o→c∉[z,a,b,i1,i2]:=λc o e hm=>by rw[(hf c hm).1]at e;cases e
  have nsz:∀c o,s.heap.get? c=some o→c≠s.heap.objs.size:=λc o e=>ne_of_lt (lt_size e);have trk:∀c o,H c=some o→c≠s.heap.objs.size:=λc o e=>ne_of_lt (I.hok.lt e);have new':g'.get? s.heap.objs.size=some {cls:=.type "tuple",data:=.seq #[u1,u2]}:=(sb.2 _ nz).trans new;have R2:ZT.Rec g' z a b i1 i2 t1 t2 .none (i+1):=by
   obtain⟨_,z2,⟨u,v,z3⟩,⟨o4,z4,r4⟩,⟨o5,z5,r5⟩⟩:=R';exact⟨z',(sb.2 _ D.az).trans z2,⟨u,v,(sb.2 _ D.bz).trans z3⟩,⟨o4,(sb.2 _ D.z1).trans z4,r4⟩,⟨o5,(sb.2 _ D.z2).trans z5,r5⟩⟩
  have okH:HOk X.prog X.w (upd H s.heap.objs.size (.tup [x,y])) g':=λc o e=>by
   by_cases ec:c=s.heap.objs.size
   ·subst ec;rw[ac]at e;cases e;exact⟨by show 2≤sizeLine;rw[sizeLine_eq];decide,[u1,u2],.cons ru1 (.cons ru2 .nil),⟨_,new',rfl,0,rfl⟩⟩
   ·rw[af ec]at e;refine(I.hok c o e).stay (λd v hd q=>kpO d v ?_ q) (λd q=>by rw[af (trk d _ q)];exact q) λd zs q=>by rw[af (trk d _ q)];exact q
    rcases hd with rfl|hd
    ·exact hnot _ _ e
    ·exact hnot _ _ hd
  have I2:Inv X pins σ (upd H s.heap.objs.size (.tup [x,y])) {s with heap:=g'}:=by
   refine I.step (g':=s.gens) (t':=s.toks) (d':=s.drawn) (ch:=[z,a,b,i1,i2]) (λc hc'=>?_) (λc o _ _ hn e _=>kpO c o hn e) (λc o _ _ hn e _=>⟨o.slots,kpO c o hn e⟩) (λc o _ e n=>by rw[af (nsz c o e)];exact n) (λc o hn e=>⟨o,kpO c o hn e⟩)
    (λc zs q=>by rw[af (trk c _ q)];exact q) (λc o u q=>by rw[af (trk c _ q)];exact q) (λc ps q=>⟨#[],by rw[af (trk c _ q),q];simp⟩) (λm hm=>?_) okH I.bare
   ·obtain⟨f0,f1,f2,f3,f4,f5⟩:=hf c hc';exact⟨f3,f1,f4,f5⟩
   ·obtain⟨o,es',ep,ho,r⟩:=hm;exact⟨o,es',ep,kpO _ o (λhm'=>(hf _ hm').2.1 rfl) ho,r⟩
  refine⟨.ref s.heap.objs.size,_,I2,rfl,⟨s.heap.objs.size,x,y,I.hok.fresh (le_refl _),rfl,λzs hz=>?_,λzs hz=>?_,rfl⟩,R2,λc hc'=>?_⟩
  ·rw[I.tuple_inj hz hq1];exact hx
  ·rw[I.tuple_inj hz hq2];exact hy
  ·obtain⟨o,e,_⟩:∃o,s.heap.get? c=some o∧True:=by
    obtain⟨z1,z2,⟨u,v,z3⟩,⟨o4,z4,_⟩,⟨o5,z5,_⟩⟩:=st;simp only[mem_cons,not_mem_nil,or_false]at hc';rcases hc' with rfl|rfl|rfl|rfl|rfl
    ·exact⟨_,z1,trivial⟩
    ·exact⟨_,z2,trivial⟩
    ·exact⟨_,z3,trivial⟩
    ·exact⟨_,z4,trivial⟩
    ·exact⟨_,z5,trivial⟩
   rw[af (nsz c o e)];exact(hf c hc').1
 done:=by
  intro X hP hw hK hc i pins s σ H E I hf st hg;subst hP hw hK;obtain⟨xs,ys,hq1,hq2,hle⟩:=hg;obtain⟨its1,rv1,k1,_⟩:=I.tuple hq1;obtain⟨its2,rv2,k2,_⟩:=I.tuple hq2;have e1:=rv1.length;have e2:=rv2.length;refine ZT.kd (I.ok.hd hc) D st k1 k2 (by rcases hle with h|h;left;simp;omega;right;simp;omega) λg kp=>⟨rfl,?_⟩;have kpO:∀c o,c∉[z,a,b,i1,i2]→s.heap.get? c=some o→g.get? c=some o:=λc o hn e=>kp c o (λq=>hn (by simp[q])) (λq=>hn (by simp[q])) (λq=>hn (by simp[q])) (λq=>hn (by simp[q])) e;have hnot:∀c o,H c=some o→c∉[z,a,b,i1,i2]:=λc o e hm=>by rw[(hf c hm).1]at e;cases e
  refine I.step (g':=s.gens) (t':=s.toks) (d':=s.drawn) (ch:=[z,a,b,i1,i2]) (λc hc'=>?_) (λc o _ _ hn e _=>kpO c o hn e) (λc o _ _ hn e _=>⟨o.slots,kpO c o hn e⟩) (λc o _ e n=>n) (λc o hn e=>⟨o,kpO c o hn e⟩)
   (λc zs q=>q) (λc o u q=>q) (λc ps q=>⟨#[],by rw[q];simp⟩) (λm hm=>?_) (λc o e=>?_) I.bare
  ·obtain⟨f0,f1,f2,f3,f4,f5⟩:=hf c hc';exact⟨f3,f1,f4,f5⟩
  ·obtain⟨o,es',ep,ho,r⟩:=hm;exact⟨o,es',ep,kpO _ o (λhm'=>(hf _ hm').2.1 rfl) ho,r⟩
  ·refine(I.hok c o e).stay (λd v hd q=>kpO d v ?_ q) (λd q=>q) λd zs q=>q;rcases hd with rfl|hd
   ·exact hnot _ _ e
   ·exact hnot _ _ hd
 self:=λA i s Q E st hq=>wpAny_pyIter_zip st.zz hq
theorem ly{es:List Expr}{k:Nat}{p0:Pos}{a b:Expr}{ta:TA}{p pos:Pos}(hg:Gl X "zip")(hm:X.mg "zip"=none)(ha:PA X [a,b] ta)(hs:starEach [a,b] X.env=[(false,eval a X.env),(false,eval b X.env)]:=by rfl)(hs2:starEach [b] X.env=[(false,eval b X.env)]:=by rfl):
  PI X (.Tuple es k p0) (.Call (.Name "zip" p) [a,b] [] pos) (λσ H R=>ta σ H λvs H1=>∃t1 t2 xs ys,vs=[.ref t1,.ref t2]∧H1 t1=some (.tup xs)∧H1 t2=some (.tup ys)∧R (Itz X.K t1 t2) H1):=by
 intro pins s σ H R I h;refine Call_ (cH I hg hm boot_zip (PyProof.Rows.callWith_type1 (thn (ha pos pins s σ H _ I h) λus s1 ⟨vs,H1,I1,r1,q1⟩=>?_) (by rw[hs,hs2]) (by rw[hs2];rfl)));obtain⟨t1,t2,xs,ys,e,ht1,ht2,q⟩:=q1;subst e;obtain⟨u1,u2,rfl,ru1,ru2⟩:=kY r1;cases ru1;cases ru2;obtain⟨its1,rv1,k1,hz1⟩:=I1.tuple (SqT.of ht1);obtain⟨its2,rv2,k2,hz2⟩:=I1.tuple (SqT.of ht2);refine ZT.lw k1 k2 ?_;generalize hn:s1.heap.objs.size=n;have keep:∀c o,s1.heap.get? c=some o→(ZT.made s1.heap t1 t2).get? c=some o:=λc o e=>by
  unfold ZT.made;exact get?_push_of_some _ (get?_push_of_some _ (get?_push_of_some _ (get?_push_of_some _ (get?_push_of_some _ e))))
 have rec0:ZT.Rec (ZT.made s1.heap t1 t2) (n+4) (n+2) (n+3) n (n+1) t1 t2 .none 0:=by
  subst hn;unfold ZT.made;refine⟨?_,?_,⟨.none,.none,?_⟩,⟨{cls:=.type "tuple_iterator",data:=.fields #[.ref t1,.int 0 0]},?_,rfl,rfl⟩,⟨{cls:=.type "tuple_iterator",data:=.fields #[.ref t2,.int 0 0]},?_,rfl,rfl⟩⟩
  ·have:=get?_push_size ((((s1.heap.push {cls:=.type "tuple_iterator",data:=.fields #[.ref t1,.int 0 0]}).push {cls:=.type "tuple_iterator",data:=.fields #[.ref t2,.int 0 0]}).push {cls:=.type "tuple",data:=.seq #[.ref s1.heap.objs.size,.ref (s1.heap.objs.size+1)]}).push {cls:=.type "tuple",data:=.seq #[.none,.none]})
    (o:={cls:=.type "zip",data:=.fields #[.none,.bool false,.bool false,.ref (s1.heap.objs.size+2),.ref (s1.heap.objs.size+3)]}) rfl
   simpa only [size_push]using this
  ·refine get?_push_of_some _ (get?_push_of_some _ ?_);have:=get?_push_size ((s1.heap.push {cls:=.type "tuple_iterator",data:=.fields #[.ref t1,.int 0 0]}).push {cls:=.type "tuple_iterator",data:=.fields #[.ref t2,.int 0 0]}) (o:={cls:=.type "tuple",data:=.seq #[.ref s1.heap.objs.size,.ref (s1.heap.objs.size+1)]}) rfl;simpa only [size_push]using this
  ·refine get?_push_of_some _ ?_;have:=get?_push_size (((s1.heap.push {cls:=.type "tuple_iterator",data:=.fields #[.ref t1,.int 0 0]}).push {cls:=.type "tuple_iterator",data:=.fields #[.ref t2,.int 0 0]}).push {cls:=.type "tuple",data:=.seq #[.ref s1.heap.objs.size,.ref (s1.heap.objs.size+1)]}) (o:={cls:=.type "tuple",data:=.seq #[.none,.none]}) rfl;simpa only [size_push]using this
  ·exact get?_push_of_some _ (get?_push_of_some _ (get?_push_of_some _ (get?_push_of_some _ (get?_push_size _ rfl))))
  ·refine get?_push_of_some _ (get?_push_of_some _ (get?_push_of_some _ ?_));have:=get?_push_size (s1.heap.push {cls:=.type "tuple_iterator",data:=.fields #[.ref t1,.int 0 0]}) (o:={cls:=.type "tuple_iterator",data:=.fields #[.ref t2,.int 0 0]}) rfl;simpa only [size_push]using this
 have l1:t1<n:=by rw[←hn];exact I1.hok.lt ht1
 have l2:t2<n:=by rw[←hn];exact I1.hok.lt ht2
 have D:=ZT.lu n t1 t2 l1 l2;refine wpAny_pyIter_zip rec0.zz ?_;refine⟨n+4,[n+4,n+2,n+3,n,n+1],_,Itz X.K t1 t2,H1,rfl,I1.kept (t':=s1.toks) keep,lx _ _ _ _ _ _ _ D,rec0,λc hc=>?_,q⟩;have hle:s1.heap.objs.size≤c:=by
  rw[hn];simp only[mem_cons,not_mem_nil,or_false]at hc;rcases hc with rfl|rfl|rfl|rfl|rfl
  ·exact le_add_right _ _
  ·exact le_add_right _ _
  ·exact le_add_right _ _
  ·exact le_refl _
  ·exact le_add_right _ _
 exact I1.fpOk hle (I1.hok.fresh hle)
abbrev eX:=Addr×Int×List V
def cG(zs:List eX)(i:Nat):Int:=(zs.getD i (0,0,[])).2.1
theorem lz{zs:List eX}(h:(zs.map (·.2.1)).Nodup):SRT.Ord (λi j=>decide (cG zs i<cG zs j)) zs.length:=by
 refine⟨λi _=>by simp,λi j k _ _ _ h1 h2=>?_,λi j hi hj hij=>?_⟩
 ·simp only[decide_eq_true_eq]at *;omega
 ·simp only[decide_eq_true_eq];have:cG zs i≠cG zs j:=by
   unfold cG;rw[getD_eq_getElem?_getD,getD_eq_getElem?_getD,getElem?_eq_getElem hi,getElem?_eq_getElem hj];intro e;have e':(zs.map (·.2.1))[i]'(by simpa using hi)=(zs.map (·.2.1))[j]'(by simpa using hj):=by simpa using e
   exact hij ((getElem_inj h).mp e')
  omega
theorem hJ{prog:Program}{w:World}{A:Around}{s:Shared}{b:Bool}{Q:Bool→Shared→Prop}(h:Q false s):∀(l:List Value)(i:Nat),PySem.W.KatLex prog w A b false Q (l.zip l) i s
 |[],i=>h
 |v::l,i=>kat_cons (EqAt.same v prog w _ _ (PySem.W.kat_yes (hJ h l (i+1))))
theorem dg:bw X (.builtin "sorted") (λxs H Q=>∃l,∃zs:List eX,xs=[.ref l]∧(SqL X.K H l ((zs.map (·.1)).map V.ref)∨SqT X.K H l ((zs.map (·.1)).map V.ref))∧(∀z∈zs,H z.1=some (.tup (.int z.2.1::z.2.2)))∧(zs.map (·.2.1)).Nodup∧zs.length<64 ∧
  ∀zs':List eX,zs'.Perm zs→zs'.Pairwise (λa b=>a.2.1<b.2.1)→∀p,H p=none→Q (.ref p) (upd H p (.lst ((zs'.map (·.1)).map V.ref)))):=by
 intro pins s σ H xs us Q I r h;obtain⟨l,zs,rfl,hq,hk,hnd,h64,q⟩:=h;obtain⟨u,rfl,ru⟩:=cF r;cases ru;obtain⟨its,rv,pl⟩:∃its,ao ((zs.map (·.1)).map V.ref) its∧(s.heap.IsList l its.toArray∨IsTup s.heap l its.toArray):=by
  rcases hq with hq|hq
  ·obtain⟨its,rv,pl,hz⟩:=I.list hq;exact⟨its,rv,.inl pl.isList⟩
  ·obtain⟨its,rv,pl,hz⟩:=I.tuple hq;exact⟨its,rv,.inr pl⟩
 have e:=bW rv;subst e;have hlen:((zs.map (·.1)).map Value.ref).length=zs.length:=by simp
 have hobj:∀z∈zs,∃o its n t,s.heap.get? z.1=some o∧o.cls=.type "tuple"∧o.data=.seq its n∧its.toList=.int z.2.1 t::its.toList.drop 1:=λz hz'=>by
  obtain⟨_,its,rr,o,e1,e2,n,e3⟩:=I.hok z.1 _ (hk z hz');cases rr with
  |cons r1 r2 =>
   obtain⟨t,rfl⟩:=r1;exact⟨o,_,n,t,e1,e2,e3,by simp⟩
 have hget:∀i,i<zs.length→((zs.map (·.1)).map Value.ref).getD i Value.none=.ref (zs.getD i (0,0,[])).1∧zs.getD i (0,0,[])∈zs:=λi hi=>by
  rw[getD_eq_getElem?_getD,getD_eq_getElem?_getD,getElem?_map,getElem?_map,getElem?_eq_getElem hi];exact⟨rfl,getElem_mem hi⟩
 refine SRT.eF (κ:=tuples' true) (f:=λi j=>decide (cG zs i<cG zs j)) (by rw[hlen];exact lz hnd) pl (by rw[hlen];exact h64) ?kind ?less ?fin
 case kind =>
  intro A' s' _ kp Q' h2 hQ';have key:∀ys:List eX,(∀z∈ys,z∈zs)→∃fs:List Value,KatTups s'.heap ((ys.map (·.1)).map Value.ref) fs∧fs.length=ys.length∧∀v∈fs,∃i t,v=Value.int i t:=by
   intro ys
   induction ys with
   |nil=>intro _;exact⟨[],KatTups.nil,rfl,λv hv=>by simp at hv⟩
   |cons z ys ih =>
    intro hm;obtain⟨fs,h1,h2',h3⟩:=ih λy hy=>hm y (by simp[hy]);obtain⟨o,its,n,t,e1,e2,e3,e4⟩:=hobj z (hm z (by simp));refine⟨.int z.2.1 t::fs,KatTups.cons (kp _ _ e1) e2 e3 ?_ h1,by simp[h2'],λv hv=>?_⟩
    ·rw[←getElem?_toList,e4];rfl
    ·rcases mem_cons.mp hv with rfl|hv
     ·exact⟨_,_,rfl⟩
     ·exact h3 v hv
  obtain⟨fs,h1,h2',h3⟩:=key zs λz hz'=>hz';refine PySem.W.kat_kind (T:=.type "int") h1 (by rw[h2'];rw[hlen]at h2;omega) (λv hv=>?_) (by rfl) hQ';obtain⟨i,t,rfl⟩:=h3 v hv;exact .now
 case less =>
  intro A' s' _ kp i j C hi hj hC;rw[hlen]at hi hj;obtain⟨gi,mi⟩:=hget i hi;obtain⟨gj,mj⟩:=hget j hj;rw[gi,gj];obtain⟨oi,ii,ni,ti,a1,a2,a3,a4⟩:=hobj _ mi;obtain⟨oj,ij,nj,tj,b1,b2,b3,b4⟩:=hobj _ mj;refine PySem.W.kat_lt (kp _ _ a1) a3 (kp _ _ b1) b3 ?_
  by_cases hij:i=j
  ·subst hij;rw[a1]at b1;cases b1;rw[a3]at b3;cases b3;have:C false s':=by simpa using hC
   have e2:decide (ii.size<ii.size)=false:=by simp
   rw[e2];exact hJ this _ _
  ·have hne:cG zs i≠cG zs j:=by
    rcases (lz hnd).tot i j hi hj hij with h1|h1<;>simp only[decide_eq_true_eq]at h1<;>omega
   rw[a4,b4];refine kat_cons (wpAny_eqBool_int ?_);have e2:((zs.getD i (0,0,[])).2.1==(zs.getD j (0,0,[])).2.1)=false:=beq_eq_false_iff_ne.mpr hne;rw[e2];refine PySem.W.kat_no ?_;exact kat_lt_int hC
 case fin =>
  intro p h' hrow hup kp _ hg;obtain⟨c,hg⟩:=hg;rw[hlen]at hrow hup;obtain⟨zs',hzs'⟩:∃zs',zs'=p.toList.map λi=>zs.getD i (0,0,[]):=⟨_,rfl⟩;have hperm:zs'.Perm zs:=by
   rw[hzs'];refine(hrow.perm.map _).trans ?_;have:(List.range zs.length).map (λi=>zs.getD i (0,0,[]))=zs:=by
    apply ext_getElem?;intro i;rw[getElem?_map]
    by_cases hi:i<zs.length
    ·rw[getElem?_range hi,getElem?_eq_getElem hi];show some (zs.getD i (0,0,[]))=_;rw[getD_eq_getElem?_getD,getElem?_eq_getElem hi];rfl
    ·rw[getElem?_eq_none (by rw[length_range];omega),getElem?_eq_none (by omega)];rfl
   rw[this]
  have hpl:p.size=zs.length:=hrow.size;have hpw:zs'.Pairwise (λa b=>a.2.1<b.2.1):=by
   rw[pairwise_iff_getElem];intro i j hi hj hij;have hi':i<p.size:=by rw[hzs',length_map,length_toList]at hi;exact hi
   have hj':j<p.size:=by rw[hzs',length_map,length_toList]at hj;exact hj
   have:=hup i j hij (by omega);simp only[decide_eq_true_eq,cG]at this;rw[getD_eq_getD_getElem?,getD_eq_getD_getElem?,Array.getElem?_eq_getElem hi',Array.getElem?_eq_getElem hj']at this;simpa [hzs']using this
  have hout:(toArray (p.toList.map λi=>((zs.map (·.1)).map Value.ref).getD i Value.none))=((zs'.map (·.1)).map Value.ref).toArray:=by
   congr 1
   rw[hzs'];simp only[map_map];apply map_congr_left;intro i hi;have hi':i<zs.length:=mem_range.mp (hrow.perm.mem_iff.mp hi);have:=(hget i hi').1;simp only[map_map]at this;exact this
  rw[hout]at hg;have hv:ao ((zs'.map (·.1)).map V.ref) ((zs'.map (·.1)).map Value.ref):=by
   generalize zs'.map (·.1)=as
   induction as with
   |nil=>exact .nil
   |cons a as ih=>exact .cons rfl ih
  refine⟨.ref (s.heap.objs.size+1),_,I.laid (t':=s.toks) (o:=.lst ((zs'.map (·.1)).map V.ref)) kp (le_succ _) ⟨?_,_,c,hv,hg⟩,rfl,q zs' hperm hpw _ (I.hok.fresh (le_succ _))⟩;rw[length_map,length_map,hperm.length_eq,sizeLine_eq];omega
theorem dv:bw X (.builtin "sorted") (λxs H Q=>∃l,∃zs:List eX,xs=[.ref l]∧SqL X.K H l ((zs.map (·.1)).map V.ref)∧(∀z∈zs,H z.1=some (.tup (.int z.2.1::z.2.2)))∧(zs.map (·.2.1)).Nodup∧zs.length<64 ∧
  ∀zs':List eX,zs'.Perm zs→zs'.Pairwise (λa b=>a.2.1<b.2.1)→∀p,H p=none→Q (.ref p) (upd H p (.lst ((zs'.map (·.1)).map V.ref)))) :=
 λpins s σ H xs us Q I r ⟨l,zs,e,hq,h⟩=>dg pins s σ H xs us Q I r ⟨l,zs,e,.inl hq,h⟩
end
theorem gv{scope:Scope}{env:Env}(h:∀y∈scope.names,y.2≠.free):relabel scope env=scope:=by
 unfold relabel;rw[map_eq_self (l:=scope.names) (λx hx=>by
  obtain⟨n,k⟩:=x;have:(k==NameKind.free)=false:=by simpa using h _ hx
  simp[this])]
theorem eG{X:Cx}{scope:Scope}(hk:scope.kind=.function)(hf:∀y∈scope.names,y.2≠.free)(hc:∀y∈scope.names,y.2≠.cell)(hn:∀x∈scope.names,x.2=.local→scope.names.lookup x.1=some .local):LcOk X scope [] :=
 ⟨hk,closureFor_none hf,hn,hc,λx c h=>by simp at h,λx h=>by
  rw[gv hf]at h;rcases h with h|h
  ·exact absurd rfl (hc _ (PySem.mem_of_lookup h))
  ·exact absurd rfl (hf _ (PySem.mem_of_lookup h))⟩
theorem ol{k:Nat}{js:List Nat}{J:It}{g:TG}{te:TE}{σ:St}{H1:Hp}{Q:VK}{p:Addr}(n:Nat)(hn:n≤1000)(Pv:Nat→List V→St→Hp→Prop)(h0:Pv 0 [] (br k js σ) (upd H1 p (.lst [])))(hy:∀i ys σ' H',Pv i ys σ' H'→ys.length≤i)(go:∀i ys σ' H',i<n→Pv i ys σ' H'→J.go i H')(stop:∀ys σ' H',Pv n ys σ' H'→J.stop n H'∧Q (.ref p) H')(step:∀i ys σ' H',i<n→Pv i ys σ' H'→∀x H2,J.yld i H' x H2→g x σ' H2 λσ2 H3=>te σ2 H3 λy H4=>H4 p=some (.lst ys)∧Pv (i+1) (ys++[y]) σ2 (upd H4 p (.lst (ys++[y]))))(mg:∀x σ H (Q Q':St→Hp→Prop),(∀σ H,Q σ H→Q' σ H)→g x σ H Q→g x σ H Q')(me:∀σ H (Q Q':VK),(∀y H,Q y H→Q' y H)→te σ H Q→te σ H Q'):
  LcW k js g te σ Q J H1 p:=by
 refine⟨λi m ys σ' H'=>m=n-i∧i≤n∧Pv i ys σ' H',⟨n,by simp,zero_le _,h0⟩,?_⟩;rintro i m ys σ' H' ⟨rfl,hi,hp⟩
 by_cases hlt:i<n
 ·refine .inr ⟨go i ys σ' H' hlt hp,?_,λx H2 y=>?_⟩
  ·have:=hy i ys σ' H' hp;exact lt_of_le_of_lt this (ay (by omega))
  ·refine mg _ _ _ _ _ (λσ2 H3 h3=>me _ _ _ _ (λz H4 h4=>⟨h4.1,n-(i+1),by omega,rfl,hlt,h4.2⟩) h3) (step i ys σ' H' hlt hp x H2 y)
 ·have e:i=n:=by omega
  subst e;exact .inl (stop ys σ' H' hp)
theorem ag{H:Hp}{p:Addr}{o:HO}(h:H p=none):Same H (upd H p o):=λb u e=>by rw[af (ap e h)];exact e
theorem bj{H:Hp}{p a:Addr}{o u:HO}(h:H p=none)(e:H a=some u):upd H p o a=some u:=by rw[af (ap e h)];exact e
theorem aE{H0 H:Hp}{p:Addr}{o:HO}(h0:H0 p=none)(s:Same H0 H):Same H0 (upd H p o):=λb u e=>by
 rw[af (ap e h0)];exact s b u e
structure Fly(P:Program)(w:World)(outer:List Env)(H:Hp)(s:Shared)(H':Hp)(ea C:Addr)(s':Shared):Prop where
 os:s'.os=s.os
 bare:AllBare s'.gens
 un:Un (frs outer) [] H H' s.heap s'.heap
 new:H' ea=none
 fly:∃B a0,FlyingW B outer ea (.ref C) a0 s'.heap∧HOk P w H' B∧(∀b o,s.heap.get? b=some o→H b=none→b∉frs outer→B.get? b=some o) ∧
  ∀b o,s.heap.get? b=some o→b∉frs outer→∃o',B.get? b=some o'
def CX1(P:Program)(w:World):CXT:=λouter H s E e s'=>∃ea C H',e=.ref ea∧Fly P w outer H s H' ea C s'∧E (.ref C) none H'
theorem aO.ex{P:Program}{w:World}{H:Hp}{h:Heap}{a:Addr}{o:HO}(x:aO P w H h a o):∃ob,h.get? a=some ob:=by
 cases o with
 |lst xs=>obtain⟨_,_,_,_,e⟩:=x;exact⟨_,e⟩
 |tup xs=>obtain⟨_,_,_,ob,e,_⟩:=x;exact⟨ob,e⟩
 |dK kvs=>obtain⟨_,_,_,_,o,_,_,e,_⟩:=x;exact⟨_,e⟩
 |dT kvs=>obtain⟨_,_,_,_,o,_,_,e,_⟩:=x;exact⟨_,e⟩
 |set S n=>obtain⟨o,_,_,_,e,_⟩:=x;exact⟨_,e⟩
 |ins C dx fs=>obtain⟨_,_,_,e,_⟩:=x;exact⟨_,e⟩
 |own y=>obtain⟨_,e⟩:=x;exact⟨_,e⟩
 |xd fs=>obtain⟨_,⟨_,_,_,e,_⟩,_⟩:=x;exact⟨_,e⟩
 |rng lo hi=>obtain⟨_,_,_,e⟩:=x;exact⟨_,e⟩
 |frz ob u=>obtain⟨e,_⟩:=x;exact⟨_,e⟩
 |tbl ps=>exact⟨_,(show h.get? a=some _ from x)⟩
 |met f y=>exact⟨_,(show h.get? a=some _ from x)⟩
 |ext φ=>obtain⟨_,⟨_,e⟩,_⟩:=x;exact⟨_,e⟩
theorem lA{P:Program}{w:World}{H:Hp}{h:Heap}{l:List Addr}(x:HOk P w H h)(hl:∀b∈l,H b=none):HOk P w H (hideAll h l):=λa o e =>
 (x a o e).stay (λb u hb q=>hideAll_get l q λz=>by
  have:=hl b z;rcases hb with hb|hb
  ·rw[hb,e]at this;cases this
  ·rw[hb]at this;cases this) (λ_ q=>q) λ_ _ q=>q
section
variable{P:Program}{w:World}{l:List Env}{H H':Hp}{h1 h2 h3 B:Heap}{ea:Addr}{cls a0:Value}
theorem lB(un:Un (frs l) [] H H' h1 h2)(fl:FlyingW B l ea cls a0 h2)(hB:HOk P w H' B)(kp:∀b o,h1.get? b=some o→H b=none→b∉frs l→B.get? b=some o)(th:∀b o,h1.get? b=some o→b∉frs l→∃o',B.get? b=some o')(st:B.StaysIn h3)(hs:h2.UpToSlots h3):Un (frs l) [] H H' h1 h3∧HOk P w H' h3:=by
 refine⟨⟨λb o e n hb _=>st b o (kp b o e n hb),λb o e n hb hx=>?_,un.free,λb o e _=>?_,un.tups,un.frzs,un.tbls⟩,hB.kept st⟩
 ·obtain⟨sl,q⟩:=un.slot b o e n hb hx;obtain⟨_,o',ho',hd⟩:=fl.2.2.1.mem hb;rw[q]at ho';cases ho';obtain⟨sl',q'⟩:=hs b _ q hd;exact⟨sl',q'⟩
 ·by_cases hb:b∈frs l
  ·obtain⟨_,o',ho',hd⟩:=fl.2.2.1.mem hb;obtain⟨sl',q'⟩:=hs b _ ho' hd;exact⟨_,q'⟩
  ·obtain⟨o',q⟩:=th b o e hb;exact⟨o',st b o' q⟩
end
section
variable{X:Cx}{pins:List (Addr×Obj)}{σ:St}{H H':Hp}{s s':Shared}{ea C:Addr}{E:XK}
theorem Inv.fly_up(I:Inv X pins σ H s)(hex:X.ex=[])(J:Inv X pins σ H' s')(new:H' ea=none){B:Heap}{a0:Value}(fl:FlyingW B X.outer ea (.ref C) a0 s'.heap)(hB:HOk X.prog X.w H' B)(kp:∀b o,s.heap.get? b=some o→H b=none→b∉frs X.stack→B.get? b=some o)(th:∀b o,s.heap.get? b=some o→b∉frs X.stack→∃o',B.get? b=some o'):Fly X.prog X.w X.outer X.H₀ X.s₀ H' ea C s':=by
 have ub:=I.base;rw[hex]at ub;have uj:=J.base;rw[hex]at uj;have ne:∀b o,X.s₀.heap.get? b=some o→b∉frs X.outer→b∉frs X.stack:=λb o e n hb=>by
  rcases mem_cons.mp (I.stkSub b hb)with z|z
  ·have:=lt_size e;rw[z]at this;exact absurd (lt_of_lt_of_le this I.ok.above) (lt_irrefl _)
  ·exact n z
 refine⟨J.os,J.bare,uj,new,B,a0,fl,hB,λb o e n hb=>?_,λb o e hb=>?_⟩
 ·exact kp b o (ub.keep b o e n hb (by simp)) (ub.free b o e n (by simp)) (ne b o e hb)
 ·obtain⟨o',q⟩:=ub.there b o e (by simp);exact th b o' q (ne b o e hb)
structure Lv(X:Cx)(E:XK):Prop where
 ex:X.ex=[]
 stk:X.stack=X.env::X.outer
 fr:X.env.frame=some X.env.locals
 xe:X.xe=λe s'=>wpAny (model X.prog X.w) X.A (leaving X.env e) (λ_ s''=>CX1 X.prog X.w X.outer X.H₀ X.s₀ E e s'') (λe' s''=>CX1 X.prog X.w X.outer X.H₀ X.s₀ E e' s'') s'
theorem lC{P:Program}{w:World}{K:PySem.W.Frag}{mg:Str→Option Value}{base:Heap}{N:List Str}{qual:Str}{scope:Scope}{f:Addr}{cd:Value}{A:Around}{outer:List Env}{s:Shared}{H:Hp}{E:XK} :
  Lv (dJ (CX1 P w) P w K mg base N qual scope f cd A outer s H E) E:=⟨rfl,rfl,rfl,rfl⟩
theorem om(L:Lv X E):dX (CX1 X.prog X.w) X E:=by
 intro pins σ H s e s' I h;obtain⟨ea,C,H',rfl,F,hE⟩:=h;rw[L.xe];obtain⟨B,a0,fl,hB,kp,th⟩:=id F.fly;have fl':=fl;rw[L.stk]at fl';refine wpAny_leaves_onW (by rw[I.ok.frames,L.stk]) L.fr fl' λh' fl2 hs=>?_;obtain⟨u,ok⟩:=lB F.un fl hB kp th fl2.1 hs;have J:Inv X pins σ H' {s' with heap:=h'}:=I.call' (s':={s' with heap:=h'}) F.os u ok F.bare λb z=>absurd z (by simp)
 exact⟨ea,C,H',rfl,I.fly_up L.ex J F.new fl2 hB kp th,hE⟩
theorem Inv.ground(I:Inv X pins σ H s):(hideAll s.heap (frs X.stack)).StaysIn s.heap∧s.heap.FunFrames (hideAll s.heap (frs X.stack)) X.stack∧HOk X.prog X.w H (hideAll s.heap (frs X.stack)) :=
 ⟨λb o q=>of_hideAll _ q,PySem.W.funFrames_hide I.stack λenv he b hb=>List.mem_filterMap.mpr ⟨env,he,hb⟩,lA I.hok I.stkFree⟩
theorem qz(L:Lv X E)(I:Inv X pins σ H s){h':Heap}{vs:List Value}(hx:Heap.MadeExcOf s.heap h' ea (.ref C) vs)(hE:E (.ref C) none H):X.xe (.ref ea) {s with heap:=h'}:=by
 rw[L.xe];obtain⟨g1,g2,g3⟩:=I.ground;have g2':s.heap.FunFrames (hideAll s.heap (frs X.stack)) (X.env::X.outer):=L.stk ▸ g2;refine wpAny_leaves_madeW (s:={s with heap:=h'}) (by rw[I.ok.frames,L.stk]) L.fr g1 g2' hx λh'' t fl _ _ hs=>?_;have hs':s.heap.UpToSlots h'':=(Heap.UpToSlots.of_keeps hx.keeps).trans hs;have u:Un (frs X.stack) [] H H s.heap h'':=⟨λb o e n hb _=>fl.1 b o (hideAll_get _ e hb),λb o e n hb _=>by
   obtain⟨_,o',ho',hd⟩:=g2.mem hb;rw[e]at ho';cases ho';exact hs' b o e hd,λb o e n _=>n,λb o e _=>by
   by_cases hb:b∈frs X.stack
   ·obtain⟨_,o',ho',hd⟩:=g2.mem hb;obtain⟨sl,q⟩:=hs' b o' ho' hd;exact⟨_,q⟩
   ·exact⟨o,fl.1 b o (hideAll_get _ e hb)⟩,λ_ _ q=>q,λ_ _ _ q=>q,λb ps q=>⟨#[],by simpa using q⟩⟩
 have J:Inv X pins σ H {s with heap:=h''}:=I.call' (s':={s with heap:=h''}) rfl u (g3.kept fl.1) I.bare λb z=>absurd z (by simp)
 have new:H ea=none:=by
  cases q:H ea with
  |none=>rfl
  |some o =>
   obtain⟨ob,e⟩:=(I.hok ea o q).ex;have h2:=hx.new;rw[e]at h2;cases h2
 exact⟨ea,C,H,rfl,I.fly_up L.ex J new fl g3 (λb o e _ hb=>hideAll_get _ e hb) λb o e hb=>⟨o,hideAll_get _ e hb⟩,hE⟩
end
end L2
namespace XI
open PySem PySem.Spec PySem.W
section
variable{prog:Program}{w:World}{A:Around}{E:Value→Shared→Prop}{h:Heap}{g:Array GenState}{d:Drawn}{t:Nat}{os:OsState}{a:Addr}{o:Obj}{vs:Array Value}{nm q:Str}{C N:Addr}{bs bm:List Value}{hdct:Bool}{sn:List Str}{sub:List Value}{ab:Bool}{col:Option Bool}{dd:Option Addr}{k0 k1 k2 k3 k5:Option Value}{newId:String}
end
end XI
namespace L2
open PySem PySem.Spec PyProof.Rows
section
variable{X:Cx}{pins:List (Addr×Obj)}{σ:St}{H:Hp}{s:Shared}
def tF2(te:TE):TE:=λσ H Q=>te σ H λv H1=>∃i:Int,v=.int i∧0≤i∧i≤60∧∀y,Q (.str y) H1
theorem iS(i:Int)(h0:0≤i)(h1:i≤60):(ofString (toString i)).length≤100:=by
 have key:∀n:Fin 61,(ofString (toString ((n.val:Nat):Int))).length≤100:=by decide +kernel
 have:=key ⟨i.toNat,by omega⟩;have e:((i.toNat:Nat):Int)=i:=by omega
 rw[e]at this;exact this
theorem qA{x:Str}{j:Nat}{p1 p2 p3:Pos}{e:Expr}{te:TE}(he:PE X e te)(hx:x.length≤800):PE X (.JoinedStr [.Constant (.str x) j p1,.FormattedValue e (-1) none p2] p3) (tF2 te):=by
 intro pins s σ H Q I h;have hl:(empty++x).length≤800:=by rw[strLen_append];show 0+x.length≤800;omega
 refine JoinedStr_many (joinParts_cons (Calls.Constant_str ?_));refine⟨le_of_lt (ay (by omega)),?_⟩;refine joinParts_cons (FormattedValue_plain (thn (he pins _ σ H _ (I.tok _) h) λv s1 hpt=>?_));obtain⟨y,H1,I1,r1,q1⟩:=hpt;obtain⟨i,rfl,h0,h1,q⟩:=q1;obtain⟨t,rfl⟩:=r1;have h2:=iS i h0 h1;have h3:((empty++x)++ofString (toString i)).length≤1000:=by rw[strLen_append];omega
 refine formatField_int_small (lt_of_le_of_lt (Nat.log2_le_self _) (by omega)) ⟨le_of_lt (ay h3),?_⟩;exact joinParts_nil ⟨.str _,H1,(I1.tok _).tok _,⟨_,rfl⟩,q _⟩ (le_of_lt (ay h3))
abbrev bmV:List Value:=[.type "ValueError",.type "Exception",.type "BaseException",.type "object"]
abbrev qB(X:Cx)(x:Str)(C:Addr):Prop:=OwnCls x C bmV "ValueError.__new__" X.mg X.base
def ph(C:Addr)(E:XK)(ta:TE):TS:=λ_ σ H=>dB ta iE σ H λvs H1=>vs.length≤sizeLine∧E (.ref C) none H1
theorem lD{E:XK}(L:Lv X E){x:Str}{C:Addr}{np cpos pos:Pos}{a:Expr}{ta:TE}(O:qB X x C)(hh:X.A.handled=none)(hg:Gl X x)(ha:PE X a ta)(hs:starEach [a] X.env=[(false,eval a X.env)]:=by rfl)(hd:(x==("__debug__":Str))=false:=by decide):PS X (.Raise (some (.Call (.Name x np) [a] [] cpos)) none pos) (ph C E ta):=by
 intro pins s σ H D I h;obtain⟨tl,N,nm,q,bs,hdct,sn,sub,ab,col,dd,k0,k1,k2,k3,k5,mN,hC,hN,hni,T⟩:=O.obj;refine wpAny_Raise_call_subT (C:=C) (nm:=nm) (q:=q) (N:=N) (bs:=bs) (bm:=tl) (hdct:=hdct) (sn:=sn) (sub:=sub) (ab:=ab) (col:=col) (dd:=dd) (k0:=k0) (k1:=k1) (k2:=k2) (k3:=k3) (k5:=k5)
  PySem.F.excBase_ValueError (mN:=mN) (T.hasType PySem.F.excBase_ValueError.hasBase) hh (by rw[hs];rfl) hni (gg I hg O.bound ⟨rfl,?_⟩ hd)
 have hA:PA X [a] (dB ta iE):=aa ha ae hs;have h':=hA cpos pins s σ H (λvs H1=>vs.length≤sizeLine∧E (.ref C) none H1) I h;rw[hs]at h'⊢;refine evalArgs_plain (thn h' λus s2 hpt=>?_);obtain⟨vs,H2,I2,r2,q2⟩:=hpt;exact⟨rfl,by rw[←r2.length];exact q2.1,I2.bk _ _ hC,hN.keeps I2.bk,T.keeps I2.bk,λh' e hx=>qz L I2 hx q2.2⟩
end
end L2
namespace DL
open PySem PySem.Spec PyProof.Rows
theorem eI:entryFor table "dict.update.loop"=some Builtin.«dict.update.loop»:=entryFor_of_tree (by kernel_rfl)
theorem ci:plainId "dict.update.loop"=true:=by decide +kernel
theorem gw:typeLookup (.type "list") "keys"=pure none:=by rw[typeLookup_type,builtinLookup_eq_fast];kernel_rfl
section
variable{prog:Program}{w:World}{A:Around}{E:Value→Shared→Prop}{s:Shared}
theorem nh{a:Addr}{xs:Array Value}{k:Nat}{sl:Array (Option Value)}{u:Tok}{Q:Value→Shared→Prop}(hx:s.heap.get? a=some {cls:=.type "list",dict:=none,data:=.seq xs k,slots:=sl})(hA:A.handled=none)(h:∀h' tk e,Heap.NewExcOf s.heap h' e "AttributeError"→E (.ref e) {s with heap:=h',toks:=tk}):
  wpAny (model prog w) A (getAttrBy (.ref a) (.str "keys" u) false) Q E s:=by
 obtain⟨hp,g,d,tk,os⟩:=s;have hT:∀tk',(⟨hp,g,d,tk',os⟩:Shared).TypeIs (.ref a) "list":=λ_=>⟨_,hx,rfl⟩;have f1:=sub_AttributeError;have f3:=F.slot_list_getattribute.lookup;have f4:=F.slot_list_getattribute.bind (.ref a);have f5:=am_list_getattr_none;unfold getAttrBy
 repeat (any_goals (first|assumption|exact hT _|((with_reducible show wpAny _ _ (call (Value.builtin "list.__getattribute__") _ _) _ _ _);refine call_meets F.slot_list_getattribute (hT _) am_entry_list_getattribute (F.args_list_getattribute_2 _ _) (meets_getattribute_miss_list a xs k sl "keys" _ gw (by decide) (by size_fits)) ⟨hx,hA,λh' tk' e hx'=>?_⟩)|wp_step))
 obtain⟨t',u',he⟩:=hx'.there;show wpAny _ _ (getattributeRaised _ _ _ _ _ _ _) _ _ _;unfold getattributeRaised
 repeat (any_goals (first|assumption|wp_step))
 exact h _ _ _ hx'.of
theorem nk{a:Addr}{xs:Array Value}{k:Nat}{sl:Array (Option Value)}{Q:Option Value→Shared→Prop}(hx:s.heap.get? a=some {cls:=.type "list",dict:=none,data:=.seq xs k,slots:=sl})(hA:A.handled=none)(h:∀h' tk,(∀b o,s.heap.get? b=some o→h'.get? b=some o)→Q none {s with heap:=h',toks:=tk}):
  wpAny (model prog w) A (getAttr? (.ref a) "keys") Q E s:=by
 obtain⟨hp,g,d,tk,os⟩:=s;have f1:=sub_AttributeError;unfold getAttr? getAttrBy?
 repeat (any_goals (first|assumption|((with_reducible show wpAny _ _ (getAttrBy _ _ false) _ _ _);refine nh (s:=⟨hp,g,d,_,os⟩) hx hA λh' tk' e hx'=>?_)|wp_step))
 obtain⟨⟨oc,od,odt,osl⟩,vs,he,hc,_,_⟩:=hx'.there;simp only at hc;subst hc
 repeat (any_goals (first|assumption|with_reducible refine wpAny_loadPart_at he ?_|wp_step))
 exact h h' tk' λb o e=>hx'.keeps b o e
end
section
variable{prog:Program}{w:World}{A:Around}{E:Value→Shared→Prop}{R:Result→Shared→Prop}{I:Addr}{fp wr:List Addr}{G:Array GenState→Array GenState→Prop}{n:Nat}{P:Nat→Value→Prop}{St:Nat→Shared→Prop}
theorem ke(W:WalksS prog w A.in1 I fp wr G n P St)(d:Addr)(hdf:d∉fp)(ad:Nat→Addr)(kk vv:Nat→Value)(hval:∀i v,P i v→v=.ref (ad i))(had:∀i,i<n→ad i∉d::wr)(D:Nat→Heap→Prop)(hD:∀i (h h':Heap),D i h→(∀b o,b∉wr→h.get? b=some o→h'.get? b=some o)→D i h')(step:∀i (s:Shared) (E:Value→Shared→Prop) (Q:Unit→Shared→Prop),i<n→D i s.heap→(∀h' tk,s.toks≤tk→SameBut d s.heap h'→D (i+1) h'→Q () {s with heap:=h',toks:=tk})→wpAny (model prog w) A.in1 (dictSet d (kk i) (vv i)) Q E s):
  ∀(k i:Nat)(s:Shared)(tk:Tok),n-i=k→i≤n→St i s→D i s.heap→(∀j,j<n→IsTup s.heap (ad j) #[kk j,vv j]) →
   (∀s',Moved (d::wr) G s s'→D n s'.heap→R (.ok (.ret .none)) s') →
   codeAny (model prog w) A (.builtin "dict.update.loop" ⟨[.ref d,.ref I,.int i tk,.none],[]⟩) R s:=by
 have hdw:d∉wr:=λh=>hdf (W.sub _ h);have hsub:∀b∈wr,b∈d::wr:=λb hb=>mem_cons_of_mem _ hb;have hadw:∀i,i<n→ad i∉wr:=λi hi h=>had i hi (mem_cons_of_mem _ h);have hadd:∀i,i<n→ad i≠d:=λi hi h=>had i hi (by rw[h];exact mem_cons_self);intro k
 induction k with
 |zero =>
  intro i s tk hk hi hst hDi htp hR;have hin:i=n:=by omega
  subst hin;refine codeAny_builtin eI ?_;rw[Around.under_plainId ci _];show wpAny _ A.in1 (pyNext (.ref I) >>= _) _ _ s;refine wpAny_bind (W.done s _ _ hst λs' hm=>?_);show wpAny _ A.in1 (Builtin.Dict.addKeywords d [] >>= λ_=>ret Value.none) _ _ s';exact wpAny_bind (wpAny_pure (wpAny_pure (hR s' (hm.mono hsub) (hD _ _ _ hDi hm.heap))))
 |succ k ih =>
  intro i s tk hk hi hst hDi htp hR;have hlt:i<n:=by omega
  refine codeAny_builtin eI ?_;rw[Around.under_plainId ci _];show wpAny _ A.in1 (pyNext (.ref I) >>= _) _ _ s;refine wpAny_bind (W.item i s _ _ hlt hst λv s' hP hst' hm=>?_);have hv:=hval i v hP;subst hv;have hDi':D i s'.heap:=hD _ _ _ hDi hm.heap;have htp':∀j,j<n→IsTup s'.heap (ad j) #[kk j,vv j]:=λj hj=>by
   obtain⟨o,ho,r⟩:=htp j hj;exact⟨o,hm.heap _ o (hadw j hj) ho,r⟩
  obtain⟨ot,hot,hct,nt,hdt⟩:=htp' i hlt;have hT:s'.TypeIs (.ref (ad i)) "tuple":=⟨ot,hot,hct⟩;refine wpAny_bind (wpAny_holding ?_);refine wpAny_bind (wpAny_tryCatch ?_);unfold Builtin.Dict.pairItems;refine wpAny_bind (wpAny_typeOf hT ?_);rw[if_pos (by decide)];generalize hDS:dictSet=DS;obtain⟨hp,g,dr,t,os⟩:=s';obtain⟨ocls,odict,odata,oslots⟩:=ot;simp only at hct hdt;subst hct hdt
  repeat (any_goals (first|assumption|with_reducible refine wpAny_loadPart_at hot ?_|wp_step))
  subst hDS;refine step i _ _ _ hlt hDi' λh' tk' htk hsb hD'=>?_;have hsb':SameBut d hp h':=hsb;have hkeep:∀b o,b∉d::wr→hp.get? b=some o→h'.get? b=some o:=λb o hb e=>by
   rw[hsb'.2 b (λz:b=d=>hb (by rw[z];exact mem_cons_self))];exact e
  refine wpAny_pure ⟨plainId_quiet ci _,?_⟩;refine ih (i+1) _ _ (by omega) hlt (W.frame _ _ _ _ hst' htk λb hb o e=>?_) hD' (λj hj=>?_) λs'' hm'' hD''=>?_
  ·rw[hsb'.2 b (λh:b=d=>hdf (by rw[←h];exact hb))];exact e
  ·obtain⟨o,ho,r⟩:=htp' j hj;exact⟨o,hkeep _ o (had j hj) ho,r⟩
  ·exact hR s'' (Moved.trans W.gtrans ((hm.mono hsub).then_heap htk λb o hb e=>hkeep b o hb e) hm'') hD''
end
section
variable{prog:Program}{w:World}{A:Around}{E:Value→Shared→Prop}{s:Shared}
theorem cu{l:Addr}{items:Array Value}{nl:Nat}{sl:Array (Option Value)}{Q:Value→Shared→Prop}(hh:A.handled=none)(hl:s.heap.get? l=some {cls:=.type "list",dict:=none,data:=.seq items nl,slots:=sl})(ad:Nat→Addr)(kk vv:Nat→Value)(hi:∀(i:Nat) (v:Value),items[i]?=some v→v=Value.ref (ad i))(ht:∀i,i<items.size→IsTup s.heap (ad i) #[kk i,vv i])(D:Nat→Heap→Prop)(hD0:∀h',h'.get? s.heap.objs.size=some {cls:=.type "dict",data:=.dict #[]}→(∀b o,s.heap.get? b=some o→h'.get? b=some o)→D 0 h')(hD:∀i (h h':Heap),D i h→(∀b o,b≤s.heap.objs.size→h.get? b=some o→h'.get? b=some o)→D i h')(step:∀i (s':Shared) (E:Value→Shared→Prop) (Q:Unit→Shared→Prop),i<items.size→D i s'.heap→(∀h' tk,s'.toks≤tk→SameBut s.heap.objs.size s'.heap h'→D (i+1) h'→Q () {s' with heap:=h',toks:=tk}) →
   wpAny (model prog w) A.in1.in1 (dictSet s.heap.objs.size (kk i) (vv i)) Q E s')(h:∀h' tk,D items.size h'→(∀b o,s.heap.get? b=some o→h'.get? b=some o)→Q (.ref s.heap.objs.size) {s with heap:=h',toks:=tk}):
  wpAny (model prog w) A (call (.type "dict") [.ref l]) Q E s:=by
 refine callType_codes (Q₁:=λobj s₁=>obj=.ref s.heap.objs.size∧s₁={s with heap:=s.heap.push {cls:=.type "dict",data:=.dict #[]}}) F.kt_called_dict (F.kt_typeCall_dict_1 _) F.entry_dict_init (kt_code_dict_new _ ⟨rfl,rfl⟩) ?_;rintro obj s₁ ⟨rfl,rfl⟩;have hnew:(s.heap.push {cls:=.type "dict",data:=.dict #[]}).get? s.heap.objs.size=some {cls:=.type "dict",data:=.dict #[]}:=get?_push_size _ rfl;have hTd:Shared.TypeIs {s with heap:=s.heap.push {cls:=.type "dict",data:=.dict #[]}} (.ref s.heap.objs.size) "dict":=⟨_,hnew,rfl⟩
 have hl':(s.heap.push {cls:=.type "dict",data:=.dict #[]}).get? l=some {cls:=.type "list",dict:=none,data:=.seq items nl,slots:=sl}:=get?_push_of_some _ hl;have hTl:Shared.TypeIs {s with heap:=s.heap.push {cls:=.type "dict",data:=.dict #[]}} (.ref l) "list":=⟨_,hl',rfl⟩
 refine⟨hTd,F.args_dict_init_2 _ _,?_⟩;unfold Builtin.«dict.__init__»;refine wpAny_bind ?_;unfold Builtin.Dict.selfAndRest;refine wpAny_bind (wpAny_notOrdered_dict hTd ?_);show wpAny _ _ (pure (s.heap.objs.size,[Value.ref l])) _ _ _;refine wpAny_pure ?_;show wpAny _ _ (Builtin.Dict.updateFrom "dict.__init__" s.heap.objs.size (.ref l) [] .none) _ _ _;unfold Builtin.Dict.updateFrom;refine wpAny_bind (wpAny_typeOf hTl ?_);rw[if_pos (by decide)];refine wpAny_bind (nk (s:={s with heap:=s.heap.push {cls:=.type "dict",data:=.dict #[]}}) hl' (show A.in1.in1.handled=none by simp[hh]) λh1 tk1 hk1=>?_);have hk1':∀b o,(s.heap.push {cls:=.type "dict",data:=.dict #[]}).get? b=some o→h1.get? b=some o:=hk1;have hL1:h1.IsList l items:=⟨_,hk1' _ _ hl',rfl,nl,rfl⟩;rw[if_pos (show(none:Option Value).isNone=true from rfl)];refine wpAny_bind (wpAny_rule ?_);refine wpAny_bind (wpAny_pyIter_list hL1 ?_);have hlS:l<s.heap.objs.size:=lt_size hl;have hS1:s.heap.objs.size<h1.objs.size:=lt_size (hk1' _ _ hnew);have k0:∀b o,s.heap.get? b=some o→h1.get? b=some o:=λb o e=>hk1' b o (get?_push_of_some _ e);have hadlt:∀i,i<items.size→ad i<s.heap.objs.size:=λi hi'=>by
  obtain⟨o,ho,_⟩:=ht i hi';exact lt_size ho
 refine wpAny_pure ⟨plainId_quiet ci _,ke (A:=A.in1) ((Walks.list (show A.in1.in1.handled=none by simp[hh]) h1.objs.size l (ne_of_lt (lt_trans hlS hS1)) items).toS) s.heap.objs.size ?hdf ad kk vv hi ?had D ?hD' (λi s' E Q hi' hDi hq=>step i s' E Q hi' hDi hq)
  (items.size-0) 0 _ 0 (by omega) (zero_le _) ⟨⟨_,get?_push_size _ rfl,rfl,rfl⟩,hL1.push _⟩ ?hD0' ?ht' λs' hm hDn=>?_⟩
 case hdf =>
  simp only[mem_cons,not_mem_nil,or_false,not_or];exact⟨ne_of_lt hS1,ne_of_gt hlS⟩
 case had =>
  intro i hi';simp only[mem_cons,not_mem_nil,or_false,not_or];exact⟨ne_of_lt (hadlt i hi'),ne_of_lt (lt_trans (hadlt i hi') hS1)⟩
 case hD' =>
  intro i g g' hDi hk;refine hD i g g' hDi λb o hb e=>hk b o ?_ e;simp only[mem_cons,not_mem_nil,or_false];exact ne_of_lt (lt_of_le_of_lt hb hS1)
 case hD0' =>
  exact hD0 _ (get?_push_of_some _ (hk1' _ _ hnew)) λb o e=>get?_push_of_some _ (k0 b o e)
 case ht' =>
  intro j hj;obtain⟨o,ho,r⟩:=ht j hj;exact⟨o,get?_push_of_some _ (k0 _ _ ho),r⟩
 obtain⟨h',g',d',tk',os'⟩:=s';have eg:g'=s.gens:=hm.gens;have ed:d'=s.drawn:=hm.drawn;have eo:os'=s.os:=hm.os;subst eg;subst ed;subst eo;refine⟨rfl,h h' tk' hDn λb o e=>?_⟩;have hb:b<s.heap.objs.size:=lt_size e;refine hm.heap b o ?_ (get?_push_of_some _ (k0 b o e));simp only[mem_cons,not_mem_nil,or_false,not_or];exact⟨ne_of_lt hb,ne_of_lt (lt_trans hb hS1)⟩
end
end DL
namespace L2
open PySem PySem.Spec PyProof.Rows
section
variable{X:Cx}
theorem pi{pins:List (Addr×Obj)}{σ:St}{H:Hp}{s:Shared}(I:Inv X pins σ H s){a:Addr}{x y:V}(h:H a=some (.tup [x,y])):∃u v,aq x u∧aq y v∧IsTup s.heap a #[u,v]:=by
 obtain⟨_,its,r,ht⟩:=I.hok a _ h;cases r with
 |cons r1 r =>
  cases r with
  |cons r2 r=>cases r;exact⟨_,_,r1,r2,by simpa using ht⟩
theorem hO{κ:Type}{pins:List (Addr×Obj)}{σ:St}{H:Hp}{s:Shared}(I:Inv X pins σ H s){zs:List (Addr×κ×V)}(kf:Addr×κ×V→V)(hk:∀z∈zs,H z.1=some (.tup [kf z,z.2.2])):
  ∃f:Addr×κ×V→Value×Value,∀z∈zs,aq (kf z) (f z).1∧aq z.2.2 (f z).2∧IsTup s.heap z.1 #[(f z).1,(f z).2]:=by
 have hch:∀z:Addr×κ×V,∃p:Value×Value,z∈zs→aq (kf z) p.1∧aq z.2.2 p.2∧IsTup s.heap z.1 #[p.1,p.2]:=λz=>by
  by_cases hz':z∈zs
  ·obtain⟨u,v,a,b,c⟩:=pi I (hk z hz');exact⟨(u,v),λ_=>⟨a,b,c⟩⟩
  ·exact⟨(.none,.none),λh=>absurd h hz'⟩
 exact⟨λz=>Classical.choose (hch z),λz hz=>Classical.choose_spec (hch z) hz⟩
theorem ba{α:Type}{l:List α}{i:Nat}{d:α}(h:i<l.length):l.getD i d∈l∧l[i]?=some (l.getD i d):=by
 rw[getD_eq_getElem?_getD,getElem?_eq_getElem h];exact⟨getElem_mem h,rfl⟩
theorem fH{κ:Type}{zs:List (Addr×κ×V)}{d:Addr×κ×V}{i:Nat}{v:Value}(h:(((zs.map (·.1)).map Value.ref).toArray)[i]?=some v):v=Value.ref (zs.getD i d).1:=by
 have h':((zs.map (·.1)).map Value.ref)[i]?=some v:=by simpa using h
 rw[getElem?_map,getElem?_map]at h';rw[getD_eq_getElem?_getD];cases e:zs[i]? with
 |none=>rw[e]at h';cases h'
 |some z=>rw[e]at h';exact(Option.some.inj h').symm
theorem bv{α:Type}{l:List α}{i:Nat}{x:α}(h:l[i]?=some x):l.take (i+1)=l.take i++[x]:=by rw[take_succ,h];rfl
theorem fJ{α κ:Type}{l:List α}{f:α→κ}{i:Nat}{x:α}(hn:(l.map f).Nodup)(h:l[i]?=some x):f x∉(l.take i).map f:=by
 intro hm;obtain⟨y,hy,e⟩:=mem_map.mp hm;obtain⟨j,hj,e2⟩:=List.mem_iff_getElem.mp hy;have hj':j<i:=by rw[length_take]at hj;omega
 have hi:i<l.length:=(List.getElem?_eq_some_iff.mp h).1;have e3:(l.map f)[j]'(by rw[length_map];omega)=(l.map f)[i]'(by rw[length_map];omega):=by
  rw[getElem_map,getElem_map];rw[List.getElem_take]at e2;rw[e2,e,(List.getElem?_eq_some_iff.mp h).2]
 have:=(getElem_inj hn).mp e3;omega
theorem dF(hc:X.calm=true):bw X (.type "dict") (λxs H Q=>∃l,∃zs:List (Addr×Key×V),xs=[.ref l]∧H l=some (.lst ((zs.map (·.1)).map V.ref))∧(∀z∈zs,H z.1=some (.tup [kV z.2.1,z.2.2]))∧zs.length≤1000 ∧
  (zs.map (·.2.1)).Nodup∧((∀d o,H d=none→Q (.ref d) (upd H d (.frz o (.dK (zs.map (·.2))))))∨∀d,H d=none→Q (.ref d) (upd H d (.dK (zs.map (·.2)))))):=by
 intro pins s σ H xs us Q I r h;obtain⟨l,zs,rfl,hl,hk,hz,hnd,q⟩:=h;obtain⟨u,rfl,ru⟩:=cF r;cases ru;obtain⟨_,its,nl,rv,ho⟩:=I.hok l _ hl;have e:=bW rv;subst e;obtain⟨f,hf⟩:=hO I (λz=>kV z.2.1) hk;have hsz:(((zs.map (·.1)).map Value.ref).toArray).size=zs.length:=by simp
 refine DL.cu (s:=s) (I.ok.hd hc) ho (λi=>(zs.getD i (0,.inl 0,.non)).1) (λi=>(f (zs.getD i (0,.inl 0,.non))).1) (λi=>(f (zs.getD i (0,.inl 0,.non))).2) (λi v hv=>fH hv) (λi hi=>?_)
  (λi h'=>h'.DictOf (am X.prog X.w) s.heap.objs.size ((zs.take i).map λz=>(z.2.1,(f z).2))) (λh' hg _=>?_) (λi g g' hd hk=>?_) (λi s' E Q hi hd hq=>?_) λh' tk hd hkeep=>?_
 ·rw[hsz]at hi;exact(hf _ (ba hi).1).2.2
 ·exact⟨_,#[],0,hg,⟨rfl,rfl,rfl⟩,rfl,λ_ he=>by simp at he,Pairs.nil,nodup_nil⟩
 ·obtain⟨o,es,ep,ho,r⟩:=hd;exact⟨o,es,ep,hk _ o (le_refl _) ho,r⟩
 ·rw[hsz]at hi;obtain⟨hm,hg⟩:=ba (d:=((0,.inl 0,.non):Addr×Key×V)) hi;refine wpAny_dictSet_pairs (hsz:=by rw[length_map,length_take];have:=ay hz;omega) (k:=(zs.getD i (0,.inl 0,.non)).2.1) (dD (hf _ hm).1) hd λh' hd' hs=>hq h' _ (le_succ _) hs ?_;have e1:=bv hg;have e2:=fJ hnd hg;rw[e1,map_append];unfold stored at hd';rw[if_neg]at hd'
  ·exact hd'
  ·intro ha;obtain⟨p,hp,he⟩:=any_eq_true.mp ha;obtain⟨z,hz',rfl⟩:=mem_map.mp hp;exact e2 (mem_map.mpr ⟨z,hz',of_decide_eq_true he⟩)
 ·rw[hsz,take_length]at hd;obtain⟨ob,hob⟩:∃ob,h'.get? s.heap.objs.size=some ob:=let⟨o,_,_,ho,_⟩:=hd;⟨o,ho⟩;have hrel:KV (zs.map (·.2)) (zs.map λz=>(z.2.1,(f z).2)):=by
   have:∀ys:List (Addr×Key×V),(∀z∈ys,z∈zs)→KV (ys.map (·.2)) (ys.map λz=>(z.2.1,(f z).2)):=by
    intro ys
    induction ys with
    |nil=>intro _;exact .nil
    |cons z ys ih=>intro hm;exact .cons ⟨rfl,(hf z (hm z (by simp))).2.1⟩ (ih λy hy=>hm y (by simp[hy]))
   exact this zs λz hz=>hz
  have hdk:∀H':Hp,aO X.prog X.w H' h' s.heap.objs.size (.dK (zs.map (·.2))):=λH'=>iL (le_of_lt (ay (by rw[length_map];exact hz))) (beq_eq_false_iff_ne.mpr (symm (ne_of_lt I.big))) hrel hd;rcases q with q|q
  ·exact⟨.ref s.heap.objs.size,_,I.laid (t':=tk) (o:=.frz ob (.dK (zs.map (·.2)))) hkeep (le_refl _) ⟨hob,hdk _⟩,rfl,q _ ob (I.hok.fresh (le_refl _))⟩
  ·exact⟨.ref s.heap.objs.size,_,I.laid (t':=tk) (o:=.dK (zs.map (·.2))) hkeep (le_refl _) (hdk _),rfl,q _ (I.hok.fresh (le_refl _))⟩
theorem iT(hc:X.calm=true):bw X (.type "dict") (λxs H Q=>∃l,∃zs:List (Addr×Key×V),xs=[.ref l]∧H l=some (.lst ((zs.map (·.1)).map V.ref))∧(∀z∈zs,H z.1=some (.tup [kV z.2.1,z.2.2]))∧zs.length≤1000∧(zs.map (·.2.1)).Nodup∧∀d o,H d=none→Q (.ref d) (upd H d (.frz o (.dK (zs.map (·.2)))))) :=
 λpins s σ H xs us Q I r ⟨l,zs,h1,h2,h3,h4,h5,q⟩=>dF hc pins s σ H xs us Q I r ⟨l,zs,h1,h2,h3,h4,h5,.inl q⟩
theorem hU(hc:X.calm=true):bw X (.type "dict") (λxs H Q=>∃l,∃zs:List (Addr×Key×V),xs=[.ref l]∧H l=some (.lst ((zs.map (·.1)).map V.ref))∧(∀z∈zs,H z.1=some (.tup [kV z.2.1,z.2.2]))∧zs.length≤1000∧(zs.map (·.2.1)).Nodup∧∀d,H d=none→Q (.ref d) (upd H d (.dK (zs.map (·.2))))) :=
 λpins s σ H xs us Q I r ⟨l,zs,h1,h2,h3,h4,h5,q⟩=>dF hc pins s σ H xs us Q I r ⟨l,zs,h1,h2,h3,h4,h5,.inr q⟩
theorem iU(hc:X.calm=true)(hu:X.A.units+4<cLine):bw X (.type "dict") (λxs H Q=>∃l,∃zs:List (Addr×(Addr×List Key)×V),xs=[.ref l]∧H l=some (.lst ((zs.map (·.1)).map V.ref))∧(∀z∈zs,H z.1=some (.tup [.ref z.2.1.1,z.2.2])∧H z.2.1.1=some (.tup (z.2.1.2.map kV)))∧zs.length≤1000 ∧
  (zs.map (·.2.1.2)).Nodup∧∀d o,H d=none→Q (.ref d) (upd H d (.frz o (.dT (zs.map λz=>(z.2.1.2,z.2.2)))))):=by
 intro pins s σ H xs us Q I r h;obtain⟨l,zs,rfl,hl,hk,hz,hnd,q⟩:=h;obtain⟨u,rfl,ru⟩:=cF r;cases ru;obtain⟨_,its,nl,rv,ho⟩:=I.hok l _ hl;have e:=bW rv;subst e;obtain⟨f,hf⟩:=hO I (λz=>V.ref z.2.1.1) (λz hz=>(hk z hz).1);have hsz:(((zs.map (·.1)).map Value.ref).toArray).size=zs.length:=by simp
 have hkey:∀z∈zs,z.2.1.1<s.heap.objs.size:=λz hz=>I.hok.lt (hk z hz).2;have hkk:∀z∈zs,IsTupleKey (am X.prog X.w) s.heap z.2.1.2 z.2.1.1:=λz hz=>pg I (hk z hz).2 _ _;have hmove:∀(h':Heap)(z:Addr×(Addr×List Key)×V),z∈zs→(∀b o,b<s.heap.objs.size→s.heap.get? b=some o→h'.get? b=some o)→IsTupleKey (am X.prog X.w) h' z.2.1.2 z.2.1.1:=λh' z hz hk=>by
  obtain⟨o,items,n,ho,r⟩:=hkk z hz;exact⟨o,items,n,hk _ o (lt_size ho) ho,r⟩
 refine DL.cu (s:=s) (I.ok.hd hc) ho (λi=>(zs.getD i (0,(0,[]),.non)).1) (λi=>(f (zs.getD i (0,(0,[]),.non))).1) (λi=>(f (zs.getD i (0,(0,[]),.non))).2) (λi v hv=>fH hv) (λi hi=>?_)
  (λi h'=>h'.DictOfH (tupleKind (am X.prog X.w)) s.heap.objs.size ((zs.take i).map λz=>(z.2.1.2,z.2.1.1,(f z).2))∧∀b o,b<s.heap.objs.size→s.heap.get? b=some o→h'.get? b=some o) (λh' hg hk0=>?_) (λi g g' hd hk=>?_) (λi s' E Q hi hd hq=>?_) λh' tk hd hkeep=>?_
 ·rw[hsz]at hi;exact(hf _ (ba hi).1).2.2
 ·exact⟨⟨_,#[],0,hg,⟨rfl,rfl,rfl⟩,rfl,rfl,λ_ hx=>by simp at hx,nodup_nil⟩,λb o _ e=>hk0 b o e⟩
 ·obtain⟨⟨o,es,ep,ho,r1,r2,r3,r4,r5⟩,hb⟩:=hd;have hb':∀b o,b<s.heap.objs.size→s.heap.get? b=some o→g'.get? b=some o:=λb o hlt e=>hk b o (le_of_lt hlt) (hb b o hlt e);refine⟨⟨o,es,ep,hk _ o (le_refl _) ho,r1,r2,r3,λx hx=>?_,r5⟩,hb'⟩;obtain⟨z,hz',rfl⟩:=mem_map.mp hx;exact hmove g' z (List.mem_of_mem_take hz') hb'
 ·rw[hsz]at hi;obtain⟨hm,hg⟩:=ba (d:=((0,(0,[]),.non):Addr×(Addr×List Key)×V)) hi;obtain⟨hd1,hd2⟩:=hd;have ek:(f (zs.getD i (0,(0,[]),.non))).1=.ref (zs.getD i (0,(0,[]),.non)).2.1.1:=(hf _ hm).1;rw[ek];refine wpAny_dictSet_heap (hsz:=by rw[length_map,length_take];have:=ay hz;omega) (k:=(zs.getD i (0,(0,[]),.non)).2.1.2) (by show X.A.in1.in1.units<cLine;simp[Around.in1_units];omega) (hmove _ _ hm hd2) hd1 λh' hd' hs=>hq h' _ (le_add_right _ _) hs ⟨?_,λb o hlt e=>?_⟩
  ·have e1:=bv hg;have e2:=fJ (f:=λz:Addr×(Addr×List Key)×V=>z.2.1.2) hnd hg;rw[e1,map_append];rw[storedH_new]at hd'
   ·exact hd'
   ·refine atKey_none_of_get λj p hj=>e2 ?_;obtain⟨z,hz',ez⟩:=mem_map.mp (mem_of_getElem? hj);exact mem_map.mpr ⟨z,hz',congrArg Prod.fst ez⟩
  ·rw[hs.2 b (ne_of_lt hlt)];exact hd2 b o hlt e
 ·obtain⟨hd1,_⟩:=hd;rw[hsz,take_length]at hd1;obtain⟨o,es,ep,ho2,r1,r2,r3,r4,r5⟩:=hd1;refine⟨.ref s.heap.objs.size,_,I.laid (t':=tk) (o:=.frz o (.dT (zs.map λz=>(z.2.1.2,z.2.2)))) hkeep (le_refl _) ⟨ho2,le_of_lt (ay (by rw[length_map];exact hz)),beq_eq_false_iff_ne.mpr (symm (ne_of_lt I.big)),_,?_,o,es,ep,ho2,r1,r2,r3,r5⟩,rfl,q _ o (I.hok.fresh (le_refl _))⟩;have:∀ys:List (Addr×(Addr×List Key)×V),(∀z∈ys,z∈zs)→Paired (λ(p:List Key×V) (q:List Key×Addr×Value)=>p.1=q.1∧upd H s.heap.objs.size (.frz o (.dT (zs.map λz=>(z.2.1.2,z.2.2)))) q.2.1=some (.tup (p.1.map kV))∧aq p.2 q.2.2) (ys.map λz=>(z.2.1.2,z.2.2)) (ys.map λz=>(z.2.1.2,z.2.1.1,(f z).2)):=by
   intro ys
   induction ys with
   |nil=>intro _;exact .nil
   |cons z ys ih =>
    intro hm;refine .cons ⟨rfl,?_,(hf z (hm z (by simp))).2.1⟩ (ih λy hy=>hm y (by simp[hy]));show upd H _ _ z.2.1.1=_;rw[af (ne_of_lt (hkey z (hm z (by simp))))];exact(hk z (hm z (by simp))).2
  exact this zs λz hz=>hz
end
section
variable{prog:Program}{w:World}{A:Around}{E:Value→Shared→Prop}{s:Shared}
end
section
variable{X:Cx}{tg:Expr}
end
theorem kg:typeLookup (.type "list_reverseiterator") "__len__"=pure none:=by rw[typeLookup_type,builtinLookup_eq_fast];kernel_rfl
theorem lE:typeLookup (.type "list_reverseiterator") "__length_hint__"=pure (some (.builtin "list_reverseiterator.__length_hint__")):=by rw[typeLookup_type,builtinLookup_eq_fast];kernel_rfl
theorem nn:isSubtype (.type "list_reverseiterator") (.type "list_reverseiterator")=pure true:=by rw[isSubtype_type];kernel_rfl
section
variable{prog:Program}{w:World}{A:Around}{E:Value→Shared→Prop}{s:Shared}
theorem hV{I l:Addr}{items:Array Value}{Q:List Value→Shared→Prop}(hh:A.handled=none)(hI:s.heap.IsRevIter I l ((items.size:Int)-1))(hl:s.heap.IsList l items)(hne:l≠I)(hn:items.size≤sizeLine)(hQ:∀h' tk acc,(∀b o,b≠I→s.heap.get? b=some o→h'.get? b=some o)→acc=items.toList.reverse→Q acc {s with heap:=h',toks:=tk}):wpAny (model prog w) A (collect (.ref I)) Q E s:=by
 have W:=(Walks.listRev (prog:=prog) (w:=w) (show A.in1.handled=none by simp[hh]) I l hne items).toS;obtain⟨oI,hoI,_⟩:=id hI;obtain⟨oL,hoL,_⟩:=id hl;have ltI:I<s.heap.objs.size:=lt_size hoI;have ltL:l<s.heap.objs.size:=lt_size hoL;have hSf:s.heap.objs.size∉[I,l]:=by
  simp only[mem_cons,not_mem_nil,or_false,not_or];exact⟨ne_of_gt ltI,ne_of_gt ltL⟩
 have hSI:s.heap.objs.size≠I:=ne_of_gt ltI;have key:∀(s':Shared)(acc:Array Value),Moved [I] (λa b=>b=a) s s'→ItemsOf (λi v=>items[items.size-1-i]?=some v) acc items.size→Q acc.toList s':=by
  intro s' acc hm hacc;obtain⟨h',g',d',tk',os'⟩:=s';have eg:g'=s.gens:=hm.gens;have ed:d'=s.drawn:=hm.drawn;have eo:os'=s.os:=hm.os;subst eg;subst ed;subst eo;refine hQ h' tk' acc.toList (λb o hb e=>hm.heap b o (by simpa using hb) e) ?_;apply ext_getElem?;intro i;rw[getElem?_toList]
  by_cases hi:i<items.size
  ·have hi':i<acc.size:=by rw[hacc.1];exact hi
   have ha:acc[i]?=some acc[i]:=Array.getElem?_eq_getElem hi';rw[List.getElem?_reverse (by simpa using hi),ha,length_toList,getElem?_toList];exact(hacc.2 i _ ha).symm
  ·rw[Array.getElem?_eq_none (by rw[hacc.1];omega),getElem?_eq_none (by simp;omega)]
 have st0:∀o,(λ(i:Nat) (h:Heap)=>i≤items.size∧h.IsRevIter I l ((items.size:Int)-1-(i:Int))∧h.IsList l items) 0 (s.heap.push o):=λo=>by
  refine⟨zero_le _,?_,?_⟩
  ·rw[show(items.size:Int)-1-((0:Nat):Int)=(items.size:Int)-1 by omega];exact hI.at λo' e=>get?_push_of_some _ e
  ·exact hl.push _
 unfold collect;refine wpAny_bind (wpAny_runValue (codeAny_builtin PySem.F.entry_proto_collect ?_));rw[Around.under_plainId PySem.F.plain_proto_collect _];show wpAny _ A.in1 (newList [] >>= λl=>again (.builtin "list.__iadd__" ⟨[l,.ref I],[]⟩)) _ _ s;refine wpAny_bind (wpAny_newObj_type (wpAny_pure ⟨plainId_quiet plain_list_iadd _,codeAny_builtin PySem.F.entry_list_iadd ?_⟩));rw[Around.under_plainId plain_list_iadd _];have hTI:Shared.TypeIs {s with heap:=s.heap.push {cls:=.type "list",data:=.seq ([]:List Value).toArray}} (.ref I) "list_reverseiterator":=((st0 _).2.1).typeIs
 have h1:Builtin.List.listSameRef (.ref s.heap.objs.size) (.ref I)=false:=by simp[Builtin.List.listSameRef,hSI]
 show wpAny _ A.in1 (Builtin.List.listExtendWith (.ref s.heap.objs.size) (.ref I) (.ref s.heap.objs.size)) _ _ _;unfold Builtin.List.listExtendWith;refine wpAny_bind (wpAny_typeOf hTI ?_);rw[if_neg (by rw[h1];decide)];refine wpAny_bind (W.self 0 _ _ _ (st0 _) (wpAny_bind (wpAny_holding ?_)));unfold Builtin.List.listLengthHint;refine wpAny_bind (wpAny_specialOf hTI kg ?_);show wpAny _ A.in1 (specialOf (Value.ref I) (ofString "__length_hint__") >>= _) _ _ _;refine wpAny_bind (wpAny_specialOf hTI lE ?_);generalize hid:("list_reverseiterator.__length_hint__":String)=id0
 wp_delta
 rw[show splitId id0=some ("list_reverseiterator","__length_hint__")from by subst hid;decide +kernel];subst hid;refine wpAny_bind (wpAny_isInstance (b:=true) hTI nn (wpAny_pure ?_));rw[if_neg (by decide)];have hS:(s.heap.push {cls:=.type "list",data:=.seq ([]:List Value).toArray}).get? s.heap.objs.size=some {cls:=.type "list",data:=.seq ([]:List Value).toArray}:=get?_push_size _ rfl;refine wpAny_pure ⟨plainId_quiet PySem.F.plain_extend_loop _,codeAny_extend_loopS W hn _ hSf _ items.size 0 _ _ _ rfl (zero_le _) (st0 _) hS (ItemsOf.nil _) λs' acc c hm hS' hacc=>?_⟩;show wpAny _ A (load s.heap.objs.size >>= _) _ _ s';exact wpAny_bind (wpAny_load hS' (wpAny_pure (key s' acc (Moved.drop_new (o:={cls:=.type "list",data:=.seq ([]:List Value).toArray}) (tk:=s.toks) hm (le_refl _)) hacc)))
theorem eJ{I l:Addr}{items:Array Value}{Q:Value→Shared→Prop}(hh:A.handled=none)(hI:s.heap.IsRevIter I l ((items.size:Int)-1))(hl:s.heap.IsList l items)(hne:l≠I)(hn:items.size≤sizeLine)(hQ:∀(h':Heap) (tk:Nat),(∀b o,b≠I→s.heap.get? b=some o→h'.get? b=some o)→Q (.ref h'.objs.size) {s with heap:=h'.push {cls:=.type "tuple",data:=.seq items.toList.reverse.toArray},toks:=tk}):
  wpAny (model prog w) A (call (.type "tuple") [.ref I]) Q E s:=by
 refine callType_codes (Q₁:=λobj s₁=>s₁.TypeIs obj "tuple"∧Q obj s₁) called_tuple (PySem.F.typeCall_tuple_1 _) PySem.F.entry_object_init ?_ λobj s₁ h₁=>?_
 ·refine codeAny_of_tree ?_;show wpAny _ A.in1.in1 (do checkBuiltinCall "tuple.__new__" ⟨[.type "tuple",.ref I],[]⟩;again (.builtin "tuple.__new__" ⟨[.type "tuple",.ref I],[]⟩)) _ _ s
  refine wpAny_bind (wpAny_of_eq (PySem.F.newCall_tuple_1 _) (wpAny_pure ⟨plainId_quiet PySem.F.plain_tuple_new _,codeAny_builtin PySem.F.entry_tuple_new ?_⟩));rw[Around.under_plainId PySem.F.plain_tuple_new _];have hsub:=sub_tuple_self;have hinit:=init_tuple_lookup;have hmh:=madeHere_tuple;have hTI:s.TypeIs (.ref I) "list_reverseiterator":=hI.typeIs
  wp_walk using wpAny_typeOf hTI,hV (show A.in1.in1.handled=none by simp[hh]) hI hl hne hn
  intro h' tk acc hk hacc;subst hacc;refine wpAny_bind (wpAny_pure ?_);show wpAny _ _ (Builtin.Tuple.tupleExact items.toList.reverse.toArray >>= λv=>ret v) _ _ _;unfold Builtin.Tuple.tupleExact;have hsz:items.toList.reverse.toArray.size≤sizeLine:=by simpa using hn
  exact wpAny_bind (wpAny_newObj_type (wpAny_pure ⟨⟨_,get?_push_size _ rfl,rfl⟩,hQ h' tk hk⟩) hsz)
 ·exact⟨h₁.1,PySem.F.args_object_init_2 obj _,object_init_meets called_tuple.init.lookup called_tuple.made (by decide) prog w A.in1 _ s₁ ⟨h₁.1,rfl,h₁.2⟩⟩
end
section
variable{X:Cx}
def nq(te:TE):TE:=λσ H Q=>dB te iE σ H λvs H1=>∃l ys,vs=[.ref l]∧H1 l=some (.lst ys)∧∀p,H1 p=none→Q (.ref p) (upd H1 p (.tup ys.reverse))
theorem kh{e:Expr}{te:TE}{q1 q2 p1 p2:Pos}(hc:X.calm=true)(hg:Gl X "tuple")(hm:X.mg "tuple"=none)(hg':Gl X "reversed")(hm':X.mg "reversed"=none)(he:PE X e te)(s1:starEach [e] X.env=[(false,eval e X.env)]:=by rfl)(s2:starEach [.Call (.Name "reversed" q1) [e] [] p1] X.env=[(false,eval (.Call (.Name "reversed" q1) [e] [] p1) X.env)]:=by rfl):
  PE X (.Call (.Name "tuple" q2) [.Call (.Name "reversed" q1) [e] [] p1] [] p2) (nq te):=by
 intro pins s σ H Q I h;refine wpAny_Call_Name_kw (cH I hg hm boot_tuple ?_ (by decide) (by decide));refine PyProof.Rows.callWith_type1 ?_ s2 rfl;rw[s2];refine spliced_cons ?_;refine wpAny_Call_Name_kw (cH I hg' hm' PyProof.Rows.boot_reversed ?_ (by decide) (by decide));have hA:PA X [e] (dB te iE):=aa he ae s1;refine PyProof.Rows.callWith_type1 (thn (hA p1 pins s σ H _ I h) λus s3 ⟨vs,H1,I1,r1,q1⟩=>?_) s1 rfl;obtain⟨l,ys,rfl,hl,q⟩:=q1;obtain⟨u,rfl,ru⟩:=cF r1;cases ru;obtain⟨hz,its,n,rv,ho⟩:=I1.hok l _ hl;have hL:s3.heap.IsList l its.toArray:=⟨_,ho,rfl,n,rfl⟩;have hlen:its.toArray.size≤sizeLine:=by rw[size_toArray,←rv.length];exact hz
 refine call_reversed_list hL (spliced_nil ?_);have ltl:l<s3.heap.objs.size:=lt_size ho;refine eJ (s:={s3 with heap:=s3.heap.push (revObj l ((its.toArray.size:Int)-1))}) (items:=its.toArray) (I.ok.hd hc) ⟨_,get?_push_size _ rfl,rfl,rfl⟩ (hL.push _) (ne_of_lt ltl) hlen λh' tk hk=>?_
 have k0:∀b o,s3.heap.get? b=some o→h'.get? b=some o:=λb o e=>hk b o (ne_of_lt (lt_size e)) (get?_push_of_some _ e);have I2:Inv X pins σ H1 {s3 with heap:=h',toks:=tk}:=I1.kept (t':=tk) k0
 have er:its.toArray.toList.reverse.toArray=its.reverse.toArray:=by simp
 rw[er];have I3:Inv X pins σ (upd H1 h'.objs.size (.tup ys.reverse)) {s3 with heap:=h'.push {cls:=.type "tuple",data:=.seq its.reverse.toArray},toks:=tk} :=
  I2.laid (t':=tk) (λb o e=>get?_push_of_some _ e) (le_refl _) (show aO X.prog X.w _ _ _ (.tup ys.reverse)from⟨by rw[List.length_reverse];exact hz,its.reverse,rv.reverse,IsTup.new _ _⟩)
 exact⟨.ref h'.objs.size,_,I3,rfl,q _ (I2.hok.fresh (le_refl _))⟩
theorem nr{P:Program}{w:World}{kvs:List (Key×V)}{vs:List (Key×Value)}{acc:Array Value}(rel:KV kvs vs)(h:ItemsOf (λi v=>∃k x,vs[i]?=some (k,x)∧(am P w).is k v=true) acc vs.length):ao (kvs.map λp=>kV p.1) acc.toList:=by
 obtain⟨h1,h2⟩:=h;have hl:acc.toList.length=vs.length:=by simpa using h1
 have h3:∀(i:Nat)(v:Value),acc.toList[i]?=some v→∃k x,vs[i]?=some (k,x)∧(am P w).is k v=true:=λi v hv=>h2 i v (by simpa using hv);clear h1 h2;generalize acc.toList=l at hl h3
 induction rel generalizing l with
 |nil =>
  cases l with
  |nil=>exact .nil
  |cons a r=>simp at hl
 |@cons p q kvs vs r _ ih =>
  cases l with
  |nil=>simp at hl
  |cons a l =>
   refine .cons ?_ (ih l (by simpa using hl) λi v hv=>by simpa using h3 (i+1) v (by simpa using hv))
   obtain⟨k,x,e1,e2⟩:=h3 0 a rfl;have e3:q=(k,x):=by simpa using e1
   show aq (kV p.1) a;rw[r.1,e3];rcases av e2 with⟨i,t,e4,e5⟩|⟨y,t,e4,e5⟩
   ·rw[e4,e5];exact⟨t,rfl⟩
   ·rw[e4,e5];exact⟨t,rfl⟩
end
end L2
namespace HT
open PySem PyProof.Rows
def ck(x y:Str):Bool:=decide (x.cps.toList<y.cps.toList)
theorem nu{x y:Str}(h:x.cps.toList=y.cps.toList):x=y:=by
 obtain⟨x⟩:=x;obtain⟨y⟩:=y
 congr
 exact toList_inj.mp h
theorem ki(x:Str):ck x x=false:=decide_eq_false (List.lt_irrefl _)
theorem lF{x y z:Str}(h1:ck x y=true)(h2:ck y z=true):ck x z=true:=by
 unfold ck at *;rw[decide_eq_true_eq]at *;exact List.lt_trans h1 h2
theorem kj{x y:Str}(h:x≠y):ck x y=true∨ck y x=true:=by
 unfold ck;rw[decide_eq_true_eq,decide_eq_true_eq];rcases Decidable.em (x.cps.toList<y.cps.toList)with a|a
 ·exact .inl a
 ·refine .inr ?_;have hle:y.cps.toList≤x.cps.toList:=not_lt.mp a;rcases Decidable.em (y.cps.toList<x.cps.toList)with b|b
  ·exact b
  ·have hle2:x.cps.toList≤y.cps.toList:=not_lt.mp b;exact absurd (nu (List.le_antisymm hle2 hle)) h
section
open PySem.SeqAt
open PySem.AutoSeq1 (wpAny_loadPart')
open PySem.MeetsSeq PySem.MeetsSeq2 PySem.MeetsSeq3
end
section
variable{prog:Program}{w:World}{A:Around}{E:Value→Shared→Prop}{s:Shared}
end
end HT
namespace L2
open PySem PySem.Spec PyProof.Rows
section
variable{X:Cx}{pins:List (Addr×Obj)}{σ:St}{H:Hp}{s:Shared}
theorem fO{α:Type}{zs:List α}{val:α→V}{d:α}:∀{us:List Value},ao (zs.map val) us→∀(ps:List Nat),(∀i∈ps,i<zs.length)→ao ((ps.map λi=>zs.getD i d).map val) (ps.map λi=>us.getD i Value.none):=by
 intro us rv ps
 induction ps with
 |nil=>intro _;exact .nil
 |cons i ps ih =>
  intro h;refine .cons ?_ (ih λj hj=>h j (by simp[hj]));have hi:=h i (by simp);obtain⟨u,hu,r⟩:=rv.get (i:=i) (x:=val (zs.getD i d)) (by rw[getElem?_map,(ba (d:=d) hi).2];rfl);have:us.getD i Value.none=u:=by rw[getD_eq_getElem?_getD,hu];rfl
  show aq (val (zs.getD i d)) (us.getD i Value.none);rw[this];exact r
theorem hX{α:Type}{zs:List α}{val:α→V}{d:α}{us:List Value}{f:α→α→Bool}{l:Addr}{pins:List (Addr×Obj)}{σ:St}{H:Hp}{s:Shared}{Q:VK}{κ:SortKind}{E:Value→Shared→Prop}(I:Inv X pins σ H s)(rv:ao (zs.map val) us)(O:SRT.Ord (λi j=>f (zs.getD i d) (zs.getD j d)) zs.length)(pl:s.heap.IsList l us.toArray)(h64:zs.length<64)(hk:∀(A':Around) (s':Shared),A'.units≤X.A.units+2→(∀b o,s.heap.get? b=some o→s'.heap.get? b=some o)→∀Q:SortKind→Shared→Prop,2≤zs.length→Q κ s'→wpAny (model X.prog X.w) A' (keyKind' us.toArray) Q (λ_ _=>False) s')(hlt:∀(A':Around) (s':Shared),A'.units≤X.A.units+2→(∀b o,s.heap.get? b=some o→s'.heap.get? b=some o)→∀(i j:Nat) (C:Bool→Shared→Prop),i<zs.length→j<zs.length→C (f (zs.getD i d) (zs.getD j d)) s'→wpAny (model X.prog X.w) A' (keyLt' κ (us.getD i Value.none) (us.getD j Value.none)) C (λ_ _=>False) s')(q:∀zs':List α,zs'.Perm zs→zs'.Pairwise (λa b=>f a b=true)→∀p,H p=none→Q (.ref p) (upd H p (.lst (zs'.map val)))):wpAny (model X.prog X.w) X.A (call (.builtin "sorted") [.ref l]) (EP X pins σ Q) E s:=by
 have hlen:us.length=zs.length:=by rw[←rv.length,length_map]
 refine SRT.ka (κ:=κ) (f:=λi j=>f (zs.getD i d) (zs.getD j d)) (by rw[hlen];exact O) pl (by rw[hlen];exact h64) (λA' s' h1 h2 Q' h3=>hk A' s' h1 h2 Q' (by omega)) (λA' s' h1 h2 i j C hi hj=>hlt A' s' h1 h2 i j C (by omega) (by omega)) ?_;intro p h' hrow hup kp _ hg;obtain⟨c,hg⟩:=hg;rw[hlen]at hrow hup;have hin:∀i∈p.toList,i<zs.length:=λi hi=>mem_range.mp (hrow.perm.mem_iff.mp hi);have hperm:(p.toList.map λi=>zs.getD i d).Perm zs:=by
  refine(hrow.perm.map _).trans ?_;have:(List.range zs.length).map (λi=>zs.getD i d)=zs:=by
   apply ext_getElem?;intro i;rw[getElem?_map]
   by_cases hi:i<zs.length
   ·rw[getElem?_range hi,(ba (d:=d) hi).2];rfl
   ·rw[getElem?_eq_none (by rw[length_range];omega),getElem?_eq_none (by omega)];rfl
  rw[this]
 have hpl:p.size=zs.length:=hrow.size;have hpw:(p.toList.map λi=>zs.getD i d).Pairwise (λa b=>f a b=true):=by
  rw[pairwise_iff_getElem];intro i j hi hj hij;have hi':i<p.size:=by rw[length_map,length_toList]at hi;exact hi
  have hj':j<p.size:=by rw[length_map,length_toList]at hj;exact hj
  have:=hup i j hij (by omega);simp only[]at this;rw[getD_eq_getD_getElem?,getD_eq_getD_getElem?,Array.getElem?_eq_getElem hi',Array.getElem?_eq_getElem hj']at this;simpa using this
 refine⟨.ref (s.heap.objs.size+1),_,I.laid (t':=s.toks) (o:=.lst ((p.toList.map λi=>zs.getD i d).map val)) kp (le_succ _) ⟨?_,_,c,fO rv p.toList hin,hg⟩,rfl,q _ hperm hpw _ (I.hok.fresh (le_succ _))⟩;rw[length_map,hperm.length_eq,sizeLine_eq];omega
theorem jx{ns:List Int}{us:List Value}(r:ao (ns.map V.int) us):IntsAre us ns:=iH r
theorem dw:bw X (.builtin "sorted") (λxs H Q=>∃l,∃ns:List Int,xs=[.ref l]∧H l=some (.lst (ns.map V.int))∧ns.Nodup∧ns.length<64 ∧
  ∀ms:List Int,ms.Perm ns→ms.Pairwise (λa b=>a<b)→∀p,H p=none→Q (.ref p) (upd H p (.lst (ms.map V.int)))):=by
 intro pins s σ H xs us Q I r h;obtain⟨l,ns,rfl,hl,hnd,h64,q⟩:=h;obtain⟨u,rfl,ru⟩:=cF r;cases ru;obtain⟨_,its,n,rv,ho⟩:=I.hok l _ hl;have hI:=jx rv;have hlen:its.length=ns.length:=by rw[←rv.length,length_map]
 refine hX (val:=V.int) (d:=(0:Int)) (f:=λa b=>decide (a<b)) (κ:=oneType') I rv ⟨λi _=>by simp,λi j k _ _ _ h1 h2=>?_,λi j hi hj hij=>?_⟩ ⟨_,ho,rfl,n,rfl⟩ h64 (λA' s' _ _ Q' h2 hQ=>?_) (λA' s' _ _ i j C hi hj hC=>?_) λzs' h1 h2 p hp=>q zs' h1 (h2.imp λh=>by simpa using h) p hp
 ·simp only[decide_eq_true_eq]at *;omega
 ·simp only[decide_eq_true_eq];have:ns.getD i 0≠ns.getD j 0:=by
   rw[getD_eq_getElem?_getD,getD_eq_getElem?_getD,getElem?_eq_getElem hi,getElem?_eq_getElem hj];exact λe=>hij ((getElem_inj hnd).mp e)
  omega
 ·rw[ksk_kind (keys:=its.toArray) (kz:=ns) (by simpa using hI) (by rw[size_toArray];omega)];exact wpAny_pure hQ
 ·have gi:∀i,i<ns.length→∃t,its.getD i Value.none=.int (ns.getD i 0) t:=λi hi=>by
   obtain⟨v,hv,r⟩:=rv.get (i:=i) (x:=.int (ns.getD i 0)) (by rw[getElem?_map,(ba (d:=(0:Int)) hi).2];rfl);obtain⟨t,rfl⟩:=r;exact⟨t,by rw[getD_eq_getElem?_getD,hv];rfl⟩
  obtain⟨t,e1⟩:=gi i hi;obtain⟨t',e2⟩:=gi j hj;rw[e1,e2];exact kat_lt_int hC
end
section
variable{prog:Program}{w:World}{A:Around}{E:Value→Shared→Prop}{s:Shared}
theorem km{Q:Int→Shared→Prop}(h:Q 4238894112 {s with toks:=s.toks+1}):wpAny (model prog w) A (pyHash .none) Q E s:=by
 have hT:s.TypeIs .none "NoneType":=rfl;have f1:=slot_NoneType_hash.lookup;show wpAny _ _ (pyHashByItsType .none) _ _ _;unfold pyHashByItsType;refine wpAny_bind ?_;rw[cRoomFor,if_neg (by show ¬([Value.none].any Value.onHeap=true);decide)];refine wpAny_pure (wpAny_bind (wpAny_specialOf hT f1 ?_));rw[if_neg (by decide)];refine wpAny_bind (wpAny_specialOf hT f1 ?_);rw[if_neg (by decide)];refine wpAny_bind (wpAny_callSpecialIfBoundUnlessNone?_slot hT slot_NoneType_hash (wpAny_call_entry slot_NoneType_hash hT PySem.F.entry_NoneType_hash (show wpAny _ _ (do ret (← mkInt 0xFCA86420)) _ _ s from wpAny_ret_mkInt ?_) (PySem.F.args_NoneType_hash_1 _)))
 show wpAny _ _ (if (decide (-(2:Int) ^ 63≤4238894112)&&decide ((4238894112:Int)<2 ^ 63))=true then _ else _) Q E _
 rw[if_pos (by decide)];exact wpAny_pure h
end
def nIs:Option Key→Value→Bool
 |some k,v=>cp k v
 |none,.none=>true
 |none,_=>false
theorem bn{v:Value}(h:nIs none v=true):v=.none:=by
 cases v<;>first|rfl|(exact absurd (show false=true from h) Bool.false_ne_true)
def fQ(prog:Program)(w:World):PySem.KeyKind prog w (Option Key) where
 is:=nIs
 hash:=λk=>match k with|some k=>qc w k|none=>4238894112
 inj:=λv a b ha hb=>by
  cases a with
  |none =>
   have e:=bn ha;subst e;cases b with
   |none=>rfl
   |some k=>rcases av (show cp k .none=true from hb)with⟨i,t,_,e⟩|⟨x,t,_,e⟩<;>cases e
  |some j =>
   cases b with
   |none =>
    have e:=bn hb;subst e;rcases av (show cp j .none=true from ha)with⟨i,t,_,e⟩|⟨x,t,_,e⟩<;>cases e
   |some k=>rw[(am prog w).inj v j k ha hb]
 byValue:=λk v h=>by
  cases k with
  |none=>rw[bn h];rfl
  |some k=>exact(am prog w).byValue k v h
 pyHash:=λ{A E s k v Q} hv h=>by
  cases k with
  |none=>rw[bn hv];exact km h
  |some k=>exact(am prog w).pyHash (k:=k) hv h
 eqBool:=λ{A E s a b u v Q} hu hv h=>by
  cases a with
  |none =>
   rw[bn hu];cases b with
   |none =>
    rw[bn hv];exact EqAt.same _ _ _ _ _ (by simpa using h)
   |some k =>
    have h':Q false s:=by simpa using h
    rcases av (show cp k v=true from hv)with⟨i,t,_,e⟩|⟨x,t,_,e⟩
    ·rw[e];exact EqAt.none_int i t _ _ _ _ h'
    ·rw[e];exact EqAt.none_str x t _ _ _ _ h'
  |some j =>
   cases b with
   |none =>
    rw[bn hv];have h':Q false s:=by simpa using h
    rcases av (show cp j u=true from hu)with⟨i,t,_,e⟩|⟨x,t,_,e⟩
    ·rw[e];exact EqAt.int_none i t _ _ _ _ h'
    ·rw[e];exact EqAt.str_none x t _ _ _ _ h'
   |some k =>
    refine(am prog w).eqBool (a:=j) (b:=k) hu hv ?_;have:decide ((some j:Option Key)=some k)=decide (j=k):=by simp
    rw[←this];exact h
 «strs»:=λk x t v h=>by
  cases k with
  |none=>exact absurd (bn h) (by simp)
  |some k=>exact(am prog w).strs k x t v h
section
variable{P:Program}{w:World}
theorem jy:∀{ks:List Key}{us:List Value},ItemsAre (am P w) ks us→ItemsAre (fQ P w) (ks.map some) us
 |_,_,.nil=>.nil
 |_,_,.cons h t=>.cons h (jy t)
theorem qC{h:Heap}{ks:List Key}{a:Addr}(x:IsTupleKey (am P w) h ks a):IsTupleKey (fQ P w) h (ks.map some) a:=by
 obtain⟨o,items,n,ho,hc,hd,hi⟩:=x;exact⟨o,items,n,ho,hc,hd,jy hi⟩
theorem gy{a b:List Key}(h:a.map some=b.map some):a=b:=by
 have:=congrArg (List.map λk:Option Key=>k.getD (.inl 0)) h;simpa [map_map,Function.comp_def]using this
theorem pj{h:Heap}{d:Addr}{xs:List (List Key×Addr×Value)}(x:h.DictOfH (tupleKind (am P w)) d xs):h.DictOfH (tupleKind (fQ P w)) d (xs.map λx=>(x.1.map some,x.2)):=by
 obtain⟨o,es,ep,ho,hc,hd,he,hi,hn⟩:=x;refine⟨o,es,ep,ho,hc,hd,?_,λy hy=>?_,?_⟩
 ·rw[he,map_map];apply map_congr_left;intro y _;show DictEntry.mk (tupleKeyHash (am P w) y.1) _ _=DictEntry.mk (tupleKeyHash (fQ P w) (y.1.map some)) _ _
  congr 1
  unfold tupleKeyHash;rw[map_map];rfl
 ·obtain⟨z,hz,rfl⟩:=mem_map.mp hy;exact qC (hi z hz)
 ·rw[map_map];unfold Nodup at hn⊢;rw[pairwise_map]at hn⊢;exact hn.imp λh e=>h (gy e)
end
section
variable{X:Cx}{o e:Expr}{td ty:TE}{apos cpos:Pos}
def pk(td ty:TE):TE:=λσ H Q=>td σ H λx H1=>∃a o kvs,x=.ref a∧H1 a=some (.frz o (.dT kvs))∧ty σ H1 λy H2=>H2 a=some (.frz o (.dT kvs))∧((∃k b,y=.ref b∧H2 b=some (.tup (k.map kV))∧Q ((aL kvs k).getD .non) H2)∨(∃b x,y=.ref b∧H2 b=some (.tup [.non,.str x])∧Q .non H2))
theorem nv{pins:List (Addr×Obj)}{σ:St}{H:Hp}{s:Shared}(I:Inv X pins σ H s){a:Addr}{o:Obj}{kvs:List (List Key×V)}(h:H a=some (.frz o (.dT kvs))):s.TypeIs (.ref a) "dict"∧∃ob,s.heap.get? a=some ob∧ob.dict=none:=by
 obtain⟨ho,_,_,xs,_,o',es,ep,ho',hx,hd,_⟩:=I.hok a _ h;rw[ho]at ho';cases ho';exact⟨⟨o,ho,hx.1⟩,o,ho,hx.2.1⟩
theorem lG(hu:X.A.units+4<cLine)(ho:PE X o td)(he:PE X e ty)(m:M1 X o "get" apos e cpos):PE X (.Call (.Attribute o "get" apos) [e] [] cpos) (pk td ty):=by
 intro pins s σ H Q I h;refine wpAny_Call_method m.base m.few m.line plainAttrs_dict slot_dict_get PySem.F.type_dict_get (thn (ho pins s σ H _ I h) λu s1 hpt=>?_);obtain⟨x,H1,I1,rx,a,ob,kvs,ex,hH,q1⟩:=hpt;subst ex;obtain rfl:u=Value.ref a:=rx;obtain⟨t1,t2⟩:=nv I1 hH;refine⟨t1,λa1 e=>by cases e;exact t2,?_⟩;rw[m.trees];refine callWith_builtin rfl (evalArgs_plain (spliced_cons (thn (he pins s1 σ H1 _ I1 q1) λiv s2 ⟨y,H2,I2,ry,hH2,q2⟩=>spliced_nil ?_)));rcases q2 with⟨k,b,rfl,hb,q⟩|⟨b,x,rfl,hb,q⟩
 ·exact oW (by omega) I2 (.inr ⟨kvs,k,b,.inr ⟨ob,hH2⟩,rfl,hb,rfl⟩) ry λw' s3 I3 rw'=>⟨_,H2,I3,rw',q⟩
 ·cases (show iv=Value.ref b from ry);obtain⟨z,hd,xs,rel,dd⟩:=fw I2.hok (.inr ⟨ob,hH2⟩);have hkey:IsTupleKey (fQ X.prog X.w) s2.heap [none,some (.inr x)] b:=by
   obtain⟨_,its,r,o',e1,e2,n,e3⟩:=I2.hok b _ hb;cases r with
   |cons r1 r =>
    cases r with
    |cons r2 r =>
     cases r;cases r1;obtain⟨t,rfl⟩:=r2;exact⟨o',_,n,e1,e2,e3,.cons rfl (.cons (fb x t) .nil)⟩
  refine call_meetsIn slot_dict_get dd.typeIs entry_dict_get (args_dict_get_2 _ _) (meetsH_dict_get (tupleKind (fQ X.prog X.w)) a b hd) ⟨by show X.A.in1.units<cLine;simp[Around.in1_units];omega,_,_,hkey,pj dd,?_⟩;have hno:atKey (xs.map λx=>(x.1.map some,x.2)) [none,some (.inr x)]=none:=by
   refine atKey_none_of_get λj p hj=>?_;rw[getElem?_map]at hj;cases e:xs[j]? with
   |none=>rw[e]at hj;cases hj
   |some z =>
    rw[e]at hj;have e1:z.1.map some=[none,some (.inr x)]:=congrArg Prod.fst (Option.some.inj hj);cases hz:z.1 with
    |nil=>rw[hz]at e1;cases e1
    |cons k ks=>rw[hz]at e1;simp at e1
  rw[hno];exact⟨.non,H2,I2.tok _,rfl,q⟩
end
def Ext(p:Addr)(H H':Hp):Prop:=∀b o,b≠p→H b=some o→H' b=some o
theorem Ext.of{p:Addr}{H H':Hp}(s:Same H H'):Ext p H H':=λb o _ e=>s b o e
theorem Ext.upd{p:Addr}{H:Hp}{o:HO}:Ext p H (upd H p o):=λb u hb e=>by rw[af hb];exact e
theorem Ext.trans{p:Addr}{H H1 H2:Hp}(a:Ext p H H1)(b:Ext p H1 H2):Ext p H H2:=λc o hc e=>b c o hc (a c o hc e)
def qD(te:TE):Prop:=∀σ H (Q Q':VK),(∀y H,Q y H→Q' y H)→te σ H Q→te σ H Q'
theorem iV{js:List Nat}{J:It}{te:TE}{σ:St}{H1:Hp}{Q:VK}{p:Addr}{fr:List (Option V)}(n:Nat)(hn:n≤1000)(hp:H1 p=none)(hfr:br 1 js σ=none::fr)(R:Nat→V→Hp→Prop)(hR:∀i y H H',R i y H→Ext p H H'→R i y H')(go:∀i H',i<n→Same H1 H'→J.go i H')(stop:∀H',Same H1 H'→J.stop n H')(me:qD te)(step:∀i H' x H2,i<n→Same H1 H'→(∃ys,H' p=some (.lst ys))→J.yld i H' x H2→H2=H'∧te (some x::fr) H' λy H4=>Same H' H4∧R i y H4)(fin:∀ys H',Same H1 H'→H' p=some (.lst ys)→ys.length=n→(∀(j:Nat) y,ys[j]?=some y→R j y H')→Q (.ref p) H'):LcW 1 js (bp 0) te σ Q J H1 p:=by
 refine ol (k:=1) (js:=js) (J:=J) (p:=p) n hn (λi ys σ' H'=>(∃o,σ'=o::fr)∧Same H1 H'∧H' p=some (.lst ys)∧ys.length=i∧∀(j:Nat) y,ys[j]?=some y→R j y H') ⟨⟨none,hfr⟩,ag hp,ac,rfl,λj y h=>by simp at h⟩
  (λi ys σ' H' h=>by have:=h.2.2.2.1;omega) (λi ys σ' H' hi h=>go i H' hi h.2.1) (λys σ' H' h=>⟨stop H' h.2.1,fin ys H' h.2.1 h.2.2.1 h.2.2.2.1 h.2.2.2.2⟩) (λi ys σ' H' hi h x H2 hy=>?_) ?_ me
 ·obtain⟨⟨o,rfl⟩,s1,hl,hlen,hrs⟩:=h;obtain⟨rfl,ht⟩:=step i H' x H2 hi s1 ⟨ys,hl⟩ hy;refine me _ _ _ _ (λy H4 h4=>?_) ht;obtain⟨s4,r4⟩:=h4;refine⟨s4 _ _ hl,⟨some x,rfl⟩,aE hp (s1.trans s4),ac,by rw[length_append,hlen];rfl,λj z hz=>?_⟩;have ex:Ext p H2 (upd H4 p (.lst (ys++[y]))):=(Ext.of s4).trans Ext.upd
  by_cases hj:j<ys.length
  ·rw[getElem?_append_left hj]at hz;exact hR _ _ _ _ (hrs j z hz) ex
  ·rw[getElem?_append_right (by omega)]at hz;have hj':j-ys.length=0:=by
    cases e:j-ys.length with
    |zero=>rfl
    |succ m=>rw[e]at hz;simp at hz
   rw[hj']at hz;have ez:y=z:=by simpa using hz
   subst ez;have ej:j=i:=by omega
   subst ej;exact hR _ _ _ _ r4 Ext.upd
 ·intro _ _ _ _ _ m q;exact m _ _ q
theorem eK{H:Hp}{p q:Addr}(hp:∃ys,H p=some (.lst ys))(hq:H q=none):q≠p:=λe=>by
 obtain⟨ys,h⟩:=hp;rw[←e,hq]at h;cases h
section
variable{X:Cx}{N:List Str}{scope:Scope}{cl:List (Str×Addr)}{k:Nat}{js:List Nat}
theorem kn{elt tg iter c:Expr}{pos spos py:Pos}{y:Str}{ii:Nat}{wi:TI}{g:TG}{tc:TT}{te:TE}(hXN:X.N.Nodup)(hii:X.N[ii]?=some y)(hx:Loc X.env.scope y)(hc:X.calm=true)(L:LcOk X scope cl)(hN:N.length=k+js.length)(hj:∀(i j:Nat) x,js[i]?=some j→N[k+i]?=some x→X.N[j]?=some x∧Vis X.env.scope x∧X.env.scope.names.lookup x≠some .local∧((relabel scope X.env).names.lookup x=some .cell∨(relabel scope X.env).names.lookup x=some .free))(hi:PI X tg iter wi)(hg:∀s H fp,PG (bo X N scope cl s H fp) tg g)(ht:∀s H fp,PT (bo X N scope cl s H fp) c tc)(he:∀s H fp,PE (bo X N scope cl s H fp) elt te)(hs:∀x,foldedSetIterable iter X.env x=pure x:=by intro _;rfl)(hsw:swapsWith (.ListComp elt [⟨tg,iter,[c],0⟩] scope pos) (some (.Name y py)) spos.line X.env=pure true:=by rfl)(hf:X.fn y=true∨X.env.scope.names.lookup y=some .local:=by first|exact .inl rfl|exact .inr rfl|assumption):PS X (.Assign [.Name y py] (.ListComp elt [⟨tg,iter,[c],0⟩] scope pos) spos) (qh (qy k js wi g tc te) (bp ii)):=by
 intro pins s σ H D I h;rw[exec_Assign_Name_used _ _ _ _ hsw];refine wpAny_bind (wpAny_standAt (wpAny_bind ?_));show wpAny _ X.A (do let _ ← comprehension (.ListComp elt [⟨tg,iter,[c],0⟩] scope pos) scope X.env _ (newList []) false (eval iter X.env) (some (assign (.Name y py) X.env))) _ _ s
 refine wpAny_bind (wpAny_mono (wpAny_comprehension_free (use:=some (assign (.Name y py) X.env)) (Q:=λ_ s'=>∃σ' H',Inv X pins σ' H' s'∧D.nx σ' H') rfl hs L.clos L.kind L.names ?_) (λ_ s' hq=>wpAny_pure (wpAny_pure hq)) λ_ _ e=>e);refine thn (hi pins s σ H _ I h) λv s1 h1=>thn h1 λitv s2 h2=>?_;obtain⟨it,fp,tn,J,H2,e,I2,T,st2,f2,hW⟩:=h2;subst e;have hfp:∀b∈fp,b<s2.heap.objs.size:=λb hb=>by
  obtain⟨o,e,_⟩:=T.obj _ _ st2 b hb;exact lt_size e
 refine wpAny_newObj_type (wpAny_newFunctionEnv L.nocell (by intro y hy;simp at hy) (λh₁ hns hsb=>?_) L.kind);dsimp only at hns hsb⊢;obtain⟨W,⟨m0,w0⟩,turn⟩:=hW s2.heap.objs.size (I2.hok.fresh (le_refl _));have I3:Inv X pins σ (upd H2 s2.heap.objs.size (.lst [])) {s2 with heap:=s2.heap.push {cls:=.type "list",dict:=none,data:=.seq ([]:List Value).toArray}}:=I2.lnew (t':=s2.toks) .nil (zero_le _)
 generalize hA:s2.heap.push {cls:=.type "list",dict:=none,data:=.seq ([]:List Value).toArray}=hpA at hns hsb I3⊢;have hszA:hpA.objs.size=s2.heap.objs.size+1:=by rw[←hA,size_push]
 have keepA:∀b o,s2.heap.get? b=some o→hpA.get? b=some o:=λb o e=>by rw[←hA];exact get?_push_of_some _ e
 have f3:∀b∈fp,cI X pins (upd H2 s2.heap.objs.size (.lst [])) b:=λb hb=>⟨by rw[af (ne_of_lt (hfp b hb))];exact(f2 b hb).1,(f2 b hb).2⟩;have hfp3:∀b∈fp,b<hpA.objs.size:=λb hb=>by rw[hszA];exact lt_succ_of_lt (hfp b hb)
 have keep1:∀b o,hpA.get? b=some o→h₁.get? b=some o:=λb o e=>hsb.extBut b o (ne_of_lt (lt_size e)) (get?_push_of_some _ e);have J0:=eB (N:=N) (k:=k) (js:=js) (tk:=s2.toks+([]:List (Str×Value)).length) I3 L f3 hfp3 ⟨_,hns⟩ keep1 hN hj;have st1:tn 0 h₁:=T.keep _ _ _ st2 λb hb o e=>keep1 b o (keepA b o e);have stat:∀{H':Hp},(∀b∈fp,H' b=none)→∀b∈fp,cI (bo X N scope cl {s2 with heap:=hpA} (upd H2 s2.heap.objs.size (.lst [])) fp) [] H' b:=λhn b hb =>
  ⟨hn b hb,ne_of_lt (hfp3 b hb),(ju (N:=N) I3 L f3 hfp3).exfs b hb,.inl hb,λx c h=>(f3 b hb).2.2.2.2.1 x c (L.cells x c h),λp hp=>absurd (show p∈([]:List (Addr×Obj))from hp) (by simp)⟩
 have loop:codeAny (model X.prog X.w) X.A (.compLoop (.ListComp elt [⟨tg,iter,[c],0⟩] scope pos) 0 (.ref it) (.ref s2.heap.objs.size) (compEnvC scope cl hpA.objs.size X.env))
   (compPost (model X.prog X.w) X.A X.xe (some (assign (.Name y py) X.env)) (λ_ s'=>∃σ' H',Inv X pins σ' H' s'∧D.nx σ' H') (.ref s2.heap.objs.size) hpA.objs.size) {s2 with heap:=h₁,toks:=s2.toks+([]:List (Str×Value)).length}:=by
  refine gT (λn s'=>∃i ys σ' H',Inv (bo X N scope cl {s2 with heap:=hpA} (upd H2 s2.heap.objs.size (.lst [])) fp) [] σ' H' s'∧tn i s'.heap∧(∀b∈fp,H' b=none)∧W i n ys σ' H') ?_ m0 ⟨0,[],_,_,J0,st1,λb hb=>(f3 b hb).1,w0⟩
  rintro n s3 ⟨i,ys,σ3,H3,J3,st3,fr3,w3⟩;rcases turn i n ys σ3 H3 w3 with⟨stop,qn⟩|⟨go,hlen,step⟩
  ·refine thn (T.done (bo X N scope cl {s2 with heap:=hpA} (upd H2 s2.heap.objs.size (.lst [])) fp) rfl rfl rfl hc i [] s3 σ3 H3 (λ_ _=>False) J3 (stat fr3) st3 stop) λr s4 hpt=>?_
   obtain⟨hr,J4⟩:=hpt;subst hr;obtain⟨m,hm,_⟩:=J4.loc;have I4:Inv X pins σ H3 s4:=iM I3 f3 J4 (SameBut.refl _ _);obtain⟨f0,f1,f2,f3',f4,f5⟩:=I3.fpOk (b:=hpA.objs.size) (le_refl _) (H':=H3) J4.free;show wpAny _ _ (assign (.Name y py) X.env (.ref s2.heap.objs.size)) _ _ _;refine wpAny_assign_Name (fc I4 hXN hii hx (v:=.ref s2.heap.objs.size) rfl (λs5 I5 ⟨a,sb,ha⟩=>⟨m,hm.sameBut sb ?_,λh' hs'=>⟨_,H3,I5.turned (t':=s5.toks) (λb o hb e=>(hs'.2 b hb).trans e) f0 f1 f3' f4 f5,qn⟩⟩) hf);rcases ha with e|e
   ·rw[e];exact f1
   ·exact λz=>f4 _ _ e z.symm
  ·refine thn (T.item (bo X N scope cl {s2 with heap:=hpA} (upd H2 s2.heap.objs.size (.lst [])) fp) rfl rfl rfl hc i [] s3 σ3 H3 (λ_ _=>False) J3 (stat fr3) st3 go) λr s4 hpt=>?_
   obtain⟨u,hr,h4⟩:=hpt;subst hr;refine thn h4 λ_ s5 hpt=>?_;obtain⟨x,H5,J5,r5,y5,st5,fr5⟩:=hpt;have J5':=J5.pinned (stat fr5) (T.obj _ _ st5);refine thn (hg _ _ _ _ s5 σ3 H5 x u _ J5' r5 (step x H5 y5)) λ_ s6 hpt=>?_;obtain⟨σ6,H6,J6,q6⟩:=hpt;refine thn (ht _ _ _ _ s6 σ6 H6 _ J6 q6) λb s6 hpt=>?_;obtain⟨H6,J6,q6⟩:=hpt;cases b with
   |true =>
    rw[if_pos rfl]at q6⊢;refine thn (he _ _ _ _ s6 σ6 H6 _ J6 q6) λy s7 hpt=>?_;obtain⟨vy,H7,J7,r7,q7,m',hm',w7⟩:=hpt;refine thn (aQ _ s7 σ6 H7 (.ref s2.heap.objs.size) [vy] _ _ (λ_ H8=>H8=upd H7 s2.heap.objs.size (.lst (ys++[vy]))) J7 rfl (.cons r7 .nil) ⟨_,ys,vy,rfl,rfl,q7,hlen,rfl⟩) λ_ s8 hpt=>?_;obtain⟨_,H8,J8,_,e8⟩:=hpt;subst e8;refine⟨m',hm',i+1,ys++[vy],σ6,_,J8.unpinned,T.keep _ _ _ st5 λb hb o e=>(J8.pin (b,o) (mem_append_right _ (mem_append_right _ (aC hb e)))).1,λb hb=>?_,w7⟩;obtain⟨o,e,d⟩:=T.obj _ _ st5 b hb;exact(J8.pin (b,o) (mem_append_right _ (mem_append_right _ (aC hb e)))).2.1
   |false =>
    rw[if_neg (by simp)]at q6⊢;obtain⟨m',hm',w7⟩:=q6;refine⟨m',hm',i+1,ys,σ6,_,J6.unpinned,T.keep _ _ _ st5 λb hb o e=>(J6.pin (b,o) (mem_append_right _ (mem_append_right _ (aC hb e)))).1,λb hb=>?_,w7⟩;obtain⟨o,e,d⟩:=T.obj _ _ st5 b hb;exact(J6.pin (b,o) (mem_append_right _ (mem_append_right _ (aC hb e)))).2.1
 exact codeAny_compStart_list loop (T.self _ 0 _ _ _ st1 loop)
end
section
variable{X:Cx}{tg:Expr}
end
theorem Same.seqT{K:PySem.W.Frag}{H H':Hp}{a:Addr}{xs:List V}(e:Same H H')(h:SqT K H a xs):SqT K H' a xs:=by
 rcases h with (h|⟨o,h⟩)|h
 ·exact .inl (.inl (e _ _ h))
 ·exact .inl (.inr ⟨o,e _ _ h⟩)
 ·exact .inr h
structure Src(J:It)(H1:Hp)(xs:List V):Prop where
 go:∀i H',i<xs.length→Same H1 H'→J.go i H'
 stop:∀H',Same H1 H'→J.stop xs.length H'
 yl:∀i H' x H2,i<xs.length→Same H1 H'→J.yld i H' x H2→H2=H'∧xs[i]?=some x
theorem nw{K:PySem.W.Frag}{a:Addr}{xs:List V}{H1:Hp}(h:SqT K H1 a xs):Src (Itt K a) H1 xs :=
 ⟨λi H' hi s=>⟨xs,xs[i],s.seqT h,getElem?_eq_getElem hi⟩,λH' s=>⟨xs,s.seqT h,le_refl _⟩,λi H' x H2 _ s ⟨e,y⟩=>⟨e,y xs (by subst e;exact s.seqT h)⟩⟩
theorem jz{K:PySem.W.Frag}{a:Addr}{xs:List V}{H1:Hp}(h:SqL K H1 a xs):Src (Itl K a) H1 xs :=
 ⟨λi H' hi s=>⟨xs,xs[i],s.seq h,getElem?_eq_getElem hi⟩,λH' s=>⟨xs,s.seq h,le_refl _⟩,λi H' x H2 _ s ⟨e,y⟩=>⟨e,y xs (by subst e;exact s.seq h)⟩⟩
theorem Paired.snoc{α β:Type}{R:α→β→Prop}:∀{as:List α}{bs:List β}{a:α}{b:β},Paired R as bs→R a b→Paired R (as++[a]) (bs++[b])
 |_,_,_,_,.nil,h=>.cons h .nil
 |_,_,_,_,.cons r t,h=>.cons r (Paired.snoc t h)
theorem lH{α:Type}{js:List Nat}{J:It}{tc:TT}{te:TE}{σ:St}{H1:Hp}{Q:VK}{p:Addr}{fr:List (Option V)}(zs:List α)(val:α→V)(hn:zs.length≤1000)(hp:H1 p=none)(S:Src J H1 (zs.map val))(hfr:br 1 js σ=none::fr)(g:α→Bool)(R:α→V→Hp→Prop)(hR:∀z y H H',R z y H→Ext p H H'→R z y H')(cond:∀z H' (k:Bool→Hp→Prop),z∈zs→Same H1 H'→(∃ys,H' p=some (.lst ys))→(∀H4,Same H' H4→k (g z) H4)→tc (some (val z)::fr) H' k)(elt:∀z H' (k:VK),z∈zs→g z=true→Same H1 H'→(∃ys,H' p=some (.lst ys))→(∀y H4,Same H' H4→R z y H4→k y H4)→te (some (val z)::fr) H' k)(fin:∀ys H',Same H1 H'→H' p=some (.lst ys)→Paired (λz y=>R z y H') (zs.filter g) ys→Q (.ref p) H'):qx 1 js (bp 0) tc te σ Q J H1 p:=by
 have grow:∀{as:List α}{ys:List V}{H H':Hp},Ext p H H'→Paired (λz y=>R z y H) as ys→Paired (λz y=>R z y H') as ys:=λex r=>Paired.mapP r λa b h=>hR a b _ _ h ex;have hlen:∀{as:List α}{ys:List V}{H:Hp},Paired (λz y=>R z y H) as ys→ys.length=as.length:=λr=>(Paired.length r).symm;refine⟨λi m ys σ' H'=>m=zs.length-i∧i≤zs.length∧(∃o,σ'=o::fr)∧Same H1 H'∧H' p=some (.lst ys)∧Paired (λz y=>R z y H') ((zs.take i).filter g) ys,⟨zs.length,by simp,zero_le _,⟨none,hfr⟩,ag hp,ac,.nil⟩,?_⟩;rintro i m ys σ' H' ⟨rfl,hi,⟨o,rfl⟩,s1,hl,hys⟩
 by_cases hlt:i<zs.length
 ·have hlt':i<(zs.map val).length:=by rw[length_map];exact hlt
  refine .inr ⟨S.go i H' hlt' s1,?_,λx H2 hy=>?_⟩
  ·have h1:ys.length≤zs.length:=by
    rw[hlen hys];exact le_trans (length_filter_le _ _) (by rw[length_take];omega)
   exact lt_of_le_of_lt h1 (ay hn)
  ·obtain⟨rfl,hx⟩:=S.yl i H' x H2 hlt' s1 hy;have gz:zs[i]?=some zs[i]:=getElem?_eq_getElem hlt;have mz:=mem_of_getElem? gz;rw[getElem?_map,gz]at hx;have ex:val zs[i]=x:=Option.some.inj hx;have et:zs.take (i+1)=zs.take i++[zs[i]]:=bv gz;subst ex;generalize zs[i]=z at gz mz et⊢;refine cond z H2 _ mz s1 ⟨ys,hl⟩ λH4 s4=>?_;cases hb:g z with
   |true =>
    rw[if_pos rfl];refine elt z H4 _ mz hb (s1.trans s4) ⟨ys,s4 _ _ hl⟩ λy H5 s5 r5=>⟨s5 _ _ (s4 _ _ hl),zs.length-(i+1),by omega,rfl,hlt,⟨_,rfl⟩,aE hp ((s1.trans s4).trans s5),ac,?_⟩;rw[et,List.filter_append,filter_cons_of_pos hb];exact Paired.snoc (grow ((Ext.of (s4.trans s5)).trans Ext.upd) hys) (hR _ _ _ _ r5 Ext.upd)
   |false =>
    rw[if_neg (by simp)];refine⟨zs.length-(i+1),by omega,rfl,hlt,⟨_,rfl⟩,s1.trans s4,s4 _ _ hl,?_⟩;rw[et,List.filter_append,filter_cons_of_neg (by simp[hb]),List.filter_nil,append_nil];exact grow (Ext.of s4) hys
 ·have e:i=zs.length:=by omega
  subst e;have st:=S.stop H' s1;rw[length_map]at st;refine .inl ⟨st,fin ys H' s1 hl ?_⟩;rw[take_length]at hys;exact hys
theorem ny{α:Type}{js:List Nat}{J:It}{te:TE}{σ:St}{H1:Hp}{Q:VK}{p:Addr}{fr:List (Option V)}(zs:List α)(val:α→V)(hn:zs.length≤1000)(hp:H1 p=none)(S:Src J H1 (zs.map val))(hfr:br 1 js σ=none::fr)(R:α→V→Hp→Prop)(hR:∀z y H H',R z y H→Ext p H H'→R z y H')(elt:∀z H' (k:VK),z∈zs→Same H1 H'→(∃ys,H' p=some (.lst ys))→(∀y H4,Same H' H4→R z y H4→k y H4)→te (some (val z)::fr) H' k)(fin:∀ys H',Same H1 H'→H' p=some (.lst ys)→Paired (λz y=>R z y H') zs ys→Q (.ref p) H'):LcW 1 js (bp 0) te σ Q J H1 p:=by
 have grow:∀{as:List α}{ys:List V}{H H':Hp},Ext p H H'→Paired (λz y=>R z y H) as ys→Paired (λz y=>R z y H') as ys:=λex r=>Paired.mapP r λa b h=>hR a b _ _ h ex;have hlen:∀{as:List α}{ys:List V}{H:Hp},Paired (λz y=>R z y H) as ys→ys.length=as.length:=λr=>(Paired.length r).symm;refine⟨λi m ys σ' H'=>m=zs.length-i∧i≤zs.length∧(∃o,σ'=o::fr)∧Same H1 H'∧H' p=some (.lst ys)∧Paired (λz y=>R z y H') (zs.take i) ys,⟨zs.length,by simp,zero_le _,⟨none,hfr⟩,ag hp,ac,.nil⟩,?_⟩;rintro i m ys σ' H' ⟨rfl,hi,⟨o,rfl⟩,s1,hl,hys⟩
 by_cases hlt:i<zs.length
 ·have hlt':i<(zs.map val).length:=by rw[length_map];exact hlt
  refine .inr ⟨S.go i H' hlt' s1,?_,λx H2 hy=>?_⟩
  ·have h1:ys.length≤zs.length:=by
    rw[hlen hys,length_take];omega
   exact lt_of_le_of_lt h1 (ay hn)
  ·obtain⟨rfl,hx⟩:=S.yl i H' x H2 hlt' s1 hy;have gz:zs[i]?=some zs[i]:=getElem?_eq_getElem hlt;have mz:=mem_of_getElem? gz;rw[getElem?_map,gz]at hx;have ex:val zs[i]=x:=Option.some.inj hx;have et:zs.take (i+1)=zs.take i++[zs[i]]:=bv gz;subst ex;generalize zs[i]=z at gz mz et⊢;refine elt z H2 _ mz s1 ⟨ys,hl⟩ λy H5 s5 r5=>⟨s5 _ _ hl,zs.length-(i+1),by omega,rfl,hlt,⟨_,rfl⟩,aE hp (s1.trans s5),ac,?_⟩;rw[et];exact Paired.snoc (grow ((Ext.of s5).trans Ext.upd) hys) (hR _ _ _ _ r5 Ext.upd)
 ·have e:i=zs.length:=by omega
  subst e;have st:=S.stop H' s1;rw[length_map]at st;refine .inl ⟨st,fin ys H' s1 hl ?_⟩;rw[take_length]at hys;exact hys
theorem cL{α:Type}{R:α→V→Prop}{f:α→V}{zs:List α}{ys:List V}(h:Paired R zs ys)(hf:∀z y,z∈zs→R z y→y=f z):ys=zs.map f:=by
 induction h with
 |nil=>rfl
 |cons r _ ih=>rw[map_cons,←ih λz y hz=>hf z y (by simp[hz]),hf _ _ (by simp) r]
theorem gB(p:Int)(ms:List Int):inV (.int p) (ms.map V.int)=decide (p∈ms):=by
 unfold inV;rw[any_map,Bool.eq_iff_iff,any_eq_true,decide_eq_true_eq];constructor
 ·rintro⟨x,hx,e⟩;have:x=p:=by simpa [eqV]using e
  rw[←this];exact hx
 ·intro h;exact⟨p,h,by simp[eqV]⟩
theorem hZ{X:Cx}:dX (CX1 X.prog X.w) X E0:=λ_ _ _ _ _ _ _ ⟨_,_,_,_,_,h⟩=>h.elim
end L2
namespace TW
structure Nd(S:Type) where
 num:Int
 par:Int
 nm:S
 st:Option Int
section
variable{S:Type}
inductive Reach(ns:List (Nd S))(f:Int):Nd S→Prop where
 |base {n:Nd S}:n∈ns→n.par=f→Reach ns f n
 |step {m n:Nd S}:Reach ns f m→m.st=none→n∈ns→n.par=m.num→Reach ns f n
theorem Reach.mem{ns:List (Nd S)}{f:Int}{n:Nd S}(h:Reach ns f n):n∈ns:=by
 cases h<;>assumption
theorem Reach.mono{ns ms:List (Nd S)}{f:Int}{n:Nd S}(h:Reach ns f n)(hs:∀x∈ns,x∈ms):Reach ms f n:=by
 induction h with
 |base hm hp=>exact .base (hs _ hm) hp
 |step _ hf hm hp ih=>exact .step ih hf (hs _ hm) hp
def eL(ns:List (Nd S))(k:Int):List (Nd S):=ns.filter λn=>decide (n.par=k)
def cm(dn:List Int)(n:Nd S):Bool:=decide (n.par∈dn)
structure Walk(ns:List (Nd S))(f:Int)(dn:List Int)(fd:List (Nd S))(pd:List Int):Prop where
 perm:fd.Perm (ns.filter (cm dn))
 reach:∀n∈fd,Reach ns f n
 cover:∀k,(k∈pd∨k∈dn)↔(k=f∨∃m∈fd,m.st=none∧m.num=k)
theorem Walk.start(ns:List (Nd S))(f:Int):Walk ns f [] [] [f]:=by
 refine⟨?_,by simp,λk=>by simp⟩;have e:ns.filter (cm [])=[]:=by
  rw[List.filter_eq_nil_iff];intro a _;simp[cm]
 rw[e]
theorem cw{α:Type}(p q:α→Bool)(hd:∀x,p x=true→q x=true→False):∀l:List α,
  (l.filter p++l.filter q).Perm (l.filter λx=>p x||q x)
 |[]=>by simp
 |x::l=>by
  have ih:=cw p q hd l;cases hp:p x with
  |true =>
   have hq:q x=false:=by
    cases h:q x with
    |false=>rfl
    |true=>exact(hd x hp h).elim
   rw[filter_cons_of_pos hp,filter_cons_of_neg (by simp[hq]),filter_cons_of_pos (by simp[hp])];exact List.Perm.cons x ih
  |false =>
   cases hq:q x with
   |true =>
    rw[filter_cons_of_neg (by simp[hp]),filter_cons_of_pos hq,filter_cons_of_pos (by simp[hq])];exact List.perm_middle.trans (List.Perm.cons x ih)
   |false =>
    rw[filter_cons_of_neg (by simp[hp]),filter_cons_of_neg (by simp[hq]),filter_cons_of_neg (by simp[hp,hq])];exact ih
def here(ns:List (Nd S))(dn:List Int)(x:Int):List (Nd S):=if x∈dn then []else eL ns x
def au(l:List (Nd S)):List Int:=(l.filter λn=>n.st.isNone).map (·.num)
theorem dG{l:List (Nd S)}{k:Int}:k∈au l↔∃m∈l,m.st=none∧m.num=k:=by
 unfold au;rw[mem_map];constructor
 ·rintro⟨m,hm,e⟩;rw[mem_filter]at hm;exact⟨m,hm.1,by simpa using hm.2,e⟩
 ·rintro⟨m,hm,h,e⟩;exact⟨m,mem_filter.mpr ⟨hm,by simp[h]⟩,e⟩
theorem Walk.turn{ns:List (Nd S)}{f x:Int}{dn:List Int}{fd:List (Nd S)}{pd:List Int}(w:Walk ns f dn fd (pd++[x])):
  Walk ns f (x::dn) (fd++here ns dn x) (pd++au (here ns dn x)):=by
 have hx:=(w.cover x).mp (.inl (by simp))
 by_cases hd:x∈dn
 ·have eh:here ns dn x=[]:=by unfold here;rw[if_pos hd]
  rw[eh];refine⟨?_,by simpa using w.reach,λk=>?_⟩
  ·have e:ns.filter (cm (x::dn))=ns.filter (cm dn):=by
    apply List.filter_congr;intro n _;simp only[cm,mem_cons,decide_eq_decide];constructor
    ·rintro(h|h)
     ·rw[h];exact hd
     ·exact h
    ·exact .inr
   rw[e,append_nil];exact w.perm
  ·have c:=w.cover k;rw[append_nil,←c];simp only[au,List.filter_nil,map_nil,append_nil,mem_append,mem_cons,not_mem_nil,or_false];constructor
   ·rintro(h|h|h)
    ·exact .inl (.inl h)
    ·exact .inl (.inr h)
    ·exact .inr h
   ·rintro((h|h)|h)
    ·exact .inl h
    ·exact .inr (.inl h)
    ·exact .inr (.inr h)
 ·have eh:here ns dn x=eL ns x:=by unfold here;rw[if_neg hd]
  rw[eh];refine⟨?_,λn hn=>?_,λk=>?_⟩
  ·have e:ns.filter (cm (x::dn))=ns.filter λn=>cm dn n||decide (n.par=x):=by
    apply List.filter_congr;intro n _;rw[Bool.eq_iff_iff];simp only[cm,mem_cons,decide_eq_true_eq,Bool.or_eq_true];constructor
    ·rintro(h|h)
     ·exact .inr h
     ·exact .inl h
    ·rintro(h|h)
     ·exact .inr h
     ·exact .inl h
   rw[e];refine(List.Perm.append_right _ w.perm).trans (cw _ _ (λy h1 h2=>?_) ns);simp only[cm,decide_eq_true_eq]at h1 h2;rw[h2]at h1;exact hd h1
  ·rcases mem_append.mp hn with h|h
   ·exact w.reach n h
   ·unfold eL at h;rw[mem_filter]at h;obtain⟨hm,hp⟩:=h;simp only[decide_eq_true_eq]at hp;rcases hx with e|⟨m,hm',hf,e⟩
    ·exact .base hm (hp.trans e)
    ·exact .step (w.reach m hm') hf hm (hp.trans e.symm)
  ·have c:=w.cover k;simp only[mem_append,mem_cons,not_mem_nil,or_false]at c⊢;rw[dG];constructor
   ·rintro((h|⟨m,hm,h1,h2⟩)|h|h)
    ·rcases c.mp (.inl (.inl h))with e|⟨m,hm,z⟩
     ·exact .inl e
     ·exact .inr ⟨m,.inl hm,z⟩
    ·exact .inr ⟨m,.inr hm,h1,h2⟩
    ·rcases c.mp (.inl (.inr h))with e|⟨m,hm,z⟩
     ·exact .inl e
     ·exact .inr ⟨m,.inl hm,z⟩
    ·rcases c.mp (.inr h)with e|⟨m,hm,z⟩
     ·exact .inl e
     ·exact .inr ⟨m,.inl hm,z⟩
   ·rintro(e|⟨m,hm|hm,z⟩)
    ·rcases c.mpr (.inl e)with (h|h)|h
     ·exact .inl (.inl h)
     ·exact .inr (.inl h)
     ·exact .inr (.inr h)
    ·rcases c.mpr (.inr ⟨m,hm,z⟩)with (h|h)|h
     ·exact .inl (.inl h)
     ·exact .inr (.inl h)
     ·exact .inr (.inr h)
    ·exact .inl (.inr ⟨m,hm,z⟩)
theorem Walk.len{ns:List (Nd S)}{f:Int}{dn:List Int}{fd:List (Nd S)}{pd:List Int}(w:Walk ns f dn fd pd):fd.length≤ns.length:=by
 rw[w.perm.length_eq];exact length_filter_le _ _
theorem bH(l:List (Nd S)):(au l).length≤l.length:=by
 unfold au;rw[length_map];exact length_filter_le _ _
theorem Walk.mem{ns:List (Nd S)}{f:Int}{dn:List Int}{fd:List (Nd S)}(w:Walk ns f dn fd [])(n:Nd S):n∈fd↔Reach ns f n:=by
 constructor
 ·exact w.reach n
 ·have cov:∀k,(k=f∨∃m∈fd,m.st=none∧m.num=k)→k∈dn:=λk h=>by
   rcases (w.cover k).mpr h with z|z
   ·simp at z
   ·exact z
  have back:∀x,x∈ns→x.par∈dn→x∈fd:=λx hx hp=>w.perm.mem_iff.mpr (mem_filter.mpr ⟨hx,by simp[cm,hp]⟩);intro h
  induction h with
  |base hm hp=>exact back _ hm (cov _ (.inl hp))
  |step _ hf hm hp ih=>exact back _ hm (cov _ (.inr ⟨_,ih,hf,hp.symm⟩))
def lI(ns:List (Nd S)):Prop:=ns.Pairwise λa b=>a.num<b.num
def bA(ns:List (Nd S)):Prop:=(ns.map λn=>(n.par,n.nm)).Nodup
structure Tree(ns:List (Nd S)):Prop where
 rise:lI ns
 own:bA ns
 down:∀n∈ns,Reach ns 0 n
inductive Built:List (Nd S)→Prop where
 |nil:Built []
 |snoc {l:List (Nd S)} {n:Nd S}:Built l→(n.par=0∨∃m∈l,m.st=none∧m.num=n.par)→Built (l++[n])
theorem Built.down{l:List (Nd S)}(b:Built l):∀n∈l,Reach l 0 n:=by
 induction b with
 |nil=>simp
 |@snoc l n b h ih =>
  intro x hx;have up:∀y∈l,y∈l++[n]:=λy hy=>mem_append_left _ hy;rcases mem_append.mp hx with hx|hx
  ·exact(ih x hx).mono up
  ·have e:x=n:=by simpa using hx
   subst e;rcases h with h|⟨m,hm,hf,he⟩
   ·exact .base (by simp) h
   ·exact .step ((ih m hm).mono up) hf (by simp) he.symm
theorem nA{l t:List (Nd S)}(b:Built l)(p:t.Perm l)(hr:t.Pairwise λa b=>a.num≤b.num)(hn:(l.map (·.num)).Nodup)(ho:bA l):Tree t:=by
 refine⟨?_,?_,λn hn'=>?_⟩
 ·have hn':(t.map (·.num)).Nodup:=((p.map _).nodup_iff).mpr hn;unfold Nodup at hn';rw[pairwise_map]at hn';unfold lI;exact hr.imp₂ (λa b h1 h2=>by omega) hn'
 ·unfold bA;exact((p.map _).nodup_iff).mpr ho
 ·exact(b.down n (p.mem_iff.mp hn')).mono λx hx=>p.mem_iff.mpr hx
theorem lJ{t:List (Nd S)}(h:lI t){a b:Nd S}(ha:a∈t)(hb:b∈t)(e:a.num=b.num):a=b:=by
 unfold lI at h
 induction t with
 |nil=>simp at ha
 |cons x r ih =>
  rw[List.pairwise_cons]at h;rcases mem_cons.mp ha with ea|ha'
  ·rcases mem_cons.mp hb with eb|hb'
   ·rw[ea,eb]
   ·have:=h.1 b hb';rw[←ea]at this;omega
  ·rcases mem_cons.mp hb with eb|hb'
   ·have:=h.1 a ha';rw[←eb]at this;omega
   ·exact ih h.2 ha' hb'
end
end TW
namespace TW
section
variable{S:Type}
inductive PathTo(ns:List (Nd S)):Int→List S→Prop where
 |top:PathTo ns 0 []
 |node {n:Nd S} {p:List S}:n∈ns→PathTo ns n.par p→PathTo ns n.num (p++[n.nm])
structure Tree1(ns:List (Nd S)):Prop extends Tree ns where
 pos:∀n∈ns,1≤n.num
theorem Tree1.inj{ns:List (Nd S)}(T:Tree1 ns){a b:Nd S}(ha:a∈ns)(hb:b∈ns)(e:a.num=b.num):a=b:=lJ T.rise ha hb e
theorem PathTo.zero{ns:List (Nd S)}(T:Tree1 ns){k:Int}{p:List S}(h:PathTo ns k p)(e:k=0):p=[]:=by
 cases h with
 |top=>rfl
 |@node n p hm _=>have:=T.pos n hm;omega
theorem PathTo.inv{ns:List (Nd S)}(T:Tree1 ns){k:Int}{p:List S}(h:PathTo ns k p){n:Nd S}(hn:n∈ns)(e:k=n.num):∃q,p=q++[n.nm]∧PathTo ns n.par q:=by
 cases h with
 |top=>have:=T.pos n hn;omega
 |@node m q hm hq =>
  have:m=n:=T.inj hm hn e;subst this;exact⟨q,rfl,hq⟩
theorem PathTo.uniq{ns:List (Nd S)}(T:Tree1 ns){k:Int}{p:List S}(h:PathTo ns k p):∀{q:List S},PathTo ns k q→p=q:=by
 induction h with
 |top=>intro q hq;exact(hq.zero T rfl).symm
 |@node n p hm _ ih =>
  intro q hq;obtain⟨q',e,hq'⟩:=hq.inv T hm rfl;rw[e,ih hq']
theorem PathTo.ex{ns:List (Nd S)}(T:Tree1 ns){n:Nd S}(hn:n∈ns):∃p,PathTo ns n.num p:=by
 have key:∀x,Reach ns 0 x→∃p,PathTo ns x.num p:=by
  intro x r
  induction r with
  |base hm hp=>exact⟨_,.node hm (by rw[hp];exact .top)⟩
  |step _ _ hm hp ih =>
   obtain⟨p,h⟩:=ih;exact⟨_,.node hm (by rw[hp];exact h)⟩
 exact key n (T.down n hn)
theorem PathTo.key{ns:List (Nd S)}(T:Tree1 ns):∀{p:List S}{k j:Int},PathTo ns k p→PathTo ns j p→k=j:=by
 have main:∀(m:Nat){p:List S}{k j:Int},p.length=m→PathTo ns k p→PathTo ns j p→k=j:=by
  intro m
  induction m with
  |zero =>
   intro p k j hl h1 h2;have e:p=[]:=length_eq_zero_iff.mp hl;subst e;have z:∀{k:Int}{q:List S},PathTo ns k q→q=[]→k=0:=by
    intro k q h e;cases h with
    |top=>rfl
    |node _ _=>simp at e
   rw[z h1 rfl,z h2 rfl]
  |succ m ih =>
   intro p k j hl h1 h2;have z:∀{k:Int}{q:List S},PathTo ns k q→q=p→∃n q',n∈ns∧n.num=k∧p=q'++[n.nm]∧PathTo ns n.par q':=by
    intro k q h e;cases h with
    |top=>rw[←e]at hl;simp at hl
    |@node n q' hm hq'=>exact⟨n,q',hm,rfl,e.symm,hq'⟩
   obtain⟨n,q,hn,e1,e2,hq⟩:=z h1 rfl;obtain⟨n',q',hn',e1',e2',hq'⟩:=z h2 rfl;have e3:q++[n.nm]=q'++[n'.nm]:=e2.symm.trans e2';obtain⟨e4,e5⟩:=append_inj' e3 rfl;subst e4;have e6:n.nm=n'.nm:=by simpa using e5
   have e7:n.par=n'.par:=ih (by rw[e2]at hl;simpa using hl) hq hq';have ho:=T.own;have:n=n':=by
    unfold bA at ho;obtain⟨i,hi,gi⟩:=List.mem_iff_getElem.mp hn;obtain⟨j',hj,gj⟩:=List.mem_iff_getElem.mp hn';have:(ns.map λn=>(n.par,n.nm))[i]'(by simpa using hi)=(ns.map λn=>(n.par,n.nm))[j']'(by simpa using hj):=by
     rw[getElem_map,getElem_map,gi,gj,e6,e7]
    have hij:=(getElem_inj ho).mp this;subst hij;rw[←gi,←gj]
   rw[←e1,←e1',this]
 intro p k j h1 h2;exact main p.length rfl h1 h2
theorem PathTo.chain{ns:List (Nd S)}(T:Tree1 ns){k:Int}{p:List S}(h:PathTo ns k p):∃l:List Int,l.length=p.length∧l.Nodup∧∀x∈l,x∈ns.map (·.num)∧∃q,PathTo ns x q∧q.length≤p.length:=by
 induction h with
 |top=>exact⟨[],rfl,nodup_nil,by simp⟩
 |@node n p hm hp ih =>
  obtain⟨l,e,nd,hx⟩:=ih;refine⟨n.num::l,by simp[e],nodup_cons.mpr ⟨λhin=>?_,nd⟩,λx hx'=>?_⟩
  ·obtain⟨_,q,hq,hl⟩:=hx _ hin;have:=hq.uniq T (.node hm hp);rw[this]at hl;simp at hl;omega
  ·rcases mem_cons.mp hx' with e'|h'
   ·rw[e'];exact⟨mem_map.mpr ⟨n,hm,rfl⟩,_,.node hm hp,le_refl _⟩
   ·obtain⟨a,q,b,c⟩:=hx x h';exact⟨a,q,b,by simp;omega⟩
theorem PathTo.len{ns:List (Nd S)}(T:Tree1 ns){k:Int}{p:List S}(h:PathTo ns k p):p.length≤ns.length:=by
 obtain⟨l,e,nd,hx⟩:=h.chain T;rw[←e];have:=Nodup.length_le_of_subset nd (λx hx'=>(hx x hx').1);rw[length_map]at this;exact this
inductive Und(ns:List (Nd S))(g:Int):Int→Prop where
 |here:Und ns g g
 |up {n:Nd S}:n∈ns→Und ns g n.par→Und ns g n.num
theorem Und.zero{ns:List (Nd S)}(T:Tree1 ns){g k:Int}(h:Und ns g k)(e:k=0):g=0:=by
 cases h with
 |here=>exact e
 |@up n hm _=>have:=T.pos n hm;omega
theorem Und.inv{ns:List (Nd S)}(T:Tree1 ns){g k:Int}(h:Und ns g k){n:Nd S}(hn:n∈ns)(e:k=n.num)(hg:k≠g):Und ns g n.par:=by
 cases h with
 |here=>exact absurd rfl hg
 |@up m hm hu =>
  have:m=n:=T.inj hm hn e;subst this;exact hu
theorem ko{ns:List (Nd S)}(T:Tree1 ns){n:Nd S}(hn:n∈ns):n.par=0∨∃m∈ns,m.st=none∧m.num=n.par:=by
 have:=T.down n hn;cases this with
 |base _ hp=>exact .inl hp
 |@step m _ hr hf _ hp=>exact .inr ⟨m,hr.mem,hf,hp.symm⟩
theorem fR{ns:List (Nd S)}(T:Tree1 ns){g:Int}{n:Nd S}(h:Reach ns g n):Und ns g n.num∧∃p q,PathTo ns n.num (p++q)∧q≠[]∧PathTo ns g p:=by
 induction h with
 |@base n hm hp =>
  obtain⟨p,h⟩:=PathTo.ex T hm;obtain⟨q,e,hq⟩:=h.inv T hm rfl;refine⟨.up hm (by rw[hp];exact .here),q,[n.nm],by rw[←e];exact h,by simp,by rw[←hp];exact hq⟩
 |@step m n hr hf hm hp ih =>
  obtain⟨hu,p,q,h1,h2,h3⟩:=ih;refine⟨.up hm (by rw[hp];exact hu),p,q++[n.nm],?_,by simp,h3⟩;rw[←append_assoc];exact .node hm (by rw[hp];exact h1)
theorem lK{ns:List (Nd S)}(T:Tree1 ns){g:Int}{n:Nd S}(h:Reach ns g n):n.num≠g:=by
 obtain⟨_,p,q,h1,h2,h3⟩:=fR T h;intro e;rw[e]at h1;have:=h1.uniq T h3;have hl:=congrArg length this;rw[length_append]at hl;have:q.length≠0:=λz=>h2 (length_eq_zero_iff.mp z);omega
theorem kq{ns:List (Nd S)}(T:Tree1 ns){g:Int}(hg:1≤g):∀{k:Int}{p:List S},PathTo ns k p→∀{n:Nd S},n∈ns→k=n.num→Und ns g k→k≠g→Reach ns g n:=by
 intro k p h
 induction h with
 |top=>intro n hn e;have:=T.pos n hn;omega
 |@node m p hm hp ih =>
  intro n hn e hu hne;have:m=n:=T.inj hm hn e;subst this;have hu':=hu.inv T hm rfl hne
  by_cases hpg:m.par=g
  ·exact .base hm hpg
  ·rcases ko T hm with h0|⟨r,hr,hf,er⟩
   ·have:=hu'.zero T h0;omega
   ·exact .step (ih hr er.symm hu' hpg) hf hm er.symm
theorem kr{ns:List (Nd S)}(T:Tree1 ns){g:Int}(hg:1≤g){n:Nd S}(hn:n∈ns):Reach ns g n↔n.num≠g∧Und ns g n.num:=by
 constructor
 ·intro h;exact⟨lK T h,(fR T h).1⟩
 ·rintro⟨h1,h2⟩;obtain⟨p,hp⟩:=PathTo.ex T hn;exact kq T hg hp hn rfl h2 h1
theorem PathTo.down{ns:List (Nd S)}(T:Tree1 ns){k:Int}{p:List S}{x:S}{j:Int}(h:PathTo ns k p)(hj:PathTo ns j (p++[x])):∃n∈ns,n.num=j∧n.par=k∧n.nm=x:=by
 have z:∀{j:Int}{q:List S},PathTo ns j q→q=p++[x]→∃n∈ns,n.num=j∧n.par=k∧n.nm=x:=by
  intro j q h' e;cases h' with
  |top=>simp at e
  |@node n q' hm hq' =>
   obtain⟨e1,e2⟩:=append_inj' e rfl;subst e1;exact⟨n,hm,rfl,hq'.key T h,by simpa using e2⟩
 exact z hj rfl
theorem PathTo.prefix{ns:List (Nd S)}{j:Int}{p:List S}{x:S}(hj:PathTo ns j (p++[x])):∃k,PathTo ns k p:=by
 have z:∀{j:Int}{q:List S},PathTo ns j q→q=p++[x]→∃k,PathTo ns k p:=by
  intro j q h' e;cases h' with
  |top=>simp at e
  |@node n q' hm hq' =>
   obtain⟨e1,e2⟩:=append_inj' e rfl;subst e1;exact⟨_,hq'⟩
 exact z hj rfl
end
end TW
namespace TW
section
variable{S:Type}
end
end TW
namespace TW
section
variable{S:Type}
end
end TW
namespace TW
section
variable{S:Type}
end
end TW
namespace L2
open PySem PySem.Spec PyProof.Rows
section
variable{P:Program}{w:World}{K:PySem.W.Frag}{mg:Str→Option Value}{base:Heap}
theorem Fun.okX{x qual:Str}{st:Stmt}{f:Addr}{fd:FuncData}{N ps:List Str}{k:Nat}{sp:Sp}(F:Fun K x qual st f fd)(S:FnScope N ps (ai st))(len:∀vs H Q E,sp vs H Q E→vs.length=ps.length)(hbody:∀(cdv:Value) (A:Around) (outer:List Env) (s:Shared) (H:Hp) (vs:List V) (Q:VK) (E:XK),Room k (A.deeper (envOfC qual (ai st) s.heap.objs.size f cdv))→sp vs H Q E →
   ∃t,PSs (dJ (CX1 P w) P w K mg base N qual (ai st) f cdv A outer s H E) (aU st) t∧t {nx:=λ_ H'=>Q .non H',rt:=Q} (start N vs) H):FnOk P w K mg base (CX1 P w) (k+1) f fd ps sp:=by
 obtain⟨oc,od,kV,doc,pm,an,cdv,ct,osl,rfl,lk,hcd⟩:=F.ex;exact kZ lk hcd S len λA outer s H vs Q E hr hsp=>hbody cdv A outer s H vs Q E hr hsp
theorem LcOk.mk'{X:Cx}{scope:Scope}{cl:List (Str×Addr)}(fs:List Str)(hk:scope.kind=.function)(hc:closureFor scope X.env=pure cl)(hn:∀x∈scope.names,x.2=.local→scope.names.lookup x.1=some .local)(hnc:∀x∈scope.names,x.2≠.cell)(hcl:∀y∈cl,X.env.cells.lookup y.1=some y.2)(hfs:cl.map (·.1)=fs)(hall:scope.names.all (λy=>!(y.2==.free)||fs.contains y.1)=true):LcOk X scope cl:=by
 refine⟨hk,hc,hn,hnc,λx c h=>hcl (x,c) (PySem.mem_of_lookup h),λx h=>?_⟩;have hm:∃k,(x,k)∈(relabel scope X.env).names∧(k=.cell∨k=.free):=by
  rcases h with h|h
  ·exact⟨_,PySem.mem_of_lookup h,.inl rfl⟩
  ·exact⟨_,PySem.mem_of_lookup h,.inr rfl⟩
 obtain⟨k,hm,hk'⟩:=hm;unfold relabel at hm;obtain⟨⟨y,k0⟩,hy,e⟩:=mem_map.mp hm;have hfree:x=y∧k0=.free:=by
  cases k0 with
  |free =>
   simp only at e
   split at e
   ·injection e with e1 e2;exact⟨e1.symm,rfl⟩
   ·injection e with e1 e2;exact⟨e1.symm,rfl⟩
  |cell=>exact absurd rfl (hnc _ hy)
  |_ =>
   exfalso
   have e2:k=_:=(congrArg Prod.snd e).symm;simp at e2;rcases hk' with z|z<;>rw[z]at e2<;>cases e2
 obtain⟨rfl,rfl⟩:=hfree;have:=all_eq_true.mp hall _ hy;have hin:fs.contains x=true:=by simpa using this
 rw[←hfs]at hin;have hmem:x∈cl.map (·.1):=List.contains_iff_mem.mp hin;cases e:cl.lookup x with
 |some c=>exact⟨c,rfl⟩
 |none =>
  exfalso
  obtain⟨y,hy,ey⟩:=mem_map.mp hmem;have:=List.lookup_eq_none_iff.mp e y hy;rw[ey]at this;simp at this
end
end L2
namespace TK
open PySem L2
abbrev Nd:=TW.Nd Str
def stV:Option Int→V
 |none=>.non
 |some i=>.int i
def vals(n:Nd):List V:=[.int n.num,.int n.par,.str n.nm,stV n.st]
abbrev ZN:=List (Addr×Nd)
def aT(zs:ZN):List V:=(zs.map (·.1)).map V.ref
def nds(zs:ZN):List Nd:=zs.map (·.2)
def At(H:Hp)(zs:ZN):Prop:=∀z∈zs,H z.1=some (.tup (vals z.2))
theorem At.same{H H':Hp}{zs:ZN}(h:At H zs)(s:Same H H'):At H' zs:=λz hz=>s _ _ (h z hz)
theorem bb(zs:ZN):(aT zs).length=zs.length:=by simp[aT]
theorem aH(zs:ZN):(nds zs).length=zs.length:=by simp[nds]
theorem bX{zs:ZN}{i:Nat}{x:V}(h:(aT zs)[i]?=some x):∃z,zs[i]?=some z∧x=.ref z.1:=by
 unfold aT at h;rw[getElem?_map,getElem?_map]at h;cases e:zs[i]? with
 |none=>rw[e]at h;cases h
 |some z=>rw[e]at h;exact⟨z,rfl,(Option.some.inj h).symm⟩
theorem dh{zs:ZN}{i:Nat}{z:Addr×Nd}(h:zs[i]?=some z):(aT zs)[i]?=some (.ref z.1):=by
 unfold aT;rw[getElem?_map,getElem?_map,h];rfl
theorem at0(n:Nd):atI (vals n) 0=some (.int n.num):=rfl
theorem at1(n:Nd):atI (vals n) 1=some (.int n.par):=rfl
theorem at2(n:Nd):atI (vals n) 2=some (.str n.nm):=rfl
theorem at3(n:Nd):atI (vals n) 3=some (stV n.st):=rfl
theorem po{σ:St}(h:σ.length=1):∃a,σ=[a]:=by
 match σ,h with
 |[a],_=>exact⟨a,rfl⟩
theorem aV{n:Nat}(h:n≤1000):n≤sizeLine:=le_of_lt (ay h)
theorem le2:2≤sizeLine:=aV (by decide)
theorem iW{A:Around}{k:Nat}(hr:Room k A):A.units+4<cLine:=lt_of_le_of_lt (Nat.add_le_add_left (by decide:4≤64) _) hr.units
def plK(n:Nd):List Key:=[.inl n.par,.inr n.nm]
theorem fV(zs:List Nd):(zs.map plK).Nodup↔TW.bA zs:=by
 unfold TW.bA Nodup;rw[pairwise_map,pairwise_map];have e:∀a b:Nd,(plK a≠plK b)=((a.par,a.nm)≠(b.par,b.nm)):=λa b=>by
  simp[plK]
 simp only[e]
def ins(zs:ZN)(k:Int):ZN:=zs.filter λz=>decide (z.2.par=k)
theorem jA(zs:ZN)(k:Int):nds (ins zs k)=TW.eL (nds zs) k:=by
 unfold nds ins TW.eL;rw[List.filter_map];rfl
theorem cx(zs:ZN)(z:Addr×Nd)(k:Int):ins (zs++[z]) k=if z.2.par=k then ins zs k++[z]else ins zs k:=by
 unfold ins;rw[List.filter_append]
 by_cases h:z.2.par=k
 ·rw[if_pos h,filter_cons_of_pos (by simp[h])];rfl
 ·rw[if_neg h,filter_cons_of_neg (by simp[h])];simp
theorem nB{zs:ZN}{k:Int}{z:Addr×Nd}(h:z∈ins zs k):z∈zs:=(mem_filter.mp h).1
theorem fW(zs:ZN)(z:Addr×Nd):aT (zs++[z])=aT zs++[.ref z.1]:=by simp[aT]
structure Mem(H0 H:Hp)(d:Addr)(L:Int→Addr)(kvs:List (Key×V))(xs:ZN)(dn:List Int):Prop where
 dict:H d=some (.dK kvs)
 d0:H0 d=none
 len:kvs.length≤xs.length
 val:∀k:Int,aL kvs (Sum.inl k:Key)=if k∈dn∨ins xs k=[]then none else some (.ref (L k))
 at':∀k,k∉dn→ins xs k≠[]→H (L k)=some (.lst (aT (ins xs k)))∧H0 (L k)=none
 inj:∀k k',k∉dn→k'∉dn→ins xs k≠[]→ins xs k'≠[]→L k=L k'→k=k'
 same:Same H0 H
theorem Mem.grow{H0 H H':Hp}{d:Addr}{L:Int→Addr}{kvs:List (Key×V)}{xs:ZN}{dn:List Int}(m:Mem H0 H d L kvs xs dn)(s:Same H H'):Mem H0 H' d L kvs xs dn :=
 ⟨s _ _ m.dict,m.d0,m.len,m.val,λk h1 h2=>⟨s _ _ (m.at' k h1 h2).1,(m.at' k h1 h2).2⟩,m.inj,m.same.trans s⟩
theorem Mem.other{H0 H:Hp}{d p:Addr}{L:Int→Addr}{kvs:List (Key×V)}{xs:ZN}{dn:List Int}{is:List Int}{o:HO}(m:Mem H0 H d L kvs xs dn)(hp:H p=some (.lst (is.map V.int)))(h0:H0 p=none):Mem H0 (upd H p o) d L kvs xs dn:=by
 refine⟨?_,m.d0,m.len,m.val,λk h1 h2=>⟨?_,(m.at' k h1 h2).2⟩,m.inj,aE h0 m.same⟩
 ·rw[af]
  ·exact m.dict
  ·intro e;have:=m.dict;rw[e,hp]at this;cases this
 ·have e1:=(m.at' k h1 h2).1;rw[af]
  ·exact e1
  ·intro e;rw[e,hp]at e1;injection e1 with e1
   injection e1 with e1
   have hne:=h2;cases hk:ins xs k with
   |nil=>exact h2 hk
   |cons a r =>
    rw[hk]at e1;cases is with
    |nil=>simp[aT]at e1
    |cons i r'=>simp[aT]at e1
theorem Mem.start{H0:Hp}{d:Addr}(h:H0 d=none):Mem H0 (upd H0 d (.dK [])) d (λ_=>d) [] [] [] :=
 ⟨ac,h,by simp,λk=>by rw[if_pos (.inr rfl)];rfl,λk _ h=>absurd rfl h,λk k' _ _ h=>absurd rfl h,ag h⟩
theorem Mem.hit{H0 H:Hp}{d:Addr}{L:Int→Addr}{kvs:List (Key×V)}{xs:ZN}{z:Addr×Nd}(m:Mem H0 H d L kvs xs [])(hp:ins xs z.2.par≠[]):
  Mem H0 (upd H (L z.2.par) (.lst (aT (ins xs z.2.par)++[.ref z.1]))) d L kvs (xs++[z]) []:=by
 have e1:=(m.at' z.2.par (by simp) hp);have hd:d≠L z.2.par:=λe=>by
  have:=m.dict;rw[e,e1.1]at this;cases this
 have ne:∀k,ins (xs++[z]) k=[]↔ins xs k=[]:=λk=>by
  rw[cx]
  by_cases h:z.2.par=k
  ·rw[if_pos h];subst h;simp[hp]
  ·rw[if_neg h]
 refine⟨by rw[af hd];exact m.dict,m.d0,by have:=m.len;simp;omega,λk=>?_,λk h1 h2=>?_,λk k' _ _ h2 h3 e=>m.inj k k' (by simp) (by simp) (λh=>h2 ((ne k).mpr h)) (λh=>h3 ((ne k').mpr h)) e,aE e1.2 m.same⟩
 ·rw[m.val k];simp only[ne k]
 ·have h2':ins xs k≠[]:=λh=>h2 ((ne k).mpr h);refine⟨?_,(m.at' k h1 h2').2⟩
  by_cases h:z.2.par=k
  ·subst h;rw[ac,cx,if_pos rfl,fW]
  ·rw[af,cx,if_neg h]
   ·exact(m.at' k h1 h2').1
   ·intro e;exact h (m.inj _ _ (by simp) (by simp) hp h2' e.symm)
theorem Mem.fresh{H0 H:Hp}{d q:Addr}{L:Int→Addr}{kvs:List (Key×V)}{xs:ZN}{z:Addr×Nd}(m:Mem H0 H d L kvs xs [])(hp:ins xs z.2.par=[])(hq:H q=none):
  Mem H0 (upd (upd (upd H q (.lst [])) d (.dK (ee kvs (Sum.inl z.2.par:Key) (.ref q)))) q (.lst ([]++[.ref z.1]))) d (λk=>if k=z.2.par then q else L k) (ee kvs (Sum.inl z.2.par:Key) (.ref q)) (xs++[z]) []:=by
 have hdq:d≠q:=λe=>by
  have:=m.dict;rw[e,hq]at this;cases this
 have lq:∀k,ins xs k≠[]→L k≠q:=λk h e=>by
  have:=(m.at' k (by simp) h).1;rw[e,hq]at this;cases this
 have ld:∀k,ins xs k≠[]→L k≠d:=λk h e=>by
  have:=(m.at' k (by simp) h).1;rw[e,m.dict]at this;cases this
 have q0:H0 q=none:=m.same.free hq;have e2:∀k,k≠z.2.par→ins (xs++[z]) k=ins xs k:=λk h=>by rw[cx,if_neg (λe=>h e.symm)]
 have e3:ins (xs++[z]) z.2.par=[z]:=by rw[cx,if_pos rfl,hp];rfl
 refine⟨by rw[af hdq,ac],m.d0,?_,λk=>?_,λk h1 h2=>?_,λk k' _ _ h2 h3 e=>?_,?_⟩
 ·have h1:=m.len;have h2:=dC kvs (Sum.inl z.2.par:Key) (.ref q);rw[length_append,length_singleton];omega
 ·rw[ll]
  by_cases h:k=z.2.par
  ·subst h;rw[if_pos rfl,if_neg (by rw[e3];simp),if_pos rfl]
  ·rw[if_neg (λe=>h (Sum.inl.inj e)),m.val k,e2 k h,if_neg h]
 ·by_cases h:k=z.2.par
  ·subst h;simp only[if_true];exact⟨by rw[ac,e3];rfl,q0⟩
  ·rw[e2 k h]at h2;simp only[if_neg h];refine⟨?_,(m.at' k h1 h2).2⟩;rw[af (lq k h2),af (ld k h2),af (lq k h2),e2 k h];exact(m.at' k h1 h2).1
 ·by_cases h:k=z.2.par
  ·by_cases h':k'=z.2.par
   ·rw[h,h']
   ·rw[e2 k' h']at h3;simp only[if_pos h,if_neg h']at e;exact absurd e.symm (lq k' h3)
  ·rw[e2 k h]at h2
   by_cases h':k'=z.2.par
   ·simp only[if_neg h,if_pos h']at e;exact absurd e (lq k h2)
   ·rw[e2 k' h']at h3;simp only[if_neg h,if_neg h']at e;exact m.inj k k' (by simp) (by simp) h2 h3 e
 ·exact aE q0 (aE m.d0 (m.same.trans (ag hq)))
theorem kt{κ:Type}[DecidableEq κ](kvs:List (κ×V))(k j:κ):aL (bq kvs k) j=if j=k then none else aL kvs j:=by
 induction kvs with
 |nil=>simp[bq,aL]
 |cons p r ih =>
  by_cases e:p.1=k
  ·rw[jY e,ih]
   by_cases h:j=k
   ·rw[if_pos h,if_pos h]
   ·rw[if_neg h,if_neg h,aA (λz=>h (z.symm.trans e))]
  ·rw[jZ e]
   by_cases h:p.1=j
   ·rw[aG h,if_neg (λz=>e (h.trans z)),aG h]
   ·rw[aA h,ih,aA h]
theorem Mem.drop{H0 H:Hp}{d:Addr}{L:Int→Addr}{kvs:List (Key×V)}{xs:ZN}{dn:List Int}(m:Mem H0 H d L kvs xs dn)(x:Int):Mem H0 (upd H d (.dK (bq kvs (Sum.inl x:Key)))) d L (bq kvs (Sum.inl x:Key)) xs (x::dn):=by
 have ld:∀k,k∉dn→ins xs k≠[]→L k≠d:=λk h0 h e=>by
  have:=(m.at' k h0 h).1;rw[e,m.dict]at this;cases this
 have no:∀k,k∉x::dn→k∉dn:=λk h h'=>h (mem_cons_of_mem _ h');refine⟨ac,m.d0,le_trans (gQ _ _) m.len,λk=>?_,λk h1 h2=>?_,λk k' h0 h1 h2 h3 e=>m.inj k k' (no k h0) (no k' h1) h2 h3 e,aE m.d0 m.same⟩
 ·rw[kt,m.val k]
  by_cases h:k=x
  ·rw[if_pos (by rw[h]),if_pos (.inl (by rw[h];simp))]
  ·rw[if_neg (λe=>h (Sum.inl.inj e))];simp[h]
 ·rw[af (ld k (no k h1) h2)];exact m.at' k (no k h1) h2
theorem Mem.skip{H0 H:Hp}{d:Addr}{L:Int→Addr}{kvs:List (Key×V)}{xs:ZN}{dn:List Int}(m:Mem H0 H d L kvs xs dn){x:Int}(hx:x∈dn∨ins xs x=[]):Mem H0 H d L kvs xs (x::dn):=by
 have no:∀k,k∉x::dn→k∉dn:=λk h h'=>h (mem_cons_of_mem _ h');refine⟨m.dict,m.d0,m.len,λk=>?_,λk h1 h2=>m.at' k (no k h1) h2,λk k' h0 h1 h2 h3 e=>m.inj k k' (no k h0) (no k' h1) h2 h3 e,m.same⟩;rw[m.val k]
 by_cases h:k=x
 ·subst h;rw[if_pos hx,if_pos (.inl (by simp))]
 ·simp[h]
theorem lL{Q:VK}{H0 H:Hp}{d q:Addr}{L:Int→Addr}{kvs:List (Key×V)}{zs:ZN}{dn:List Int}{x:Int}(m:Mem H0 H d L kvs zs dn)(hq:H q=some (.lst []))(k:∀hl Hc kvs' hs,Mem H0 Hc d L kvs' zs (x::dn)→Hc hl=some (.lst (aT hs))→nds hs=TW.here (nds zs) dn x→(∀z∈hs,z∈zs)→(∀p,p≠d→Hc p=H p)→(hs=[]→hl=q)→Q (.ref hl) Hc):
  ∃kvs k,H d=some (.dK kvs)∧V.int x=kV k∧(∀v,aL kvs k=some v→Q v (upd H d (.dK (bq kvs k))))∧(aL kvs k=none→Q (.ref q) H):=by
 refine⟨kvs,.inl x,m.dict,rfl,λv hv=>?_,λhn=>?_⟩
 ·rw[m.val x]at hv
  by_cases h:x∈dn∨ins zs x=[]
  ·rw[if_pos h]at hv;cases hv
  ·rw[if_neg h]at hv;have h1:x∉dn:=λz=>h (.inl z);have h2:ins zs x≠[]:=λz=>h (.inr z);cases hv;have a:=(m.at' x h1 h2).1;have ld:L x≠d:=λe=>by rw[e,m.dict]at a;cases a
   refine k (L x) _ _ (ins zs x) (m.drop x) (by rw[af ld];exact a) ?_ (λz hz=>nB hz) (λp hp=>af hp) (λe=>absurd e h2);rw[jA];unfold TW.here;rw[if_neg h1]
 ·rw[m.val x]at hn
  by_cases h:x∈dn∨ins zs x=[]
  ·refine k q _ _ [] (m.skip h) hq ?_ (by simp) (λp _=>rfl) (λ_=>rfl);unfold TW.here
   by_cases h1:x∈dn
   ·rw[if_pos h1];rfl
   ·rw[if_neg h1];rcases h with h|h
    ·exact absurd h h1
    ·rw[←jA,h]
  ·rw[if_neg h]at hn;cases hn
theorem jB{H:Hp}{p hl:Addr}{hs:ZN}{is:List Int}(hp:H p=some (.lst (is.map V.int)))(h:H hl=some (.lst (aT hs)))(hne:hs≠[]):hl≠p:=by
 intro e;rw[e,hp]at h;injection h with h
 injection h with h
 cases hs with
 |nil=>exact hne rfl
 |cons a r =>
  cases is with
  |nil=>simp[aT]at h
  |cons i r'=>simp[aT]at h
def di(H:Hp)(p:Addr):Nat:=match H p with
 |some (.lst xs)=>xs.length
 |_=>0
theorem bY{H:Hp}{p:Addr}{xs:List V}(h:H p=some (.lst xs)):di H p=xs.length:=by unfold di;rw[h]
def bZ(l:List Nd):List V:=(l.map (·.num)).map V.int
def bJ(K:PySem.W.Frag)(H:Hp)(a:Addr):Prop:=∃ns:List Int,SqL K H a (ns.map V.int)
theorem bJ.same{K:PySem.W.Frag}{H H':Hp}{a:Addr}(h:bJ K H a)(s:Same H H'):bJ K H' a:=let⟨ns,e⟩:=h;⟨ns,s.seq e⟩
theorem ia{ns:List Int}{i:Int}(h0:0≤i)(h1:i<ns.length):∃j,atI (ns.map V.int) i=some (.int j):=by
 refine⟨ns[i.toNat]'(by omega),?_⟩;have:=cV (xs:=ns.map V.int) (j:=i.toNat) (v:=.int (ns[i.toNat]'(by omega))) (by rw[getElem?_map,getElem?_eq_getElem (by omega)];rfl);rw[show((i.toNat:Nat):Int)=i by omega]at this;exact this
def Has(P:Program)(w:World)(K:PySem.W.Frag)(mg:Str→Option Value)(base:Heap)(k:Nat)(x:Str)(ps:List Str)(sp:Sp):Prop:=∃f fd,FnOk P w K mg base CX0 k f fd ps sp∧mg x=some (.ref f)∧keepIn K (.ref f)=true∧bx K fd ps []
def qE(n:Nd):Prop:=1≤n.num∧n.num≤12∧(n.nm="a"∨n.nm="b"∨n.nm="c"∨n.nm="abcde")∧(n.st=none∨n.st=some 0∨n.st=some 1∨n.st=some 2∨n.st=some 999)
structure Bd(zs:ZN)(lf:List Int):Prop where
 built:TW.Built (nds zs)
 nd:((nds zs).map (·.num)++lf).Nodup
 rng:∀x∈lf,1≤x∧x≤12
 own:TW.bA (nds zs)
 ok:∀z∈zs,qE z.2
theorem Bd.skip{zs:ZN}{lf:List Int}(b:Bd zs lf)(i:Nat):Bd zs (lf.eraseIdx i) :=
 ⟨b.built,Nodup.sublist (Sublist.append (Sublist.refl _) (List.eraseIdx_sublist lf i)) b.nd,λx hx=>b.rng x ((List.eraseIdx_sublist lf i).mem hx),b.own,b.ok⟩
theorem eM:∀{l:List Int}{i:Nat}{x:Int},l[i]?=some x→(x::l.eraseIdx i).Perm l
 |a::l,0,x,h=>by
  have:a=x:=by simpa using h
  subst this;exact List.Perm.refl _
 |a::l,i+1,x,h=>by
  have h':l[i]?=some x:=by simpa using h
  exact(List.Perm.swap a x _).trans (List.Perm.cons a (eM h'))
 |[],i,x,h=>by simp at h
theorem Bd.add{zs:ZN}{lf:List Int}{i:Nat}{q:Addr}{n:Nd}(b:Bd zs lf)(hi:lf[i]?=some n.num)(hp:n.par∈(0:Int)::TW.au (nds zs))(ho:∀z∈zs,¬(z.2.par=n.par∧z.2.nm=n.nm))(h3:n.nm="a"∨n.nm="b"∨n.nm="c"∨n.nm="abcde")(h4:n.st=none∨n.st=some 0∨n.st=some 1∨n.st=some 2∨n.st=some 999):Bd (zs++[(q,n)]) (lf.eraseIdx i):=by
 have e:nds (zs++[(q,n)])=nds zs++[n]:=by simp[nds]
 have pm:=eM hi;refine⟨?_,?_,λx hx=>b.rng x ((List.eraseIdx_sublist lf i).mem hx),?_,λz hz=>?_⟩
 ·rw[e];refine .snoc b.built ?_;rcases mem_cons.mp hp with h|h
  ·exact .inl h
  ·exact .inr (TW.dG.mp h)
 ·rw[e,map_append,append_assoc];exact((List.Perm.append_left _ pm).nodup_iff).mpr b.nd
 ·rw[e];unfold TW.bA;rw[map_append,List.nodup_append];refine⟨b.own,by simp,λx hx y hy=>?_⟩;have ey:y=(n.par,n.nm):=by simpa using hy
  subst ey;obtain⟨m,hm,rfl⟩:=mem_map.mp hx;obtain⟨z,hz,rfl⟩:=mem_map.mp hm;intro h;injection h with h1 h2
  exact ho z hz ⟨h1,h2⟩
 ·rcases mem_append.mp hz with h|h
  ·exact b.ok z h
  ·have ez:z=(q,n):=by simpa using h
   subst ez;have:=b.rng n.num (mem_of_getElem? hi);exact⟨this.1,this.2,h3,h4⟩
def tp(z:Addr×Nd):eX:=(z.1,z.2.num,[.int z.2.par,.str z.2.nm,stV z.2.st])
def un(t:eX):Addr×Nd:=(t.1,match t.2.2 with
 |[.int p,.str s,.int i]=>⟨t.2.1,p,s,some i⟩
 |[.int p,.str s,_]=>⟨t.2.1,p,s,none⟩
 | _=>⟨0,0,"",none⟩)
theorem oo(z:Addr×Nd):un (tp z)=z:=by
 obtain⟨a,⟨n,p,s,st⟩⟩:=z;cases st<;>rfl
theorem back{zs:ZN}{ts:List eX}(h:ts.Perm (zs.map tp)):(ts.map un).Perm zs∧(ts.map un).map tp=ts:=by
 constructor
 ·have:=h.map un;rw[map_map]at this;have e:zs.map (un∘tp)=zs.map id:=map_congr_left λz _=>oo z;rw[e,List.map_id]at this;exact this
 ·rw[map_map,map_congr_left (g:=id)]
  ·simp
  ·intro t ht;obtain⟨z,_,rfl⟩:=mem_map.mp (h.mem_iff.mp ht);show tp (un (tp z))=tp z;rw[oo]
theorem jC(zs:ZN):((zs.map tp).map (·.1)).map V.ref=aT zs:=by
 unfold aT;simp only[map_map];rfl
theorem pq{n:Nat}{j:Int}(h0:0≤j)(h1:j<n):seqIndex? j n=some j.toNat:=(jp (by unfold ixN;rw[if_pos h0,if_pos h1])).1
theorem fX:∀(l:List Int)(i:Nat),(l.map V.int).eraseIdx i=(l.eraseIdx i).map V.int
 |[],i=>by simp
 |a::l,0=>rfl
 |a::l,i+1=>by
  show V.int a::(l.map V.int).eraseIdx i=V.int a::(l.eraseIdx i).map V.int;rw[fX l i]
theorem nD{ns:List Int}{i:Int}(h0:0≤i)(h1:i<ns.length):∃x∈ns,atI (ns.map V.int) i=some (.int x):=by
 refine⟨ns[i.toNat]'(by omega),getElem_mem _,?_⟩;have:=cV (xs:=ns.map V.int) (j:=i.toNat) (v:=.int (ns[i.toNat]'(by omega))) (by rw[getElem?_map,getElem?_eq_getElem (by omega)];rfl);rw[show((i.toNat:Nat):Int)=i by omega]at this;exact this
theorem nE{j:Int}(h0:0≤j)(h1:j<4):∃x:Str,(x="a"∨x="b"∨x="c"∨x="abcde")∧atI [V.str "a",.str "b",.str "c",.str "abcde"] j=some (.str x):=by
 obtain rfl|rfl|rfl|rfl:j=0∨j=1∨j=2∨j=3:=by omega
 ·exact⟨"a",.inl rfl,rfl⟩
 ·exact⟨"b",.inr (.inl rfl),rfl⟩
 ·exact⟨"c",.inr (.inr (.inl rfl)),rfl⟩
 ·exact⟨"abcde",.inr (.inr (.inr rfl)),rfl⟩
theorem nF{j:Int}(h0:0≤j)(h1:j<4):∃i:Int,(some i=none∨some i=some (0:Int)∨some i=some 1∨some i=some 2∨some i=some 999)∧atI [V.int 0,.int 1,.int 2,.int 999] j=some (.int i):=by
 obtain rfl|rfl|rfl|rfl:j=0∨j=1∨j=2∨j=3:=by omega
 ·exact⟨0,.inr (.inl rfl),rfl⟩
 ·exact⟨1,.inr (.inr (.inl rfl)),rfl⟩
 ·exact⟨2,.inr (.inr (.inr (.inl rfl))),rfl⟩
 ·exact⟨999,.inr (.inr (.inr (.inr rfl))),rfl⟩
structure Sta(H:Hp)(pl pf pn:Addr)(Hx:Hp)(lf fs:List Int)(zs:ZN):Prop where
 same:Same H Hx
 l:Hx pl=some (.lst (lf.map V.int))
 f:Hx pf=some (.lst (fs.map V.int))
 n:Hx pn=some (.lst (aT zs))
 nd:At Hx zs
 l0:H pl=none
 f0:H pf=none
 n0:H pn=none
 lf':pl≠pf
 ln':pl≠pn
 fn':pf≠pn
theorem Sta.grow{H Hx Hy:Hp}{pl pf pn:Addr}{lf fs:List Int}{zs:ZN}(a:Sta H pl pf pn Hx lf fs zs)(s:Same Hx Hy):Sta H pl pf pn Hy lf fs zs :=
 ⟨a.same.trans s,s _ _ a.l,s _ _ a.f,s _ _ a.n,a.nd.same s,a.l0,a.f0,a.n0,a.lf',a.ln',a.fn'⟩
theorem At.over{H:Hp}{p:Addr}{xs:List V}{o:HO}{zs:ZN}(h:At H zs)(hp:H p=some (.lst xs)):At (upd H p o) zs:=λz hz=>by
 rw[af]
 ·exact h z hz
 ·intro e;have:=h z hz;rw[e,hp]at this;cases this
theorem Sta.pop{H Hx:Hp}{pl pf pn:Addr}{lf fs:List Int}{zs:ZN}(a:Sta H pl pf pn Hx lf fs zs)(lf2:List Int):Sta H pl pf pn (upd Hx pl (.lst (lf2.map V.int))) lf2 fs zs :=
 ⟨aE a.l0 a.same,ac,by rw[af (symm a.lf')];exact a.f,by rw[af (symm a.ln')];exact a.n,a.nd.over a.l,a.l0,a.f0,a.n0,a.lf',a.ln',a.fn'⟩
theorem Sta.fold{H Hx:Hp}{pl pf pn:Addr}{lf fs:List Int}{zs:ZN}(a:Sta H pl pf pn Hx lf fs zs)(x:Int):Sta H pl pf pn (upd Hx pf (.lst (fs.map V.int++[.int x]))) lf (fs++[x]) zs :=
 ⟨aE a.f0 a.same,by rw[af a.lf'];exact a.l,by rw[ac];simp,by rw[af (symm a.fn')];exact a.n,a.nd.over a.f,a.l0,a.f0,a.n0,a.lf',a.ln',a.fn'⟩
theorem Sta.node{H Hx:Hp}{pl pf pn q:Addr}{lf fs:List Int}{zs:ZN}{n:Nd}(a:Sta H pl pf pn Hx lf fs zs)(hq:Hx q=some (.tup (vals n))):Sta H pl pf pn (upd Hx pn (.lst (aT zs++[.ref q]))) lf fs (zs++[(q,n)]) :=
 ⟨aE a.n0 a.same,by rw[af a.ln'];exact a.l,by rw[af a.fn'];exact a.f,by rw[ac,fW],(λz hz=>by
  rcases mem_append.mp hz with h|h
  ·exact a.nd.over a.n z h
  ·have ez:z=(q,n):=by simpa using h
   subst ez;rw[af]
   ·exact hq
   ·intro e;have e':q=pn:=e;rw[e',a.n]at hq;cases hq),a.l0,a.f0,a.n0,a.lf',a.ln',a.fn'⟩
def lf0(m:Int):List Int:=(List.range (m+4-1).toNat).map λk=>(1:Int)+(k:Nat)
theorem nG{m:Int}(h:0≤m):((lf0 m).length:Int)=m+3:=by unfold lf0;rw[length_map,length_range];omega
theorem nH{m:Int}(h:m≤9):∀x∈lf0 m,1≤x∧x≤12:=λx hx=>by
 unfold lf0 at hx;obtain⟨k,hk,rfl⟩:=mem_map.mp hx;have:=mem_range.mp hk;omega
theorem pr(m:Int):(lf0 m).Nodup:=by
 unfold lf0 Nodup;rw[pairwise_map];exact List.nodup_range.imp λh e=>h (by omega)
theorem Bd.zero{m:Int}(h:m≤9):Bd [] (lf0 m):=⟨.nil,by show(([]:List Int)++lf0 m).Nodup;rw[nil_append];exact pr m,nH h,by unfold TW.bA nds;simp,by simp⟩
def cj(zs:ZN):List (Key×V):=zs.map λz=>((Sum.inl z.2.num:Key),V.ref z.1)
theorem gC{zs:ZN}(hn:((nds zs).map (·.num)).Nodup){z:Addr×Nd}(hz:z∈zs):aL (cj zs) (Sum.inl z.2.num:Key)=some (.ref z.1):=by
 induction zs with
 |nil=>simp at hz
 |cons y zs ih =>
  have hn':y.2.num∉(nds zs).map (·.num)∧((nds zs).map (·.num)).Nodup:=by simpa [nds]using hn
  show aL (((Sum.inl y.2.num:Key),V.ref y.1)::cj zs) _=_;rcases mem_cons.mp hz with e|hz'
  ·subst e;exact aG rfl
  ·rw[aA]
   ·exact ih hn'.2 hz'
   ·intro e;injection e with e
    exact hn'.1 (mem_map.mpr ⟨z.2,mem_map.mpr ⟨z,hz',rfl⟩,e.symm⟩)
theorem iX{zs:ZN}{k:Int}(h:∀z∈zs,z.2.num≠k):aL (cj zs) (Sum.inl k:Key)=none:=by
 induction zs with
 |nil=>rfl
 |cons y zs ih =>
  show aL (((Sum.inl y.2.num:Key),V.ref y.1)::cj zs) _=_;rw[aA]
  ·exact ih λz hz=>h z (mem_cons_of_mem _ hz)
  ·intro e;injection e with e
   exact h y (by simp) e
def eN(H:Hp)(d:Addr)(zs:ZN):Prop:=∃o,H d=some (.frz o (.dK (cj zs)))
theorem eN.same{H H':Hp}{d:Addr}{zs:ZN}(h:eN H d zs)(s:Same H H'):eN H' d zs:=let⟨o,e⟩:=h;⟨o,s _ _ e⟩
theorem eN.get{H:Hp}{d:Addr}{zs:ZN}(h:eN H d zs)(hn:((nds zs).map (·.num)).Nodup){z:Addr×Nd}(hz:z∈zs):gq H d (.int z.2.num) (some (.ref z.1)):=by
 obtain⟨o,e⟩:=h;exact .inl ⟨cj zs,Sum.inl z.2.num,.inr ⟨o,e⟩,rfl,(gC hn hz).symm⟩
theorem eN.not{H:Hp}{d:Addr}{zs:ZN}(h:eN H d zs){k:Int}(hk:∀z∈zs,z.2.num≠k):gq H d (.int k) none:=by
 obtain⟨o,e⟩:=h;exact .inl ⟨cj zs,Sum.inl k,.inr ⟨o,e⟩,rfl,(iX hk).symm⟩
theorem bg{ns:List Nd}(T:TW.Tree1 ns):(ns.map (·.num)).Nodup:=by
 have h:=T.rise;unfold TW.lI at h;unfold Nodup;rw[pairwise_map];exact h.imp λh e=>by omega
theorem nI{ys:List V}{zs:ZN}{H:Hp}{p:Addr}{g:Addr×Nd→List V}(hlen:ys.length=zs.length)(h:∀(i:Nat) y,ys[i]?=some y→∃q z,zs[i]?=some z∧y=.ref q∧q≠p∧H q=some (.tup (g z))):
  ∃as:List (Addr×(Addr×Nd)),as.map (·.2)=zs∧ys=(as.map (·.1)).map V.ref∧∀a∈as,a.1≠p∧H a.1=some (.tup (g a.2)):=by
 induction ys generalizing zs with
 |nil =>
  have:zs=[]:=length_eq_zero_iff.mp hlen.symm;subst this;exact⟨[],rfl,rfl,by simp⟩
 |cons y ys ih =>
  cases zs with
  |nil=>simp at hlen
  |cons z zs =>
   obtain⟨as,e1,e2,e3⟩:=ih (zs:=zs) (by simpa using hlen) λi x hx=>by simpa using h (i+1) x (by simpa using hx)
   obtain⟨q,z',f1,f2,f3,f4⟩:=h 0 y rfl;have:z=z':=by simpa using f1
   subst this;refine⟨(q,z)::as,by simp[e1],by simp[e2,f2],λa ha=>?_⟩;rcases mem_cons.mp ha with rfl|ha
   ·exact⟨f3,f4⟩
   ·exact e3 a ha
theorem ib{κ:Type}[DecidableEq κ]{kvs:List (κ×V)}(hn:(kvs.map (·.1)).Nodup){k:κ}{v:V}(h:(k,v)∈kvs):aL kvs k=some v:=by
 induction kvs with
 |nil=>simp at h
 |cons y kvs ih =>
  have hn':y.1∉kvs.map (·.1)∧(kvs.map (·.1)).Nodup:=by simpa using hn
  rcases mem_cons.mp h with e|h'
  ·subst e;exact aG rfl
  ·rw[aA]
   ·exact ih hn'.2 h'
   ·intro e;exact hn'.1 (mem_map.mpr ⟨_,h',e.symm⟩)
theorem nJ{κ:Type}[DecidableEq κ]{kvs:List (κ×V)}{k:κ}(h:k∉kvs.map (·.1)):aL kvs k=none:=by
 induction kvs with
 |nil=>rfl
 |cons y kvs ih =>
  have h':¬k=y.1∧k∉kvs.map (·.1):=by simpa using h
  rw[aA (λe=>h'.1 e.symm)];exact ih h'.2
theorem dQ{zs:ZN}{k:Int}{q:List Str}(T:TW.Tree1 (nds zs))(h:TW.PathTo (nds zs) k q)(hk:k≠0):∃z∈zs,z.2.num=k∧∃q',q=q'++[z.2.nm]∧TW.PathTo (nds zs) z.2.par q':=by
 cases h with
 |top=>exact absurd rfl hk
 |@node n q' hm hq' =>
  obtain⟨z,hz,rfl⟩:=mem_map.mp hm;exact⟨z,hz,rfl,q',rfl,hq'⟩
def eY(P:Program)(w:World)(K:PySem.W.Frag)(mg:Str→Option Value)(base:Heap)(k:Nat)(x:Str)(ps:List Str)(sp:Sp):Prop:=∃f fd,FnOk P w K mg base (CX1 P w) k f fd ps sp∧mg x=some (.ref f)∧keepIn K (.ref f)=true∧bx K fd ps []
structure Tre(H:Hp)(t:Addr)(zs:ZN):Prop where
 tup:H t=some (.tup (aT zs))
 nod:At H zs
 tr:TW.Tree1 (nds zs)
 len:zs.length≤30
theorem Tre.same{H H':Hp}{t:Addr}{zs:ZN}(h:Tre H t zs)(s:Same H H'):Tre H' t zs:=⟨s _ _ h.tup,h.nod.same s,h.tr,h.len⟩
theorem ku{ns:List Nd}(T:TW.Tree1 ns){f:Int}{dn:List Int}{fd:List Nd}(wk:TW.Walk ns f dn fd []):(fd.map (·.num)).Nodup:=by
 have h:=bg T;have:(fd.map (·.num)).Perm ((ns.filter (TW.cm dn)).map (·.num)):=wk.perm.map _;exact this.nodup_iff.mpr (h.sublist (List.filter_sublist.map _))
theorem _root_.L2.Same.rd{H H':Hp}(s:Same H H'){a:Addr}{u:HO}(r:Rd H a u):Rd H' a u:=by
 rcases r with r|⟨o,r⟩
 ·exact .inl (s _ _ r)
 ·exact .inr ⟨o,s _ _ r⟩
def dH(as:List (Addr×(Addr×Nd))):List (Key×V):=as.map λa=>((Sum.inl a.2.2.num:Key),V.ref a.1)
def cy(n:Nd):List V:=[.int n.par,.str n.nm,stV n.st]
structure Book(H:Hp)(d:Addr)(as:List (Addr×(Addr×Nd)))(zs:ZN):Prop where
 dict:Rd H d (.dK (dH as))
 of:as.map (·.2)=zs
 at':∀a∈as,H a.1=some (.tup (cy a.2.2))
theorem Book.same{H H':Hp}{d:Addr}{as:List (Addr×(Addr×Nd))}{zs:ZN}(b:Book H d as zs)(s:Same H H'):Book H' d as zs:=⟨s.rd b.dict,b.of,λa ha=>s _ _ (b.at' a ha)⟩
theorem eO{as:List (Addr×(Addr×Nd))}{zs:ZN}(h:as.map (·.2)=zs):(dH as).map (·.1)=((nds zs).map (·.num)).map (Sum.inl:Int→Key):=by
 rw[←h];unfold dH nds;simp only[map_map];rfl
theorem lM{as:List (Addr×(Addr×Nd))}{zs:ZN}(h:as.map (·.2)=zs)(hn:((nds zs).map (·.num)).Nodup):((dH as).map (·.1)).Nodup:=by
 rw[eO h];unfold Nodup at hn⊢;rw[pairwise_map];exact hn.imp λh e=>h (by injection e)
theorem Book.get{H:Hp}{d:Addr}{as:List (Addr×(Addr×Nd))}{zs:ZN}(b:Book H d as zs)(hn:((nds zs).map (·.num)).Nodup){z:Addr×Nd}(hz:z∈zs):∃q,gq H d (.int z.2.num) (some (.ref q))∧H q=some (.tup (cy z.2)):=by
 have:z∈as.map (·.2):=by rw[b.of];exact hz
 obtain⟨a,ha,rfl⟩:=mem_map.mp this;refine⟨a.1,.inl ⟨dH as,Sum.inl a.2.2.num,b.dict,rfl,?_⟩,b.at' a ha⟩;exact(ib (lM b.of hn) (mem_map.mpr ⟨a,ha,rfl⟩)).symm
def eZ(ns:List Nd)(k:Int):Nat:=open Classical in if h:∃p,TW.PathTo ns k p then (Classical.choose h).length else 0
theorem dR{ns:List Nd}(T:TW.Tree1 ns){k:Int}{p:List Str}(h:TW.PathTo ns k p):eZ ns k=p.length:=by
 unfold eZ;have hx:∃p,TW.PathTo ns k p:=⟨p,h⟩;rw[dif_pos hx];rw[(Classical.choose_spec hx).uniq T h]
theorem qF(n:Nd):atI (cy n) 0=some (.int n.par):=rfl
theorem rp(n:Nd):atI (cy n) 1=some (.str n.nm):=rfl
abbrev qG(x:Str)(mg:Str→Option Value)(base:Heap)(C:Addr):Prop:=PyProof.Rows.OwnCls x C bmV "ValueError.__new__" mg base
theorem lN(zs:ZN):zs.map (λz=>V.ref z.1)=aT zs:=by simp[aT]
theorem gD{zs:ZN}{z:Addr×Nd}(h:z∈zs):z.2∈nds zs:=mem_map.mpr ⟨z,h,rfl⟩
theorem lO{zs:ZN}{n:Nd}(h:n∈nds zs):∃z∈zs,z.2=n:=mem_map.mp h
def top(i:Nat):Stmt:=PySem.Challenge.pw_treewatch_k04_whole_meetings.main.body.getD i (.Pass ⟨0,0,0,0⟩)
abbrev px:Stmt:=top 6
abbrev pA:Stmt:=top 7
abbrev pB:Stmt:=top 8
abbrev pC:Stmt:=top 9
abbrev pD:Stmt:=top 10
abbrev pE:Stmt:=top 11
abbrev lP:Stmt:=top 12
abbrev pF:Stmt:=top 13
abbrev cM:Stmt:=top 15
abbrev aY:Stmt:=top 16
abbrev bE:Stmt:=top 17
abbrev dy:Stmt:=top 18
abbrev lQ:Stmt:=top 20
abbrev lR:Stmt:=top 21
abbrev dz:Stmt:=top 22
abbrev lS:Stmt:=top 23
abbrev iY:Stmt:=top 24
abbrev iZ:Stmt:=top 25
abbrev cN:Stmt:=top 26
structure Txt(mg:Str→Option Value):Prop where
 isin:mg "isinstance"=none
 dict:mg "dict"=none
 len:mg "len"=none
 tuple:mg "tuple"=none
 list:mg "list"=none
 range:mg "range"=none
 sorted:mg "sorted"=none
 reversed:mg "reversed"=none
 ValueError:mg "ValueError"=none
 str:mg "str"=none
 set:mg "set"=none
 max:mg "max"=none
 min:mg "min"=none
 sum:mg "sum"=none
 zip:mg "zip"=none
 enumerate:mg "enumerate"=none
 all:mg "all"=none
 int:mg "int"=none
 bool:mg "bool"=none
 top:∃t,mg "TOP"=some (.int 0 t)
section
variable{P:Program}{w:World}{K:PySem.W.Frag}{mg:Str→Option Value}{base:Heap}
def jD:Sp:=λvs H Q _=>∃t f zs,vs=[.ref t,.int f]∧H t=some (.tup (aT zs))∧At H zs∧zs.length≤100∧∀fd dn l H',TW.Walk (nds zs) f dn fd []→H' l=some (.lst (bZ fd))→Same H H'→Q (.ref l) H'
theorem eP:FnScope ["nodes","folder","members","node","found","pending","here"] ["nodes","folder"] (ai px):=fsc
theorem pG{f:Addr}{fd:FuncData}(F:Fun K "numbers_inside" "numbers_inside" px f fd)(T:Txt mg):FnOk P w K mg base CX0 1 f fd ["nodes","folder"] jD:=by
 refine F.ok eP (λvs H Q E h=>?_) (λcdv A outer s H vs Q E hr h=>?_)
 ·obtain⟨t,f,zs,rfl,_⟩:=h;rfl
 ·obtain⟨t,f,zs,rfl,ht,hA,hl,k⟩:=h;refine⟨_,ah (ar (i:=2) eP.nd rfl (Or.inl rfl) lp)
   (ah (cr PassesOwn.never rfl (dt (pv 0)) (aJ (i:=3) eP.nd rfl (Or.inl rfl)) (ak (bf (cY plainAttrs_list PySem.F.slot_list_append PySem.F.type_list_append aQ
     (cY plainAttrs_dict PySem.F.slot_dict_setdefault PySem.F.type_dict_setdefault eV (pv 2) (aa (aP aS (pv 3) aj (λ_ _=>rfl)) (aa (aX ae) ae))) (aa (pv 3) ae)))))
   (ah (ar (i:=4) eP.nd rfl (Or.inl rfl) (aX ae))
   (ah (ar (i:=5) eP.nd rfl (Or.inl rfl) (aX (aa (pv 1) ae)))
   (ah (cR PassesOwn.never (kX (pv 5) (λ_=>rfl))
    (ah (ar (i:=6) eP.nd rfl (Or.inl rfl) (lr (pv 2) (oP plainAttrs_list slot_list_pop type_list_pop oQ (pv 5)) (aX ae) ⟨rfl,rfl,rfl,rfl⟩))
    (ak (cr PassesOwn.never rfl (cS (pv 6)) (aJ (i:=3) eP.nd rfl (Or.inl rfl))
     (ah (bf (cY plainAttrs_list PySem.F.slot_list_append PySem.F.type_list_append aQ (pv 4) (aa (aP aS (pv 3) aj (λ_ _=>rfl)) ae)))
     (ak (bi (aw kW (aP aS (pv 3) aj (λ_ _=>rfl)) gc (aF _)) (ak (bf (cY plainAttrs_list PySem.F.slot_list_append PySem.F.type_list_append aQ (pv 5) (aa (aP aS (pv 3) aj (λ_ _=>rfl)) ae)))) aI)))))))
   (ak (aM (pv 4))))))),?_⟩
  refine λd hd=>?_;have z100:∀{n:Nat},n≤100→n<sizeLine:=λh=>ay (by omega);refine⟨_,rfl,t,rfl,⟨_,SqT.of (bj hd ht)⟩,jh (xs:=aT zs) (λi σ H'=>∃L kvs on,σ=[some (.ref t),some (.int f),some (.ref d),on,none,none,none]∧Mem H H' d L kvs (zs.take i) [])
   ⟨_,_,_,rfl,Mem.start hd⟩ (λi σ H' _ h=>?_) (λi x σ H' hx h=>?_) (λσ H' h=>?_)⟩
  ·obtain⟨_,_,_,_,m⟩:=h;exact SqT.of (m.same _ _ ht)
  ·obtain⟨L,kvs,on,rfl,m⟩:=h;obtain⟨z,gz,rfl⟩:=bX hx;have mz:=mem_of_getElem? gz;have ez:zs.take (i+1)=zs.take i++[z]:=by rw[take_succ,gz];rfl
   have hkl:kvs.length≤100:=by have:=m.len;rw[length_take]at this;omega
   refine⟨_,rfl,.inr (.inr (.inl ⟨rfl,.inl ⟨_,m.dict⟩⟩)),_,rfl,z.1,_,_,_,rfl,rfl,SqT.of (m.same _ _ (hA z mz)),at1 z.2,zero_le _,λq hq=>?_⟩;have m':=m.grow (ag (o:=.lst []) hq);refine⟨d,kvs,.inl z.2.par,.ref q,rfl,rfl,m'.dict,z100 hkl,λv hv=>?_,λhn=>?_⟩
   ·rw[m.val]at hv
    by_cases h:z.2.par∈([]:List Int)∨ins (zs.take i) z.2.par=[]
    ·rw[if_pos h]at hv;cases hv
    ·rw[if_neg h]at hv;cases hv;have h2:ins (zs.take i) z.2.par≠[]:=λz=>h (.inr z);have a:=(m'.at' z.2.par (by simp) h2).1;refine⟨.inl ⟨rfl,_,SqL.of a⟩,_,rfl,_,_,_,rfl,rfl,a,?_,?_⟩
     ·refine z100 ?_;rw[bb];exact le_trans (Sublist.length_le (Sublist.trans List.filter_sublist (List.take_sublist _ _))) hl
     ·refine⟨L,kvs,_,rfl,?_⟩;rw[ez];exact m'.hit h2
   ·rw[m.val]at hn
    by_cases h:z.2.par∈([]:List Int)∨ins (zs.take i) z.2.par=[]
    ·have h2:ins (zs.take i) z.2.par=[]:=h.resolve_left (by simp);have hqd:q≠d:=λe=>by rw[e,m.dict]at hq;cases hq
     have a:upd (upd H' q (.lst [])) d (.dK (ee kvs (Sum.inl z.2.par:Key) (.ref q))) q=some (.lst []):=by rw[af hqd];exact ac
     refine⟨.inl ⟨rfl,_,SqL.of a⟩,_,rfl,q,[],_,rfl,rfl,a,z100 (zero_le _),?_⟩;have fr:=m.fresh (z:=z) h2 hq;rw[←ez]at fr;exact⟨_,_,_,rfl,fr⟩
    ·rw[if_neg h]at hn;cases hn
  ·obtain⟨L,kvs,on,rfl,m⟩:=h;rw[bb,take_length]at m;refine⟨zero_le _,λpf hpf=>⟨_,rfl,aV (by simp),λpp hpp=>?_⟩⟩;have m1:=(m.grow (ag (o:=.lst []) hpf)).grow (ag (o:=.lst [.int f]) hpp);have hpf0:H pf=none:=m.same.free hpf;have hne:pp≠pf:=λe=>by rw[e,ac]at hpp;cases hpp
   have hpp0:H pp=none:=by rw[af hne]at hpp;exact m.same.free hpp
   dsimp only[bp,mE];refine cT (λσ H'=>∃L kvs dn fd pd on oh,σ=[some (.ref t),some (.int f),some (.ref d),on,some (.ref pf),some (.ref pp),oh]∧pd.length≤fd.length+1∧Mem H H' d L kvs zs dn∧TW.Walk (nds zs) f dn fd pd∧H' pf=some (.lst (bZ fd))∧H' pp=some (.lst (pd.map V.int)))
    (λσ H'=>2*(zs.length-di H' pf)+di H' pp) ⟨L,kvs,[],[],[f],_,_,rfl,le_refl _,m1,TW.Walk.start _ _,by rw[af (symm hne),ac];rfl,ac⟩ (λσ H' h=>?_) ?_
   ·obtain⟨L,kvs,dn,fd,pd,on,oh,rfl,hpl,m,wk,ef,ep⟩:=h;refine⟨_,rfl,_,.inl ⟨_,SqL.of ep,rfl⟩,?_⟩
    by_cases hpd:pd=[]
    ·subst hpd;exact aW ⟨_,rfl,k fd dn pf H' wk ef m.same⟩
    ·obtain⟨pd',x,rfl⟩:∃pd' x,pd=pd'++[x]:=⟨pd.dropLast,pd.getLast hpd,(List.dropLast_concat_getLast hpd).symm⟩;have et:(!((pd'++[x]).map V.int).isEmpty)=true:=by simp
     rw[if_pos et];have elast:((pd'++[x]).map V.int)[((pd'++[x]).map V.int).length-1]?=some (.int x):=by simp
     have edrop:((pd'++[x]).map V.int).dropLast=pd'.map V.int:=by simp
     refine⟨_,rfl,d,rfl,.inl ⟨_,Rd.of m.dict⟩,_,rfl,.inl ⟨rfl,_,SqL.of ep⟩,pp,_,.int x,rfl,rfl,ep,elast,zero_le _,λq hq=>?_⟩;rw[edrop]at hq⊢;have m2:=(m.other (o:=.lst (pd'.map V.int)) ep hpp0).grow (ag (o:=.lst []) hq);have hqp:q≠pp:=λe=>by rw[e,ac]at hq;cases hq
     have hqf:q≠pf:=λe=>by rw[e,af (symm hne),ef]at hq;cases hq
     refine lL m2 ac λhl Hc kvs' hs m3 ehl eh hsub hkeep hnil=>?_;have df:pf≠d:=λe=>by have:=m.dict;rw[←e,ef]at this;cases this
     have dp:pp≠d:=λe=>by have:=m.dict;rw[←e,ep]at this;cases this
     have ef3:Hc pf=some (.lst (bZ fd)):=by rw[hkeep pf df,af (symm hqf),af (symm hne)];exact ef
     have ep3:Hc pp=some (.lst (pd'.map V.int)):=by rw[hkeep pp dp,af (symm hqp),ac]
     have hlf:hl≠pf:=by
      by_cases h:hs=[]
      ·rw[hnil h];exact hqf
      ·exact jB ef3 ehl h
     have hlp:hl≠pp:=by
      by_cases h:hs=[]
      ·rw[hnil h];exact hqp
      ·exact jB ep3 ehl h
     have wk':=wk.turn;rw[←eh]at wk';have hlen:=wk'.len;rw[length_append,aH,aH]at hlen;rw[length_append,length_singleton]at hpl;refine⟨_,rfl,hl,rfl,⟨_,SqL.of ehl⟩,gK (xs:=aT hs) (λj σ H'=>∃on,σ=[some (.ref t),some (.int f),some (.ref d),on,some (.ref pf),some (.ref pp),some (.ref hl)]∧Mem H H' d L kvs' zs (x::dn)∧H' hl=some (.lst (aT hs)) ∧
      H' pf=some (.lst (bZ (fd++nds (hs.take j))))∧H' pp=some (.lst ((pd'++TW.au (nds (hs.take j))).map V.int))) ⟨_,rfl,m3,ehl,by rw[ef3];simp[nds],by rw[ep3];simp[nds,TW.au]⟩
      (λj σ H' _ h=>?_) (λj y σ H' hy h=>?_) (λσ H' h=>?_)⟩
     ·obtain⟨_,_,_,e,_⟩:=h;exact SqL.of e
     ·obtain⟨on,rfl,m4,e1,e2,e3⟩:=h;obtain⟨z,gz,rfl⟩:=bX hy;have mz:=hsub z (mem_of_getElem? gz);have ez:hs.take (j+1)=hs.take j++[z]:=by rw[take_succ,gz];rfl
      have l1:(bZ (fd++nds (hs.take j))).length≤100:=by
       unfold bZ;rw[length_map,length_map,length_append,aH,length_take];omega
      have l2:((pd'++TW.au (nds (hs.take j))).map V.int).length≤1000:=by
       have:=TW.bH (nds (hs.take j));rw[aH,length_take]at this;rw[length_map,length_append];omega
      have g0:∀{Hx:Hp},Same H Hx→Hx z.1=some (.tup (vals z.2)):=λs=>s _ _ (hA z mz);have e4:bZ (fd++nds (hs.take (j+1)))=bZ (fd++nds (hs.take j))++[.int z.2.num]:=by rw[ez];simp[bZ,nds]
      have m5:Mem H (upd H' pf (.lst (bZ (fd++nds (hs.take j))++[.int z.2.num]))) d L kvs' zs (x::dn):=m4.other e2 hpf0;have e5:(upd H' pf (.lst (bZ (fd++nds (hs.take j))++[.int z.2.num]))) hl=some (.lst (aT hs)):=by rw[af hlf];exact e1
      have e6:(upd H' pf (.lst (bZ (fd++nds (hs.take j))++[.int z.2.num]))) pp=some (.lst ((pd'++TW.au (nds (hs.take j))).map V.int)):=by rw[af hne];exact e3
      refine⟨_,rfl,.inl ⟨rfl,_,SqL.of e2⟩,_,rfl,z.1,_,_,_,rfl,rfl,SqT.of (g0 m4.same),at0 z.2,pf,_,_,rfl,rfl,e2,z100 l1,?_⟩;refine⟨_,rfl,z.1,_,_,_,rfl,rfl,SqT.of (g0 m5.same),at3 z.2,rfl,_,rfl,?_⟩;cases est:z.2.st with
      |none =>
       have e7:TW.au (nds (hs.take (j+1)))=TW.au (nds (hs.take j))++[z.2.num]:=by rw[ez];simp[TW.au,nds,est]
       refine cn ⟨_,rfl,.inl ⟨rfl,_,SqL.of e6⟩,_,rfl,z.1,_,_,_,rfl,rfl,SqT.of (g0 m5.same),at0 z.2,pp,_,_,rfl,rfl,e6,ay l2,?_⟩;refine⟨_,rfl,m5.other e6 hpp0,by rw[af hlp];exact e5,by rw[af (symm hne),ac,e4],?_⟩;rw[ac,e7];simp
      |some i =>
       have e7:TW.au (nds (hs.take (j+1)))=TW.au (nds (hs.take j)):=by rw[ez];simp[TW.au,nds,est]
       refine aW ⟨_,rfl,m5,e5,by rw[ac,e4],?_⟩;rw[e6,e7]
     ·obtain⟨on,rfl,m4,e1,e2,e3⟩:=h;rw[bb,take_length]at e2 e3;refine⟨⟨L,kvs',x::dn,_,_,on,_,rfl,?_,m4,wk',e2,e3⟩,?_⟩
      ·have:=TW.bH (nds hs);rw[aH]at this;rw[length_append,length_append,aH];omega
      show 2*(zs.length-di H' pf)+di H' pp<_;rw[bY e2,bY e3,bY ef,bY ep];have:=TW.bH (nds hs);rw[aH]at this;simp only[bZ,length_map,length_append,aH,length_singleton];omega
   ·rintro σ H Q Q' mo ⟨v,e,k,tv,q⟩;exact⟨v,e,k,tv,mo _ _ q⟩
def ic:Sp:=λvs H Q _=>∃t zs,vs=[.ref t]∧H t=some (.tup (aT zs))∧At H zs∧zs.length≤100∧((nds zs).map (·.num)).Nodup∧∀d H',Same H H'→eN H' d zs→Q (.ref d) H'
theorem qH:FnScope ["tree"] ["tree"] (ai pA):=fsc
theorem pH{f:Addr}{fd:FuncData}(F:Fun K "by_number" "by_number" pA f fd)(T:Txt mg):FnOk P w K mg base CX0 1 f fd ["tree"] ic:=by
 refine F.ok qH (λvs H Q E h=>?_) (λcdv A outer s H vs Q E hr h=>?_)
 ·obtain⟨t,zs,rfl,_⟩:=h;rfl
 ·obtain⟨t,zs,rfl,ht,hA,hl,hnd,k⟩:=h;refine⟨_,ak (aM (aZ (iT rfl) rfl T.dict boot_dict (aa (gU (N:=["node"]) (k:=1) (js:=[]) (g:=bp 0) rfl (eG rfl (by decide +kernel) (by decide +kernel) (by decide +kernel)) rfl (λi j x h=>by simp at h)
   (dt (pv 0)) (λs H fp=>aJ (i:=0) (show(["node"]:List Str).Nodup by decide +kernel) rfl (Or.inl rfl) (Or.inr rfl))
   (λs H fp=>cf (aa (aP (r:=gm K) aS (pv 0) aj (λ_ _=>rfl)) (aa (pv 0) ae)))) ae))),?_⟩
  refine⟨_,rfl,t,rfl,⟨_,SqT.of ht⟩,λp hp=>?_⟩;refine iV (fr:=[]) zs.length (by omega) hp rfl (λi y H'=>∃q z,zs[i]?=some z∧y=.ref q∧q≠p∧H' q=some (.tup [.int z.2.num,.ref z.1])) (λi y H1 H2 h ex=>?_) (λi H' hi s1=>?_) (λH' s1=>?_) ?_ (λi H' x H2 hi s1 hpl hy=>?_) (λys H' s1 hp' hlen hys=>?_)
  ·obtain⟨q,z,e1,e2,e3,e4⟩:=h;exact⟨q,z,e1,e2,e3,ex q _ e3 e4⟩
  ·exact⟨_,_,SqT.of (s1 _ _ ht),dh (getElem?_eq_getElem hi)⟩
  ·exact⟨_,SqT.of (s1 _ _ ht),by rw[bb];exact le_refl _⟩
  ·rintro _ _ _ _ m ⟨v1,b1,p1,xs,i1,v2,c1,c2,c3,c4,v3,b3,hz,q⟩;exact⟨v1,b1,p1,xs,i1,v2,c1,c2,c3,c4,v3,b3,hz,λl hl=>m _ _ (q l hl)⟩
  ·obtain⟨rfl,hx⟩:=hy;obtain⟨z,gz,rfl⟩:=bX (hx _ (SqT.of (s1 _ _ ht)));have mz:=mem_of_getElem? gz;refine⟨rfl,_,rfl,z.1,_,_,_,rfl,rfl,SqT.of (s1 _ _ (hA z mz)),at0 z.2,_,rfl,le2,λq hq=>⟨ag hq,q,z,gz,rfl,eK hpl hq,ac⟩⟩
  ·obtain⟨as,e1,e2,e3⟩:=nI (g:=λz=>[.int z.2.num,.ref z.1]) hlen hys;have e4:as.length=zs.length:=by rw[←e1,length_map]
   have e5:(as.map λa=>((Sum.inl a.2.2.num:Key),V.ref a.2.1))=cj zs:=by rw[←e1];unfold cj;rw[map_map];rfl
   refine⟨p,as.map λa=>(a.1,(Sum.inl a.2.2.num:Key),V.ref a.2.1),rfl,?_,?_,?_,?_,λd o hd=>?_⟩
   ·rw[hp',e2,map_map,map_map,map_map];rfl
   ·intro z hz;obtain⟨a,ha,rfl⟩:=mem_map.mp hz;exact(e3 a ha).2
   ·rw[length_map];omega
   ·rw[map_map];have:(as.map ((λx:Addr×Key×V=>x.2.1)∘λa=>(a.1,(Sum.inl a.2.2.num:Key),V.ref a.2.1)))=((nds zs).map (·.num)).map (Sum.inl:Int→Key):=by
     rw[←e1];unfold nds;simp only[map_map];rfl
    rw[this];unfold Nodup at hnd⊢;rw[pairwise_map];exact hnd.imp λh e=>h (by injection e)
   ·refine k d _ (s1.trans (ag hd)) ⟨o,?_⟩;rw[ac,map_map];exact congrArg (λx=>some (HO.frz o (.dK x))) e5
abbrev lT(mg:Str→Option Value)(base:Heap)(C:Addr):Prop:=PyProof.Rows.OwnCls "NoNode" C bmV "ValueError.__new__" mg base
def ie(C:Addr):Sp:=λvs H Q E=>∃d k zs,vs=[.ref d,.int k]∧eN H d zs∧((nds zs).map (·.num)).Nodup∧0≤k∧k≤60∧(∀z∈zs,z.2.num=k→Q (.ref z.1) H)∧((∀z∈zs,z.2.num≠k)→E (.ref C) none H)
theorem qI:FnScope ["nodes","number"] ["nodes","number"] (ai pB):=fsc
theorem pI{f C:Addr}{fd:FuncData}(F:Fun K "node_of" "node_of" pB f fd)(O:lT mg base C):FnOk P w K mg base (CX1 P w) 1 f fd ["nodes","number"] (ie C):=by
 refine F.okX qI (λvs H Q E h=>?_) (λcdv A outer s H vs Q E hr h=>?_)
 ·obtain⟨d,k,zs,rfl,_⟩:=h;rfl
 ·obtain⟨d,k,zs,rfl,hd,hnd,h0,h1,q1,q2⟩:=h;refine⟨_,ah (bi (oC (jV (dE hr) (pv 1) (pv 0))) (ak (lD lC O hr.hd rfl (qA (pv 1) (by decide +kernel)))) aI) (ak (aM (cA (dE hr) (pv 0) (pv 1) (λ_ _=>rfl)))),?_⟩
  by_cases hk:∀z∈zs,z.2.num≠k
  ·refine⟨_,rfl,_,rfl,d,_,rfl,hd.not hk,_,rfl,?_⟩;exact cn ⟨_,rfl,k,rfl,h0,h1,λy=>⟨aV (show 1≤1000 by decide),q2 hk⟩⟩
  ·obtain⟨z,hz,e⟩:∃z∈zs,z.2.num=k:=by
    by_cases h:∃z∈zs,z.2.num=k
    ·exact h
    ·exact absurd (λz hz e=>h ⟨z,hz,e⟩) hk
   subst e;refine⟨_,rfl,_,rfl,d,_,rfl,hd.get hnd hz,_,rfl,?_⟩;exact aW ⟨_,rfl,_,rfl,d,_,rfl,hd.get hnd hz,q1 z hz rfl⟩
def ig(C:Addr):Sp:=λvs H Q E=>∃t k zs,vs=[.ref t,.int k]∧Tre H t zs∧0≤k∧k≤60 ∧
 ((k=0∨∃z∈zs,z.2.num=k)→∀(ms:List Int)(l:Addr)(H':Hp),Same H H'→ms.Pairwise (λa b:Int=>a<b)→ms.length≤zs.length→(∀x,x∈ms↔∃n∈nds zs,n.num=x∧TW.Reach (nds zs) k n)→H' l=some (.lst (ms.map V.int))→Q (.ref l) H') ∧
 (k≠0→(∀z∈zs,z.2.num≠k)→∀H',Same H H'→E (.ref C) none H')
theorem qJ:FnScope ["tree","number"] ["tree","number"] (ai pF):=fsc
theorem pJ{f C:Addr}{fd:FuncData}(F:Fun K "below" "below" pF f fd)(T:Txt mg)(CB:Has P w K mg base 1 "by_number" ["tree"] ic)(CN:eY P w K mg base 1 "node_of" ["nodes","number"] (ie C))(CI:Has P w K mg base 1 "numbers_inside" ["nodes","folder"] jD):
  FnOk P w K mg base (CX1 P w) 2 f fd ["tree","number"] (ig C):=by
 obtain⟨fB,fdB,GB,mB,kB,bB⟩:=CB;obtain⟨fN,fdN,GN,mN,kN,bN⟩:=CN;obtain⟨fI,fdI,GI,mI,kI,bI⟩:=CI;obtain⟨tt,hT⟩:=T.top;refine F.okX qJ (λvs H Q E h=>?_) (λcdv A outer s H vs Q E hr h=>?_)
 ·obtain⟨t,k,zs,rfl,_⟩:=h;rfl
 ·obtain⟨t,k,zs,rfl,tr,h0,h1,q1,q2⟩:=h;have hnd:=bg tr.tr;have hl:=tr.len;refine⟨_,ah (bi (aw bQ (pv 1) (dN (v:=.int 0) rfl hT ⟨_,rfl⟩) (aF _))
    (ak (bf (al (E:=E) GN hr rfl mN kN bN .nil (om lC) (aa (al GB hr rfl mB kB bB .nil aD (aa (pv 0) ae)) (aa (pv 1) ae))))) aI)
   (ak (aM (aN dw rfl T.sorted boot_sorted (aa (al GI hr rfl mI kI bI .nil aD (aa (pv 0) (aa (pv 1) ae))) ae)))),?_⟩
  have main:∀H1,Same H H1→(k=0∨∃z∈zs,z.2.num=k)→oE (tCB (λxs H Q=>∃l,∃ns:List Int,xs=[.ref l]∧H l=some (.lst (ns.map V.int))∧ns.Nodup∧ns.length<64∧∀ms:List Int,ms.Perm ns→ms.Pairwise (λa b=>a<b)→∀p,H p=none→Q (.ref p) (upd H p (.lst (ms.map V.int))))
    (dB (nZ jD [] E0 (dB (jQ 0) (dB (jQ 1) iE))) iE)) {nx:=λ_ H'=>Q .non H',rt:=Q} [some (.ref t),some (.int k)] H1:=by
   intro H1 s1 hk;refine⟨_,rfl,_,rfl,t,k,zs,rfl,s1 _ _ tr.tup,tr.nod.same s1,by omega,λfd dn l H2 wk el s2=>?_⟩;have hfl:=wk.len;rw[aH]at hfl;refine⟨l,fd.map (λn:Nd=>n.num),rfl,(show H2 l=some (.lst ((fd.map λn:Nd=>n.num).map V.int))from el),ku tr.tr wk,by rw[length_map];omega,λms hp hs p hpn=>?_⟩;refine q1 hk ms p _ ((s1.trans s2).trans (ag hpn)) hs (by rw[hp.length_eq,length_map];exact hfl) (λx=>?_) ac;rw[hp.mem_iff,mem_map];constructor
   ·rintro⟨n,hn,e⟩;have:=(wk.mem n).mp hn;exact⟨n,this.mem,e,this⟩
   ·rintro⟨n,_,e,hr⟩;exact⟨n,(wk.mem n).mpr hr,e⟩
  refine⟨_,rfl,rfl,_,rfl,?_⟩
  by_cases hk0:k=0
  ·have:decide (V.int k=V.int 0)=true:=by simp[hk0]
   rw[this];exact aW (main H (Same.refl _) (.inl hk0))
  ·have:decide (V.int k=V.int 0)=false:=by simp[hk0]
   rw[this];refine cn ?_;refine⟨_,rfl,t,zs,rfl,tr.tup,tr.nod,by omega,hnd,λd H1 s1 nd1=>?_⟩;refine⟨_,rfl,d,k,zs,rfl,nd1,hnd,h0,h1,λz hz e=>main H1 s1 (.inr ⟨z,hz,e⟩),λhk=>q2 hk0 hk H1 s1⟩
def gE:Sp:=λvs H Q _=>∃t zs,vs=[.ref t]∧Tre H t zs∧∀d as H',Same H H'→H d=none→Book H' d as zs→H' d=some (.dK (dH as))→Q (.ref d) H'
theorem pK:FnScope ["_law_tree_here"] ["_law_tree_here"] (ai lS):=fsc
theorem nK{f:Addr}{fd:FuncData}(F:Fun K "_law_book" "_law_book" lS f fd)(T:Txt mg):FnOk P w K mg base CX0 1 f fd ["_law_tree_here"] gE:=by
 refine F.ok pK (λvs H Q E h=>?_) (λcdv A outer s H vs Q E hr h=>?_)
 ·obtain⟨t,zs,rfl,_⟩:=h;rfl
 ·obtain⟨t,zs,rfl,tr,k⟩:=h;have hnd:=bg tr.tr;have hl:=tr.len;have ht:=tr.tup;have hA:=tr.nod;refine⟨_,ak (aM (aZ (hU rfl) rfl T.dict boot_dict (aa (gU (N:=["_law_node"]) (k:=1) (js:=[]) (g:=bp 0) rfl (eG rfl (by decide +kernel) (by decide +kernel) (by decide +kernel)) rfl (λi j x h=>by simp at h)
   (dt (pv 0)) (λs H fp=>aJ (i:=0) (show(["_law_node"]:List Str).Nodup by decide +kernel) rfl (Or.inl rfl) (Or.inr rfl))
   (λs H fp=>cf (aa (aP (r:=gm K) aS (pv 0) aj (λ_ _=>rfl)) (aa (dZ (r:=mQ K) iI (pv 0) (dO aj) jo) ae)))) ae))),?_⟩
  refine⟨_,rfl,t,rfl,⟨_,SqT.of ht⟩,λp hp=>?_⟩;refine iV (fr:=[]) zs.length (by omega) hp rfl (λi y H'=>∃q t' z,zs[i]?=some z∧y=.ref q∧q≠p∧t'≠p∧H' q=some (.tup [.int z.2.num,.ref t'])∧H' t'=some (.tup (cy z.2))) (λi y H1 H2 h ex=>?_) (λi H' hi s1=>?_) (λH' s1=>?_) ?_ (λi H' x H2 hi s1 hpl hy=>?_) (λys H' s1 hp' hlen hys=>?_)
  ·obtain⟨q,t',z,e1,e2,e3,e4,e5,e6⟩:=h;exact⟨q,t',z,e1,e2,e3,e4,ex q _ e3 e5,ex t' _ e4 e6⟩
  ·exact⟨_,_,SqT.of (s1 _ _ ht),dh (getElem?_eq_getElem hi)⟩
  ·exact⟨_,SqT.of (s1 _ _ ht),by rw[bb];exact le_refl _⟩
  ·rintro _ _ _ _ m ⟨v1,b1,p1,xs,i1,v2,c1,c2,c3,c4,v3,b3,i3,d0,a3,xs3,d1,d2,d3,q⟩;refine⟨v1,b1,p1,xs,i1,v2,c1,c2,c3,c4,v3,b3,i3,d0,a3,xs3,d1,d2,d3,λl hl=>?_⟩;obtain⟨hz',q'⟩:=q l hl;exact⟨hz',λl' hl'=>m _ _ (q' l' hl')⟩
  ·obtain⟨rfl,hx⟩:=hy;obtain⟨z,gz,rfl⟩:=bX (hx _ (SqT.of (s1 _ _ ht)));have mz:=mem_of_getElem? gz;have hz1:=s1 _ _ (hA z mz);have ecut:gM (vals z.2) (some 1) none=cy z.2:=rfl;refine⟨rfl,_,rfl,z.1,_,_,_,rfl,rfl,SqT.of hz1,at0 z.2,_,rfl,_,rfl,z.1,_,rfl,SqT.of hz1,(by intro h;exact absurd h.1 (show ¬HT.sIx 4 0 (some 1)=0 by decide)),λt' ht'=>?_⟩;rw[ecut];have s2:=ag (o:=.tup (cy z.2)) ht';have hpl2:∃ys,upd H2 t' (.tup (cy z.2)) p=some (.lst ys):=let⟨ys,e⟩:=hpl;⟨ys,s2 _ _ e⟩;refine⟨le2,λq hq=>⟨s2.trans (ag hq),q,t',z,gz,rfl,eK hpl2 hq,eK hpl ht',ac,bj hq ac⟩⟩
  ·obtain⟨as,e1,e2,e3⟩:∃as:List ((Addr×Addr)×(Addr×Nd)),as.map (·.2)=zs∧ys=(as.map (·.1.1)).map V.ref∧∀a∈as,H' a.1.1=some (.tup [.int a.2.2.num,.ref a.1.2])∧H' a.1.2=some (.tup (cy a.2.2)):=by
    clear hp';have main:∀(ys:List V)(xs:ZN),ys.length=xs.length→(∀(i:Nat) y,ys[i]?=some y→∃q t' z,xs[i]?=some z∧y=.ref q∧q≠p∧t'≠p∧H' q=some (.tup [.int z.2.num,.ref t'])∧H' t'=some (.tup (cy z.2))) →
      ∃as:List ((Addr×Addr)×(Addr×Nd)),as.map (·.2)=xs∧ys=(as.map (·.1.1)).map V.ref∧∀a∈as,H' a.1.1=some (.tup [.int a.2.2.num,.ref a.1.2])∧H' a.1.2=some (.tup (cy a.2.2)):=by
     intro ys
     induction ys with
     |nil =>
      intro xs hl _;have:xs=[]:=length_eq_zero_iff.mp hl.symm;subst this;exact⟨[],rfl,rfl,by simp⟩
     |cons y ys ih =>
      intro xs hl h;cases xs with
      |nil=>simp at hl
      |cons x xs =>
       obtain⟨as,e1,e2,e3⟩:=ih xs (by simpa using hl) λi y hy=>by simpa using h (i+1) y (by simpa using hy)
       obtain⟨q,t',z,f1,f2,f3,f4,f5,f6⟩:=h 0 y rfl;have:x=z:=by simpa using f1
       subst this;refine⟨((q,t'),x)::as,by simp[e1],by simp[e2,f2],λa ha=>?_⟩;rcases mem_cons.mp ha with rfl|ha
       ·exact⟨f5,f6⟩
       ·exact e3 a ha
    exact main ys zs hlen hys
   have hal:as.length=zs.length:=by rw[←e1,length_map]
   refine⟨p,as.map λa=>(a.1.1,(Sum.inl a.2.2.num:Key),V.ref a.1.2),rfl,?_,?_,?_,?_,λd hd=>?_⟩
   ·rw[hp',e2,map_map,map_map,map_map];rfl
   ·intro z hz;obtain⟨a,ha,rfl⟩:=mem_map.mp hz;exact(e3 a ha).1
   ·rw[length_map];omega
   ·rw[map_map];have:(as.map ((λx:Addr×Key×V=>x.2.1)∘λa=>(a.1.1,(Sum.inl a.2.2.num:Key),V.ref a.1.2)))=((nds zs).map (·.num)).map (Sum.inl:Int→Key):=by
     rw[←e1];unfold nds;simp only[map_map];rfl
    rw[this];unfold Nodup at hnd⊢;rw[pairwise_map];exact hnd.imp λh e=>h (by injection e)
   ·have sd:=ag (o:=.dK ((as.map λa=>(a.1.1,(Sum.inl a.2.2.num:Key),V.ref a.1.2)).map (·.2))) hd;have ed:upd H' d (.dK ((as.map λa=>(a.1.1,(Sum.inl a.2.2.num:Key),V.ref a.1.2)).map (·.2))) d=some (.dK (dH (as.map λa=>(a.1.2,a.2)))):=by
     rw[ac];refine congrArg (λx=>some (HO.dK x)) ?_;unfold dH;simp only[map_map];rfl
    refine k d (as.map λa=>(a.1.2,a.2)) _ (s1.trans sd) (s1.free hd) ⟨.inl ed,by rw[map_map];exact e1,λa ha=>?_⟩ ed;obtain⟨b,hb,rfl⟩:=mem_map.mp ha;exact sd _ _ (e3 b hb).2
theorem oq:FnScope ["_law_book_here","_law_number","_law_goal"] ["_law_book_here","_law_number","_law_goal"] (ai iZ):=fsc
end
def bh(zs:ZN):List (List Key×V):=zs.map λz=>(plK z.2,V.int z.2.num)
theorem dj(zs:ZN):(bh zs).map (·.1)=(nds zs).map plK:=by unfold bh nds;rw[map_map,map_map];rfl
def jE(ns:List Nd)(p:List Str)(a:V):Prop:=(∃k,a=.int k∧TW.PathTo ns k p)∨(a=.non∧∀k,¬TW.PathTo ns k p)
section
variable{P:Program}{w:World}{K:PySem.W.Frag}{mg:Str→Option Value}{base:Heap}
def lU:Sp:=λvs H Q _=>∃d k zs p,vs=[.ref d,.int k]∧eN H d zs∧At H zs∧TW.Tree1 (nds zs)∧zs.length≤100∧TW.PathTo (nds zs) k p∧∀t H',Same H H'→H' t=some (.tup (p.map V.str))→Q (.ref t) H'
theorem jF:FnScope ["nodes","number","names","at"] ["nodes","number"] (ai pD):=fsc
theorem pL{f:Addr}{fd:FuncData}(F:Fun K "path_up" "path_up" pD f fd)(T:Txt mg):FnOk P w K mg base CX0 1 f fd ["nodes","number"] lU:=by
 obtain⟨tt,hT⟩:=T.top;refine F.ok jF (λvs H Q E h=>?_) (λcdv A outer s H vs Q E hr h=>?_)
 ·obtain⟨d,k,zs,p,rfl,_⟩:=h;rfl
 ·obtain⟨d,k,zs,p,rfl,hd,hA,hTr,hl,hp,q⟩:=h;have hnd:=bg hTr;have hpl:p.length≤100:=by have:=hp.len hTr;rw[aH]at this;omega
  refine⟨_,ah (ar (i:=2) jF.nd rfl (Or.inl rfl) (aX ae)) (ah (ar (i:=3) jF.nd rfl (Or.inl rfl) (pv 1))
   (ah (cR PassesOwn.never (aw bQ (pv 3) (dN (v:=.int 0) rfl hT ⟨_,rfl⟩) (aF _))
    (ah (bf (cY plainAttrs_list PySem.F.slot_list_append PySem.F.type_list_append aQ (pv 2) (aa (aP aS (cA (dE hr) (pv 0) (pv 3) (λ_ _=>rfl)) aj (λ_ _=>rfl)) ae)))
    (ak (ar (i:=3) jF.nd rfl (Or.inl rfl) (aP aS (cA (dE hr) (pv 0) (pv 3) (λ_ _=>rfl)) aj (λ_ _=>rfl))))))
   (ak (aM (kh rfl rfl T.tuple rfl T.reversed (pv 2)))))),?_⟩
  refine⟨zero_le _,λpn hpn=>⟨_,rfl,?_⟩⟩;dsimp only[bp,mE];refine cT (λσ H'=>∃at' q' r,σ=[some (.ref d),some (.int k),some (.ref pn),some (.int at')]∧TW.PathTo (nds zs) at' q'∧p=q'++r∧H' pn=some (.lst (r.reverse.map V.str))∧Same H H')
   (λσ H'=>p.length-di H' pn) ⟨k,p,[],rfl,hp,by simp,ac,ag hpn⟩ (λσ H' h=>?_) ?_
  ·obtain⟨at',q',r,rfl,hq',ep,en,s1⟩:=h;refine⟨_,rfl,rfl,_,rfl,?_⟩
   by_cases h0:at'=0
   ·subst h0;have e0:q'=[]:=hq'.zero hTr rfl;subst e0;refine aW ⟨_,rfl,pn,_,rfl,en,λt ht=>q t _ (s1.trans (ag ht)) ?_⟩;rw[ac,ep,nil_append,←List.map_reverse,List.reverse_reverse]
   ·have hne:decide (V.int at'=V.int 0)=false:=by simp[h0]
    rw[hne];refine cn ?_;obtain⟨z,hz,e1,q'',e2,hq''⟩:=dQ hTr hq' h0;subst e1;have hdz:=(hd.same s1).get hnd hz;have hat:=s1 _ _ (hA z hz);have hrl:r.length<100:=by
     have:=congrArg length ep;rw[e2]at this;simp at this;omega
    refine⟨_,rfl,.inl ⟨rfl,_,SqL.of en⟩,_,rfl,_,rfl,d,_,rfl,hdz,z.1,_,_,_,rfl,rfl,SqT.of hat,at2 z.2,pn,_,_,rfl,rfl,en,ay (by rw[length_map,List.length_reverse];omega),?_⟩;have hpnd:pn≠d:=λe=>by
     obtain⟨o,e'⟩:=hd.same s1;rw[←e,en]at e';cases e'
    have hpnz:z.1≠pn:=λe=>by rw[e,en]at hat;cases hat
    have s2:Same H (upd H' pn (.lst (r.reverse.map V.str++[.str z.2.nm]))):=aE hpn s1;refine⟨_,rfl,_,rfl,d,_,rfl,(hd.same s2).get hnd hz,z.1,_,_,_,rfl,rfl,SqT.of (s2 _ _ (hA z hz)),at1 z.2,?_⟩;refine⟨⟨z.2.par,q'',z.2.nm::r,rfl,hq'',by rw[ep,e2];simp,by rw[ac];simp,s2⟩,?_⟩;show p.length-di _ pn<p.length-di H' pn;rw[bY ac,bY en,ep,e2];simp;omega
  ·rintro σ H1 Q1 Q2 m ⟨v,e,h2,b,e3,q⟩;exact⟨v,e,h2,b,e3,m _ _ q⟩
def jG(C:Addr):Sp:=λvs H Q E=>∃t k zs,vs=[.ref t,.int k]∧Tre H t zs∧0≤k∧k≤60∧(∀z∈zs,z.2.num=k→∀p,TW.PathTo (nds zs) k p→∀t' H',Same H H'→H' t'=some (.tup (p.map V.str))→Q (.ref t') H') ∧
 ((∀z∈zs,z.2.num≠k)→∀H',Same H H'→E (.ref C) none H')
theorem ou:FnScope ["tree","number","nodes"] ["tree","number"] (ai pE):=fsc
theorem pM{f C:Addr}{fd:FuncData}(F:Fun K "path_of" "path_of" pE f fd)(CB:Has P w K mg base 1 "by_number" ["tree"] ic)(CN:eY P w K mg base 1 "node_of" ["nodes","number"] (ie C))(CU:Has P w K mg base 1 "path_up" ["nodes","number"] lU):
  FnOk P w K mg base (CX1 P w) 2 f fd ["tree","number"] (jG C):=by
 obtain⟨fB,fdB,GB,mB,kB,bB⟩:=CB;obtain⟨fN,fdN,GN,mN,kN,bN⟩:=CN;obtain⟨fU,fdU,GU,mU,kU,bU⟩:=CU;refine F.okX ou (λvs H Q E h=>?_) (λcdv A outer s H vs Q E hr h=>?_)
 ·obtain⟨t,k,zs,rfl,_⟩:=h;rfl
 ·obtain⟨t,k,zs,rfl,tr,h0,h1,q1,q2⟩:=h;have hnd:=bg tr.tr;have hl:=tr.len;refine⟨_,ah (ar (i:=2) ou.nd rfl (Or.inl rfl) (al GB hr rfl mB kB bB .nil aD (aa (pv 0) ae)))
   (ah (bf (al (E:=E) GN hr rfl mN kN bN .nil (om lC) (aa (pv 2) (aa (pv 1) ae))))
   (ak (aM (al GU hr rfl mU kU bU .nil aD (aa (pv 2) (aa (pv 1) ae)))))),?_⟩
  refine⟨_,rfl,t,zs,rfl,tr.tup,tr.nod,by omega,hnd,λd H1 s1 nd1=>?_⟩;refine⟨_,rfl,_,rfl,d,k,zs,rfl,nd1,hnd,h0,h1,λz hz e=>?_,λhk=>q2 hk H1 s1⟩;subst e;obtain⟨p,hp⟩:=TW.PathTo.ex tr.tr (mem_map.mpr ⟨z,hz,rfl⟩:z.2∈nds zs);refine⟨_,rfl,_,rfl,d,_,zs,p,rfl,nd1,tr.nod.same s1,tr.tr,by omega,hp,λt' H2 s2 ht'=>q1 z hz rfl p hp t' H2 (s1.trans s2) ht'⟩
def ja:Sp:=λvs H Q _=>∃t tp zs p,vs=[.ref t,.ref tp]∧Tre H t zs∧H tp=some (.tup (p.map V.str))∧p.length≤100∧∀a H',Same H H'→jE (nds zs) p a→Q a H'
theorem eQ:FnScope ["tree","path","places","at","name"] ["tree","path"] (ai lP):=fsc
theorem nL{f:Addr}{fd:FuncData}(F:Fun K "find" "find" lP f fd)(T:Txt mg):FnOk P w K mg base CX0 1 f fd ["tree","path"] ja:=by
 obtain⟨tt,hT⟩:=T.top;refine F.ok eQ (λvs H Q E h=>?_) (λcdv A outer s H vs Q E hr h=>?_)
 ·obtain⟨t,tp,zs,p,rfl,_⟩:=h;rfl
 ·obtain⟨t,tp,zs,pa,rfl,tr,htp,hpl,q⟩:=h;have hnd:=bg tr.tr;have hl:=tr.len;have ht:=tr.tup;have hA:=tr.nod;refine⟨_,ah (ar (i:=2) eQ.nd rfl (Or.inl rfl) (aZ (iU rfl (iW hr)) rfl T.dict boot_dict (aa (gU (N:=["node"]) (k:=1) (js:=[]) (g:=bp 0) rfl (eG rfl (by decide +kernel) (by decide +kernel) (by decide +kernel)) rfl (λi j x h=>by simp at h)
    (dt (pv 0)) (λs H fp=>aJ (i:=0) (show(["node"]:List Str).Nodup by decide +kernel) rfl (Or.inl rfl) (Or.inr rfl))
    (λs H fp=>cf (aa (cf (aa (aP (r:=gm K) aS (pv 0) aj (λ_ _=>rfl)) (aa (aP (r:=gm K) aS (pv 0) aj (λ_ _=>rfl)) ae))) (aa (aP (r:=gm K) aS (pv 0) aj (λ_ _=>rfl)) ae)))) ae)))
   (ah (ar (i:=3) eQ.nd rfl (Or.inl rfl) (dN (v:=.int 0) rfl hT ⟨_,rfl⟩))
   (ah (cr PassesOwn.never rfl (dt (pv 1)) (aJ (i:=4) eQ.nd rfl (Or.inl rfl))
    (ak (ar (i:=3) eQ.nd rfl (Or.inl rfl) (lG (iW hr) (pv 2) (cf (aa (pv 3) (aa (pv 4) ae))) ⟨rfl,rfl,rfl,rfl⟩))))
   (ak (aM (pv 3))))),?_⟩
  refine⟨_,rfl,t,rfl,⟨_,SqT.of ht⟩,λp hp=>?_⟩;refine iV (fr:=[]) zs.length (by omega) hp rfl (λi y H'=>∃q t' z,zs[i]?=some z∧y=.ref q∧q≠p∧t'≠p∧H' q=some (.tup [.ref t',.int z.2.num])∧H' t'=some (.tup ((plK z.2).map kV))) (λi y H1 H2 h ex=>?_) (λi H' hi s1=>?_) (λH' s1=>?_) ?_ (λi H' x H2 hi s1 hpl hy=>?_) (λys H' s1 hp' hlen hys=>?_)
  ·obtain⟨q,t',z,e1,e2,e3,e4,e5,e6⟩:=h;exact⟨q,t',z,e1,e2,e3,e4,ex q _ e3 e5,ex t' _ e4 e6⟩
  ·exact⟨_,_,SqT.of (s1 _ _ ht),dh (getElem?_eq_getElem hi)⟩
  ·exact⟨_,SqT.of (s1 _ _ ht),by rw[bb];exact le_refl _⟩
  ·rintro _ _ _ _ m ⟨v1,b1,p1,xs,i1,v2,c1,c2,c3,c4,v3,b3,p3,xs3,i3,v4,d1,d2,d3,d4,hz,q⟩;refine⟨v1,b1,p1,xs,i1,v2,c1,c2,c3,c4,v3,b3,p3,xs3,i3,v4,d1,d2,d3,d4,hz,λl hl=>?_⟩;obtain⟨v5,b5,p5,xs5,i5,v6,f1,f2,f3,f4,hz',q'⟩:=q l hl;exact⟨v5,b5,p5,xs5,i5,v6,f1,f2,f3,f4,hz',λl' hl'=>m _ _ (q' l' hl')⟩
  ·obtain⟨rfl,hx⟩:=hy;obtain⟨z,gz,rfl⟩:=bX (hx _ (SqT.of (s1 _ _ ht)));have mz:=mem_of_getElem? gz;have hz1:=s1 _ _ (hA z mz);refine⟨rfl,_,rfl,z.1,_,_,_,rfl,rfl,SqT.of hz1,at1 z.2,_,rfl,z.1,_,_,_,rfl,rfl,SqT.of hz1,at2 z.2,le2,λt' ht'=>?_⟩;have s2:=ag (o:=.tup [.int z.2.par,.str z.2.nm]) ht';have hpl2:∃ys,upd H2 t' (.tup [.int z.2.par,.str z.2.nm]) p=some (.lst ys):=let⟨ys,e⟩:=hpl;⟨ys,s2 _ _ e⟩;refine⟨_,rfl,z.1,_,_,_,rfl,rfl,SqT.of (s2 _ _ hz1),at0 z.2,le2,λq hq=>⟨s2.trans (ag hq),q,t',z,gz,rfl,eK hpl2 hq,eK hpl ht',ac,bj hq ac⟩⟩
  ·
   obtain⟨as,e1,e2,e3⟩:∃as:List ((Addr×Addr)×(Addr×Nd)),as.map (·.2)=zs∧ys=(as.map (·.1.1)).map V.ref∧∀a∈as,H' a.1.1=some (.tup [.ref a.1.2,.int a.2.2.num])∧H' a.1.2=some (.tup ((plK a.2.2).map kV)):=by
    clear hp';have main:∀(ys:List V)(xs:ZN),ys.length=xs.length→(∀(i:Nat) y,ys[i]?=some y→∃q t' z,xs[i]?=some z∧y=.ref q∧q≠p∧t'≠p∧H' q=some (.tup [.ref t',.int z.2.num])∧H' t'=some (.tup ((plK z.2).map kV))) →
      ∃as:List ((Addr×Addr)×(Addr×Nd)),as.map (·.2)=xs∧ys=(as.map (·.1.1)).map V.ref∧∀a∈as,H' a.1.1=some (.tup [.ref a.1.2,.int a.2.2.num])∧H' a.1.2=some (.tup ((plK a.2.2).map kV)):=by
     intro ys
     induction ys with
     |nil =>
      intro xs hl _;have:xs=[]:=length_eq_zero_iff.mp hl.symm;subst this;exact⟨[],rfl,rfl,by simp⟩
     |cons y ys ih =>
      intro xs hl h;cases xs with
      |nil=>simp at hl
      |cons x xs =>
       obtain⟨as,e1,e2,e3⟩:=ih xs (by simpa using hl) λi y hy=>by simpa using h (i+1) y (by simpa using hy)
       obtain⟨q,t',z,f1,f2,f3,f4,f5,f6⟩:=h 0 y rfl;have:x=z:=by simpa using f1
       subst this;refine⟨((q,t'),x)::as,by simp[e1],by simp[e2,f2],λa ha=>?_⟩;rcases mem_cons.mp ha with rfl|ha
       ·exact⟨f5,f6⟩
       ·exact e3 a ha
    exact main ys zs hlen hys
   have hal:as.length=zs.length:=by rw[←e1,length_map]
   refine⟨p,as.map λa=>(a.1.1,(a.1.2,plK a.2.2),V.int a.2.2.num),rfl,?_,?_,?_,?_,λd o hd=>?_⟩
   ·rw[hp',e2,map_map,map_map,map_map];rfl
   ·intro z hz;obtain⟨a,ha,rfl⟩:=mem_map.mp hz;exact e3 a ha
   ·rw[length_map];omega
   ·rw[map_map];have:(as.map ((λx:Addr×(Addr×List Key)×V=>x.2.1.2)∘λa=>(a.1.1,(a.1.2,plK a.2.2),V.int a.2.2.num)))=(nds zs).map plK:=by
     rw[←e1];unfold nds;simp only[map_map];rfl
    rw[this,fV];exact tr.tr.own
   ·have ek:(List.map (λz:Addr×(Addr×List Key)×V=>(z.2.1.2,z.2.2)) (as.map λa=>(a.1.1,(a.1.2,plK a.2.2),V.int a.2.2.num)))=bh zs:=by
     rw[←e1];unfold bh;simp only[map_map];rfl
    rw[ek];have sd:=s1.trans (ag (o:=.frz o (.dT (bh zs))) hd);have hkn:((bh zs).map (·.1)).Nodup:=by rw[dj,fV];exact tr.tr.own
    generalize hG:upd H' d (.frz o (.dT (bh zs)))=G at sd⊢;have hGd:G d=some (.frz o (.dT (bh zs))):=by rw[←hG];exact ac
    refine⟨_,rfl,tp,rfl,⟨_,SqT.of (sd _ _ htp)⟩,jh (xs:=pa.map V.str) (λi σ H2=>∃a on,σ=[some (.ref t),some (.ref tp),some (.ref d),some a,on]∧jE (nds zs) (pa.take i) a∧Same G H2)
     ⟨.int 0,_,rfl,.inl ⟨0,rfl,.top⟩,Same.refl _⟩ (λi σ H2 _ h=>?_) (λi x σ H2 hx h=>?_) (λσ H2 h=>?_)⟩
    ·obtain⟨_,_,_,_,s2⟩:=h;exact SqT.of ((sd.trans s2) _ _ htp)
    ·obtain⟨a,on,rfl,hf,s2⟩:=h;rw[getElem?_map]at hx;cases hpi:pa[i]? with
     |none=>rw[hpi]at hx;cases hx
     |some y =>
      rw[hpi]at hx;cases hx;have et:pa.take (i+1)=pa.take i++[y]:=bv hpi;have hd2:=s2 _ _ hGd;refine⟨_,rfl,d,o,_,rfl,hd2,_,rfl,_,rfl,le2,λq hq=>?_⟩;have s3:=ag (o:=.tup [a,.str y]) hq;refine⟨s3 _ _ hd2,?_⟩;rcases hf with⟨k,rfl,hk⟩|⟨rfl,hno⟩
      ·refine .inl ⟨[.inl k,.inr y],q,rfl,ac,⟨_,_,rfl,?_,s2.trans s3⟩⟩;rw[et]
       by_cases hz:∃z∈zs,z.2.par=k∧z.2.nm=y
       ·obtain⟨z,hz,rfl,rfl⟩:=hz;have:aL (bh zs) [.inl z.2.par,.inr z.2.nm]=some (.int z.2.num):=ib hkn (mem_map.mpr ⟨z,hz,rfl⟩);rw[this];exact .inl ⟨_,rfl,.node (mem_map.mpr ⟨z,hz,rfl⟩) hk⟩
       ·have:aL (bh zs) [.inl k,.inr y]=none:=nJ λhm=>by
         rw[dj]at hm;obtain⟨n,hn,e⟩:=mem_map.mp hm;obtain⟨z,hz',rfl⟩:=mem_map.mp hn;unfold plK at e;injection e with e1 e2
         injection e2 with e2 _
         injection e1 with e1
         injection e2 with e2
         exact hz ⟨z,hz',e1,e2⟩
        rw[this];refine .inr ⟨rfl,λj hj=>hz ?_⟩;obtain⟨n,hn,_,e2,e3⟩:=hk.down tr.tr hj;obtain⟨z,hz',rfl⟩:=mem_map.mp hn;exact⟨z,hz',e2,e3⟩
      ·refine .inr ⟨q,y,rfl,ac,⟨_,_,rfl,?_,s2.trans s3⟩⟩;rw[et];exact .inr ⟨rfl,λj hj=>let⟨k,hk⟩:=hj.prefix;hno k hk⟩
    ·obtain⟨a,on,rfl,hf,s2⟩:=h;rw[length_map,take_length]at hf;exact⟨_,rfl,q a H2 (sd.trans s2) hf⟩
def kw:Sp:=λvs H Q _=>∃d k as zs p,vs=[.ref d,.int k]∧Book H d as zs∧TW.Tree1 (nds zs)∧zs.length≤30∧TW.PathTo (nds zs) k p∧∀t H',Same H H'→H' t=some (.tup (p.map V.str))→Q (.ref t) H'
theorem nM:FnScope ["_law_book_here","_law_number","_law_names"] ["_law_book_here","_law_number"] (ai iY):=fsc
theorem qK{f:Addr}{fd:FuncData}(F:Fun K "_law_path" "_law_path" iY f fd)(T:Txt mg):FnOk P w K mg base CX0 1 f fd ["_law_book_here","_law_number"] kw:=by
 refine F.ok nM (λvs H Q E h=>?_) (λcdv A outer s H vs Q E hr h=>?_)
 ·obtain⟨d,k,as,zs,p,rfl,_⟩:=h;rfl
 ·obtain⟨d,k,as,zs,p,rfl,bk,hTr,hl,hp,q⟩:=h;have hnd:=bg hTr;refine⟨_,ah (ar (i:=2) nM.nd rfl (Or.inl rfl) (aX ae))
   (ah (cR PassesOwn.never (aw bQ (pv 1) aj (aF _))
    (ah (ar (i:=2) nM.nd rfl (Or.inl rfl) (aB iK (aX (aa (aP aS (cA (dE hr) (pv 0) (pv 1) (λ_ _=>rfl)) aj (λ_ _=>rfl)) ae)) (pv 2)))
    (ak (ar (i:=1) nM.nd rfl (Or.inl rfl) (aP aS (cA (dE hr) (pv 0) (pv 1) (λ_ _=>rfl)) aj (λ_ _=>rfl))))))
   (ak (aM (aZ bO rfl T.tuple rfl (aa (pv 2) ae))))),?_⟩
  refine⟨zero_le _,λpn hpn=>?_⟩;dsimp only[bp,mE];refine cT (λσ H'=>∃at' q' r pn,σ=[some (.ref d),some (.int at'),some (.ref pn)]∧TW.PathTo (nds zs) at' q'∧p=q'++r∧H' pn=some (.lst (r.map V.str))∧Same H H')
   (λσ H'=>match σ with | [_,some (.int k),_]=>eZ (nds zs) k | _=>0) ⟨k,p,[],pn,rfl,hp,by simp,ac,ag hpn⟩ (λσ H' h=>?_) ?_
  ·obtain⟨at',q',r,pn,rfl,hq',ep,en,s1⟩:=h;refine⟨_,rfl,rfl,_,rfl,?_⟩
   by_cases h0:at'=0
   ·subst h0;have e0:q'=[]:=hq'.zero hTr rfl;subst e0;refine aW ⟨_,rfl,pn,_,rfl,.inl ⟨SqL.of en,λt ht=>q t _ (s1.trans (ag ht)) ?_⟩⟩;rw[ac,ep,nil_append]
   ·have hne:decide (V.int at'=V.int 0)=false:=by simp[h0]
    rw[hne];refine cn ?_;obtain⟨z,hz,e1,q'',e2,hq''⟩:=dQ hTr hq' h0;subst e1;obtain⟨b,hb1,hb2⟩:=(bk.same s1).get hnd hz;have hrl:r.length≤100:=by
     have h1:=hp.len hTr;have h2:=congrArg length ep;rw[aH]at h1;rw[length_append]at h2;omega
    refine⟨_,rfl,_,rfl,d,_,rfl,hb1,b,_,_,_,rfl,rfl,SqT.of hb2,rp z.2,aV (show 1≤1000 by decide),λl1 hl1=>?_⟩;have s2:=ag (o:=.lst [.str z.2.nm]) hl1;refine⟨_,rfl,l1,pn,_,_,rfl,rfl,ac,s2 _ _ en,aV (by simp;omega),λl2 hl2=>?_⟩;have s3:=s2.trans (ag (o:=.lst ([.str z.2.nm]++r.map V.str)) hl2);obtain⟨b',hb1',hb2'⟩:=(bk.same (s1.trans s3)).get hnd hz;refine⟨_,rfl,_,rfl,d,_,rfl,hb1',b',_,_,_,rfl,rfl,SqT.of hb2',qF z.2,?_⟩;refine⟨⟨z.2.par,q'',z.2.nm::r,l2,rfl,hq'',by rw[ep,e2];simp,ac,s1.trans s3⟩,?_⟩;show eZ (nds zs) z.2.par<eZ (nds zs) z.2.num;rw[dR hTr hq'',dR hTr hq',e2];simp
  ·rintro σ H1 Q1 Q2 m ⟨v,e,h2,b,e3,q⟩;exact⟨v,e,h2,b,e3,m _ _ q⟩
end
end TK
namespace TB
open PySem SetTable
section
variable{prog:Program}{w:World}{A:Around}{E:Value→Shared→Prop}{s:Shared}
end
section
variable{prog:Program}{w:World}{A:Around}{R:Result→Shared→Prop}{I:Addr}{fp wr:List Addr}{G:Array GenState→Array GenState→Prop}{n:Nat}{P:Nat→Value→Prop}{St:Nat→Shared→Prop}
end
section
variable{prog:Program}{w:World}{A:Around}{E:Value→Shared→Prop}{s:Shared}
end
end TB
namespace SRT
open PySem PySem.W PyProof.Rows
section
variable{prog:Program}{w:World}{A:Around}{E:Value→Shared→Prop}{s:Shared}
theorem ik{f:Nat→Nat→Bool}{vs:List Value}{κ:SortKind}{Q:Value→Shared→Prop}(O:Ord f vs.length)(h64:vs.length<64)(hk:∀(A':Around) (s':Shared),A'.units≤A.units+1→(∀b o,s.heap.get? b=some o→s'.heap.get? b=some o)→∀Q:SortKind→Shared→Prop,2≤vs.length→Q κ s'→wpAny (model prog w) A' (keyKind' vs.toArray) Q (λ_ _=>False) s')(hlt:∀(A':Around) (s':Shared),A'.units≤A.units+1→(∀b o,s.heap.get? b=some o→s'.heap.get? b=some o)→∀(i j:Nat) (C:Bool→Shared→Prop),i<vs.length→j<vs.length→C (f i j) s'→wpAny (model prog w) A' (keyLt' κ (vs.getD i Value.none) (vs.getD j Value.none)) C (λ_ _=>False) s')(h:∀(p:Array Nat) (h':Heap),Row vs.length p→Up f p vs.length→(∀b o,s.heap.get? b=some o→h'.get? b=some o)→(∃k,h'.get? s.heap.objs.size=some (seqObj "list" (toArray (p.toList.map λi=>vs.getD i Value.none)) k))→Q (.ref s.heap.objs.size) {s with heap:=h'}):
  wpAny (model prog w) A (do
   let l ← newList vs
   let _ ← holding [l] (call (.builtin "list.sort") [l] [])
   ret l) (λfin s'=>∃v,fin=.done (.ret v)∧Q v s') E s:=by
 refine wpAny_bind (wpAny_newList ?_ (by rw[sizeLine_eq];omega));have hoL:(s.heap.push (seqObj "list" vs.toArray 0)).get? s.heap.objs.size=some (seqObj "list" vs.toArray 0):=get?_push_size _ rfl;have keep:∀b o,s.heap.get? b=some o→(s.heap.push (seqObj "list" vs.toArray 0)).get? b=some o:=λb o q=>get?_push_of_some _ q;have neD:∀b o,s.heap.get? b=some o→b≠s.heap.objs.size:=λb o q=>ne_of_lt (lt_size q);show wpAny _ _ _ _ _ {s with heap:=s.heap.push (seqObj "list" vs.toArray 0)}
 refine wpAny_bind (wpAny_holding (wpAny_call_entry slot_list_sort ⟨_,hoL,rfl⟩ entry_list_sort (dc (κ:=κ) (s:={s with heap:=s.heap.push (seqObj "list" vs.toArray 0)}) O hoL h64 ?_ ?_ λp hr hu=>⟨_,rfl,?_⟩) (args_list_sort _)))
 ·intro s' hs' Q' h2 hq;exact hk _ s' (by simp[Around.in1_units]) (λb o e=>hs' b o (neD b o e) (keep b o e)) Q' h2 hq
 ·intro s' hs' i j C hi hj hC;exact hlt _ s' (by simp[Around.in1_units]) (λb o e=>hs' b o (neD b o e) (keep b o e)) i j C hi hj hC
 ·refine wpAny_pure ⟨_,rfl,h p _ hr hu (λb o e=>?_) ?_⟩
  ·unfold sortedHeap;rw[get?_update_ne _ _ _ _ (neD b o e)];refine get?_push_of_some _ (get?_push_of_some _ ?_);rw[get?_update_ne _ _ _ _ (neD b o e)];exact keep b o e
  ·unfold sortedHeap;obtain⟨e1,ho1⟩:∃e1,((s.heap.push (seqObj "list" vs.toArray 0)).update s.heap.objs.size (Obj.mapSeq λ_=>(#[]:Array Value))).get? s.heap.objs.size=some (seqObj "list" #[] e1):=⟨_,get?_update_seq hoL λ_=>#[]⟩;exact⟨_,get?_update_seq (get?_push_of_some _ (get?_push_of_some _ ho1)) _⟩
theorem il{T:String}{r d:Addr}{n:Nat}{P:Nat→Value→Prop}{OK:Heap→Prop}{Q:List Value→Shared→Prop}(K:KdlSrc prog w T r d n P OK)(hh:A.handled=none)(hok:OK s.heap)(hn:n≤sizeLine)(hQ:∀h' tk acc,(∀b o,s.heap.get? b=some o→h'.get? b=some o)→s.heap.objs.size<h'.objs.size→ItemsOf P acc n→Q acc.toList {s with heap:=h',toks:=tk}):wpAny (model prog w) A (collect (.ref r)) Q E s:=by
 unfold collect;refine wpAny_bind (wpAny_runValue (codeAny_builtin entry_proto_collect' ?_));show wpAny _ _ (do again (.builtin "list.__iadd__" ⟨[←newList [],.ref r],[]⟩)) _ _ s
 refine wpAny_bind (wpAny_newList (wpAny_pure ⟨Code.quiet_builtin _ (by decide +kernel),codeAny_builtin entry_list_iadd' ?_⟩));rw[Around.under_plainId plain_list_iadd _];show wpAny _ _ (Builtin.List.listExtendWith (.ref s.heap.objs.size) (.ref r) (.ref s.heap.objs.size)) _ _ {s with heap:=s.heap.push (seqObj "list" #[] 0)}
 have hlt:=K.there _ hok;have hS:(s.heap.push (seqObj "list" #[] 0)).get? s.heap.objs.size=some (seqObj "list" #[] 0):=get?_push_size _ rfl;have key:=PySem.W.kdl_extend (A:=A) (s:={s with heap:=s.heap.push (seqObj "list" #[] 0)}) (R:=λr s'=>∃h' tk acc c',r=.ok (.ret (.ref s.heap.objs.size))∧s'={s with heap:=h',toks:=tk}∧(∀b o,s.heap.get? b=some o→h'.get? b=some o)∧h'.get? s.heap.objs.size=some {cls:=.type "list",dict:=none,data:=.seq acc c',slots:=#[]}∧ItemsOf P acc n)
  K hh (K.keep _ _ hok λb _ o e=>get?_push_of_some _ e) s.heap.objs.size (ne_of_gt hlt.1) (ne_of_gt hlt.2) (.ref s.heap.objs.size) 0 hS (λh' tk acc' c' hk hS' hacc=>⟨h',tk,acc',c',rfl,rfl,λb o e=>hk b o (ne_of_lt (lt_size e)) (get?_push_of_some _ e),hS',hacc⟩) hn
 have fin:∀(h':Heap)(tk:Nat)(acc:Array Value)(c':Nat),(∀b o,s.heap.get? b=some o→h'.get? b=some o)→h'.get? s.heap.objs.size=some {cls:=.type "list",dict:=none,data:=.seq acc c',slots:=#[]}→ItemsOf P acc n→wpAny (model prog w) A (do
   let o ← load s.heap.objs.size
   match o.data with
   |.seq xs _=>pure xs.toList
   | _=>unsupported "internal:collect") Q E {s with heap:=h',toks:=tk}:=λh' tk acc c' hk hS' hacc=>by
  refine wpAny_bind (wpAny_load hS' ?_);exact wpAny_pure (hQ h' tk acc hk (lt_size hS') hacc)
 refine wpAny_mono key (λfn s' hf=>?_) λe s' hf=>?_
 ·cases fn with
  |done f =>
   obtain⟨h',tk,acc,c',e1,e2,hk,hS',hacc⟩:=hf;cases e1;subst e2;exact fin h' tk acc c' hk hS' hacc
  |again c =>
   refine⟨hf.1,codeAny_mono hf.2 λr s' hr=>?_⟩;obtain⟨h',tk,acc,c',e1,e2,hk,hS',hacc⟩:=hr;subst e1 e2;exact fin h' tk acc c' hk hS' hacc
 ·obtain⟨h',tk,acc,c',e1,_⟩:=hf;cases e1
theorem jb{T:String}{r d:Addr}{n:Nat}{P:Nat→Value→Prop}{OK:Heap→Prop}{κ:SortKind}{Q:Value→Shared→Prop}(K:KdlSrc prog w T r d n P OK)(hh:A.handled=none)(hok:OK s.heap)(hn:n≤sizeLine)(hQ:∀(h1:Heap) (tk:Nat) (vs:List Value),(∀b o,s.heap.get? b=some o→h1.get? b=some o)→s.heap.objs.size<h1.objs.size→ItemsOf P vs.toArray n→∃f:Nat→Nat→Bool,Ord f vs.length∧vs.length<64 ∧
   (∀(A':Around) (s':Shared),A'.units≤A.units+2→(∀b o,s.heap.get? b=some o→s'.heap.get? b=some o)→∀Q:SortKind→Shared→Prop,2≤vs.length→Q κ s'→wpAny (model prog w) A' (keyKind' vs.toArray) Q (λ_ _=>False) s') ∧
   (∀(A':Around) (s':Shared),A'.units≤A.units+2→(∀b o,s.heap.get? b=some o→s'.heap.get? b=some o)→∀(i j:Nat) (C:Bool→Shared→Prop),i<vs.length→j<vs.length→C (f i j) s'→wpAny (model prog w) A' (keyLt' κ (vs.getD i Value.none) (vs.getD j Value.none)) C (λ_ _=>False) s') ∧
   ∀(p:Array Nat) (h':Heap),Row vs.length p→Up f p vs.length→(∀b o,s.heap.get? b=some o→h'.get? b=some o)→(∃k,h'.get? h1.objs.size=some (seqObj "list" (toArray (p.toList.map λi=>vs.getD i Value.none)) k))→Q (.ref h1.objs.size) {s with heap:=h',toks:=tk}):
  wpAny (model prog w) A (call (.builtin "sorted") [.ref r]) Q E s:=by
 refine Calls.call_function_entry kind_sorted plain_sorted entry_sorted (args_sorted1 _) ?_;unfold Builtin.«sorted»;refine wpAny_bind (m:=checkCount "sorted" 1 1 _) (wpAny_pure ?_);refine wpAny_bind (il K hh hok hn λh1 tk acc hk hlt hacc=>?_);obtain⟨f,O,h64,hkk,hltt,hq⟩:=hQ h1 tk acc.toList hk hlt (by rw[Array.toArray_toList];exact hacc);exact ik (s:={s with heap:=h1,toks:=tk}) O h64 (λA' s' hu hk'=>hkk A' s' (by have:=hu;simp only[Around.in1_units]at this;omega) λb o e=>hk' b o (hk b o e)) (λA' s' hu hk'=>hltt A' s' (by have:=hu;simp only[Around.in1_units]at this;omega) λb o e=>hk' b o (hk b o e))
  λp h' hr hu' hk' hg=>hq p h' hr hu' (λb o e=>hk' b o (hk b o e)) hg
end
end SRT
namespace L2
open PySem PySem.Spec PyProof.Rows
section
variable{X:Cx}
end
end L2
namespace TB
open PySem SetTable
section
variable{prog:Program}{w:World}{A:Around}{E:Value→Shared→Prop}{s:Shared}
end
end TB
namespace L2
open PySem PySem.Spec PyProof.Rows
section
variable{X:Cx}
theorem Inv.dK{pins:List (Addr×Obj)}{σ:St}{H:Hp}{s:Shared}(I:Inv X pins σ H s){a:Addr}{kvs:List (Key×V)}(h:Rd H a (.dK kvs)):
  kvs.length≤sizeLine∧(a==sysModules)=false∧∃vs,KV kvs vs∧s.heap.DictOf (am X.prog X.w) a vs:=by
 rcases h with h|⟨o,h⟩
 ·obtain⟨hz,hsm,vs,rel,dd⟩:=I.hok a _ h;exact⟨hz,hsm,vs,rel,dd⟩
 ·obtain⟨_,hz,hsm,vs,rel,dd⟩:=I.hok a _ h;exact⟨hz,hsm,vs,rel,dd⟩
end
end L2
namespace TW
section
variable{S:Type}
end
end TW
namespace TW
section
variable{S:Type}
end
end TW
namespace L2
open PySem PySem.Spec PyProof.Rows
end L2
namespace TK
open PySem L2
instance decNd:DecidableEq (TW.Nd Str):=λa b=>Classical.propDecidable _
end TK
namespace L2
open PySem PySem.Spec PyProof.Rows
section
variable{X:Cx}
theorem eR(hc:X.calm=true):bw X (.builtin "sorted") (λxs H Q=>∃d kvs,∃ns:List Int,xs=[.ref d]∧Rd H d (.dK kvs)∧kvs.map (·.1)=ns.map (Sum.inl:Int→Key)∧ns.Nodup∧ns.length≤60 ∧
  ∀ms:List Int,ms.Perm ns→ms.Pairwise (λa b=>a<b)→∀p,H p=none→Q (.ref p) (upd H p (.lst (ms.map V.int)))):=by
 intro pins s σ H xs us Q I r h;obtain⟨d,kvs,ns,rfl,hH,hks,hnd',h60,q⟩:=h;obtain⟨u,rfl,ru⟩:=cF r;cases ru;obtain⟨hz,hsm,vs0,rel,dd⟩:=I.dK hH;obtain⟨ep,da⟩:=dd.dictAt;have hzv:vs0.length≤sizeLine:=by rw[←rel.length];exact hz
 refine SRT.jb (κ:=oneType') (PySem.W.kdl_dict hsm) (I.ok.hd hc) da hzv λh1 tk vs hk1 hlt1 hit=>?_;have rv:ao (ns.map V.int) vs:=by
  have:=nr rel hit;have e:(kvs.map λp=>kV p.1)=ns.map V.int:=by
   have:=congrArg (List.map kV) hks;rw[map_map,map_map]at this;exact this
  rw[e]at this;simpa using this
 have hvl:vs.length=ns.length:=by rw[←rv.length,length_map]
 have gd:∀i,i<ns.length→∃t,vs.getD i Value.none=.int (ns.getD i 0) t:=λi hi=>by
  obtain⟨v,hv,r⟩:=rv.get (i:=i) (x:=.int (ns.getD i 0)) (by rw[getElem?_map,(ba (d:=(0:Int)) hi).2];rfl);obtain⟨t,rfl⟩:=r;exact⟨t,by rw[getD_eq_getElem?_getD,hv];rfl⟩
 refine⟨λi j=>decide (ns.getD i 0<ns.getD j 0),⟨λi _=>by simp,λi j k _ _ _ h1 h2=>?_,λi j hi hj hij=>?_⟩,by omega,λA' s' _ _ Q' h2 hQ=>?_,λA' s' _ _ i j C hi hj hC=>?_,λp h' hrow hup kp hg=>?_⟩
 ·simp only[decide_eq_true_eq]at *;omega
 ·simp only[decide_eq_true_eq];have:ns.getD i 0≠ns.getD j 0:=by
   rw[getD_eq_getElem?_getD,getD_eq_getElem?_getD,getElem?_eq_getElem (by omega),getElem?_eq_getElem (by omega)];exact λe=>hij ((getElem_inj hnd').mp e)
  omega
 ·rw[ksk_kind (keys:=vs.toArray) (kz:=ns) (by simpa using jx rv) (by rw[size_toArray];omega)];exact wpAny_pure hQ
 ·obtain⟨t1,e1⟩:=gd i (by omega);obtain⟨t2,e2⟩:=gd j (by omega);rw[e1,e2];exact kat_lt_int hC
 ·obtain⟨c,hg⟩:=hg;rw[hvl]at hrow hup;have hin:∀i∈p.toList,i<ns.length:=λi hi=>mem_range.mp (hrow.perm.mem_iff.mp hi);have hperm2:(p.toList.map λi=>ns.getD i 0).Perm ns:=by
   refine(hrow.perm.map _).trans ?_;have:(List.range ns.length).map (λi=>ns.getD i 0)=ns:=by
    apply ext_getElem?;intro i;rw[getElem?_map]
    by_cases hi:i<ns.length
    ·rw[getElem?_range hi,(ba (d:=(0:Int)) hi).2];rfl
    ·rw[getElem?_eq_none (by rw[length_range];omega),getElem?_eq_none (by omega)];rfl
   rw[this]
  have hpl:p.size=ns.length:=hrow.size;have hpw:(p.toList.map λi=>ns.getD i 0).Pairwise (λa b=>a<b):=by
   rw[pairwise_iff_getElem];intro i j hi hj hij;have hi':i<p.size:=by rw[length_map,length_toList]at hi;exact hi
   have hj':j<p.size:=by rw[length_map,length_toList]at hj;exact hj
   have:=hup i j hij (by omega);simp only[]at this;rw[getD_eq_getD_getElem?,getD_eq_getD_getElem?,Array.getElem?_eq_getElem hi',Array.getElem?_eq_getElem hj']at this;simpa using this
  refine⟨.ref h1.objs.size,_,I.laid (t':=tk) (o:=.lst ((p.toList.map λi=>ns.getD i 0).map V.int)) kp (le_of_lt hlt1) ⟨?_,_,c,fO rv p.toList hin,hg⟩,rfl,q _ hperm2 hpw _ (I.hok.fresh (le_of_lt hlt1))⟩;rw[length_map,hperm2.length_eq,sizeLine_eq];omega
end
end L2
namespace TW
section
variable{S:Type}
end
end TW
namespace L2
open PySem PySem.Spec PyProof.Rows
end L2
namespace TK
open PySem L2
end TK
namespace L2
open PySem PySem.Spec PyProof.Rows
section
variable{X:Cx}{tg:Expr}
end
end L2
namespace L2
open PySem PyProof PyProof.Rows
section
variable{X:Cx}{pos:Pos}
def qL(K:PySem.W.Frag)(te:TE)(i j:Nat):TS:=λD σ H=>te σ H λv H1=>∃a y1 y2,v=.ref a∧SqT K H1 a [y1,y2]∧D.nx ((σ.set j (some y2)).set i (some y1)) H1
theorem lV{x1 x2:Str}{p1 p2 tpos:Pos}{k:Nat}{value:Expr}{te:TE}{i j:Nat}(hc:X.calm=true)(hN:X.N.Nodup)(hi:X.N[i]?=some x1)(hj:X.N[j]?=some x2)(hx1:Loc X.env.scope x1)(hx2:Loc X.env.scope x2)(hf1:X.env.scope.names.lookup x1=some .local)(hf2:X.env.scope.names.lookup x2=some .local)(he:PE X value te)(hs:swapsWithSole [.Tuple [.Name x1 p1,.Name x2 p2] k tpos] value pos.line X.env=pure false:=by rfl)(hw:swappedStores [.Tuple [.Name x1 p1,.Name x2 p2] k tpos] value X.env=pure (some [x1,x2]):=by rfl):PS X (.Assign [.Tuple [.Name x1 p1,.Name x2 p2] k tpos] value pos) (qL X.K te i j):=by
 intro pins s σ H D I h;refine Assign_Tuple_swapped (names:=[x1,x2]) (thn (he pins s σ H _ I h) λv s1 ⟨x,H1,I1,r1,q1⟩=>?_) hs hw;obtain⟨a,y1,y2,rfl,hq,q⟩:=q1;cases r1;obtain⟨its,rv,ht,hz⟩:=I1.tuple hq;cases rv with
 |@cons _ u1 _ _ r1 rv=>cases rv with
  |@cons _ u2 _ _ r2 rv=>cases rv with
   |nil =>
    refine unpackItems_tuple (items:=#[u1,u2]) (I1.ok.hd hc) ht λh' hx=>?_;have I2:Inv X pins σ H1 {s1 with heap:=h'}:=I1.kept (t':=s1.toks) λb o e=>hx b o (ne_of_lt (lt_size e)) e
    show wpAny _ _ (assignInOrder [bindName X.env x2,bindName X.env x1] [u2,u1]) _ _ _;refine assignInOrder_cons (wpAny_bindName (cq I2 hN hj hx2 r2 (λs2 I3=>?_) (.inr hf2)));refine assignInOrder_cons (wpAny_bindName (cq I3 hN hi hx1 r1 (λs3 I4=>?_) (.inr hf1)));exact assignInOrder_nil ⟨_,H1,I4,q⟩
end
end L2
namespace L2
open PySem PySem.Spec PyProof.Rows
def nN(CX:CXT)(P:Program)(w:World)(K:PySem.W.Frag)(mg:Str→Option Value)(base:Heap)(N:List Str)(qual:Str)(scope:Scope)(f:Addr)(cd:Value)(cl:List (Str×Addr))(A:Around)(outer:List Env)(s:Shared)(H:Hp)(E:XK):Cx where
 prog:=P
 w:=w
 K:=K
 mg:=mg
 base:=base
 A:=A.deeper (envX qual scope s.heap.objs.size f cd cl)
 N:=N
 s₀:=s
 H₀:=H
 env:=envX qual scope s.heap.objs.size f cd cl
 outer:=outer
 stack:=envX qual scope s.heap.objs.size f cd cl::outer
 ex:=[]
 calm:=true
 fn:=λ_=>false
 pn:=[]
 xe:=λe s'=>wpAny (model P w) (A.deeper (envX qual scope s.heap.objs.size f cd cl)) (leaving (envX qual scope s.heap.objs.size f cd cl) e) (λ_ s''=>CX outer H s E e s'') (λe' s''=>CX outer H s E e' s'') s'
structure LaScope(ps:List Str)(scope:Scope)(cl:List (Str×Addr)):Prop where
 kind:scope.kind=.function
 co:scope.isCoroutine=false
 gen:scope.isGenerator=false
 nocell:∀x∈scope.names,x.2≠.cell
 par:∀x∈ps,scope.names.lookup x=some .local
 nd:ps.Nodup
 has:∀x,scope.names.lookup x=some .free→∃c,cl.lookup x=some c
 inj:∀x y c,cl.lookup x=some c→cl.lookup y=some c→x=y
structure Capt(base:Heap)(scope:Scope)(cl:List (Str×Addr))(fs:List Str)(fv:List V):Prop where
 cell:∀x c,cl.lookup x=some c→∃v,base.IsCell c v
 len:fs.length=fv.length
 val:∀(i:Nat) x v,fs[i]?=some x→fv[i]?=some v→scope.names.lookup x=some .free∧∃c u,cl.lookup x=some c∧base.IsCell c (some u)∧aq v u
theorem jH:∀(ps:List Str)(us:List Value),((ps.zip us).map (·.1)).Sublist ps
 |[],_=>by simp
 |_::_,[]=>by simp
 |p::ps,u::us=>by rw[List.zip_cons_cons,map_cons];exact(jH ps us).cons₂ _
theorem im{ps:List Str}{us:List Value}{i:Nat}{x:Str}{u:Value}(nd:ps.Nodup)(h1:ps[i]?=some x)(h2:us[i]?=some u):(ps.zip us).reverse.lookup x=some u:=by
 have mem:(x,u)∈(ps.zip us).reverse:=by
  rw[List.mem_reverse];exact mem_of_getElem? (i:=i) (by rw[List.getElem?_zip_eq_some];exact⟨h1,h2⟩)
 have nd2:((ps.zip us).reverse.map (·.1)).Nodup:=by
  rw[List.map_reverse];unfold Nodup;rw[List.pairwise_reverse];exact(nd.sublist (jH ps us)).imp λh=>symm h
 generalize (ps.zip us).reverse=l at mem nd2
 induction l with
 |nil=>cases mem
 |cons a r ih =>
  obtain⟨y,w⟩:=a;rw[map_cons,nodup_cons]at nd2;rcases mem_cons.mp mem with e|e
  ·cases e;rw[List.lookup_cons,beq_self_eq_true]
  ·have ne:x≠y:=λz=>nd2.1 (by rw[←z];exact mem_map.mpr ⟨(x,u),e,rfl⟩);rw[List.lookup_cons,show(x==y)=false by simpa using ne]
   exact ih e nd2.2
section
variable{CX:CXT}{P:Program}{w:World}{K:PySem.W.Frag}{mg:Str→Option Value}{base:Heap}{k:Nat}{f c:Addr}{name qual:Str}{params:Arguments}{body:Expr}{scope:Scope}{cl:List (Str×Addr)}{pm ctv:Value}{ps fs:List Str}{fv:List V}{sp:Sp}
theorem lW{A:Around}{outer:List Env}{s:Shared}{H:Hp}{E:XK}{us:List Value}{vs:List V}{h₁:Heap}{tk:Nat}(S:LaScope ps scope cl)(C:Capt base scope cl fs fv)(hd:A.handled=none)(e0:Env0 P w K mg base A outer s H)(hl:vs.length=ps.length)(r:ao vs us)(hns:h₁.Ns s.heap.objs.size (λx=>(ps.zip us).reverse.lookup x))(hk:∀b o,s.heap.get? b=some o→h₁.get? b=some o):
  Inv (nN CX P w K mg base (ps++fs) qual scope f (.ref c) cl A outer s H E) [] (vs.map some++fv.map some) H {s with heap:=h₁,toks:=tk}:=by
 have noA:∀b:Addr,b∉(nN CX P w K mg base (ps++fs) qual scope f (.ref c) cl A outer s H E).ex:=λb z=>absurd (show b∈([]:List Addr)from z) (by simp);have cellB:∀c v,base.IsCell c v→h₁.IsCell c v∧H c=none∧c≠s.heap.objs.size:=λc v ⟨o,e,d⟩=>⟨⟨o,hk c o (e0.bs _ _ e).1,d⟩,(e0.bs _ _ e).2,ne_of_lt (lt_size (e0.bs _ _ e).1)⟩;refine⟨⟨e0.mod,S.kind,rfl,rfl,le_refl _,S.inj,λy hy=>?_,λy c h _=>absurd h (by simp[nN]),λ_=>hd,Around.frames_deeper e0.frames,.inr ⟨rfl,rfl⟩,λb z=>absurd z (noA b),e0.bs,e0.bsz,λb _ _=>noA b,λb z=>absurd z (noA b),e0.funs,e0.frf⟩,
  rfl,e0.bare,Un.kept hk,⟨_,hns,λi y v h1 h2 h3=>?_⟩,λy c h=>?_,e0.hok.fresh (le_refl _),λy c h=>?_,λp hp=>absurd (show p∈([]:List (Addr×Obj))from hp) (by simp),e0.hok.kept hk,?_⟩
 ·have hy:scope.names.lookup y=some .cell∨scope.names.lookup y=some .free:=hy;rcases hy with hy|hy
  ·exact absurd rfl (S.nocell _ (PySem.mem_of_lookup hy))
  ·exact S.has y hy
 ·have h1:(ps++fs)[i]?=some y:=h1
  by_cases hi:i<ps.length
  ·rw[getElem?_append_left hi]at h1;rw[getElem?_append_left (by rw[length_map];omega),getElem?_map]at h2;cases e:vs[i]? with
   |none=>rw[e]at h2;cases h2
   |some a =>
    rw[e]at h2;cases h2;obtain⟨u,hu,rv⟩:=r.get e;exact⟨u,rv,.inl ⟨S.par y (mem_of_getElem? h1),im S.nd h1 hu⟩⟩
  ·rw[getElem?_append_right (by omega)]at h1;rw[getElem?_append_right (by rw[length_map];omega),length_map,hl,getElem?_map]at h2;cases e:fv[i-ps.length]? with
   |none=>rw[e]at h2;cases h2
   |some a =>
    rw[e]at h2;cases h2;obtain⟨g1,cc,u,g2,g3,rv⟩:=C.val _ _ _ h1 e;exact⟨u,rv,.inr ⟨.inr g1,cc,g2,(cellB _ _ g3).1⟩⟩
 ·obtain⟨v,hv⟩:=C.cell y c h;exact⟨v,(cellB _ _ hv).1⟩
 ·obtain⟨v,hv⟩:=C.cell y c h;exact(cellB _ _ hv).2.1
 ·show _=(ps++fs).length;rw[length_append,length_append,length_map,length_map,hl,C.len]
end
def cdφ(c:Addr)(qual:Str)(h:Heap):Prop:=h.CodeRec (.ref c) qual
theorem io{c:Addr}{qual:Str}:∀h1 h2:Heap,cdφ c qual h1→(∀o,h1.get? c=some o→h2.get? c=some o)→cdφ c qual h2:=λh1 h2 h k=>by
 obtain⟨c',oc,vs,tq,e1,e2,e3⟩:=h;cases e1;exact⟨c,oc,vs,tq,rfl,k _ e2,e3⟩
theorem lX{c:Addr}{qual:Str}{h:Heap}(x:cdφ c qual h):∃o,h.get? c=some o:=by
 obtain⟨c',oc,vs,tq,e1,e2,e3⟩:=x;cases e1;exact⟨oc,e2⟩
def ca(H:Hp)(P:Addr)(qual:Str):Prop:=∃ps:Array Value,H P=some (.tbl ps)∧TriplesOk ps.toList∧∀pos cv,codeAmong pos ps.toList=some cv→∃c,cv=.ref c∧H c=some (.ext (cdφ c qual))
theorem ca.start{H:Hp}{P:Addr}{qual:Str}(h:H P=some (.tbl #[])):ca H P qual:=⟨#[],h,trivial,λpos cv e=>by cases e⟩
theorem fY{pos:Pos}{a b:Int}{t u:Tok}{v cv:Value}:∀{l:List Value},TriplesOk l→codeAmong pos (l++[.int a t,.int b u,v])=some cv→codeAmong pos l=some cv∨cv=v
 |[],_,h=>by
  have h:(if a==pos.line&&b==pos.col then some v else codeAmong pos [])=some cv:=h
  split at h
  ·exact .inr (Option.some.inj h).symm
  ·cases h
 |.int x t1::.int y t2::c::rest,ht,h=>by
  have h:(if x==pos.line&&y==pos.col then some c else codeAmong pos (rest++[.int a t,.int b u,v]))=some cv:=h
  show(if x==pos.line&&y==pos.col then some c else codeAmong pos rest)=some cv∨cv=v
  split at h
  ·rename_i e;rw[if_pos e];exact .inl h
  ·rename_i e;rw[if_neg e];exact fY (show TriplesOk rest from ht) h
theorem dI{a b:Int}{t u:Tok}{v:Value}:∀{l:List Value},TriplesOk l→TriplesOk (l++[.int a t,.int b u,v])
 |[],_=>trivial
 |.int x t1::.int y t2::c::rest,ht=>dI (l:=rest) ht
def dA(P:Addr)(H H':Hp):Prop:=∀b o,b≠P→H b=some o→H' b=some o
theorem dA.refl(P:Addr)(H:Hp):dA P H H:=λ_ _ _ h=>h
def BmB(base:Heap)(mg:Str→Option Value):Prop:=∃bm o,mg "__builtins__"=some (.ref bm)∧bm≠builtinsNs∧base.get? bm=some o∧o.cls=.type "module"∧o.dict=some builtinsNs∧o.data=.plain
section
variable{X:Cx}{pins:List (Addr×Obj)}{σ:St}{H:Hp}{s:Shared}
theorem Inv.tab{P:Addr}{ps more:Array Value}{h':Heap}{t':Nat}(I:Inv X pins σ H s)(hP:H P=some (.tbl ps))(k:∀b o,b≠P→s.heap.get? b=some o→h'.get? b=some o)(hP':h'.get? P=some {cls:=.none,data:=.fields (ps++more)}):Inv X pins σ (upd H P (.tbl (ps++more))) {s with heap:=h',toks:=t'}:=by
 have ne:∀b,H b=none→b≠P:=λb n z=>by rw[z,hP]at n;cases n
 refine I.un (t':=t') ⟨λb o e n _ _=>k b o (ne b n) e,λb o e n _ _=>⟨o.slots,k b o (ne b n) e⟩,λb o e n _=>by rw[af (ne b n)];exact n,λb o e _=>?_,λb xs e=>?_,λb o u e=>?_,λb qs e=>?_⟩ λb u e=>?_
 ·by_cases hb:b=P
  ·rw[hb];exact⟨_,hP'⟩
  ·exact⟨o,k b o hb e⟩
 ·rw[af (λz=>by rw[z,hP]at e;cases e)];exact e
 ·rw[af (λz=>by rw[z,hP]at e;cases e)];exact e
 ·by_cases hb:b=P
  ·subst hb;rw[hP]at e;cases e;exact⟨more,ac⟩
  ·exact⟨#[],by rw[af hb,e];simp⟩
 ·by_cases hb:b=P
  ·subst hb;rw[ac]at e;cases e;exact hP'
  ·rw[af hb]at e;refine(I.hok b u e).stay (λc v hc q=>k c v (λz=>?_) q) (λc q=>?_) λc xs q=>?_
   ·rcases hc with hc|hc
    ·exact hb (hc.symm.trans z)
    ·rw[z,hP]at hc;cases hc
   ·rw[af (λz=>by rw[z,hP]at q;cases q)];exact q
   ·rw[af (λz=>by rw[z,hP]at q;cases q)];exact q
theorem nO{c0 P:Addr}{params:Arguments}{body:Expr}{scope:Scope}{pos:Pos}{cl:List (Str×Addr)}{Q:Value→Shared→Prop}{E:Value→Shared→Prop}(I:Inv X pins σ H s)(C0:CodeHd X.base c0 P)(hc:X.env.code=.ref c0)(Bm:BmB X.base X.mg)(T:ca H P (X.env.qual++"<lambda>"))(hdef:defaultsOf params X.env=([],[]))(hcl:closureFor scope X.env=pure cl)(h:∀f c pm ctv H' s',dA P H H'→ca H' P (X.env.qual++"<lambda>")→H' c=some (.ext (cdφ c (X.env.qual++"<lambda>")))→Inv X pins σ H' s'→s'.heap.get? f=some (kla_obj "<lambda>" (X.env.qual++"<lambda>") params body scope cl pm c ctv)→s.heap.objs.size≤f→H' f=none→(∀b v,s.heap.IsCell b v→H b=none→s'.heap.IsCell b v)→Q (.ref f) s'):
  wpAny (model X.prog X.w) X.A (eval (.Lambda params body scope pos) X.env) Q E s:=by
 obtain⟨ps,hP,ht,hq⟩:=T;have hPs:s.heap.get? P=some (tabObj ps):=I.hok P _ hP;have hg:s.heap.Ns mainGlobals X.mg:=I.ok.mod.glob.keeps I.bk;have hgP:mainGlobals≠P:=λq=>by
  obtain⟨o,es,ep,e,hd,_⟩:=I.ok.mod.glob;have:=(I.bs _ _ e).2;rw[q,hP]at this;cases this
 have hb:s.heap.BuiltinsAt X.mg P:=by
  obtain⟨bm,ob,b1,b2,b3,b4,b5,b6⟩:=Bm;refine⟨bm,ob,b1,b2,λq=>?_,λq=>?_,I.bk _ _ b3,b4,b5,b6⟩
  ·obtain⟨o,es,ep,e,hd,_⟩:=I.ok.mod.glob;rw[q,e]at b3;cases b3;rw[hd]at b6;cases b6
  ·have:=(I.bs _ _ b3).2;rw[q,hP]at this;cases this
 have C:=C0.keeps I.bk;have cellP:∀b v,s.heap.IsCell b v→H b=none→b≠P:=λb v _ n z=>by rw[z,hP]at n;cases n
 refine PySem.W.kla_eval hdef ?_;cases ha:codeAmong pos ps.toList with
 |none =>
  refine PySem.W.kla_makeFunction (mg:=X.mg) hcl I.ok.glob hg hc C hPs ht ha hgP hb λc' ctv h' tk hx hge hlt hrec htb=>?_;have J:=I.tab (t':=tk) (more:=#[rawInt pos.line,rawInt pos.col,.ref c']) (h':=h'.push (kla_obj "<lambda>" (X.env.qual++"<lambda>") params body scope cl ((X.mg "__name__").getD .none) c' ctv)) hP (λb o n e=>get?_push_of_some _ (hx b o n e)) (get?_push_of_some _ htb);have fr:H c'=none:=I.hok.fresh hge;have ncP:c'≠P:=λz=>by rw[z,hP]at fr;cases fr
  have fr':upd H P (.tbl (ps ++ #[rawInt pos.line,rawInt pos.col,.ref c'])) c'=none:=by rw[af ncP];exact fr
  have hrec':cdφ c' (X.env.qual++"<lambda>") (h'.push (kla_obj "<lambda>" (X.env.qual++"<lambda>") params body scope cl ((X.mg "__name__").getD .none) c' ctv)):=io _ _ hrec λo e=>get?_push_of_some _ e;have Hq:dA P H (upd (upd H P (.tbl (ps ++ #[rawInt pos.line,rawInt pos.col,.ref c']))) c' (.ext (cdφ c' (X.env.qual++"<lambda>")))):=λb o n e=>by
   rw[af (ap e fr),af n];exact e
  have sz:s.heap.objs.size≤h'.objs.size:=le_trans hge (le_of_lt hlt);have nfc:h'.objs.size≠c':=ne_of_gt hlt;have frf:H h'.objs.size=none:=I.hok.fresh sz;have nfP:h'.objs.size≠P:=λz=>by rw[z,hP]at frf;cases frf
  have J2:Inv X pins σ (upd (upd H P (.tbl (ps ++ #[rawInt pos.line,rawInt pos.col,.ref c']))) c' (.ext (cdφ c' (X.env.qual++"<lambda>")))) {s with heap:=h'.push (kla_obj "<lambda>" (X.env.qual++"<lambda>") params body scope cl ((X.mg "__name__").getD .none) c' ctv),toks:=tk}:=by
   refine⟨J.ok,J.os,J.bare,⟨λb o e n hb hx=>J.base.keep b o e n hb hx,λb o e n hb hx=>J.base.slot b o e n hb hx,λb o e n hx=>?_,J.base.there,λb xs e=>?_,λb o u e=>?_,λb qs e=>?_⟩,J.loc,J.cell,?_,λx c e=>?_,λp hp=>?_,λb u e=>?_,J.len⟩
   ·have h1:=J.base.free b o e n hx;have:b≠c':=ne_of_lt (lt_of_lt_of_le (lt_of_lt_of_le (lt_size e) I.sz) hge);rw[af this];exact h1
   ·have h1:=J.base.tups b xs e;rw[af (ap h1 fr')];exact h1
   ·have h1:=J.base.frzs b o u e;rw[af (ap h1 fr')];exact h1
   ·obtain⟨m,h1⟩:=J.base.tbls b qs e;exact⟨m,by rw[af (ap h1 fr')];exact h1⟩
   ·rw[af (ne_of_lt (lt_of_lt_of_le I.lt hge))];exact J.free
   ·have h1:=J.freeC x c e;obtain⟨v,o,ho,_⟩:=I.cell x c e;rw[af (ne_of_lt (lt_of_lt_of_le (lt_size ho) hge))];exact h1
   ·obtain⟨g1,g2,g3,g4,g5⟩:=J.pin p hp;obtain⟨i1,_⟩:=I.pin p hp;exact⟨g1,by rw[af (ne_of_lt (lt_of_lt_of_le (lt_size i1) hge))];exact g2,g3,g4,g5⟩
   ·by_cases hb:b=c'
    ·subst hb;rw[ac]at e;cases e;exact⟨hrec',lX hrec',io⟩
    ·rw[af hb]at e;exact(J.hok b u e).stay (λ_ _ _ q=>q) (λc q=>by rw[af (ap q fr')];exact q) λc xs q=>by rw[af (ap q fr')];exact q
  refine h h'.objs.size c' _ ctv _ _ Hq ⟨_,by rw[af (symm ncP)];exact ac,?_,λpos' cv e=>?_⟩ ac J2 (get?_push_size _ rfl) sz ?_ λb v ⟨o,ho,hd⟩ n=>⟨o,get?_push_of_some _ (hx b o (cellP b v ⟨o,ho,hd⟩ n) ho),hd⟩
  ·rw[Array.toList_append];exact dI ht
  ·rw[Array.toList_append]at e;rcases fY ht e with e|e
   ·obtain⟨c,e1,e2⟩:=hq pos' cv e;refine⟨c,e1,Hq c _ (λz=>?_) e2⟩;rw[z,hP]at e2;cases e2
   ·exact⟨c',e,ac⟩
  ·rw[af nfc,af nfP];exact frf
 |some cv =>
  obtain⟨c,rfl,hcx⟩:=hq pos cv ha;refine PySem.W.kla_makeFunctionHit (mg:=X.mg) hcl I.ok.glob hg hc C hPs ht ha hb λctv h' tk hk hsz=>?_;have J:=I.kept (t':=tk) (h':=h'.push (kla_obj "<lambda>" (X.env.qual++"<lambda>") params body scope cl ((X.mg "__name__").getD .none) c ctv)) λb o e=>get?_push_of_some _ (hk b o e);exact h h'.objs.size c _ ctv H _ (dA.refl _ _) ⟨ps,hP,ht,hq⟩ hcx J (get?_push_size _ rfl) hsz (I.hok.fresh hsz) λb v ⟨o,ho,hd⟩ _=>⟨o,get?_push_of_some _ (hk b o ho),hd⟩
end
def bB(X:Cx)(H:Hp)(s:Shared):Heap:=hideAll s.heap (trk s.heap H++frs X.stack)
section
variable{X:Cx}{pins:List (Addr×Obj)}{σ:St}{H:Hp}{s:Shared}
theorem lY{b:Addr}{o:Obj}(e:s.heap.get? b=some o)(n:H b=none)(nf:b∉frs X.stack):(bB X H s).get? b=some o :=
 hideAll_get _ e λhm=>by
  rcases mem_append.mp hm with hm|hm
  ·have q:(H b).isSome=true:=(mem_filter.mp hm).2;rw[n]at q;simp at q
  ·exact nf hm
theorem lZ{b:Addr}{o:Obj}(e:(bB X H s).get? b=some o):s.heap.get? b=some o∧H b=none∧b∉frs X.stack:=by
 have e':s.heap.get? b=some o:=of_hideAll (trk s.heap H++frs X.stack) e;have hid:b∉trk s.heap H++frs X.stack:=λhm=>by
  have z:(bB X H s).get? b=none:=hideAll_none _ hm;rw[z]at e;cases e
 refine⟨e',?_,λhm=>hid (mem_append_right _ hm)⟩;cases q:H b with
 |none=>rfl
 |some x=>exact absurd (mem_append_left _ (mem_filter.mpr ⟨mem_range.mpr (lt_size e'),by simp[q]⟩)) hid
theorem cb{h base base':Heap}:∀{l:List Env},h.FunFrames base l→(∀b∈frs l,base'.get? b=none)→h.FunFrames base' l
 |[],_,_=>trivial
 |env::rest,⟨k,⟨L,o,hf,hb,ho,hd⟩,r⟩,hn=>by
  have e:frs (env::rest)=L::frs rest:=by unfold frs;rw[filterMap_cons,hf]
  rw[e]at hn;exact⟨k,⟨L,o,hf,hn L mem_cons_self,ho,hd⟩,cb r λb hb=>hn b (mem_cons_of_mem _ hb)⟩
theorem Inv.bsub(I:Inv X pins σ H s):∀b o,X.base.get? b=some o→(bB X H s).get? b=some o:=λb o e=>by
 obtain⟨h1,h2⟩:=I.bs b o e;refine lY h1 h2 λhm=>?_;have:=(I.stack.mem hm).1;rw[e]at this;cases this
theorem Inv.env0B(I:Inv X pins σ H s):Env0 X.prog X.w X.K X.mg (bB X H s) X.A X.stack s H:=by
 have kp:=I.bsub;obtain⟨mb,hb,hbb⟩:=I.ok.mod.blt;refine⟨I.ok.frames,⟨I.ok.mod.kin.keeps kp,I.ok.mod.glob.keeps kp,⟨mb,hb.keeps kp,hbb⟩,I.ok.mod.nolimit.keeps kp⟩,λb o e=>⟨(lZ e).1,(lZ e).2.1⟩,le_of_eq (hideAll_size _ _),cb I.stack λb hb=>?_,I.stkFree,I.hok,I.bare⟩;cases q:(bB X H s).get? b with
 |none=>rfl
 |some o=>exact absurd hb (lZ q).2.2
end
section
variable{CX:CXT}{P:Program}{w:World}{K:PySem.W.Frag}{mg:Str→Option Value}{base:Heap}{k:Nat}{f c:Addr}{name qual:Str}{params:Arguments}{body:Expr}{scope:Scope}{cl:List (Str×Addr)}{pm ctv:Value}{ps fs:List Str}{fv:List V}{sp:Sp}
theorem nP(ho:base.get? f=some (kla_obj name qual params body scope cl pm c ctv))(hcd:∀vs H Q E,sp vs H Q E→H c=some (.ext (cdφ c qual)))(S:LaScope ps scope cl)(C:Capt base scope cl fs fv)(len:∀vs H Q E,sp vs H Q E→vs.length=ps.length)(hbody:∀(A:Around) (outer:List Env) (s:Shared) (H:Hp) (vs:List V) (Q:VK) (E:XK),Room k (A.deeper (envX qual scope s.heap.objs.size f (.ref c) cl))→sp vs H Q E →
   ∃t,PE (nN CX P w K mg base (ps++fs) qual scope f (.ref c) cl A outer s H E) body t∧t (vs.map some++fv.map some) H Q):
  FnOk P w K mg base CX (k+1) f (kla_fn name qual params body scope cl pm (.ref c) ctv) ps sp:=by
 refine⟨len,λA outer s H args us vs Q E hr e0 hb r hsp=>?_⟩;have hl:=len _ _ _ _ hsp;have kp:∀b o,base.get? b=some o→s.heap.get? b=some o:=λb o e=>(e0.bs b o e).1;have lim:s.heap.NoLimit:=e0.mod.nolimit.keeps kp;have hcd':s.heap.CodeRec (.ref c) qual:=(e0.hok c _ (hcd _ _ _ _ hsp)).1;refine PySem.W.kla_callFunE hr.depth (kp _ _ ho) rfl S.co S.gen rfl hcd' (hb _ _ _ _ ?_);refine wpAny_newFunctionEnv S.nocell (λx hx=>S.par _ (of_mem_zip hx).1) (λh₁ hns hsb=>?_) S.kind;have hk₁:∀b o,s.heap.get? b=some o→h₁.get? b=some o:=λb o e=>hsb.extBut b o (ne_of_lt (lt_size e)) (get?_push_of_some _ e);refine⟨lim.keeps hk₁,PySem.W.kla_codeExpr ?_⟩;obtain⟨t,ht,hq⟩:=hbody A outer s H vs Q E (hr.deeper _) hsp;have I:=lW (CX:=CX) (P:=P) (w:=w) (K:=K) (mg:=mg) (qual:=qual) (f:=f) (c:=c) (E:=E) (tk:=s.toks+(ps.zip us).length) S C hr.hd e0 hl r hns hk₁;exact wpAny_mono (ht [] _ _ H _ I hq) (λu s' ⟨v,H',J,rv,q⟩=>⟨v,H',J.os,J.bare,J.base,J.hok,rv,q⟩) λe s' h=>h
end
structure KSt(P:Program)(w:World)(H:Hp)(fs:List Addr)(s s':Shared):Prop where
 os:s'.os=s.os
 bare:AllBare s'.gens
 hok:HOk P w H s'.heap
 un:Un fs [] H H s.heap s'.heap
section
variable{P:Program}{w:World}{H:Hp}{fs:List Addr}{s s1:Shared}
theorem KSt.low(h0:HOk P w H s.heap)(h:KSt P w H fs s s1){h2:Heap}{t:Nat}(k:∀b o,b<s.heap.objs.size→s1.heap.get? b=some o→h2.get? b=some o):KSt P w H fs s {s1 with heap:=h2,toks:=t}:=by
 refine⟨h.os,h.bare,λb u e=>(h.hok b u e).stay (λc v hc q=>k c v ?_ q) (λ_ q=>q) λ_ _ q=>q,⟨λb o e n hb hx=>k b o (lt_size e) (h.un.keep b o e n hb hx),λb o e n hb hx=>?_,h.un.free,λb o e hx=>?_,h.un.tups,h.un.frzs,h.un.tbls⟩⟩
 ·rcases hc with z|z
  ·rw[z];exact h0.lt e
  ·exact h0.lt z
 ·obtain⟨sl,q⟩:=h.un.slot b o e n hb hx;exact⟨sl,k b _ (lt_size e) q⟩
 ·obtain⟨o',q⟩:=h.un.there b o e hx;exact⟨o',k b o' (lt_size e) q⟩
theorem dk{base h h':Heap}{ex:List Addr}:∀{l:List Env},h.FunFrames base l→Un fs [] H H h h'→(∀b∈frs l,H b=none)→h'.FunFrames base l
 |[],_,_,_=>trivial
 |env::rest,⟨k,⟨L,o,hf,hb,ho,hd⟩,r⟩,u,hn=>by
  have e:frs (env::rest)=L::frs rest:=by unfold frs;rw[filterMap_cons,hf]
  rw[e]at hn;obtain⟨sl,q⟩:=u.any ho (hn L mem_cons_self) (by simp);exact⟨k,⟨L,_,hf,hb,q,hd⟩,dk (ex:=ex) r u λb hb=>hn b (mem_cons_of_mem _ hb)⟩
variable{K:PySem.W.Frag}{mg:Str→Option Value}{base:Heap}{A:Around}{outer:List Env}{k:Nat}{f:Addr}{fd:FuncData}{y:Str}{spK:Sp}{key:V→Str}
theorem ma(F:FnOk P w K mg base CX0 k f fd [y] spK)(hb:bx K fd [y] [])(hr:Room k A)(e0:Env0 P w K mg base A outer s H)(h:KSt P w H (frs outer) s s1)(hsz:s.heap.objs.size≤s1.heap.objs.size){x:V}{u:Value}(r:aq x u)(hsp:spK [x] H (λv H'=>v=.str (key x)∧H'=H) E0):
  wpAny (model P w) A (call (.ref f) [u]) (λv s2=>KSt P w H (frs outer) s s2∧(∃t,v=.str (key x) t)∧∀b o,s.heap.objs.size≤b→s1.heap.get? b=some o→s2.heap.get? b=some o) (λ_ _=>False) s1:=by
 have lowF:∀b∈frs outer,b<s.heap.objs.size:=λb hb=>by
  obtain⟨_,o,ho,_⟩:=e0.funs.mem hb;exact lt_size ho
 have bs:∀b o,base.get? b=some o→s1.heap.get? b=some o∧H b=none:=λb o e=>by
  obtain⟨h1,h2⟩:=e0.bs b o e;refine⟨h.un.keep b o h1 h2 (λhm=>?_) (by simp),h2⟩;have:=(e0.funs.mem hm).1;rw[e]at this;cases this
 have e1:Env0 P w K mg base A outer s1 H:=⟨e0.frames,e0.mod,bs,le_trans e0.bsz hsz,dk (ex:=[]) e0.funs h.un e0.frf,e0.frf,h.hok,h.bare⟩;have KX:K.In s1.heap:=e0.mod.kin.keeps λb o e=>(bs b o e).1;have hb':=hb s1 [u] KX rfl;refine wpAny_call (codeAny_mono (F.run A outer s1 H ⟨[u],[]⟩ [u] [x] _ E0 hr e1 hb' (.cons r .nil) hsp) λrs s2 hq=>?_);cases rs with
 |error e=>exact hq
 |ok fl =>
  cases fl with
  |next=>exact False.elim hq
  |brk=>exact False.elim hq
  |cont=>exact False.elim hq
  |ret v =>
   obtain⟨x',H',os,bare,un,hok,rv,ev,eH⟩:=hq;subst ev eH;refine⟨⟨os.trans h.os,bare,hok,h.un.trans un⟩,rv,λb o hb' e=>un.keep b o e (e0.hok.fresh hb') (λhm=>?_) (by simp)⟩;exact absurd (lowF b hm) (Nat.not_lt.mpr hb')
def bc(key:V→Str)(xs:List V)(us:List Value):Prop:=Paired (λ(x:V) (u:Value)=>∃t,u=.str (key x) t) xs us
theorem bc.length:∀{xs:List V}{us:List Value},bc key xs us→us.length=xs.length
 |_,_,.nil=>rfl
 |_,_,.cons _ r=>by rw[length_cons,length_cons,bc.length r]
theorem bc.get:∀{xs:List V}{us:List Value}{i:Nat},bc key xs us→i<xs.length→∃t,us.getD i Value.none=.str (key (xs.getD i .non)) t
 |_,_,i,.nil,h=>absurd h (Nat.not_lt_zero _)
 |_,_,0,.cons r _,_=>r
 |_,_,i+1,.cons _ r,h=>bc.get (i:=i) r (Nat.lt_of_succ_lt_succ h)
theorem bc.all:∀{xs:List V}{us:List Value},bc key xs us→∀u∈us,∃z t,u=.str z t
 |_,_,.nil,u,h=>by cases h
 |_,_,.cons r q,u,h=>by
  rcases mem_cons.mp h with e|e
  ·rw[e];obtain⟨t,e⟩:=r;exact⟨_,t,e⟩
  ·exact bc.all q u e
def cO(key:V→Str)(xs:List V)(i j:Nat):Bool:=HT.ck (key (xs.getD i .non)) (key (xs.getD j .non))
theorem jI{xs:List V}(h:(xs.map key).Nodup):SRT.Ord (cO key xs) xs.length:=by
 refine⟨λi _=>HT.ki _,λi j l _ _ _ h1 h2=>HT.lF h1 h2,λi j hi hj hij=>HT.kj λe=>hij ?_⟩;have hi':i<(xs.map key).length:=by rw[length_map];exact hi
 have hj':j<(xs.map key).length:=by rw[length_map];exact hj
 have e':(xs.map key)[i]=(xs.map key)[j]:=by
  rw[getElem_map,getElem_map];rw[getD_eq_getElem?_getD,getD_eq_getElem?_getD,getElem?_eq_getElem hi,getElem?_eq_getElem hj]at e;exact e
 have pw:=pairwise_iff_getElem.mp h;rcases Nat.lt_trichotomy i j with z|z|z
 ·exact absurd e' (pw i j hi' hj' z)
 ·exact z
 ·exact absurd e'.symm (pw j i hj' hi' z)
theorem md(F:FnOk P w K mg base CX0 k f fd [y] spK)(hb:bx K fd [y] [])(hr:Room k A)(e0:Env0 P w K mg base A outer s H){a:Addr}{vs:List Value}{xs:List V}{n:Nat}(h:KSt P w H (frs outer) s s1)(ha:s.heap.objs.size≤a)(ho:s1.heap.get? a=some (seqObj "list" vs.toArray n))(rv:ao xs vs)(h64:xs.length<64)(hnd:(xs.map key).Nodup)(hsp:∀x∈xs,spK [x] H (λv H'=>v=.str (key x)∧H'=H) E0){Q:PySem.Fin→Shared→Prop}{E:Value→Shared→Prop}(q:∀(p:Array Nat) s2 c,SRT.Row xs.length p→SRT.Up (cO key xs) p xs.length→KSt P w H (frs outer) s s2→s2.heap.get? a=some (seqObj "list" (toArray (p.toList.map λi=>vs.getD i Value.none)) c)→Q (.done (.ret .none)) s2):
  wpAny (model P w) A (ksk_tree a (.ref f) false) Q E s1:=by
 have lenV:=rv.length;have s1':=SameBut.update s1.heap a (Obj.mapSeq λ_=>(#[]:Array Value));obtain⟨e1,ho1⟩:∃e1,(s1.heap.update a (Obj.mapSeq λ_=>(#[]:Array Value))).get? a=some (seqObj "list" #[] e1):=⟨_,get?_update_seq ho λ_=>#[]⟩;have haL:a<s1.heap.objs.size:=lt_size ho;unfold ksk_tree;refine wpAny_bind (listItems_at ho rfl (wpAny_bind (listUpdate_at ho rfl ?_ (by rw[size_toArray,sizeLine_eq];omega) (zero_le _))));refine wpAny_bind (seqEpoch_at ho1 rfl (wpAny_bind (wpAny_newTuple ?_ (by show vs.length≤_;rw[sizeLine_eq];omega))));refine wpAny_bind (wpAny_newList (wpAny_holding ?_) (zero_le _));have hkS:((s1.heap.update a (Obj.mapSeq λ_=>(#[]:Array Value))).push (seqObj "tuple" vs.toArray 0)).objs.size=s1.heap.objs.size+1:=by rw[size_push',size_update]
 have ho2:(((s1.heap.update a (Obj.mapSeq λ_=>(#[]:Array Value))).push (seqObj "tuple" vs.toArray 0)).push (seqObj "list" #[] 0)).get? a=some (seqObj "list" #[] e1):=get?_push_of_some _ (get?_push_of_some _ ho1);have hk2:(((s1.heap.update a (Obj.mapSeq λ_=>(#[]:Array Value))).push (seqObj "tuple" vs.toArray 0)).push (seqObj "list" #[] 0)).get? (s1.heap.objs.size+1)=some (seqObj "list" #[] 0):=by rw[←hkS];exact get?_push_size _ rfl
 have K2:KSt P w H (frs outer) s {s1 with heap:=((s1.heap.update a (Obj.mapSeq λ_=>(#[]:Array Value))).push (seqObj "tuple" vs.toArray 0)).push (seqObj "list" #[] 0),toks:=s1.toks}:=h.low e0.hok λb o hb e=>get?_push_of_some _ (get?_push_of_some _ ((s1'.2 b (ne_of_lt (lt_of_lt_of_le hb ha))).trans e))
 show wpAny (model P w) A (ksk_rest a (.ref f) false vs.toArray e1 (.ref ((s1.heap.update a (Obj.mapSeq λ_=>(#[]:Array Value))).push (seqObj "tuple" vs.toArray 0)).objs.size)) Q E {s1 with heap:=((s1.heap.update a (Obj.mapSeq λ_=>(#[]:Array Value))).push (seqObj "tuple" vs.toArray 0)).push (seqObj "list" #[] 0)}
 rw[hkS];have hka:s1.heap.objs.size+1≠a:=ne_of_gt (lt_succ_of_lt haL);have hkl:s.heap.objs.size≤s1.heap.objs.size+1:=Nat.le_succ_of_le (le_trans ha (le_of_lt haL));generalize hh:({s1 with heap:=((s1.heap.update a (Obj.mapSeq λ_=>(#[]:Array Value))).push (seqObj "tuple" vs.toArray 0)).push (seqObj "list" #[] 0)}:Shared)=s2
 have ho3:s2.heap.get? a=some (seqObj "list" #[] e1):=by rw[←hh];exact ho2
 have hk3:s2.heap.get? (s1.heap.objs.size+1)=some (seqObj "list" #[] 0):=by rw[←hh];exact hk2
 have K3:KSt P w H (frs outer) s s2:=by rw[←hh];exact K2
 generalize s1.heap.objs.size+1=kS at hka hkl hk3⊢;clear K2 hk2 ho2 hkS ho1 s1' hh;unfold ksk_rest;refine wpAny_bind (wpAny_rule ?_);rw[←Array.forIn_toList];refine wpAny_bind (ksk_fold (λi s'=>KSt P w H (frs outer) s s'∧s'.heap.get? a=some (seqObj "list" #[] e1)∧∃kA c,s'.heap.get? kS=some (seqObj "list" kA c)∧bc key (xs.take i) kA.toList) vs.toArray.toList 0 s2 ⟨K3,ho3,#[],0,hk3,by rw[take_zero];exact .nil⟩ ?step ?done)
 case step =>
  rintro j u s' hu ⟨K4,ho4,kA,c,hk4,hka4⟩;rw[List.toList_toArray]at hu;rw[zero_add]at hka4⊢;have hj:j<vs.length:=(List.getElem?_eq_some_iff.mp hu).1;have hjx:j<xs.length:=by omega
  have rj:aq xs[j] u:=by
   obtain⟨u',h1,h2⟩:=rv.get (getElem?_eq_getElem hjx);rw[hu]at h1;cases h1;exact h2
  have hz:kA.size≤vs.length:=by
   have h1:=hka4.length;rw[length_toList,length_take]at h1;omega
  refine wpAny_bind (wpAny_attempt (wpAny_mono (ma F hb hr e0 K4 (le_of_lt (lt_of_le_of_lt hkl (lt_size hk4))) rj (hsp _ (getElem_mem hjx))) (λv s3 hv=>?_) λ_ _ z=>z.elim));obtain⟨K5,⟨t,rfl⟩,kp⟩:=hv;have hk5:=kp _ _ hkl hk4;have ho5:=kp _ _ ha ho4;have sb:=SameBut.update s3.heap kS (Obj.mapSeq (·.push (Value.str (key xs[j]) t)));dsimp only;refine wpAny_bind (listUpdate_at hk5 rfl ?_ (by rw[sizeLine_eq];omega) (le_trans (le_of_eq (Array.size_push ..)) (by rw[sizeLine_eq];omega)));refine wpAny_pure ⟨rfl,K5.low (t:=s3.toks) e0.hok λb o hb' e=>(sb.2 b (ne_of_lt (lt_of_lt_of_le hb' hkl))).trans e,(sb.2 a (symm hka)).trans ho5,kA.push (.str (key xs[j]) t),_,get?_update_seq hk5 (·.push (Value.str (key xs[j]) t)),?_⟩;rw[List.take_add_one,getElem?_eq_getElem hjx,Array.toList_push];exact Paired.snoc hka4 ⟨t,rfl⟩
 case done =>
  rintro s' ⟨K4,ho4,kA,c,hk4,hka4⟩;have hka5:bc key xs kA.toList:=by
   rw[zero_add,List.toList_toArray,List.take_of_length_le (by omega)]at hka4;exact hka4
  have kl:kA.toList.length=vs.length:=by rw[hka5.length];omega
  have kz:kA.size=vs.length:=by rw[←length_toList];exact kl
  refine wpAny_bind (listItems_at hk4 rfl ?_);have fin:∀(st:SortSt)(p:Array Nat),SRT.Row xs.length p→SRT.Up (cO key xs) p xs.length→(arrOf st).map (·.2)=toArray (p.toList.map λi=>vs.getD i Value.none)→failedOf st=none→wpAny (model P w) A (ksk_tail a false e1 (.ref kS) st) Q E s':=λst p hrow hup hout hfl=>by
   have sb:=SameBut.update s'.heap kS (Obj.mapSeq λ_=>(#[]:Array Value));have ho6:=(sb.2 a (symm hka)).trans ho4;have sb2:=SameBut.update (s'.heap.update kS (Obj.mapSeq λ_=>(#[]:Array Value))) a (Obj.mapSeq λ_=>toArray (p.toList.map λi=>vs.getD i Value.none));unfold ksk_tail;dsimp only;rw[hout];simp only[false_eq_true,if_false];refine wpAny_bind (listUpdate_at hk4 rfl (wpAny_bind (wpAny_letGo (wpAny_bind (seqEpoch_at ho6 rfl ?_)))) (by rw[kz,sizeLine_eq];omega) (zero_le _));refine wpAny_bind (listUpdate_at ho6 rfl ?_ (zero_le _) (by rw[size_toArray,length_map,length_toList,hrow.size,sizeLine_eq];omega));rw[hfl];simp only[bne_self_eq_false,false_eq_true,if_false];refine wpAny_pure (q p _ _ hrow hup (K4.low (t:=s'.toks) e0.hok λb o hb' e=>?_) (get?_update_seq ho6 _));exact(sb2.2 b (ne_of_lt (lt_of_lt_of_le hb' ha))).trans ((sb.2 b (ne_of_lt (lt_of_lt_of_le hb' hkl))).trans e)
  unfold ksk_end;dsimp only;simp only[false_eq_true,if_false]
  by_cases h2:vs.toArray.size<2
  ·rw[if_pos h2,if_pos h2];refine wpAny_bind (wpAny_pure ?_);rw[StateT.run_pure];refine wpAny_bind (wpAny_pure (fin _ (toArray (List.range xs.length)) ⟨by simp⟩ (λi j hij hj=>?_) ?_ rfl))
   ·rw[size_toArray]at h2;omega
   ·show(kA.zip vs.toArray).map (·.2)=_;rw[size_toArray]at h2;apply toList_inj.mp;rw[show xs.length=vs.length by omega];have e2:kA=kA.toList.toArray:=by simp
    rw[e2]
    match vs,kA.toList,kl,h2 with
    |[],[],_,_=>simp
    |[v],[w],_,_=>simp
    |_::_::_,_,_,h2=>exact absurd h2 (by simp)
  ·rw[if_neg h2,if_neg h2];rw[size_toArray]at h2;have e2:kA=kA.toList.toArray:=by simp
   rw[e2];refine wpAny_bind (PySem.W.kas_kind (T:=.type "str") (by omega) (λu hu=>?_) (by rfl) (by rfl) ?_)
   ·obtain⟨z,t,rfl⟩:=hka5.all u hu;exact Looks.now
   ·obtain⟨hrow,hup⟩:=SRT.jw (jI hnd) (by omega:1≤xs.length);rw[show xs.length=vs.length by omega]at hrow hup;refine wpAny_bind (wpAny_mono (PySem.W.kat_run (κ:=oneType') (ks:=kA.toList) (vs:=vs) (Q:=λst' s''=>∃p:Array Nat,arrOf st'=p.map (PySem.W.kas_item (kA.toList.toArray.zip vs.toArray))∧failedOf st'=none∧p=SRT.run (cO key xs) (PySem.W.kas_sort vs.length)∧s''=s')
     kl (by omega) (by omega) (λp' st' s'' a1 a2 a3 a4=>⟨p',a2,a3,a4⟩) (SRT.gr (n:=vs.length) (f:=cO key xs) (λi j C hi hj hC=>?_) (λp s''=>p=SRT.run (cO key xs) (PySem.W.kas_sort vs.length)∧s''=s') _ (by rw[show vs.length=xs.length by omega];exact SRT.fE (jI hnd) (by omega)) ⟨rfl,rfl⟩)) ?_ λ_ _ e=>e)
    ·obtain⟨t1,k1⟩:=hka5.get (i:=i) (by omega);obtain⟨t2,k2⟩:=hka5.get (i:=j) (by omega);show wpAny (model P w) A (keyLt' oneType' (kA.toList.getD i Value.none) (kA.toList.getD j Value.none)) C _ s';rw[k1,k2];exact PySem.W.kas_lt_str hC
    ·rintro⟨⟨⟩,st'⟩ s'' ⟨p,har,hf,ep,es⟩;subst es ep;refine fin st' _ (by rw[show xs.length=vs.length by omega];exact hrow) (by rw[show xs.length=vs.length by omega];exact hup) (PySem.W.kat_snds (ks:=kA.toList) (vs:=vs) kl har) hf
end
theorem jc{α:Type}(xs:List α)(d:α):(List.range xs.length).map (λi=>xs.getD i d)=xs:=by
 apply ext_getElem?;intro i
 by_cases h:i<xs.length
 ·rw[getElem?_map,getElem?_range h,getElem?_eq_getElem h];show some (xs.getD i d)=_;rw[getD_eq_getElem?_getD,getElem?_eq_getElem h];rfl
 ·rw[getElem?_eq_none (by rw[length_map,length_range];omega),getElem?_eq_none (by omega)]
theorem fZ{xs:List V}{us:List Value}(r:ao xs us):∀(p:List Nat),(∀i∈p,i<xs.length)→ao (p.map λi=>xs.getD i .non) (p.map λi=>us.getD i Value.none)
 |[],_=>.nil
 |i::p,h=>by
  have hi:=h i mem_cons_self;obtain⟨u,hu,ru⟩:=r.get (getElem?_eq_getElem hi);refine .cons ?_ (fZ r p λj hj=>h j (mem_cons_of_mem _ hj));show aq (xs.getD i .non) (us.getD i Value.none);rw[getD_eq_getElem?_getD,getD_eq_getElem?_getD,hu,getElem?_eq_getElem hi];exact ru
theorem mf{α:Type}{xs:List α}{d:α}{p:Array Nat}(r:SRT.Row xs.length p):(p.toList.map λi=>xs.getD i d).Perm xs:=by
 have:=r.perm.map λi=>xs.getD i d;rw[jc]at this;exact this
theorem pN{key:V→Str}{xs:List V}{p:Array Nat}(r:SRT.Row xs.length p)(u:SRT.Up (cO key xs) p xs.length):(p.toList.map λi=>xs.getD i .non).Pairwise λa b=>HT.ck (key a) (key b)=true:=by
 rw[pairwise_map,pairwise_iff_getElem];intro i j hi hj hij;have hs:=r.size;rw[length_toList]at hi hj;have:=u i j hij (by omega);rw[getD_eq_getD_getElem?,getD_eq_getD_getElem?,Array.getElem?_eq_getElem (by omega),Array.getElem?_eq_getElem (by omega)]at this;exact this
def mh(P:Addr)(qual:Str)(spK:Addr→Addr→Sp)(key:Hp→V→Str)(Q:VK):List V→Hp→Prop
 |[v],H1=>∃l xs,v=.ref l∧H1 l=some (.lst xs)∧xs.length<64∧ca H1 P qual∧∀f c H',dA P H1 H'→ca H' P qual→H' c=some (.ext (cdφ c qual)) →
  (xs.map (key H')).Nodup∧(∀x∈xs,spK f c [x] H' (λv H2=>v=.str (key H' x)∧H2=H') E0)∧∀D ys,ys.Perm xs→ys.Pairwise (λa b=>HT.ck (key H' a) (key H' b)=true)→H' D=none→Q (.ref D) (upd H' D (.lst ys))
 |_,_=>False
def pO(P:Addr)(qual:Str)(spK:Addr→Addr→Sp)(key:Hp→V→Str)(te:TE):TE:=λσ H Q=>te σ H λv H1=>mh P qual spK key Q [v] H1
section
variable{X:Cx}
theorem ml{P c0:Addr}{k:Nat}{y:Str}{p lpos kpos pos:Pos}{params:Arguments}{body:Expr}{scope:Scope}{qual:Str}{spK:Addr→Addr→Sp}{key:Hp→V→Str}{e:Expr}{te:TE}(C0:CodeHd X.base c0 P)(hc:X.env.code=.ref c0)(Bm:BmB X.base X.mg)(hq:X.env.qual++"<lambda>"=qual)(hdef:defaultsOf params X.env=([],[]))(hcl:closureFor scope X.env=pure [])(hK:∀(base':Heap) (f c:Addr) (pm ctv:Value),(∀b o,X.base.get? b=some o→base'.get? b=some o)→base'.get? f=some (kla_obj "<lambda>" qual params body scope [] pm c ctv)→FnOk X.prog X.w X.K X.mg base' CX0 k f (kla_fn "<lambda>" qual params body scope [] pm (.ref c) ctv) [y] (spK f c))(hbn:∀(pm ctv:Value) (c:Addr),bx X.K (kla_fn "<lambda>" qual params body scope [] pm (.ref c) ctv) [y] [])(hr:Room (k+2) X.A)(hg:Gl X "sorted")(hm:X.mg "sorted"=none)(he:PE X e te)(hse:starEach [e] X.env=(false,eval e X.env)::starEach [] X.env:=by rfl)(hpl:(backTo pos (starEach [e] X.env)).any (·.1)=false:=by rfl):
  PE X (.Call (.Name "sorted" p) [e] [⟨some "key",.Lambda params body scope lpos,kpos⟩] pos) (pO P qual spK key te):=by
 intro pins s σ H Q I h;subst hq;refine wpAny_Call_Name_kw (cH I hg hm boot_sorted ?_ (by decide) (by decide));refine PyProof.Rows.callWith_kw ?_ (by rw[hse];rfl) hpl rfl rfl;refine thn (aa he ae hse pos pins s σ H (mh P (X.env.qual++"<lambda>") spK key Q) I h) λus s1 hpt=>?_;obtain⟨vs,H1,I1,r,q0⟩:=hpt;obtain⟨v,rfl⟩:∃v,vs=[v]:=by
  match vs,q0 with
  |[v],_=>exact⟨v,rfl⟩
 obtain⟨l,xs,rfl,hl,h64,T,q⟩:=q0;obtain⟨u,rfl,ru⟩:=cF r;cases ru;show wpAny _ _ (evalAll [(do let v ← eval (.Lambda params body scope lpos) X.env;standAt pos;pure v)]) _ _ s1
 refine wpAny_evalAll_cons (wpAny_bind (nO I1 C0 hc Bm T hdef hcl λf c pm ctv H' s2 off tq hc' J ho hsz hf hcell=>wpAny_bind (wpAny_standAt (wpAny_pure (wpAny_evalAll_nil ?_)))));obtain⟨hnd,hsp,qq⟩:=q f c H' off tq hc';have hl2:H' l=some (.lst xs):=off l _ (λz=>by obtain⟨ps,hP,_⟩:=T;rw[z,hP]at hl;cases hl) hl;have nf:f∉frs X.stack:=λhm=>by
  rcases mem_cons.mp (I1.stkSub f hm)with z|z
  ·have:=I1.lt;rw[←z]at this;exact absurd this (Nat.not_lt.mpr hsz)
  ·exact I1.nofs hsz z
 obtain⟨_,its,n,rv,hol⟩:=J.hok l _ hl2;have lenV:=rv.length;have F:=hK _ f c pm ctv J.bsub (lY ho hf nf);show wpAny _ _ (call (.builtin "sorted") [.ref l] [("key",.ref f)]) _ _ s2;refine call_function_entry_kw kind_sorted plain_sorted entry_sorted (ksk_s1 _ _) ?_;unfold Builtin.«sorted»;refine wpAny_bind (m:=checkCount "sorted" 1 1 _) (wpAny_pure (wpAny_bind (collect_list ⟨_,hol,rfl,n,rfl⟩ ?_ (by rw[sizeLine_eq];omega))));refine wpAny_bind (wpAny_newList ?_ (by rw[sizeLine_eq];omega));have hz:((s2.heap.push (seqObj "list" #[] 0)).update s2.heap.objs.size (Obj.mapSeq (· ++ its.toArray))).objs.size=s2.heap.objs.size+1:=by
  rw[size_update,size_push']
 have hoL:(((s2.heap.push (seqObj "list" #[] 0)).update s2.heap.objs.size (Obj.mapSeq (· ++ its.toArray))).push (seqObj "list" its.toArray 0)).get? (s2.heap.objs.size+1)=some (seqObj "list" its.toArray 0):=by
  rw[←hz];exact get?_push_size _ rfl
 have low:∀b o,b<s2.heap.objs.size→s2.heap.get? b=some o→(((s2.heap.push (seqObj "list" #[] 0)).update s2.heap.objs.size (Obj.mapSeq (· ++ its.toArray))).push (seqObj "list" its.toArray 0)).get? b=some o:=λb o hb e=>by
  rw[get?_push_ne _ _ _ (by rw[hz];exact ne_of_lt (lt_succ_of_lt hb)),get?_update_ne _ _ _ _ (ne_of_lt hb),get?_push_ne _ _ _ (ne_of_lt hb)];exact e
 have K0:KSt X.prog X.w H' (frs X.stack) s2 s2:=⟨rfl,J.bare,J.hok,Un.refl⟩;have K1:=K0.low (t:=s2.toks) J.hok low;show wpAny _ _ _ _ _ {s2 with heap:=((s2.heap.push (seqObj "list" #[] 0)).update s2.heap.objs.size (Obj.mapSeq (· ++ its.toArray))).push (seqObj "list" its.toArray 0)}
 rw[hz];refine wpAny_bind (wpAny_holding (wpAny_call_entry_kw slot_list_sort ⟨_,hoL,rfl⟩ entry_list_sort ?_ (ksk_l1 _ _)));show wpAny _ _ (Builtin.«list.sort» ⟨[.ref (s2.heap.objs.size+1)],[(ofString "key",.ref f)]⟩) _ _ _;rw[ksk_t1];refine md (key:=key H') F (hbn pm ctv c) hr.in1.in1 J.env0B.in1.in1 K1 (le_succ _) hoL rv h64 hnd hsp λpp s3 cc hrow hup K3 hD=>⟨_,rfl,wpAny_pure ⟨_,rfl,?_⟩⟩;have fD:H' (s2.heap.objs.size+1)=none:=J.hok.fresh (le_succ _);have eZ:(pp.toList.map λi=>xs.getD i V.non).length=xs.length:=by rw[length_map,length_toList];exact hrow.size
 have un:Un (frs X.stack) [] H' (upd H' (s2.heap.objs.size+1) (.lst (pp.toList.map λi=>xs.getD i .non))) s2.heap s3.heap:=by
  refine⟨K3.un.keep,K3.un.slot,λb o e n _=>?_,K3.un.there,λb xs e=>?_,λb o u e=>?_,λb ps e=>?_⟩
  ·rw[af (ne_of_lt (lt_succ_of_lt (lt_size e)))];exact n
  ·rw[af (ap e fD)];exact e
  ·rw[af (ap e fD)];exact e
  ·exact⟨#[],by rw[af (ap e fD),e];simp⟩
 have hok:HOk X.prog X.w (upd H' (s2.heap.objs.size+1) (.lst (pp.toList.map λi=>xs.getD i .non))) s3.heap:=λb u e=>by
  by_cases hb:b=s2.heap.objs.size+1
  ·subst hb;rw[ac]at e;cases e;refine⟨by rw[eZ,sizeLine_eq];omega,_,cc,fZ rv pp.toList (λi hi=>?_),hD⟩;exact mem_range.mp (hrow.perm.mem_iff.mp hi)
  ·rw[af hb]at e;exact(K3.hok b u e).stay (λ_ _ _ z=>z) (λc z=>by rw[af (ap z fD)];exact z) λc xs z=>by rw[af (ap z fD)];exact z
 have J3:=J.call' (s':=s3) (ch:=[]) K3.os un hok K3.bare λb z=>absurd z (by simp);exact⟨.ref (s2.heap.objs.size+1),_,J3,rfl,qq _ _ (mf hrow) (pN hrow hup) fD⟩
end
theorem kx{P:Program}{w:World}{K:PySem.W.Frag}{mg mb:Str→Option Value}{k:Nat}{fa a:Addr}{fd:FuncData}{x:Str}{sp:Sp}{s₁:Shared}{vs:List Value}{ns:List Int}{tabs:List Addr}(KX:K.In s₁.heap)(hns:s₁.heap.Ns mainGlobals mg)(hb:s₁.heap.Ns builtinsNs mb)(hbb:∀x:Str,x≠"__name__"→mb x=bootBuiltins x)(hlim:s₁.heap.NoLimit)(hg:s₁.gens=#[])(hT:∀t∈tabs,(∃c,CodeHd s₁.heap c t)∧s₁.heap.get? t=some (tabObj #[]))(hKT:∀t∈tabs,K.lookup t=none)(hbm:BmB s₁.heap mg)(ha:s₁.heap.get? a=some {cls:=.type "list",data:=.seq vs.toArray})(hi:IntsAre vs ns)(hl:ns.length≤sizeLine)(hr:Room k callerA)(F:∀base:Heap,K.In base→base.Ns mainGlobals mg→BmB base mg→FnOk P w K mg base CX0 k fa fd [x] sp)(hbind:∀(s:Shared) (u:Value),BindsTo s fd ⟨[u],[]⟩ [(x,u)])(hsp:∀H:Hp,SqL K H a (ns.map V.int)→(∀t∈tabs,H t=some (.tbl #[]))→sp [.ref a] H (λv _=>v=.bl true) λ_ _ _=>False):
  codeAny (model P w) callerA (.call (.ref fa) ⟨[.ref a],[]⟩) (λr s'=>r=.ok (.ret (.bool true))∧OldK s₁.heap s'.heap∧s'.os=s₁.os∧AllBare s'.gens) s₁:=by
 have rv:=fz hi;have lenV:=hi.length;have naT:a∉tabs:=λh=>by
  have:=(hT a h).2;rw[ha]at this;cases this
 have core:∀(H:Hp),SqL K H a (ns.map V.int)→HOk P w H s₁.heap→(∀t∈tabs,H t=some (.tbl #[]))→(∀b o,H b=some o→(b=a∧K.lookup a=none∧∃ob xs,o=.frz ob (.lst xs))∨b∈tabs) →
   codeAny (model P w) callerA (.call (.ref fa) ⟨[.ref a],[]⟩) (λr s'=>r=.ok (.ret (.bool true))∧OldK s₁.heap s'.heap∧s'.os=s₁.os∧AllBare s'.gens) s₁:=by
  intro H hS hok hTt hA;have base_of:∀{b:Addr}{o:Obj},s₁.heap.get? b=some o→H b=none→(eT s₁.heap H).get? b=some o:=λe n=>kE e n;have noA:∀{b:Addr}{o:Obj}{es:Array DictEntry}{ep:Nat},s₁.heap.get? b=some o→o.data=.dict es ep→H b=none:=λ{b o es ep} e d=>by
   cases q:H b with
   |none=>rfl
   |some u =>
    rcases hA b u q with⟨e',_⟩|hm
    ·subst e';rw[ha]at e;cases e;cases d
    ·rw[(hT b hm).2]at e;cases e;cases d
  have nsK:∀{b:Addr}{m:Str→Option Value},s₁.heap.Ns b m→(eT s₁.heap H).Ns b m:=λ{b m} ⟨o,es,ep,e,d,r⟩=>⟨o,es,ep,base_of e (noA e d),d,r⟩;have hKb:K.In (eT s₁.heap H):=λb o e=>base_of (KX b o e) (by
   cases q:H b with
   |none=>rfl
   |some u =>
    rcases hA b u q with⟨e',hk,_⟩|hm
    ·subst e';rw[hk]at e;cases e
    ·rw[hKT b hm]at e;cases e)
  have hM:Mod K mg (eT s₁.heap H):=⟨hKb,nsK hns,⟨mb,nsK hb,hbb⟩,let⟨mc,h1,h2⟩:=hlim;⟨mc,nsK h1,h2⟩⟩;have e0:Env0 P w K mg (eT s₁.heap H) callerA [] s₁ H:=⟨rfl,hM,λb o e=>my e,le_of_eq (jP _ _),trivial,λb hb=>absurd (show b∈([]:List Addr)from hb) (by simp),hok,.of_eq hg⟩;have hBm:BmB (eT s₁.heap H) mg:=by
   obtain⟨bm,o,b1,b2,b3,b4,b5,b6⟩:=hbm;refine⟨bm,o,b1,b2,base_of b3 ?_,b4,b5,b6⟩;cases q:H bm with
   |none=>rfl
   |some u =>
    rcases hA bm u q with⟨e',_⟩|hm
    ·subst e';rw[ha]at b3;cases b3;cases b6
    ·rw[(hT bm hm).2]at b3;cases b3;cases b6
  refine codeAny_mono ((F _ hKb (nsK hns) hBm).run callerA [] s₁ H ⟨[.ref a],[]⟩ [.ref a] [.ref a] _ _ hr e0 (hbind s₁ (.ref a)) (.cons rfl .nil) (hsp H hS hTt)) λr s' h=>?_;cases r with
  |error e=>exact False.elim h
  |ok fl =>
   cases fl with
   |next=>exact False.elim h
   |brk=>exact False.elim h
   |cont=>exact False.elim h
   |ret u =>
    obtain⟨v,H',os,bare,un,hok',r',q⟩:=h;have q':v=.bl true:=q;subst q';obtain rfl:u=Value.bool true:=r';refine⟨rfl,⟨λb o e=>?_,λb o e=>?_⟩,os,bare⟩
    ·cases q:H b with
     |none=>exact .inl (un.keep b o e q (by intro z;exact absurd (show b∈([]:List Addr)from z) (by simp)) (by simp))
     |some u =>
      rcases hA b u q with⟨e',_,ob,xs,z⟩|hm
      ·subst z;have z2:=un.frzs b ob _ q;obtain⟨e1,_⟩:=hok b _ q;obtain⟨e2,_⟩:=hok' b _ z2;rw[e]at e1;cases e1;exact .inl e2
      ·obtain⟨⟨c,C⟩,e1⟩:=hT b hm;obtain⟨more,e2⟩:=un.tbls b _ (hTt b hm);have e3:s'.heap.get? b=some (tabObj (#[]++more)):=hok' b _ e2;rw[e]at e1;cases e1;exact .inr (.inl ⟨(C.tab e).isCodeTable,rfl,#[],more,rfl,e3⟩)
    ·exact un.there b o e (by simp)
 cases hk:K.lookup a with
 |some o =>
  have e:=KX a o hk;rw[ha]at e;cases e;refine core (λb=>if b∈tabs then some (.tbl #[])else none) (.inr ⟨_,vs.toArray,_,hk,rfl,rfl,rfl,by rw[size_toArray,lenV];exact hl,by simpa using rv⟩) (λb u z=>?_) (λt h=>if_pos h) λb o z=>?_
  ·by_cases hb:b∈tabs
   ·have z':=(if_pos hb).symm.trans z;cases z';exact(hT b hb).2
   ·have z':=(if_neg hb).symm.trans z;cases z'
  ·by_cases hb:b∈tabs
   ·exact .inr hb
   ·have z':=(if_neg hb).symm.trans z;cases z'
 |none =>
  refine core (λb=>if b=a then some (.frz {cls:=.type "list",data:=.seq vs.toArray} (.lst (ns.map V.int)))else if b∈tabs then some (.tbl #[])else none) (.inl (.inr ⟨{cls:=.type "list",data:=.seq vs.toArray},if_pos rfl⟩)) (λb u z=>?_) (λt h=>?_) λb o z=>?_
  ·by_cases hb:b=a
   ·have z':=(if_pos hb).symm.trans z;cases z';subst hb;exact⟨ha,by rw[length_map];exact hl,vs,_,rv,ha⟩
   ·have z1:=(if_neg hb).symm.trans z
    by_cases hm:b∈tabs
    ·have z':=(if_pos hm).symm.trans z1;cases z';exact(hT b hm).2
    ·have z':=(if_neg hm).symm.trans z1;cases z'
  ·have:t≠a:=λz=>naT (by rw[←z];exact h);rw[if_neg this,if_pos h]
  ·by_cases hb:b=a
   ·have z':=(if_pos hb).symm.trans z;exact .inl ⟨hb,hk,_,_,(Option.some.inj z').symm⟩
   ·have z1:=(if_neg hb).symm.trans z
    by_cases hm:b∈tabs
    ·exact .inr hm
    ·have z':=(if_neg hm).symm.trans z1;cases z'
theorem mm{l:PySem.W.OpenLaw}{n k:Nat}{q:Program}{loose:List Str}{XP:(Str→Option Value)→Heap→Prop}{YP:World→Heap→Prop}{d:DefRec}{K:Params→PySem.W.Frag}{sp:World→Sp}{x:Str}{tabs:List Addr}(hn:l.most=some n)(hn2:n≤sizeLine)(hdf:d.params.defaults=[])(hr:Room k callerA)(hY:∀(w:World) (h:Heap),YP w h→(K w.params).In h)(hT:∀(w:World) (h:Heap),YP w h→∀t∈tabs,h.get? t=some (tabObj #[]))(hC:∀w:World,∀t∈tabs,(∃c,codeHdIn (K w.params) c t=true)∧(K w.params).lookup t=none)(F:∀(w:World) (mg:Str→Option Value) (fa:Addr) (h:Heap),(K w.params).In h→h.Ns mainGlobals mg→mg d.name=some (.ref fa) →
   ∃fd:FuncData,(∀(s:Shared) (u:Value),BindsTo s fd ⟨[u],[]⟩ [(x,u)]) ∧
    ∀base:Heap,(K w.params).In base→base.Ns mainGlobals mg→BmB base mg→FnOk l.prog w (K w.params) mg base CX0 k fa fd [x] (sp w))(hsp:∀(w:World) (H:Hp) (a:Addr) (ns:List Int),ns.length≤n→SqL (K w.params) H a (ns.map V.int)→(∀t∈tabs,H t=some (.tbl #[]))→sp w [.ref a] H (λv _=>v=.bl true) λ_ _ _=>False):
  PySem.W.WalkO q loose XP YP l.row.toRowW d [] (λf vs=>PySem.call f vs):=by
 refine Att.gS hn hdf λw s₀ s₁ mg mb fa o pm cd doc a vs ns G Y ho hd hcd hmg hobj hints hlen hg=>?_;have KX:=hY w _ Y;obtain⟨fd,hb,hF⟩:=F w mg fa _ KX G.T.g hmg;exact kx KX G.T.g G.T.b G.T.builtins G.T.nolimit hg (λt h=>⟨let⟨c,e⟩:=(hC w t h).1;⟨c,codeHd_of_K KX e⟩,hT w _ Y t h⟩) (λt h=>(hC w t h).2) G.T.bmain hobj hints (le_trans hlen hn2) hr hF hb λH hS hTt=>hsp w H a ns hlen hS hTt
theorem Fun.okT{P:Program}{w:World}{K:PySem.W.Frag}{mg:Str→Option Value}{base:Heap}{x qual:Str}{st:Stmt}{f c0:Addr}{fd:FuncData}{N ps:List Str}{k:Nat}{sp:Sp}(F:Fun K x qual st f fd)(hc:fd.code=.ref c0)(S:FnScope N ps (ai st))(len:∀vs H Q E,sp vs H Q E→vs.length=ps.length)(hbody:∀(A:Around) (outer:List Env) (s:Shared) (H:Hp) (vs:List V) (Q:VK) (E:XK),Room k (A.deeper (envOfC qual (ai st) s.heap.objs.size f (.ref c0)))→sp vs H Q E →
   ∃t,PSs (dJ CX0 P w K mg base N qual (ai st) f (.ref c0) A outer s H E).nox (aU st) t∧t {nx:=λ_ H'=>Q .non H',rt:=Q} (start N vs) H):FnOk P w K mg base CX0 (k+1) f fd ps sp:=by
 obtain⟨oc,od,kV,doc,pm,an,cdv,ct,osl,rfl,lk,hcd⟩:=F.ex;obtain rfl:cdv=.ref c0:=hc;refine kZ lk hcd S len λA outer s H vs Q E hr hsp=>?_;obtain⟨t,h,q⟩:=hbody A outer s H vs Q E hr hsp;exact⟨t,h.nox,q⟩
end L2
namespace TW
section
variable{S:Type}[DecidableEq S]
def lcp:List S→List S→List S
 |a::l,b::m=>if a=b then a::lcp l m else []
 |_,_=>[]
theorem dm:∀l m:List S,lcp l m=lcp m l
 |[],[]=>rfl
 |[],_::_=>rfl
 |_::_,[]=>rfl
 |a::l,b::m=>by
  unfold lcp
  by_cases h:a=b
  ·subst h;rw[if_pos rfl,if_pos rfl,dm l m]
  ·rw[if_neg h,if_neg (symm h)]
theorem dq:∀l m:List S,∃r,l=lcp l m++r
 |[],m=>⟨[],by cases m<;>rfl⟩
 |a::l,[]=>⟨a::l,rfl⟩
 |a::l,b::m=>by
  unfold lcp
  by_cases h:a=b
  ·obtain⟨r,e⟩:=dq l m;rw[if_pos h];exact⟨r,by rw[List.cons_append,←e]⟩
  ·rw[if_neg h];exact⟨_,rfl⟩
theorem mn(a:S)(x y:List S):lcp (a::x) (a::y)=a::lcp x y:=by simp[lcp]
theorem gF:∀c l m:List S,lcp (c++l) (c++m)=c++lcp l m
 |[],_,_=>rfl
 |a::c,l,m=>by
  show lcp (a::(c++l)) (a::(c++m))=a::(c++lcp l m);rw[mn,gF c l m]
theorem jJ(l:List S):lcp l []=[]:=by cases l<;>rfl
theorem jK(q r:List S):lcp (q++r) q=q:=by
 have:=gF q r [];rw[append_nil,jJ,append_nil]at this;exact this
theorem mq(l:List S):lcp l l=l:=by
 have:=jK l []
 rwa [append_nil]at this
theorem cz:∀(i:Nat)(l m:List S),(∀j,j<i→∃x,l[j]?=some x∧m[j]?=some x)→(l.length≤i∨m.length≤i∨l[i]?≠m[i]?)→lcp l m=l.take i
 |0,l,m,_,h=>by
  rw[take_zero];rcases h with h|h|h
  ·have:l=[]:=length_eq_zero_iff.mp (by omega);subst this;cases m<;>rfl
  ·have:m=[]:=length_eq_zero_iff.mp (by omega);subst this;exact jJ l
  ·cases l with
   |nil=>cases m<;>rfl
   |cons a l =>
    cases m with
    |nil=>rfl
    |cons b m =>
     unfold lcp;rw[if_neg];intro e;exact h (by rw[e];rfl)
 |i+1,l,m,hj,h=>by
  obtain⟨x,h1,h2⟩:=hj 0 (Nat.zero_lt_succ _);cases l with
  |nil=>cases h1
  |cons a l =>
   cases m with
   |nil=>cases h2
   |cons b m =>
    have ea:a=x:=Option.some.inj h1;have eb:b=x:=Option.some.inj h2;subst ea eb;unfold lcp;rw[if_pos rfl,List.take_succ_cons,cz i l m (λj h=>by simpa using hj (j+1) (by omega)) ?_]
    rcases h with h|h|h
    ·exact .inl (by simpa using h)
    ·exact .inr (.inl (by simpa using h))
    ·exact .inr (.inr (by simpa using h))
end
section
variable{S:Type}{ns:List (Nd S)}
theorem eS(T:Tree1 ns){g k:Int}(h:Und ns g k):∀{p:List S},PathTo ns k p→∃q r,PathTo ns g q∧p=q++r:=by
 induction h with
 |here=>intro p hp;exact⟨p,[],hp,(append_nil _).symm⟩
 |@up n hn _ ih =>
  intro p hp;obtain⟨q,e,hq⟩:=hp.inv T hn rfl;obtain⟨q',r,h1,h2⟩:=ih hq;exact⟨q',r++[n.nm],h1,by rw[e,h2,append_assoc]⟩
theorem ip(T:Tree1 ns){g:Int}{p:List S}(hg:PathTo ns g p):∀(m:Nat){r:List S}{k:Int},r.length=m→PathTo ns k (p++r)→Und ns g k
 |0,r,k,hl,hk=>by
  have:r=[]:=length_eq_zero_iff.mp hl;subst this;rw[append_nil]at hk;rw[hg.key T hk];exact .here
 |m+1,r,k,hl,hk=>by
  have hne:r≠[]:=λe=>by rw[e]at hl;cases hl
  obtain⟨r',x,rfl⟩:∃r' x,r=r'++[x]:=⟨r.dropLast,r.getLast hne,(List.dropLast_concat_getLast hne).symm⟩;rw[←append_assoc]at hk;generalize e:p++r'++[x]=q at hk;cases hk with
  |top=>exact absurd e (by simp)
  |@node n q' hn hq' =>
   have e1:p++r'=q':=by
    have:=congrArg List.dropLast e;simpa using this
   subst e1;exact .up hn (ip T hg m (by simpa using hl) hq')
theorem iq{k:Int}{p:List S}:∀(m:Nat){r:List S},r.length=m→PathTo ns k (p++r)→∃g,PathTo ns g p
 |0,r,hl,hk=>by
  have:r=[]:=length_eq_zero_iff.mp hl;subst this;rw[append_nil]at hk;exact⟨k,hk⟩
 |m+1,r,hl,hk=>by
  have hne:r≠[]:=λe=>by rw[e]at hl;cases hl
  obtain⟨r',x,rfl⟩:∃r' x,r=r'++[x]:=⟨r.dropLast,r.getLast hne,(List.dropLast_concat_getLast hne).symm⟩;rw[←append_assoc]at hk;obtain⟨j,hj⟩:=hk.prefix;exact iq (k:=j) m (by simpa using hl) hj
variable[DecidableEq S]
structure Meet(ns:List (Nd S))(a b t:Int)(p q:List S):Prop where
 pa:PathTo ns a p
 pb:PathTo ns b q
 pt:PathTo ns t (lcp p q)
theorem Meet.ex{a b:Int}{p q:List S}(ha:PathTo ns a p)(hb:PathTo ns b q):∃t,Meet ns a b t p q:=by
 obtain⟨r,e⟩:=dq p q;rw[e]at ha;obtain⟨t,ht⟩:=iq r.length rfl ha;rw[←e]at ha;exact⟨t,ha,hb,ht⟩
theorem Meet.swap{a b t:Int}{p q:List S}(h:Meet ns a b t p q):Meet ns b a t q p:=⟨h.pb,h.pa,by rw[dm];exact h.pt⟩
theorem Meet.und{a b t:Int}{p q:List S}(T:Tree1 ns)(h:Meet ns a b t p q):Und ns t a:=by
 obtain⟨r,e⟩:=dq p q;have:=h.pa;rw[e]at this;exact ip T h.pt r.length rfl this
theorem Meet.above{a b t:Int}{p q:List S}(T:Tree1 ns)(h:Meet ns a b t p q)(hu:Und ns b a):t=b:=by
 obtain⟨q',r,h1,h2⟩:=eS T hu h.pa;have e:q'=q:=h1.uniq T h.pb;subst e;have:=h.pt;rw[h2,jK]at this;exact this.key T h.pb
theorem Meet.child{a b t:Int}{p q:List S}(T:Tree1 ns)(h:Meet ns a b t p q){n:Nd S}(hn:n∈ns)(hp:n.par=t)(h1:Und ns n.num a)(h2:Und ns n.num b):False:=by
 have hpt:=h.pt;rw[←hp]at hpt;have hc:PathTo ns n.num (lcp p q++[n.nm]):=.node hn hpt;obtain⟨c1,r1,e1,f1⟩:=eS T h1 h.pa;obtain⟨c2,r2,e2,f2⟩:=eS T h2 h.pb;have g1:=e1.uniq T hc;have g2:=e2.uniq T hc;have e:lcp p q=(lcp p q++[n.nm])++lcp r1 r2:=by
  have:=gF (lcp p q++[n.nm]) r1 r2;rw[←g1,←f1,g1,←g2,←f2,g2]at this;exact this
 have:=congrArg length e;rw[length_append,length_append]at this;simp at this;omega
theorem Meet.less{a b t:Int}{p q:List S}(T:Tree1 ns)(h:Meet ns a b t p q)(hne:t≠a):(lcp p q).length<p.length:=by
 obtain⟨r,e⟩:=dq p q
 by_cases hr:r=[]
 ·rw[hr,append_nil]at e;have:=h.pt;rw[←e]at this;exact absurd (this.key T h.pa) hne
 ·have h1:=congrArg length e;rw[length_append]at h1;have:r.length≠0:=λz=>hr (length_eq_zero_iff.mp z);omega
end
end TW
namespace L2
theorem jL{K:PySem.W.Frag}{t1 t2:PySem.Addr}{xs ys:List V}{g:TG}{tb:TS}{D:Ends}{σ:St}{H:Hp}(Pv:Nat→St→Hp→Prop)(h0:Pv 0 σ H)(hl:∀i σ H,i≤min xs.length ys.length→Pv i σ H→SqT K H t1 xs∧SqT K H t2 ys)(hs:∀i x y p σ H,xs[i]?=some x→ys[i]?=some y→H p=none→Pv i σ H→g (.ref p) σ (upd H p (.tup [x,y])) λσ2 H2=>tb {D with nx:=Pv (i+1),ct:=Pv (i+1),bk:=D.nx} σ2 H2)(hd:∀σ H,Pv (min xs.length ys.length) σ H→D.nx σ H):
  ∃W:Nat→Nat→St→Hp→Prop,(∃m,W 0 m σ H)∧∀i m σ H,W i m σ H →
   ((Itz K t1 t2).stop i H∧D.nx σ H)∨((Itz K t1 t2).go i H∧∃N:St→Hp→Prop,(∀σ' H',N σ' H'→∃m',m'<m∧W (i+1) m' σ' H')∧∀x H',(Itz K t1 t2).yld i H x H'→g x σ H' λσ2 H2=>tb {D with nx:=N,ct:=N,bk:=D.nx} σ2 H2):=by
 refine⟨λi m σ H=>m=min xs.length ys.length-i∧i≤min xs.length ys.length∧Pv i σ H,⟨_,rfl,zero_le _,h0⟩,?_⟩;rintro i m σ H ⟨rfl,hi,p⟩;obtain⟨q1,q2⟩:=hl i σ H hi p
 by_cases hlt:i<min xs.length ys.length
 ·have l1:i<xs.length:=by omega
  have l2:i<ys.length:=by omega
  refine .inr ⟨⟨xs,ys,xs[i],ys[i],q1,q2,getElem?_eq_getElem l1,getElem?_eq_getElem l2⟩,Pv (i+1),λσ' H' p'=>⟨_,by omega,rfl,hlt,p'⟩,λv H' y=>?_⟩;obtain⟨pp,x,y,hp,rfl,hx,hy,rfl⟩:=y;exact hs i x y pp σ H (hx xs q1) (hy ys q2) hp p
 ·have e:i=min xs.length ys.length:=by omega
  subst e;exact .inl ⟨⟨xs,ys,q1,q2,by omega⟩,hd σ H p⟩
end L2
namespace TK
open PySem L2
theorem ky{α β:Type}{g:α→β}{l:List α}(h:(l.map g).Nodup){a b:α}(ha:a∈l)(hb:b∈l)(e:g a=g b):a=b:=by
 induction l with
 |nil=>cases ha
 |cons x r ih =>
  rw[map_cons,nodup_cons]at h;rcases mem_cons.mp ha with ea|ha'<;>rcases mem_cons.mp hb with eb|hb'
  ·rw[ea,eb]
  ·exact absurd (mem_map.mpr ⟨b,hb',by rw[←e,ea]⟩) h.1
  ·exact absurd (mem_map.mpr ⟨a,ha',by rw[e,eb]⟩) h.1
  ·exact ih h.2 ha' hb'
def ir(zs:ZN):List V:=zs.map λz=>V.int z.2.num
theorem iu{α β:Type}{g:α→β}{ys ms:List β}(h:ys.Perm ms):∀{zs:List α},ms=zs.map g→∃us:List α,us.map g=ys∧us.Perm zs:=by
 induction h with
 |nil =>
  intro zs e;cases zs with
  |nil=>exact⟨[],rfl,.refl _⟩
  |cons a r=>cases e
 |cons x _ ih =>
  intro zs e;cases zs with
  |nil=>cases e
  |cons a r =>
   injection e with e1 e2
   obtain⟨us,h1,h2⟩:=ih e2;exact⟨a::us,by rw[map_cons,h1,e1],h2.cons a⟩
 |swap x y l =>
  intro zs e
  match zs,e with
  |a::b::r,e =>
   injection e with e1 e2
   injection e2 with e2 e3
   exact⟨b::a::r,by rw[map_cons,map_cons,←e1,←e2,←e3],.swap a b r⟩
 |trans _ _ ih1 ih2 =>
  intro zs e;obtain⟨us,h1,h2⟩:=ih2 e;obtain⟨vs,h3,h4⟩:=ih1 h1.symm;exact⟨vs,h3,h4.trans h2⟩
def be(k:Int)(z:Addr×Nd):Bool:=decide (z.2.par=k)
structure Kids(zs:ZN)(k:Int)(ys:ZN):Prop where
 perm:ys.Perm (zs.filter (be k))
 up:ys.Pairwise λa b=>HT.ck a.2.nm b.2.nm=true
def dM:Str:=("children"++".<locals>.")++"<lambda>"
def qM(c:Addr):Sp:=λvs H Q _=>∃z:Addr×Nd,vs=[.ref z.1]∧H z.1=some (.tup (vals z.2))∧H c=some (.ext (cdφ c dM))∧Q (.str z.2.nm) H
def chS(i:Nat):Stmt:=(aU aY).getD i (.Pass ⟨0,0,0,0⟩)
theorem ow:FnScope ["tree","number","members"] ["tree","number"] (ai aY):=fsc
def nQ(H:Hp)(v:V):Str:=match v with
 |.ref a=>match H a with
  |some (.tup [_,_,.str x,_])=>x
  |_=>""
 |_=>""
theorem nR{H:Hp}{z:Addr×Nd}(h:H z.1=some (.tup (vals z.2))):nQ H (.ref z.1)=z.2.nm:=by
 show(match H z.1 with
  |some (.tup [_,_,.str x,_])=>x
  | _=>"")=_
 rw[h];rfl
section
variable{P:Program}{w:World}{K:PySem.W.Frag}{mg:Str→Option Value}{base:Heap}{f c0 Pt:Addr}{A:Around}{outer:List Env}{s:Shared}{H0:Hp}{E:XK}
abbrev CHX(P:Program)(w:World)(K:PySem.W.Frag)(mg:Str→Option Value)(base:Heap)(f c0:Addr)(A:Around)(outer:List Env)(s:Shared)(H:Hp)(E:XK):Cx:=(dJ CX0 P w K mg base ["tree","number","members"] "children" (ai aY) f (.ref c0) A outer s H E).nox
theorem ch2(T:Txt mg)(hr:Room 3 (A.deeper (PyProof.Rows.envOfC "children" (ai aY) s.heap.objs.size f (.ref c0))))(C0:CodeHd base c0 Pt)(Bm:BmB base mg):
  ∃rd,PS (CHX P w K mg base f c0 A outer s H0 E) (chS 2) rd∧∀(D:Ends)(H:Hp)(t l:Addr)(zs ms:ZN)(k:Int),At H zs→H l=some (.lst (aT ms))→ms=zs.filter (be k)→ms.length<64→(ms.map λz=>z.2.nm).Nodup→ca H Pt dM →
   (∀l' ys H',dA Pt H H'→ca H' Pt dM→Kids zs k ys→H l'=none→H' l'=some (.lst (ir ys))→D.rt (.ref l') H')→rd D [some (.ref t),some (.int k),some (.ref l)] H:=by
 refine⟨_,aM (gU (N:=["node"]) (cl:=[]) (k:=1) (js:=[]) (g:=bp 0) rfl (eG rfl (by decide +kernel) (by decide +kernel) (by decide +kernel)) rfl (λi j x h=>by simp at h)
  (cS (ml (k:=1) (y:="node") (qual:=dM) (spK:=λf c=>qM c) (key:=nQ) C0 rfl Bm rfl rfl rfl ?hK ?hbn hr rfl T.sorted (pv 2))) (λs H fp=>aJ (i:=0) (show(["node"]:List Str).Nodup by decide +kernel) rfl (Or.inl rfl) (Or.inr rfl))
  (λs H fp=>aP (r:=gm K) aS (pv 0) aj (λ_ _=>rfl))),?_⟩
 case hK =>
  intro base' f' c pm ctv sub ho;refine nP (k:=0) (fs:=[]) (fv:=[]) ho (λvs H Q E h=>?_) ⟨rfl,rfl,rfl,by decide +kernel,λx hx=>?_,by decide +kernel,λx h=>?_,λx y c h=>by simp at h⟩ ⟨λx c h=>by simp at h,rfl,λi x v h=>by simp at h⟩ (λvs H Q E h=>?_) (λA outer s H vs Q E hr h=>?_)
  ·obtain⟨z,_,_,h,_⟩:=h;exact h
  ·have:x="node":=by simpa using hx
   subst this;rfl
  ·exact absurd rfl ((by decide +kernel:∀y∈_,y.2≠NameKind.free) _ (PySem.mem_of_lookup h))
  ·obtain⟨z,rfl,_⟩:=h;rfl
  ·obtain⟨z,rfl,hz,hc,q⟩:=h;refine⟨_,aP (r:=gm K) aS (pv 0) aj (λ_ _=>rfl),?_⟩;exact⟨_,rfl,z.1,_,_,_,rfl,rfl,SqT.of hz,at2 z.2,q⟩
 case hbn=>exact λpm ctv c=>.all λus hl=>match us,hl with | [_],_=>rfl
 intro D H t l zs ms k hA hl em h64 hnd TQ q;subst em;have hmA:∀z∈zs.filter (be k),H z.1=some (.tup (vals z.2)):=λz hz=>hA z (mem_filter.mp hz).1;refine⟨_,rfl,l,_,rfl,hl,by rw[bb];exact h64,TQ,λf' c H' off tq hc=>?_⟩;have hnP:∀b xs,H b=some (.tup xs)→b≠Pt:=λb xs h z=>by
  obtain⟨ps,hP,_⟩:=TQ;rw[z,hP]at h;cases h
 have hA':∀z∈zs.filter (be k),H' z.1=some (.tup (vals z.2)):=λz hz=>off _ _ (hnP _ _ (hmA z hz)) (hmA z hz);have hkey:∀z∈zs.filter (be k),nQ H' (.ref z.1)=z.2.nm:=λz hz=>nR (hA' z hz);have er:aT (zs.filter (be k))=(zs.filter (be k)).map λz=>V.ref z.1:=by unfold aT;rw[map_map];rfl
 refine⟨?_,λx hx=>?_,λD' ys' hp hup hD=>?_⟩
 ·rw[er,map_map];show((zs.filter (be k)).map λz=>nQ H' (V.ref z.1)).Nodup;rw[map_congr_left (g:=λz:Addr×Nd=>z.2.nm) λz hz=>hkey z hz];exact hnd
 ·rw[er]at hx;obtain⟨z,hz,rfl⟩:=mem_map.mp hx;exact⟨z,rfl,hA' z hz,hc,by rw[hkey z hz],rfl⟩
 ·
  have hin:∀v∈ys',∃z∈zs.filter (be k),v=.ref z.1:=λv hv=>by
   have:=hp.mem_iff.mp hv;rw[er]at this;obtain⟨z,hz,e⟩:=mem_map.mp this;exact⟨z,hz,e.symm⟩
  obtain⟨us,eu,pu⟩:∃us:ZN,us.map (λz=>V.ref z.1)=ys'∧us.Perm (zs.filter (be k)):=by
   rw[er]at hp;exact iu hp rfl
  have hKids:Kids zs k us:=⟨pu,by
   rw[←eu,pairwise_map]at hup;refine hup.imp_of_mem λ{a b} ha hb h=>?_;rw[hkey a (pu.mem_iff.mp ha),hkey b (pu.mem_iff.mp hb)]at h;exact h⟩
  have hD':upd H' D' (.lst ys') D'=some (.lst ys'):=ac;have sD:=ag (o:=.lst ys') hD;refine⟨D',rfl,⟨_,SqL.of hD'⟩,λp hp2=>?_⟩;refine ny (fr:=[]) us (λz=>V.ref z.1) (by rw[pu.length_eq];omega) hp2 (jz (by rw[eu];exact SqL.of hD')) rfl (λz y _=>y=.int z.2.num) (λ_ _ _ _ h _=>h) (λz H2 kk mz s2 _ hk=>?_) (λys2 H2 s2 hp' hys=>?_)
  ·have hz:=pu.mem_iff.mp mz;exact⟨_,rfl,z.1,_,_,_,rfl,rfl,SqT.of (s2 _ _ (sD _ _ (hA' z hz))),at0 z.2,hk _ H2 (Same.refl _) rfl⟩
  ·have ey:=cL (f:=λz:Addr×Nd=>V.int z.2.num) hys (λz y _ h=>h);have off2:dA Pt H H2:=λb o n e=>s2 _ _ (sD _ _ (off b o n e));have tq2:ca H2 Pt dM:=by
    obtain⟨ps,h1,h2,h3⟩:=tq;exact⟨ps,s2 _ _ (sD _ _ h1),h2,λpos cv e=>let⟨c,e1,e2⟩:=h3 pos cv e;⟨c,e1,s2 _ _ (sD _ _ e2)⟩⟩
   have hp0:H p=none:=by
    cases e:H p with
    |none=>rfl
    |some o =>
     by_cases z:p=Pt
     ·subst z;obtain⟨ps,h1,_⟩:=tq;rw[sD _ _ h1]at hp2;cases hp2
     ·rw[sD _ _ (off p o z e)]at hp2;cases hp2
   exact q p us H2 off2 tq2 hKids hp0 (by rw[hp',ey];rfl)
def iw(Pt:Addr):Sp:=λvs H Q _=>∃t k zs,vs=[.ref t,.int k]∧Tre H t zs∧0≤k∧k≤60∧(k=0∨∃z∈zs,z.2.num=k∧z.2.st=none)∧ca H Pt dM∧∀l ys H',dA Pt H H'→ca H' Pt dM→Kids zs k ys→H l=none→H' l=some (.lst (ir ys))→Q (.ref l) H'
theorem cB{H H':Hp}{Pt:Addr}{qual:Str}(h:ca H Pt qual)(s:Same H H'):ca H' Pt qual:=by
 obtain⟨ps,h1,h2,h3⟩:=h;exact⟨ps,s _ _ h1,h2,λpos cv e=>let⟨c,e1,e2⟩:=h3 pos cv e;⟨c,e1,s _ _ e2⟩⟩
theorem jd{zs:ZN}(h:TW.bA (nds zs))(k:Int):((zs.filter (be k)).map λz=>z.2.nm).Nodup:=by
 unfold TW.bA nds at h;rw[map_map]at h;unfold Nodup at h⊢;rw[pairwise_map]at h⊢;refine(h.sublist List.filter_sublist).imp_of_mem λ{a b} ha hb hab e=>hab ?_;have e1:a.2.par=k:=by simpa [be]using (mem_filter.mp ha).2
 have e2:b.2.par=k:=by simpa [be]using (mem_filter.mp hb).2
 show(a.2.par,a.2.nm)=(b.2.par,b.2.nm);rw[e1,e2,e]
def mr:Sp:=λvs H Q _=>∃d k zs,vs=[.ref d,.int k]∧eN H d zs∧At H zs∧((nds zs).map (·.num)).Nodup∧0≤k∧k≤60∧(k=0∨∃z∈zs,z.2.num=k∧z.2.st=none)∧Q .non H
theorem qO:FnScope ["nodes","number"] ["nodes","number"] (ai pC):=fsc
theorem pP{CN0:Addr}{fd:FuncData}(F:Fun K "check_folder" "check_folder" pC f fd)(T:Txt mg)(CN:eY P w K mg base 1 "node_of" ["nodes","number"] (ie CN0)):FnOk P w K mg base CX0 2 f fd ["nodes","number"] mr:=by
 obtain⟨fN,fdN,GN,mN,kN,bN⟩:=CN;obtain⟨tt,hT⟩:=T.top;refine F.ok qO (λvs H Q E h=>?_) (λcdv A outer s H vs Q E hr h=>?_)
 ·obtain⟨d,k,zs,rfl,_⟩:=h;rfl
 ·obtain⟨d,k,zs,rfl,hd,hA,hnd,k0,k1,hk,q⟩:=h;refine⟨_,ak (bi (PW.pt (pw_and (aw bQ (pv 1) (dN (v:=.int 0) rfl hT ⟨_,rfl⟩) (aF _)) (pw_and1 (aw mJ (aP aS (al GN hr rfl mN kN bN .nil hZ (aa (pv 0) (aa (pv 1) ae))) aj (λ_ _=>rfl)) gc (aF _))))) bt aI),?_⟩
  by_cases h0:k=0
  ·subst h0;exact⟨_,rfl,rfl,_,rfl,aW (aW q)⟩
  ·obtain⟨z,hz,e,hs⟩:=hk.resolve_left h0;refine⟨_,rfl,rfl,_,rfl,?_⟩;rw[show(!decide (V.int k=V.int 0))=true by simp[h0]];refine cn ⟨_,rfl,_,rfl,d,k,zs,rfl,hd,hnd,k0,k1,λy hy ey=>?_,λhno=>absurd e (hno z hz)⟩;have:y=z:=ky (g:=λz:Addr×Nd=>z.2.num) (by unfold nds at hnd;rw[map_map]at hnd;exact hnd) hy hz (ey.trans e.symm);subst this;refine⟨y.1,_,_,_,rfl,rfl,SqT.of (hA y hy),at3 y.2,rfl,_,rfl,?_⟩;rw[hs];exact aW q
theorem pQ{fd:FuncData}(F:Fun K "children" "children" aY f fd)(hc:fd.code=.ref c0)(T:Txt mg)(C0:CodeHd base c0 Pt)(Bm:BmB base mg)(CB:Has P w K mg base 1 "by_number" ["tree"] ic)(CF:Has P w K mg base 2 "check_folder" ["nodes","number"] mr):FnOk P w K mg base CX0 4 f fd ["tree","number"] (iw Pt):=by
 obtain⟨fB,fdB,GB,mB,kB,bB⟩:=CB;obtain⟨fF,fdF,GF,mF,kF,bF⟩:=CF;refine F.okT hc ow (λvs H Q E h=>?_) (λA outer s H vs Q E hr h=>?_)
 ·obtain⟨t,k,zs,rfl,_⟩:=h;rfl
 ·obtain⟨t,k,zs,rfl,tr,k0,k1,hk,TQ,q⟩:=h;have hl:=tr.len;have hnd:=bg tr.tr;have hr1:Room 1 _:=hr.mono (by decide);have hr2:Room 2 _:=hr.mono (by decide);obtain⟨r2,p2,h2⟩:=ch2 (P:=P) (w:=w) (K:=K) (outer:=outer) (H0:=H) (E:=E) T hr C0 Bm;refine⟨_,ah (bf (al GF hr2 rfl mF kF bF .nil aD (aa (al GB hr1 rfl mB kB bB .nil aD (aa (pv 0) ae)) (aa (pv 1) ae))))
   (ah (kn (ii:=2) (N:=["node","number"]) (cl:=[("number",s.heap.objs.size+1)]) (k:=1) (js:=[1]) (g:=bp 0) ow.nd rfl (Or.inl rfl) rfl
    (LcOk.mk' ["number"] rfl rfl (by decide +kernel) (by decide +kernel) ?hcl rfl (by decide +kernel)) rfl ?hj (dt (pv 0)) (λs H fp=>aJ (i:=0) (show(["node","number"]:List Str).Nodup by decide +kernel) rfl (Or.inl rfl) (Or.inr rfl))
    (λs H fp=>aw nY (aP (r:=gm K) aS (pv 0) aj (λ_ _=>rfl)) (pv 1) (aF _)) (λs H fp=>pv 0)) (ak p2)),?_⟩
  case hcl =>
   intro y hy;rcases mem_cons.mp hy with e|hy
   ·rw[e];rfl
   ·cases hy
  case hj =>
   intro i j x h1 h2
   match i,h1,h2 with
   |0,h1,h2 =>
    cases h1;cases h2;exact⟨rfl,Or.inr (Or.inl rfl),(show((ai aY).names.lookup ("number":Str)≠some NameKind.local)by decide +kernel),by first|exact Or.inl rfl|exact Or.inr rfl⟩
   |i+1,h1,h2=>simp at h1
  refine⟨_,rfl,t,zs,rfl,tr.tup,tr.nod,by omega,hnd,λd H1 s1 nd1=>⟨_,rfl,d,k,zs,rfl,nd1,tr.nod.same s1,hnd,k0,k1,hk,?_⟩⟩;have ht1:=s1 _ _ tr.tup;refine⟨_,rfl,t,rfl,⟨_,SqT.of ht1⟩,λp hp=>?_⟩;refine lH (fr:=[some (.int k)]) zs (λz=>V.ref z.1) (by omega) hp (nw (by rw[lN];exact SqT.of ht1)) rfl (be k) (λz y _=>y=.ref z.1) (λ_ _ _ _ h _=>h) (λz H' kk mz s2 _ hk=>?_) (λz H' kk mz _ s2 _ hk=>?_) (λys H' s2 hp' hys=>?_)
  ·refine⟨_,rfl,z.1,_,_,_,rfl,rfl,SqT.of (s2 _ _ (s1 _ _ (tr.nod z mz))),at1 z.2,_,rfl,rfl,_,rfl,?_⟩;have e:decide (V.int z.2.par=V.int k)=be k z:=by unfold be;simp
   rw[e];exact hk H' (Same.refl _)
  ·exact⟨_,rfl,hk _ H' (Same.refl _) rfl⟩
  ·have ey:=cL (f:=λz:Addr×Nd=>V.ref z.1) hys (λz y _ h=>h);have s12:=s1.trans s2;have hle:(zs.filter (be k)).length≤zs.length:=length_filter_le _ _;refine h2 _ H' t p zs _ k (tr.nod.same s12) (by rw[hp',ey];unfold aT;rw[map_map];rfl) rfl (by omega) (jd tr.tr.own k) (cB TQ s12) λl us H2 off tq hK hl0 hl2=>?_;exact q l us H2 (λb o n e=>off b o n (s12 _ _ e)) tq hK (s12.free hl0) hl2
def ga:Sp:=λvs H Q _=>∃d k g as zs p,vs=[.ref d,.int k,.int g]∧Book H d as zs∧TW.Tree1 (nds zs)∧TW.PathTo (nds zs) k p∧∀b,(b=true↔TW.Und (nds zs) g k)→Q (.bl b) H
theorem pR{f:Addr}{fd:FuncData}(F:Fun K "_law_under" "_law_under" iZ f fd):FnOk P w K mg base CX0 1 f fd ["_law_book_here","_law_number","_law_goal"] ga:=by
 refine F.ok oq (λvs H Q E h=>?_) (λcdv A outer s H vs Q E hr h=>?_)
 ·obtain⟨d,k,g,as,zs,p,rfl,_⟩:=h;rfl
 ·obtain⟨d,k,g,as,zs,p,rfl,bk,hTr,hp,q⟩:=h;have hnd:=bg hTr;refine⟨_,ah (cR PassesOwn.never (PW.pt (pw_and (aw bQ (pv 1) aj (aF _)) (pw_and1 (aw bQ (pv 1) (pv 2) (aF _)))))
    (ak (ar (i:=1) oq.nd rfl (Or.inl rfl) (aP aS (cA (dE hr) (pv 0) (pv 1) (λ_ _=>rfl)) aj (λ_ _=>rfl)))))
   (ak (aM (mO nY (pv 1) (pv 2) (aF _)))),?_⟩
  refine cT (λσ H'=>∃at' q',σ=[some (.ref d),some (.int at'),some (.int g)]∧TW.PathTo (nds zs) at' q'∧(TW.Und (nds zs) g k↔TW.Und (nds zs) g at')∧H'=H)
   (λσ H'=>match σ with | [_,some (.int k),_]=>eZ (nds zs) k | _=>0) ⟨k,p,rfl,hp,Iff.rfl,rfl⟩ (λσ H' h=>?_) ?_
  ·obtain⟨at',q',rfl,hq',hu,rfl⟩:=h;have last:∀b:Bool,(b=true↔TW.Und (nds zs) g at')→Q (.bl b) H':=λb hb=>q b (hb.trans hu.symm);refine⟨_,rfl,rfl,_,rfl,?_⟩
   by_cases h0:at'=0
   ·have hne:decide (V.int at'=V.int 0)=true:=by simp[h0]
    rw[hne];refine aW (aW ⟨_,rfl,_,rfl,rfl,last _ ?_⟩);rw[decide_eq_true_eq];constructor
    ·intro e;injection e with e;rw[←e];exact .here
    ·intro hx;have:=hx.zero hTr h0;rw[h0,this]
   ·have hne:decide (V.int at'=V.int 0)=false:=by simp[h0]
    rw[hne];refine cn ⟨_,rfl,_,rfl,rfl,_,rfl,?_⟩
    by_cases hg':at'=g
    ·have hne:decide (V.int at'=V.int g)=true:=by simp[hg']
     rw[hne];refine aW ⟨_,rfl,_,rfl,rfl,last _ ?_⟩;rw[hne];constructor
     ·intro _;rw[hg'];exact .here
     ·intro _;rfl
    ·have hne:decide (V.int at'=V.int g)=false:=by simp[hg']
     rw[hne];refine cn ?_;obtain⟨z,hz,e1,q'',e2,hq''⟩:=dQ hTr hq' h0;subst e1;obtain⟨b,hb1,hb2⟩:=bk.get hnd hz;refine⟨_,rfl,_,rfl,d,_,rfl,hb1,b,_,_,_,rfl,rfl,SqT.of hb2,qF z.2,?_⟩;have mz:z.2∈nds zs:=mem_map.mpr ⟨z,hz,rfl⟩;refine⟨⟨z.2.par,q'',rfl,hq'',hu.trans ⟨λh=>h.inv hTr mz rfl hg',λh=>.up mz h⟩,rfl⟩,?_⟩;show eZ (nds zs) z.2.par<eZ (nds zs) z.2.num;rw[dR hTr hq'',dR hTr hq',e2];simp
  ·rintro σ H1 Q1 Q2 m ⟨v,e,h2,b,e3,q⟩;refine⟨v,e,h2,b,e3,?_⟩;cases b with
   |false=>exact m _ _ q
   |true =>
    obtain⟨v1,f1,v2,f2,h3,b',e4,q'⟩:=q;exact⟨v1,f1,v2,f2,h3,b',e4,m _ _ q'⟩
def ix:Sp:=λvs H Q _=>∃t k zs p,vs=[.ref t,.int k]∧Tre H t zs∧0≤k∧k≤60∧(∃z∈zs,z.2.num=k)∧TW.PathTo (nds zs) k p∧∀H',Same H H'→Q (.int p.length) H'
theorem qP:FnScope ["tree","number"] ["tree","number"] (ai cM):=fsc
theorem pS{CN0:Addr}{fd:FuncData}(F:Fun K "depth_of" "depth_of" cM f fd)(T:Txt mg)(CP:eY P w K mg base 2 "path_of" ["tree","number"] (jG CN0)):FnOk P w K mg base CX0 3 f fd ["tree","number"] ix:=by
 obtain⟨fP,fdP,GP,mP,kP,bP⟩:=CP;refine F.ok qP (λvs H Q E h=>?_) (λcdv A outer s H vs Q E hr h=>?_)
 ·obtain⟨t,k,zs,p,rfl,_⟩:=h;rfl
 ·obtain⟨t,k,zs,p,rfl,tr,k0,k1,⟨z,hz,ez⟩,hp,q⟩:=h;refine⟨_,ak (aM (aN aK rfl T.len boot_len (aa (al GP hr rfl mP kP bP .nil hZ (aa (pv 0) (aa (pv 1) ae))) ae))),?_⟩;refine⟨_,rfl,_,rfl,t,k,zs,rfl,tr,k0,k1,λz' hz' ez' p' hp' t' H' s' ht'=>?_,λhno=>absurd ez (hno z hz)⟩;have e:=hp'.uniq tr.tr hp;subst e;refine⟨t',_,rfl,.inr (SqT.of ht'),?_⟩;rw[length_map];exact q H' s'
theorem pT{xs:List V}{k:Nat}(h:k≤xs.length):gM xs none (some (k:Int))=xs.take k:=by
 unfold gM;rw[HT.jl,HT.la,Nat.min_eq_left h];simp
def mt:Sp:=λvs H Q _=>∃a b p q',vs=[.ref a,.ref b]∧H a=some (.tup (p.map V.str))∧H b=some (.tup (q'.map V.str))∧p.length≤100∧∀t H',Same H H'→H' t=some (.tup ((TW.lcp p q').map V.str))→Q (.ref t) H'
theorem iy:FnScope ["one","other","shared","name","other_name"] ["one","other"] (ai bE):=fsc
theorem pU{fd:FuncData}(F:Fun K "shared_start" "shared_start" bE f fd)(T:Txt mg):FnOk P w K mg base CX0 1 f fd ["one","other"] mt:=by
 refine F.ok iy (λvs H Q E h=>?_) (λcdv A outer s H vs Q E hr h=>?_)
 ·obtain⟨a,b,p,q',rfl,_⟩:=h;rfl
 ·obtain⟨a,b,p,q',rfl,ha,hb,hpl,q⟩:=h;refine⟨_,ah (ar (i:=2) iy.nd rfl (Or.inl rfl) aj)
   (ah (cr PassesOwn.never rfl (ly rfl T.zip (aa (pv 0) (aa (pv 1) ae))) (kH (n:=2) rfl (cQ (aJ (i:=3) iy.nd rfl (Or.inl rfl)) (cQ (aJ (i:=4) iy.nd rfl (Or.inl rfl)) jg)))
    (ah (bi (aw bQ (pv 3) (pv 4) (aF _)) (ak gJ) aI) (ak (oG (i:=2) iy.nd rfl (Or.inl rfl) aj mH))))
   (ak (aM (dZ (iI.or iP) (pv 0) jo (dO (pv 2)))))),?_⟩
  have le:∀(i:Nat),i≤p.length→(i<p.length→¬(HT.sIx (p.map V.str).length 0 none=0∧HT.sIx (p.map V.str).length (p.map V.str).length (some (i:Int))=(p.map V.str).length))∧(i=p.length→HT.sIx (p.map V.str).length (p.map V.str).length (some (i:Int))=(p.map V.str).length):=λi hi=>by
   rw[HT.jl,length_map];exact⟨λh z=>by have:=z.2;omega,λh=>by omega⟩
  have fin:∀(i:Nat)(H1:Hp)(x3 x4:Option V),Same H H1→i≤p.length→TW.lcp p q'=p.take i→(oE (tSl (λx lo hi H Q=>mQ K x lo hi H Q∨∃a xs,x=.ref a∧SqT K H a xs∧HT.sIx xs.length 0 lo=0∧HT.sIx xs.length xs.length hi=xs.length∧Q (.ref a) H) (jQ 0) jn (oa (jQ 2)))) {nx:=λ_ H'=>Q .non H',rt:=Q} [some (.ref a),some (.ref b),some (.int (i:Int)),x3,x4] H1:=λi H1 x3 x4 s1 hi e=>by
   have ha1:=s1 _ _ ha;refine⟨_,rfl,_,rfl,_,rfl,?_⟩
   by_cases h:i<p.length
   ·refine .inl ⟨a,_,rfl,SqT.of ha1,(le i hi).1 h,λt ht=>q t _ (s1.trans (ag ht)) ?_⟩;rw[ac,e,pT (by rw[length_map];exact hi),List.map_take]
   ·have e2:i=p.length:=by omega
    refine .inr ⟨a,_,rfl,SqT.of ha1,rfl,(le i hi).2 e2,q a H1 s1 ?_⟩;rw[ha1,e,e2,take_length]
  refine⟨_,rfl,_,rfl,a,b,_,_,rfl,ha,hb,jL (xs:=p.map V.str) (ys:=q'.map V.str) (λi σ H'=>∃x3 x4,σ=[some (.ref a),some (.ref b),some (.int (i:Int)),x3,x4]∧Same H H'∧∀j,j<i→∃x,p[j]?=some x∧q'[j]?=some x) ⟨_,_,rfl,Same.refl _,λj h=>absurd h (Nat.not_lt_zero _)⟩ (λi σ H' _ h=>?_) (λi x y pp σ H' hx hy hpp h=>?_) (λσ H' h=>?_)⟩
  ·obtain⟨_,_,_,s1,_⟩:=h;exact⟨SqT.of (s1 _ _ ha),SqT.of (s1 _ _ hb)⟩
  ·obtain⟨x3,x4,rfl,s1,hj⟩:=h;rw[getElem?_map]at hx hy;cases e1:p[i]? with
   |none=>rw[e1]at hx;cases hx
   |some u =>
    cases e2:q'[i]? with
    |none=>rw[e2]at hy;cases hy
    |some v =>
     rw[e1]at hx;rw[e2]at hy;have ex:=Option.some.inj hx;have ey:=Option.some.inj hy;subst ex ey;have hi:i<p.length:=(List.getElem?_eq_some_iff.mp e1).1;have s2:=ag (o:=.tup [.str u,.str v]) hpp;refine⟨pp,_,rfl,SqT.of ac,rfl,_,_,rfl,_,_,rfl,rfl,?_⟩;refine⟨_,rfl,_,rfl,rfl,_,rfl,?_⟩
     by_cases h:u=v
     ·rw[show(!decide (V.str u=V.str v))=false by simp[h]];refine aW ⟨_,rfl,_,_,rfl,rfl,?_⟩;refine⟨_,_,rfl,s1.trans s2,λj hlt=>?_⟩
      by_cases ej:j=i
      ·subst ej;exact⟨u,e1,by rw[e2,h]⟩
      ·exact hj j (by omega)
     ·rw[show(!decide (V.str u=V.str v))=true by simp[h]];refine cn ?_;exact fin i _ _ _ (s1.trans s2) (by omega) (TW.cz i p q' hj (.inr (.inr (by rw[e1,e2];exact λz=>h (Option.some.inj z)))))
  ·obtain⟨x3,x4,rfl,s1,hj⟩:=h;rw[length_map,length_map]at hj⊢;exact fin _ H' x3 x4 s1 (by omega) (TW.cz _ p q' hj (by omega))
end
end TK
namespace L2
open PySem PySem.Spec PyProof.Rows
section
variable{X:Cx}{pins:List (Addr×Obj)}{σ:St}{H:Hp}{s:Shared}
theorem jM{us:List Value}{j:Nat}{u:Value}(h1:j<us.toArray.size)(hu:us[j]?=some u):us.toArray[j]=u:=by
 have:us[j]?=some us.toArray[j]:=by rw[getElem?_eq_getElem (by simpa using h1)];simp
 rw[hu]at this;exact(Option.some.inj this).symm
end
theorem nS{p q:List Str}:((List.range (min p.length q.length)).all (λj=>eqV (.str (p.getD j "")) (.str (q.getD j "")))&&p.length==q.length)=decide (p=q):=by
 rw[Bool.eq_iff_iff,and_eq_true,all_eq_true,decide_eq_true_eq,beq_iff_eq];constructor
 ·rintro⟨h1,h2⟩;apply List.ext_getElem h2;intro i hi hj;have:=h1 i (mem_range.mpr (by omega));have e:p.getD i ""=q.getD i "":=by simpa [eqV]using this
  rw[getD_eq_getElem?_getD,getD_eq_getElem?_getD,getElem?_eq_getElem hi,getElem?_eq_getElem hj]at e;exact e
 ·rintro rfl;exact⟨λj _=>by simp[eqV],rfl⟩
section
variable{X:Cx}
theorem nT(hu:X.A.units+4<cLine):OpR X (compareOp .Eq) (λx y H Q=>∃a b,∃p q:List Str,x=.ref a∧y=.ref b∧H a=some (.tup (p.map V.str))∧H b=some (.tup (q.map V.str))∧Q (.bl (decide (p=q))) H):=by
 intro pins s σ H x y v u Q I rx ry h;obtain⟨a,b,p,q,rfl,rfl,ha,hb,k⟩:=h;cases rx;cases ry;obtain⟨_,us,r1,t1⟩:=I.hok a _ ha;obtain⟨_,ws,r2,t2⟩:=I.hok b _ hb;have l1:=r1.length;have l2:=r2.length;rw[length_map]at l1 l2;refine SeqAt.eq_tupleAt (e:=λj=>eqV (.str (p.getD j "")) (.str (q.getD j ""))) t1 t2 (by omega) (λj h1 h2=>?_) ⟨.bl (decide (p=q)),H,I,?_,k⟩
 ·have h1':j<p.length:=by rw[l1];simpa using h1
  have h2':j<q.length:=by rw[l2];simpa using h2
  obtain⟨u',hu1,hu2⟩:=r1.get (i:=j) (x:=.str p[j]) (by rw[getElem?_map,getElem?_eq_getElem h1'];rfl);obtain⟨v',hv1,hv2⟩:=r2.get (i:=j) (x:=.str q[j]) (by rw[getElem?_map,getElem?_eq_getElem h2'];rfl);rw[jM h1 hu1,jM h2 hv1];rw[getD_eq_getElem?_getD,getD_eq_getElem?_getD,getElem?_eq_getElem h1',getElem?_eq_getElem h2'];exact lg hu2 hv2 rfl rfl
 ·show _=Value.bool _
  congr 1
  rw[←nS];simp only[size_toArray,l1,l2]
end
end L2
namespace TK
open PySem L2
section
variable{P:Program}{w:World}{K:PySem.W.Frag}{mg:Str→Option Value}{base:Heap}{f:Addr}
def je(K:PySem.W.Frag):Sp:=λvs H Q _=>∃a k,vs=[.ref a,.int k]∧0≤k∧bJ K H a∧∀r H',Same H H'→Q (.int r) H'
theorem pV:FnScope ["_law_script","_law_k"] ["_law_script","_law_k"] (ai lQ):=fsc
theorem nU{f:Addr}{fd:FuncData}(F:Fun K "_law_cell" "_law_cell" lQ f fd)(T:Txt mg):FnOk P w K mg base CX0 1 f fd ["_law_script","_law_k"] (je K):=by
 refine F.ok pV (λvs H Q E h=>?_) (λcdv A outer s H vs Q E hr h=>?_)
 ·obtain⟨a,k,rfl,_⟩:=h;rfl
 ·obtain⟨a,k,rfl,hk,⟨ns,ea⟩,q⟩:=h;refine⟨_,ah (bi (aw qm (pv 1) (aN aK rfl T.len boot_len (aa (pv 0) ae)) (aF _)) (ak (aM (aP bG (pv 0) (pv 1) (λ_ _=>rfl)))) aI)
   (ah (bi (aw (iQ hr.units0) (pv 0) (aX ae) (aF _)) (ak (aM aj)) aI)
   (ak (aM (aB aR (aB ce (aP bG (pv 0) (aB gk (pv 1) (aN aK rfl T.len boot_len (aa (pv 0) ae))) (λ_ _=>rfl)) aj) (pv 1))))),?_⟩
  refine⟨_,rfl,_,rfl,a,_,rfl,.inl (ea),_,_,rfl,rfl,_,rfl,?_⟩;rw[length_map]
  by_cases h:k<(ns.length:Int)
  ·rw[decide_eq_true h];obtain⟨j,ej⟩:=ia hk h;exact cn ⟨_,rfl,_,rfl,a,_,_,_,rfl,rfl,ea,ej,q _ _ (Same.refl _)⟩
  ·rw[decide_eq_false h];refine aW ⟨_,rfl,zero_le _,λp hp=>⟨a,p,_,rfl,rfl,((ag hp).seq ea),SqL.of ac,_,rfl,?_⟩⟩
   by_cases h0:ns=[]
   ·subst h0;exact cn (q _ _ (ag hp))
   ·have hne:¬ns.map V.int=[]:=by simpa using h0
    rw[decide_eq_false hne];have hpos:0<ns.length:=List.length_pos_iff.mpr h0;have hm1:0≤k % (ns.length:Int):=Int.emod_nonneg _ (by omega);have hm2:k % (ns.length:Int)<ns.length:=Int.emod_lt_of_pos _ (by omega);obtain⟨j,ej⟩:=ia hm1 hm2;have ej':atI (ns.map V.int) (k % ((ns.map V.int).length:Int))=some (.int j):=by rw[length_map];exact ej
    exact aW ⟨_,rfl,_,rfl,_,rfl,a,_,rfl,.inl (((ag hp).seq ea)),_,_,rfl,rfl,by rw[length_map];omega,a,_,_,_,rfl,rfl,((ag hp).seq ea),ej',_,_,rfl,rfl,.inr ⟨by decide,by decide⟩,_,rfl,_,_,rfl,rfl,q _ _ (ag hp)⟩
def cP(K:PySem.W.Frag):Sp:=λvs H Q _=>∃a k m,vs=[.ref a,.int k,.int m]∧0≤k∧0<m∧bJ K H a∧∀r H',0≤r→r<m→Same H H'→Q (.int r) H'
theorem mv:FnScope ["_law_script","_law_k","_law_many","_law_drawn"] ["_law_script","_law_k","_law_many"] (ai lR):=fsc
theorem nV{f:Addr}{fd:FuncData}(F:Fun K "_law_pick" "_law_pick" lR f fd)(T:Txt mg)(C:Has P w K mg base 1 "_law_cell" ["_law_script","_law_k"] (je K)):FnOk P w K mg base CX0 2 f fd ["_law_script","_law_k","_law_many"] (cP K):=by
 obtain⟨fC,fdC,GC,mC,kC,bC⟩:=C;refine F.ok mv (λvs H Q E h=>?_) (λcdv A outer s H vs Q E hr h=>?_)
 ·obtain⟨a,k,m,rfl,_⟩:=h;rfl
 ·obtain⟨a,k,m,rfl,hk,hm,hS,q⟩:=h;refine⟨_,(ah (ar (i:=3) mv.nd rfl (Or.inl rfl) (aB gk (aB ce (aB aR (al GC hr rfl mC kC bC .nil aD (aa (pv 0) (aa (pv 1) ae))) (aB ce aj (aB aR (pv 1) aj))) aj) aj))
   (ak (aM (aB gk (aB gk (aB aR (aB ce (pv 3) (pv 3)) (aB mG (pv 3) aj)) aj) (pv 2))))),?_⟩
  refine⟨_,rfl,_,rfl,a,k,rfl,hk,hS,λr H1 s1=>?_⟩;refine⟨_,rfl,_,_,rfl,rfl,_,_,rfl,rfl,.inl ⟨by decide,by decide⟩,_,_,rfl,rfl,_,_,rfl,rfl,.inr ⟨by decide,by decide⟩,_,_,rfl,rfl,(by decide:(0:Int)<2147483399),?_⟩;generalize hd:(r+6151*(k+1))*40692 % 2147483399=dr;have d0:0≤dr:=by rw[←hd];exact Int.emod_nonneg _ (by decide)
  have d1:dr<2147483399:=by rw[←hd];exact Int.emod_lt_of_pos _ (by decide)
  refine⟨_,rfl,_,rfl,_,_,rfl,rfl,.inl ⟨by omega,by omega⟩,_,rfl,_,_,rfl,rfl,⟨by decide,by decide⟩,_,_,rfl,rfl,_,_,rfl,rfl,(by decide:(0:Int)<2147483629),_,rfl,_,_,rfl,rfl,hm,?_⟩;exact q _ _ (Int.emod_nonneg _ (by omega)) (Int.emod_lt_of_pos _ hm) s1
def dS(K:PySem.W.Frag):Sp:=λvs H Q _=>∃a at' m,vs=[.ref a,.int at',.int m]∧0≤at'∧0≤m∧m≤9∧bJ K H a∧∀t zs H',H' t=some (.tup (aT zs))→At H' zs→(zs.length:Int)≤m→TW.Tree (nds zs)→(∀z∈zs,qE z.2)→Same H H'→Q (.ref t) H'
theorem scB:FnScope ["_law_script","_law_at","_law_most","_law_left","_law_folders","_law_nodes","_law_k","_law_number","_law_parent","_law_name","_law_stamp"] ["_law_script","_law_at","_law_most"] (ai dz):=fsc
def buS(i:Nat):Stmt:=match (aU dz).getD 3 (.Pass ⟨0,0,0,0⟩)with
 |.For _ _ b _ _=>b.getD i (.Pass ⟨0,0,0,0⟩)
 |x=>x
abbrev BX(P:Program)(w:World)(K:PySem.W.Frag)(mg:Str→Option Value)(base:Heap)(f:Addr)(cdv:Value)(A:Around)(outer:List Env)(s:Shared)(H:Hp)(E:XK):Cx:=(dJ CX0 P w K mg base ["_law_script","_law_at","_law_most","_law_left","_law_folders","_law_nodes","_law_k","_law_number","_law_parent","_law_name","_law_stamp"] "_law_tree" (ai dz) f cdv A outer s H E).nox
theorem qQ{f:Addr}{cdv:Value}{A:Around}{outer:List Env}{s:Shared}{H0:Hp}{E:XK}(hr:Room 2 (A.deeper (PyProof.Rows.envOfC "_law_tree" (ai dz) s.heap.objs.size f cdv))):
  ∃t,PS (BX P w K mg base f cdv A outer s H0 E) (buS 5) t∧∀(D:Ends)(H H6:Hp)(pl pf pn:Addr)(x0 x1 x2 x6:Option V)(lf:List Int)(zs:ZN)(num par:Int)(nm:Str)(st:Option Int),Sta H pl pf pn H6 lf (0::TW.au (nds zs)) zs→zs.length≤20 →
   (∀H',Sta H pl pf pn H' lf (0::TW.au (nds zs)) zs→D.nx [x0,x1,x2,some (.ref pl),some (.ref pf),some (.ref pn),x6,some (.int num),some (.int par),some (.str nm),some (stV st)] H') →
   (∀q H',(∀z∈zs,¬(z.2.par=par∧z.2.nm=nm))→Sta H pl pf pn H' lf (0::TW.au (nds (zs++[(q,⟨num,par,nm,st⟩)]))) (zs++[(q,⟨num,par,nm,st⟩)])→D.nx [x0,x1,x2,some (.ref pl),some (.ref pf),some (.ref pn),x6,some (.int num),some (.int par),some (.str nm),some (stV st)] H') →
   t D [x0,x1,x2,some (.ref pl),some (.ref pf),some (.ref pn),x6,some (.int num),some (.int par),some (.str nm),some (stV st)] H6:=by
 refine⟨_,bi (aw (eU (dE hr)) (cf (aa (pv 8) (aa (pv 9) ae))) (gU (N:=["_law_node"]) (k:=1) (js:=[]) (g:=bp 0) rfl (eG rfl (by decide +kernel) (by decide +kernel) (by decide +kernel)) rfl (λi j x h=>by simp at h)
     (cS (pv 5)) (λs H fp=>aJ (i:=0) (show(["_law_node"]:List Str).Nodup by decide +kernel) rfl (Or.inl rfl) (Or.inr rfl))
     (λs H fp=>dZ (r:=mQ K) iI (pv 0) (dO aj) (dO aj))) rfl) (ah (bf (cY plainAttrs_list PySem.F.slot_list_append PySem.F.type_list_append aQ (pv 5) (aa (cf (aa (pv 7) (aa (pv 8) (aa (pv 9) (aa (pv 10) ae))))) ae))) (ak (bi (aw kW (pv 10) gc (aF _)) (ak (bf (cY plainAttrs_list PySem.F.slot_list_append PySem.F.type_list_append aQ (pv 4) (aa (pv 7) ae)))) aI))) aI,?_⟩
 intro D H H6 pl pf pn x0 x1 x2 x6 lf zs num par nm st A6 hzl qs qa;refine⟨_,rfl,_,rfl,le2,λq0 hq0=>?_⟩;have A7:=A6.grow (ag (o:=.tup [.int par,.str nm]) hq0);have eq0:(upd H6 q0 (.tup [.int par,.str nm])) q0=some (.tup ([Sum.inl par,Sum.inr nm].map kV)):=ac;refine⟨_,rfl,pn,rfl,⟨_,SqL.of A7.n⟩,λp hp=>?_⟩;generalize upd H6 q0 (.tup [.int par,.str nm])=H7 at A7 eq0 hp⊢;refine ol (k:=1) (js:=[]) (J:=Itl K pn) (p:=p) zs.length (by omega) (λi ys σ' H'=>∃kss:List (Addr×List Key),ys=(kss.map (·.1)).map V.ref∧kss.map (·.2)=((nds zs).take i).map plK∧kss.length=i∧(∀z∈kss,H' z.1=some (.tup (z.2.map kV)))∧σ'.length=1∧Same H7 H'∧H' p=some (.lst ys))
  ⟨[],rfl,rfl,rfl,by simp,rfl,ag hp,ac⟩ (λi ys σ' H' h=>?_) (λi ys σ' H' hi h=>?_) (λys σ' H' h=>?_) (λi ys σ' H' hi h v H2 hy=>?_) ?_ ?_
 ·obtain⟨kss,rfl,_,e,_⟩:=h;rw[length_map,length_map];omega
 ·obtain⟨_,_,_,_,_,_,s2,_⟩:=h;exact⟨_,_,SqL.of (s2 _ _ A7.n),dh (getElem?_eq_getElem hi)⟩
 ·obtain⟨kss,e1,e2,e3,e4,_,s2,e5⟩:=h;refine⟨⟨_,SqL.of (s2 _ _ A7.n),by rw[bb];exact le_refl _⟩,?_⟩;subst e1;refine⟨q0,p,_,kss,rfl,s2 _ _ eq0,rfl,SqL.of e5,e4,_,rfl,?_⟩;rw[List.take_of_length_le (by rw[aH];exact le_refl _)]at e2;have A8:=A7.grow s2;cases ea:(kss.any λz=>decide (z.2=[Sum.inl par,Sum.inr nm]))with
  |true=>exact aW (qs _ A8)
  |false =>
   have ho:∀z∈zs,¬(z.2.par=par∧z.2.nm=nm):=λz hz ⟨h1,h2⟩=>by
    have m1:plK z.2∈kss.map (·.2):=by rw[e2];exact mem_map.mpr ⟨z.2,mem_map.mpr ⟨z,hz,rfl⟩,rfl⟩
    obtain⟨y,hy,ey⟩:=mem_map.mp m1;have:(kss.any λz=>decide (z.2=[Sum.inl par,Sum.inr nm]))=true:=any_eq_true.mpr ⟨y,hy,by rw[decide_eq_true_eq,ey];unfold plK;rw[h1,h2]⟩;rw[ea]at this;cases this
   refine cn ⟨_,rfl,.inl ⟨rfl,_,SqL.of A8.n⟩,_,rfl,_,rfl,_,rfl,_,rfl,(show 4≤sizeLine from aV (by decide)),λq hq=>⟨pn,_,_,rfl,rfl,bj hq A8.n,ay (by rw[bb];omega),?_⟩⟩;have A9:=(A8.grow (ag (o:=.tup (vals ⟨num,par,nm,st⟩)) hq)).node (n:=⟨num,par,nm,st⟩) ac;refine⟨_,rfl,rfl,_,rfl,?_⟩;cases st with
   |some i5 =>
    have ef:(0::TW.au (nds zs))=(0:Int)::TW.au (nds (zs++[(q,⟨num,par,nm,some i5⟩)])):=by simp[TW.au,nds]
    rw[ef]at A9;exact aW (qa q _ ho A9)
   |none =>
    refine cn ⟨_,rfl,.inl ⟨rfl,_,SqL.of A9.f⟩,_,rfl,pf,_,_,rfl,rfl,A9.f,ay ?_,?_⟩
    ·have:=TW.bH (nds zs);rw[aH]at this;rw[length_map,length_cons];omega
    ·have A10:=A9.fold num;have ef:(0::TW.au (nds zs))++[num]=(0:Int)::TW.au (nds (zs++[(q,⟨num,par,nm,none⟩)])):=by simp[TW.au,nds]
     rw[ef]at A10;exact qa q _ ho A10
 ·obtain⟨kss,e1,e2,e3,e4,e0,s2,e5⟩:=h;obtain⟨o1,rfl⟩:=po e0;obtain⟨rfl,hx⟩:=hy;have gx:=hx _ (SqL.of (s2 _ _ A7.n));obtain⟨z1,g1,rfl⟩:=bX gx;have m1:=mem_of_getElem? g1;have ecut:gM (vals z1.2) (some 1) (some 3)=[.int z1.2.par,.str z1.2.nm]:=rfl;refine⟨_,rfl,_,rfl,_,rfl,z1.1,_,rfl,SqT.of (s2 _ _ (A7.nd z1 m1)),(λh=>by have h1:(1:Nat)=0:=h.1;cases h1),λq hq=>?_⟩;rw[ecut];refine⟨bj hq e5,kss++[(q,plK z1.2)],by rw[e1];simp,?_,by simp[e3],?_,rfl,aE hp (s2.trans (ag hq)),ac⟩
  ·rw[map_append,e2,take_succ,show(nds zs)[i]?=some z1.2 by unfold nds;rw[getElem?_map,g1];rfl,map_append];rfl
  ·intro z hz;have hqp:q≠p:=λz=>by rw[z,e5]at hq;cases hq
   rcases mem_append.mp hz with hz|hz
   ·have:=bj (o:=.tup [.int z1.2.par,.str z1.2.nm]) hq (e4 z hz);rw[af]
    ·exact this
    ·intro e;rw[e,af (symm hqp),e5]at this;cases this
   ·have e:z=(q,plK z1.2):=by simpa using hz
    subst e;rw[af hqp];exact ac
 ·rintro _ _ _ _ _ m h;exact m _ _ h
 ·rintro _ _ _ _ m ⟨v1,b0,i1,b1,i2,b2,a2,x2,c1,c2,c3,q⟩;exact⟨v1,b0,i1,b1,i2,b2,a2,x2,c1,c2,c3,λp hp=>m _ _ (q p hp)⟩
theorem mw{f:Addr}{fd:FuncData}(F:Fun K "_law_tree" "_law_tree" dz f fd)(T:Txt mg)(C:Has P w K mg base 2 "_law_pick" ["_law_script","_law_k","_law_many"] (cP K)):FnOk P w K mg base CX0 3 f fd ["_law_script","_law_at","_law_most"] (dS K):=by
 obtain⟨fP,fdP,GP,mP,kP,bP⟩:=C;refine F.ok scB (λvs H Q E h=>?_) (λcdv A outer s H vs Q E hr h=>?_)
 ·obtain⟨a,at',m,rfl,_⟩:=h;rfl
 ·obtain⟨a,at',m,rfl,ha0,hm0,hm9,hS,k⟩:=h;obtain⟨t5,p5,h5⟩:=qQ (P:=P) (w:=w) (mg:=mg) (base:=base) (f:=f) (cdv:=cdv) (A:=A) (outer:=outer) (s:=s) (H0:=H) (E:=E) hr;refine⟨_,(ah (ar (i:=3) scB.nd rfl (Or.inl rfl) (aZ (eW rfl) rfl T.list rfl (aa (aZ kb rfl T.range rfl (aa aj (aa (aB aR (pv 2) aj) ae))) ae)))
    (ah (ar (i:=4) scB.nd rfl (Or.inl rfl) (aX (aa aj ae)))
    (ah (ar (i:=5) scB.nd rfl (Or.inl rfl) (aX ae))
    (ah (cr PassesOwn.never rfl (fe rfl T.range (aa (al GP hr rfl mP kP bP .nil aD (aa (pv 0) (aa (pv 1) (aa (aB aR (pv 2) aj) ae)))) ae)) (aJ (i:=6) scB.nd rfl (Or.inl rfl))
    (ah (ar (i:=7) scB.nd rfl (Or.inl rfl) (cY plainAttrs_list slot_list_pop type_list_pop lj (pv 3) (aa (al GP hr rfl mP kP bP .nil aD (aa (pv 0) (aa (aB aR (aB aR (pv 1) aj) (aB ce aj (pv 6))) (aa (aN aK rfl T.len boot_len (aa (pv 3) ae)) ae)))) ae)))
    (ah (ar (i:=8) scB.nd rfl (Or.inl rfl) (aP bG (pv 4) (al GP hr rfl mP kP bP .nil aD (aa (pv 0) (aa (aB aR (aB aR (pv 1) aj) (aB ce aj (pv 6))) (aa (aN aK rfl T.len boot_len (aa (pv 4) ae)) ae)))) (λ_ _=>rfl)))
    (ah (ar (i:=9) scB.nd rfl (Or.inl rfl) (aP bG (aX (aa gf (aa gf (aa gf (aa gf ae))))) (al GP hr rfl mP kP bP .nil aD (aa (pv 0) (aa (aB aR (aB aR (pv 1) aj) (aB ce aj (pv 6))) (aa aj ae)))) (λ_ _=>rfl)))
    (ah (ar (i:=10) scB.nd rfl (Or.inl rfl) gc)
    (ah (bi (aw qo (al GP hr rfl mP kP bP .nil aD (aa (pv 0) (aa (aB aR (aB aR (pv 1) aj) (aB ce aj (pv 6))) (aa aj ae)))) aj (aF _)) (ak (ar (i:=10) scB.nd rfl (Or.inl rfl) (aP bG (aX (aa aj (aa aj (aa aj (aa aj ae))))) (al GP hr rfl mP kP bP .nil aD (aa (pv 0) (aa (aB aR (aB aR (pv 1) aj) (aB ce aj (pv 6))) (aa aj ae)))) (λ_ _=>rfl)))) aI)
    (ak p5)))))))
    (ak (aM (aZ bO rfl T.tuple rfl (aa (aN dv rfl T.sorted boot_sorted (aa (pv 5) ae)) ae)))))))),?_⟩
  refine⟨_,rfl,_,_,rfl,rfl,_,_,rfl,λp1 hp1=>⟨p1,_,_,rfl,ac,⟨by decide,by decide,by omega,by omega⟩,by omega,λpl hpl=>?_⟩⟩;refine⟨aV (by decide),λpf hpf=>⟨zero_le _,λpn hpn=>?_⟩⟩;have s0:Same H (upd (upd (upd (upd H p1 (.rng 1 (m+4))) pl (.lst ((List.range (m+4-1:Int).toNat).map λk=>V.int (1+(k:Nat))))) pf (.lst [.int 0])) pn (.lst [])):=(((ag hp1).trans (ag hpl)).trans (ag hpf)).trans (ag hpn);have hfl:pl≠pf:=λe=>by rw[←e,ac]at hpf;cases hpf
  have hln:pl≠pn:=λe=>by rw[←e,af hfl,ac]at hpn;cases hpn
  have hfn:pf≠pn:=λe=>by rw[←e,ac]at hpn;cases hpn
  have A0:Sta H pl pf pn (upd (upd (upd (upd H p1 (.rng 1 (m+4))) pl (.lst ((List.range (m+4-1:Int).toNat).map λk=>V.int (1+(k:Nat))))) pf (.lst [.int 0])) pn (.lst [])) (lf0 m) [0] [] :=
   ⟨s0,by rw[af hln,af hfl,ac,lf0,map_map];rfl,by rw[af hfn,ac];rfl,ac,λz hz=>by simp at hz,(ag hp1).free hpl,((ag hp1).trans (ag hpl)).free hpf,(((ag hp1).trans (ag hpl)).trans (ag hpf)).free hpn,hfl,hln,hfn⟩
  have B0:Bd [] (lf0 m):=Bd.zero hm9;refine⟨_,rfl,_,rfl,_,rfl,_,_,rfl,rfl,a,_,_,rfl,ha0,by omega,hS.same s0,λr H1 r0 r1 s1=>⟨r,rfl,by omega,by omega,?_⟩⟩;refine ff (n:=r.toNat) (λi σ H'=>∃lf zs o6 o7 o8 o9 o10,σ=[some (.ref a),some (.int at'),some (.int m),some (.ref pl),some (.ref pf),some (.ref pn),o6,o7,o8,o9,o10]∧Sta H pl pf pn H' lf (0::TW.au (nds zs)) zs∧Bd zs lf∧(lf.length:Int)+i=m+3∧zs.length≤i)
   ⟨_,[],_,_,_,_,_,rfl,A0.grow s1,B0,by rw[nG hm0];omega,le_refl _⟩ (λi σ H' hi h=>?_) (λσ H' h=>?_)
  ·obtain⟨lf,zs,o6,o7,o8,o9,o10,rfl,A1,B,hlf,hzl⟩:=h;have hi8:i<10:=by omega
   have z0:(0:Int)≤at'+1+6*(0+(i:Int)):=by omega
   refine⟨_,rfl,.inl ⟨rfl,_,SqL.of A1.l⟩,_,rfl,_,rfl,_,_,rfl,rfl,_,rfl,_,_,rfl,rfl,.inl ⟨by decide,by decide⟩,_,_,rfl,rfl,_,rfl,pl,_,rfl,.inl (SqL.of A1.l),a,_,_,rfl,by omega,by rw[length_map];omega,hS.same A1.same,λj H2 j0 j1 s2=>?_⟩;rw[length_map]at j1;have A2:=A1.grow s2;obtain⟨num,gnum⟩:∃num,lf[j.toNat]?=some num:=⟨_,getElem?_eq_getElem (by omega)⟩;refine⟨pl,_,j,j.toNat,.int num,rfl,rfl,A2.l,by omega,by omega,by rw[length_map];exact pq j0 j1,by rw[getElem?_map,gnum];rfl,?_⟩;rw[fX];have A3:=A2.pop (lf.eraseIdx j.toNat);have elen:(lf.eraseIdx j.toNat).length=lf.length-1:=List.length_eraseIdx_of_lt (by omega);generalize upd H2 pl (.lst ((lf.eraseIdx j.toNat).map V.int))=H3 at A3⊢;refine⟨_,rfl,_,rfl,_,rfl,_,_,rfl,rfl,_,rfl,_,_,rfl,rfl,.inl ⟨by decide,by decide⟩,_,_,rfl,rfl,_,rfl,pf,_,rfl,.inl (SqL.of A3.f),a,_,_,rfl,by omega,by rw[length_map,length_cons];omega,hS.same A3.same,λj2 H4 j20 j21 s4=>?_⟩;rw[length_map]at j21;obtain⟨par,mpar,gpar⟩:=nD j20 j21;have A4:=A3.grow s4;refine⟨pf,_,_,_,rfl,rfl,SqL.of A4.f,gpar,?_⟩;refine⟨aV (by decide),λp3 hp3=>?_⟩;have A5:=A4.grow (ag (o:=.lst [.str "a",.str "b",.str "c",.str "abcde"]) hp3);refine⟨_,rfl,_,rfl,_,_,rfl,rfl,_,rfl,_,_,rfl,rfl,.inl ⟨by decide,by decide⟩,_,_,rfl,rfl,a,_,_,rfl,by omega,by decide,hS.same A5.same,λj3 H5 j30 j31 s5=>?_⟩;obtain⟨nm,hnm,gnm⟩:=nE j30 j31;refine⟨p3,_,_,_,rfl,rfl,SqL.of (s5 _ _ ac),gnm,?_⟩;have A6:=A5.grow s5;refine⟨_,rfl,_,rfl,_,_,rfl,rfl,_,rfl,_,_,rfl,rfl,.inl ⟨by decide,by decide⟩,_,_,rfl,rfl,a,_,_,rfl,by omega,by decide,hS.same A6.same,λj4 H6 j40 j41 s6=>⟨_,_,rfl,rfl,_,rfl,?_⟩⟩;have A6':=A6.grow s6;refine ro (λhgt=>?_) (λhgt=>?_)
   ·refine⟨aV (by decide),λp5 hp5=>?_⟩;have A65:=A6'.grow (ag (o:=.lst [.int 0,.int 1,.int 2,.int 999]) hp5);refine⟨_,rfl,_,rfl,_,_,rfl,rfl,_,rfl,_,_,rfl,rfl,.inl ⟨by decide,by decide⟩,_,_,rfl,rfl,a,_,_,rfl,by omega,by decide,hS.same A65.same,λj5 H65 j50 j51 s65=>?_⟩;obtain⟨i5,hst5,gst⟩:=nF j50 j51;refine⟨p5,_,_,_,rfl,rfl,SqL.of (s65 _ _ ac),gst,?_⟩;have A66:=A65.grow s65;exact h5 _ H H65 pl pf pn _ _ _ _ (lf.eraseIdx j.toNat) zs num par nm (some i5) A66 (by omega) (λH' A8=>⟨_,zs,_,_,_,_,_,rfl,A8,B.skip _,by rw[elen];omega,by omega⟩)
     (λq H' ho A9=>⟨_,_,_,_,_,_,_,rfl,A9,B.add (q:=q) (n:=⟨num,par,nm,(some i5)⟩) gnum mpar ho hnm hst5,by rw[elen];omega,by rw[length_append,length_singleton];omega⟩)
   ·exact h5 _ H H6 pl pf pn _ _ _ _ (lf.eraseIdx j.toNat) zs num par nm none A6' (by omega) (λH' A8=>⟨_,zs,_,_,_,_,_,rfl,A8,B.skip _,by rw[elen];omega,by omega⟩)
     (λq H' ho A9=>⟨_,_,_,_,_,_,_,rfl,A9,B.add (q:=q) (n:=⟨num,par,nm,none⟩) gnum mpar ho hnm (.inl rfl),by rw[elen];omega,by rw[length_append,length_singleton];omega⟩)
  ·obtain⟨lf,zs,o6,o7,o8,o9,o10,rfl,A1,B,hlf,hzl⟩:=h;have hzl8:(zs.length:Int)≤m:=by omega
   have hnum:(zs.map tp).map (·.2.1)=(nds zs).map (·.num):=by
    unfold nds;simp only[map_map];rfl
   have hnd:((nds zs).map (·.num)).Nodup:=(List.nodup_append.mp B.nd).1;refine⟨_,rfl,pn,zs.map tp,rfl,SqL.of (by rw[A1.n,jC]),λz hz=>?_,by rw[hnum];exact hnd,by rw[length_map];omega,λts pm up p hp=>?_⟩
   ·obtain⟨y,hy,rfl⟩:=mem_map.mp hz;exact A1.nd y hy
   ·obtain⟨pm2,eb⟩:=back pm;have er:(ts.map (·.1)).map V.ref=aT (ts.map un):=by rw[←jC,eb]
    rw[er];refine⟨p,_,rfl,.inl ⟨SqL.of ac,λl hl=>?_⟩⟩;have mem:∀z,z∈ts.map un→z∈zs:=λz hz=>pm2.mem_iff.mp hz;refine k l (ts.map un) _ ac ?_ (by rw[pm2.length_eq];exact hzl8) ?_ (λz hz=>B.ok z (mem z hz)) ((A1.same.trans (ag hp)).trans (ag hl))
    ·intro z hz;exact((ag hp).trans (ag hl)) _ _ (A1.nd z (mem z hz))
    ·refine TW.nA B.built (pm2.map _) ?_ hnd B.own;unfold nds;rw[pairwise_map];have up2:((ts.map un).map tp).Pairwise (λa b=>a.2.1<b.2.1):=by rw[eb];exact up
     rw[pairwise_map]at up2;exact up2.imp λh=>Int.le_of_lt h
def iz:Sp:=λvs H Q _=>∃t a b zs p q',vs=[.ref t,.int a,.int b]∧Tre H t zs∧(0≤a∧a≤60)∧(0≤b∧b≤60)∧(∃z∈zs,z.2.num=a)∧(∃z∈zs,z.2.num=b)∧TW.PathTo (nds zs) a p∧TW.PathTo (nds zs) b q'∧∀T H',Same H H'→TW.Meet (nds zs) a b T p q'→Q (.int T) H'
theorem qR:FnScope ["tree","one","other"] ["tree","one","other"] (ai dy):=fsc
theorem pW{CN0:Addr}{fd:FuncData}(F:Fun K "meeting" "meeting" dy f fd)(CP:eY P w K mg base 2 "path_of" ["tree","number"] (jG CN0))(CS:Has P w K mg base 1 "shared_start" ["one","other"] mt)(CF:Has P w K mg base 1 "find" ["tree","path"] ja):FnOk P w K mg base CX0 3 f fd ["tree","one","other"] iz:=by
 obtain⟨fP,fdP,GP,mP,kP,bP⟩:=CP;obtain⟨fS,fdS,GS,mS,kS,bS⟩:=CS;obtain⟨fF,fdF,GF,mF,kF,bF⟩:=CF;refine F.ok qR (λvs H Q E h=>?_) (λcdv A outer s H vs Q E hr h=>?_)
 ·obtain⟨t,a,b,zs,p,q',rfl,_⟩:=h;rfl
 ·obtain⟨t,a,b,zs,p,q',rfl,tr,ha,hb,⟨za,hza,ea⟩,⟨zb,hzb,eb⟩,hp,hq,q⟩:=h;have hr1:Room 1 _:=hr.mono (by decide);have hl:=tr.len;refine⟨_,ak (aM (al GF hr1 rfl mF kF bF .nil aD (aa (pv 0) (aa (al GS hr1 rfl mS kS bS .nil aD (aa (al GP hr rfl mP kP bP .nil hZ (aa (pv 0) (aa (pv 1) ae))) (aa (al GP hr rfl mP kP bP .nil hZ (aa (pv 0) (aa (pv 2) ae))) ae))) ae)))),?_⟩;refine⟨_,rfl,_,rfl,_,rfl,t,a,zs,rfl,tr,ha.1,ha.2,λ_ _ _ p1 hp1 t1 H1 s1 ht1=>?_,λhno=>absurd ea (hno za hza)⟩;have e1:=hp1.uniq tr.tr hp;subst e1;have tr1:=tr.same s1;refine⟨_,rfl,_,rfl,t,b,zs,rfl,tr1,hb.1,hb.2,λ_ _ _ p2 hp2 t2 H2 s2 ht2=>?_,λhno=>absurd eb (hno zb hzb)⟩;have e2:=hp2.uniq tr.tr hq;subst e2;have l1:p1.length≤100:=by have:=hp1.len tr.tr;rw[aH]at this;omega
  refine⟨t1,t2,p1,p2,rfl,s2 _ _ ht1,ht2,l1,λt3 H3 s3 ht3=>?_⟩;have tr3:=(tr1.same s2).same s3;obtain⟨T,M⟩:=TW.Meet.ex hp1 hp2;have l3:(TW.lcp p1 p2).length≤100:=by have:=M.pt.len tr.tr;rw[aH]at this;omega
  refine⟨t,t3,zs,_,rfl,tr3,ht3,l3,λv H4 s4 hf=>?_⟩;have s14:=((s1.trans s2).trans s3).trans s4;rcases hf with⟨k,rfl,hk⟩|⟨_,hno⟩
  ·exact q k H4 s14 ⟨hp1,hp2,hk⟩
  ·exact absurd M.pt (hno T)
end
def LMN:List Str:=["_law_script","_law_tree_here","_law_book_here","_law_numbers","_law_k","_law_one","_law_other","_law_mine","_law_yours","_law_same","_law_first","_law_last","_law_due","_law_told","_law_child","_law_some","_law_least"]
theorem cE:FnScope LMN ["_law_script"] (ai cN):=fsc
theorem dU{Pt:Addr}{q:Str}{H H':Hp}(T:ca H Pt q)(o:dA Pt H H'){b:Addr}{u:HO}(e:H b=some u)(n:∀ps,u≠.tbl ps):H' b=some u:=o b u (λz=>by
 obtain⟨ps,h1,_⟩:=T;rw[z,h1]at e;exact n ps (Option.some.inj e).symm) e
structure LMF(H:Hp)(PC t d nl:Addr)(zs:ZN)(as:List (Addr×(Addr×Nd)))(ms:List Int):Prop where
 tr:Tre H t zs
 bk:Book H d as zs
 nm:H nl=some (.lst (ms.map V.int))
 tab:ca H PC dM
 mem:∀k,k∈ms↔∃z∈zs,z.2.num=k
 bd:∀z∈zs,1≤z.2.num∧z.2.num≤60
 len:ms.length≤30
section
variable{H H':Hp}{PC t d nl:Addr}{zs:ZN}{as:List (Addr×(Addr×Nd))}{ms:List Int}
theorem LMF.keep(h:LMF H PC t d nl zs as ms)(k:∀b o,H b=some o→(∀ps,o≠.tbl ps)→(∀xs,o≠.lst xs)→H' b=some o)(hn:H' nl=some (.lst (ms.map V.int)))(tq:ca H' PC dM):LMF H' PC t d nl zs as ms:=by
 refine⟨⟨k _ _ h.tr.tup (λps e=>(by cases e)) (λxs e=>(by cases e)),λz hz=>k _ _ (h.tr.nod z hz) (λps e=>(by cases e)) (λxs e=>(by cases e)),h.tr.tr,h.tr.len⟩,⟨?_,h.bk.of,λa ha=>k _ _ (h.bk.at' a ha) (λps e=>(by cases e)) (λxs e=>(by cases e))⟩,hn,tq,h.mem,h.bd,h.len⟩;rcases h.bk.dict with e|⟨o,e⟩
 ·exact .inl (k _ _ e (λps e=>(by cases e)) (λxs e=>(by cases e)))
 ·exact .inr ⟨o,k _ _ e (λps e=>(by cases e)) (λxs e=>(by cases e))⟩
theorem LMF.same(h:LMF H PC t d nl zs as ms)(s:Same H H'):LMF H' PC t d nl zs as ms:=h.keep (λb o e _ _=>s _ _ e) (s _ _ h.nm) (cB h.tab s)
theorem LMF.off(h:LMF H PC t d nl zs as ms)(o:dA PC H H')(tq:ca H' PC dM):LMF H' PC t d nl zs as ms:=h.keep (λb u e n _=>dU h.tab o e n) (dU h.tab o h.nm λps e=>by cases e) tq
theorem LMF.num(h:LMF H PC t d nl zs as ms){k:Int}(hk:k∈ms):∃p,TW.PathTo (nds zs) k p:=by
 obtain⟨z,hz,e⟩:=(h.mem k).mp hk;obtain⟨p,hp⟩:=TW.PathTo.ex h.tr.tr (gD hz);exact⟨p,by rw[←e];exact hp⟩
theorem LMF.bds(h:LMF H PC t d nl zs as ms){k:Int}(hk:k∈ms):1≤k∧k≤60:=by
 obtain⟨z,hz,e⟩:=(h.mem k).mp hk;rw[←e];exact h.bd z hz
end
abbrev LMX(P:Program)(w:World)(K:PySem.W.Frag)(mg:Str→Option Value)(base:Heap)(f:Addr)(cdv:Value)(A:Around)(outer:List Env)(s:Shared)(H:Hp)(E:XK):Cx:=(dJ CX0 P w K mg base LMN "law" (ai cN) f cdv A outer s H E).nox
def mbS(i:Nat):Stmt:=match (aU cN).getD 3 (.Pass ⟨0,0,0,0⟩)with
 |.For _ _ b _ _=>b.getD i (.Pass ⟨0,0,0,0⟩)
 |_=>.Pass ⟨0,0,0,0⟩
abbrev lmσ(a t d nl:Addr)(k:Int)(x5 x6 x7 x8 x9 x10 x11 x12 x13 x14 x15 x16:Option V):St:=[some (.ref a),some (.ref t),some (.ref d),some (.ref nl),some (.int k),x5,x6,x7,x8,x9,x10,x11,x12,x13,x14,x15,x16]
section
variable{P:Program}{w:World}{K:PySem.W.Frag}{mg:Str→Option Value}{base:Heap}{f PC:Addr}{cdv:Value}{A:Around}{outer:List Env}{s:Shared}{H0:Hp}{E:XK}
theorem mb0(T:Txt mg)(hr:Room 5 (A.deeper (PyProof.Rows.envOfC "law" (ai cN) s.heap.objs.size f cdv)))(CP:Has P w K mg base 2 "_law_pick" ["_law_script","_law_k","_law_many"] (cP K)):
  ∃rd,PS (LMX P w K mg base f cdv A outer s H0 E) (mbS 0) rd∧∀(D:Ends)(H:Hp)(a t d nl:Addr)(k:Nat)(zs:ZN)(as:List (Addr×(Addr×Nd)))(ms:List Int)(x5 x6 x7 x8 x9 x10 x11 x12 x13 x14 x15 x16:Option V),bJ K H a→LMF H PC t d nl zs as ms→0<ms.length →
   (∀one H',Same H H'→one∈ms→D.nx (lmσ a t d nl k (some (.int one)) x6 x7 x8 x9 x10 x11 x12 x13 x14 x15 x16) H')→rd D (lmσ a t d nl k x5 x6 x7 x8 x9 x10 x11 x12 x13 x14 x15 x16) H:=by
 obtain⟨fP,fdP,GP,mP,kP,bP⟩:=CP;have hr2:Room 2 _:=hr.mono (by decide);refine⟨_,ar (i:=5) cE.nd rfl (Or.inl rfl) (aP bG (pv 3) (al GP hr2 rfl mP kP bP .nil aD (aa (pv 0) (aa (aB aR aj (pv 4)) (aa (aN aK rfl T.len boot_len (aa (pv 3) ae)) ae)))) (λ_ _=>rfl)),?_⟩;intro D H a t d nl k zs as ms x5 x6 x7 x8 x9 x10 x11 x12 x13 x14 x15 x16 hS L hpos q;refine⟨_,rfl,_,rfl,_,rfl,_,_,rfl,rfl,_,rfl,nl,_,rfl,.inl (SqL.of L.nm),a,_,_,rfl,by omega,by rw[length_map];omega,hS,λr H1 r0 r1 s1=>?_⟩;rw[length_map]at r1;obtain⟨i,rfl⟩:∃i:Nat,r=i:=⟨r.toNat,by omega⟩;have hi:i<ms.length:=by omega
 exact⟨nl,_,_,_,rfl,rfl,SqL.of (s1 _ _ L.nm),cV (by rw[getElem?_map,getElem?_eq_getElem hi];rfl),q _ H1 s1 (getElem_mem hi)⟩
theorem mb1(T:Txt mg)(hr:Room 5 (A.deeper (PyProof.Rows.envOfC "law" (ai cN) s.heap.objs.size f cdv)))(CP:Has P w K mg base 2 "_law_pick" ["_law_script","_law_k","_law_many"] (cP K)):
  ∃rd,PS (LMX P w K mg base f cdv A outer s H0 E) (mbS 1) rd∧∀(D:Ends)(H:Hp)(a t d nl:Addr)(k:Nat)(zs:ZN)(as:List (Addr×(Addr×Nd)))(ms:List Int)(x5 x6 x7 x8 x9 x10 x11 x12 x13 x14 x15 x16:Option V),bJ K H a→LMF H PC t d nl zs as ms→0<ms.length →
   (∀one H',Same H H'→one∈ms→D.nx (lmσ a t d nl k x5 (some (.int one)) x7 x8 x9 x10 x11 x12 x13 x14 x15 x16) H')→rd D (lmσ a t d nl k x5 x6 x7 x8 x9 x10 x11 x12 x13 x14 x15 x16) H:=by
 obtain⟨fP,fdP,GP,mP,kP,bP⟩:=CP;have hr2:Room 2 _:=hr.mono (by decide);refine⟨_,ar (i:=6) cE.nd rfl (Or.inl rfl) (aP bG (pv 3) (al GP hr2 rfl mP kP bP .nil aD (aa (pv 0) (aa (aB aR aj (pv 4)) (aa (aN aK rfl T.len boot_len (aa (pv 3) ae)) ae)))) (λ_ _=>rfl)),?_⟩;intro D H a t d nl k zs as ms x5 x6 x7 x8 x9 x10 x11 x12 x13 x14 x15 x16 hS L hpos q;refine⟨_,rfl,_,rfl,_,rfl,_,_,rfl,rfl,_,rfl,nl,_,rfl,.inl (SqL.of L.nm),a,_,_,rfl,by omega,by rw[length_map];omega,hS,λr H1 r0 r1 s1=>?_⟩;rw[length_map]at r1;obtain⟨i,rfl⟩:∃i:Nat,r=i:=⟨r.toNat,by omega⟩;have hi:i<ms.length:=by omega
 exact⟨nl,_,_,_,rfl,rfl,SqL.of (s1 _ _ L.nm),cV (by rw[getElem?_map,getElem?_eq_getElem hi];rfl),q _ H1 s1 (getElem_mem hi)⟩
theorem mb2(hr:Room 5 (A.deeper (PyProof.Rows.envOfC "law" (ai cN) s.heap.objs.size f cdv)))(CL:Has P w K mg base 1 "_law_path" ["_law_book_here","_law_number"] kw):
  ∃rd,PS (LMX P w K mg base f cdv A outer s H0 E) (mbS 2) rd∧∀(D:Ends)(H:Hp)(a t d nl:Addr)(k:Nat)(one other:Int)(zs:ZN)(as:List (Addr×(Addr×Nd)))(ms:List Int)(p1 p2:List Str)(x7 x8 x9 x10 x11 x12 x13 x14 x15 x16:Option V),LMF H PC t d nl zs as ms→TW.PathTo (nds zs) one p1→TW.PathTo (nds zs) other p2 →
   (∀t1 t2 H',Same H H'→H' t1=some (.tup (p1.map V.str))→H' t2=some (.tup (p2.map V.str))→D.nx (lmσ a t d nl k (some (.int one)) (some (.int other)) (some (.ref t1)) (some (.ref t2)) x9 x10 x11 x12 x13 x14 x15 x16) H')→rd D (lmσ a t d nl k (some (.int one)) (some (.int other)) x7 x8 x9 x10 x11 x12 x13 x14 x15 x16) H:=by
 obtain⟨fL,fdL,GL,mL,kL,bL⟩:=CL;have hr1:Room 1 _:=hr.mono (by decide);refine⟨_,lV (i:=7) (j:=8) rfl cE.nd rfl rfl (Or.inl rfl) (Or.inl rfl) rfl rfl (cf (aa (al GL hr1 rfl mL kL bL .nil aD (aa (pv 2) (aa (pv 5) ae))) (aa (al GL hr1 rfl mL kL bL .nil aD (aa (pv 2) (aa (pv 6) ae))) ae))),?_⟩;intro D H a t d nl k one other zs as ms p1 p2 x7 x8 x9 x10 x11 x12 x13 x14 x15 x16 L h1 h2 q;refine⟨_,rfl,_,rfl,d,one,as,zs,p1,rfl,L.bk,L.tr.tr,L.tr.len,h1,λt1 H1 s1 ht1=>?_⟩;refine⟨_,rfl,_,rfl,d,other,as,zs,p2,rfl,L.bk.same s1,L.tr.tr,L.tr.len,h2,λt2 H2 s2 ht2=>⟨le2,λr hr'=>?_⟩⟩;have s3:=ag (o:=.tup [.ref t1,.ref t2]) hr';exact⟨r,_,_,rfl,SqT.of ac,q t1 t2 _ ((s1.trans s2).trans s3) (s3 _ _ (s2 _ _ ht1)) (s3 _ _ ht2)⟩
theorem mb3:∃rd,PS (LMX P w K mg base f cdv A outer s H0 E) (mbS 3) rd∧∀(D:Ends)(H:Hp)(a t d nl:Addr)(k:Nat)(x5 x6 x7 x8 x9 x10 x11 x12 x13 x14 x15 x16:Option V),
   (∀sm H',Same H H'→H sm=none→H' sm=some (.lst [])→D.nx (lmσ a t d nl k x5 x6 x7 x8 (some (.ref sm)) x10 x11 x12 x13 x14 x15 x16) H')→rd D (lmσ a t d nl k x5 x6 x7 x8 x9 x10 x11 x12 x13 x14 x15 x16) H:=by
 refine⟨_,ar (i:=9) cE.nd rfl (Or.inr rfl) (aX ae),?_⟩;intro D H a t d nl k x5 x6 x7 x8 x9 x10 x11 x12 x13 x14 x15 x16 q;exact⟨zero_le _,λsm hs=>q sm _ (ag hs) hs ac⟩
theorem mb4(T:Txt mg):∃rd,PS (LMX P w K mg base f cdv A outer s H0 E) (mbS 4) rd∧∀(D:Ends)(H:Hp)(a t d nl t1 t2 sm:Addr)(k:Nat)(p1 p2:List Str)(x5 x6 x10 x11 x12 x13 x14 x15 x16:Option V),H t1=some (.tup (p1.map V.str))→H t2=some (.tup (p2.map V.str))→H sm=some (.lst [])→p1.length≤100 →
   (∀H' x10 x11,(∀b o,H b=some o→b≠sm→H' b=some o)→H' sm=some (.lst ((TW.lcp p1 p2).map V.str))→D.nx (lmσ a t d nl k x5 x6 (some (.ref t1)) (some (.ref t2)) (some (.ref sm)) x10 x11 x12 x13 x14 x15 x16) H')→rd D (lmσ a t d nl k x5 x6 (some (.ref t1)) (some (.ref t2)) (some (.ref sm)) x10 x11 x12 x13 x14 x15 x16) H:=by
 refine⟨_,cr PassesOwn.never rfl (ly rfl T.zip (aa (pv 7) (aa (pv 8) ae))) (kH (n:=2) rfl (cQ (aJ (i:=10) cE.nd rfl (Or.inl rfl)) (cQ (aJ (i:=11) cE.nd rfl (Or.inl rfl)) jg)))
  (ah (bi (aw bQ (pv 10) (pv 11) (aF _)) (ak gJ) aI) (ak (bf (cY plainAttrs_list PySem.F.slot_list_append PySem.F.type_list_append aQ (pv 9) (aa (pv 10) ae))))),?_⟩
 intro D H a t d nl t1 t2 sm k p q' x5 x6 x10 x11 x12 x13 x14 x15 x16 h1 h2 hs hpl q;have n1:t1≠sm:=λe=>by rw[e,hs]at h1;cases h1
 have n2:t2≠sm:=λe=>by rw[e,hs]at h2;cases h2
 refine⟨_,rfl,_,rfl,t1,t2,_,_,rfl,h1,h2,jL (xs:=p.map V.str) (ys:=q'.map V.str) (λi σ H'=>∃x10 x11,σ=lmσ a t d nl k x5 x6 (some (.ref t1)) (some (.ref t2)) (some (.ref sm)) x10 x11 x12 x13 x14 x15 x16∧(∀b o,H b=some o→b≠sm→H' b=some o)∧H' sm=some (.lst ((p.take i).map V.str))∧∀j,j<i→∃x,p[j]?=some x∧q'[j]?=some x) ⟨_,_,rfl,λb o e _=>e,by rw[take_zero];exact hs,λj h=>absurd h (Nat.not_lt_zero _)⟩ (λi σ H' _ h=>?_) (λi x y pp σ H' hx hy hpp h=>?_) (λσ H' h=>?_)⟩
 ·obtain⟨_,_,_,kp,_⟩:=h;exact⟨SqT.of (kp _ _ h1 n1),SqT.of (kp _ _ h2 n2)⟩
 ·obtain⟨x10,x11,rfl,kp,hs1,hj⟩:=h;rw[getElem?_map]at hx hy;cases e1:p[i]? with
  |none=>rw[e1]at hx;cases hx
  |some u =>
   cases e2:q'[i]? with
   |none=>rw[e2]at hy;cases hy
   |some v =>
    rw[e1]at hx;rw[e2]at hy;have ex:=Option.some.inj hx;have ey:=Option.some.inj hy;subst ex ey;have hi:i<p.length:=(List.getElem?_eq_some_iff.mp e1).1;have s2:=ag (o:=.tup [.str u,.str v]) hpp;have hs2:=s2 _ _ hs1;have kp2:∀b o,H b=some o→b≠sm→upd H' pp (.tup [.str u,.str v]) b=some o:=λb o e n=>s2 _ _ (kp b o e n);have et:p.take (i+1)=p.take i++[u]:=bv e1;refine⟨pp,_,rfl,SqT.of ac,rfl,_,_,rfl,_,_,rfl,rfl,?_⟩;refine⟨_,rfl,_,rfl,rfl,_,rfl,?_⟩
    by_cases h:u=v
    ·rw[show(!decide (V.str u=V.str v))=false by simp[h]];refine aW ⟨_,rfl,.inl ⟨rfl,_,SqL.of hs2⟩,_,rfl,sm,_,_,rfl,rfl,hs2,ay (by rw[length_map,length_take];omega),?_⟩;refine⟨_,_,rfl,λb o e n=>by rw[af n];exact kp2 b o e n,by rw[ac,et,map_append];rfl,λj hlt=>?_⟩
     by_cases ej:j=i
     ·subst ej;exact⟨u,e1,by rw[e2,h]⟩
     ·exact hj j (by omega)
    ·rw[show(!decide (V.str u=V.str v))=true by simp[h]];refine cn ?_;refine q _ _ _ kp2 ?_;rw[hs2,TW.cz i p q' hj (.inr (.inr (by rw[e1,e2];exact λz=>h (Option.some.inj z))))]
 ·obtain⟨x10,x11,rfl,kp,hs1,hj⟩:=h;refine q H' x10 x11 kp ?_;rw[length_map,length_map]at hs1 hj;rw[hs1,TW.cz _ p q' hj (by omega)]
end
theorem pX{k:Int}(h:1≤k):k≠0:=by omega
theorem mx{ms:List Int}{M:Int}(h:M≠0→M∈ms)(h0:∀k∈ms,k≠0):∃r,(ms.filter λk=>decide (k=M))++[0]=M::r:=by
 cases e:ms.filter λk=>decide (k=M)with
 |nil =>
  by_cases z:M=0
  ·subst z;exact⟨[],rfl⟩
  ·have:M∈ms.filter λk=>decide (k=M):=mem_filter.mpr ⟨h z,by simp⟩;rw[e]at this;cases this
 |cons x r =>
  have:x∈ms.filter λk=>decide (k=M):=by rw[e];exact mem_cons_self
  have ex:x=M:=by simpa using (mem_filter.mp this).2
  subst ex;exact⟨r++[0],rfl⟩
abbrev rTO(K:PySem.W.Frag):List V→Hp→VK→Prop:=λxs H Q=>∃p ys,xs=[.ref p]∧((SqL K H p ys∧∀l,H l=none→Q (.ref l) (upd H l (.tup ys)))∨(SqT K H p ys∧Q (.ref p) H))
section
variable{P:Program}{w:World}{K:PySem.W.Frag}{mg:Str→Option Value}{base:Heap}{f PC:Addr}{cdv:Value}{A:Around}{outer:List Env}{s:Shared}{H0:Hp}{E:XK}
theorem LMF.top{H:Hp}{PC t d nl:Addr}{zs:ZN}{as:List (Addr×(Addr×Nd))}{ms:List Int}(h:LMF H PC t d nl zs as ms){M:Int}{p:List Str}(hp:TW.PathTo (nds zs) M p)(hM:M≠0):M∈ms:=by
 obtain⟨z,hz,e,_⟩:=dQ h.tr.tr hp hM;exact(h.mem M).mpr ⟨z,hz,e⟩
theorem mb5(T:Txt mg)(hr:Room 5 (A.deeper (PyProof.Rows.envOfC "law" (ai cN) s.heap.objs.size f cdv)))(CL:Has P w K mg base 1 "_law_path" ["_law_book_here","_law_number"] kw):
  ∃rd,PS (LMX P w K mg base f cdv A outer s H0 E) (mbS 5) rd∧∀(D:Ends)(H:Hp)(a t d nl sm:Addr)(k:Nat)(M:Int)(zs:ZN)(as:List (Addr×(Addr×Nd)))(ms:List Int)(p:List Str)(x5 x6 x7 x8 x10 x11 x12 x13 x14 x15 x16:Option V),LMF H PC t d nl zs as ms→H sm=some (.lst (p.map V.str))→TW.PathTo (nds zs) M p →
   (∀dl r H',Same H H'→H' dl=some (.lst (.int M::r))→D.nx (lmσ a t d nl k x5 x6 x7 x8 (some (.ref sm)) x10 x11 (some (.ref dl)) x13 x14 x15 x16) H')→rd D (lmσ a t d nl k x5 x6 x7 x8 (some (.ref sm)) x10 x11 x12 x13 x14 x15 x16) H:=by
 obtain⟨fL,fdL,GL,mL,kL,bL⟩:=CL;have hr1:Room 1 _:=hr.mono (by decide);have hu4:=iW hr;refine⟨_,ar (i:=12) cE.nd rfl (Or.inl rfl) (aB iK (oZ (N:=["_law_number","_law_book_here","_law_same"]) (cl:=[("_law_same",s.heap.objs.size+2),("_law_book_here",s.heap.objs.size+1)]) (k:=1) (js:=[2,9]) (g:=bp 0) rfl
    (LcOk.mk' ["_law_same","_law_book_here"] rfl rfl (by decide +kernel) (by decide +kernel) ?hcl rfl (by decide +kernel)) rfl ?hj (cS (pv 3)) (λs H fp=>aJ (i:=0) (show(["_law_number","_law_book_here","_law_same"]:List Str).Nodup by decide +kernel) rfl (Or.inl rfl) (Or.inr rfl))
    (λs H fp=>aw (nT hu4) (al (X:=bo _ _ _ _ _ _ _) GL hr1 rfl mL kL bL .nil aD (aa (pv 1) (aa (pv 0) ae))) (aZ (r:=rTO K) bO rfl T.tuple rfl (aa (pv 2) ae)) (aF _)) (λs H fp=>pv 0)) (aX (aa aj ae))),?_⟩
 case hcl =>
  intro y hy;rcases mem_cons.mp hy with e|hy
  ·rw[e];rfl
  ·rcases mem_cons.mp hy with e|hy
   ·rw[e];rfl
   ·cases hy
 case hj =>
  intro i j x h1 h2
  match i,h1,h2 with
  |0,h1,h2 =>
   cases h1;cases h2;exact⟨rfl,Or.inr (Or.inl rfl),(show((ai cN).names.lookup ("_law_book_here":Str)≠some NameKind.local)by decide +kernel),by first|exact Or.inl rfl|exact Or.inr rfl⟩
  |1,h1,h2 =>
   cases h1;cases h2;exact⟨rfl,Or.inr (Or.inl rfl),(show((ai cN).names.lookup ("_law_same":Str)≠some NameKind.local)by decide +kernel),by first|exact Or.inl rfl|exact Or.inr rfl⟩
  |i+2,h1,h2=>simp at h1
 intro D H a t d nl sm k M zs as ms p x5 x6 x7 x8 x10 x11 x12 x13 x14 x15 x16 L hs hM q;have hl:=L.len;refine⟨_,rfl,nl,rfl,⟨_,SqL.of L.nm⟩,λp1 hp1=>?_⟩;refine lH (fr:=[some (.ref d),some (.ref sm)]) ms V.int (by omega) hp1 (jz (SqL.of L.nm)) rfl (λk=>decide (k=M)) (λz y _=>y=.int z) (λ_ _ _ _ h _=>h) (λz H' kk mz s1 _ hk=>?_) (λz H' kk mz _ s1 _ hk=>?_) (λys H' s1 hp' hys=>?_)
 ·obtain⟨pz,hpz⟩:=L.num mz;refine⟨_,rfl,_,rfl,d,z,as,zs,pz,rfl,L.bk.same s1,L.tr.tr,L.tr.len,hpz,λt1 H1 s2 ht1=>?_⟩;refine⟨_,rfl,sm,_,rfl,.inl ⟨SqL.of (s2 _ _ (s1 _ _ hs)),λt2 ht2=>?_⟩⟩;have s3:=ag (o:=.tup (p.map V.str)) ht2;refine⟨t1,t2,pz,p,rfl,rfl,s3 _ _ ht1,ac,_,rfl,?_⟩;have e:decide (pz=p)=decide (z=M):=by
   rw[decide_eq_decide];constructor
   ·rintro rfl;exact hpz.key L.tr.tr hM
   ·rintro rfl;exact hpz.uniq L.tr.tr hM
  rw[e];exact hk _ (s2.trans s3)
 ·exact⟨_,rfl,hk _ H' (Same.refl _) rfl⟩
 ·have ey:=cL (f:=λz:Int=>V.int z) hys (λz y _ h=>h);have hfl:=length_filter_le (λz:Int=>decide (z=M)) ms;refine⟨aV (show 1≤1000 by decide),λp2 h2=>?_⟩;refine⟨p1,p2,_,_,rfl,rfl,bj h2 hp',ac,aV (by rw[ey,length_map];show _+1≤1000;omega),λp3 h3=>?_⟩;obtain⟨r,er⟩:=mx (ms:=ms) (M:=M) (L.top hM) λk hk=>pX (L.bds hk).1;refine q p3 (r.map V.int) _ ((s1.trans (ag h2)).trans (ag h3)) ?_;rw[ac,ey];have:=congrArg (List.map V.int) er;rw[map_append]at this;rw[←map_cons,←this];rfl
theorem rq(hr:Room 5 (A.deeper (PyProof.Rows.envOfC "law" (ai cN) s.heap.objs.size f cdv)))(CM:Has P w K mg base 3 "meeting" ["tree","one","other"] iz):
  ∃r6 r7,PS (LMX P w K mg base f cdv A outer s H0 E) (mbS 6) r6∧PS (LMX P w K mg base f cdv A outer s H0 E) (mbS 7) r7∧∀(D:Ends)(H:Hp)(a t d nl dl:Addr)(k:Nat)(one other M:Int)(r:List V)(zs:ZN)(as:List (Addr×(Addr×Nd)))(ms:List Int)(p q:List Str)(x7 x8 x9 x10 x11 x13 x14 x15 x16:Option V),LMF H PC t d nl zs as ms→one∈ms→other∈ms→H dl=some (.lst (.int M::r))→TW.Meet (nds zs) one other M p q →
   (∀H',Same H H'→D.nx (lmσ a t d nl k (some (.int one)) (some (.int other)) x7 x8 x9 x10 x11 (some (.ref dl)) (some (.int M)) x14 x15 x16) H') →
   r6 {D with nx:=r7 D} (lmσ a t d nl k (some (.int one)) (some (.int other)) x7 x8 x9 x10 x11 (some (.ref dl)) x13 x14 x15 x16) H:=by
 obtain⟨fM,fdM,GM,mM,kM,bM⟩:=CM;have hr3:Room 3 _:=hr.mono (by decide);refine⟨_,_,ar (i:=13) cE.nd rfl (Or.inl rfl) (al GM hr3 rfl mM kM bM .nil aD (aa (pv 1) (aa (pv 5) (aa (pv 6) ae)))),
  bi (PW.pt (pw_or (aw bQ (pv 13) (aP bG (pv 12) aj (λ_ _=>rfl)) (aF _)) (pw_or (aw bQ (al GM hr3 rfl mM kM bM .nil aD (aa (pv 1) (aa (pv 6) (aa (pv 5) ae)))) (pv 13) (aF _)) (pw_or1 (aw bQ (al GM hr3 rfl mM kM bM .nil aD (aa (pv 1) (aa (pv 5) (aa (pv 5) ae)))) (pv 5) (aF _)))))) bt aI,?_⟩
 intro D H a t d nl dl k one other M r zs as ms p q' x7 x8 x9 x10 x11 x13 x14 x15 x16 L h1 h2 hd Me q;have b1:=L.bds h1;have b2:=L.bds h2;have hTr:=L.tr.tr;refine⟨_,rfl,_,rfl,_,rfl,t,one,other,zs,p,q',rfl,L.tr,by omega,by omega,(L.mem _).mp h1,(L.mem _).mp h2,Me.pa,Me.pb,λM1 H1 s1 Me1=>?_⟩;have e1:M1=M:=Me1.pt.key hTr Me.pt;subst e1;have tr1:=L.tr.same s1;refine⟨_,rfl,_,rfl,dl,_,_,_,rfl,rfl,SqL.of (s1 _ _ hd),cV (j:=0) rfl,rfl,_,rfl,?_⟩;rw[show(!decide (V.int M1=V.int M1))=false by simp];refine aW ?_;refine⟨_,rfl,_,rfl,_,rfl,t,other,one,zs,q',p,rfl,tr1,by omega,by omega,(L.mem _).mp h2,(L.mem _).mp h1,Me.pb,Me.pa,λM2 H2 s2 Me2=>?_⟩;have e2:M2=M1:=by
  have:=Me2.pt;rw[TW.dm]at this;exact this.key hTr Me.pt
 subst e2;refine⟨_,rfl,rfl,_,rfl,?_⟩;rw[show(!decide (V.int M2=V.int M2))=false by simp];refine aW ?_;refine⟨_,rfl,_,rfl,_,rfl,t,one,one,zs,p,p,rfl,tr1.same s2,by omega,by omega,(L.mem _).mp h1,(L.mem _).mp h1,Me.pa,Me.pa,λM3 H3 s3 Me3=>?_⟩;have e3:M3=one:=by
  have:=Me3.pt;rw[TW.mq]at this;exact this.key hTr Me.pa
 subst e3;refine⟨_,rfl,rfl,_,rfl,?_⟩;rw[show(!decide (V.int M3=V.int M3))=false by simp];exact aW (q H3 ((s1.trans s2).trans s3))
theorem mb8(hr:Room 5 (A.deeper (PyProof.Rows.envOfC "law" (ai cN) s.heap.objs.size f cdv)))(CU:Has P w K mg base 1 "_law_under" ["_law_book_here","_law_number","_law_goal"] ga):
  ∃rd,PS (LMX P w K mg base f cdv A outer s H0 E) (mbS 8) rd∧∀(D:Ends)(H:Hp)(a t d nl:Addr)(k:Nat)(one other M:Int)(zs:ZN)(as:List (Addr×(Addr×Nd)))(ms:List Int)(p q:List Str)(x7 x8 x9 x10 x11 x12 x14 x15 x16:Option V),LMF H PC t d nl zs as ms→TW.Meet (nds zs) one other M p q →
   D.nx (lmσ a t d nl k (some (.int one)) (some (.int other)) x7 x8 x9 x10 x11 x12 (some (.int M)) x14 x15 x16) H →
   rd D (lmσ a t d nl k (some (.int one)) (some (.int other)) x7 x8 x9 x10 x11 x12 (some (.int M)) x14 x15 x16) H:=by
 obtain⟨fU,fdU,GU,mU,kU,bU⟩:=CU;have hr1:Room 1 _:=hr.mono (by decide);refine⟨_,bi (PW.pt (pw_and (iA (al GU hr1 rfl mU kU bU .nil aD (aa (pv 2) (aa (pv 5) (aa (pv 6) ae)))) (λ_=>rfl)) (pw_and1 (aw bQ (pv 13) (pv 6) (aF _))))) bt aI,?_⟩;intro D H a t d nl k one other M zs as ms p q' x7 x8 x9 x10 x11 x12 x14 x15 x16 L Me q;have hTr:=L.tr.tr;refine⟨_,rfl,_,rfl,_,rfl,d,one,other,as,zs,p,rfl,L.bk,hTr,Me.pa,λb hb=>⟨b,rfl,?_⟩⟩;cases b with
 |true =>
  have e:=Me.above hTr (hb.mp rfl);subst e;refine cn ⟨_,rfl,_,rfl,rfl,_,rfl,?_⟩;rw[show(!decide (V.int M=V.int M))=false by simp];exact aW q
 |false=>exact aW (aW q)
theorem mb9(hr:Room 5 (A.deeper (PyProof.Rows.envOfC "law" (ai cN) s.heap.objs.size f cdv)))(CU:Has P w K mg base 1 "_law_under" ["_law_book_here","_law_number","_law_goal"] ga):
  ∃rd,PS (LMX P w K mg base f cdv A outer s H0 E) (mbS 9) rd∧∀(D:Ends)(H:Hp)(a t d nl:Addr)(k:Nat)(one other M:Int)(zs:ZN)(as:List (Addr×(Addr×Nd)))(ms:List Int)(p q:List Str)(x7 x8 x9 x10 x11 x12 x14 x15 x16:Option V),LMF H PC t d nl zs as ms→TW.Meet (nds zs) one other M p q →
   D.nx (lmσ a t d nl k (some (.int one)) (some (.int other)) x7 x8 x9 x10 x11 x12 (some (.int M)) x14 x15 x16) H →
   rd D (lmσ a t d nl k (some (.int one)) (some (.int other)) x7 x8 x9 x10 x11 x12 (some (.int M)) x14 x15 x16) H:=by
 obtain⟨fU,fdU,GU,mU,kU,bU⟩:=CU;have hr1:Room 1 _:=hr.mono (by decide);refine⟨_,bi (PW.pt (pw_or (kG (iA (al GU hr1 rfl mU kU bU .nil aD (aa (pv 2) (aa (pv 5) (aa (pv 13) ae)))) (λ_=>rfl))) (pw_or1 (kG (iA (al GU hr1 rfl mU kU bU .nil aD (aa (pv 2) (aa (pv 6) (aa (pv 13) ae)))) (λ_=>rfl)))))) bt aI,?_⟩;intro D H a t d nl k one other M zs as ms p q' x7 x8 x9 x10 x11 x12 x14 x15 x16 L Me q;have hTr:=L.tr.tr;refine⟨_,rfl,_,rfl,_,rfl,d,one,M,as,zs,p,rfl,L.bk,hTr,Me.pa,λb hb=>⟨b,rfl,?_⟩⟩;have eb:=hb.mpr (Me.und hTr);subst eb;refine aW ⟨_,rfl,_,rfl,_,rfl,d,other,M,as,zs,q',rfl,L.bk,hTr,Me.pb,λb hb=>⟨b,rfl,?_⟩⟩;have eb:=hb.mpr (Me.swap.und hTr);subst eb;exact aW q
end
end TK
namespace TW
theorem nW{S:Type}{ns:List (Nd S)}{g k:Int}(h:Und ns g k):k=g∨∃n∈ns,n.par=g:=by
 induction h with
 |here=>exact .inl rfl
 |@up n hn _ ih =>
  rcases ih with e|h
  ·exact .inr ⟨n,hn,e⟩
  ·exact .inr h
theorem jf{S:Type}{ns:List (Nd S)}(T:Tree1 ns){n:Nd S}(hn:n∈ns):n.par=0∨∃m∈ns,m.num=n.par∧m.st=none:=by
 cases T.down n hn with
 |base _ e=>exact .inl e
 |@step m _ hm hs _ e=>exact .inr ⟨m,hm.mem,e.symm,hs⟩
end TW
namespace TK
open PySem L2
theorem bJ.off{K:PySem.W.Frag}{H H':Hp}{a PC:Addr}{q:Str}(h:bJ K H a)(T:ca H PC q)(o:dA PC H H'):bJ K H' a:=by
 obtain⟨ns,h⟩:=h;refine⟨ns,?_⟩;rcases h with (h|⟨u,h⟩)|h
 ·exact .inl (.inl (dU T o h λps e=>by cases e))
 ·exact .inl (.inr ⟨u,dU T o h λps e=>by cases e⟩)
 ·exact .inr h
theorem nX{zs ys:ZN}{k:Int}(h:Kids zs k ys){i:Nat}{v:V}(e:(ir ys)[i]?=some v):∃z∈zs,z.2.par=k∧v=.int z.2.num:=by
 unfold ir at e;rw[getElem?_map]at e;cases e1:ys[i]? with
 |none=>rw[e1]at e;cases e
 |some z =>
  rw[e1]at e;have hz:=h.perm.mem_iff.mp (mem_of_getElem? e1);exact⟨z,(mem_filter.mp hz).1,by simpa [be]using (mem_filter.mp hz).2,(Option.some.inj e).symm⟩
theorem gb(ms:List Int):(ms.map V.int).all cW=true:=by
 rw[all_eq_true];intro x hx;obtain⟨k,_,rfl⟩:=mem_map.mp hx;rfl
section
variable{P:Program}{w:World}{K:PySem.W.Frag}{mg:Str→Option Value}{base:Heap}{f PC:Addr}{cdv:Value}{A:Around}{outer:List Env}{s:Shared}{H0:Hp}{E:XK}
theorem rA{CN0:Addr}(T:Txt mg)(hr:Room 5 (A.deeper (PyProof.Rows.envOfC "law" (ai cN) s.heap.objs.size f cdv)))(CC:Has P w K mg base 4 "children" ["tree","number"] (iw PC))(CB:eY P w K mg base 2 "below" ["tree","number"] (ig CN0))(CD:Has P w K mg base 3 "depth_of" ["tree","number"] ix):
  ∃rd,PS (LMX P w K mg base f cdv A outer s H0 E) (mbS 10) rd∧∀(D:Ends)(H:Hp)(a t d nl:Addr)(k:Nat)(one other M:Int)(zs:ZN)(as:List (Addr×(Addr×Nd)))(ms:List Int)(p q:List Str)(x7 x8 x9 x10 x11 x12 x14 x15 x16:Option V),LMF H PC t d nl zs as ms→one∈ms→other∈ms→TW.Meet (nds zs) one other M p q →
   (∀x14 x15 x16 H',dA PC H H'→ca H' PC dM→D.nx (lmσ a t d nl k (some (.int one)) (some (.int other)) x7 x8 x9 x10 x11 x12 (some (.int M)) x14 x15 x16) H') →
   rd D (lmσ a t d nl k (some (.int one)) (some (.int other)) x7 x8 x9 x10 x11 x12 (some (.int M)) x14 x15 x16) H:=by
 obtain⟨fC,fdC,GC,mC,kC,bC⟩:=CC;obtain⟨fB,fdB,GB,mB,kB,bB⟩:=CB;obtain⟨fD,fdD,GD,mD,kD,bD⟩:=CD;have hr4:Room 4 _:=hr.mono (by decide);have hr3:Room 3 _:=hr.mono (by decide);have hr2:Room 2 _:=hr.mono (by decide);refine⟨_,bi (aw gn (pv 13) (cf (aa (pv 5) (aa (pv 6) ae))) rfl)
  (ah (cr PassesOwn.never rfl (cS (al GC hr4 rfl mC kC bC .nil aD (aa (pv 1) (aa (pv 13) ae)))) (aJ (i:=14) cE.nd rfl (Or.inl rfl))
   (ah (ar (i:=15) cE.nd rfl (Or.inl rfl) (aB iK (al GB hr2 rfl mB kB bB .nil hZ (aa (pv 1) (aa (pv 14) ae))) (aX (aa (pv 14) ae))))
    (ak (bi (PW.pt (pw_and (aw fo (pv 5) (pv 15) rfl) (pw_and1 (aw fo (pv 6) (pv 15) rfl)))) bt aI))))
  (ah (ar (i:=16) cE.nd rfl (Or.inl rfl) (aN (fg rfl) rfl T.min boot_min (aa (al GD hr3 rfl mD kD bD .nil aD (aa (pv 1) (aa (pv 5) ae))) (aa (al GD hr3 rfl mD kD bD .nil aD (aa (pv 1) (aa (pv 6) ae))) ae))))
   (ak (bi (PW.pt (pw_and (aw bQ (pv 13) aj (aF _)) (pw_and1 (aw qp (al GD hr3 rfl mD kD bD .nil aD (aa (pv 1) (aa (pv 13) ae))) (pv 16) (aF _))))) bt aI)))) aI,?_⟩
 intro D H a t d nl k one other M zs as ms p q' x7 x8 x9 x10 x11 x12 x14 x15 x16 L h1 h2 Me q;have hTr:=L.tr.tr;refine⟨_,rfl,_,rfl,_,rfl,le2,λt0 ht0=>?_⟩;have s0:=ag (o:=.tup [.int one,.int other]) ht0;refine⟨t0,[.int one,.int other],rfl,.inr (SqT.of ac),rfl,rfl,_,rfl,?_⟩;generalize upd H t0 (.tup [.int one,.int other])=H1 at s0⊢;have L1:=L.same s0;have ein:inV (.int M) [.int one,.int other]=decide (M∈[one,other]):=gB M [one,other];rw[ein]
 by_cases hin:M∈[one,other]
 ·rw[decide_eq_true hin];exact aW (q _ _ _ H1 (λb o _ e=>s0 _ _ e) L1.tab)
 rw[decide_eq_false hin];refine cn ?_;have n1:M≠one:=λe=>hin (by simp[e]);have n2:M≠other:=λe=>hin (by simp[e]);have hfold:M=0∨∃z∈zs,z.2.num=M∧z.2.st=none:=by
  rcases TW.nW (Me.und hTr)with e|⟨n,hn,e⟩
  ·exact absurd e.symm n1
  ·rcases TW.jf hTr hn with h|⟨m,hm,e1,e2⟩
   ·exact .inl (e ▸ h)
   ·obtain⟨z,hz,rfl⟩:=mem_map.mp hm;exact .inr ⟨z,hz,e1.trans e,e2⟩
 have hMb:0≤M∧M≤60:=by
  rcases hfold with e|⟨z,hz,e,_⟩
  ·omega
  ·have:=L.bd z hz;omega
 refine⟨_,rfl,_,rfl,t,M,zs,rfl,L1.tr,hMb.1,hMb.2,hfold,L1.tab,λl ys H2 off tq hK hl0 hl2=>?_⟩;have L2:=L1.off off tq;refine⟨l,rfl,⟨_,SqL.of hl2⟩,gK (xs:=ir ys) (λi σ H'=>∃x14 x15,σ=lmσ a t d nl k (some (.int one)) (some (.int other)) x7 x8 x9 x10 x11 x12 (some (.int M)) x14 x15 x16∧Same H2 H') ⟨_,_,rfl,Same.refl _⟩ (λi σ H' _ h=>?_) (λi x σ H' hx h=>?_) (λσ H' h=>?_)⟩
 ·obtain⟨_,_,_,s⟩:=h;exact SqL.of (s _ _ hl2)
 ·obtain⟨x14,x15,rfl,s2⟩:=h;obtain⟨z,hz,ep,rfl⟩:=nX hK hx;have bz:=L.bd z hz;have L3:=L2.same s2;refine⟨_,rfl,_,rfl,t,z.2.num,zs,rfl,L3.tr,by omega,by omega,λ_ bs lb H4 s4 _ hbl hbm hlb=>?_,λ_ hno=>absurd rfl (hno z hz)⟩;have hzl:=L.tr.len;refine⟨_,rfl,aV (show 1≤1000 by decide),λp2 hp2=>?_⟩;refine⟨lb,p2,_,_,rfl,rfl,bj hp2 hlb,ac,aV (by rw[length_map];show _+1≤1000;omega),λp3 hp3=>?_⟩;have s5:=(s4.trans (ag (o:=.lst [.int z.2.num]) hp2)).trans (ag (o:=.lst (bs.map V.int++[.int z.2.num])) hp3);have h3:upd (upd H4 p2 (.lst [.int z.2.num])) p3 (.lst (bs.map V.int++[.int z.2.num])) p3=some (.lst ((bs++[z.2.num]).map V.int)):=by rw[ac,map_append];rfl
  generalize upd (upd H4 p2 (.lst [.int z.2.num])) p3 (.lst (bs.map V.int++[.int z.2.num]))=H5 at s5 h3⊢;have hund:∀{g:Int},g∈bs++[z.2.num]→TW.Und (nds zs) z.2.num g:=λ{g} hg=>by
   rcases mem_append.mp hg with h|h
   ·obtain⟨n,hn,e,hre⟩:=(hbm g).mp h;rw[←e];exact((TW.kr hTr bz.1 hn).mp hre).2
   ·have:g=z.2.num:=by simpa using h
    rw[this];exact .here
  refine⟨_,rfl,_,rfl,p3,_,rfl,.inl (SqL.of h3),rfl,gb _,_,rfl,?_⟩;rw[show(if false=true then !inV (.int one) ((bs++[z.2.num]).map V.int)else inV (.int one) ((bs++[z.2.num]).map V.int))=decide (one∈bs++[z.2.num])from gB _ _]
  by_cases i1:one∈bs++[z.2.num]
  ·rw[decide_eq_true i1];refine cn ⟨_,rfl,_,rfl,p3,_,rfl,.inl (SqL.of h3),rfl,gb _,_,rfl,?_⟩;rw[show(if false=true then !inV (.int other) ((bs++[z.2.num]).map V.int)else inV (.int other) ((bs++[z.2.num]).map V.int))=decide (other∈bs++[z.2.num])from gB _ _]
   by_cases i2:other∈bs++[z.2.num]
   ·exact(Me.child hTr (gD hz) ep (hund i1) (hund i2)).elim
   ·rw[decide_eq_false i2];exact aW ⟨_,_,rfl,s2.trans s5⟩
  ·rw[decide_eq_false i1];exact aW (aW ⟨_,_,rfl,s2.trans s5⟩)
 ·obtain⟨x14,x15,rfl,s2⟩:=h;have b1:=L.bds h1;have b2:=L.bds h2;have tr2:=(L2.same s2).tr;refine⟨_,rfl,_,rfl,t,one,zs,p,rfl,tr2,by omega,by omega,(L.mem _).mp h1,Me.pa,λH3 s3=>?_⟩;refine⟨_,rfl,_,rfl,t,other,zs,q',rfl,tr2.same s3,by omega,by omega,(L.mem _).mp h2,Me.pb,λH4 s4=>?_⟩;have fin:∀x16 H5,Same H4 H5→D.nx (lmσ a t d nl k (some (.int one)) (some (.int other)) x7 x8 x9 x10 x11 x12 (some (.int M)) x14 x15 x16) H5:=λx16 H5 s5 =>
   have s25:=((s2.trans s3).trans s4).trans s5
   q _ _ _ H5 (λb o n e=>s25 _ _ (off b o n (s0 _ _ e))) (cB tq s25)
  refine⟨_,_,rfl,_,rfl,rfl,_,rfl,?_⟩
  by_cases h0:M=0
  ·rw[show(!decide (V.int M=V.int 0))=false by simp[h0]];exact aW (aW (fin _ _ (Same.refl _)))
  ·rw[show(!decide (V.int M=V.int 0))=true by simp[h0]];have hMn:∃z∈zs,z.2.num=M:=(L.mem M).mp (L.top Me.pt h0);refine cn ⟨_,rfl,_,rfl,t,M,zs,_,rfl,(tr2.same s3).same s4,hMb.1,hMb.2,hMn,Me.pt,λH5 s5=>?_⟩;refine⟨_,rfl,_,_,rfl,rfl,_,rfl,?_⟩;have l1:=Me.less hTr n1;have l2:=Me.swap.less hTr n2;rw[TW.dm]at l2;rw[show decide ((if (q'.length:Int)<p.length then (q'.length:Int)else p.length)≤((TW.lcp p q').length:Int))=false from decide_eq_false (by split<;>omega)]
   exact aW (fin _ _ s5)
end
def jN(PC:Addr)(K:PySem.W.Frag):Sp:=λvs H Q _=>∃(a:Addr) (ns:List Int),vs=[.ref a]∧SqL K H a (ns.map V.int)∧ns.length≤63∧H PC=some (.tbl #[])∧∀H',Q (.bl true) H'
section
variable{P:Program}{w:World}{K:PySem.W.Frag}{mg:Str→Option Value}{base:Heap}{f PC CN0:Addr}{fd:FuncData}
theorem pY(F:Fun K "law" "law" cN f fd)(T:Txt mg)(CT:Has P w K mg base 3 "_law_tree" ["_law_script","_law_at","_law_most"] (dS K))(CBk:Has P w K mg base 1 "_law_book" ["_law_tree_here"] gE)(CP:Has P w K mg base 2 "_law_pick" ["_law_script","_law_k","_law_many"] (cP K))(CL:Has P w K mg base 1 "_law_path" ["_law_book_here","_law_number"] kw)(CM:Has P w K mg base 3 "meeting" ["tree","one","other"] iz)(CU:Has P w K mg base 1 "_law_under" ["_law_book_here","_law_number","_law_goal"] ga)(CC:Has P w K mg base 4 "children" ["tree","number"] (iw PC))(CB:eY P w K mg base 2 "below" ["tree","number"] (ig CN0))(CD:Has P w K mg base 3 "depth_of" ["tree","number"] ix):
  FnOk P w K mg base CX0 6 f fd ["_law_script"] (jN PC K):=by
 obtain⟨fT,fdT,GT,mT,kT,bT⟩:=CT;obtain⟨fK,fdK,GK,mK,kK,bK⟩:=CBk;refine F.ok cE (λvs H Q E h=>?_) (λcdv A outer s H vs Q E hr h=>?_)
 ·obtain⟨a,ns,rfl,_⟩:=h;rfl
 ·obtain⟨a,ns,rfl,hS,hn,hPC,q⟩:=h;have hr3:Room 3 _:=hr.mono (by decide);have hr1:Room 1 _:=hr.mono (by decide);obtain⟨r0,p0,h0⟩:=mb0 (PC:=PC) (outer:=outer) (H0:=H) (E:=E) T hr CP;obtain⟨r1,p1,h1⟩:=mb1 (PC:=PC) (outer:=outer) (H0:=H) (E:=E) T hr CP;obtain⟨r2,p2,h2⟩:=mb2 (PC:=PC) (outer:=outer) (H0:=H) (E:=E) hr CL;obtain⟨r3,p3,h3⟩:=mb3 (P:=P) (w:=w) (K:=K) (mg:=mg) (base:=base) (f:=f) (cdv:=cdv) (A:=A) (s:=s) (outer:=outer) (H0:=H) (E:=E);obtain⟨r4,p4,h4⟩:=mb4 (P:=P) (w:=w) (K:=K) (base:=base) (f:=f) (cdv:=cdv) (A:=A) (s:=s) (outer:=outer) (H0:=H) (E:=E) T;obtain⟨r5,p5,h5⟩:=mb5 (PC:=PC) (outer:=outer) (H0:=H) (E:=E) T hr CL;obtain⟨r6,r7,p6,p7,h67⟩:=rq (PC:=PC) (outer:=outer) (H0:=H) (E:=E) hr CM;obtain⟨r8,p8,h8⟩:=mb8 (PC:=PC) (outer:=outer) (H0:=H) (E:=E) hr CU;obtain⟨r9,p9,h9⟩:=mb9 (PC:=PC) (outer:=outer) (H0:=H) (E:=E) hr CU;obtain⟨r10,p10,h10⟩:=rA (PC:=PC) (outer:=outer) (H0:=H) (E:=E) T hr CC CB CD;refine⟨_,ah (ar (i:=1) cE.nd rfl (Or.inl rfl) (al GT hr3 rfl mT kT bT .nil aD (aa (pv 0) (aa aj (aa aj ae)))))
   (ah (ar (i:=2) cE.nd rfl (Or.inr rfl) (al GK hr1 rfl mK kK bK .nil aD (aa (pv 1) ae)))
   (ah (ar (i:=3) cE.nd rfl (Or.inl rfl) (aN (eR rfl) rfl T.sorted boot_sorted (aa (pv 2) ae)))
   (ah (cr PassesOwn.never rfl (fe rfl T.range (aa (aN (fg rfl) rfl T.min boot_min (aa aj (aa (aN aK rfl T.len boot_len (aa (pv 3) ae)) ae))) ae)) (aJ (i:=4) cE.nd rfl (Or.inl rfl))
    (ah p0 (ah p1 (ah p2 (ah p3 (ah p4 (ah p5 (ah p6 (ah p7 (ah p8 (ah p9 (ak p10)))))))))))) (ak (aM qd))))),?_⟩
  have TC0:ca H PC dM:=.start hPC;refine⟨_,rfl,a,0,9,rfl,by decide,by decide,by decide,⟨ns,hS⟩,λt zs H1 ht1 hA1 hl1 hT1 hG1 s1=>?_⟩;have tr1:TW.Tree1 (nds zs):=⟨hT1,λn hn=>by obtain⟨z,hz,rfl⟩:=lO hn;exact(hG1 z hz).1⟩;have Tr1:Tre H1 t zs:=⟨ht1,hA1,tr1,by omega⟩;refine⟨_,rfl,t,zs,rfl,Tr1,λd as H2 s2 hd0 bk hd=>?_⟩;have hnd:=bg tr1;refine⟨_,rfl,d,_,(nds zs).map (·.num),rfl,.inl hd,eO bk.of,hnd,by rw[length_map,aH];omega,λms hpm hup nl hnl=>?_⟩;have s3:=ag (o:=.lst (ms.map V.int)) hnl;have hml:ms.length≤9:=by rw[hpm.length_eq,length_map,aH];omega
  have hnm:upd H2 nl (.lst (ms.map V.int)) nl=some (.lst (ms.map V.int)):=ac;generalize upd H2 nl (.lst (ms.map V.int))=H3 at s3 hnm⊢;have s13:=s2.trans s3;have L3:LMF H3 PC t d nl zs as ms:=⟨Tr1.same s13,bk.same s3,hnm,cB TC0 (s1.trans s13),λk=>by
    rw[hpm.mem_iff,mem_map];constructor
    ·rintro⟨n,hn,e⟩;obtain⟨z,hz,rfl⟩:=lO hn;exact⟨z,hz,e⟩
    ·rintro⟨z,hz,e⟩;exact⟨z.2,gD hz,e⟩,λz hz=>⟨(hG1 z hz).1,by have:=(hG1 z hz).2.1;omega⟩,by omega⟩
  have hS3:bJ K H3 a:=bJ.same ⟨ns,hS⟩ (s1.trans s13);refine⟨_,rfl,nl,_,rfl,.inl (SqL.of hnm),?_⟩;obtain⟨m,em,hm⟩:∃m:Nat,(if ((ms.map V.int).length:Int)<6 then ((ms.map V.int).length:Int)else 6)=m∧m≤ms.length:=by
   rw[length_map]
   by_cases h:(ms.length:Int)<6
   ·rw[if_pos h];exact⟨_,rfl,le_refl _⟩
   ·rw[if_neg h];exact⟨6,rfl,by omega⟩
  refine⟨_,_,rfl,?_⟩;rw[em];refine⟨m,rfl,by omega,by omega,ff (n:=m) (λi σ H'=>∃x4 x5 x6 x7 x8 x9 x10 x11 x12 x13 x14 x15 x16,σ=[some (.ref a),some (.ref t),some (.ref d),some (.ref nl),x4,x5,x6,x7,x8,x9,x10,x11,x12,x13,x14,x15,x16]∧LMF H' PC t d nl zs as ms∧bJ K H' a) ⟨_,_,_,_,_,_,_,_,_,_,_,_,_,rfl,L3,hS3⟩ (λi σ H4 hi h=>?_) (λσ H4 h=>?_)⟩
  ·obtain⟨x4,x5,x6,x7,x8,x9,x10,x11,x12,x13,x14,x15,x16,rfl,L,hS⟩:=h;have hpos:0<ms.length:=by omega
   rw[show(0:Int)+(i:Int)=(i:Nat)by omega];refine h0 _ H4 a t d nl i zs as ms x5 x6 x7 x8 x9 x10 x11 x12 x13 x14 x15 x16 hS L hpos λone H5 s5 m1=>?_;have L5:=L.same s5;have hS5:=hS.same s5;refine h1 _ H5 a t d nl i zs as ms _ x6 x7 x8 x9 x10 x11 x12 x13 x14 x15 x16 hS5 L5 hpos λother H6 s6 m2=>?_;have L6:=L5.same s6;obtain⟨pa,hpa⟩:=L.num m1;obtain⟨pb,hpb⟩:=L.num m2;obtain⟨M,Me⟩:=TW.Meet.ex hpa hpb;refine h2 _ H6 a t d nl i one other zs as ms pa pb x7 x8 x9 x10 x11 x12 x13 x14 x15 x16 L6 hpa hpb λt1 t2 H7 s7 ht1 ht2=>?_;refine h3 _ H7 a t d nl i _ _ _ _ x9 x10 x11 x12 x13 x14 x15 x16 λsm H8 s8 hs0 hs8=>?_;have lpa:pa.length≤100:=by have:=hpa.len tr1;rw[aH]at this;omega
   refine h4 _ H8 a t d nl t1 t2 sm i pa pb _ _ x10 x11 x12 x13 x14 x15 x16 (s8 _ _ ht1) (s8 _ _ ht2) hs8 lpa λH9 x10 x11 kp hs9=>?_;have s9:Same H7 H9:=λb o e=>kp b o (s8 b o e) λz=>by rw[z,hs0]at e;cases e
   have s69:=s7.trans s9;have L9:=L6.same s69;refine h5 _ H9 a t d nl sm i M zs as ms _ _ _ _ _ x10 x11 x12 x13 x14 x15 x16 L9 hs9 Me.pt λdl r H10 s10 hdl=>?_;have L10:=L9.same s10;refine h67 _ H10 a t d nl dl i one other M r zs as ms pa pb _ _ _ _ _ x13 x14 x15 x16 L10 m1 m2 hdl Me λH11 s11=>?_;have L11:=L10.same s11;refine h8 _ H11 a t d nl i one other M zs as ms pa pb _ _ _ _ _ _ x14 x15 x16 L11 Me ?_;refine h9 _ H11 a t d nl i one other M zs as ms pa pb _ _ _ _ _ _ x14 x15 x16 L11 Me ?_;refine h10 _ H11 a t d nl i one other M zs as ms pa pb _ _ _ _ _ _ x14 x15 x16 L11 m1 m2 Me λx14 x15 x16 H12 off tq=>?_;have hS11:=hS5.same (((s6.trans s69).trans s10).trans s11);exact⟨_,_,_,_,_,_,_,_,_,_,_,_,_,rfl,L11.off off tq,hS11.off L11.tab off⟩
  ·obtain⟨x4,x5,x6,x7,x8,x9,x10,x11,x12,x13,x14,x15,x16,rfl,_,_⟩:=h;exact q H4
end
end TK
namespace TK
open PySem PySem.W PyProof.Rows L2
theorem pZ{K:PySem.W.Frag}{h:Heap}{mg:Str→Option Value}{x:Str}{C:Addr}{bB:List Value}{nid:String}(X:K.In h)(hb:mg x=some (.ref C))(q:excIn K C bB nid=true):OwnCls x C bB nid mg h:=by
 have hobj:∃bm N nm q' bs hdct sn sub ab col dd k0 k1 k2 k3 k5 mN,h.get? C=some (excClassObj nm q' C N bs bm hdct sn sub ab col dd k0 k1 k2 k3 k5 nid)∧h.Ns N mN∧mN "__init__"=none∧OwnTail h bB bm:=by
  unfold excIn at q
  split at q
  case h_2=>exact absurd q (by simp)
  case h_1 d0 c0 s0 hK =>
   split at q
   case h_2=>exact absurd q (by simp)
   case h_1 C1 b1 u0 u1 u2 u3 u4 u5 e1 e2 =>
    rw[and_eq_true,and_eq_true,and_eq_true,and_eq_true,and_eq_true]at q;obtain⟨⟨⟨⟨⟨y1,y2⟩,y3⟩,g4⟩,g5⟩,y6⟩:=q;have g1:C1=C:=beq_iff_eq.mp y1;have g2:u4=nid:=beq_iff_eq.mp y2;have g3:c0.hasDel=false:=by simpa using y3
    have g6:nsIn K c0.ns "__init__"=some none:=beq_iff_eq.mp y6;clear y1 y2 y3 y6;cases c0;cases s0;dsimp only at e1 e2 g3 g5 g6;subst g1 g2 g3 e1 e2;exact⟨_,_,_,_,_,_,_,_,_,_,_,_,_,_,_,_,_,X _ _ hK,Heap.Ns.of_isNs (PySem.W.isNs_of_in X g5),PySem.W.nsMap_none_of_in X g5 g6,PySem.W.tail_of_in X g4⟩
 exact⟨hb,hobj⟩
theorem rB{α:Type}{P:List α→Prop}{us:List α}(hl:us.length=0)(h:P []):P us:=by cases us with|nil=>exact h|cons a r=>cases hl
theorem qS{α:Type}{P:List α→Prop}{us:List α}(hl:us.length=1)(h:∀a0,P [a0]):P us:=by cases us with|nil=>cases hl|cons a r=>exact rB (P:=λr=>P (a::r)) (Nat.succ.inj hl) (h a)
theorem qT{α:Type}{P:List α→Prop}{us:List α}(hl:us.length=2)(h:∀a0 a1,P [a0,a1]):P us:=by cases us with|nil=>cases hl|cons a r=>exact qS (P:=λr=>P (a::r)) (Nat.succ.inj hl) (h a)
theorem rC{α:Type}{P:List α→Prop}{us:List α}(hl:us.length=3)(h:∀a0 a1 a2,P [a0,a1,a2]):P us:=by cases us with|nil=>cases hl|cons a r=>exact qT (P:=λr=>P (a::r)) (Nat.succ.inj hl) (h a)
abbrev gA(K:PySem.W.Frag)(x:Str)(f:Addr):Prop:=nsIn K mainGlobals x=some (some (.ref f))
abbrev gN(K:PySem.W.Frag)(x:Str):Prop:=nsIn K mainGlobals x=some none
theorem fh{P:Program}{w:World}{K:PySem.W.Frag}{mg:Str→Option Value}{base h:Heap}{k:Nat}{x q:Str}{st:Stmt}{f:Addr}{fd:FuncData}{ps:List Str}{sp:Sp}(X:K.In h)(G:h.Ns mainGlobals mg)(F:Fun K x q st f fd)(a:gA K x f)(b:bx K fd ps [])(O:FnOk P w K mg base CX0 k f fd ps sp):Has P w K mg base k x ps sp:=⟨f,fd,O,mg_of X G a,F.kp,b⟩
theorem fhX{P:Program}{w:World}{K:PySem.W.Frag}{mg:Str→Option Value}{base h:Heap}{k:Nat}{x q:Str}{st:Stmt}{f:Addr}{fd:FuncData}{ps:List Str}{sp:Sp}(X:K.In h)(G:h.Ns mainGlobals mg)(F:Fun K x q st f fd)(a:gA K x f)(b:bx K fd ps [])(O:FnOk P w K mg base (CX1 P w) k f fd ps sp):eY P w K mg base k x ps sp:=⟨f,fd,O,mg_of X G a,F.kp,b⟩
theorem fb1{K:PySem.W.Frag}{x q a0:Str}{st:Stmt}{f:Addr}{fd:FuncData}(F:Fun K x q st f fd)(h:∀(kV doc pm:Value) (an:Option Addr) (cdv ct v0:Value),bindArgs (fnOf x q (cg st) (aU st) (ai st) .none kV doc pm an cdv ct) ⟨[v0],[]⟩=pure (List.zip [a0] [v0]):=by intros;rfl):bx K fd [a0] []:=F.binds λkV doc pm an cdv ct us hl=>qS (P:=λus=>bindArgs _ ⟨us,[]⟩=pure (List.zip _ us)) hl (h kV doc pm an cdv ct)
theorem fb2{K:PySem.W.Frag}{x q a0 a1:Str}{st:Stmt}{f:Addr}{fd:FuncData}(F:Fun K x q st f fd)(h:∀(kV doc pm:Value) (an:Option Addr) (cdv ct v0 v1:Value),bindArgs (fnOf x q (cg st) (aU st) (ai st) .none kV doc pm an cdv ct) ⟨[v0,v1],[]⟩=pure (List.zip [a0,a1] [v0,v1]):=by intros;rfl):bx K fd [a0,a1] []:=F.binds λkV doc pm an cdv ct us hl=>qT (P:=λus=>bindArgs _ ⟨us,[]⟩=pure (List.zip _ us)) hl (h kV doc pm an cdv ct)
theorem fb3{K:PySem.W.Frag}{x q a0 a1 a2:Str}{st:Stmt}{f:Addr}{fd:FuncData}(F:Fun K x q st f fd)(h:∀(kV doc pm:Value) (an:Option Addr) (cdv ct v0 v1 v2:Value),bindArgs (fnOf x q (cg st) (aU st) (ai st) .none kV doc pm an cdv ct) ⟨[v0,v1,v2],[]⟩=pure (List.zip [a0,a1,a2] [v0,v1,v2]):=by intros;rfl):bx K fd [a0,a1,a2] []:=F.binds λkV doc pm an cdv ct us hl=>rC (P:=λus=>bindArgs _ ⟨us,[]⟩=pure (List.zip _ us)) hl (h kV doc pm an cdv ct)
theorem qb{l:PySem.W.OpenLaw}{w:World}{K:PySem.W.Frag}{h:Heap}{mg:Str→Option Value}{fa f1 f2 f3 f4 f5 f6 f7 f8 f9 f10 f11 f12 f13 f14 f15 f16 f17 f18 f19:Addr}(X:K.In h)(G:h.Ns mainGlobals mg)(hfa:mg "law"=some (.ref fa)){d1 d2 d3 d4 d5 d6 d7 d8 d9 d10 d11 d12 d13 d14 d15 d16 d17 d18 d19:FuncData}{t1:Tok}(a1:gA K "numbers_inside" f1)(F1:Fun K "numbers_inside" "numbers_inside" px f1 d1)(a2:gA K "by_number" f2)(F2:Fun K "by_number" "by_number" pA f2 d2)(a3:gA K "node_of" f3)(F3:Fun K "node_of" "node_of" pB f3 d3)(a4:gA K "check_folder" f4)(F4:Fun K "check_folder" "check_folder" pC f4 d4)(a5:gA K "path_up" f5)(F5:Fun K "path_up" "path_up" pD f5 d5)(a6:gA K "path_of" f6)(F6:Fun K "path_of" "path_of" pE f6 d6)(a7:gA K "find" f7)(F7:Fun K "find" "find" lP f7 d7)(a8:gA K "below" f8)(F8:Fun K "below" "below" pF f8 d8)(a9:gA K "depth_of" f9)(F9:Fun K "depth_of" "depth_of" cM f9 d9)(a10:gA K "children" f10)(F10:Fun K "children" "children" aY f10 d10)(a11:gA K "shared_start" f11)(F11:Fun K "shared_start" "shared_start" bE f11 d11)(a12:gA K "meeting" f12)(F12:Fun K "meeting" "meeting" dy f12 d12)(a13:gA K "_law_cell" f13)(F13:Fun K "_law_cell" "_law_cell" lQ f13 d13)(a14:gA K "_law_pick" f14)(F14:Fun K "_law_pick" "_law_pick" lR f14 d14)(a15:gA K "_law_tree" f15)(F15:Fun K "_law_tree" "_law_tree" dz f15 d15)(a16:gA K "_law_book" f16)(F16:Fun K "_law_book" "_law_book" lS f16 d16)(a17:gA K "_law_path" f17)(F17:Fun K "_law_path" "_law_path" iY f17 d17)(a18:gA K "_law_under" f18)(F18:Fun K "_law_under" "_law_under" iZ f18 d18)(a19:gA K "law" f19)(F19:Fun K "law" "law" cN f19 d19)(z1:gN K "isinstance")(z2:gN K "dict")(z3:gN K "len")(z4:gN K "tuple")(z5:gN K "list")(z6:gN K "range")(z7:gN K "sorted")(z8:gN K "reversed")(z9:gN K "ValueError")(z10:gN K "str")(z11:gN K "set")(z12:gN K "max")(z13:gN K "min")(z14:gN K "sum")(z15:gN K "zip")(z16:gN K "enumerate")(z17:gN K "all")(z18:gN K "int")(z19:gN K "bool")(v1t:nsIn K mainGlobals "TOP"=some (some (.int 0 t1))){cC PC:Addr}(kC:d10.code=.ref cC)(eC:codeHdIn K cC PC=true){CN:Addr}(xN:nsIn K mainGlobals "NoNode"=some (some (.ref CN)))(qN:excIn K CN bmV "ValueError.__new__"=true):
  ∃fd:FuncData,(∀(s:Shared)(v:Value),BindsTo s fd ⟨[v],[]⟩ [("_law_script",v)])∧∀base:Heap,K.In base→base.Ns mainGlobals mg→BmB base mg→FnOk l.prog w K mg base CX0 6 fa fd ["_law_script"] (jN PC K):=by
 have e:=hfa.symm.trans (mg_of X G a19);cases e;have T:Txt mg:=⟨mg_none_of X G z1,mg_none_of X G z2,mg_none_of X G z3,mg_none_of X G z4,mg_none_of X G z5,mg_none_of X G z6,mg_none_of X G z7,mg_none_of X G z8,mg_none_of X G z9,mg_none_of X G z10,mg_none_of X G z11,mg_none_of X G z12,mg_none_of X G z13,mg_none_of X G z14,mg_none_of X G z15,mg_none_of X G z16,mg_none_of X G z17,mg_none_of X G z18,mg_none_of X G z19,⟨_,mg_of X G v1t⟩⟩;have MN:mg "NoNode"=some (.ref CN):=mg_of X G xN;have hb:∀(s:Shared)(v:Value),BindsTo s d19 ⟨[v],[]⟩ [("_law_script",v)]:=by
  obtain⟨_,_,_,_,_,_,_,_,_,e,_,_⟩:=F19.ex;subst e;exact λs v=>.of_eq rfl
 have all:∀base:Heap,K.In base→BmB base mg→(Has l.prog w K mg base 3 "_law_tree" ["_law_script","_law_at","_law_most"] (dS K))∧(Has l.prog w K mg base 1 "_law_book" ["_law_tree_here"] gE)∧(Has l.prog w K mg base 2 "_law_pick" ["_law_script","_law_k","_law_many"] (cP K))∧(Has l.prog w K mg base 1 "_law_path" ["_law_book_here","_law_number"] kw)∧(Has l.prog w K mg base 3 "meeting" ["tree","one","other"] iz)∧(Has l.prog w K mg base 1 "_law_under" ["_law_book_here","_law_number","_law_goal"] ga)∧(Has l.prog w K mg base 4 "children" ["tree","number"] (iw PC))∧(eY l.prog w K mg base 2 "below" ["tree","number"] (ig CN))∧(Has l.prog w K mg base 3 "depth_of" ["tree","number"] ix):=λbase KB Bm=>by
  let H:=Has l.prog w K mg base
  let HX:=eY l.prog w K mg base
  have ON:qG "NoNode" mg base CN:=pZ KB MN qN;have C_numbers_inside:H 1 "numbers_inside" ["nodes","folder"] jD:=fh X G F1 a1 (fb2 F1) (pG F1 T);have C_by_number:H 1 "by_number" ["tree"] ic:=fh X G F2 a2 (fb1 F2) (pH F2 T);have C_node_of:HX 1 "node_of" ["nodes","number"] (ie CN):=fhX X G F3 a3 (fb2 F3) (pI F3 ON);have C_check_folder:H 2 "check_folder" ["nodes","number"] mr:=fh X G F4 a4 (fb2 F4) (pP F4 T C_node_of);have C_path_up:H 1 "path_up" ["nodes","number"] lU:=fh X G F5 a5 (fb2 F5) (pL F5 T);have C_path_of:HX 2 "path_of" ["tree","number"] (jG CN):=fhX X G F6 a6 (fb2 F6) (pM F6 C_by_number C_node_of C_path_up);have C_find:H 1 "find" ["tree","path"] ja:=fh X G F7 a7 (fb2 F7) (nL F7 T);have C_below:HX 2 "below" ["tree","number"] (ig CN):=fhX X G F8 a8 (fb2 F8) (pJ F8 T C_by_number C_node_of C_numbers_inside);have C_depth_of:H 3 "depth_of" ["tree","number"] ix:=fh X G F9 a9 (fb2 F9) (pS F9 T C_path_of);have C_children:H 4 "children" ["tree","number"] (iw PC):=fh X G F10 a10 (fb2 F10) (pQ F10 kC T (codeHd_of_K KB eC) Bm C_by_number C_check_folder);have C_shared_start:H 1 "shared_start" ["one","other"] mt:=fh X G F11 a11 (fb2 F11) (pU F11 T);have C_meeting:H 3 "meeting" ["tree","one","other"] iz:=fh X G F12 a12 (fb3 F12) (pW F12 C_path_of C_shared_start C_find);have C__law_cell:H 1 "_law_cell" ["_law_script","_law_k"] (je K):=fh X G F13 a13 (fb2 F13) (nU F13 T);have C__law_pick:H 2 "_law_pick" ["_law_script","_law_k","_law_many"] (cP K):=fh X G F14 a14 (fb3 F14) (nV F14 T C__law_cell);have C__law_tree:H 3 "_law_tree" ["_law_script","_law_at","_law_most"] (dS K):=fh X G F15 a15 (fb3 F15) (mw F15 T C__law_pick);have C__law_book:H 1 "_law_book" ["_law_tree_here"] gE:=fh X G F16 a16 (fb1 F16) (nK F16 T);have C__law_path:H 1 "_law_path" ["_law_book_here","_law_number"] kw:=fh X G F17 a17 (fb2 F17) (qK F17 T);have C__law_under:H 1 "_law_under" ["_law_book_here","_law_number","_law_goal"] ga:=fh X G F18 a18 (fb3 F18) (pR F18);exact⟨C__law_tree,C__law_book,C__law_pick,C__law_path,C_meeting,C__law_under,C_children,C_below,C_depth_of⟩
 refine⟨d19,hb,λbase KB _ Bm=>?_⟩;obtain⟨C__law_tree,C__law_book,C__law_pick,C__law_path,C_meeting,C__law_under,C_children,C_below,C_depth_of⟩:=all base KB Bm;exact pY F19 T C__law_tree C__law_book C__law_pick C__law_path C_meeting C__law_under C_children C_below C_depth_of
theorem walk{l:PySem.W.OpenLaw}{q:Program}{loose:List Str}{XP:(Str→Option Value)→Heap→Prop}{YP:World→Heap→Prop}{d:DefRec}{K:Params→PySem.W.Frag}(PC:Addr)(hn:l.most=some 63)(hdf:d.params.defaults=[])(hY:∀(w:World) (h:Heap),YP w h→(K w.params).In h){ts:List Addr}(hT:∀(w:World) (h:Heap),YP w h→∀t∈ts,h.get? t=some (tabObj #[]))(mC:PC∈ts)(cC:Addr)(eC:∀w:World,codeHdIn (K w.params) cC PC=true)(nC:∀w:World,(K w.params).lookup PC=none)(F:∀(w:World) (mg:Str→Option Value) (fa:Addr) (h:Heap),(K w.params).In h→h.Ns mainGlobals mg→mg d.name=some (.ref fa) →
   ∃fd:FuncData,(∀(s:Shared) (u:Value),BindsTo s fd ⟨[u],[]⟩ [("_law_script",u)])∧∀base:Heap,(K w.params).In base→base.Ns mainGlobals mg→BmB base mg→FnOk l.prog w (K w.params) mg base CX0 6 fa fd ["_law_script"] (jN PC (K w.params))):
  PySem.W.WalkO q loose XP YP l.row.toRowW d [] (λf vs=>PySem.call f vs) :=
 L2.mm (tabs:=[PC]) (n:=63) (k:=6) (x:="_law_script") (sp:=λw=>jN PC (K w.params)) hn (by decide) hdf ⟨rfl,by decide,by decide⟩ hY
  (λw h Y=>List.forall_mem_cons.mpr ⟨hT w h Y _ mC,λ_ h=>nomatch h⟩)
  (λw=>List.forall_mem_cons.mpr ⟨⟨⟨cC,eC w⟩,nC w⟩,λ_ h=>nomatch h⟩)
  F (λw H a ns hl hS hT=>⟨a,ns,rfl,hS,hl,hT PC (by simp),λ_=>rfl⟩)
end TK
end
open PySem PySem.W PyProof.Rows
def PySem.W.Fast.tw6058107264554312414:Unit:=()
def PySem.W.Fast.tw10422460901957055723:Unit:=()
def PySem.W.Fast.tw13736710221510210707:Unit:=()
def PySem.W.Fast.tw728612684899414353:Unit:=()
def PySem.W.Fast.tw15483142907592092220:Unit:=()
def PySem.W.Fast.tw18097581126155604293:Unit:=()
def PySem.W.Fast.tw8240175841832771716:Unit:=()
def PySem.W.Fast.tw9572337520741314070:Unit:=()
def PySem.W.Fast.tw10844640524958127803:Unit:=()
def PySem.W.Fast.tw12059989115478935152:Unit:=()
set_option maxRecDepth 100000 in
set_option maxHeartbeats 0 in
theorem PySem.Challenge.cw_treewatch_k04_whole_meetings_holds : PySem.Challenge.rw_treewatch_k04_whole_meetings.Holds := by
 w_on; o_law; k_head; (case hw=>w_witness2)
 k_fill
 refine TK.walk (l:=PySem.Challenge.rw_treewatch_k04_whole_meetings) 112 rfl rfl (λw h Y=>PySem.W.km_in_of Y) (λw h Y=>PySem.W.km_tabs_of Y) (by decide) 114 (λw=>by kernel_rfl) (λw=>by kernel_rfl) ?F
 case F =>
  intro w mg fa h KX G hmg
  refine' TK.qb KX G hmg ?a1 ?F1 ?a2 ?F2 ?a3 ?F3 ?a4 ?F4 ?a5 ?F5 ?a6 ?F6 ?a7 ?F7 ?a8 ?F8 ?a9 ?F9 ?a10 ?F10 ?a11 ?F11 ?a12 ?F12 ?a13 ?F13 ?a14 ?F14 ?a15 ?F15 ?a16 ?F16 ?a17 ?F17 ?a18 ?F18 ?a19 ?F19 ?z1 ?z2 ?z3 ?z4 ?z5 ?z6 ?z7 ?z8 ?z9 ?z10 ?z11 ?z12 ?z13 ?z14 ?z15 ?z16 ?z17 ?z18 ?z19 ?v1t ?kC ?eC ?xN ?qN
  (case a1|a2|a3|a4|a5|a6|a7|a8|a9|a10|a11|a12|a13|a14|a15|a16|a17|a18|a19=>unfold TK.gA; k_is)
  (case F1|F2|F3|F4|F5|F6|F7|F8|F9|F10|F11|F12|F13|F14|F15|F16|F17|F18|F19=>apply L2.oY <;> k_is)
  (case z1|z2|z3|z4|z5|z6|z7|z8|z9|z10|z11|z12|z13|z14|z15|z16|z17|z18|z19=>unfold TK.gN; k_is)
  (case v1t=>k_is)
  (case kC=>exact rfl)
  (case eC=>kernel_rfl)
  (case xN=>k_is)
  (case qN=>k_exc)
