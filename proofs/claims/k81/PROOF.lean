import PyProof.Rows.All
import Wide.All
import OpenK.AllK
import Wide.FinOn
import Lean
import PyProof.EqAt
import PyProof.EqKinds
import PyProof.TupleCall
import PyProof.CompFree
import PySem.SetTable
import PyProof.SetScanFacts
import PyProof.TupleKey
import PyProof.SetKind
import PyProof.IsRules
import PyProof.SetRoads
import PyProof.InstSpecial
import PyProof.Rows.SetFrom
import KE.KSortTup
import PyProof.StrWalks
import PyProof.EnumMake
import PyProof.ConsumeWalk
import PyProof.ListRange
import PyProof.NeKinds
import PyProof.ZipIter
import KE.KTryDeep
import OpenK.KOwn
import PyProof.RulesAs
import PyProof.NsDelKeeps
import PyProof.ExcArgsOwn
import PyProof.ExcAttrAll.ValueError
import KE.KIsAll
import OpenK.KNot
import PyProof.IsiH_list
import PyProof.Rows.FStr
import KE.KDictOf
import PyProof.AttrMissHeap
import PyProof.DictIter
import PyProof.DictWalks
import PyProof.Rows.DictUnroll
import KE.KRevIter
import KE.KDictList
import PyProof.CollectIter
import PyProof.TupleOfGen
import KE.KSortKey
import PyProof.FactsAll.NoneType_1
import PyProof.CompUse
import PyProof.Rows.FStrParts
import KE.KLam
import KE.KMinKey
import KE.KNestM
import PySem.Challenge.RW_treewatch_k81_whole_totals
set_option Elab.async false
set_option linter.all false
set_option maxRecDepth 100000
set_option maxHeartbeats 8000000
open PySem.W (methodObj hideAll hideAll_size hideAll_get of_hideAll hideAll_none keepIn fnOf codeIn kat_cons kat_yes KatTups kat_kind kat_lt kat_no kat_lt_int Looks kat_nil kat_one envX CodeHd kla_obj tabObj kla_fn codeHdIn codeHd_of_K excIn nsIn mg_of mg_none_of)
open PyProof.Rows (boot_tuple lt_str boot_dict boot_sorted boot_max boot_sum)
open PySem.F (slot_dict_pop slot_dict_keyiterator_next called_tuple plainAttrs_list slot_list_pop type_list_pop entry_max_loop plain_max_loop)
open List (mem_filter mem_range filterMap_cons mem_cons_self mem_cons_of_mem mem_cons mem_append mem_append_left getElem_inj mem_append_right size_toArray append_nil nodup_cons of_mem_zip length length_take getElem?_append_right getElem?_append_left getElem?_map mem_of_getElem? length_append length_map length_drop map_nil map_cons length_singleton find?_cons any_cons length_cons length_nil filter_cons length_filter_le toArray mem_map any_map any_eq_true length_range length_eq_zero_iff getD_eq_getElem?_getD getElem?_eq_getElem getElem_mem ext_getElem? getElem?_eq_none map_map map_congr_left not_mem_nil take_succ mem_iff_getElem getElem_map map_append take_length not_lt filter_cons_of_pos filter_cons_of_neg Nodup pairwise_map pairwise_cons append_assoc Sublist nil_append)
open Nat (lt_of_lt_of_le lt_irrefl ne_of_lt le_trans le_of_lt ne_of_gt le_refl zero_le le_succ lt_trans lt_of_le_of_lt lt_succ_of_lt)
open Array (length_toList toList getElem?_toList getD_eq_getD_getElem?)
open Option (map_some)
open Bool (and_eq_true false_eq_true)
open PySem.Heap (lt_size SameBut get?_push_of_some get?_push_size size_push FlyingW)
open PySem.Calls (spliced_nil spliced_cons evalArgs_plain)
open PySem.SeqAt (EqAt eq_listAt RcNeAt)
open PySem.Value (type)
open PySem (SetTable boot_len)
open PySem.Str (ofString empty)
open Ne (symm)
noncomputable section
namespace L2
open PySem PySem.Spec PyProof.Rows
abbrev Key:=Sum Int Str
def fk:Key→Value→Bool
 |.inl k,v=>Value.isInt k v
 |.inr x,v=>Value.isStrOf x v
def qS(w:World):Key→Int
 |.inl k=>hashInt k
 |.inr x=>hashStr w x
theorem aH:∀{k:Key}{v:Value},fk k v=true→(∃i t,k=Sum.inl i∧v=Value.int i t)∨(∃x t,k=Sum.inr x∧v=Value.str x t)
 |.inl i,v,h=>by
  obtain⟨t,e⟩:=Value.isInt_shape (k:=i) (v:=v) h;exact .inl ⟨i,t,rfl,e⟩
 |.inr x,v,h=>by
  obtain⟨t,e⟩:=Value.isStrOf_shape (x:=x) (v:=v) h;exact .inr ⟨x,t,rfl,e⟩
theorem jL(i:Int)(t:Tok):fk (.inl i) (.int i t)=true:=by simp[fk,Value.isInt]
theorem jM(x:Str)(t:Tok):fk (.inr x) (.str x t)=true:=by simp[fk,Value.isStrOf]
theorem ox(a b:Int):decide ((Sum.inl a:Key)=Sum.inl b)=(a==b):=by
 by_cases e:a=b
 ·subst e;simp
 ·have h:¬(Sum.inl a:Key)=Sum.inl b:=λq=>e (Sum.inl.inj q);rw[decide_eq_false h];exact(beq_eq_false_iff_ne.mpr e).symm
theorem oy(a b:Str):decide ((Sum.inr a:Key)=Sum.inr b)=decide (a=b):=by
 by_cases e:a=b
 ·subst e;simp
 ·have h:¬(Sum.inr a:Key)=Sum.inr b:=λq=>e (Sum.inr.inj q);rw[decide_eq_false h,decide_eq_false e]
theorem oz(a:Int)(b:Str):decide ((Sum.inl a:Key)=Sum.inr b)=false:=decide_eq_false (λq=>nomatch q)
theorem oA(a:Str)(b:Int):decide ((Sum.inr a:Key)=Sum.inl b)=false:=decide_eq_false (λq=>nomatch q)
def ar(prog:Program)(w:World):PySem.KeyKind prog w Key where
 is:=fk
 hash:=qS w
 inj:=λv a b ha hb=>by
  rcases aH ha with⟨i,t,rfl,rfl⟩|⟨x,t,rfl,rfl⟩
  ·rcases aH hb with⟨j,u,rfl,e⟩|⟨y,u,rfl,e⟩
   ·injection e with e1 _;rw[e1]
   ·exact nomatch e
  ·rcases aH hb with⟨j,u,rfl,e⟩|⟨y,u,rfl,e⟩
   ·exact nomatch e
   ·injection e with e1 _;rw[e1]
 byValue:=λk v h=>by
  rcases aH h with⟨i,t,rfl,rfl⟩|⟨x,t,rfl,rfl⟩<;>rfl
 pyHash:=λhv h=>by
  rcases aH hv with⟨i,t,rfl,rfl⟩|⟨x,t,rfl,rfl⟩
  ·exact wpAny_pyHash_int h
  ·exact wpAny_pyHash_str h
 eqBool:=λhu hv h=>by
  rcases aH hu with⟨i,t,rfl,rfl⟩|⟨x,t,rfl,rfl⟩
  ·rcases aH hv with⟨j,u,rfl,rfl⟩|⟨y,u,rfl,rfl⟩
   ·rw[ox]at h;exact wpAny_eqBool_int h
   ·rw[oz]at h;exact EqAt.int_str i t y u _ _ _ _ h
  ·rcases aH hv with⟨j,u,rfl,rfl⟩|⟨y,u,rfl,rfl⟩
   ·rw[oA]at h;exact EqAt.str_int x t j u _ _ _ _ h
   ·rw[oy]at h;exact wpAny_eqBool_str h
 «strs»:=λk x t v h=>by
  rcases aH h with⟨i,u,rfl,e⟩|⟨y,u,rfl,e⟩
  ·exact nomatch e
  ·injection e with e1 _
   subst e1;cases v<;>rfl
theorem gM(prog:Program)(w:World)(i:Int)(t:Tok):(ar prog w).is (.inl i) (.int i t)=true:=jL i t
theorem gO(prog:Program)(w:World)(x:Str)(t:Tok):(ar prog w).is (.inr x) (.str x t)=true:=jM x t
inductive V where
 |non|bl (b:Bool)|int (i:Int)|str (x:Str)|byt (b:Array UInt8)|flt (b:UInt64)|ref (a:Addr)|ty (n:String)
 deriving DecidableEq
def au:V→Value→Prop
 |.non,u=>u=Value.none
 |.bl b,u=>u=Value.bool b
 |.int i,u=>∃t,u=Value.int i t
 |.str x,u=>∃t,u=Value.str x t
 |.byt b,u=>∃t,u=Value.bytes b t
 |.flt b,u=>∃t,u=Value.float b t
 |.ref a,u=>u=Value.ref a
 |.ty n,u=>u=type n
abbrev am:List V→List Value→Prop:=Paired au
theorem am.length{xs:List V}{us:List Value}(r:am xs us):xs.length=us.length:=Paired.length r
theorem am.get:∀{xs:List V}{us:List Value}{i:Nat}{x:V},am xs us→xs[i]?=some x→∃u,us[i]?=some u∧au x u
 |_,_,_,_,.nil,e=>by simp at e
 |_,_,0,_,.cons r _,e=>by simp at e;subst e;exact⟨_,rfl,r⟩
 |_,_,i+1,x,.cons _ t,e=>by
  obtain⟨u,h1,h2⟩:=am.get (i:=i) (x:=x) t (by simpa using e);exact⟨u,by simpa using h1,h2⟩
theorem am.append:∀{xs ys:List V}{us ws:List Value},am xs us→am ys ws→am (xs++ys) (us++ws)
 |_,_,_,_,.nil,s=>s
 |_,_,_,_,.cons r t,s=>.cons r (am.append t s)
theorem am.take:∀{xs:List V}{us:List Value}(n:Nat),am xs us→am (xs.take n) (us.take n)
 |_,_,0,_=>.nil
 |_,_,_+1,.nil=>.nil
 |_,_,n+1,.cons r t=>.cons r (am.take n t)
theorem am.drop:∀{xs:List V}{us:List Value}(n:Nat),am xs us→am (xs.drop n) (us.drop n)
 |_,_,0,r=>r
 |_,_,_+1,.nil=>.nil
 |_,_,n+1,.cons _ t=>am.drop n t
def cM:Option V→Option Value→Prop
 |some v,some u=>au v u
 |none,none=>True
 |_,_=>False
def KV{κ:Type}:List (κ×V)→List (κ×Value)→Prop:=Paired λ(p:κ×V) (q:κ×Value)=>p.1=q.1∧au p.2 q.2
def kV:Key→V
 |.inl i=>.int i
 |.inr x=>.str x
inductive HO where
 |lst (xs:List V)
 |tup (xs:List V)
 |dK (kvs:List (Key×V))|dT (kvs:List (List Key×V))
 |set (S:Int→Bool) (n:Nat)
 |ins (C dx:Addr) (fs:List (Str×V))
 |own (x:Addr)
 |xd (fs:List (Str×V))
 |met (f x:Addr)
 |rng (lo hi:Int)
 |frz (o:Obj) (u:HO)
 |tbl (ps:Array Value)
 |ext (φ:Heap→Prop)
abbrev Hp:=Addr→Option HO
def upd(H:Hp)(a:Addr)(o:HO):Hp:=λb=>if b=a then some o else H b
theorem ac{H:Hp}{a:Addr}{o:HO}:upd H a o a=some o:=by unfold upd;rw[if_pos rfl]
theorem ah{H:Hp}{a b:Addr}{o:HO}(h:b≠a):upd H a o b=H b:=by unfold upd;rw[if_neg h]
theorem ay{H:Hp}{a b:Addr}{o:HO}(h:H a=some o)(h':H b=none):a≠b:=by
 intro e;subst e;rw[h]at h';cases h'
section
variable(P:Program)(w:World)
def aM(H:Hp)(h:Heap)(a:Addr):HO→Prop
 |.lst xs=>xs.length≤sizeLine∧∃(its:List Value) (n:Nat),am xs its∧h.get? a=some {cls:=.type "list",data:=.seq its.toArray n}
 |.tup xs=>xs.length≤sizeLine∧∃its:List Value,am xs its∧IsTup h a its.toArray
 |.dK kvs=>kvs.length≤sizeLine∧(a==sysModules)=false∧∃vs,KV kvs vs∧h.DictOf (ar P w) a vs
 |.dT kvs=>kvs.length≤sizeLine∧(a==sysModules)=false∧∃xs:List (List Key×Addr×Value),
   Paired (λ(p:List Key×V) (q:List Key×Addr×Value)=>p.1=q.1∧H q.2.1=some (.tup (p.1.map kV))∧au p.2 q.2.2) kvs xs ∧
   ∃o es ep,h.get? a=some o∧o.ExactDict∧o.data=.dict es ep∧es.toList=xs.map (entryOfKey (tupleKind (ar P w)))∧(xs.map (·.1)).Nodup
 |.set S n=>h.SetOf (intKind P w) a S n
 |.ins C dx fs=>H dx=some (.own a)∧fs.length≤1000∧dx≠a∧h.get? a=some (PySem.W.instObj C dx) ∧
   ∃mA,h.Ns1 dx mA∧(∀f,cM (fs.lookup f) (mA f))∧PySem.Within mA (fs.map (·.1))
 |.own _=>∃o,h.get? a=some o
 |.xd fs=>∃mA,h.Ns1 a mA∧∀f,cM (fs.lookup f) (mA f)
 |.rng lo hi=>∃t u v,h.get? a=some {cls:=.type "range",data:=.fields #[.int lo t,.int hi u,.int 1 v]}
 |.frz o u=>h.get? a=some o∧aM H h a u
 |.tbl ps=>h.get? a=some {cls:=.none,data:=.fields ps}
 |.met f x=>h.get? a=some (methodObj (.ref f) (.ref x))
 |.ext φ=>φ h∧(∃o,h.get? a=some o)∧∀h1 h2:Heap,φ h1→(∀o,h1.get? a=some o→h2.get? a=some o)→φ h2
def HOk(H:Hp)(h:Heap):Prop:=∀a o,H a=some o→aM P w H h a o
end
section
variable{P:Program}{w:World}{H H':Hp}{h h':Heap}{a:Addr}{o:HO}
theorem aM.lt(x:aM P w H h a o):a<h.objs.size:=by
 cases o with
 |lst xs=>obtain⟨_,_,_,_,e⟩:=x;exact lt_size e
 |tup xs=>obtain⟨_,_,_,p⟩:=x;exact p.lt
 |dK kvs=>obtain⟨_,_,_,_,o,_,_,e,_⟩:=x;exact lt_size e
 |dT kvs=>obtain⟨_,_,_,_,o,_,_,e,_⟩:=x;exact lt_size e
 |set S n=>obtain⟨o,_,_,_,e,_⟩:=x;exact lt_size e
 |ins C dx fs=>obtain⟨_,_,_,e,_⟩:=x;exact lt_size e
 |own y=>obtain⟨_,e⟩:=x;exact lt_size e
 |xd fs=>obtain⟨_,⟨_,_,_,e,_⟩,_⟩:=x;exact lt_size e
 |rng lo hi=>obtain⟨_,_,_,e⟩:=x;exact lt_size e
 |frz ob u=>obtain⟨e,_⟩:=x;exact lt_size e
 |tbl ps=>exact lt_size (show h.get? a=some _ from x)
 |met f y=>exact lt_size (show h.get? a=some _ from x)
 |ext φ=>obtain⟨_,⟨_,e⟩,_⟩:=x;exact lt_size e
theorem Paired.mapP{α β:Type}{F G:α→β→Prop}:∀{l₁:List α}{l₂:List β},Paired F l₁ l₂→(∀a b,F a b→G a b)→Paired G l₁ l₂
 |_,_,.nil,_=>.nil
 |_,_,.cons r t,f=>.cons (f _ _ r) (Paired.mapP t f)
theorem aM.stay(x:aM P w H h a o)(k:∀b u,(b=a∨H b=some (.own a))→h.get? b=some u→h'.get? b=some u)(ho:∀b,H b=some (.own a)→H' b=some (.own a))(ht:∀b xs,H b=some (.tup xs)→H' b=some (.tup xs)):aM P w H' h' a o:=by
 induction o with
 |lst xs=>obtain⟨z,its,n,r,e⟩:=x;exact⟨z,its,n,r,k _ _ (.inl rfl) e⟩
 |tup xs=>obtain⟨z,its,r,ob,e,c⟩:=x;exact⟨z,its,r,ob,k _ _ (.inl rfl) e,c⟩
 |dK kvs=>obtain⟨z,y,vs,r,ob,es,ep,e,c⟩:=x;exact⟨z,y,vs,r,ob,es,ep,k _ _ (.inl rfl) e,c⟩
 |dT kvs =>
  obtain⟨z,y,xs,r,ob,es,ep,e,c⟩:=x;exact⟨z,y,xs,Paired.mapP r λp q z=>⟨z.1,ht _ _ z.2.1,z.2.2⟩,ob,es,ep,k _ _ (.inl rfl) e,c⟩
 |set S n=>obtain⟨ob,es,ep,t,e,c⟩:=x;exact⟨ob,es,ep,t,k _ _ (.inl rfl) e,c⟩
 |ins C dx fs =>
  obtain⟨d,z,ne,e,mA,⟨od,es,ep,e2,c⟩,r⟩:=x;exact⟨ho _ d,z,ne,k _ _ (.inl rfl) e,mA,⟨od,es,ep,k _ _ (.inr d) e2,c⟩,r⟩
 |own y=>obtain⟨ob,e⟩:=x;exact⟨ob,k _ _ (.inl rfl) e⟩
 |xd fs=>obtain⟨mA,⟨od,es,ep,e,c⟩,r⟩:=x;exact⟨mA,⟨od,es,ep,k _ _ (.inl rfl) e,c⟩,r⟩
 |rng lo hi=>obtain⟨t,u,v,e⟩:=x;exact⟨t,u,v,k _ _ (.inl rfl) e⟩
 |frz ob u ih=>obtain⟨e,q⟩:=x;exact⟨k _ _ (.inl rfl) e,ih q⟩
 |tbl ps =>
  have e:h.get? a=some {cls:=.none,data:=.fields ps}:=x;show h'.get? a=some {cls:=.none,data:=.fields ps};exact k a _ (.inl rfl) e
 |met f y =>
  have e:h.get? a=some (methodObj (.ref f) (.ref y)):=x;show h'.get? a=some (methodObj (.ref f) (.ref y));exact k a _ (.inl rfl) e
 |ext φ=>obtain⟨p,⟨o,e⟩,st⟩:=x;exact⟨st _ _ p λo q=>k _ _ (.inl rfl) q,⟨o,k _ _ (.inl rfl) e⟩,st⟩
theorem HOk.lt(x:HOk P w H h)(e:H a=some o):a<h.objs.size:=(x a o e).lt
theorem HOk.fresh(x:HOk P w H h)(e:h.objs.size≤a):H a=none:=by
 cases q:H a with
 |none=>rfl
 |some u=>exact absurd (lt_of_lt_of_le (x.lt q) e) (lt_irrefl _)
theorem HOk.kept(x:HOk P w H h)(k:∀b u,h.get? b=some u→h'.get? b=some u):HOk P w H h':=λa o e =>
 (x a o e).stay (λb u _ q=>k b u q) (λ_ q=>q) λ_ _ q=>q
theorem HOk.laid(x:HOk P w H h)(k:∀b u,h.get? b=some u→h'.get? b=some u)(hp:h.objs.size≤a)(new:aM P w (upd H a o) h' a o):HOk P w (upd H a o) h':=λb u e=>by
 have hn:=x.fresh hp
 by_cases hb:b=a
 ·subst hb;rw[ac]at e;cases e;exact new
 ·rw[ah hb]at e;exact(x b u e).stay (λc v _ q=>k c v q) (λc q=>by rw[ah (ay q hn)];exact q) λc xs q=>by rw[ah (ay q hn)];exact q
end
def Rd(H:Hp)(a:Addr)(u:HO):Prop:=H a=some u∨∃o,H a=some (.frz o u)
theorem Rd.of{H:Hp}{a:Addr}{u:HO}(h:H a=some u):Rd H a u:=.inl h
theorem Rd.ok{P:Program}{w:World}{H:Hp}{h:Heap}{a:Addr}{u:HO}(r:Rd H a u)(x:HOk P w H h):aM P w H h a u:=by
 rcases r with r|⟨o,r⟩
 ·exact x a u r
 ·obtain⟨_,q⟩:=x a _ r;exact q
def Mut:Option HO→Prop
 |some (.lst _)=>True
 |some (.dK _)=>True
 |some (.dT _)=>True
 |some (.set _ _)=>True
 |some (.ins _ _ _)=>True
 |some (.ext _)=>True
 |_=>False
section
variable{P:Program}{w:World}{H:Hp}{h h':Heap}{x e:Addr}{o':HO}
theorem HOk.write(ok:HOk P w H h)(mu:Mut (H x))(he:e=x∨H e=some (.own x))(k:∀b u,b≠e→h.get? b=some u→h'.get? b=some u)(heo:∃u,h'.get? e=some u)(new:aM P w (upd H x o') h' x o'):HOk P w (upd H x o') h':=λb u q=>by
 have nown:∀c y,H c=some (.own y)→c≠x:=λc y r z=>by subst z;rw[r]at mu;exact mu
 have ntup:∀c xs,H c=some (.tup xs)→c≠x:=λc xs r z=>by subst z;rw[r]at mu;exact mu
 by_cases hb:b=x
 ·subst hb;rw[ac]at q;cases q;exact new
 ·rw[ah hb]at q
  by_cases hbe:b=e
  ·have q':H b=some (.own x):=by
    rcases he with z|z
    ·exact absurd (hbe.trans z) hb
    ·rw[hbe];exact z
   rw[q]at q';cases q';obtain⟨v,hv⟩:=heo;exact⟨v,by rw[hbe];exact hv⟩
  ·refine(ok b u q).stay (λc v hc r=>k c v ?_ r) (λc r=>by rw[ah (nown c b r)];exact r) λc xs r=>by rw[ah (ntup c xs r)];exact r
   rcases hc with rfl|hc
   ·exact hbe
   ·rintro rfl;rcases he with z|z
    ·exact nown c b hc z
    ·rw[hc]at z;cases z;exact hb rfl
end
structure Un(fs ex:List Addr)(H H':Hp)(h h':Heap):Prop where
 keep:∀b o,h.get? b=some o→H b=none→b∉fs→b∉ex→h'.get? b=some o
 slot:∀b o,h.get? b=some o→H b=none→b∈fs→b∉ex→∃sl,h'.get? b=some {o with slots:=sl}
 free:∀b o,h.get? b=some o→H b=none→b∉ex→H' b=none
 there:∀b o,h.get? b=some o→b∉ex→∃o',h'.get? b=some o'
 tups:∀b xs,H b=some (.tup xs)→H' b=some (.tup xs)
 frzs:∀b o u,H b=some (.frz o u)→H' b=some (.frz o u)
 tbls:∀b ps,H b=some (.tbl ps)→∃more,H' b=some (.tbl (ps++more))
section
variable{fs fs' ex ex':List Addr}{H H1 H2:Hp}{h h1 h2 h':Heap}{a x e:Addr}{o:HO}
theorem Un.any(u:Un fs ex H H1 h h1){b:Addr}{ob:Obj}(q:h.get? b=some ob)(n:H b=none)(hx:b∉ex):∃sl,h1.get? b=some {ob with slots:=sl}:=by
 by_cases hb:b∈fs
 ·exact u.slot b ob q n hb hx
 ·exact⟨ob.slots,u.keep b ob q n hb hx⟩
theorem Un.trans(a:Un fs ex H H1 h h1)(b:Un fs ex H1 H2 h1 h2):Un fs ex H H2 h h2 where
 keep:=λc ob q n hc hx=>b.keep c ob (a.keep c ob q n hc hx) (a.free c ob q n hx) hc hx
 slot:=λc ob q n hc hx=>by
  obtain⟨sl,e1⟩:=a.slot c ob q n hc hx;obtain⟨sl',e2⟩:=b.slot c _ e1 (a.free c ob q n hx) hc hx;exact⟨sl',e2⟩
 free:=λc ob q n hx=>by
  obtain⟨o',e1⟩:=a.there c ob q hx;exact b.free c o' e1 (a.free c ob q n hx) hx
 there:=λc ob q hx=>by
  obtain⟨o',e1⟩:=a.there c ob q hx;exact b.there c o' e1 hx
 tups:=λc xs q=>b.tups c xs (a.tups c xs q)
 frzs:=λc ob xs q=>b.frzs c ob xs (a.frzs c ob xs q)
 tbls:=λc ps q=>by
  obtain⟨m1,e1⟩:=a.tbls c ps q;obtain⟨m2,e2⟩:=b.tbls c _ e1;exact⟨m1++m2,by rw[e2,Array.append_assoc]⟩
theorem Un.kept(k:∀b u,h.get? b=some u→h'.get? b=some u):Un fs ex H H h h' :=
 ⟨λb ob q _ _ _=>k b ob q,λb ob q _ _ _=>⟨ob.slots,k b ob q⟩,λ_ _ _ n _=>n,λb ob q _=>⟨ob,k b ob q⟩,λ_ _ q=>q,λ_ _ _ q=>q,λ_ ps q=>⟨#[],by rw[q];simp⟩⟩
theorem Un.refl:Un fs ex H H h h:=Un.kept λ_ _ q=>q
theorem Un.laid(k:∀b u,h.get? b=some u→h'.get? b=some u)(hp:h.objs.size≤a)(hn:H a=none):Un fs ex H (upd H a o) h h' where
 keep:=λb u q _ _ _=>k b u q
 slot:=λb u q _ _ _=>⟨u.slots,k b u q⟩
 free:=λb u q n _=>by rw[ah (ne_of_lt (lt_of_lt_of_le (lt_size q) hp))];exact n
 there:=λb u q _=>⟨u,k b u q⟩
 tups:=λb xs q=>by rw[ah (ay q hn)];exact q
 frzs:=λb u xs q=>by rw[ah (ay q hn)];exact q
 tbls:=λb ps q=>⟨#[],by rw[ah (ay q hn),q];simp⟩
theorem Un.write(mu:Mut (H x))(he:e=x∨H e=some (.own x))(k:∀b u,b≠e→h.get? b=some u→h'.get? b=some u)(heo:∃u,h'.get? e=some u):Un fs ex H (upd H x o) h h':=by
 have hx:∀b,H b=none→b≠x:=λb n z=>by subst z;rw[n]at mu;exact mu
 have hb:∀b,H b=none→b≠e:=λb n z=>by
  subst z;rcases he with r|r
  ·exact hx b n r
  ·rw[n]at r;cases r
 have hm:∀b u,H b=some u→¬Mut (some u)→b≠x:=λb u q nm z=>by subst z;rw[q]at mu;exact nm mu
 refine⟨λb u q n _ _=>k b u (hb b n) q,λb u q n _ _=>⟨u.slots,k b u (hb b n) q⟩,λb u q n _=>by rw[ah (hx b n)];exact n,λb u q _=>?_,
  λb xs q=>by rw[ah (hm b _ q λz=>z)];exact q,λb u xs q=>by rw[ah (hm b _ q λz=>z)];exact q,λb ps q=>⟨#[],by rw[ah (hm b _ q λz=>z),q];simp⟩⟩
 by_cases hbe:b=e
 ·subst hbe;exact heo
 ·exact⟨u,k b u hbe q⟩
end
def trk(h:Heap)(H:Hp):List Addr:=(List.range h.objs.size).filter λa=>(H a).isSome
def eY(h:Heap)(H:Hp):Heap:=hideAll h (trk h H)
theorem jN(h:Heap)(H:Hp):(eY h H).objs.size=h.objs.size:=hideAll_size _ _
theorem kO{h:Heap}{H:Hp}{b:Addr}{o:Obj}(e:h.get? b=some o)(n:H b=none):(eY h H).get? b=some o :=
 hideAll_get _ e λhm=>by
  have q:(H b).isSome=true:=(mem_filter.mp hm).2;rw[n]at q;simp at q
theorem mO{h:Heap}{H:Hp}{b:Addr}{o:Obj}(e:(eY h H).get? b=some o):h.get? b=some o∧H b=none:=by
 have e':h.get? b=some o:=of_hideAll (trk h H) e;refine⟨e',?_⟩;cases q:H b with
 |none=>rfl
 |some x =>
  have hm:b∈trk h H:=mem_filter.mpr ⟨mem_range.mpr (lt_size e'),by simp[q]⟩;have z:(eY h H).get? b=none:=hideAll_none (trk h H) hm;rw[z]at e;cases e
structure Mod(K:PySem.W.Frag)(mg:Str→Option Value)(base:Heap):Prop where
 kin:K.In base
 glob:base.Ns mainGlobals mg
 blt:∃mb,base.Ns builtinsNs mb∧∀x:Str,x≠"__name__"→mb x=bootBuiltins x
 nolimit:base.NoLimit
structure Cx where
 prog:Program
 w:World
 K:PySem.W.Frag
 mg:Str→Option Value
 base:Heap
 A:Around
 N:List Str
 s₀:Shared
 H₀:Hp
 env:Env
 outer:List Env
 stack:List Env
 ex:List Addr
 fn:Str→Bool
 calm:Bool
 pn:List (Addr×Obj)
 xe:Value→Shared→Prop
def frs(l:List Env):List Addr:=l.filterMap (·.frame)
abbrev Cx.fs(X:Cx):List Addr:=frs X.outer
def Vis(sc:Scope)(x:Str):Prop:=sc.names.lookup x=some .local∨sc.names.lookup x=some .cell∨sc.names.lookup x=some .free
def Loc(sc:Scope)(x:Str):Prop:=sc.names.lookup x=some .local∨sc.names.lookup x=some .cell
def qT(env:Env)(h:Heap)(m:Str→Option Value)(x:Str)(u:Value):Prop :=
 (env.kindOf x=some .local∧m x=some u)∨((env.kindOf x=some .cell∨env.kindOf x=some .free)∧∃c,env.cells.lookup x=some c∧h.IsCell c (some u))
structure Cx.Ok(X:Cx):Prop where
 mod:Mod X.K X.mg X.base
 kind:X.env.scope.kind=.function
 glob:X.env.globals=mainGlobals
 blt:X.env.builtins=builtinsNs
 above:X.s₀.heap.objs.size≤X.env.locals
 inj:∀x y c,X.env.cells.lookup x=some c→X.env.cells.lookup y=some c→x=y
 has:∀x,(X.env.kindOf x=some .cell∨X.env.kindOf x=some .free)→∃c,X.env.cells.lookup x=some c
 cab:∀x c,X.fn x=true→X.env.cells.lookup x=some c→X.s₀.heap.objs.size≤c
 hd:X.calm=true→X.A.handled=none
 frames:X.A.frames=some X.stack
 stk:X.stack=X.outer∨(X.stack=X.env::X.outer∧X.env.frame=some X.env.locals)
 exf:∀b∈X.ex,b≠X.env.locals∧∀x c,X.env.cells.lookup x=some c→c≠b
 bs:∀b o,X.base.get? b=some o→X.s₀.heap.get? b=some o∧X.H₀ b=none
 bsz:X.base.objs.size≤X.s₀.heap.objs.size
 noex:∀b o,X.base.get? b=some o→b∉X.ex
 exfs:∀b∈X.ex,b∉X.fs
 funs:X.s₀.heap.FunFrames X.base X.outer
 frf:∀b∈X.fs,X.H₀ b=none
structure Inv(X:Cx)(pins:List (Addr×Obj))(σ:List (Option V))(H:Hp)(s:Shared):Prop where
 ok:X.Ok
 os:s.os=X.s₀.os
 bare:AllBare s.gens
 base:Un X.fs X.ex X.H₀ H X.s₀.heap s.heap
 loc:∃m,s.heap.Ns X.env.locals m∧∀(i:Nat)(x:Str)(v:V),X.N[i]?=some x→σ[i]?=some (some v)→Vis X.env.scope x→∃u,au v u∧qT X.env s.heap m x u
 cell:∀x c,X.env.cells.lookup x=some c→∃v,s.heap.IsCell c v
 free:H X.env.locals=none
 freeC:∀x c,X.env.cells.lookup x=some c→H c=none
 pin:∀p∈X.pn++pins,s.heap.get? p.1=some p.2∧H p.1=none∧p.1≠X.env.locals∧p.1∉X.fs∧∀v,p.2.data≠.cell v
 hok:HOk X.prog X.w H s.heap
 len:σ.length=X.N.length
section
variable{X:Cx}{pins:List (Addr×Obj)}{σ:List (Option V)}{H H':Hp}{s:Shared}{h':Heap}
theorem Cx.Ok.nofr(ok:X.Ok){b:Addr}{o:Obj}(e:X.base.get? b=some o):b∉X.fs:=λhb=>by
 have:=(ok.funs.mem hb).1;rw[e]at this;cases this
theorem Inv.bs(I:Inv X pins σ H s):∀b o,X.base.get? b=some o→s.heap.get? b=some o∧H b=none:=λb o e =>
 ⟨I.base.keep b o (I.ok.bs b o e).1 (I.ok.bs b o e).2 (I.ok.nofr e) (I.ok.noex b o e),I.base.free b o (I.ok.bs b o e).1 (I.ok.bs b o e).2 (I.ok.noex b o e)⟩
theorem Inv.bk(I:Inv X pins σ H s):∀b o,X.base.get? b=some o→s.heap.get? b=some o:=λb o e=>(I.bs b o e).1
theorem Inv.mod(I:Inv X pins σ H s):Mod X.K X.mg X.base:=I.ok.mod
theorem Inv.kIn(I:Inv X pins σ H s):X.K.In s.heap:=I.ok.mod.kin.keeps I.bk
theorem Inv.lt(I:Inv X pins σ H s):X.env.locals<s.heap.objs.size:=let⟨_,hn,_⟩:=I.loc;hn.lt
theorem Inv.sz(I:Inv X pins σ H s):X.s₀.heap.objs.size≤s.heap.objs.size:=le_trans I.ok.above (le_of_lt I.lt)
theorem Inv.nofs(I:Inv X pins σ H s){a:Addr}(h:s.heap.objs.size≤a):a∉X.fs:=λhb=>by
 obtain⟨_,o,ho,_⟩:=I.ok.funs.mem hb;exact absurd (lt_of_lt_of_le (lt_size ho) (le_trans I.sz h)) (lt_irrefl _)
theorem Inv.cne(I:Inv X pins σ H s):∀x c,X.env.cells.lookup x=some c→c≠X.env.locals:=λx c e z=>by
 obtain⟨v,o,ho,hd⟩:=I.cell x c e;obtain⟨m,⟨o',es,ep,ho',hd',_⟩,_⟩:=I.loc;rw[z,ho']at ho;cases ho;rw[hd']at hd;cases hd
theorem Inv.funs(I:Inv X pins σ H s):s.heap.FunFrames X.base X.outer:=by
 have all:∀(l:List Env),(∀b∈frs l,b∈X.fs)→X.s₀.heap.FunFrames X.base l→s.heap.FunFrames X.base l:=by
  intro l
  induction l with
  |nil=>intro _ _;trivial
  |cons env r ih =>
   intro hs hl;obtain⟨hk,⟨L,o,hf,hn,ho,hd⟩,hr⟩:=hl;have hL:L∈X.fs:=hs L (by unfold frs;rw[filterMap_cons,hf];exact mem_cons_self);obtain⟨sl,e⟩:=I.base.slot L o ho (I.ok.frf L hL) hL λz=>I.ok.exfs L z hL;exact⟨hk,⟨L,_,hf,hn,e,hd⟩,ih (λb hb=>hs b (by unfold frs;rw[filterMap_cons,hf];exact mem_cons_of_mem _ hb)) hr⟩
 exact all X.outer (λ_ hb=>hb) I.ok.funs
theorem Inv.stack(I:Inv X pins σ H s):s.heap.FunFrames X.base X.stack:=by
 rcases I.ok.stk with e|⟨e,hf⟩
 ·rw[e];exact I.funs
 ·rw[e];obtain⟨m,hn,_⟩:=I.loc;refine .cons (by rw[I.ok.kind];decide) hf hn ?_ I.funs;exact Heap.get?_none_of_le (le_trans I.ok.bsz I.ok.above)
theorem Inv.stkSub(I:Inv X pins σ H s):∀b∈frs X.stack,b∈X.env.locals::X.fs:=λb hb=>by
 rcases I.ok.stk with e|⟨e,hf⟩
 ·rw[e]at hb;exact mem_cons_of_mem _ hb
 ·rw[e]at hb;unfold frs at hb;rw[filterMap_cons,hf]at hb;exact hb
theorem Inv.stkFree(I:Inv X pins σ H s):∀b∈frs X.stack,H b=none:=λb hb=>by
 rcases mem_cons.mp (I.stkSub b hb)with e|hb
 ·rw[e];exact I.free
 ·obtain⟨_,o,ho,_⟩:=I.ok.funs.mem hb;exact I.base.free b o ho (I.ok.frf b hb) λz=>I.ok.exfs b z hb
theorem Inv.step{g':Array GenState}{t':Nat}{d':Drawn}{ch:List Addr}(I:Inv X pins σ H s)(hch:∀b∈ch,(b∈X.ex∨X.s₀.heap.objs.size≤b)∧b≠X.env.locals∧(∀x c,X.env.cells.lookup x=some c→c≠b)∧∀p∈X.pn++pins,p.1≠b)(keep:∀b o,b≠X.env.locals→b∉X.fs→b∉ch→s.heap.get? b=some o→H b=none→h'.get? b=some o)(slot:∀b o,b≠X.env.locals→b∈X.fs→b∉ch→s.heap.get? b=some o→H b=none→∃sl,h'.get? b=some {o with slots:=sl})(free:∀b o,b∉ch→s.heap.get? b=some o→H b=none→H' b=none)(there:∀b o,b∉ch→s.heap.get? b=some o→∃o',h'.get? b=some o')(tups:∀b xs,H b=some (.tup xs)→H' b=some (.tup xs))(frzs:∀b o u,H b=some (.frz o u)→H' b=some (.frz o u))(tbls:∀b ps,H b=some (.tbl ps)→∃more,H' b=some (.tbl (ps++more)))(ns:∀m,s.heap.Ns X.env.locals m→h'.Ns X.env.locals m)(hok:HOk X.prog X.w H' h')(hg:AllBare g'):
  Inv X pins σ H' {s with heap:=h',gens:=g',drawn:=d',toks:=t'}:=by
 have neL:∀b o,X.s₀.heap.get? b=some o→b≠X.env.locals:=λb o e=>ne_of_lt (lt_of_lt_of_le (lt_size e) I.ok.above);have neC:∀b o,X.s₀.heap.get? b=some o→b∉X.ex→b∉ch:=λb o e hx hb=>by
  rcases (hch b hb).1 with z|z
  ·exact hx z
  ·exact absurd (lt_of_lt_of_le (lt_size e) z) (lt_irrefl _)
 have cellK:∀x c,X.env.cells.lookup x=some c→∀v,s.heap.IsCell c v→h'.IsCell c v:=λx c e v ⟨o,ho,hd⟩=>by
  have nch:c∉ch:=λz=>(hch c z).2.2.1 x c e rfl
  by_cases hc:c∈X.fs
  ·obtain⟨sl,q⟩:=slot c o (I.cne x c e) hc nch ho (I.freeC x c e);exact⟨_,q,hd⟩
  ·exact⟨o,keep c o (I.cne x c e) hc nch ho (I.freeC x c e),hd⟩
 refine⟨I.ok,I.os,hg,⟨λb o e n hb hx=>?_,λb o e n hb hx=>?_,λb o e n hx=>?_,λb o e hx=>?_,λb xs e=>tups b xs (I.base.tups b xs e),λb o xs e=>frzs b o xs (I.base.frzs b o xs e),λb ps e=>?_⟩,?_,λx c e=>?_,?_,λx c e=>?_,λp hp=>?_,hok,I.len⟩
 ·exact keep b o (neL b o e) hb (neC b o e hx) (I.base.keep b o e n hb hx) (I.base.free b o e n hx)
 ·obtain⟨sl,e1⟩:=I.base.slot b o e n hb hx;obtain⟨sl',e2⟩:=slot b _ (neL b o e) hb (neC b o e hx) e1 (I.base.free b o e n hx);exact⟨sl',e2⟩
 ·obtain⟨o',e1⟩:=I.base.there b o e hx;exact free b o' (neC b o e hx) e1 (I.base.free b o e n hx)
 ·obtain⟨o',e1⟩:=I.base.there b o e hx;exact there b o' (neC b o e hx) e1
 ·obtain⟨m1,e1⟩:=I.base.tbls b ps e;obtain⟨m2,e2⟩:=tbls b _ e1;exact⟨m1++m2,by rw[e2,Array.append_assoc]⟩
 ·obtain⟨m,hn,hl⟩:=I.loc;refine⟨m,ns m hn,λi x v e1 e2 e3=>?_⟩;obtain⟨u,r,l⟩:=hl i x v e1 e2 e3;refine⟨u,r,?_⟩;rcases l with l|⟨k,c,e,z⟩
  ·exact .inl l
  ·exact .inr ⟨k,c,e,cellK x c e _ z⟩
 ·obtain⟨v,z⟩:=I.cell x c e;exact⟨v,cellK x c e v z⟩
 ·obtain⟨m,⟨o,_,_,ho,_⟩,_⟩:=I.loc;exact free _ o (λz=>(hch _ z).2.1 rfl) ho I.free
 ·obtain⟨v,o,ho,hd⟩:=I.cell x c e;exact free c o (λz=>(hch c z).2.2.1 x c e rfl) ho (I.freeC x c e)
 ·obtain⟨e,n,ne,nf,d⟩:=I.pin p hp;have nch:p.1∉ch:=λz=>(hch p.1 z).2.2.2 p hp rfl;exact⟨keep p.1 p.2 ne nf nch e n,free p.1 p.2 nch e n,ne,nf,d⟩
theorem Inv.un{t':Nat}(I:Inv X pins σ H s)(u:Un X.fs [] H H' s.heap h')(hok:HOk X.prog X.w H' h'):Inv X pins σ H' {s with heap:=h',toks:=t'}:=by
 obtain⟨m,⟨o,es,ep,ho,r⟩,_⟩:=id I.loc;obtain⟨sl,hL⟩:=u.any ho I.free (by simp);exact I.step (g':=s.gens) (d':=s.drawn) (ch:=[]) (λ_ z=>nomatch z) (λb o _ hb _ e n=>u.keep b o e n hb (by simp)) (λb o _ hb _ e n=>u.slot b o e n hb (by simp)) (λb o _ e n=>u.free b o e n (by simp)) (λb o _ e=>u.there b o e (by simp)) u.tups u.frzs u.tbls (λm' hm=>by
  obtain⟨o',es',ep',ho',r'⟩:=hm;rw[ho]at ho';cases ho';exact⟨_,es',ep',hL,r'⟩) hok I.bare
theorem Inv.call{g':Array GenState}{t':Nat}{d':Drawn}{ch:List Addr}(I:Inv X pins σ H s)(u:Un (frs X.stack) ch H H' s.heap h')(hok:HOk X.prog X.w H' h')(hg:AllBare g')(hch:∀b∈ch,(b∈X.ex∨X.s₀.heap.objs.size≤b)∧b≠X.env.locals∧(∀x c,X.env.cells.lookup x=some c→c≠b)∧∀p∈X.pn++pins,p.1≠b):
  Inv X pins σ H' {s with heap:=h',gens:=g',drawn:=d',toks:=t'}:=by
 obtain⟨m,⟨o,es,ep,ho,r⟩,_⟩:=id I.loc;obtain⟨sl,hL⟩:=u.any ho I.free λz=>(hch _ z).2.1 rfl;exact I.step (ch:=ch) hch (λb o hL hb hc e n=>u.keep b o e n (λz=>(mem_cons.mp (I.stkSub b z)).elim hL hb) hc) (λb o _ _ hc e n=>u.any e n hc) (λb o hc e n=>u.free b o e n hc) (λb o hc e=>u.there b o e hc) u.tups u.frzs u.tbls (λm' hm=>by
  obtain⟨o',es',ep',ho',r'⟩:=hm;rw[ho]at ho';cases ho';exact⟨_,es',ep',hL,r'⟩) hok hg
theorem Inv.turned{t':Nat}{it:Addr}(I:Inv X pins σ H s)(k:∀b o,b≠it→s.heap.get? b=some o→h'.get? b=some o)(hn:H it=none)(hL:it≠X.env.locals)(h1:it∈X.ex∨X.s₀.heap.objs.size≤it)(h2:∀x c,X.env.cells.lookup x=some c→c≠it)(h3:∀p∈X.pn++pins,p.1≠it):Inv X pins σ H {s with heap:=h',toks:=t'}:=by
 have nit:∀b u,H b=some u→b≠it:=λb u e z=>by rw[z,hn]at e;cases e
 refine I.step (g':=s.gens) (d':=s.drawn) (ch:=[it]) (λb hb=>?_) (λb o _ _ hc e _=>k b o (λz=>hc (by simp[z])) e) (λb o _ _ hc e _=>⟨o.slots,k b o (λz=>hc (by simp[z])) e⟩) (λ_ _ _ _ n=>n)
  (λb o hc e=>⟨o,k b o (λz=>hc (by simp[z])) e⟩) (λ_ _ e=>e) (λ_ _ _ e=>e) (λb ps e=>⟨#[],by rw[e];simp⟩) (λm hm=>?_) (λb u e=>?_) I.bare
 ·have e:b=it:=by simpa using hb
  subst e;exact⟨h1,hL,h2,h3⟩
 ·obtain⟨o,es,ep,ho,r⟩:=hm;exact⟨o,es,ep,k _ o (symm hL) ho,r⟩
 ·refine(I.hok b u e).stay (λc v hc q=>k c v ?_ q) (λ_ q=>q) λ_ _ q=>q;rcases hc with z|z
  ·rw[z];exact nit b u e
  ·exact nit c _ z
theorem Inv.tok(I:Inv X pins σ H s)(t:Nat):Inv X pins σ H {s with toks:=t}:=I.un (h':=s.heap) (t':=t) Un.refl I.hok
theorem Inv.kept{t':Nat}(I:Inv X pins σ H s)(k:∀b u,s.heap.get? b=some u→h'.get? b=some u):Inv X pins σ H {s with heap:=h',toks:=t'}:=I.un (Un.kept k) (I.hok.kept k)
theorem Inv.laid{a:Addr}{o:HO}{t':Nat}(I:Inv X pins σ H s)(k:∀b u,s.heap.get? b=some u→h'.get? b=some u)(hp:s.heap.objs.size≤a)(new:aM X.prog X.w (upd H a o) h' a o):
  Inv X pins σ (upd H a o) {s with heap:=h',toks:=t'}:=I.un (Un.laid k hp (I.hok.fresh hp)) (I.hok.laid k hp new)
theorem Inv.write{x e:Addr}{o:HO}{t':Nat}(I:Inv X pins σ H s)(mu:Mut (H x))(he:e=x∨H e=some (.own x))(k:∀b u,b≠e→s.heap.get? b=some u→h'.get? b=some u)(heo:∃u,h'.get? e=some u)(new:aM X.prog X.w (upd H x o) h' x o):Inv X pins σ (upd H x o) {s with heap:=h',toks:=t'}:=I.un (Un.write mu he k heo) (I.hok.write mu he k heo new)
theorem Inv.pins_of{pins':List (Addr×Obj)}(I:Inv X pins σ H s)(h:∀p∈pins',s.heap.get? p.1=some p.2∧H p.1=none∧p.1≠X.env.locals∧p.1∉X.fs∧∀v,p.2.data≠.cell v):Inv X pins' σ H s :=
 ⟨I.ok,I.os,I.bare,I.base,I.loc,I.cell,I.free,I.freeC,λp hp=>(mem_append.mp hp).elim (λz=>I.pin p (mem_append_left _ z)) (h p),I.hok,I.len⟩
theorem gP{N:List Str}(hN:N.Nodup){i j:Nat}{x:Str}(a:N[i]?=some x)(b:N[j]?=some x):i=j:=by
 obtain⟨h1,e1⟩:=List.getElem?_eq_some_iff.mp a;obtain⟨h2,e2⟩:=List.getElem?_eq_some_iff.mp b;exact(getElem_inj hN).mp (e1.trans e2.symm)
theorem dg{M:Model}{A:Around}{E:Value→Shared→Prop}{i:Nat}{x:Str}{v:V}{u:Value}{Q:Unit→Shared→Prop}(I:Inv X pins σ H s)(hN:X.N.Nodup)(hi:X.N[i]?=some x)(hx:Loc X.env.scope x)(r:au v u)(h:∀s',Inv X pins (σ.set i (some v)) H s'→(∃a,SameBut a s.heap s'.heap∧(a=X.env.locals∨X.env.cells.lookup x=some a))→Q () s')(hf:X.fn x=true∨X.env.scope.names.lookup x=some .local:=by first|exact .inl rfl|exact .inr rfl|assumption):wpAny M A (storeName X.env x u) Q E s:=by
 obtain⟨m,hn,hl⟩:=id I.loc;have hcls:(X.env.scope.kind==.class||(X.env.scope.kind==.module&&X.env.locals != X.env.globals))=false:=by rw[I.ok.kind];rfl
 have hiσ:i<σ.length:=by rw[I.len];exact(List.getElem?_eq_some_iff.mp hi).1
 have cne:=I.cne;have tracked:∀{a:Addr}{h':Heap},(∃o,s.heap.get? a=some o∧H a=none)→SameBut a s.heap h'→HOk X.prog X.w H h':=λ{a h'} ha hs b ob e=>by
  obtain⟨_,_,hfree⟩:=ha;refine(I.hok b ob e).stay (λc w' hc q=>(hs.2 c ?_).trans q) (λ_ q=>q) λ_ _ q=>q;rintro rfl;rcases hc with rfl|hc
  ·rw[hfree]at e;cases e
  ·rw[hfree]at hc;cases hc
 rcases hx with hk|hk
 ·refine wpAny_storeName_local hk hn (λh' hn' hs=>?_) hcls;obtain⟨oL,_,_,hoL,_⟩:=id hn;refine h _ ⟨I.ok,I.os,I.bare,⟨λb o e n hb hx=>?_,λb o e n hb hx=>?_,I.base.free,λb o e hx=>?_,I.base.tups,I.base.frzs,I.base.tbls⟩,⟨_,hn',λj y v' e1 e2 e3=>?_⟩,λy c e=>?_,I.free,I.freeC,λp hp=>?_,tracked ⟨oL,hoL,I.free⟩ hs,by simpa using I.len⟩ ⟨_,hs,.inl rfl⟩
  ·exact(hs.2 b (ne_of_lt (lt_of_lt_of_le (lt_size e) I.ok.above))).trans (I.base.keep b o e n hb hx)
  ·obtain⟨sl,e1⟩:=I.base.slot b o e n hb hx;exact⟨sl,(hs.2 b (ne_of_lt (lt_of_lt_of_le (lt_size e) I.ok.above))).trans e1⟩
  ·obtain⟨o',e1⟩:=I.base.there b o e hx;exact⟨o',(hs.2 b (ne_of_lt (lt_of_lt_of_le (lt_size e) I.ok.above))).trans e1⟩
  ·by_cases hj:j=i
   ·subst hj;rw[hi]at e1;cases e1;rw[List.getElem?_set_self hiσ]at e2;cases e2;exact⟨u,r,.inl ⟨hk,by simp⟩⟩
   ·rw[List.getElem?_set_ne (symm hj)]at e2;obtain⟨u',r',q⟩:=hl j y v' e1 e2 e3;refine⟨u',r',?_⟩;rcases q with⟨k,e⟩|⟨k,c,e,z⟩
    ·refine .inl ⟨k,?_⟩;have:y≠x:=λe=>hj (gP hN e1 (e ▸ hi));simp[this,e]
    ·exact .inr ⟨k,c,e,z.sameBut hs (cne y c e)⟩
  ·obtain⟨w',z⟩:=I.cell y c e;exact⟨w',z.sameBut hs (cne y c e)⟩
  ·obtain⟨e,n,ne,nf,d⟩:=I.pin p hp;exact⟨(hs.2 p.1 ne).trans e,n,ne,nf,d⟩
 ·have hfn:X.fn x=true:=by
   rcases hf with z|z
   ·exact z
   ·rw[z]at hk;cases hk
  obtain⟨c,hc⟩:=I.ok.has x (.inl hk);obtain⟨w',z⟩:=I.cell x c hc;refine wpAny_storeName_cell I.ok.kind hk hc z (λh' hc' hs=>?_);obtain⟨oc,hoc,hocd⟩:=id z;refine h {s with heap:=h'} ⟨I.ok,I.os,I.bare,⟨λb o e n hb hx=>?_,λb o e n hb hx=>?_,I.base.free,λb o e hx=>?_,I.base.tups,I.base.frzs,I.base.tbls⟩,⟨m,hn.sameBut hs (symm (cne x c hc)),λj y v' e1 e2 e3=>?_⟩,λy c' e=>?_,I.free,I.freeC,λp hp=>?_,tracked ⟨oc,hoc,I.freeC x c hc⟩ hs,by simpa using I.len⟩ ⟨c,hs,.inr hc⟩
  ·exact(hs.2 b (ne_of_lt (lt_of_lt_of_le (lt_size e) (I.ok.cab x c hfn hc)))).trans (I.base.keep b o e n hb hx)
  ·obtain⟨sl,e1⟩:=I.base.slot b o e n hb hx;exact⟨sl,(hs.2 b (ne_of_lt (lt_of_lt_of_le (lt_size e) (I.ok.cab x c hfn hc)))).trans e1⟩
  ·obtain⟨o',e1⟩:=I.base.there b o e hx;exact⟨o',(hs.2 b (ne_of_lt (lt_of_lt_of_le (lt_size e) (I.ok.cab x c hfn hc)))).trans e1⟩
  ·by_cases hj:j=i
   ·subst hj;rw[hi]at e1;cases e1;rw[List.getElem?_set_self hiσ]at e2;cases e2;exact⟨u,r,.inr ⟨.inl hk,c,hc,hc'⟩⟩
   ·rw[List.getElem?_set_ne (symm hj)]at e2;obtain⟨u',r',q⟩:=hl j y v' e1 e2 e3;refine⟨u',r',?_⟩;rcases q with q|⟨k,c',e,z'⟩
    ·exact .inl q
    ·refine .inr ⟨k,c',e,z'.sameBut hs ?_⟩;rintro rfl;exact hj (gP hN e1 (I.ok.inj _ _ _ e hc ▸ hi))
  ·by_cases hcc:c'=c
   ·subst hcc;exact⟨_,hc'⟩
   ·obtain⟨w2,z2⟩:=I.cell y c' e;exact⟨w2,z2.sameBut hs hcc⟩
  ·obtain⟨e,n,ne,nf,d⟩:=I.pin p hp;refine⟨(hs.2 p.1 ?_).trans e,n,ne,nf,d⟩;intro q;rw[q,hoc]at e;have q':oc=p.2:=Option.some.inj e;exact d w' (by rw[←q'];exact hocd)
theorem gQ{M:Model}{A:Around}{E:Value→Shared→Prop}{i:Nat}{x:Str}{v:V}{u:Value}{Q:Unit→Shared→Prop}(I:Inv X pins σ H s)(hN:X.N.Nodup)(hi:X.N[i]?=some x)(hx:Loc X.env.scope x)(r:au v u)(h:∀s',Inv X pins (σ.set i (some v)) H s'→Q () s')(hf:X.fn x=true∨X.env.scope.names.lookup x=some .local:=by first|exact .inl rfl|exact .inr rfl|assumption):wpAny M A (storeName X.env x u) Q E s :=
 dg I hN hi hx r (λs' I' _=>h s' I') hf
theorem Inv.call'{s':Shared}{ch:List Addr}(I:Inv X pins σ H s)(ho:s'.os=s.os)(u:Un (frs X.stack) ch H H' s.heap s'.heap)(hok:HOk X.prog X.w H' s'.heap)(hg:AllBare s'.gens)(hch:∀b∈ch,(b∈X.ex∨X.s₀.heap.objs.size≤b)∧b≠X.env.locals∧(∀x c,X.env.cells.lookup x=some c→c≠b)∧∀p∈X.pn++pins,p.1≠b):Inv X pins σ H' s':=by
 obtain⟨h',g',d',t',o'⟩:=s';have e:o'=s.os:=ho;subst e;exact I.call (g':=g') (t':=t') (d':=d') u hok hg hch
end
abbrev XK:=Value→Option Addr→Hp→Prop
abbrev St:=List (Option V)
abbrev VK:=V→Hp→Prop
abbrev TE:=St→Hp→VK→Prop
abbrev TT:=St→Hp→(Bool→Hp→Prop)→Prop
abbrev TA:=St→Hp→(List V→Hp→Prop)→Prop
structure Ends where
 nx:St→Hp→Prop
 rt:VK
 bk:St→Hp→Prop:=λ_ _=>False
 ct:St→Hp→Prop:=λ_ _=>False
abbrev TS:=Ends→St→Hp→Prop
def EP(X:Cx)(pins:List (Addr×Obj))(σ:St)(Q:VK)(u:Value)(s':Shared):Prop:=∃v H',Inv X pins σ H' s'∧au v u∧Q v H'
def TP(X:Cx)(pins:List (Addr×Obj))(σ:St)(Q:Bool→Hp→Prop)(b:Bool)(s':Shared):Prop:=∃H',Inv X pins σ H' s'∧Q b H'
def AP(X:Cx)(pins:List (Addr×Obj))(σ:St)(Q:List V→Hp→Prop)(us:List Value)(s':Shared):Prop:=∃vs H',Inv X pins σ H' s'∧am vs us∧Q vs H'
def SP(X:Cx)(pins:List (Addr×Obj))(D:Ends)(f:Flow)(s':Shared):Prop :=
 match f with
 |.next=>∃σ' H',Inv X pins σ' H' s'∧D.nx σ' H'
 |.brk=>∃σ' H',Inv X pins σ' H' s'∧D.bk σ' H'
 |.cont=>∃σ' H',Inv X pins σ' H' s'∧D.ct σ' H'
 |.ret u=>∃v σ' H',Inv X pins σ' H' s'∧au v u∧D.rt v H'
def PE(X:Cx)(e:Expr)(t:TE):Prop :=
 ∀(pins:List (Addr×Obj))(s:Shared)(σ:St)(H:Hp)(Q:VK),Inv X pins σ H s→t σ H Q→wpAny (model X.prog X.w) X.A (eval e X.env) (EP X pins σ Q) X.xe s
def PT(X:Cx)(e:Expr)(t:TT):Prop :=
 ∀(pins:List (Addr×Obj))(s:Shared)(σ:St)(H:Hp)(Q:Bool→Hp→Prop),Inv X pins σ H s→t σ H Q→wpAny (model X.prog X.w) X.A (isTrue e X.env (eval e X.env)) (TP X pins σ Q) X.xe s
def PW(X:Cx)(e:Expr)(t:TT):Prop :=
 ∀(whole:Sem Value)(pins:List (Addr×Obj))(s:Shared)(σ:St)(H:Hp)(Q:Bool→Hp→Prop),Inv X pins σ H s→t σ H Q→wpAny (model X.prog X.w) X.A (isTrue e X.env whole) (TP X pins σ Q) X.xe s
theorem PW.pt{X:Cx}{e:Expr}{t:TT}(h:PW X e t):PT X e t:=h _
def PA(X:Cx)(es:List Expr)(t:TA):Prop :=
 ∀(pos:Pos)(pins:List (Addr×Obj))(s:Shared)(σ:St)(H:Hp)(Q:List V→Hp→Prop),Inv X pins σ H s→t σ H Q→wpAny (model X.prog X.w) X.A (spliced (backTo pos (starEach es X.env))) (AP X pins σ Q) X.xe s
def PS(X:Cx)(st:Stmt)(t:TS):Prop :=
 ∀(pins:List (Addr×Obj))(s:Shared)(σ:St)(H:Hp)(D:Ends),Inv X pins σ H s→t D σ H→wpAny (model X.prog X.w) X.A (exec st X.env) (SP X pins D) X.xe s
def PSs(X:Cx)(st:List Stmt)(t:TS):Prop :=
 ∀(pins:List (Addr×Obj))(s:Shared)(σ:St)(H:Hp)(D:Ends),Inv X pins σ H s→t D σ H→wpAny (model X.prog X.w) X.A (execs st X.env) (SP X pins D) X.xe s
theorem thn{α:Type}{t:Sem α}{Q Q':α→Shared→Prop}{M:Model}{A:Around}{E:Value→Shared→Prop}{s:Shared}(h:wpAny M A t Q E s)(hQ:∀a s,Q a s→Q' a s):wpAny M A t Q' E s:=wpAny_mono h hQ λ_ _ x=>x
section
variable{X:Cx}
def mQ(i:Nat):TE:=λσ H Q=>∃v,σ[i]?=some (some v)∧Q v H
def tC(v:V):TE:=λ_ H Q=>Q v H
theorem oB{i:Nat}{x:Str}{pos:Pos}(hN:X.N[i]?=some x)(hv:Vis X.env.scope x)(hd:(x==("__debug__":Str))=false:=by decide)(hcd:(x==("__classdict__":Str))=false:=by decide):PE X (.Name x pos) (mQ i):=by
 intro pins s σ H Q I h;obtain⟨v,e,h⟩:=h;obtain⟨m,hn,hl⟩:=I.loc;obtain⟨u,r,l⟩:=hl i x v hN e hv;have fin:EP X pins σ Q u s:=⟨v,H,I,r,h⟩;rcases l with⟨hk,hm⟩|⟨hk,c,hc,hcell⟩
 ·exact wpAny_Name (wpAny_loadName_local I.ok.kind hk hn hm fin) hd
 ·rcases hk with hk|hk
  ·exact wpAny_Name (wpAny_loadName_cell I.ok.kind hk hc hcell fin) hd
  ·exact wpAny_Name (wpAny_loadName_free I.ok.kind hk hc hcell fin hcd) hd
theorem aj{i j pos}:PE X (.Constant (.int i) j pos) (tC (.int i)):=λ_ _ _ H _ I h=>wpAny_Constant_int ⟨.int i,H,I.tok _,⟨_,rfl⟩,h⟩
theorem bo{j pos}:PE X (.Constant .none j pos) (tC .non):=λ_ _ _ H _ I h=>Constant_none ⟨.non,H,I,rfl,h⟩
theorem fZ{x j pos}:PE X (.Constant (.str x) j pos) (tC (.str x)):=λ_ _ _ H _ I h=>Calls.Constant_str ⟨.str x,H,I.tok _,⟨_,rfl⟩,h⟩
def Gl(X:Cx)(x:Str):Prop:=X.env.kindOf x=some .globalImplicit
theorem ga{E:Value→Shared→Prop}{pins:List (Addr×Obj)}{s:Shared}{σ:St}{H:Hp}{x:Str}{u:Value}{pos:Pos}{Q:Value→Shared→Prop}(I:Inv X pins σ H s)(hg:Gl X x)(hm:X.mg x=some u)(h:Q u s)(hd:(x==("__debug__":Str))=false:=by decide):wpAny (model X.prog X.w) X.A (eval (.Name x pos) X.env) Q E s :=
 Calls.Name_function_global I.ok.kind hg (Calls.loadGlobal_global (by rw[I.ok.glob];exact I.mod.glob.keeps I.bk) hm h) hd
theorem dh{E:Value→Shared→Prop}{pins:List (Addr×Obj)}{s:Shared}{σ:St}{H:Hp}{x:Str}{u:Value}{pos:Pos}{Q:Value→Shared→Prop}(I:Inv X pins σ H s)(hg:Gl X x)(hm:X.mg x=none)(hv:bootBuiltins x=some u)(h:Q u s)(hn:x≠"__name__":=by decide)(hd:(x==("__debug__":Str))=false:=by decide):wpAny (model X.prog X.w) X.A (eval (.Name x pos) X.env) Q E s:=by
 obtain⟨mb,h1,h2⟩:=I.mod.blt;exact Calls.Name_function_global I.ok.kind hg (Calls.loadGlobal_builtin (by rw[I.ok.glob];exact I.mod.glob.keeps I.bk) hm (by rw[I.ok.blt];exact h1.keeps I.bk) ((h2 x hn).trans hv) h) hd
theorem gb{x:Str}{v:V}{u:Value}{pos:Pos}(hg:Gl X x)(hm:X.mg x=some u)(r:au v u)(hd:(x==("__debug__":Str))=false:=by decide):PE X (.Name x pos) (tC v) :=
 λ_ _ _ H _ I h=>ga I hg hm ⟨v,H,I,r,h⟩ hd
variable{a b:Expr}{ta tb:TE}{pos:Pos}
def PC(X:Cx)(op:CmpOp)(a b:Expr)(t:TE):Prop :=
 ∀(pins:List (Addr×Obj))(s:Shared)(σ:St)(H:Hp)(Q:VK),Inv X pins σ H s→t σ H Q →
  wpAny (model X.prog X.w) X.A (eval a X.env) (λv s₁=>wpAny (model X.prog X.w) X.A (eval b X.env) (λu s₂=>wpAny (model X.prog X.w) X.A (compareOp op v u) (EP X pins σ Q) X.xe s₂) X.xe s₁) X.xe s
def tB(t:TE):TT:=λσ H Q=>t σ H λx H1=>∃c,x=.bl c∧Q c H1
theorem oC{op:CmpOp}{t:TE}(h:PC X op a b t)(h1:behindInMarks op b=false:=by first|exact nobehind _ (by decide) (by decide)|rfl):PT X (.Compare a [op] [b] pos) (tB t):=by
 intro pins s σ H Q I hw;refine wpAny_isTrue_Compare1 (thn (h pins s σ H _ I hw) λv s1 h1=>thn h1 λu s2 h2=>thn h2 λc s3 ⟨x,H1,I1,r1,q1⟩=>?_) h1;obtain⟨d,rfl,q⟩:=q1;cases r1;exact wpAny_truthy_bool ⟨H1,I1,q⟩
theorem oD{e:Expr}{t:TE}(h:PE X e t)(he:∀whole,isTrue e X.env whole=(do let v ← whole;standAt e.pos;holding [v] (truthy v)):=by intro _;rfl):PT X e (tB t):=by
 intro pins s σ H Q I hw;refine isTrue_plain (thn (h pins s σ H _ I hw) λv s1 ⟨x,H1,I1,r1,q1⟩=>?_) (he _);obtain⟨d,rfl,q⟩:=q1;cases r1;exact wpAny_truthy_bool ⟨H1,I1,q⟩
variable{tA tB':TT}{rest:List Expr}
def qU(t u:TT):TT:=λσ H Q=>t σ H λc H1=>if c=true then u σ H1 Q else Q false H1
def tOr(t u:TT):TT:=λσ H Q=>t σ H λc H1=>if c=true then Q true H1 else u σ H1 Q
theorem pw_and1(ha:PT X a tA):PW X (.BoolOp .And [a] pos) tA:=by
 intro wh pins s σ H Q I h;refine isTrue_and (thn (ha pins s σ H Q I h) λc s1 e=>?_);cases c with
 |true=>exact isTrue_and_nil e
 |false=>exact e
theorem pw_or1(ha:PT X a tA):PW X (.BoolOp .Or [a] pos) tA:=by
 intro wh pins s σ H Q I h;refine isTrue_or (thn (ha pins s σ H Q I h) λc s1 e=>?_);cases c with
 |false=>exact isTrue_or_nil e
 |true=>exact e
theorem pw_and(ha:PT X a tA)(hb:PW X (.BoolOp .And (b::rest) pos) tB'):PW X (.BoolOp .And (a::b::rest) pos) (qU tA tB'):=by
 intro wh pins s σ H Q I h;refine isTrue_and (thn (ha pins s σ H _ I h) λc s1 hpt=>?_);obtain⟨H1,I1,q1⟩:=hpt;cases c with
 |true=>exact hb wh pins s1 σ H1 Q I1 q1
 |false=>exact⟨H1,I1,q1⟩
theorem pw_or(ha:PT X a tA)(hb:PW X (.BoolOp .Or (b::rest) pos) tB'):PW X (.BoolOp .Or (a::b::rest) pos) (tOr tA tB'):=by
 intro wh pins s σ H Q I h;refine isTrue_or (thn (ha pins s σ H _ I h) λc s1 hpt=>?_);obtain⟨H1,I1,q1⟩:=hpt;cases c with
 |true=>exact⟨H1,I1,q1⟩
 |false=>exact hb wh pins s1 σ H1 Q I1 q1
def qb(ta tb:TE):TE:=λσ H Q=>ta σ H λx H1=>∃c,x=.bl c∧if c=true then tb σ H1 Q else Q (.bl false) H1
theorem oE{op}{t:TE}(h:PE X a t):PE X (.BoolOp op [a] pos) t:=λpins s σ H Q I hw=>BoolOp_one (h pins s σ H Q I hw)
theorem oF(ha:PE X a ta)(hb:PE X (.BoolOp .And (b::rest) pos) tb):PE X (.BoolOp .And (a::b::rest) pos) (qb ta tb):=by
 intro pins s σ H Q I h;refine BoolOp_and (thn (ha pins s σ H _ I h) λv s1 hpt=>?_);obtain⟨x,H1,I1,r1,q1⟩:=hpt;obtain⟨c,rfl,q1⟩:=q1;cases r1;refine wpAny_truthy_bool ?_;cases c with
 |true=>exact hb pins s1 σ H1 Q I1 q1
 |false=>exact⟨.bl false,H1,I1,rfl,q1⟩
def tIf(t:TT)(ta tb:TE):TE:=λσ H Q=>t σ H λc H1=>if c=true then ta σ H1 Q else tb σ H1 Q
theorem kQ{c:Expr}(hc:PT X c tA)(ha:PE X a ta)(hb:PE X b tb):PE X (.IfExp c a b pos) (tIf tA ta tb):=by
 intro pins s σ H Q I h;refine wpAny_IfExp (thn (hc pins s σ H _ I h) λd s1 hpt=>?_);obtain⟨H1,I1,q1⟩:=hpt;cases d with
 |true=>exact ha pins s1 σ H1 Q I1 q1
 |false=>exact hb pins s1 σ H1 Q I1 q1
end
def SqL(K:PySem.W.Frag)(H:Hp)(a:Addr)(xs:List V):Prop :=
 Rd H a (.lst xs) ∨
  ∃(o:Obj) (its:Array Value) (n:Nat),K.lookup a=some o∧o.cls=.type "list"∧o.dict=none∧o.data=.seq its n∧its.size≤sizeLine∧am xs its.toList
def SqT(K:PySem.W.Frag)(H:Hp)(a:Addr)(xs:List V):Prop :=
 Rd H a (.tup xs) ∨
  ∃(o:Obj) (its:Array Value) (n:Nat),K.lookup a=some o∧o.cls=.type "tuple"∧o.data=.seq its n∧its.size≤sizeLine∧am xs its.toList
def qV:Value→Option V
 |.none=>some .non
 |.bool b=>some (.bl b)
 |.int i _=>some (.int i)
 |.str x _=>some (.str x)
 |.bytes b _=>some (.byt b)
 |.float b _=>some (.flt b)
 |.ref a=>some (.ref a)
 |.type n=>some (.ty n)
 |_=>none
theorem au.abs{x:V}{u:Value}(r:au x u):qV u=some x:=by
 cases x with
 |non=>cases r;rfl
 |bl _=>cases r;rfl
 |int _=>obtain⟨t,rfl⟩:=r;rfl
 |str _=>obtain⟨t,rfl⟩:=r;rfl
 |byt _=>obtain⟨t,rfl⟩:=r;rfl
 |flt _=>obtain⟨t,rfl⟩:=r;rfl
 |ref _=>cases r;rfl
 |ty _=>cases r;rfl
theorem au.inj{x y:V}{u:Value}(r:au x u)(q:au y u):x=y:=Option.some.inj (r.abs.symm.trans q.abs)
theorem am.inj:∀{xs ys:List V}{us:List Value},am xs us→am ys us→xs=ys
 |_,_,_,.nil,.nil=>rfl
 |_,_,_,.cons r t,.cons r' t'=>by rw[r.inj r',am.inj t t']
section
variable{X:Cx}{pins:List (Addr×Obj)}{σ:St}{H:Hp}{s:Shared}{a:Addr}{xs ys:List V}
theorem SqL.of{K:PySem.W.Frag}(h:H a=some (.lst xs)):SqL K H a xs:=.inl (.inl h)
theorem SqT.of{K:PySem.W.Frag}(h:H a=some (.tup xs)):SqT K H a xs:=.inl (.inl h)
theorem Inv.list(I:Inv X pins σ H s)(h:SqL X.K H a xs):∃its:List Value,am xs its∧PlainL s.heap a its.toArray∧xs.length≤sizeLine:=by
 rcases h with h|⟨o,its,n,hk,hc,hd,hs,hz,r⟩
 ·obtain⟨z,its,n,r,e⟩:=h.ok I.hok;exact⟨its,r,⟨_,n,e,rfl,rfl,rfl⟩,z⟩
 ·refine⟨its.toList,r,⟨o,n,I.kIn a o hk,hc,hd,by simpa using hs⟩,?_⟩
  have e:=r.length;simp only[length_toList]at e;omega
theorem Inv.tuple(I:Inv X pins σ H s)(h:SqT X.K H a xs):∃its:List Value,am xs its∧IsTup s.heap a its.toArray∧xs.length≤sizeLine:=by
 rcases h with h|⟨o,its,n,hk,hc,hs,hz,r⟩
 ·obtain⟨z,its,r,p⟩:=h.ok I.hok;exact⟨its,r,p,z⟩
 ·refine⟨its.toList,r,⟨o,I.kIn a o hk,hc,n,by simpa using hs⟩,?_⟩
  have e:=r.length;simp only[length_toList]at e;omega
theorem Inv.list_inj(I:Inv X pins σ H s)(h:SqL X.K H a xs)(h':SqL X.K H a ys):xs=ys:=by
 obtain⟨its,r,⟨o,n,e,_,_,d⟩,_⟩:=I.list h;obtain⟨its',r',⟨o',n',e',_,_,d'⟩,_⟩:=I.list h';rw[e]at e';cases e';rw[d]at d';injection d' with d1 _
 have:its=its':=by simpa using congrArg toList d1
 subst this;exact r.inj r'
theorem Inv.tuple_inj(I:Inv X pins σ H s)(h:SqT X.K H a xs)(h':SqT X.K H a ys):xs=ys:=by
 obtain⟨its,r,⟨o,e,_,n,d⟩,_⟩:=I.tuple h;obtain⟨its',r',⟨o',e',_,n',d'⟩,_⟩:=I.tuple h';rw[e]at e';cases e';rw[d]at d';injection d' with d1 _
 have:its=its':=by simpa using congrArg toList d1
 subst this;exact r.inj r'
end
abbrev Cx.wish(X:Cx)(E:Value→Shared→Prop):Cx:={X with xe:=E}
abbrev Cx.nox(X:Cx):Cx:=X.wish λ_ _=>False
theorem Cx.Ok.wish{X:Cx}(ok:X.Ok)(E:Value→Shared→Prop):(X.wish E).Ok :=
 ⟨ok.mod,ok.kind,ok.glob,ok.blt,ok.above,ok.inj,ok.has,ok.cab,ok.hd,ok.frames,ok.stk,ok.exf,ok.bs,ok.bsz,ok.noex,ok.exfs,ok.funs,ok.frf⟩
theorem Cx.Ok.unwish{X:Cx}{E:Value→Shared→Prop}(ok:(X.wish E).Ok):X.Ok :=
 ⟨ok.mod,ok.kind,ok.glob,ok.blt,ok.above,ok.inj,ok.has,ok.cab,ok.hd,ok.frames,ok.stk,ok.exf,ok.bs,ok.bsz,ok.noex,ok.exfs,ok.funs,ok.frf⟩
section
variable{X:Cx}{pins:List (Addr×Obj)}{σ:St}{H:Hp}{s:Shared}{E:Value→Shared→Prop}
theorem Inv.wish(I:Inv X pins σ H s)(E:Value→Shared→Prop):Inv (X.wish E) pins σ H s:=⟨I.ok.wish E,I.os,I.bare,I.base,I.loc,I.cell,I.free,I.freeC,I.pin,I.hok,I.len⟩
theorem Inv.unwish(I:Inv (X.wish E) pins σ H s):Inv X pins σ H s:=⟨I.ok.unwish,I.os,I.bare,I.base,I.loc,I.cell,I.free,I.freeC,I.pin,I.hok,I.len⟩
theorem SP.unwish{D:Ends}{f:Flow}{s':Shared}(h:SP (X.wish E) pins D f s'):SP X pins D f s':=by
 cases f with
 |next=>obtain⟨σ',H',I,q⟩:=h;exact⟨σ',H',I.unwish,q⟩
 |brk=>obtain⟨σ',H',I,q⟩:=h;exact⟨σ',H',I.unwish,q⟩
 |cont=>obtain⟨σ',H',I,q⟩:=h;exact⟨σ',H',I.unwish,q⟩
 |ret u=>obtain⟨v,σ',H',I,r,q⟩:=h;exact⟨v,σ',H',I.unwish,r,q⟩
theorem PSs.nox{st:List Stmt}{t:TS}(h:PSs X.nox st t):PSs X st t:=λpins s σ H D I hw =>
 wpAny_mono (h pins s σ H D (I.wish _) hw) (λ_ _ q=>q.unwish) λ_ _ z=>False.elim z
end
section
variable{X:Cx}{st:Stmt}{rest:List Stmt}{t u:TS}{e:Expr}{te:TE}{pos:Pos}
def qc:TS:=λD σ H=>D.nx σ H
def mR(t u:TS):TS:=λD σ H=>t {D with nx:=u D} σ H
theorem aU:PSs X [] qc:=λ_ _ σ H _ I h=>wpAny_execs_nil ⟨σ,H,I,h⟩
theorem ai(h1:PS X st t)(h2:PSs X rest u):PSs X (st::rest) (mR t u):=by
 intro pins s σ H D I h;refine wpAny_execs_cons (thn (h1 pins s σ H {D with nx:=u D} I h) λf s1 q=>?_);cases f with
 |next =>
  obtain⟨σ',H',I',q⟩:=q;exact h2 pins s1 σ' H' D I' q
 |ret v=>exact q
 |brk=>exact q
 |cont=>exact q
theorem ak(h1:PS X st t):PSs X [st] t:=by
 intro pins s σ H D I h;refine wpAny_execs_cons (thn (h1 pins s σ H D I h) λf s1 q=>?_);cases f with
 |next=>exact wpAny_execs_nil q
 |ret v=>exact q
 |brk=>exact q
 |cont=>exact q
theorem Inv.quiet{pins:List (Addr×Obj)}{σ:St}{H:Hp}{s:Shared}(I:Inv X pins σ H s):interactive X.env=false:=by simp[interactive,I.ok.kind]
def qd(te:TE):TS:=λD σ H=>te σ H λ_ H1=>D.nx σ H1
theorem bt(he:PE X e te)(hs:swapsWith e none pos.line X.env=pure false:=by rfl):PS X (.Expr e pos) (qd te):=by
 intro pins s σ H D I h;exact wpAny_Expr_any (thn (he pins s σ H _ I h) λv s1 ⟨x,H1,I1,r1,q1⟩=>⟨σ,H1,I1,q1⟩) I.quiet hs
def qe(te:TE):TS:=λD σ H=>te σ H D.rt
theorem aP(he:PE X e te):PS X (.Return (some e) pos) (qe te):=by
 intro pins s σ H D I h;exact wpAny_Return_some (thn (he pins s σ H _ I h) λv s1 ⟨x,H1,I1,r1,q1⟩=>⟨x,σ,H1,I1,r1,q1⟩)
def qW(c:TT)(t u:TS):TS:=λD σ H=>c σ H λb H1=>if b=true then t D σ H1 else u D σ H1
theorem bM{c:Expr}{a b:List Stmt}{tc:TT}(hc:PT X c tc)(ha:PSs X a t)(hb:PSs X b u):PS X (.If c a b pos) (qW tc t u):=by
 intro pins s σ H D I h;refine wpAny_If (thn (hc pins s σ H _ I h) λd s1 hpt=>?_);obtain⟨H1,I1,q1⟩:=hpt;cases d with
 |true=>exact ha pins s1 σ H1 D I1 q1
 |false=>exact hb pins s1 σ H1 D I1 q1
def oG:TS:=λ_ _ _=>False
theorem cy{sts:List Stmt}:PSs X sts oG:=λ_ _ _ _ _ _ h=>h.elim
end
abbrev TG:=V→St→Hp→(St→Hp→Prop)→Prop
abbrev TGs:=List V→St→Hp→(St→Hp→Prop)→Prop
def PG(X:Cx)(target:Expr)(t:TG):Prop :=
 ∀(pins:List (Addr×Obj))(s:Shared)(σ:St)(H:Hp)(v:V)(u:Value)(Q:St→Hp→Prop),Inv X pins σ H s→au v u→t v σ H Q →
  wpAny (model X.prog X.w) X.A (assign target X.env u) (λ_ s'=>∃σ' H',Inv X pins σ' H' s'∧Q σ' H') X.xe s
def PGs(X:Cx)(ts:List Expr)(t:TGs):Prop :=
 ∀(pins:List (Addr×Obj))(s:Shared)(σ:St)(H:Hp)(vs:List V)(us:List Value)(Q:St→Hp→Prop),Inv X pins σ H s→am vs us→t vs σ H Q →
  wpAny (model X.prog X.w) X.A (assignInOrder ((assignEach ts X.env).map (·.2)) us) (λ_ s'=>∃σ' H',Inv X pins σ' H' s'∧Q σ' H') X.xe s
section
variable{X:Cx}{pos:Pos}
def aQ(i:Nat):TG:=λv σ H Q=>Q (σ.set i (some v)) H
theorem aD{i:Nat}{x:Str}(hN:X.N.Nodup)(hi:X.N[i]?=some x)(hx:Loc X.env.scope x)(hf:X.fn x=true∨X.env.scope.names.lookup x=some .local:=by first|exact .inl rfl|exact .inr rfl|assumption):PG X (.Name x pos) (aQ i):=by
 intro pins s σ H v u Q I r h;exact wpAny_assign_Name (gQ I hN hi hx r (λs' I'=>⟨_,H,I',h⟩) hf)
def qf:TGs:=λvs σ H Q=>vs=[]∧Q σ H
def kR(t:TG)(u:TGs):TGs:=λvs σ H Q=>∃v r,vs=v::r∧t v σ H λσ' H'=>u r σ' H' Q
theorem jd:PGs X [] qf:=by
 intro pins s σ H vs us Q I r h;obtain⟨e,h⟩:=h;subst e;cases r;exact assignInOrder_nil ⟨σ,H,I,h⟩
theorem cN{e:Expr}{es:List Expr}{t:TG}{u:TGs}(h1:PG X e t)(h2:PGs X es u)(hs:(assignEach (e::es) X.env).map (·.2)=assign e X.env::(assignEach es X.env).map (·.2):=by rfl):PGs X (e::es) (kR t u):=by
 intro pins s σ H vs us Q I r h;obtain⟨v,vr,e1,h⟩:=h;subst e1;cases r with
 |cons r rr =>
  rw[hs];refine assignInOrder_cons (thn (h1 pins s σ H _ _ _ I r h) λ_ s1 hpt=>?_);obtain⟨σ1,H1,I1,q1⟩:=hpt;exact h2 pins s1 σ1 H1 _ _ Q I1 rr q1
def qg(K:PySem.W.Frag)(n:Nat)(t:TGs):TG:=λv σ H Q=>∃a xs,v=.ref a∧SqT K H a xs∧xs.length=n∧t xs σ H Q
theorem kX{es:List Expr}{k:Nat}{t:TGs}{n:Nat}(hc:X.calm=true)(h:PGs X es t)(hn:(assignEach es X.env).length=n:=by rfl)(hst:(assignEach es X.env).findIdx? (·.1)=none:=by rfl):PG X (.Tuple es k pos) (qg X.K n t):=by
 intro pins s σ H v u Q I r hw;obtain⟨a,xs,e1,hq,hl,hw⟩:=hw;subst e1;cases r;obtain⟨its,rv,ht,hz⟩:=I.tuple hq;refine assign_Tuple_tuple (I.ok.hd hc) ht (by simp[hn,←hl,rv.length]) hst λh' hx=>?_;have I1:Inv X pins σ H {s with heap:=h'}:=I.kept (t':=s.toks) λb o e=>hx b o (ne_of_lt (lt_size e)) e
 exact h pins _ σ H xs _ Q I1 (by simpa using rv) hw
def oH(te:TE)(g:TG):TS:=λD σ H=>te σ H λx H1=>g x σ H1 D.nx
theorem ax{i:Nat}{x:Str}{e:Expr}{te:TE}{pos':Pos}(hN:X.N.Nodup)(hi:X.N[i]?=some x)(hx:Loc X.env.scope x)(he:PE X e te)(hs:swapsWith e (some (.Name x pos')) pos.line X.env=pure false:=by rfl)(hf:X.fn x=true∨X.env.scope.names.lookup x=some .local:=by first|exact .inl rfl|exact .inr rfl|assumption):
  PS X (.Assign [.Name x pos'] e pos) (oH te (aQ i)):=by
 intro pins s σ H D I h;refine wpAny_Assign_Name (thn (he pins s σ H _ I h) λv s1 ⟨y,H1,I1,r1,q1⟩=>?_) hs;exact gQ I1 hN hi hx r1 (λs2 I2=>⟨_,H1,I2,q1⟩) hf
def kY(c:TT)(tb:TS):TS:=λD σ H=>∃W:Nat→St→Hp→Prop,(∃m,W m σ H)∧∀m σ H,W m σ H →
 c σ H λb H1=>if b=true then ∃N:St→Hp→Prop,(∀σ' H',N σ' H'→∃m',m'<m∧W m' σ' H')∧tb {D with nx:=N,ct:=N,bk:=D.nx} σ H1 else D.nx σ H1
theorem cO{c:Expr}{body:List Stmt}{tc:TT}{tb:TS}(hp:PassesOwn (model X.prog X.w) X.A X.env X.xe)(hc:PT X c tc)(hb:PSs X body tb):PS X (.While c body [] pos) (kY tc tb):=by
 intro pins s σ H D I h;obtain⟨W,⟨m0,w0⟩,turn⟩:=h;refine wpAny_While (codeAny_whileLoop (λn s'=>∃σ' H',Inv X pins σ' H' s'∧W n σ' H') ?_ m0 ⟨σ,H,I,w0⟩);rintro n s1 ⟨σ1,H1,I1,w1⟩;refine wpAny_passesOwn hp (thn (hc pins s1 σ1 H1 _ I1 (turn n σ1 H1 w1)) λb s2 hpt=>?_);obtain⟨H2,I2,q2⟩:=hpt;cases b with
 |true =>
  obtain⟨N,hN,q2⟩:=q2;rw[if_pos rfl];refine wpAny_passesOwn hp (thn (hb pins s2 σ1 H2 _ I2 q2) λf s3 q3=>?_);cases f with
  |next =>
   obtain⟨σ3,H3,I3,n3⟩:=q3;obtain⟨m',hm,w3⟩:=hN σ3 H3 n3;exact⟨m',hm,σ3,H3,I3,w3⟩
  |cont =>
   obtain⟨σ3,H3,I3,n3⟩:=q3;obtain⟨m',hm,w3⟩:=hN σ3 H3 n3;exact⟨m',hm,σ3,H3,I3,w3⟩
  |brk=>exact q3
  |ret v=>exact q3
 |false =>
  rw[if_neg Bool.false_ne_true];exact wpAny_execs_nil ⟨σ1,H2,I2,q2⟩
end
structure It where
 go:Nat→Hp→Prop
 yld:Nat→Hp→V→Hp→Prop
 stop:Nat→Hp→Prop
def cm(X:Cx)(pins:List (Addr×Obj))(H:Hp)(b:Addr):Prop :=
 H b=none∧b≠X.env.locals∧b∉X.fs∧(b∈X.ex∨X.s₀.heap.objs.size≤b)∧(∀x c,X.env.cells.lookup x=some c→c≠b)∧∀p∈X.pn++pins,p.1≠b
theorem Inv.fpOk{X:Cx}{pins:List (Addr×Obj)}{σ:St}{H H':Hp}{s:Shared}{b:Addr}(I:Inv X pins σ H s)(hb:s.heap.objs.size≤b)(hn:H' b=none):cm X pins H' b:=by
 refine⟨hn,ne_of_gt (lt_of_lt_of_le I.lt hb),I.nofs hb,.inr (le_trans I.sz hb),λx c e z=>?_,λp hp z=>?_⟩
 ·obtain⟨v,q⟩:=I.cell x c e;exact absurd (lt_of_lt_of_le q.lt (by rw[z];exact hb)) (lt_irrefl _)
 ·exact absurd (lt_of_lt_of_le (lt_size (I.pin p hp).1) (by rw[z];exact hb)) (lt_irrefl _)
structure Turn(P:Program)(w:World)(K:PySem.W.Frag)(tg:Expr)(J:It)(fp:List Addr)(it:Addr)(tn:Nat→Heap→Prop):Prop where
 mem:it∈fp
 obj:∀i h,tn i h→∀b∈fp,∃o,h.get? b=some o∧∀v,o.data≠.cell v
 keep:∀i h h',tn i h→(∀b∈fp,∀o,h.get? b=some o→h'.get? b=some o)→tn i h'
 item:∀(X:Cx),X.prog=P→X.w=w→X.K=K→X.calm=true→∀(i:Nat)(pins:List (Addr×Obj))(s:Shared)(σ:St)(H:Hp)(E:Value→Shared→Prop),Inv X pins σ H s→(∀b∈fp,cm X pins H b)→tn i s.heap→J.go i H →
  wpAny (model P w) X.A (pyNext (.ref it)) (λr s1=>∃u,r=some u ∧
   wpAny (model P w) X.A (letOwnedTupleGo tg (.ref it) u) (λ_ s2=>∃x H',Inv X pins σ H' s2∧au x u∧J.yld i H x H'∧tn (i+1) s2.heap∧∀b∈fp,H' b=none) E s1) E s
 done:∀(X:Cx),X.prog=P→X.w=w→X.K=K→X.calm=true→∀(i:Nat)(pins:List (Addr×Obj))(s:Shared)(σ:St)(H:Hp)(E:Value→Shared→Prop),Inv X pins σ H s→(∀b∈fp,cm X pins H b)→tn i s.heap→J.stop i H →
  wpAny (model P w) X.A (pyNext (.ref it)) (λr s1=>r=none∧Inv X pins σ H s1) E s
 self:∀(A:Around)(i:Nat)(s:Shared)(Q:Value→Shared→Prop)(E:Value→Shared→Prop),tn i s.heap→Q (.ref it) s→wpAny (model P w) A (pyIter (.ref it)) Q E s
abbrev TI:=St→Hp→(It→Hp→Prop)→Prop
def PIE(X:Cx)(pins:List (Addr×Obj))(σ:St)(tg:Expr)(R:It→Hp→Prop)(itv:Value)(s2:Shared):Prop :=
 ∃(it:Addr) (fp:List Addr) (tn:Nat→Heap→Prop) (J:It) (H':Hp),itv=.ref it∧Inv X pins σ H' s2∧Turn X.prog X.w X.K tg J fp it tn∧tn 0 s2.heap∧(∀b∈fp,cm X pins H' b)∧R J H'
def PI(X:Cx)(tg iter:Expr)(wi:TI):Prop :=
 ∀(pins:List (Addr×Obj))(s:Shared)(σ:St)(H:Hp)(R:It→Hp→Prop),Inv X pins σ H s→wi σ H R →
  wpAny (model X.prog X.w) X.A (eval iter X.env) (λv s1=>wpAny (model X.prog X.w) X.A (pyIter v) (PIE X pins σ tg R) X.xe s1) X.xe s
theorem je{M:Model}{A:Around}{E:Value→Shared→Prop}{s:Shared}{tg:Expr}{it:Addr}{u:Value}{o:Obj}{n:String}{vs:Array Value}{Q:Unit→Shared→Prop}(ho:s.heap.get? it=some o)(hc:o.cls=.type n)(hd:o.data=.fields vs)(hn:["enumerate","zip","dict_itemiterator","dict_reverseitemiterator","odict_iterator","itertools.zip_longest","itertools.pairwise"].contains n=false)(hQ:Q () s):wpAny M A (letOwnedTupleGo tg (.ref it) u) Q E s:=by
 unfold letOwnedTupleGo;cases tg<;>first
  |exact wpAny_pure hQ
  | (cases u<;>first
    |exact wpAny_pure hQ
    | (refine wpAny_bind (wpAny_load ho ?_)
       rw[hc,hd];show wpAny M A (if (["enumerate","zip","dict_itemiterator","dict_reverseitemiterator","odict_iterator","itertools.zip_longest","itertools.pairwise"].contains n&&vs[0]?==some (rawInt _))=true then _ else _) Q E s
       rw[if_neg (by intro h;rw[hn,Bool.false_and]at h;cases h)];exact wpAny_pure hQ))
def Itl(K:PySem.W.Frag)(a:Addr):It :=
 ⟨λi H=>∃xs x,SqL K H a xs∧xs[i]?=some x,λi H x H'=>H'=H∧∀xs,SqL K H a xs→xs[i]?=some x,λi H=>∃xs,SqL K H a xs∧xs.length≤i⟩
def Itt(K:PySem.W.Frag)(a:Addr):It :=
 ⟨λi H=>∃xs x,SqT K H a xs∧xs[i]?=some x,λi H x H'=>H'=H∧∀xs,SqT K H a xs→xs[i]?=some x,λi H=>∃xs,SqT K H a xs∧xs.length≤i⟩
def Itr(lo:Int)(n:Nat):It:=⟨λi _=>i<n,λi H x H'=>H'=H∧x=.int (lo+i),λi _=>n≤i⟩
theorem jO{P:Program}{w:World}{K:PySem.W.Frag}{tg:Expr}(a it:Addr):Turn P w K tg (Itl K a) [it] it (λi h=>h.IsListIter it a i) where
 mem:=by simp
 obj:=λi h st b hb=>by
  have e:b=it:=by simpa using hb
  subst e;obtain⟨o,e,c,d⟩:=st;exact⟨o,e,λv z=>by rw[d]at z;cases z⟩
 keep:=λi h h' st k=>st.at λo e=>k it (by simp) o e
 item:=by
  intro X hP hw hK hc i pins s σ H E I hf st hg;subst hP hw hK;obtain⟨xs,x,hq,hx⟩:=hg;obtain⟨its,rv,p,hz⟩:=I.list hq;obtain⟨u,hu,ru⟩:=rv.get hx;obtain⟨f0,f1,f2,f3,f4,f5⟩:=hf it (by simp);refine wpAny_pyNext_list_item st p.isList (x:=u) (by simpa using hu) λh' st' sb=>?_;have I1:Inv X pins σ H {s with heap:=h'}:=I.turned (t':=s.toks) (λb o hb e=>(sb.2 b hb).trans e) f0 f1 f3 f4 f5
  obtain⟨o,e,c,d⟩:=id st';exact⟨u,rfl,je (s:={s with heap:=h'}) e c d (by decide) ⟨x,H,I1,ru,⟨rfl,λys hy=>by rw[I.list_inj hy hq];exact hx⟩,st',λb hb=>(hf b hb).1⟩⟩
 done:=by
  intro X hP hw hK hc i pins s σ H E I hf st hg;subst hP hw hK;obtain⟨xs,hq,hx⟩:=hg;obtain⟨its,rv,p,hz⟩:=I.list hq;obtain⟨f0,f1,f2,f3,f4,f5⟩:=hf it (by simp);have hl:=rv.length;exact wpAny_pyNext_list_end (I.ok.hd hc) st p.isList (by simp;omega) λh' eb=>⟨rfl,I.turned (t':=s.toks) (λb o hb e=>eb b o hb e) f0 f1 f3 f4 f5⟩
 self:=λ_ _ _ _ _ st h=>wpAny_pyIter_listiter st h
theorem iB{P:Program}{w:World}{K:PySem.W.Frag}{tg:Expr}(a it:Addr):Turn P w K tg (Itt K a) [it] it (λi h=>h.IsTupleIter it a i) where
 mem:=by simp
 obj:=λi h st b hb=>by
  have e:b=it:=by simpa using hb
  subst e;obtain⟨o,e,c,d⟩:=st;exact⟨o,e,λv z=>by rw[d]at z;cases z⟩
 keep:=λi h h' st k=>st.at λo e=>k it (by simp) o e
 item:=by
  intro X hP hw hK hc i pins s σ H E I hf st hg;subst hP hw hK;obtain⟨xs,x,hq,hx⟩:=hg;obtain⟨its,rv,p,hz⟩:=I.tuple hq;obtain⟨u,hu,ru⟩:=rv.get hx;obtain⟨f0,f1,f2,f3,f4,f5⟩:=hf it (by simp);refine wpAny_pyNext_tuple_item st (show s.heap.IsTuple a its.toArray from p) (x:=u) (by simpa using hu) λh' st' sb=>?_;have I1:Inv X pins σ H {s with heap:=h'}:=I.turned (t':=s.toks) (λb o hb e=>(sb.2 b hb).trans e) f0 f1 f3 f4 f5
  obtain⟨o,e,c,d⟩:=id st';exact⟨u,rfl,je (s:={s with heap:=h'}) e c d (by decide) ⟨x,H,I1,ru,⟨rfl,λys hy=>by rw[I.tuple_inj hy hq];exact hx⟩,st',λb hb=>(hf b hb).1⟩⟩
 done:=by
  intro X hP hw hK hc i pins s σ H E I hf st hg;subst hP hw hK;obtain⟨xs,hq,hx⟩:=hg;obtain⟨its,rv,p,hz⟩:=I.tuple hq;obtain⟨f0,f1,f2,f3,f4,f5⟩:=hf it (by simp);have hl:=rv.length;exact wpAny_pyNext_tuple_end (I.ok.hd hc) st (show s.heap.IsTuple a its.toArray from p) (by simp;omega) λh' eb=>⟨rfl,I.turned (t':=s.toks) (λb o hb e=>eb b o hb e) f0 f1 f3 f4 f5⟩
 self:=λ_ _ _ _ _ st h=>wpAny_pyIter_tupleiter st h
theorem iC{P:Program}{w:World}{K:PySem.W.Frag}{tg:Expr}(it:Addr)(lo:Int)(n:Nat):Turn P w K tg (Itr lo n) [it] it (λi h=>IsRangeIter h it (lo+(i:Nat)*1) ((n:Int)-(i:Nat)) 1) where
 mem:=by simp
 obj:=λi h st b hb=>by
  have e:b=it:=by simpa using hb
  subst e;exact⟨_,st,λv z=>by
   have z':Data.fields _=Data.cell v:=z;cases z'⟩
 keep:=λi h h' st k=>k it (by simp) _ st
 item:=by
  intro X hP hw hK hc i pins s σ H E I hf st hg;subst hP hw hK;obtain⟨f0,f1,f2,f3,f4,f5⟩:=hf it (by simp);have W:=Walks.range (prog:=X.prog) (w:=X.w) (I.ok.hd hc) it lo 1 n;refine W.item i s _ _ hg st λv h' tk hv st' kk=>?_;obtain⟨t,rfl⟩:=hv;have I1:Inv X pins σ H {s with heap:=h',toks:=tk}:=I.turned (λb o hb e=>kk b o (by simpa using hb) e) f0 f1 f3 f4 f5
  refine⟨_,rfl,je (s:={s with heap:=h',toks:=tk}) (n:="range_iterator") st' rfl rfl (by decide) ⟨.int (lo+i),H,I1,⟨t,?_⟩,⟨rfl,rfl⟩,st',λb hb=>(hf b hb).1⟩⟩;rw[Int.mul_one]
 done:=by
  intro X hP hw hK hc i pins s σ H E I hf st hg;subst hP hw hK;obtain⟨f0,f1,f2,f3,f4,f5⟩:=hf it (by simp);exact wpAny_pyNext_range_end (I.ok.hd hc) st (by have:n≤i:=hg;omega) λh' eb=>⟨rfl,I.turned (t':=s.toks) (λb o hb e=>eb b o hb e) f0 f1 f3 f4 f5⟩
 self:=λ_ _ _ _ _ st h=>wpAny_pyIter_rangeiter st h
section
variable{X:Cx}{tg:Expr}
def qh(K:PySem.W.Frag)(tl:TE):TI:=λσ H R=>tl σ H λx H1=>∃a,x=.ref a∧(∃xs,SqL K H1 a xs)∧R (Itl K a) H1
def qX(K:PySem.W.Frag)(tl:TE):TI:=λσ H R=>tl σ H λx H1=>∃a,x=.ref a∧(∃xs,SqT K H1 a xs)∧R (Itt K a) H1
theorem be{l:Expr}{tl:TE}(hl:PE X l tl):PI X tg l (qh X.K tl):=by
 intro pins s σ H R I h;refine thn (hl pins s σ H _ I h) λv s1 hpt=>?_;obtain⟨x,H1,I1,r1,q1⟩:=hpt;obtain⟨a,e,⟨xs,hq⟩,q⟩:=q1;subst e;cases r1;obtain⟨its,rv,p,hz⟩:=I1.list hq;refine wpAny_pyIter_list p.isList ?_;refine⟨s1.heap.objs.size,[s1.heap.objs.size],_,_,H1,rfl,I1.kept (t':=s1.toks) λb o e=>get?_push_of_some _ e,jO a _,⟨_,get?_push_size _ rfl,rfl,rfl⟩,λb hb=>?_,q⟩;have e:b=s1.heap.objs.size:=by simpa using hb
 subst e;exact I1.fpOk (le_refl _) (I1.hok.fresh (le_refl _))
theorem gc{l:Expr}{tl:TE}(hl:PE X l tl):PI X tg l (qX X.K tl):=by
 intro pins s σ H R I h;refine thn (hl pins s σ H _ I h) λv s1 hpt=>?_;obtain⟨x,H1,I1,r1,q1⟩:=hpt;obtain⟨a,e,⟨xs,hq⟩,q⟩:=q1;subst e;cases r1;obtain⟨its,rv,p,hz⟩:=I1.tuple hq;refine wpAny_pyIter_tuple (show s1.heap.IsTuple a its.toArray from p) ?_;refine⟨s1.heap.objs.size,[s1.heap.objs.size],_,_,H1,rfl,I1.kept (t':=s1.toks) λb o e=>get?_push_of_some _ e,iB a _,⟨_,get?_push_size _ rfl,rfl,rfl⟩,λb hb=>?_,q⟩;have e:b=s1.heap.objs.size:=by simpa using hb
 subst e;exact I1.fpOk (le_refl _) (I1.hok.fresh (le_refl _))
theorem kZ{pins:List (Addr×Obj)}{σ:St}{H:Hp}{s:Shared}{R:It→Hp→Prop}{E:Value→Shared→Prop}{lo hi:Int}{t u v:Tok}{tk:Nat}(I:Inv X pins σ H s)(h1:-(2 ^ 62)≤lo)(h2:lo<2 ^ 62)(h3:-(2 ^ 62)≤hi)(h4:hi<2 ^ 62)(q:R (Itr lo (hi-lo).toNat) H):wpAny (model X.prog X.w) X.A (pyIter (.ref s.heap.objs.size)) (PIE X pins σ tg R) E {s with heap:=s.heap.push {cls:=.type "range",data:=.fields #[.int lo t,.int hi u,.int 1 v]},toks:=tk}:=by
 refine wpAny_pyIter_range (IsRange.new ..) (small_one h1 h2 h3 h4) ?_;have I1:Inv X pins σ H {s with heap:=s.heap.push {cls:=.type "range",data:=.fields #[.int lo t,.int hi u,.int 1 v]},toks:=tk}:=I.kept λb o e=>get?_push_of_some _ e
 refine⟨(s.heap.push {cls:=.type "range",data:=.fields #[.int lo t,.int hi u,.int 1 v]}).objs.size,[(s.heap.push {cls:=.type "range",data:=.fields #[.int lo t,.int hi u,.int 1 v]}).objs.size],_,_,H,rfl,
  I1.kept (t':=tk) λb o e=>get?_push_of_some _ e,iC _ lo (hi-lo).toNat,?_,λb hb=>?_,q⟩
 ·have e1:lo+((0:Nat):Int)*1=lo:=by simp
  have e2:(((hi-lo).toNat:Nat):Int)-((0:Nat):Int)=Builtin.Range.rangeSize lo hi 1:=by rw[rangeSize_one];split<;>omega
  show IsRangeIter _ _ (lo+((0:Nat):Int)*1) ((((hi-lo).toNat:Nat):Int)-((0:Nat):Int)) 1;rw[e1,e2];exact get?_push_size _ rfl
 ·have e:b=(s.heap.push {cls:=.type "range",data:=.fields #[.int lo t,.int hi u,.int 1 v]}).objs.size:=by simpa using hb
  subst e;exact I1.fpOk (le_refl _) (I1.hok.fresh (le_refl _))
def qi(ta:TA):TI:=λσ H R=>ta σ H λvs H1=>∃j:Int,vs=[.int j]∧-(2 ^ 62)≤j∧j<2 ^ 62∧R (Itr 0 j.toNat) H1
theorem jP{a:Expr}{ta:TA}{p pos:Pos}(hg:Gl X "range")(hm:X.mg "range"=none)(ha:PA X [a] ta)(hs:starEach [a] X.env=[(false,eval a X.env)]:=by rfl):PI X tg (.Call (.Name "range" p) [a] [] pos) (qi ta):=by
 intro pins s σ H R I h;refine Call_ (dh I hg hm boot_range (PyProof.Rows.callWith_type1 (thn (ha pos pins s σ H _ I h) λus s1 ⟨vs,H1,I1,r1,q1⟩=>?_) hs rfl));obtain⟨j,e,q1,q2,q⟩:=q1;subst e;cases r1 with
 |cons r rr =>
  cases rr;obtain⟨t,rfl⟩:=r;exact call_range_1 (kZ I1 (by omega) (by omega) q1 q2 (by simpa using q))
def qY(wi:TI)(g:TG)(tb:TS):TS:=λD σ H=>wi σ H λJ H1=>∃W:Nat→Nat→St→Hp→Prop,(∃m,W 0 m σ H1)∧∀i m σ H,W i m σ H →
 (J.stop i H∧D.nx σ H)∨(J.go i H∧∃N:St→Hp→Prop,(∀σ' H',N σ' H'→∃m',m'<m∧W (i+1) m' σ' H')∧∀x H',J.yld i H x H'→g x σ H' λσ2 H2=>tb {D with nx:=N,ct:=N,bk:=D.nx} σ2 H2)
def gf(fp:List Addr)(h:Heap):List (Addr×Obj):=fp.filterMap λb=>(h.get? b).map λo=>(b,o)
theorem aw{fp:List Addr}{h:Heap}{b:Addr}{o:Obj}(hb:b∈fp)(e:h.get? b=some o):(b,o)∈gf fp h:=List.mem_filterMap.mpr ⟨b,hb,by rw[e];rfl⟩
theorem jQ{fp:List Addr}{h:Heap}{p:Addr×Obj}(hp:p∈gf fp h):p.1∈fp∧h.get? p.1=some p.2:=by
 obtain⟨b,hb,e⟩:=List.mem_filterMap.mp hp;cases q:h.get? b with
 |none=>rw[q]at e;cases e
 |some o =>
  rw[q]at e;have e':(b,o)=p:=Option.some.inj e;subst e';exact⟨hb,q⟩
theorem Inv.pinned{pins:List (Addr×Obj)}{σ:St}{H:Hp}{s:Shared}{fp:List Addr}(I:Inv X pins σ H s)(hf:∀b∈fp,cm X pins H b)(ho:∀b∈fp,∃o,s.heap.get? b=some o∧∀v,o.data≠.cell v):Inv X (pins++gf fp s.heap) σ H s :=
 I.pins_of λp hp=>(mem_append.mp hp).elim (λz=>I.pin p (mem_append_right _ z)) λz=>by
  obtain⟨hb,e⟩:=jQ z;obtain⟨f0,f1,f2,_⟩:=hf p.1 hb;obtain⟨o,e',d⟩:=ho p.1 hb;rw[e]at e';cases e';exact⟨e,f0,f1,f2,d⟩
theorem Inv.unpinned{pins pl:List (Addr×Obj)}{σ:St}{H:Hp}{s:Shared}(I:Inv X (pins++pl) σ H s):Inv X pins σ H s:=I.pins_of λp hp=>I.pin p (mem_append_right _ (mem_append_left _ hp))
theorem dS{iter:Expr}{body:List Stmt}{wi:TI}{g:TG}{tb:TS}{pos:Pos}(hp:PassesOwn (model X.prog X.w) X.A X.env X.xe)(hc:X.calm=true)(hi:PI X tg iter wi)(hg:PG X tg g)(hb:PSs X body tb)(hs:∀x,foldedSetIterable iter X.env x=pure x:=by intro _;rfl):PS X (.For tg iter body [] pos) (qY wi g tb):=by
 intro pins s σ H D I h;refine wpAny_For (thn (hi pins s σ H _ I h) λv s1 h1=>thn h1 λitv s2 h2=>?_) hs;obtain⟨it,fp,tn,J,H2,e,I2,T,st2,f2,W,⟨m0,w0⟩,turn⟩:=h2;subst e;have stat:∀{H':Hp},(∀b∈fp,H' b=none)→∀b∈fp,cm X pins H' b:=λhn b hb=>⟨hn b hb,(f2 b hb).2⟩;refine codeAny_forLoop_any (λn s'=>∃i σ' H',Inv X pins σ' H' s'∧tn i s'.heap∧(∀b∈fp,H' b=none)∧W i n σ' H') ?_ m0 ⟨0,σ,H2,I2,st2,λb hb=>(f2 b hb).1,w0⟩;rintro n s3 ⟨i,σ3,H3,I3,st3,fr3,w3⟩;rcases turn i n σ3 H3 w3 with⟨stop,qn⟩|⟨go,N,hN,step⟩
 ·refine wpAny_passesOwn hp (thn (T.done X rfl rfl rfl hc i pins s3 σ3 H3 X.xe I3 (stat fr3) st3 stop) λr s4 hpt=>?_);obtain⟨hr,I4⟩:=hpt;subst hr;exact wpAny_execs_nil ⟨σ3,H3,I4,qn⟩
 ·refine wpAny_passesOwn hp (thn (T.item X rfl rfl rfl hc i pins s3 σ3 H3 X.xe I3 (stat fr3) st3 go) λr s4 hpt=>?_);obtain⟨u,hr,h4⟩:=hpt;subst hr;refine wpAny_passesOwn hp (thn h4 λ_ s5 hpt=>?_);obtain⟨x,H5,I5,r5,y5,st5,fr5⟩:=hpt;have I5':=I5.pinned (stat fr5) (T.obj _ _ st5);refine wpAny_passesOwn hp (thn (hg _ s5 σ3 H5 x u _ I5' r5 (step x H5 y5)) λ_ s6 hpt=>?_);obtain⟨σ6,H6,I6,q6⟩:=hpt;refine wpAny_passesOwn hp (thn (hb _ s6 σ6 H6 _ I6 q6) λf s7 q7=>?_);have again:∀{σ7:St}{H7:Hp},Inv X (pins++gf fp s5.heap) σ7 H7 s7→N σ7 H7→∃m,m<n∧∃i σ' H',Inv X pins σ' H' s7∧tn i s7.heap∧(∀b∈fp,H' b=none)∧W i m σ' H':=λ{σ7 H7} I7 n7=>by
   obtain⟨m',hm,w7⟩:=hN σ7 H7 n7;refine⟨m',hm,i+1,σ7,H7,I7.unpinned,T.keep _ _ _ st5 λb hb o e=>(I7.pin (b,o) (mem_append_right _ (mem_append_right _ (aw hb e)))).1,λb hb=>?_,w7⟩;obtain⟨o,e,d⟩:=T.obj _ _ st5 b hb;exact(I7.pin (b,o) (mem_append_right _ (mem_append_right _ (aw hb e)))).2.1
  cases f with
  |next=>obtain⟨σ7,H7,I7,n7⟩:=q7;exact again I7 n7
  |cont=>obtain⟨σ7,H7,I7,n7⟩:=q7;exact again I7 n7
  |brk=>obtain⟨σ7,H7,I7,q7⟩:=q7;exact⟨σ7,H7,I7.unpinned,q7⟩
  |ret v=>obtain⟨x7,σ7,H7,I7,r7,q7⟩:=q7;exact⟨x7,σ7,H7,I7.unpinned,r7,q7⟩
end
theorem dU{K:PySem.W.Frag}{a:Addr}{xs:List V}{g:TG}{tb:TS}{D:Ends}{σ:St}{H:Hp}(Pv:Nat→St→Hp→Prop)(h0:Pv 0 σ H)(hl:∀i σ H,i≤xs.length→Pv i σ H→SqL K H a xs)(hs:∀i x σ H,xs[i]?=some x→Pv i σ H→g x σ H λσ2 H2=>tb {D with nx:=Pv (i+1),ct:=Pv (i+1),bk:=D.nx} σ2 H2)(hd:∀σ H,Pv xs.length σ H→D.nx σ H):
  ∃W:Nat→Nat→St→Hp→Prop,(∃m,W 0 m σ H)∧∀i m σ H,W i m σ H →
   ((Itl K a).stop i H∧D.nx σ H)∨((Itl K a).go i H∧∃N:St→Hp→Prop,(∀σ' H',N σ' H'→∃m',m'<m∧W (i+1) m' σ' H')∧∀x H',(Itl K a).yld i H x H'→g x σ H' λσ2 H2=>tb {D with nx:=N,ct:=N,bk:=D.nx} σ2 H2):=by
 refine⟨λi m σ H=>m=xs.length-i∧i≤xs.length∧Pv i σ H,⟨xs.length,by simp,zero_le _,h0⟩,?_⟩;rintro i m σ H ⟨rfl,hi,p⟩;have q:=hl i σ H hi p
 by_cases hlt:i<xs.length
 ·refine .inr ⟨⟨xs,xs[i],q,by simp[hlt]⟩,Pv (i+1),λσ' H' p'=>⟨xs.length-(i+1),by omega,rfl,hlt,p'⟩,λx H' y=>?_⟩;obtain⟨e,y⟩:=y;subst e;exact hs i x σ _ (y xs q) p
 ·have e:i=xs.length:=by omega
  subst e;exact .inl ⟨⟨xs,q,le_refl _⟩,hd σ H p⟩
theorem mV{K:PySem.W.Frag}{a:Addr}{xs:List V}{g:TG}{tb:TS}{D:Ends}{σ:St}{H:Hp}(Pv:Nat→St→Hp→Prop)(h0:Pv 0 σ H)(hl:∀i σ H,i≤xs.length→Pv i σ H→SqT K H a xs)(hs:∀i x σ H,xs[i]?=some x→Pv i σ H→g x σ H λσ2 H2=>tb {D with nx:=Pv (i+1),ct:=Pv (i+1),bk:=D.nx} σ2 H2)(hd:∀σ H,Pv xs.length σ H→D.nx σ H):
  ∃W:Nat→Nat→St→Hp→Prop,(∃m,W 0 m σ H)∧∀i m σ H,W i m σ H →
   ((Itt K a).stop i H∧D.nx σ H)∨((Itt K a).go i H∧∃N:St→Hp→Prop,(∀σ' H',N σ' H'→∃m',m'<m∧W (i+1) m' σ' H')∧∀x H',(Itt K a).yld i H x H'→g x σ H' λσ2 H2=>tb {D with nx:=N,ct:=N,bk:=D.nx} σ2 H2):=by
 refine⟨λi m σ H=>m=xs.length-i∧i≤xs.length∧Pv i σ H,⟨xs.length,by simp,zero_le _,h0⟩,?_⟩;rintro i m σ H ⟨rfl,hi,p⟩;have q:=hl i σ H hi p
 by_cases hlt:i<xs.length
 ·refine .inr ⟨⟨xs,xs[i],q,by simp[hlt]⟩,Pv (i+1),λσ' H' p'=>⟨xs.length-(i+1),by omega,rfl,hlt,p'⟩,λx H' y=>?_⟩;obtain⟨e,y⟩:=y;subst e;exact hs i x σ _ (y xs q) p
 ·have e:i=xs.length:=by omega
  subst e;exact .inl ⟨⟨xs,q,le_refl _⟩,hd σ H p⟩
theorem jR{lo:Int}{n:Nat}{g:TG}{tb:TS}{D:Ends}{σ:St}{H:Hp}(Pv:Nat→St→Hp→Prop)(h0:Pv 0 σ H)(hs:∀i σ H,i<n→Pv i σ H→g (.int (lo+i)) σ H λσ2 H2=>tb {D with nx:=Pv (i+1),ct:=Pv (i+1),bk:=D.nx} σ2 H2)(hd:∀σ H,Pv n σ H→D.nx σ H):
  ∃W:Nat→Nat→St→Hp→Prop,(∃m,W 0 m σ H)∧∀i m σ H,W i m σ H →
   ((Itr lo n).stop i H∧D.nx σ H)∨((Itr lo n).go i H∧∃N:St→Hp→Prop,(∀σ' H',N σ' H'→∃m',m'<m∧W (i+1) m' σ' H')∧∀x H',(Itr lo n).yld i H x H'→g x σ H' λσ2 H2=>tb {D with nx:=N,ct:=N,bk:=D.nx} σ2 H2):=by
 refine⟨λi m σ H=>m=n-i∧i≤n∧Pv i σ H,⟨n,by simp,zero_le _,h0⟩,?_⟩;rintro i m σ H ⟨rfl,hi,p⟩
 by_cases hlt:i<n
 ·refine .inr ⟨hlt,Pv (i+1),λσ' H' p'=>⟨n-(i+1),by omega,rfl,hlt,p'⟩,λx H' y=>?_⟩;obtain⟨e,y⟩:=y;subst e y;exact hs i σ _ hlt p
 ·have e:i=n:=by omega
  subst e;exact .inl ⟨le_refl _,hd σ H p⟩
theorem cP{c:TT}{tb:TS}{D:Ends}{σ:St}{H:Hp}(Pv:St→Hp→Prop)(μ:St→Hp→Nat)(h0:Pv σ H)(hs:∀σ H,Pv σ H→c σ H λb H1=>if b=true then tb {D with nx:=λσ' H'=>Pv σ' H'∧μ σ' H'<μ σ H,ct:=λσ' H'=>Pv σ' H'∧μ σ' H'<μ σ H,bk:=D.nx} σ H1 else D.nx σ H1)(mono:∀σ H Q Q',(∀b H1,Q b H1→Q' b H1)→c σ H Q→c σ H Q'):kY c tb D σ H:=by
 refine⟨λm σ H=>m=μ σ H∧Pv σ H,⟨_,rfl,h0⟩,?_⟩;rintro m σ H ⟨rfl,p⟩;refine mono σ H _ _ (λb H1 q=>?_) (hs σ H p);cases b with
 |true=>exact⟨_,λσ' H' ⟨p',l⟩=>⟨_,l,rfl,p'⟩,q⟩
 |false=>exact q
abbrev R2:=V→V→Hp→VK→Prop
def OpR(X:Cx)(f:Value→Value→Sem Value)(r:R2):Prop :=
 ∀(pins:List (Addr×Obj))(s:Shared)(σ:St)(H:Hp)(x y:V)(v u:Value)(Q:VK),Inv X pins σ H s→au x v→au y u→r x y H Q →
  wpAny (model X.prog X.w) X.A (f v u) (EP X pins σ Q) X.xe s
def bz(X:Cx)(f:Value)(r:List V→Hp→VK→Prop):Prop :=
 ∀(pins:List (Addr×Obj))(s:Shared)(σ:St)(H:Hp)(xs:List V)(us:List Value)(Q:VK),Inv X pins σ H s→am xs us→r xs H Q →
  wpAny (model X.prog X.w) X.A (call f us) (EP X pins σ Q) X.xe s
def qZ(X:Cx)(r:V→Hp→(Bool→Hp→Prop)→Prop):Prop :=
 ∀(pins:List (Addr×Obj))(s:Shared)(σ:St)(H:Hp)(x:V)(v:Value)(Q:Bool→Hp→Prop),Inv X pins σ H s→au x v→r x H Q →
  wpAny (model X.prog X.w) X.A (truthy v) (TP X pins σ Q) X.xe s
def tOp(r:R2)(ta tb:TE):TE:=λσ H Q=>ta σ H λx H1=>tb σ H1 λy H2=>r x y H2 Q
def rI(C:Int→Int→Prop)(g:Int→Int→V):R2:=λx y H Q=>∃i j,x=.int i∧y=.int j∧C i j∧Q (g i j) H
def rI0(g:Int→Int→V):R2:=λx y H Q=>∃i j,x=.int i∧y=.int j∧Q (g i j) H
section
variable{X:Cx}{a b c:Expr}{ta tb tc:TE}{pos:Pos}
theorem oJ(ha:PE X a ta)(hb:PE X b tb){pins:List (Addr×Obj)}{s:Shared}{σ:St}{H:Hp}{R:V→V→Hp→Prop}(I:Inv X pins σ H s)(h:ta σ H λx H1=>tb σ H1 λy H2=>R x y H2){Q:Value→Shared→Prop}{f:Value→Value→Sem Value}(hf:∀v u s2 x y H2,Inv X pins σ H2 s2→au x v→au y u→R x y H2→wpAny (model X.prog X.w) X.A (f v u) Q X.xe s2):
  wpAny (model X.prog X.w) X.A (eval a X.env) (λv s₁=>wpAny (model X.prog X.w) X.A (eval b X.env) (λu s₂=>wpAny (model X.prog X.w) X.A (f v u) Q X.xe s₂) X.xe s₁) X.xe s:=by
 refine thn (ha pins s σ H _ I h) λv s1 hpt=>?_;obtain⟨x,H1,I1,r1,q1⟩:=hpt;refine thn (hb pins s1 σ H1 _ I1 q1) λu s2 hpt=>?_;obtain⟨y,H2,I2,r2,q2⟩:=hpt;exact hf v u s2 x y H2 I2 r1 r2 q2
theorem aB{op:Operator}{r:R2}(ho:OpR X (binaryOp op) r)(ha:PE X a ta)(hb:PE X b tb):PE X (.BinOp a op b pos) (tOp r ta tb):=by
 intro pins s σ H Q I h;exact wpAny_BinOp (oJ ha hb I h λv u s2 x y H2 I2 rx ry q=>ho pins s2 σ H2 x y v u Q I2 rx ry q)
theorem opI{f:Value→Value→Sem Value}{C:Int→Int→Prop}{g:Int→Int→Int}(rule:∀(i j:Int) (t u:Tok) (s:Shared) (Q:Value→Shared→Prop) (E:Value→Shared→Prop),C i j→Q (.int (g i j) s.toks) {s with toks:=s.toks+1}→wpAny (model X.prog X.w) X.A (f (.int i t) (.int j u)) Q E s):
  OpR X f (rI C λi j=>.int (g i j)):=by
 intro pins s σ H x y v u Q I rx ry h;obtain⟨i,j,rfl,rfl,hc,q⟩:=h;obtain⟨t,rfl⟩:=rx;obtain⟨t',rfl⟩:=ry;exact rule i j t t' s _ _ hc ⟨.int (g i j),H,I.tok _,⟨_,rfl⟩,q⟩
theorem qj{f:Value→Value→Sem Value}{g:Int→Int→Int}(rule:∀(i j:Int) (t u:Tok) (s:Shared) (Q:Value→Shared→Prop) (E:Value→Shared→Prop),Q (.int (g i j) s.toks) {s with toks:=s.toks+1}→wpAny (model X.prog X.w) X.A (f (.int i t) (.int j u)) Q E s):
  OpR X f (rI0 λi j=>.int (g i j)):=by
 intro pins s σ H x y v u Q I rx ry h;obtain⟨i,j,rfl,rfl,q⟩:=h;obtain⟨t,rfl⟩:=rx;obtain⟨t',rfl⟩:=ry;exact rule i j t t' s _ _ ⟨.int (g i j),H,I.tok _,⟨_,rfl⟩,q⟩
theorem qk{f:Value→Value→Sem Value}{g:Int→Int→Bool}(rule:∀(i j:Int) (t u:Tok) (s:Shared) (Q:Value→Shared→Prop) (E:Value→Shared→Prop),Q (.bool (g i j)) s→wpAny (model X.prog X.w) X.A (f (.int i t) (.int j u)) Q E s):
  OpR X f (rI0 λi j=>.bl (g i j)):=by
 intro pins s σ H x y v u Q I rx ry h;obtain⟨i,j,rfl,rfl,q⟩:=h;obtain⟨t,rfl⟩:=rx;obtain⟨t',rfl⟩:=ry;exact rule i j t t' s _ _ ⟨.bl (g i j),H,I,rfl,q⟩
def ra(i j:Int):Prop:=0<j∧j<1073741824
def oK(i j:Int):Prop:=(-(2 ^ 64)<i∧i<2 ^ 64)∨(-(2 ^ 64)<j∧j<2 ^ 64)
theorem oK.ok{i j:Int}(h:oK i j):IntMulOk i j:=by
 rcases h with⟨h1,h2⟩|⟨h1,h2⟩
 ·exact .of_left (intBits_le_64 h1 h2)
 ·exact .of_right (intBits_le_64 h1 h2)
theorem aS:OpR X (binaryOp .Add) (rI0 λi j=>.int (i+j)):=qj λ_ _ _ _ _ _ _ q=>add_int q
theorem la:OpR X (binaryOp .Sub) (rI0 λi j=>.int (i-j)):=qj λ_ _ _ _ _ _ _ q=>sub_int q
theorem cb:OpR X (binaryOp .Mult) (rI oK λi j=>.int (i*j)):=opI λ_ _ _ _ _ _ _ hc q=>mul_int q hc.ok
theorem mX:OpR X (binaryOp .FloorDiv) (rI ra λi j=>.int (i / j)):=opI λi j _ _ _ _ _ hc q=>by
 have h1:(0:Int)<j:=hc.1;have h2:j<1073741824:=hc.2;exact floordiv_int (by omega) (by rw[Int.fdiv_eq_ediv_of_nonneg i (by omega)];exact q) (.inl (PyProof.noPylong_small (by omega)))
theorem gg:OpR X (binaryOp .Mod) (rI (λ_ j=>0<j) λi j=>.int (i % j)):=opI λi j _ _ _ _ _ hc q=>by
 have h1:(0:Int)<j:=hc;exact mod_int' (by omega) (by rw[Int.fmod_eq_emod_of_nonneg i (by omega)];exact q)
end
def ql:V→V→Bool
 |.non,.non=>true | .non,.int _=>true | .int _,.non=>true | .non,.bl _=>true | .bl _,.non=>true | .non,.str _=>true | .str _,.non=>true
 |.int _,.int _=>true | .bl _,.bl _=>true | .str _,.str _=>true | .byt _,.byt _=>true
 |.int _,.str _=>true | .str _,.int _=>true | .bl _,.str _=>true | .str _,.bl _=>true
 |_,_=>false
def rEq:R2:=λx y H Q=>ql x y=true∧Q (.bl (decide (x=y))) H
def rNe:R2:=λx y H Q=>ql x y=true∧Q (.bl (!decide (x=y))) H
theorem jf{i j:Int}:decide (V.int i=V.int j)=(i==j):=by
 rw[Bool.eq_iff_iff];simp
theorem lc{i j:Bool}:decide (V.bl i=V.bl j)=(i==j):=by
 rw[Bool.eq_iff_iff];simp
theorem jg{i j:Str}:decide (V.str i=V.str j)=(i==j):=by
 rw[Bool.eq_iff_iff];simp
theorem jh{i j:Array UInt8}:decide (V.byt i=V.byt j)=(i.toList==j.toList):=by
 rw[Bool.eq_iff_iff];cases i;cases j;simp
section
variable{X:Cx}{a b c:Expr}{ta tb tc:TE}{pos:Pos}
theorem av{pins:List (Addr×Obj)}{σ:St}{H:Hp}{s:Shared}{Q:VK}{k k':Bool}(I:Inv X pins σ H s)(q:Q (.bl k) H)(e:k=k'):EP X pins σ Q (.bool k') s:=by
 subst e;exact⟨.bl k,H,I,rfl,q⟩
theorem lh:OpR X (compareOp .Eq) rEq:=by
 intro pins s σ H x y v u Q I rx ry h;obtain⟨hs,q⟩:=h;cases x with
 |non =>
  cases rx;cases y with
  |non=>cases ry;exact PySem.EqNone.eq_none_none (av I q (by simp))
  |bl j=>cases ry;exact PySem.EqNone.eq_none_bool (av I q (by simp))
  |int j=>obtain⟨t',rfl⟩:=ry;exact PySem.EqNone.eq_none_int (av I q (by simp))
  |str j=>obtain⟨t',rfl⟩:=ry;exact PySem.EqNone.eq_none_str (av I q (by simp))
  |_=>exact absurd (show false=true from hs) Bool.false_ne_true
 |bl i =>
  cases rx;cases y with
  |non=>cases ry;exact PySem.EqNone.eq_bool_none (av I q (by simp))
  |bl j=>cases ry;exact eq_bool (av I q lc)
  |str j=>obtain⟨t',rfl⟩:=ry;exact PySem.EqMixed.eq_bool_str (av I q (by simp))
  |_=>exact absurd (show false=true from hs) Bool.false_ne_true
 |int i =>
  obtain⟨t,rfl⟩:=rx;cases y with
  |non=>cases ry;exact PySem.EqNone.eq_int_none (av I q (by simp))
  |int j=>obtain⟨t',rfl⟩:=ry;exact eq_int (av I q jf)
  |str j=>obtain⟨t',rfl⟩:=ry;exact PySem.EqMixed.eq_int_str (av I q (by simp))
  |_=>exact absurd (show false=true from hs) Bool.false_ne_true
 |str i =>
  obtain⟨t,rfl⟩:=rx;cases y with
  |non=>cases ry;exact PySem.EqNone.eq_str_none (av I q (by simp))
  |bl j=>cases ry;exact PySem.EqMixed.eq_str_bool (av I q (by simp))
  |int j=>obtain⟨t',rfl⟩:=ry;exact PySem.EqMixed.eq_str_int (av I q (by simp))
  |str j=>obtain⟨t',rfl⟩:=ry;exact eq_str (av I q jg)
  |_=>exact absurd (show false=true from hs) Bool.false_ne_true
 |byt i =>
  obtain⟨t,rfl⟩:=rx;cases y with
  |byt j=>obtain⟨t',rfl⟩:=ry;exact PySem.W.eq_bytes (av I q jh)
  |_=>exact absurd (show false=true from hs) Bool.false_ne_true
 |_=>cases y<;>exact absurd (show false=true from hs) Bool.false_ne_true
theorem cQ:OpR X (compareOp .NotEq) rNe:=by
 intro pins s σ H x y v u Q I rx ry h;obtain⟨hs,q⟩:=h;cases x with
 |non =>
  cases rx;cases y with
  |non=>cases ry;exact PySem.EqNone.ne_none_none (av I q (by simp))
  |bl j=>cases ry;exact PySem.EqNone.ne_none_bool (av I q (by simp))
  |int j=>obtain⟨t',rfl⟩:=ry;exact PySem.EqNone.ne_none_int (av I q (by simp))
  |str j=>obtain⟨t',rfl⟩:=ry;exact PySem.EqNone.ne_none_str (av I q (by simp))
  |_=>exact absurd (show false=true from hs) Bool.false_ne_true
 |bl i =>
  cases rx;cases y with
  |non=>cases ry;exact PySem.EqNone.ne_bool_none (av I q (by simp))
  |bl j=>cases ry;exact ne_bool (av I q (congrArg not lc))
  |str j=>obtain⟨t',rfl⟩:=ry;exact PySem.EqMixed.ne_bool_str (av I q (by simp))
  |_=>exact absurd (show false=true from hs) Bool.false_ne_true
 |int i =>
  obtain⟨t,rfl⟩:=rx;cases y with
  |non=>cases ry;exact PySem.EqNone.ne_int_none (av I q (by simp))
  |int j=>obtain⟨t',rfl⟩:=ry;exact ne_int (av I q (congrArg not jf))
  |str j=>obtain⟨t',rfl⟩:=ry;exact PySem.EqMixed.ne_int_str (av I q (by simp))
  |_=>exact absurd (show false=true from hs) Bool.false_ne_true
 |str i =>
  obtain⟨t,rfl⟩:=rx;cases y with
  |non=>cases ry;exact PySem.EqNone.ne_str_none (av I q (by simp))
  |bl j=>cases ry;exact PySem.EqMixed.ne_str_bool (av I q (by simp))
  |int j=>obtain⟨t',rfl⟩:=ry;exact PySem.EqMixed.ne_str_int (av I q (by simp))
  |str j=>obtain⟨t',rfl⟩:=ry;exact ne_str (av I q (congrArg not jg))
  |_=>exact absurd (show false=true from hs) Bool.false_ne_true
 |byt i =>
  obtain⟨t,rfl⟩:=rx;cases y with
  |byt j=>obtain⟨t',rfl⟩:=ry;exact PySem.W.ne_bytes (av I q (congrArg not jh))
  |_=>exact absurd (show false=true from hs) Bool.false_ne_true
 |_=>cases y<;>exact absurd (show false=true from hs) Bool.false_ne_true
theorem qm:OpR X (compareOp .Lt) (rI0 λi j=>.bl (decide (i<j))):=qk λ_ _ _ _ _ _ _ q=>lt_int q
theorem nY:OpR X (compareOp .Gt) (rI0 λi j=>.bl (decide (j<i))):=qk λ_ _ _ _ _ _ _ q=>gt_int q
theorem gh:OpR X (compareOp .Is) (λx y H Q=>y=.non∧Q (.bl (decide (x=.non))) H):=by
 intro pins s σ H x y v u Q I rx ry h;obtain⟨rfl,q⟩:=h;cases ry;refine is_none_gen (av I q ?_);cases x<;>first
  |(cases rx;rfl)
  |(obtain⟨t,rfl⟩:=rx;rfl)
theorem dJ:OpR X (compareOp .IsNot) (λx y H Q=>y=.non∧Q (.bl (!decide (x=.non))) H):=by
 intro pins s σ H x y v u Q I rx ry h;obtain⟨rfl,q⟩:=h;cases ry;refine isnot_none_gen (av I q ?_);cases x<;>first
  |(cases rx;rfl)
  |(obtain⟨t,rfl⟩:=rx;rfl)
theorem aF(b:Expr){op:CmpOp}(h:op≠.In:=by decide)(h2:op≠.NotIn:=by decide):behindInMarks op b=false:=by
 have e1:(op==CmpOp.In)=false:=by cases op<;>first|rfl|exact absurd rfl h
 have e2:(op==CmpOp.NotIn)=false:=by cases op<;>first|rfl|exact absurd rfl h2
 cases b<;>simp[behindInMarks,e1,e2]
theorem gk{op:CmpOp}{r:R2}(ho:OpR X (compareOp op) r)(ha:PE X a ta)(hb:PE X b tb)(hm:behindInMarks op b=false):PE X (.Compare a [op] [b] pos) (tOp r ta tb):=by
 intro pins s σ H Q I h;exact wpAny_Compare1 (oJ ha hb I h λv u s2 x y H2 I2 rx ry q=>ho pins s2 σ H2 x y v u Q I2 rx ry q) hm
def qo(t:TE):TT:=λσ H Q=>t σ H λx H'=>∃k,x=.bl k∧Q k H'
theorem az{op:CmpOp}{r:R2}(ho:OpR X (compareOp op) r)(ha:PE X a ta)(hb:PE X b tb)(hm:behindInMarks op b=false):PT X (.Compare a [op] [b] pos) (qo (tOp r ta tb)):=by
 intro pins s σ H Q I h;refine wpAny_isTrue_Compare1 (thn (ha pins s σ H _ I h) λv s1 ⟨x,H1,I1,r1,q1⟩=>thn (hb pins s1 σ H1 _ I1 q1) λu s2 ⟨y,H2,I2,r2,q2⟩ =>
  thn (ho pins s2 σ H2 x y v u _ I2 r1 r2 q2) λc s3 ⟨z,H3,I3,r3,k,e,q3⟩=>?_) hm
 subst e;cases r3;exact wpAny_truthy_bool ⟨H3,I3,q3⟩
def qp(K:PySem.W.Frag)(x:V)(H:Hp)(k:Bool):Prop :=
 match x with
 |.non=>k=false
 |.bl b=>k=b
 |.int i=>k=(i != 0)
 |.str y=>y.length≤sizeLine∧k=((y.length:Int) != 0)
 |.byt y=>y.size≤sizeLine∧k=((y.size:Int) != 0)
 |.ref p=>(∃xs,SqL K H p xs∧k = !xs.isEmpty)∨(∃xs,SqT K H p xs∧k = !xs.isEmpty)∨∃kvs,H p=some (.dK kvs)∧k = !kvs.isEmpty
 |_=>False
theorem iD{κ:Type}{kvs:List (κ×V)}{vs:List (κ×Value)}(r:KV kvs vs):(!vs.isEmpty) = !kvs.isEmpty:=by
 cases r<;>rfl
theorem dW{xs:List V}{its:List Value}(r:am xs its):(!its.toArray.isEmpty) = !xs.isEmpty:=by
 cases r<;>simp
theorem gm:(sizeLine:Nat)<2 ^ 63:=by rw[sizeLine_eq];decide
theorem oM:qZ X (λx H Q=>∃k,qp X.K x H k∧Q k H):=by
 intro pins s σ H x v Q I rx h;obtain⟨k,e,q⟩:=h;have hl:=gm;have hs:sizeLine=16777216:=sizeLine_eq;cases x with
 |non =>
  cases rx;have e':k=false:=e;subst e';exact truthy_none ⟨H,I,q⟩
 |bl b =>
  cases rx;have e':k=b:=e;subst e';exact wpAny_truthy_bool ⟨H,I,q⟩
 |int i =>
  obtain⟨t,rfl⟩:=rx;have e':k=(i != 0):=e;subst e';exact PySem.P.truthy_int ⟨H,I,q⟩
 |str y =>
  obtain⟨t,rfl⟩:=rx;obtain⟨hy,e'⟩:y.length≤sizeLine∧k=((y.length:Int) != 0):=e;subst e';exact PySem.P.truthy_str (by omega) ⟨H,I.tok _,q⟩
 |byt y =>
  obtain⟨t,rfl⟩:=rx;obtain⟨hy,e'⟩:y.size≤sizeLine∧k=((y.size:Int) != 0):=e;subst e';exact PySem.W.truthy_bytes (by omega) ⟨H,I.tok _,q⟩
 |ref p =>
  cases rx;have e':(∃xs,SqL X.K H p xs∧k = !xs.isEmpty)∨(∃xs,SqT X.K H p xs∧k = !xs.isEmpty)∨∃kvs,H p=some (.dK kvs)∧k = !kvs.isEmpty:=e;rcases e' with⟨xs,hx,e'⟩|⟨xs,hx,e'⟩|⟨kvs,hx,e'⟩
  ·subst e';obtain⟨its,r,pl,hz⟩:=I.list hx;have hlen:=r.length;exact wpAny_truthy_list pl.isList (by simp only[size_toArray];omega) ⟨H,I.tok _,by rw[dW r];exact q⟩
  ·subst e';obtain⟨its,r,pl,hz⟩:=I.tuple hx;have hlen:=r.length;exact truthy_tuple pl (by simp only[size_toArray];omega) ⟨H,I.tok _,by rw[dW r];exact q⟩
  ·subst e';obtain⟨hz,hS,vs,r,m⟩:kvs.length≤sizeLine∧(p==sysModules)=false∧∃vs,KV kvs vs∧s.heap.DictOf (ar X.prog X.w) p vs:=I.hok p _ hx;have hlen:kvs.length=vs.length:=Paired.length r;exact wpAny_truthy_dict hS m (by omega) ⟨H,I.tok _,by rw[iD r];exact q⟩
 |_=>exact(show False from e).elim
theorem ll(ha:PE X a ta)(he:∀whole,isTrue a X.env whole=(do let v ← whole;standAt a.pos;holding [v] (truthy v))):
  PT X a (λσ H Q=>ta σ H λx H'=>∃k,qp X.K x H' k∧Q k H'):=by
 intro pins s σ H Q I h;exact isTrue_plain (thn (ha pins s σ H _ I h) λv s1 ⟨x,H1,I1,r1,q1⟩=>oM pins s1 σ H1 x v Q I1 r1 q1) (he _)
theorem cn{x:V}{us:List Value}(r:am [x] us):∃u,us=[u]∧au x u:=by
 cases r with
 |cons r1 r2=>cases r2;exact⟨_,rfl,r1⟩
theorem qq{x y:V}{us:List Value}(r:am [x,y] us):∃u w',us=[u,w']∧au x u∧au y w':=by
 cases r with
 |cons r1 r2 =>
  cases r2 with
  |cons r3 r4=>cases r4;exact⟨_,_,rfl,r1,r3⟩
end
section
variable{prog:Program}{w:World}{A:Around}{E:Value→Shared→Prop}{s:Shared}{K:PySem.W.Frag}{x dx C f:Addr}{mA:Str→Option Value}{name:Str}{v:Value}
end
theorem cM.some_of{v:V}{o:Option Value}(r:cM (some v) o):∃u,o=some u∧au v u:=by
 cases o with
 |none=>exact(show False from r).elim
 |some u=>exact⟨u,rfl,r⟩
theorem cM.none_of{o:Option Value}(r:cM none o):o=none:=by
 cases o with
 |none=>rfl
 |some u=>exact(show False from r).elim
section
variable{P:Program}{w:World}{H H':Hp}{h h':Heap}{a C dx:Addr}{fs fs':List (Str×V)}
end
section
variable{X:Cx}{pins:List (Addr×Obj)}{σ:St}{H:Hp}{s:Shared}{a C dx:Addr}{fs:List (Str×V)}{f:Str}{v:V}{A:Around}{E:Value→Shared→Prop}
end
section
variable{X:Cx}{o e value:Expr}{f:Str}{pos pos' tpos:Pos}{ta tv:TE}
end
section
variable{X:Cx}{pins:List (Addr×Obj)}{σ:St}{H:Hp}{s:Shared}{A:Around}{E:Value→Shared→Prop}{Q:Value→Shared→Prop}{c:Value}{b:Bool}
end
structure Room(k:Nat)(A:Around):Prop where
 hd:A.handled=none
 dp:A.depth+3*k+5<recursionLimit
 un:A.units+16*k+200<cLine
theorem Room.mono{j k:Nat}{A:Around}(r:Room k A)(h:j≤k):Room j A:=⟨r.hd,by have:=r.dp;omega,by have:=r.un;omega⟩
theorem Room.deeper{k:Nat}{A:Around}(r:Room (k+1) A)(env:Env):Room k (A.deeper env) :=
 ⟨r.hd,by have:=r.dp;show A.depth+1+3*k+5<_;omega,by have:=r.un;show A.units+3+16*k+200<_;omega⟩
theorem Room.in1{k:Nat}{A:Around}(r:Room (k+1) A):Room k A.in1 :=
 ⟨r.hd,by have:=r.dp;show A.depth+3*k+5<_;omega,by have:=r.un;show A.units+1+16*k+200<_;omega⟩
theorem Room.depth{k:Nat}{A:Around}(r:Room k A):A.depth<recursionLimit:=by have:=r.dp;omega
theorem Room.units{k:Nat}{A:Around}(r:Room k A):A.units+64<cLine:=by have:=r.un;omega
theorem Room.units0{k:Nat}{A:Around}(r:Room k A):A.units<cLine:=by have:=r.un;omega
def iE:TA:=λ_ H Q=>Q [] H
def dy(ta:TE)(tr:TA):TA:=λσ H Q=>ta σ H λx H1=>tr σ H1 λxs H2=>Q (x::xs) H2
section
variable{X:Cx}{e:Expr}{es:List Expr}{te:TE}{t:TA}{pos:Pos}
theorem ae:PA X [] iE:=λ_ _ _ _ H Q I h=>spliced_nil ⟨[],H,I,.nil,h⟩
theorem aa(ha:PE X e te)(hr:PA X es t)(hs:starEach (e::es) X.env=(false,eval e X.env)::starEach es X.env:=by rfl):PA X (e::es) (dy te t):=by
 intro pos pins s σ H Q I h;rw[hs];show wpAny _ _ (spliced ((false,eval e X.env)::backTo pos (starEach es X.env))) _ _ s;refine spliced_cons (thn (ha pins s σ H _ I h) λu s1 hpt=>?_);obtain⟨x,H1,I1,r1,q1⟩:=hpt;exact thn (hr pos pins s1 σ H1 _ I1 q1) λus s2 ⟨xs,H2,I2,r2,q2⟩=>⟨x::xs,H2,I2,.cons r1 r2,q2⟩
def rb(t:TA):TE:=λσ H Q=>t σ H λxs H1=>xs.length≤sizeLine∧∀p,H1 p=none→Q (.ref p) (upd H1 p (.tup xs))
def rc(t:TA):TE:=λσ H Q=>t σ H λxs H1=>xs.length≤sizeLine∧∀p,H1 p=none→Q (.ref p) (upd H1 p (.lst xs))
theorem aW{x1}(h:PA X es t):PE X (.Tuple es x1 pos) (rb t):=by
 intro pins s σ H Q I hq;refine wpAny_Tuple_spliced (thn (h pos pins s σ H _ I hq) λus s1 ⟨xs,H1,I1,r,z,q⟩=>⟨by rw[←r.length];exact z,?_⟩);have hf:H1 s1.heap.objs.size=none:=I1.hok.fresh (le_refl _);refine⟨.ref s1.heap.objs.size,upd H1 s1.heap.objs.size (.tup xs),I1.laid (t':=s1.toks) (λb u e=>get?_push_of_some _ e) (le_refl _) ?_,rfl,q _ hf⟩;exact⟨z,us,r,⟨_,get?_push_size _ rfl,rfl,_,rfl⟩⟩
theorem bc(h:PA X es t):PE X (.List es pos) (rc t):=by
 intro pins s σ H Q I hq;refine wpAny_List_spliced (thn (h pos pins s σ H _ I hq) λus s1 ⟨xs,H1,I1,r,z,q⟩=>⟨by rw[←r.length];exact z,?_⟩);have hf:H1 s1.heap.objs.size=none:=I1.hok.fresh (le_refl _);refine⟨.ref s1.heap.objs.size,upd H1 s1.heap.objs.size (.lst xs),I1.laid (t':=s1.toks) (λb u e=>get?_push_of_some _ e) (le_refl _) ?_,rfl,q _ hf⟩;exact⟨z,us,0,r,get?_push_size _ rfl⟩
end
abbrev Sp:=List V→Hp→VK→XK→Prop
abbrev CXT:=List Env→Hp→Shared→XK→Value→Shared→Prop
structure Env0(P:Program)(w:World)(K:PySem.W.Frag)(mg:Str→Option Value)(base:Heap)(A:Around)(outer:List Env)(s:Shared)(H:Hp):Prop where
 frames:A.frames=some outer
 mod:Mod K mg base
 bs:∀b o,base.get? b=some o→s.heap.get? b=some o∧H b=none
 bsz:base.objs.size≤s.heap.objs.size
 funs:s.heap.FunFrames base outer
 frf:∀b∈frs outer,H b=none
 hok:HOk P w H s.heap
 bare:AllBare s.gens
def CE(outer:List Env)(P:Program)(w:World)(H:Hp)(s:Shared)(Q:VK)(u:Value)(s':Shared):Prop :=
 ∃v H',s'.os=s.os∧AllBare s'.gens∧Un (frs outer) [] H H' s.heap s'.heap∧HOk P w H' s'.heap∧au v u∧Q v H'
def CR(CX:CXT)(outer:List Env)(P:Program)(w:World)(H:Hp)(s:Shared)(Q:VK)(E:XK)(r:Result)(s':Shared):Prop :=
 match r with
 |.ok (.ret u)=>CE outer P w H s Q u s'
 |.ok _=>False
 |.error e=>CX outer H s E e s'
structure FnOk(P:Program)(w:World)(K:PySem.W.Frag)(mg:Str→Option Value)(base:Heap)(CX:CXT)(k:Nat)(f:Addr)(fd:FuncData)(ps:List Str)(sp:Sp):Prop where
 len:∀vs H Q E,sp vs H Q E→vs.length=ps.length
 run:∀(A:Around)(outer:List Env)(s:Shared)(H:Hp)(args:Args)(us:List Value)(vs:List V)(Q:VK)(E:XK),Room k A→Env0 P w K mg base A outer s H→BindsTo s fd args (ps.zip us)→am vs us→sp vs H Q E →
  codeAny (model P w) A (.call (.ref f) args) (CR CX outer P w H s Q E) s
theorem Env0.in1{P:Program}{w:World}{K:PySem.W.Frag}{mg:Str→Option Value}{base:Heap}{A:Around}{outer:List Env}{s:Shared}{H:Hp}(e:Env0 P w K mg base A outer s H):
  Env0 P w K mg base A.in1 outer s H:=⟨e.frames,e.mod,e.bs,e.bsz,e.funs,e.frf,e.hok,e.bare⟩
section
variable{X:Cx}{pins:List (Addr×Obj)}{σ:St}{H:Hp}{s s':Shared}
theorem Inv.env0(I:Inv X pins σ H s):Env0 X.prog X.w X.K X.mg X.base X.A X.stack s H :=
 ⟨I.ok.frames,I.ok.mod,I.bs,le_trans I.ok.bsz I.sz,I.stack,I.stkFree,I.hok,I.bare⟩
theorem Inv.after{Q:VK}{u:Value}(I:Inv X pins σ H s)(h:CE X.stack X.prog X.w H s Q u s'):EP X pins σ Q u s':=by
 obtain⟨v,H',os,bare,un,hok,r,q⟩:=h;obtain⟨hh,g,d,t,os'⟩:=s';obtain rfl:os'=s.os:=os;exact⟨v,H',I.call (h':=hh) (g':=g) (d':=d) (t':=t) (ch:=[]) un hok bare (λb z=>absurd z (by simp)),r,q⟩
end
def nZ(sp:Sp)(dvs:List V)(E:XK)(t:TA):TE:=λσ H Q=>t σ H λvs H1=>sp (vs++dvs) H1 Q E
def bA(K:PySem.W.Frag)(fd:FuncData)(ps:List Str)(ds:List Value):Prop :=
 ∀(s:Shared)(us:List Value),K.In s.heap→(us++ds).length=ps.length→BindsTo s fd ⟨us,[]⟩ (ps.zip (us++ds))
theorem bA.all{K:PySem.W.Frag}{fd:FuncData}{ps:List Str}(h:∀us:List Value,us.length=ps.length→bindArgs fd ⟨us,[]⟩=pure (ps.zip us)):bA K fd ps []:=λs us _ hl=>by
 rw[append_nil]at hl⊢;exact .of_eq (h us hl)
def dX(CX:CXT)(X:Cx)(E:XK):Prop:=∀(pins:List (Addr×Obj))(σ:St)(H:Hp)(s:Shared)(e:Value)(s':Shared),Inv X pins σ H s→CX X.stack H s E e s'→X.xe e s'
section
variable{X:Cx}{CX:CXT}{k:Nat}{f C:Addr}{fd:FuncData}{ps:List Str}{sp:Sp}{dvs:List V}{ds:List Value}{E:XK}{x m:Str}{p pos apos:Pos}{e o:Expr}{es:List Expr}{ta:TE}{t:TA}
theorem oN{pins:List (Addr×Obj)}{σ:St}{H:Hp}{s:Shared}{Q:VK}{us:List Value}{vs:List V}(F:FnOk X.prog X.w X.K X.mg X.base CX k f fd ps sp)(hr:Room k X.A)(hb:bA X.K fd ps ds)(hd:am dvs ds)(hx:dX CX X E)(I:Inv X pins σ H s)(r:am vs us)(h:sp (vs++dvs) H Q E):wpAny (model X.prog X.w) X.A (call (.ref f) us) (EP X pins σ Q) X.xe s:=by
 have r2:am (vs++dvs) (us++ds):=r.append hd;have hl:(us++ds).length=ps.length:=by rw[←r2.length];exact F.len _ _ _ _ h
 refine wpAny_call (codeAny_mono (F.run X.A X.stack s H ⟨us,[]⟩ (us++ds) (vs++dvs) Q E hr I.env0 (hb s us I.kIn hl) r2 h) λr s' hq=>?_);cases r with
 |error e=>exact hx pins σ H s e s' I hq
 |ok fl =>
  cases fl with
  |ret u=>exact I.after hq
  |next=>exact False.elim hq
  |brk=>exact False.elim hq
  |cont=>exact False.elim hq
theorem al(F:FnOk X.prog X.w X.K X.mg X.base CX k f fd ps sp)(hr:Room k X.A)(hg:Gl X x)(hm:X.mg x=some (.ref f))(hk:keepIn X.K (.ref f)=true)(hb:bA X.K fd ps ds)(hd:am dvs ds)(hx:dX CX X E)(ha:PA X (e::es) t)(hdb:(x==("__debug__":Str))=false:=by decide)(he:starEach (e::es) X.env=(false,eval e X.env)::starEach es X.env:=by rfl)(hpl:(backTo pos (starEach es X.env)).any (·.1)=false:=by rfl):
  PE X (.Call (.Name x p) (e::es) [] pos) (nZ sp dvs E t):=by
 intro pins s σ H Q I h;refine wpAny_Call_Name_kw (ga I hg hm ?_ hdb);refine PySem.W.callWith_K (h₀:=X.base) I.ok.mod.kin hk (thn (ha pos pins s σ H _ I h) λus s1 ⟨vs,H1,I1,r,q⟩=>⟨I1.kIn,?_⟩) he hpl;exact oN F hr hb hd hx I1 r q
end
section
variable{X:Cx}{CX:CXT}{k:Nat}{f C:Addr}{fd:FuncData}{ps ks:List Str}{sp:Sp}{E:XK}{x m:Str}{p pos apos kpos:Pos}{e o:Expr}{es:List Expr}{kws:List Keyword}{te ta:TE}{t tk:TA}{nm:Option Str}
variable{g:List Value→List Value→List Value}{gV:List V→List V→List V}
end
structure FnScope(N P:List Str)(sc:Scope):Prop where
 kind:sc.kind=.function
 co:sc.isCoroutine=false
 gen:sc.isGenerator=false
 nd:N.Nodup
 pre:N.take P.length=P
 par:∀x∈P,sc.names.lookup x=some .local∨sc.names.lookup x=some .cell
 nofree:∀y∈sc.names,y.2≠.free
theorem fsc{N P:List Str}{c:Scope}(a:c.kind=.function:=by rfl)(b:c.isCoroutine=false:=by rfl)(d:c.isGenerator=false:=by rfl)(e:N.Nodup:=by decide +kernel)(f:N.take P.length=P:=by rfl)(g:∀x∈P,c.names.lookup x=some .local∨c.names.lookup x=some .cell:=by decide +kernel)(h:∀y∈c.names,y.2≠.free:=by decide +kernel):FnScope N P c:=⟨a,b,d,e,f,g,h⟩
theorem fm{kindOf:Str→Option NameKind}{x:Str}:∀{binds:List (Str×Value)}{m:Str→Option Value},(∀v,(x,v)∉binds)→bindL kindOf binds m x=m x
 |[],_,_=>rfl
 |(n,v)::r,m,h=>by
  unfold bindL;rw[fm λw hw=>h w (mem_cons_of_mem _ hw)]
  split
  ·have:x≠n:=by rintro rfl;exact h v mem_cons_self
   simp[this]
  ·rfl
theorem fo{kindOf:Str→Option NameKind}{x:Str}:∀{binds:List (Str×Value)}{m:Str→Option Value},(∀v,(x,v)∉binds)→bindC kindOf binds m x=m x
 |[],_,_=>rfl
 |(n,v)::r,m,h=>by
  unfold bindC;rw[fo λw hw=>h w (mem_cons_of_mem _ hw)]
  split
  ·rfl
  ·have:x≠n:=by rintro rfl;exact h v mem_cons_self
   simp[this]
theorem fq{kindOf:Str→Option NameKind}{x:Str}{v:Value}:∀{P:List Str}{vs:List Value}{i:Nat}{m:Str→Option Value},P.Nodup→P[i]?=some x→vs[i]?=some v→kindOf x=some .local →
  bindL kindOf (P.zip vs) m x=some v
 |[],_,_,_,_,h,_,_=>by simp at h
 |_::_,[],_,_,_,_,h,_=>by simp at h
 |p::P,w::vs,0,m,nd,h1,h2,hk=>by
  simp at h1 h2;subst h1;subst h2;show bindL kindOf ((p,w)::P.zip vs) m p=_;unfold bindL;rw[fm λv hv=>(nodup_cons.mp nd).1 (of_mem_zip hv).1,if_pos hk];simp
 |p::P,w::vs,i+1,m,nd,h1,h2,hk=>by
  show bindL kindOf ((p,w)::P.zip vs) m x=_;unfold bindL;exact fq (i:=i) (nodup_cons.mp nd).2 (by simpa using h1) (by simpa using h2) hk
theorem ft{kindOf:Str→Option NameKind}{x:Str}{v:Value}:∀{P:List Str}{vs:List Value}{i:Nat}{m:Str→Option Value},P.Nodup→P[i]?=some x→vs[i]?=some v→kindOf x≠some .local →
  bindC kindOf (P.zip vs) m x=some v
 |[],_,_,_,_,h,_,_=>by simp at h
 |_::_,[],_,_,_,_,h,_=>by simp at h
 |p::P,w::vs,0,m,nd,h1,h2,hk=>by
  simp at h1 h2;subst h1;subst h2;show bindC kindOf ((p,w)::P.zip vs) m p=_;unfold bindC;rw[fo λv hv=>(nodup_cons.mp nd).1 (of_mem_zip hv).1,if_neg hk];simp
 |p::P,w::vs,i+1,m,nd,h1,h2,hk=>by
  show bindC kindOf ((p,w)::P.zip vs) m x=_;unfold bindC;exact ft (i:=i) (nodup_cons.mp nd).2 (by simpa using h1) (by simpa using h2) hk
def start(N:List Str)(vs:List V):St:=vs.map some++List.replicate (N.length-vs.length) none
def dY(CX:CXT)(P:Program)(w:World)(K:PySem.W.Frag)(mg:Str→Option Value)(base:Heap)(N:List Str)(qual:Str)(scope:Scope)(f:Addr)(cd:Value)(A:Around)(outer:List Env)(s:Shared)(H:Hp)(E:XK):Cx where
 prog:=P
 w:=w
 K:=K
 mg:=mg
 base:=base
 A:=A.deeper (envOfC qual scope s.heap.objs.size f cd)
 N:=N
 s₀:=s
 H₀:=H
 env:=envOfC qual scope s.heap.objs.size f cd
 outer:=outer
 stack:=envOfC qual scope s.heap.objs.size f cd::outer
 ex:=[]
 calm:=true
 fn:=λ_=>true
 pn:=[]
 xe:=λe s'=>wpAny (model P w) (A.deeper (envOfC qual scope s.heap.objs.size f cd)) (leaving (envOfC qual scope s.heap.objs.size f cd) e) (λ_ s''=>CX outer H s E e s'') (λe' s''=>CX outer H s E e' s'') s'
theorem gR{sc:Scope}{n:Nat}{x:Str}(h:sc.names.lookup x=some .cell):∃c,(cellsFrom n sc.names []).lookup x=some c:=by
 have q:=PySem.W.cellsFrom_some sc.names n [] (.inl h);exact Option.isSome_iff_exists.mp q
theorem jS{CX:CXT}{P:Program}{w:World}{K:PySem.W.Frag}{mg:Str→Option Value}{base:Heap}{N ps:List Str}{qual:Str}{scope:Scope}{f:Addr}{cd:Value}{A:Around}{outer:List Env}{s s1:Shared}{H:Hp}{E:XK}{us:List Value}{vs:List V}(S:FnScope N ps scope)(hd:A.handled=none)(e0:Env0 P w K mg base A outer s H)(hl:vs.length=ps.length)(r:am vs us)(x:InCallC s s.heap.objs.size (bindL (envOfC qual scope s.heap.objs.size f cd).kindOf (ps.zip us) λ_=>none) (cellsFrom (s.heap.objs.size+1) scope.names []) (bindC (envOfC qual scope s.heap.objs.size f cd).kindOf (ps.zip us) λ_=>none) s1):
  Inv (dY CX P w K mg base N qual scope f cd A outer s H E) [] (start N vs) H s1:=by
 have hpl:ps.length≤N.length:=by have:=congrArg length S.pre;rw[length_take]at this;omega
 obtain⟨h1,tk,rfl,hk⟩:=x.done;have noA:∀b:Addr,b∉(dY CX P w K mg base N qual scope f cd A outer s H E).ex:=λb z=>absurd (show b∈([]:List Addr)from z) (by simp);refine⟨⟨e0.mod,S.kind,rfl,rfl,le_refl _,λy z c h1 h2=>?_,λy hy=>?_,λy c _ h=>?_,λ_=>hd,Around.frames_deeper e0.frames,.inr ⟨rfl,rfl⟩,λb z=>absurd z (noA b),e0.bs,e0.bsz,λb _ _=>noA b,λb z=>absurd z (noA b),e0.funs,e0.frf⟩,
  rfl,e0.bare,Un.kept hk,⟨_,x.toInCall.ns,λi y v h1 h2 h3=>?_⟩,λy c h=>⟨_,x.cell y c h⟩,e0.hok.fresh (le_refl _),λy c h=>?_,λp hp=>absurd (show p∈([]:List (Addr×Obj))from hp) (by simp),e0.hok.kept hk,?_⟩
 ·exact name_of_addr x.apart (PySem.mem_of_lookup h1) (PySem.mem_of_lookup h2)
 ·have hy:scope.names.lookup y=some .cell∨scope.names.lookup y=some .free:=hy;rcases hy with hy|hy
  ·exact gR hy
  ·exact absurd rfl (S.nofree _ (PySem.mem_of_lookup hy))
 ·exact le_of_lt (x.above y c (PySem.mem_of_lookup h))
 ·have hi:i<vs.length:=by
   unfold start at h2
   by_cases hi:i<vs.length
   ·exact hi
   ·rw[getElem?_append_right (by simpa using hi)]at h2;rw[List.getElem?_replicate]at h2
    split at h2<;>cases h2
  have ha:vs[i]?=some v:=by
   unfold start at h2;rw[getElem?_append_left (by simpa using hi),getElem?_map]at h2;cases e:vs[i]? with
   |none=>rw[e]at h2;cases h2
   |some a=>rw[e]at h2;cases h2;rfl
  obtain⟨u,hu,rv⟩:=r.get ha;have hp:ps[i]?=some y:=by
   rw[←S.pre,List.getElem?_take_of_lt (by omega)];exact h1
  have ndP:ps.Nodup:=by rw[←S.pre];exact S.nd.sublist (List.take_sublist _ _)
  refine⟨u,rv,?_⟩;rcases S.par y (mem_of_getElem? hp)with k|k
  ·exact .inl ⟨k,fq ndP hp hu k⟩
  ·obtain⟨c,e⟩:=gR (n:=s.heap.objs.size+1) k;refine .inr ⟨.inl k,c,e,?_⟩;have q:=x.cell y c e;rw[ft ndP hp hu (by show scope.names.lookup y≠_;rw[k];decide)]at q;exact q
 ·exact e0.hok.fresh (le_of_lt (x.above y c (PySem.mem_of_lookup h)))
 ·unfold start;show _=N.length;rw[length_append,length_map,List.length_replicate];omega
theorem lm{CX:CXT}{P:Program}{w:World}{K:PySem.W.Frag}{mg:Str→Option Value}{base:Heap}{k:Nat}{f:Addr}{name qual:Str}{params:Arguments}{body:List Stmt}{scope:Scope}{dV kV doc pm cdv ct oc:Value}{an od:Option Addr}{osl:Array (Option Value)}{N ps:List Str}{sp:Sp}(lk:K.lookup f=some ⟨oc,od,.func (fnOf name qual params body scope dV kV doc pm an cdv ct),osl⟩)(hcd:codeIn K cdv qual=true)(S:FnScope N ps scope)(len:∀vs H Q E,sp vs H Q E→vs.length=ps.length)(hbody:∀(A:Around) (outer:List Env) (s:Shared) (H:Hp) (vs:List V) (Q:VK) (E:XK),Room k (A.deeper (envOfC qual scope s.heap.objs.size f cdv))→sp vs H Q E →
   ∃t,PSs (dY CX P w K mg base N qual scope f cdv A outer s H E) body t∧t {nx:=λ_ H'=>Q .non H',rt:=Q} (start N vs) H):
  FnOk P w K mg base CX (k+1) f (fnOf name qual params body scope dV kV doc pm an cdv ct) ps sp:=by
 refine⟨len,λA outer s H args us vs Q E hr e0 hb r hsp=>?_⟩;have hl:=len _ _ _ _ hsp;have KX:K.In s.heap:=e0.mod.kin.keeps λb o e=>(e0.bs b o e).1;have lim:s.heap.NoLimit:=e0.mod.nolimit.keeps λb o e=>(e0.bs b o e).1;have hkind:∀y∈ps.zip us,scope.names.lookup y.1=some .local∨(scope.names.lookup y.1=some .cell∧((cellsFrom (s.heap.objs.size+1) scope.names []).lookup y.1).isSome=true):=λ⟨n,v⟩ hy=>by
  rcases S.par n (of_mem_zip hy).1 with q|q
  ·exact .inl q
  ·exact .inr ⟨q,PySem.W.cellsFrom_some _ _ _ (.inl q)⟩
 refine codeAny_call_function hr.depth (KX _ _ lk) rfl S.co S.gen rfl (PySem.W.codeRec_of KX hcd) (hb _ _ _ _ ?_);refine wpAny_newFunctionEnv_cells S.kind hkind λenv he s1 x=>?_;subst he;refine⟨lim.keeps x.toInCall.keep,codeAny_func ?_⟩;obtain⟨t,ht,hq⟩:=hbody A outer s H vs Q E (hr.deeper _) hsp;have I:Inv (dY CX P w K mg base N qual scope f cdv A outer s H E) [] (start N vs) H s1:=jS S hr.hd e0 hl r x;refine wpAny_mono (ht [] s1 (start N vs) H _ I hq) (λfl s' hs=>?_) λe s' hs=>hs;have fin:∀{σ':St}{H':Hp}{v:V}{u:Value},Inv (dY CX P w K mg base N qual scope f cdv A outer s H E) [] σ' H' s'→au v u→Q v H'→CE outer P w H s Q u s' :=
  λ{σ' H' v u} J rv q=>⟨v,H',J.os,J.bare,J.base,J.hok,rv,q⟩
 cases fl with
 |ret u =>
  obtain⟨v,σ',H',J,rv,q⟩:=hs;exact fin J rv q
 |next =>
  obtain⟨σ',H',J,q⟩:=hs;exact fin (v:=V.non) (u:=Value.none) J rfl q
 |brk =>
  obtain⟨_,_,_,q⟩:=hs;exact False.elim q
 |cont =>
  obtain⟨_,_,_,q⟩:=hs;exact False.elim q
section
variable{X:Cx}{x:Str}{p pos:Pos}{e:Expr}{es:List Expr}{t:TA}{id T:String}{r:List V→Hp→VK→Prop}
def tCB(r:List V→Hp→VK→Prop)(t:TA):TE:=λσ H Q=>t σ H λvs H1=>r vs H1 Q
theorem ap(hc:bz X (.builtin id) r)(hg:Gl X x)(hm:X.mg x=none)(hv:bootBuiltins x=some (.builtin id))(ha:PA X (e::es) t)(hn:x≠"__name__":=by decide)(hdb:(x==("__debug__":Str))=false:=by decide)(he:starEach (e::es) X.env=(false,eval e X.env)::starEach es X.env:=by rfl)(hpl:(backTo pos (starEach es X.env)).any (·.1)=false:=by rfl):PE X (.Call (.Name x p) (e::es) [] pos) (tCB r t):=by
 intro pins s σ H Q I h;refine wpAny_Call_Name_kw (dh I hg hm hv ?_ hn hdb);exact PyProof.Rows.callWith_builtin1 (thn (ha pos pins s σ H _ I h) λus s1 ⟨vs,H1,I1,r1,q1⟩=>hc pins s1 σ H1 vs us Q I1 r1 q1) he hpl
theorem bw(hc:bz X (.type T) r)(hg:Gl X x)(hm:X.mg x=none)(hv:bootBuiltins x=some (.type T))(ha:PA X (e::es) t)(hn:x≠"__name__":=by decide)(hdb:(x==("__debug__":Str))=false:=by decide)(he:starEach (e::es) X.env=(false,eval e X.env)::starEach es X.env:=by rfl)(hpl:(backTo pos (starEach es X.env)).any (·.1)=false:=by rfl):PE X (.Call (.Name x p) (e::es) [] pos) (tCB r t):=by
 intro pins s σ H Q I h;refine wpAny_Call_Name_kw (dh I hg hm hv ?_ hn hdb);exact PyProof.Rows.callWith_type1 (thn (ha pos pins s σ H _ I h) λus s1 ⟨vs,H1,I1,r1,q1⟩=>hc pins s1 σ H1 vs us Q I1 r1 q1) he hpl
end
end L2
namespace HT
open PySem PyProof.Rows
section
open PySem.SeqAt
open PySem.AutoSeq1 (wpAny_loadPart')
open PySem.MeetsSeq PySem.MeetsSeq2 PySem.MeetsSeq3
end
section
variable{prog:Program}{w:World}{A:Around}{E:Value→Shared→Prop}{s:Shared}
def sIx(n d:Nat):Option Int→Nat
 |none=>d
 |some v=>if v<0 then (v+(n:Int)).toNat else min v.toNat n
theorem gT(n d:Nat):sIx n d none=d:=rfl
theorem gn(n d k:Nat):sIx n d (some (k:Int))=min k n:=by
 show(if (k:Int)<0 then ((k:Int)+(n:Int)).toNat else min (k:Int).toNat n)=min k n
 rw[if_neg (by omega),Int.toNat_natCast]
theorem oO(n d:Nat)(hd:d≤n)(o:Option Int):sIx n d o≤n:=by
 cases o with
 |none=>exact hd
 |some v =>
  show(if v<0 then (v+(n:Int)).toNat else min v.toNat n)≤n
  by_cases hv:v<0
  ·rw[if_pos hv];omega
  ·rw[if_neg hv];exact Nat.min_le_right _ _
theorem ji(v:Int)(n d:Nat):(if v<0 then max (v+(n:Int)) 0 else min v (n:Int))=((sIx n d (some v):Nat):Int):=by
 show(if v<0 then max (v+(n:Int)) 0 else min v (n:Int))=(((if v<0 then (v+(n:Int)).toNat else min v.toNat n):Nat):Int)
 by_cases hv:v<0
 ·simp only[if_pos hv];omega
 ·simp only[if_neg hv];omega
theorem iF(lo hi:Option Int)(n:Nat):Builtin.Slice.sliceAdjust lo hi 1 (n:Int)=(((sIx n 0 lo:Nat):Int),((sIx n n hi:Nat):Int)):=by
 have h1:¬((1:Int)<0):=by omega
 unfold Builtin.Slice.sliceAdjust;simp only[h1,if_false];refine Prod.ext ?_ ?_
 ·cases lo with
  |none=>rfl
  |some v=>exact ji v n 0
 ·cases hi with
  |none=>rfl
  |some v=>exact ji v n n
theorem iG(i j:Nat):Builtin.Slice.slicePlaces (i:Int) (j:Int) 1=j-i:=by
 unfold Builtin.Slice.slicePlaces;have h1:(1:Int)>0:=by omega
 simp only[h1,if_true,Int.ediv_one]
 split<;>omega
theorem dZ{v:Value}{o:Option Int}{Q:Option Int→Shared→Prop}(p:IsPart v o)(h:Q o s):wpAny (model prog w) A (Builtin.Slice.slicePartIndex v) Q E s:=by
 cases p with
 |none=>exact slicePart_none h
 |int i t=>exact slicePart_int h
theorem bO{sl:Addr}{vl vu:Value}{lo hi:Option Int}{n:Nat}{Q:Int×Int×Nat→Shared→Prop}(hs:s.heap.IsSliceOf sl vl vu .none)(pl:IsPart vl lo)(pu:IsPart vu hi)(h:Q (((sIx n 0 lo:Nat):Int),1,sIx n n hi-sIx n 0 lo) s):wpAny (model prog w) A (Builtin.Slice.sliceApplied (.ref sl) (pure (n:Int))) Q E s:=by
 obtain⟨os,hos,hcs,hds⟩:=id hs;unfold Builtin.Slice.sliceApplied Builtin.Slice.sliceFields;refine wpAny_bind (wpAny_bind (wpAny_field hos hds (x:=vl) rfl (wpAny_bind (wpAny_field hos hds (x:=vu) rfl (wpAny_bind (wpAny_field hos hds (x:=.none) rfl (wpAny_pure ?_)))))));refine wpAny_bind (slicePart_none ?_);show wpAny _ _ (if ((1:Int)==0)=true then _ else _) _ _ s
 rw[if_neg (by decide)];refine wpAny_bind (dZ pl (wpAny_bind (dZ pu (wpAny_bind (wpAny_pure ?_)))));show wpAny _ _ (match Builtin.Slice.sliceAdjust lo hi 1 (n:Int)with|(lo,hi)=>pure (lo,(1:Int),Builtin.Slice.slicePlaces lo hi 1)) _ _ s
 rw[iF lo hi n];show wpAny _ _ (pure (((sIx n 0 lo:Nat):Int),(1:Int),Builtin.Slice.slicePlaces ((sIx n 0 lo:Nat):Int) ((sIx n n hi:Nat):Int) 1)) _ _ s;rw[iG];exact wpAny_pure h
theorem ln(xs:Array Value)(i k:Nat):((List.range k).filterMap λ(m:Nat)=>xs[((i:Int)+(m:Int)*1).toNat]?).toArray=((xs.toList.drop i).take k).toArray:=by
 have e:(λ(m:Nat)=>xs[((i:Int)+(m:Int)*1).toNat]?)=λm=>xs[i+m]?:=by
  funext m
  have:((i:Int)+(m:Int)*1).toNat=i+m:=by omega
  rw[this]
 rw[e];have:=pick_run xs i k;rw[List.filterMap_map]at this;have e2:((λx=>xs[x]?)∘λx=>i+x)=λm=>xs[i+m]?:=rfl;rw[e2]at this;rw[this]
theorem cR{t sl:Addr}{items:Array Value}{vl vu:Value}{lo hi:Option Int}{Q:Value→Shared→Prop}(ht:IsTup s.heap t items)(hs:s.heap.IsSliceOf sl vl vu .none)(pl:IsPart vl lo)(pu:IsPart vu hi)(hw:¬(sIx items.size 0 lo=0∧sIx items.size items.size hi=items.size))(h:Q (.ref s.heap.objs.size) {s with heap:=s.heap.push {cls:=.type "tuple",data:=.seq ((items.toList.drop (sIx items.size 0 lo)).take (sIx items.size items.size hi-sIx items.size 0 lo)).toArray}})(hsz:items.size≤sizeLine):wpAny (model prog w) A (getItem (.ref t) (.ref sl)) Q E s:=by
 have htake:sizeOk (.seq ((items.toList.drop (sIx items.size 0 lo)).take (sIx items.size items.size hi-sIx items.size 0 lo)).toArray):=by
  show((items.toList.drop (sIx items.size 0 lo)).take (sIx items.size items.size hi-sIx items.size 0 lo)).toArray.size≤sizeLine;rw[size_toArray,length_take,length_drop,length_toList];omega
 have hj:sIx items.size items.size hi≤items.size:=oO _ _ (le_refl _) hi;obtain⟨os,hos,hcs,hds⟩:=id hs;have hTs:s.TypeIs (.ref sl) "slice":=⟨os,hos,hcs⟩;unfold getItem
 try with_reducible refine wpAny_holding ?_
 first|refine wpAny_bind (wpAny_pure ?_)|skip
 refine wpAny_bind (wpAny_sequenceKey ht.typeIs (by decide) ?_);refine wpAny_bind (wpAny_callSpecial?_slot (name:=ofString "__getitem__") ht.typeIs PyProof.Rows.slot_tuple_getitem
  (wpAny_call_entry PyProof.Rows.slot_tuple_getitem ht.typeIs entry_tuple_getitem ?_ (args_tuple_getitem _ _)))
 show wpAny _ _ (Builtin.Tuple.tupleItemsOf (.ref t) >>= _) _ _ s;refine wpAny_bind (tupleItemsOf_ ht ?_);refine wpAny_bind (wpAny_typeOf hTs ?_);rw[if_pos (by decide)];refine wpAny_bind (bO hs pl pu ?_);have hno:¬((((sIx items.size 0 lo:Nat):Int)==0&&(1:Int)==1&&(sIx items.size items.size hi-sIx items.size 0 lo)==items.size)=true):=by
  intro q;rw[and_eq_true,and_eq_true]at q;have q1:((sIx items.size 0 lo:Nat):Int)=0:=eq_of_beq q.1.1;have q2:sIx items.size items.size hi-sIx items.size 0 lo=items.size:=eq_of_beq q.2;exact hw ⟨by omega,by omega⟩
 show wpAny _ _ (if (((sIx items.size 0 lo:Nat):Int)==0&&(1:Int)==1&&(sIx items.size items.size hi-sIx items.size 0 lo)==items.size)=true then _ else _) _ _ s
 rw[if_neg hno,ln]
 first
  |exact wpAny_bind (m:=Builtin.Tuple.tupleExact _) (wpAny_newObj_type (wpAny_pure ⟨_,rfl,wpAny_pure h⟩) htake)
  |exact wpAny_bind (m:=Builtin.Tuple.tupleExact _) (wpAny_newObj_type (wpAny_bind (wpAny_pure (wpAny_pure ⟨_,rfl,wpAny_pure h⟩))) htake)
  |exact wpAny_bind (wpAny_bind (m:=Builtin.Tuple.tupleExact _) (wpAny_newObj_type (wpAny_pure (wpAny_pure ⟨_,rfl,wpAny_pure h⟩)) htake))
  |exact wpAny_bind (wpAny_bind (m:=Builtin.Tuple.tupleExact _) (wpAny_newObj_type (wpAny_pure ⟨_,rfl,wpAny_pure h⟩) htake))
end
end HT
namespace L2
open PySem PySem.Spec PyProof.Rows
abbrev TO:=St→Hp→(Option Int→Hp→Prop)→Prop
def PO(X:Cx)(e:Option Expr)(t:TO):Prop :=
 ∀(pins:List (Addr×Obj))(s:Shared)(σ:St)(H:Hp)(Q:Option Int→Hp→Prop),Inv X pins σ H s→t σ H Q →
  wpAny (model X.prog X.w) X.A (evalPart e X.env) (λu s'=>∃o H',Inv X pins σ H' s'∧IsPart u o∧Q o H') X.xe s
def mY:TO:=λ_ H Q=>Q none H
def qr(t:TE):TO:=λσ H Q=>t σ H λx H1=>∃i,x=.int i∧Q (some i) H1
theorem iH{ns:List Int}:∀{us:List Value},am (ns.map V.int) us→IntsAre us ns:=by
 induction ns with
 |nil=>intro us r;rw[map_nil]at r;cases r;exact .nil
 |cons n ns ih =>
  intro us r;rw[map_cons]at r;cases r with
  |cons r1 r2 =>
   obtain⟨t,e⟩:=r1;subst e;exact .cons n t (ih r2)
section
variable{X:Cx}{e:Expr}{te:TE}{lo hi:Option Expr}{tl th:TO}{pos p2:Pos}
theorem gp:PO X none mY:=by
 intro pins s σ H Q I h;rw[evalPart_none];exact wpAny_pure ⟨none,H,I,.none,h⟩
theorem cS(h:PE X e te):PO X (some e) (qr te):=by
 intro pins s σ H Q I hw;rw[evalPart_some];refine thn (h pins s σ H _ I hw) λu s1 hpt=>?_;obtain⟨x,H1,I1,r1,q1⟩:=hpt;obtain⟨i,rfl,q⟩:=q1;obtain⟨t,rfl⟩:=r1;exact⟨some i,H1,I1,.int i t,q⟩
def SlR(X:Cx)(r:V→Option Int→Option Int→Hp→VK→Prop):Prop :=
 ∀(pins:List (Addr×Obj))(s:Shared)(σ:St)(H:Hp)(x:V)(v vl vu:Value)(lo hi:Option Int)(sl:Addr)(Q:VK),Inv X pins σ H s→au x v→s.heap.IsSliceOf sl vl vu .none→IsPart vl lo→IsPart vu hi→r x lo hi H Q →
  ∃T id,typeLookup (.type T) "__getitem__"=pure (some (.builtin id))∧s.TypeIs v T∧wpAny (model X.prog X.w) X.A (getItem v (.ref sl)) (EP X pins σ Q) X.xe s
theorem SlR.or{r r':V→Option Int→Option Int→Hp→VK→Prop}(h:SlR X r)(h':SlR X r'):SlR X (λx lo hi H Q=>r x lo hi H Q∨r' x lo hi H Q):=by
 intro pins s σ H x v vl vu lo hi sl Q I rx hs pl pu q;rcases q with q|q
 ·exact h pins s σ H x v vl vu lo hi sl Q I rx hs pl pu q
 ·exact h' pins s σ H x v vl vu lo hi sl Q I rx hs pl pu q
def tSl(r:V→Option Int→Option Int→Hp→VK→Prop)(te:TE)(tl th:TO):TE:=λσ H Q=>te σ H λx H1=>tl σ H1 λl H2=>th σ H2 λu H3=>r x l u H3 Q
theorem cT{r:V→Option Int→Option Int→Hp→VK→Prop}(hr:SlR X r)(he:PE X e te)(hl:PO X lo tl)(hu:PO X hi th):PE X (.Subscript e (.Slice lo hi none p2) pos) (tSl r te tl th):=by
 intro pins s σ H Q I h;refine Subscript_ (thn (he pins s σ H _ I h) λv s1 hpt=>?_);obtain⟨x,H1,I1,r1,q1⟩:=hpt;refine wpAny_Slice (thn (hl pins s1 σ H1 _ I1 q1) λvl s2 ⟨l,H2,I2,pl,q2⟩=>thn (hu pins s2 σ H2 _ I2 q2) λvu s3 hpt=>?_);obtain⟨u,H3,I3,pu,q3⟩:=hpt;rw[evalPart_none];refine wpAny_pure ?_;have I4:Inv X pins σ H3 {s3 with heap:=s3.heap.push {cls:=.type "slice",data:=.fields #[vl,vu,.none]}}:=I3.kept (t':=s3.toks) λb ob q=>get?_push_of_some _ q
 obtain⟨T,id,hT,ht,hg⟩:=hr pins {s3 with heap:=s3.heap.push {cls:=.type "slice",data:=.fields #[vl,vu,.none]}} σ H3 x v vl vu l u s3.heap.objs.size Q I4 r1 (Heap.IsSliceOf.new ..) pl pu q3
 show wpAny (model X.prog X.w) X.A (subscriptTail e (.Slice lo hi none p2) v (.ref s3.heap.objs.size)) (EP X pins σ Q) X.xe {s3 with heap:=s3.heap.push {cls:=.type "slice",data:=.fields #[vl,vu,.none]}}
 exact tail_any (ops:=[.ref s3.heap.objs.size,v]) ht hT hg (by with_unfolding_all rfl)
def gU(xs:List V)(lo hi:Option Int):List V:=(xs.drop (HT.sIx xs.length 0 lo)).take (HT.sIx xs.length xs.length hi-HT.sIx xs.length 0 lo)
theorem gW(xs:List V)(lo hi:Option Int):(gU xs lo hi).length≤xs.length:=by
 unfold gU;rw[length_take,length_drop];omega
def mZ(K:PySem.W.Frag):V→Option Int→Option Int→Hp→VK→Prop:=λx lo hi H Q=>∃a xs,x=.ref a∧SqT K H a xs ∧
 ¬(HT.sIx xs.length 0 lo=0∧HT.sIx xs.length xs.length hi=xs.length)∧∀p,H p=none→Q (.ref p) (upd H p (.tup (gU xs lo hi)))
theorem gq:SlR X (mZ X.K):=by
 intro pins s σ H x v vl vu lo hi sl Q I rx hs pl pu h;obtain⟨a,xs,rfl,hx,hw,q⟩:=h;cases rx;obtain⟨its,r,ht,hz⟩:=I.tuple hx;have hlen:its.toArray.size=xs.length:=by rw[size_toArray];exact r.length.symm
 refine⟨"tuple",_,PyProof.Rows.slot_tuple_getitem.lookup,ht.typeIs,?_⟩;refine HT.cR ht hs pl pu (by rw[hlen];exact hw) ?_ (by rw[hlen];exact hz);rw[hlen];refine⟨.ref s.heap.objs.size,_,I.laid (t':=s.toks) (o:=.tup (gU xs lo hi)) (λb ob q=>get?_push_of_some _ q) (le_refl _) ?_,rfl,q _ (I.hok.fresh (le_refl _))⟩;exact⟨le_trans (gW xs lo hi) hz,_,(r.drop (HT.sIx xs.length 0 lo)).take (HT.sIx xs.length xs.length hi-HT.sIx xs.length 0 lo),IsTup.new _ _⟩
theorem am.nil_iff{xs:List V}{us:List Value}(r:am xs us):us=[]↔xs=[]:=by
 cases r with
 |nil=>simp
 |cons _ _=>simp
end
def ixN(n:Nat)(i:Int):Option Nat:=if 0≤i then (if i<n then some i.toNat else none)else if -(n:Int)≤i then some (i+n).toNat else none
def atI{α:Type}(xs:List α)(i:Int):Option α:=(ixN xs.length i).bind λj=>xs[j]?
theorem jj{n:Nat}{i:Int}{j:Nat}(h:ixN n i=some j):seqIndex? i n=some j∧j<n∧-(n:Int)≤i∧i<n:=by
 unfold ixN at h
 by_cases h0:0≤i
 ·rw[if_pos h0]at h
  by_cases h1:i<n
  ·rw[if_pos h1]at h;have e:i.toNat=j:=Option.some.inj h;exact⟨by rw[seqIndex_of h0 h1,e],by omega,by omega,h1⟩
  ·rw[if_neg h1]at h;cases h
 ·rw[if_neg h0]at h
  by_cases h1:-(n:Int)≤i
  ·rw[if_pos h1]at h;have e:(i+n).toNat=j:=Option.some.inj h;exact⟨by rw[seqIndex_neg (by omega) h1,e],by omega,h1,by omega⟩
  ·rw[if_neg h1]at h;cases h
theorem jk{α:Type}{xs:List α}{i:Int}{v:α}(h:atI xs i=some v):∃j,seqIndex? i xs.length=some j∧xs[j]?=some v∧j<xs.length∧-(xs.length:Int)≤i∧i<xs.length:=by
 unfold atI at h;cases e:ixN xs.length i with
 |none=>rw[e]at h;cases h
 |some j =>
  rw[e]at h;obtain⟨h1,h2,h3,h4⟩:=jj e;exact⟨j,h1,h,h2,h3,h4⟩
theorem bu{α:Type}{xs:List α}{j:Nat}{v:α}(h:xs[j]?=some v):atI xs (j:Int)=some v:=by
 have hj:j<xs.length:=(List.getElem?_eq_some_iff.mp h).1;have e:ixN xs.length (j:Int)=some j:=by
  unfold ixN;rw[if_pos (by omega),if_pos (by omega)];simp
 unfold atI;rw[e];exact h
def na(b:Expr):Prop:=∀o i,subscripted b false o i=operate [o,i] (getItem o i)
def IxR(X:Cx)(r:R2):Prop :=
 ∀(value slice:Expr)(pins:List (Addr×Obj))(s:Shared)(σ:St)(H:Hp)(x y:V)(v u:Value)(Q:VK),Inv X pins σ H s→au x v→au y u→r x y H Q →
  subscripted slice false v u=operate [v,u] (getItem v u)→wpAny (model X.prog X.w) X.A (subscriptTail value slice v u) (EP X pins σ Q) X.xe s
def MtR(X:Cx)(id:String)(r:V→List V→Hp→VK→Prop):Prop :=
 ∀(pins:List (Addr×Obj))(s:Shared)(σ:St)(H:Hp)(x:V)(xs:List V)(v:Value)(us:List Value)(Q:VK),Inv X pins σ H s→au x v→am xs us→r x xs H Q →
  wpAny (model X.prog X.w) X.A (call (.builtin id) (v::us)) (EP X pins σ Q) X.xe s
section
variable{X:Cx}{a b:Expr}{ta tb:TE}{pos:Pos}
theorem aK{r:R2}(hr:IxR X r)(ha:PE X a ta)(hb:PE X b tb)(hs:na b):PE X (.Subscript a b pos) (tOp r ta tb):=by
 intro pins s σ H Q I h;exact Subscript_ (oJ ha hb I h λv u s2 x y H2 I2 rx ry q=>hr a b pins s2 σ H2 x y v u Q I2 rx ry q (hs _ _))
def re(K:PySem.W.Frag):R2:=λx y H Q=>∃p xs i v,x=.ref p∧y=.int i∧SqL K H p xs∧atI xs i=some v∧Q v H
def eu(K:PySem.W.Frag):R2:=λx y H Q=>∃p xs i v,x=.ref p∧y=.int i∧SqT K H p xs∧atI xs i=some v∧Q v H
theorem cU:IxR X (re X.K):=by
 intro value slice pins s σ H x y v u Q I rx ry h hs;obtain⟨p,xs,i,z,rfl,rfl,hq,he,q⟩:=h;cases rx;obtain⟨t,rfl⟩:=ry;obtain⟨its,r,pl,hz⟩:=I.list hq;obtain⟨j,h1,h2,h3,h4,h5⟩:=jk he;obtain⟨w,ew,rw'⟩:=r.get h2;have hl:=r.length;have hn:=gm;have fin:EP X pins σ Q w s:=⟨z,H,I,rw',q⟩
 by_cases h0:0≤i
 ·have hj:i.toNat=j:=by
   rw[seqIndex_of h0 h5]at h1;exact Option.some.inj h1
  exact item_listR pl.isList h0 (by omega) (by rw[hj];simpa using ew) fin hs
 ·have hj:(i+(its.toArray.size:Int)).toNat=j:=by
   rw[seqIndex_neg (by omega) h4]at h1;rw[size_toArray,←hl];exact Option.some.inj h1
  exact subscriptTail_builtinR (x:=w) pl.isList.typeIs slot_list_getitem.lookup
   (wpAny_getItem_list_neg (Q:=λr s'=>r=w∧EP X pins σ Q r s') pl.isList (by omega) (by rw[size_toArray]<;>omega) (by omega) (by rw[hj];simpa using ew) ⟨rfl,fin⟩) hs
theorem aG:IxR X (eu X.K):=by
 intro value slice pins s σ H x y v u Q I rx ry h hs;obtain⟨p,xs,i,z,rfl,rfl,hq,he,q⟩:=h;cases rx;obtain⟨t,rfl⟩:=ry;obtain⟨its,r,pl,hz⟩:=I.tuple hq;obtain⟨j,h1,h2,h3,h4,h5⟩:=jk he;obtain⟨w,ew,rw'⟩:=r.get h2;have hl:=r.length;have hn:=gm;have fin:EP X pins σ Q w s:=⟨z,H,I,rw',q⟩;exact subscriptTail_builtinR (x:=w) pl.typeIs slot_tuple_getitem.lookup
  (getItem_tuple (j:=j) (Q:=λr s'=>r=w∧EP X pins σ Q r s') pl (by omega) (by omega) (by rw[size_toArray,←hl];exact h1) (by simpa using ew) ⟨rfl,fin⟩) hs
def cF:V→Bool
 |.non=>true
 |.bl _=>true
 |.int _=>true
 |.str _=>true
 |_=>false
def eqV:V→V→Bool
 |.non,.non=>true
 |.bl a,.bl b=>a==b
 |.bl a,.int b=>(if a then 1 else 0)==b
 |.int a,.bl b=>a==(if b then 1 else 0)
 |.int a,.int b=>a==b
 |.str a,.str b=>a==b
 |_,_=>false
theorem iI{A:Around}{s:Shared}{y x:V}{u v:Value}(ry:au y u)(rx:au x v)(fy:cF y=true)(fx:cF x=true):EqAt A s u v (eqV y x):=by
 cases y with
 |non =>
  cases ry;cases x with
  |non=>cases rx;exact EqAt.same _
  |bl b=>cases rx;exact EqAt.none_bool b
  |int b=>obtain⟨t,rfl⟩:=rx;exact EqAt.none_int b t
  |str b=>obtain⟨t,rfl⟩:=rx;exact EqAt.none_str b t
  |_=>exact absurd (show false=true from fx) Bool.false_ne_true
 |bl a =>
  cases ry;cases x with
  |non=>cases rx;exact EqAt.bool_none a
  |bl b=>cases rx;exact EqAt.bool_bool a b
  |int b=>obtain⟨t,rfl⟩:=rx;exact EqAt.bool_int a b t
  |str b=>obtain⟨t,rfl⟩:=rx;exact EqAt.bool_str a b t
  |_=>exact absurd (show false=true from fx) Bool.false_ne_true
 |int a =>
  obtain⟨t',rfl⟩:=ry;cases x with
  |non=>cases rx;exact EqAt.int_none a t'
  |bl b=>cases rx;exact EqAt.int_bool a t' b
  |int b=>obtain⟨t,rfl⟩:=rx;exact EqAt.int_int a t' b t
  |str b=>obtain⟨t,rfl⟩:=rx;exact EqAt.int_str a t' b t
  |_=>exact absurd (show false=true from fx) Bool.false_ne_true
 |str a =>
  obtain⟨t',rfl⟩:=ry;cases x with
  |non=>cases rx;exact EqAt.str_none a t'
  |bl b=>cases rx;exact EqAt.str_bool a t' b
  |int b=>obtain⟨t,rfl⟩:=rx;exact EqAt.str_int a t' b t
  |str b=>obtain⟨t,rfl⟩:=rx;exact EqAt.str_str a t' b t
  |_=>exact absurd (show false=true from fx) Bool.false_ne_true
 |_=>exact absurd (show false=true from fy) Bool.false_ne_true
theorem ao:bz X (.builtin "len") (λxs H Q=>∃p ys,xs=[.ref p]∧(SqL X.K H p ys∨SqT X.K H p ys)∧Q (.int ys.length) H):=by
 intro pins s σ H xs us Q I r h;obtain⟨p,ys,rfl,hq,q⟩:=h;obtain⟨u,rfl,rx⟩:=cn r;cases rx;have hn:=gm;rcases hq with hq|hq
 ·obtain⟨its,r',pl,hz⟩:=I.list hq;have hlen:=r'.length;exact Calls.call_len_list pl.isList (by simp only[size_toArray]<;>omega) ⟨.int ys.length,H,I.tok _,⟨s.toks+1,by rw[size_toArray,hlen]⟩,q⟩
 ·obtain⟨its,r',pl,hz⟩:=I.tuple hq;have hlen:=r'.length;exact len_tuple pl (by simp only[size_toArray]<;>omega) ⟨.int ys.length,H,I.tok _,⟨s.toks+1,by rw[size_toArray,hlen]⟩,q⟩
theorem cG:bz X (.type "tuple") (λxs H Q=>∃p ys,xs=[.ref p]∧((SqL X.K H p ys∧∀l,H l=none→Q (.ref l) (upd H l (.tup ys)))∨(SqT X.K H p ys∧Q (.ref p) H))):=by
 intro pins s σ H xs us Q I r h;obtain⟨p,ys,rfl,h⟩:=h;obtain⟨u,rfl,rx⟩:=cn r;cases rx;rcases h with⟨hq,q⟩|⟨hq,q⟩
 ·obtain⟨its,r',pl,hz⟩:=I.list hq;have hlen:=r'.length;refine call_tuple_list pl.isList (λh' kp=>?_) (by simp only[size_toArray]<;>omega);have I1:Inv X pins σ H {s with heap:=h'}:=I.kept (t':=s.toks) kp
  have I2:Inv X pins σ (upd H h'.objs.size (.tup ys)) {s with heap:=h'.push {cls:=.type "tuple",data:=.seq its.toArray}} :=
   I1.laid (t':=s.toks) (λb o e=>get?_push_of_some _ e) (le_refl _) (show aM X.prog X.w _ _ _ (.tup ys)from⟨hz,its,r',IsTup.new _ _⟩)
  exact⟨.ref h'.objs.size,_,I2,rfl,q _ (I1.hok.fresh (le_refl _))⟩
 ·obtain⟨its,r',pl,hz⟩:=I.tuple hq;exact call_tuple_same pl ⟨.ref p,H,I,rfl,q⟩
def tyV(K:PySem.W.Frag)(T:String)(x:V)(H:Hp):Prop:=match x with
 |.str _=>T="str"
 |.int _=>T="int"
 |.ref p=>(T="list"∧∃xs,SqL K H p xs)∨(T="tuple"∧∃o,K.lookup p=some o∧o.cls=.type "tuple"∧o.dict=none) ∨
   (T="dict"∧((∃kvs,H p=some (.dK kvs))∨∃kvs,H p=some (.dT kvs)))∨(T="set"∧∃S n,H p=some (.set S n))
 |_=>False
theorem lp{pins:List (Addr×Obj)}{σ:St}{H:Hp}{s:Shared}{T:String}{x:V}{v:Value}(I:Inv X pins σ H s)(r:au x v)(ty:tyV X.K T x H):
  s.TypeIs v T∧∀a,v=.ref a→∃ob,s.heap.get? a=some ob∧ob.dict=none:=by
 cases x with
 |str z =>
  obtain⟨t,rfl⟩:=r;cases (show T="str" from ty);exact⟨typeIs_str s z t,λ_ e=>nomatch e⟩
 |int i =>
  obtain⟨t,rfl⟩:=r;cases (show T="int" from ty);exact⟨typeIs_int s i t,λ_ e=>nomatch e⟩
 |ref p =>
  cases r;rcases ty with⟨rfl,xs,hq⟩|⟨rfl,o,hk,hc,hd⟩|⟨rfl,hk⟩|⟨rfl,S,n,hk⟩
  ·obtain⟨its,_,pl,_⟩:=I.list hq;refine⟨pl.isList.typeIs,λa e=>?_⟩;cases e;obtain⟨o,n,e,c,hd,_⟩:=pl;exact⟨o,e,hd⟩
  ·refine⟨⟨o,I.kIn p o hk,hc⟩,λa e=>?_⟩;cases e;exact⟨o,I.kIn _ o hk,hd⟩
  ·have z:∃o,s.heap.get? p=some o∧o.ExactDict:=by
    rcases hk with⟨kvs,hk⟩|⟨kvs,hk⟩
    ·obtain⟨_,_,_,_,o,_,_,e,ex,_⟩:=I.hok p _ hk;exact⟨o,e,ex⟩
    ·obtain⟨_,_,_,_,o,_,_,e,ex,_⟩:=I.hok p _ hk;exact⟨o,e,ex⟩
   obtain⟨o,e,ex⟩:=z;refine⟨⟨o,e,ex.1⟩,λa e2=>?_⟩;cases e2;exact⟨o,e,ex.2.1⟩
  ·obtain⟨o,_,_,_,e,ex,_⟩:=I.hok p _ hk;refine⟨⟨o,e,ex.1⟩,λa e2=>?_⟩;cases e2;exact⟨o,e,ex.2.1⟩
 |_=>exact False.elim ty
def rf(K:PySem.W.Frag)(T:String)(r:V→List V→Hp→VK→Prop)(to:TE):TE:=λσ H Q=>to σ H λx H1=>tyV K T x H1∧r x [] H1 Q
def tBM(K:PySem.W.Frag)(T:String)(r:V→List V→Hp→VK→Prop)(to:TE)(t:TA):TE:=λσ H Q=>to σ H λx H1=>tyV K T x H1∧t σ H1 λxs H2=>r x xs H2 Q
variable{o e:Expr}{es:List Expr}{to:TE}{t:TA}{name:Str}{apos cpos:Pos}{T id:String}{r:V→List V→Hp→VK→Prop}
theorem oP(pa:PlainAttrs T)(slot:Slot T name id)(hty:typeOf (.builtin id)=pure (.type "method_descriptor"))(hm:MtR X id r)(ho:PE X o to)(hbase:attributeBase o name X.env (eval o X.env)=eval o X.env:=by rfl)(hline:(apos.endLine==cpos.line)=true:=by rfl):PE X (.Call (.Attribute o name apos) [] [] cpos) (rf X.K T r to):=by
 intro pins s σ H Q I h;refine wpAny_Call_method0_late hbase hline (thn (ho pins s σ H _ I h) λv s1 hpt=>?_);obtain⟨x,H1,I1,r1,ty,q1⟩:=hpt;obtain⟨h1,h2⟩:=lp I1 r1 ty;exact⟨T,id,pa,slot,hty,h1,h2,Calls.callWith_builtin rfl (PySem.evalArgs_none (hm pins s1 σ H1 x [] v [] Q I1 r1 .nil q1))⟩
theorem dA(pa:PlainAttrs T)(slot:Slot T name id)(hty:typeOf (.builtin id)=pure (.type "method_descriptor"))(hm:MtR X id r)(ho:PE X o to)(ha:PA X (e::es) t)(hbase:attributeBase o name X.env (eval o X.env)=eval o X.env:=by rfl)(hfew:((backTo cpos (starEach (e::es) X.env)).all (λx=>!x.1)&&(backToKw cpos (keywordEach [] X.env)).all (λx=>x.1.isSome)
   && decide ((e::es).length+([]:List Keyword).length+(if ([]:List Keyword).isEmpty then 0 else 1)<30))=true:=by rfl)(hline:(apos.endLine==cpos.line)=true:=by rfl)(hs:starEach (e::es) X.env=(false,eval e X.env)::starEach es X.env:=by rfl)(hplain:(backTo cpos (starEach es X.env)).any (·.1)=false:=by rfl):
  PE X (.Call (.Attribute o name apos) (e::es) [] cpos) (tBM X.K T r to t):=by
 intro pins s σ H Q I h;refine wpAny_Call_method_late hbase hfew hline rfl (thn (ho pins s σ H _ I h) λv s1 hpt=>?_);obtain⟨x,H1,I1,r1,ty,q1⟩:=hpt;obtain⟨h1,h2⟩:=lp I1 r1 ty;refine⟨T,id,pa,slot,hty,h1,h2,?_⟩;have hA:=ha cpos pins s1 σ H1 _ I1 q1;rw[hs]at hA⊢;refine Calls.callWith_builtin (by show(false||(backTo cpos (starEach es X.env)).any (·.1))=false;rw[hplain]<;>rfl) (evalArgs_plain ?_);exact thn hA λus s2 ⟨vs,H2,I2,r2,q2⟩=>hm pins s2 σ H2 x vs v us Q I2 r1 r2 q2
end
def MtM(X:Cx)(id:String)(r:V→List V→Hp→VK→Prop):Prop :=
 ∀(pins:List (Addr×Obj))(s:Shared)(σ:St)(H:Hp)(x:V)(xs:List V)(v:Value)(us:List Value)(Q:VK),Inv X pins σ H s→au x v→am xs us→r x xs H Q →
  wpAny (model X.prog X.w) X.A (call (.builtin id) (v::us)) (EP X pins σ Q) X.xe s
theorem am.one:∀{x:V}{us:List Value},am [x] us→∃u,us=[u]∧au x u
 |_,_,.cons r .nil=>⟨_,rfl,r⟩
theorem am.two:∀{x y:V}{us:List Value},am [x,y] us→∃u v,us=[u,v]∧au x u∧au y v
 |_,_,_,.cons r (.cons q .nil)=>⟨_,_,rfl,r,q⟩
theorem am.zero:∀{us:List Value},am [] us→us=[]
 |_,.nil=>rfl
theorem am.dropLast{xs:List V}{us:List Value}(h:am xs us):am xs.dropLast us.dropLast:=by
 induction h with
 |nil=>exact .nil
 |cons r t ih =>
  cases t with
  |nil=>exact .nil
  |cons q t'=>exact .cons r ih
theorem am.eraseIdx:∀{xs:List V}{us:List Value}(i:Nat),am xs us→am (xs.eraseIdx i) (us.eraseIdx i)
 |_,_,_,.nil=>.nil
 |_,_,0,.cons _ t=>t
 |_,_,i+1,.cons r t=>.cons r (am.eraseIdx i t)
theorem am.reverse{xs:List V}{us:List Value}(h:am xs us):am xs.reverse us.reverse:=by
 induction h with
 |nil=>exact .nil
 |cons r t ih=>rw[List.reverse_cons,List.reverse_cons];exact am.append ih (.cons r .nil)
theorem iJ{α:Type}(l:List α):l.eraseIdx (l.length-1)=l.dropLast:=by
 induction l with
 |nil=>rfl
 |cons a r ih =>
  cases r with
  |nil=>rfl
  |cons b r =>
   have e:(a::b::r).length-1=((b::r).length-1)+1:=by
    have h1:(a::b::r).length=r.length+2:=rfl;have h2:(b::r).length=r.length+1:=rfl;omega
   rw[e,List.eraseIdx_cons_succ,ih]
   all_goals rfl
theorem fu{α:Type}:∀(l:List α)(i:Nat),(l.eraseIdx i).length≤l.length
 |[],_=>le_refl _
 |_::_,0=>le_succ _
 |_::r,i+1=>Nat.succ_le_succ (fu r i)
section
variable{X:Cx}{pins:List (Addr×Obj)}{σ:St}{H:Hp}{s:Shared}{l b:Addr}{xs ys zs:List V}
theorem Inv.lset{its its':List Value}{n:Nat}{f:Array Value→Array Value}{t':Nat}(I:Inv X pins σ H s)(hH:H l=some (.lst xs))(e:s.heap.get? l=some {cls:=.type "list",data:=.seq its.toArray n})(hf:f its.toArray=its'.toArray)(hv:am ys its')(hz:ys.length≤sizeLine):
  Inv X pins σ (upd H l (.lst ys)) {s with heap:=s.heap.update l (Obj.mapSeq f),toks:=t'}:=by
 have q:=PySem.IsL.update e f;rw[hf]at q;refine I.write (x:=l) (e:=l) (by rw[hH];exact trivial) (.inl rfl) (λb' u hb hu=>(Heap.get?_update_other s.heap (Obj.mapSeq f) (symm hb)).trans hu) ⟨_,q⟩ ?_;exact⟨hz,its',_,hv,q⟩
theorem Inv.lnew{its:List Value}{t':Nat}(I:Inv X pins σ H s)(hv:am ys its)(hz:ys.length≤sizeLine):
  Inv X pins σ (upd H s.heap.objs.size (.lst ys)) {s with heap:=s.heap.push {cls:=.type "list",data:=.seq its.toArray},toks:=t'} :=
 I.laid (λ_ _ q=>get?_push_of_some _ q) (le_refl _) ⟨hz,its,0,hv,get?_push_size _ rfl⟩
theorem Inv.fresh(I:Inv X pins σ H s):H s.heap.objs.size=none:=I.hok.fresh (le_refl _)
theorem Inv.lstM(I:Inv X pins σ H s)(hH:H l=some (.lst xs)):xs.length≤sizeLine∧∃(its:List Value) (n:Nat),am xs its∧xs.length=its.length∧s.heap.get? l=some {cls:=.type "list",data:=.seq its.toArray n}:=by
 obtain⟨z,its,n,r,e⟩:=I.hok l _ hH;exact⟨z,its,n,r,r.length,e⟩
def nb:V→List V→Hp→VK→Prop:=λx vs H Q=>∃l xs y,x=.ref l∧vs=[y]∧H l=some (.lst xs)∧xs.length<sizeLine∧Q .non (upd H l (.lst (xs++[y])))
theorem aO:MtM X "list.append" nb:=by
 intro pins s σ H x vs v us Q I rx rv h;obtain⟨l,xs,y,rfl,rfl,hH,hz,q⟩:=h;cases rx;obtain⟨u,rfl,ru⟩:=rv.one;obtain⟨z,its,n,r,hl,e⟩:=I.lstM hH;refine call_meets F.slot_list_append ⟨_,e,rfl⟩ F.entry_list_append (F.args_list_append_2 _ _) (PySem.list_append l its.toArray n u (by rw[size_toArray];omega)) ⟨e,?_⟩;refine⟨.non,_,I.lset (its':=its++[u]) hH e (by simp) (r.append (.cons ru .nil)) ?_,rfl,q⟩;rw[length_append,length_singleton];omega
def rg:V→List V→Hp→VK→Prop:=λx vs H Q=>∃l xs y,x=.ref l∧vs=[]∧H l=some (.lst xs)∧xs[xs.length-1]?=some y∧Q y (upd H l (.lst xs.dropLast))
theorem oQ:MtM X "list.pop" rg:=by
 intro pins s σ H x vs v us Q I rx rv h;obtain⟨l,xs,y,rfl,rfl,hH,hy,q⟩:=h;cases rx;have hus:=rv.zero;subst hus;obtain⟨z,its,n,r,hl,e⟩:=I.lstM hH;obtain⟨u,hu,ru⟩:=r.get hy;have hy':its.toArray[its.toArray.size-1]?=some u:=by
  show its.toArray[its.length-1]?=some u;rw[←getElem?_toList,←hl];exact hu
 refine call_meets F.slot_list_pop ⟨_,e,rfl⟩ F.entry_list_pop (F.args_list_pop_1 _) (MeetsSeq.list_pop_last l its.toArray n u hy' (by rw[size_toArray];omega)) ⟨e,?_⟩;refine⟨y,_,I.lset (its':=its.dropLast) hH e ?_ r.dropLast ?_,ru,q⟩
 ·show its.toArray.eraseIdxIfInBounds (its.toArray.size-1)=its.dropLast.toArray;rw[size_toArray,List.eraseIdxIfInBounds_toArray,iJ]
 ·rw[List.length_dropLast];omega
def oR:V→List V→Hp→VK→Prop:=λx vs H Q=>∃l xs i k y,x=.ref l∧vs=[.int i]∧H l=some (.lst xs)∧-(2 ^ 63)≤i∧i<2 ^ 63∧seqIndex? i xs.length=some k∧xs[k]?=some y∧Q y (upd H l (.lst (xs.eraseIdx k)))
theorem lr:MtM X "list.pop" oR:=by
 intro pins s σ H x vs v us Q I rx rv h;obtain⟨l,xs,i,k,y,rfl,rfl,hH,h1,h2,hk,hy,q⟩:=h;cases rx;obtain⟨u,rfl,ru⟩:=rv.one;obtain⟨t,rfl⟩:=ru;obtain⟨z,its,n,r,hl,e⟩:=I.lstM hH;obtain⟨w,hw,rw'⟩:=r.get hy;refine call_meets F.slot_list_pop ⟨_,e,rfl⟩ F.entry_list_pop (F.args_list_pop_2 _ _)
  (MeetsSeq.list_pop_at l its.toArray n i t k w (fitsIndex_both h1 h2) (by rw[size_toArray,←hl];exact hk) (by rw[←getElem?_toList];exact hw) (by rw[size_toArray];omega)) ⟨e,?_⟩
 refine⟨y,_,I.lset (its':=its.eraseIdx k) hH e ?_ (r.eraseIdx k) ?_,rw',q⟩
 ·show its.toArray.eraseIdxIfInBounds k=(its.eraseIdx k).toArray;rw[List.eraseIdxIfInBounds_toArray]
 ·have:=fu xs k;omega
def rh:R2:=λx y H Q=>∃l b xs zs,x=.ref l∧y=.ref b∧H l=some (.lst xs)∧H b=some (.lst zs)∧xs.length+zs.length≤sizeLine∧∀p,H p=none→Q (.ref p) (upd H p (.lst (xs++zs)))
theorem ls:OpR X (binaryOp .Add) rh:=by
 intro pins s σ H x y v u Q I rx ry h;obtain⟨l,b,xs,zs,rfl,rfl,hH,hB,hz,q⟩:=h;cases rx;cases ry;obtain⟨z,its,n,r,hl,e⟩:=I.lstM hH;obtain⟨z2,its2,n2,r2,hl2,e2⟩:=I.lstM hB;refine PySem.P.add_list e e2 ?_ (by rw[size_toArray,size_toArray];omega);have ea:its.toArray++its2.toArray=(its++its2).toArray:=by simp
 rw[ea];exact⟨.ref _,_,I.lnew (t':=s.toks) (r.append r2) (by rw[length_append];omega),rfl,q _ I.fresh⟩
end
section
variable{prog:Program}{w:World}{A:Around}{E:Value→Shared→Prop}{s:Shared}
end
section
variable{X:Cx}
end
section
variable{κ:Type}[DecidableEq κ]
def aN(kvs:List (κ×V))(k:κ):Option V:=(kvs.find? λkv=>decide (kv.1=k)).map (·.2)
def eA(kvs:List (κ×V))(k:κ)(v:V):List (κ×V) :=
 if (kvs.any λkv=>decide (kv.1=k))=true then kvs.map (λkv=>if kv.1=k then (kv.1,v)else kv)else kvs++[(k,v)]
def br(kvs:List (κ×V))(k:κ):List (κ×V):=kvs.filter λkv=>decide (kv.1≠k)
theorem aI{p:κ×V}{r:List (κ×V)}{k:κ}(e:p.1=k):aN (p::r) k=some p.2:=by simp[aN,find?_cons,e]
theorem aC{p:κ×V}{r:List (κ×V)}{k:κ}(e:¬p.1=k):aN (p::r) k=aN r k:=by simp[aN,find?_cons,e]
theorem eB(k:κ):∀kvs:List (κ×V),(kvs.any λkv=>decide (kv.1=k))=(aN kvs k).isSome
 |[]=>rfl
 |p::r=>by
  rw[any_cons]
  by_cases e:p.1=k
  ·simp only[aI e,decide_eq_true e,Bool.true_or,Option.isSome_some]
  ·rw[aC e,decide_eq_false e,Bool.false_or];exact eB k r
theorem gX(k j:κ)(y:V):∀kvs:List (κ×V),aN (kvs.map λkv=>if kv.1=k then (kv.1,y)else kv) j=(aN kvs j).map λx=>if j=k then y else x
 |[]=>rfl
 |p::r=>by
  have ih:=gX k j y r;rw[map_cons]
  by_cases h:p.1=k
  ·rw[if_pos h]
   by_cases e:p.1=j
   ·rw[aI (p:=(p.1,y)) e,aI e,map_some,if_pos (e.symm.trans h)]
   ·rw[aC (p:=(p.1,y)) e,aC e,ih]
  ·rw[if_neg h]
   by_cases e:p.1=j
   ·rw[aI (p:=p) e,aI e,map_some,if_neg (λz=>h (e.trans z))]
   ·rw[aC (p:=p) e,aC e,ih]
theorem fw(k j:κ)(y:V):∀kvs:List (κ×V),aN kvs k=none→aN (kvs++[(k,y)]) j=if j=k then some y else aN kvs j
 |[],_=>by
  by_cases e:k=j
  ·rw[if_pos e.symm];exact aI (p:=(k,y)) e
  ·rw[if_neg (λz=>e z.symm)];exact aC (p:=(k,y)) e
 |p::r,hn=>by
  rw[List.cons_append];have hk:¬p.1=k:=λz=>by rw[aI z]at hn;cases hn
  rw[aC hk]at hn;have ih:=fw k j y r hn
  by_cases e:p.1=j
  ·rw[aI e,aI e,if_neg (λz=>hk (e.trans z))]
  ·rw[aC e,aC e,ih]
theorem lu(kvs:List (κ×V))(k j:κ)(y:V):aN (eA kvs k y) j=if j=k then some y else aN kvs j:=by
 unfold eA
 by_cases a:(kvs.any λkv=>decide (kv.1=k))=true
 ·rw[if_pos a,gX];rw[eB]at a
  by_cases e:j=k
  ·obtain⟨x,hx⟩:=Option.isSome_iff_exists.mp a;rw[if_pos e,e,hx,map_some,if_pos rfl]
  ·rw[if_neg e];cases aN kvs j with
   |none=>rfl
   |some x=>rw[map_some,if_neg e]
 ·rw[if_neg a];refine fw k j y kvs ?_;rw[eB]at a;cases q:aN kvs k with
  |none=>rfl
  |some x=>rw[q]at a;exact(a rfl).elim
theorem dB(kvs:List (κ×V))(k:κ)(v:V):(eA kvs k v).length≤kvs.length+1:=by
 unfold eA
 split
 ·rw[length_map];omega
 ·rw[length_append,length_cons,length_nil];omega
theorem cM.isSome_eq{o:Option V}{u:Option Value}(r:cM o u):o.isSome=u.isSome:=by
 cases o with
 |none=>cases u with
  |none=>rfl
  |some _=>exact(show False from r).elim
 |some _=>cases u with
  |none=>exact(show False from r).elim
  |some _=>rfl
theorem KV.val{kvs:List (κ×V)}{vs:List (κ×Value)}(r:KV kvs vs)(k:κ):cM (aN kvs k) (valueAt vs k):=by
 unfold KV at r
 induction r with
 |nil=>exact True.intro
 |@cons p q ps qs h t ih =>
  obtain⟨h1,h2⟩:=h
  by_cases e:p.1=k
  ·have e':q.1=k:=h1.symm.trans e;have b:valueAt (q::qs) k=some q.2:=by simp[valueAt,find?_cons,e']
   rw[aI e,b];exact h2
  ·have e':¬q.1=k:=λz=>e (h1.trans z);have b:valueAt (q::qs) k=valueAt qs k:=by simp[valueAt,find?_cons,e']
   rw[aC e,b];exact ih
theorem KV.any{kvs:List (κ×V)}{vs:List (κ×Value)}(r:KV kvs vs)(k:κ):(kvs.any λkv=>decide (kv.1=k))=vs.any λkv=>decide (kv.1=k):=by
 unfold KV at r
 induction r with
 |nil=>rfl
 |cons h t ih=>rw[any_cons,any_cons,ih,h.1]
theorem KV.repl{kvs:List (κ×V)}{vs:List (κ×Value)}(r:KV kvs vs)(k:κ){y:V}{u:Value}(ry:au y u):
  KV (kvs.map λkv=>if kv.1=k then (kv.1,y)else kv) (vs.map λkv=>if kv.1=k then (kv.1,u)else kv):=by
 unfold KV at r⊢
 induction r with
 |nil=>exact .nil
 |@cons p q ps qs h t ih =>
  rw[map_cons,map_cons];refine .cons ?_ ih;obtain⟨h1,h2⟩:=h
  by_cases e:p.1=k
  ·rw[if_pos e,if_pos (h1.symm.trans e)];exact⟨h1,ry⟩
  ·rw[if_neg e,if_neg (λz=>e (h1.trans z))];exact⟨h1,h2⟩
theorem KV.put{kvs:List (κ×V)}{vs:List (κ×Value)}(r:KV kvs vs)(k:κ){y:V}{u:Value}(ry:au y u):KV (eA kvs k y) (stored vs k u):=by
 unfold eA stored;rw[r.any k]
 by_cases e:(vs.any λkv=>decide (kv.1=k))=true
 ·rw[if_pos e,if_pos e];exact r.repl k ry
 ·rw[if_neg e,if_neg e];exact Paired.snoc r ⟨rfl,ry⟩
theorem KV.drop{kvs:List (κ×V)}{vs:List (κ×Value)}(r:KV kvs vs)(k:κ):KV (br kvs k) (without vs k):=by
 unfold KV at r⊢;unfold br without
 induction r with
 |nil=>exact .nil
 |@cons p q ps qs h t ih =>
  obtain⟨h1,h2⟩:=h;rw[filter_cons,filter_cons]
  by_cases e:p.1=k
  ·have a:¬decide (p.1≠k)=true:=by simp[e]
   have b:¬decide (q.1≠k)=true:=by simp[h1.symm.trans e]
   rw[if_neg a,if_neg b];exact ih
  ·have e':¬q.1=k:=λz=>e (h1.trans z);have a:decide (p.1≠k)=true:=by simp[e]
   have b:decide (q.1≠k)=true:=by simp[e']
   rw[if_pos a,if_pos b];exact .cons ⟨h1,h2⟩ ih
theorem KV.length{kvs:List (κ×V)}{vs:List (κ×Value)}(r:KV kvs vs):kvs.length=vs.length:=Paired.length r
theorem gY(kvs:List (κ×V))(k:κ):(br kvs k).length≤kvs.length:=length_filter_le _ _
end
theorem eC{P:Program}{w:World}{k:Key}{u:Value}(r:au (kV k) u):(ar P w).is k u=true:=by
 cases k with
 |inl i=>obtain⟨t,e⟩:=(show ∃t,u=Value.int i t from r);subst e;exact gM P w i t
 |inr x=>obtain⟨t,e⟩:=(show ∃t,u=Value.str x t from r);subst e;exact gO P w x t
theorem oS{a b:Key}(e:kV a=kV b):a=b:=by
 cases a with
 |inl i=>cases b with
  |inl j=>have e':V.int i=V.int j:=e;injection e' with e';rw[e']
  |inr y=>exact nomatch (show V.int i=V.str y from e)
 |inr x=>cases b with
  |inl j=>exact nomatch (show V.str x=V.int j from e)
  |inr y=>have e':V.str x=V.str y:=e;injection e' with e';rw[e']
theorem jl:∀{a b:List Key},a.map kV=b.map kV→a=b
 |[],[],_=>rfl
 |[],_::_,e=>by simp at e
 |_::_,[],e=>by simp at e
 |x::xs,y::ys,e=>by
  rw[map_cons,map_cons]at e;injection e with e1 e2
  rw[oS e1,jl e2]
theorem di{P:Program}{w:World}:∀{ks:List Key}{us:List Value},am (ks.map kV) us→ItemsAre (ar P w) ks us
 |[],_,r=>by rw[map_nil]at r;cases r;exact .nil
 |k::ks,_,r=>by
  rw[map_cons]at r;cases r with
  |cons h t=>exact .cons (eC h) (di t)
abbrev KT(H:Hp):List (List Key×V)→List (List Key×Addr×Value)→Prop:=Paired λp q=>p.1=q.1∧H q.2.1=some (.tup (p.1.map kV))∧au p.2 q.2.2
theorem KT.val{H:Hp}{kvs:List (List Key×V)}{xs:List (List Key×Addr×Value)}(r:KT H kvs xs)(k:List Key):cM (aN kvs k) ((atKey xs k).map (·.2)):=by
 induction r with
 |nil=>exact True.intro
 |@cons p q ps qs h t ih =>
  obtain⟨h1,_,h2⟩:=h
  by_cases e:p.1=k
  ·have e':q.1=k:=h1.symm.trans e;have b:atKey (q::qs) k=some q.2:=by simp[atKey,find?_cons,e']
   rw[aI e,b];exact h2
  ·have e':¬q.1=k:=λz=>e (h1.trans z);have b:atKey (q::qs) k=atKey qs k:=by simp[atKey,find?_cons,e']
   rw[aC e,b];exact ih
section
variable{P:Program}{w:World}{H:Hp}{h:Heap}{a:Addr}
theorem oa{u:HO}(ok:HOk P w H h)(e:Rd H a u):aM P w H h a u:=e.ok ok
theorem gZ{kvs:List (Key×V)}(ok:HOk P w H h)(e:Rd H a (.dK kvs)):kvs.length≤sizeLine∧(a==sysModules)=false∧∃vs,KV kvs vs∧h.DictOf (ar P w) a vs :=
 show aM P w H h a (.dK kvs)from oa ok e
theorem lv{kvs:List (Key×V)}(ok:HOk P w H h)(e:H a=some (.dK kvs)):kvs.length≤sizeLine∧(a==sysModules)=false∧∃vs,KV kvs vs∧h.DictOf (ar P w) a vs:=gZ ok (.inl e)
theorem iK{ks:List Key}(ok:HOk P w H h)(e:H a=some (.tup (ks.map kV))):(tupleKind (ar P w)).is h ks a:=by
 obtain⟨_,its,r,o,h1,h2,n,h3⟩:=(show aM P w H h a (.tup (ks.map kV))from ok a _ e);exact⟨o,its.toArray,n,h1,h2,h3,by simpa using di r⟩
theorem jm{kvs:List (List Key×V)}(ok:HOk P w H h)(e:Rd H a (.dT kvs)):kvs.length≤sizeLine∧(a==sysModules)=false ∧
  ∃xs,KT H kvs xs∧h.DictOfH (tupleKind (ar P w)) a xs:=by
 obtain⟨z,y,xs,r,o,es,ep,h1,h2,h3,h4,h5⟩:=(show aM P w H h a (.dT kvs)from oa ok e);refine⟨z,y,xs,r,o,es,ep,h1,h2,h3,h4,λx hx=>?_,h5⟩;have all:∀{l:List (List Key×V)}{m:List (List Key×Addr×Value)},KT H l m→∀x∈m,(tupleKind (ar P w)).is h x.1 x.2.1:=by
  intro l m q
  induction q with
  |nil=>intro x hx;exact nomatch hx
  |@cons p q ps qs hq t ih =>
   intro x hx;rcases mem_cons.mp hx with e|hx
   ·subst e;exact iK ok (by rw[←hq.1];exact hq.2.1)
   ·exact ih x hx
 exact all r x hx
end
def hG(H:Hp)(a:Addr)(y:V)(r:Option V):Prop :=
 (∃kvs k,Rd H a (.dK kvs)∧y=kV k∧r=aN kvs k)∨∃kvs k b,Rd H a (.dT kvs)∧y=.ref b∧H b=some (.tup (k.map kV))∧r=aN kvs k
section
variable{X:Cx}{pins:List (Addr×Obj)}{σ:St}{H:Hp}{s:Shared}{a:Addr}{y v:V}{u r:Value}{o:Option V}{A:Around}{E:Value→Shared→Prop}
theorem Inv.big(I:Inv X pins σ H s):sysModules<s.heap.objs.size:=by
 have h:mainGlobals<s.heap.objs.size:=(I.mod.glob.keeps I.bk).lt;exact lt_trans (by decide) h
theorem jT{Q:Value→Shared→Prop}(hu:A.units+1<cLine)(I:Inv X pins σ H s)(g:hG H a y (some v))(ry:au y u)(h:∀w' s',Inv X pins σ H s'→au v w'→Q w' s'):
  wpAny (model X.prog X.w) A (getItem (.ref a) u) Q E s:=by
 rcases g with⟨kvs,k,e,ey,l⟩|⟨kvs,k,b,e,ey,eb,l⟩
 ·subst ey;obtain⟨z,hd,vs,rel,dd⟩:=gZ I.hok e;obtain⟨w',hw,rw'⟩:=cM.some_of (v:=v) (o:=valueAt vs k) (by rw[l];exact rel.val k);exact wpAny_getItem_of (eC ry) dd.mapOf hw (h w' _ (I.tok _) rw')
 ·subst ey;cases (show u=Value.ref b from ry);obtain⟨z,hd,xs,rel,dd⟩:=jm I.hok e;obtain⟨w',hw,rw'⟩:=cM.some_of (v:=v) (o:=(atKey xs k).map (·.2)) (by rw[l];exact rel.val k);obtain⟨p,hp,hp2⟩:=Option.map_eq_some_iff.mp hw;refine wpAny_getItem_heap (tupleKind_room_in1 hu) (iK I.hok eb) dd hp ?_;rw[hp2];exact h w' _ (I.tok _) rw'
theorem nc{Q:Value→Shared→Prop}(hu:A.units+1<cLine)(I:Inv X pins σ H s)(g:hG H a y o)(ry:au y u)(h:∀s',Inv X pins σ H s'→Q (.bool (!o.isSome)) s'):
  wpAny (model X.prog X.w) A (compareOp .NotIn u (.ref a)) Q E s:=by
 rcases g with⟨kvs,k,e,ey,l⟩|⟨kvs,k,b,e,ey,eb,l⟩
 ·subst ey;obtain⟨z,hd,vs,rel,dd⟩:=gZ I.hok e;refine wpAny_notIn_of (eC ry) hd dd.mapOf ?_;rw[←(rel.val k).isSome_eq,←l];exact h _ (I.tok _)
 ·subst ey;cases (show u=Value.ref b from ry);obtain⟨z,hd,xs,rel,dd⟩:=jm I.hok e;refine wpAny_notIn_heap (tupleKind_room_in1 hu) (iK I.hok eb) hd dd ?_;have q:=(rel.val k).isSome_eq;rw[Option.isSome_map]at q;rw[←q,←l];exact h _ (I.tok _)
theorem jn{h':Heap}{t':Nat}{ob:HO}(I:Inv X pins σ H s)(mu:Mut (H a))(hs:SameBut a s.heap h')(he:∃q,h'.get? a=some q)(new:aM X.prog X.w (upd H a ob) h' a ob):
  Inv X pins σ (upd H a ob) {s with heap:=h',toks:=t'} :=
 I.write (x:=a) (e:=a) mu (.inl rfl) (λb q hb z=>(hs.2 b hb).trans z) he new
theorem iL{P:Program}{w:World}{H':Hp}{h':Heap}{kvs:List (Key×V)}{vs:List (Key×Value)}(z:kvs.length≤sizeLine)(hd:(a==sysModules)=false)(rel:KV kvs vs)(dd:h'.DictOf (ar P w) a vs):
  aM P w H' h' a (.dK kvs):=⟨z,hd,vs,rel,dd⟩
end
section
variable{X:Cx}{pins:List (Addr×Obj)}{σ:St}{H:Hp}{s:Shared}{a:Addr}{kvs:List (Key×V)}{k:Key}{u:Value}{A:Around}{E:Value→Shared→Prop}
theorem qt{v:V}{more:List Value}{Q:Value→Shared→Prop}(I:Inv X pins σ H s)(e:H a=some (.dK kvs))(ry:au (kV k) u)(l:aN kvs k=some v)(hm:more=[]∨∃x,more=[x])(h:∀w' s',Inv X pins σ (upd H a (.dK (br kvs k))) s'→au v w'→Q w' s'):wpAny (model X.prog X.w) A (call (.builtin "dict.pop") (.ref a::u::more)) Q E s:=by
 obtain⟨z,hd,vs,rel,dd⟩:=lv I.hok e;obtain⟨w',hw,rw'⟩:=cM.some_of (v:=v) (o:=valueAt vs k) (by rw[←l];exact rel.val k);have hp:(keyPart u).isSome=true:=by
  cases k with
  |inl i=>obtain⟨t,q⟩:=(show ∃t,u=Value.int i t from ry);subst q;rfl
  |inr x=>obtain⟨t,q⟩:=(show ∃t,u=Value.str x t from ry);subst q;rfl
 have ha:argsOk "dict.pop" ⟨.ref a::u::more,[]⟩:=by
  rcases hm with q|⟨x,q⟩
  ·subst q;exact PySem.F.args_dict_pop_2 _ _
  ·subst q;exact PySem.F.args_dict_pop_3 _ _ _
 refine call_meetsIn slot_dict_pop dd.typeIs PySem.F.entry_dict_pop ha (meets_dict_pop_there (ar X.prog X.w) a (eC ry) more hm hp)
  ⟨vs,w',dd,by rw[←rel.length];exact z,hw,λh' dd' hs=>h w' _ ?_ rw'⟩
 have he:∃q,h'.get? a=some q:=let⟨q,_,_,hq,_⟩:=dd';⟨q,hq⟩;exact jn I (by rw[e];exact True.intro) hs he (iL (le_trans (gY kvs k) z) hd (rel.drop k) dd')
theorem oT{r:Value}{Q:Value→Shared→Prop}(I:Inv X pins σ H s)(e:H a=some (.dK kvs))(ry:au (kV k) u)(l:aN kvs k=none)(h:∀s',Inv X pins σ H s'→Q r s'):
  wpAny (model X.prog X.w) A (call (.builtin "dict.pop") [.ref a,u,r]) Q E s:=by
 obtain⟨z,hd,vs,rel,dd⟩:=lv I.hok e;have hn:valueAt vs k=none:=cM.none_of (by rw[←l];exact rel.val k);have hp:(keyPart u).isSome=true:=by
  cases k with
  |inl i=>obtain⟨t,q⟩:=(show ∃t,u=Value.int i t from ry);subst q;rfl
  |inr x=>obtain⟨t,q⟩:=(show ∃t,u=Value.str x t from ry);subst q;rfl
 exact call_meetsIn slot_dict_pop dd.typeIs PySem.F.entry_dict_pop (PySem.F.args_dict_pop_3 _ _ _) (meets_dict_pop_default (ar X.prog X.w) a (eC ry) hd hp r) ⟨vs,dd,hn,h _ (I.tok _)⟩
end
def qu(i:Expr):Prop:=∀ov iv,subscripted i false ov iv=operate [ov,iv] (getItem ov iv)
theorem ng{prog:Program}{w:World}{A:Around}{E:Value→Shared→Prop}{s:Shared}{env:Env}{value slice:Expr}{pos:Pos}{T id:String}{Q:Value→Shared→Prop}(hl:typeLookup (.type T) "__getitem__"=pure (some (.builtin id)))(hs:qu slice)(h:wpAny (model prog w) A (eval value env) (λo s₁=>wpAny (model prog w) A (eval slice env) (λi s₂=>s₂.TypeIs o T∧wpAny (model prog w) A (getItem o i) Q E s₂) E s₁) E s):
  wpAny (model prog w) A (eval (.Subscript value slice pos) env) Q E s:=by
 refine Subscript_ (wpAny_mono h (λo s₁ h₁=>wpAny_mono h₁ (λi s₂ h₂=>?_) λ_ _ x=>x) λ_ _ x=>x);obtain⟨hT,h₂⟩:=h₂;unfold subscriptTail;refine wpAny_bind ?_;rw[getitemInPython_of_ne hT.not_modules];refine wpAny_bind (wpAny_specialOf hT hl ?_);have fin:wpAny (model prog w) A (subscripted slice false o i) (λr s₃=>wpAny (model prog w) A (letTemporaryGo value o r >>= λ_=>pure r) Q E s₃) E s₂:=by
  rw[hs o i];exact wpAny_operating (wpAny_mono h₂ (λr s₃ h₃=>wpAny_bind (wpAny_letTemporaryGo (wpAny_pure h₃))) λ_ _ x=>x)
 first
  |exact wpAny_pure (wpAny_bind fin)
  |exact wpAny_bind (wpAny_pure (wpAny_bind fin))
  |exact wpAny_bind fin
theorem hJ{X:Cx}{pins:List (Addr×Obj)}{σ:St}{H:Hp}{s:Shared}{a:Addr}{y:V}{o:Option V}(I:Inv X pins σ H s)(g:hG H a y o):s.TypeIs (.ref a) "dict":=by
 rcases g with⟨kvs,k,e,_,_⟩|⟨kvs,k,b,e,_,_,_⟩
 ·obtain⟨_,_,vs,_,dd⟩:=gZ I.hok e;exact dd.typeIs
 ·obtain⟨_,_,xs,_,dd⟩:=jm I.hok e;exact dd.typeIs
def qv(td ty:TE):TE:=λσ H Q=>td σ H λx H1=>ty σ H1 λy H2=>∃a v,x=.ref a∧hG H2 a y (some v)∧Q v H2
def nh(ty td:TE):TE:=λσ H Q=>ty σ H λy H1=>td σ H1 λx H2=>∃a o,x=.ref a∧hG H2 a y o∧Q (.bl (!o.isSome)) H2
section
variable{X:Cx}{o i e value:Expr}{pos pos' tpos:Pos}{td ty tv:TE}
theorem aZ(hu:X.A.units+1<cLine)(ho:PE X o td)(hi:PE X i ty)(hs:qu i):PE X (.Subscript o i pos) (qv td ty):=by
 intro pins s σ H Q I h;refine ng PySem.F.slot_dict_getitem.lookup hs (thn (ho pins s σ H _ I h) λu s1 ⟨x,H1,I1,rx,q1⟩=>thn (hi pins s1 σ H1 _ I1 q1) λiv s2 hpt=>?_);obtain⟨y,H2,I2,ry,a,v,ex,g,q2⟩:=hpt;subst ex;obtain rfl:u=Value.ref a:=rx;exact⟨hJ I2 g,jT hu I2 g ry λw' s3 I3 rw'=>⟨v,H2,I3,rw',q2⟩⟩
theorem jU(hu:X.A.units+1<cLine)(hi:PE X i ty)(ho:PE X o td):PC X .NotIn i o (nh ty td):=by
 intro pins s σ H Q I h;refine thn (hi pins s σ H _ I h) λiv s1 ⟨y,H1,I1,ry,q1⟩=>thn (ho pins s1 σ H1 _ I1 q1) λu s2 hpt=>?_;obtain⟨x,H2,I2,rx,a,ov,ex,g,q2⟩:=hpt;subst ex;obtain rfl:u=Value.ref a:=rx;exact nc hu I2 g ry λs3 I3=>⟨.bl (!ov.isSome),H2,I3,rfl,q2⟩
end
theorem lw{P:Program}{w:World}{H:Hp}(h:Heap)(hb:sysModules<h.objs.size):aM P w H (h.push {cls:=.type "dict",data:=.dict #[]}) h.objs.size (.dK []) :=
 ⟨zero_le _,beq_eq_false_iff_ne.mpr (symm (ne_of_lt hb)),[],.nil,Heap.DictOf.new h⟩
def oU:TE:=λ_ H Q=>∀p,H p=none→Q (.ref p) (upd H p (.dK []))
section
variable{X:Cx}{pos:Pos}
theorem lx:PE X (.Dict [] [] pos) oU:=λpins s σ H Q I h =>
 wpAny_Dict_empty ⟨.ref s.heap.objs.size,_,I.laid (a:=s.heap.objs.size) (o:=.dK []) (t':=s.toks) (λ_ _ q=>get?_push_of_some _ q) (le_refl _) (lw s.heap I.big),rfl,h _ (I.hok.fresh (le_refl _))⟩
end
structure M2(X:Cx)(o:Expr)(m:Str)(apos:Pos)(e f:Expr)(cpos:Pos):Prop where
 base:attributeBase o m X.env (eval o X.env)=eval o X.env
 few:((backTo cpos (starEach [e,f] X.env)).all (λx=>!x.1)&&(backToKw cpos (keywordEach [] X.env)).all (λx=>x.1.isSome)
  && decide (([e,f]:List Expr).length+([]:List Keyword).length+(if ([]:List Keyword).isEmpty then 0 else 1)<30))=true
 line:(apos.endLine==cpos.line)=true
 trees:backTo cpos (starEach [e,f] X.env)=[(false,eval e X.env),(false,eval f X.env)]
def IsD(H:Hp)(a:Addr):Prop:=(∃kvs,Rd H a (.dK kvs))∨∃kvs,Rd H a (.dT kvs)
theorem oV{X:Cx}{pins:List (Addr×Obj)}{σ:St}{H:Hp}{s:Shared}{a:Addr}(I:Inv X pins σ H s)(d:IsD H a):
  s.TypeIs (.ref a) "dict"∧(∀b,Value.ref a=.ref b→∃ob,s.heap.get? b=some ob∧ob.dict=none)∧(a==sysModules)=false:=by
 rcases d with⟨kvs,e⟩|⟨kvs,e⟩
 ·obtain⟨_,hd,vs,_,dd⟩:=gZ I.hok e;refine⟨dd.typeIs,λb q=>?_,hd⟩;cases q;obtain⟨ob,_,_,h1,h2,_⟩:=dd;exact⟨ob,h1,h2.2.1⟩
 ·obtain⟨_,hd,xs,_,dd⟩:=jm I.hok e;refine⟨dd.typeIs,λb q=>?_,hd⟩;cases q;obtain⟨ob,_,_,h1,h2,_⟩:=dd;exact⟨ob,h1,h2.2.1⟩
section
variable{X:Cx}{pins:List (Addr×Obj)}{σ:St}{H:Hp}{s:Shared}{a:Addr}{y d:V}{u r:Value}{o:Option V}{A:Around}{E:Value→Shared→Prop}
end
def oW(td ty tx:TE):TE:=λσ H Q=>td σ H λx H1=>∃a,x=.ref a∧IsD H1 a∧ty σ H1 λy H2=>tx σ H2 λz H3=>∃kvs k,H3 a=some (.dK kvs)∧y=kV k ∧
 (∀v,aN kvs k=some v→Q v (upd H3 a (.dK (br kvs k))))∧(aN kvs k=none→Q z H3)
section
variable{X:Cx}{o e f:Expr}{apos cpos:Pos}{td ty tx:TE}
theorem ly(ho:PE X o td)(he:PE X e ty)(hf:PE X f tx)(m:M2 X o "pop" apos e f cpos):PE X (.Call (.Attribute o "pop" apos) [e,f] [] cpos) (oW td ty tx):=by
 intro pins s σ H Q I h;refine wpAny_Call_method m.base m.few m.line PySem.F.plainAttrs_dict slot_dict_pop PySem.F.type_dict_pop (thn (ho pins s σ H _ I h) λu s1 hpt=>?_);obtain⟨x,H1,I1,rx,a,ex,d,q1⟩:=hpt;subst ex;obtain rfl:u=Value.ref a:=rx;obtain⟨t1,t2,_⟩:=oV I1 d;refine⟨t1,t2,?_⟩;rw[m.trees];refine Calls.callWith_builtin rfl (evalArgs_plain (spliced_cons (thn (he pins s1 σ H1 _ I1 q1) λiv s2 ⟨y,H2,I2,ry,q2⟩ =>
  spliced_cons (thn (hf pins s2 σ H2 _ I2 q2) λfv s3 ⟨z,H3,I3,rz,kvs,k,ea,ey,q3,q4⟩=>spliced_nil ?_))))
 subst ey;cases l:aN kvs k with
 |some v=>exact qt I3 ea ry l (.inr ⟨fv,rfl⟩) λw' s4 I4 rw'=>⟨v,_,I4,rw',q3 v l⟩
 |none=>exact oT I3 ea ry l λs4 I4=>⟨z,H3,I4,rz,q4 l⟩
end
section
variable{X:Cx}{pins:List (Addr×Obj)}{σ:St}{H:Hp}{s:Shared}{a:Addr}{kvs:List (Key×V)}{A:Around}{E:Value→Shared→Prop}
end
section
variable{X:Cx}{pins:List (Addr×Obj)}{σ:St}{H:Hp}{s:Shared}{a:Addr}{y:V}{u:Value}{A:Around}{E:Value→Shared→Prop}
end
end L2
namespace Att
open PySem PySem.W PySem.Calls PyProof.Rows
theorem dG{P:Params}{h:Heap}:∀(ns:List Int)(vs:List Value),WellAll P h vs (ns.map WData.int)→IntsAre vs ns:=by
 intro ns
 induction ns with
 |nil =>
  intro vs w;rw[map_nil]at w;cases w;exact .nil
 |cons n ns ih =>
  intro vs w;rw[map_cons]at w;cases w with
  |cons a b =>
   cases a;exact .cons _ _ (ih _ b)
theorem jV{l:OpenLaw}{n:Nat}(hn:l.most=some n){P:Params}{h:Heap}{args:List WData}{vals:List Value}(hpre:l.row.toRowW.claim.pre args=true)(hwl:WellAll P h vals args):
  ∃a vs ns,vals=[Value.ref a]∧args=[WData.list (ns.map WData.int)]∧h.get? a=some {cls:=.type "list",data:=.seq vs.toArray}∧IntsAre vs ns∧ns.length≤n:=by
 have hsh:WShape.hasAll [] args [.list .int]=true:=(pre_splitW hpre).1;have hc:l.pre.holds [] {args:=args}=true:=(pre_splitW hpre).2;obtain⟨d,r,rfl,h1,h2⟩:=hasAllW_cons hsh;obtain rfl:=hasAllW_nil h2;obtain⟨xs,rfl,h3⟩:=hasW_list h1;obtain⟨ns,rfl⟩:=items_int h3;have hlen:ns.length≤n:=by
  unfold OpenLaw.pre at hc;have h4:(WTm.not (.lt (.lit (.int (n:Int))) (.len (.arg 0)))).holds [] {args:=[.list (ns.map .int)]}=true:=by
   have h4:=(holds_andW hc).1;rw[hn]at h4;exact h4
  have h5:=condW_of h4 (w_not (w_lt w_lit (w_len_list (w_arg rfl))));rw[length_map]at h5;refine Nat.le_of_not_lt λq=>?_;have q':(n:Int)<((ns.length:Nat):Int):=by omega
  first
   |(rw[decide_eq_true q']at h5;exact absurd h5 (by decide))
   |(simp at h5;omega)
 cases hwl with
 |cons w1 w2 =>
  cases w2;cases w1 with
  |list ho hall=>exact⟨_,_,ns,rfl,rfl,ho,dG ns _ hall,hlen⟩
theorem jW(l:OpenLaw)(args:List WData):l.row.toRowW.claim.post args (.bool true) args=true :=
 postW_of (r:=l.row.toRowW) (X:=(true==true))
  (show WShape.has [] (.bool true) .bool=true by first|rfl|decide|simp[WShape.has,WShape.arms,WShape.armsAll])
  (show(WTm.eq .res (.lit (.bool true))).value [] {args:=args,res:=some (.bool true),after:=args}=some (.bool (true==true))from w_eq_bool (w_res rfl) w_lit) rfl
theorem hO{l:OpenLaw}{n:Nat}{q:Program}{loose:List Str}{XP:(Str→Option Value)→Heap→Prop}{YP:World→Heap→Prop}{d:DefRec}(hn:l.most=some n)(hdf:d.params.defaults=[])(call:∀(w:World) (s₀ s₁:Shared) (mg mb:Str→Option Value) (fa:Addr) (o:Obj) (pm cd doc:Value) (a:Addr) (vs:List Value) (ns:List Int),
   Ground q loose [] XP w s₀ mg mb s₁.heap→YP w s₁.heap →
   s₁.heap.get? fa=some o→o.data=.func (docDef d.name d.params d.body d.scope pm cd doc)→s₁.heap.CodeRec cd d.name→mg d.name=some (.ref fa) →
   s₁.heap.get? a=some {cls:=.type "list",data:=.seq vs.toArray}→IntsAre vs ns→ns.length≤n→s₁.gens=#[] →
   codeAny (model l.prog w) callerA (.call (.ref fa) ⟨[.ref a],[]⟩) (λr s'=>r=.ok (.ret (.bool true))∧OldK s₁.heap s'.heap∧s'.os=s₁.os∧AllBare s'.gens) s₁):
  WalkO q loose XP YP l.row.toRowW d [] (λf vs=>PySem.call f vs):=by
 intro w s₀ s₁ mg mb G Y fa o pm cd doc dV kV ho hd hcd hD hmg hg args vals as hpre hlay hrd hwl hlo;obtain rfl:dV=.none:=Dflts.none hD hdf;obtain rfl:kV=.none:=Dflts.noKw hD;obtain⟨a,vs,ns,rfl,rfl,hobj,hints,hlen⟩:=jV hn hpre hwl;refine enter_call (codeAny_mono (call w s₀ s₁ mg mb fa o pm cd doc a vs ns G Y ho (fd_plain hd) hcd hmg hobj hints hlen hg) λr s' hq=>?_);obtain⟨rfl,h2,h3,h4⟩:=hq;exact⟨.inl ⟨.bool true,.bool true,[],rfl,λ_=>rfl,.bool true,jW l _,λ_=>⟨List.Pairwise.nil,λ_ hm=>(nomatch hm)⟩⟩,h2,h3,h4⟩
section
variable{prog:Program}{w:World}{A:Around}{E:Value→Shared→Prop}{s:Shared}{K:Frag}
end
end Att
namespace L2
open PySem PySem.Spec PyProof.Rows
theorem fz:∀{vs:List Value}{ns:List Int},IntsAre vs ns→am (ns.map V.int) vs
 |_,_,.nil=>.nil
 |_,_,.cons n t h=>.cons ⟨t,rfl⟩ (fz h)
def ce(s:Stmt):Arguments:=match s with
 |.FunctionDef _ a _ _ _ _ _ _ _ _=>a
 |_=>{posonlyargs:=[],args:=[],vararg:=none,kwonlyargs:=[],kw_defaults:=[],kwarg:=none,defaults:=[]}
def aY(s:Stmt):List Stmt:=match s with
 |.FunctionDef _ _ b _ _ _ _ _ _ _=>b
 |_=>[]
def ag(s:Stmt):Scope:=match s with
 |.FunctionDef _ _ _ _ _ _ sc _ _ _=>sc
 |_=>{kind:=.function,names:=[],isGenerator:=false,isCoroutine:=false}
abbrev CX0:CXT:=λ_ _ _ _ _ _=>False
abbrev E0:XK:=λ_ _ _=>False
theorem aL{X:Cx}:dX CX0 X E0:=λ_ _ _ _ _ _ _ h=>h.elim
structure Fun(K:PySem.W.Frag)(x qual:Str)(st:Stmt)(f:Addr)(fd:FuncData):Prop where
 ex:∃(oc:Value) (od:Option Addr) (kV doc pm:Value) (an:Option Addr) (cdv ct:Value) (osl:Array (Option Value)),
  fd=fnOf x qual (ce st) (aY st) (ag st) .none kV doc pm an cdv ct∧K.lookup f=some ⟨oc,od,.func fd,osl⟩∧codeIn K cdv qual=true
 kp:keepIn K (.ref f)=true
section
variable{P:Program}{w:World}{K:PySem.W.Frag}{mg:Str→Option Value}{base:Heap}
theorem Fun.ok{x qual:Str}{st:Stmt}{f:Addr}{fd:FuncData}{N ps:List Str}{k:Nat}{sp:Sp}(F:Fun K x qual st f fd)(S:FnScope N ps (ag st))(len:∀vs H Q E,sp vs H Q E→vs.length=ps.length)(hbody:∀(cdv:Value) (A:Around) (outer:List Env) (s:Shared) (H:Hp) (vs:List V) (Q:VK) (E:XK),Room k (A.deeper (envOfC qual (ag st) s.heap.objs.size f cdv))→sp vs H Q E →
   ∃t,PSs (dY CX0 P w K mg base N qual (ag st) f cdv A outer s H E).nox (aY st) t∧t {nx:=λ_ H'=>Q .non H',rt:=Q} (start N vs) H):FnOk P w K mg base CX0 (k+1) f fd ps sp:=by
 obtain⟨oc,od,kV,doc,pm,an,cdv,ct,osl,rfl,lk,hcd⟩:=F.ex;refine lm lk hcd S len λA outer s H vs Q E hr hsp=>?_;obtain⟨t,h,q⟩:=hbody cdv A outer s H vs Q E hr hsp;exact⟨t,h.nox,q⟩
theorem Fun.binds{x qual:Str}{st:Stmt}{f:Addr}{fd:FuncData}{ps:List Str}(F:Fun K x qual st f fd)(h:∀(kV doc pm:Value) (an:Option Addr) (cdv ct:Value) (us:List Value),us.length=ps.length→bindArgs (fnOf x qual (ce st) (aY st) (ag st) .none kV doc pm an cdv ct) ⟨us,[]⟩=pure (ps.zip us)):bA K fd ps []:=by
 obtain⟨oc,od,kV,doc,pm,an,cdv,ct,osl,rfl,lk,hcd⟩:=F.ex;exact .all (h kV doc pm an cdv ct)
theorem oX{x qual:Str}{st:Stmt}{f:Addr}{oc:Value}{od an:Option Addr}{osl:Array (Option Value)}{kV doc pm cdv ct:Value}(l:K.lookup f=some ⟨oc,od,.func (fnOf x qual (ce st) (aY st) (ag st) .none kV doc pm an cdv ct),osl⟩)(c:codeIn K cdv qual=true)(k:keepIn K (.ref f)=true):Fun K x qual st f (fnOf x qual (ce st) (aY st) (ag st) .none kV doc pm an cdv ct):=⟨⟨oc,od,kV,doc,pm,an,cdv,ct,osl,rfl,l,c⟩,k⟩
end
theorem bQ{A:Around}{k:Nat}(hr:Room k A):A.units+1<cLine:=lt_of_le_of_lt (Nat.add_le_add_left (by decide:1≤64) _) hr.units
theorem aA{n:Nat}(h:n≤1000):n<sizeLine:=lt_of_le_of_lt h (by decide)
section
variable{X:Cx}
theorem pv(i:Nat){x:Str}{pos:Pos}(hN:X.N[i]?=some x:=by rfl)(hv:Vis X.env.scope x:=by first|exact Or.inl rfl|exact Or.inr (Or.inl rfl)|exact Or.inr (Or.inr rfl))(hd:(x==("__debug__":Str))=false:=by decide)(hcd:(x==("__classdict__":Str))=false:=by decide):PE X (.Name x pos) (mQ i):=oB hN hv hd hcd
end
theorem bv{A B:Prop}(h:B):if false=true then A else B:=by
 rw[if_neg Bool.false_ne_true];exact h
theorem ck{A B:Prop}(h:A):if true=true then A else B:=by
 rw[if_pos rfl];exact h
theorem rk{c A B:Prop}[Decidable c](h1:c→A)(h2:¬c→B):if c then A else B:=by
 by_cases h:c
 ·rw[if_pos h];exact h1 h
 ·rw[if_neg h];exact h2 h
def Same(H H':Hp):Prop:=∀b o,H b=some o→H' b=some o
theorem Same.refl(H:Hp):Same H H:=λ_ _ h=>h
theorem Same.trans{H H1 H2:Hp}(a:Same H H1)(b:Same H1 H2):Same H H2:=λc o h=>b c o (a c o h)
theorem Same.free{H H':Hp}(e:Same H H'){l:Addr}(h:H' l=Option.none):H l=Option.none:=by
 cases q:H l with
 |none=>rfl
 |some o =>
  rw[e l o q]at h;cases h
theorem Same.seq{K:PySem.W.Frag}{H H':Hp}{a:Addr}{xs:List V}(e:Same H H')(h:SqL K H a xs):SqL K H' a xs:=by
 rcases h with (h|⟨o,h⟩)|h
 ·exact .inl (.inl (e _ _ h))
 ·exact .inl (.inr ⟨o,e _ _ h⟩)
 ·exact .inr h
section
variable{κ:Type}[DecidableEq κ]
theorem jX{p:κ×V}{r:List (κ×V)}{k:κ}(e:p.1=k):br (p::r) k=br r k:=by
 unfold br;rw[filter_cons,if_neg (by simp[e])]
theorem jY{p:κ×V}{r:List (κ×V)}{k:κ}(e:¬p.1=k):br (p::r) k=p::br r k:=by
 unfold br;rw[filter_cons,if_pos (by simp[e])]
end
structure LcOk(X:Cx)(scope:Scope)(cl:List (Str×Addr)):Prop where
 kind:scope.kind=.function
 clos:closureFor scope X.env=pure cl
 names:∀x∈scope.names,x.2=.local→scope.names.lookup x.1=some .local
 nocell:∀x∈scope.names,x.2≠.cell
 cells:∀x c,cl.lookup x=some c→X.env.cells.lookup x=some c
 has:∀x,((relabel scope X.env).names.lookup x=some .cell∨(relabel scope X.env).names.lookup x=some .free)→∃c,cl.lookup x=some c
abbrev aT(X:Cx)(N:List Str)(scope:Scope)(cl:List (Str×Addr))(s:Shared)(H:Hp)(ex:List Addr):Cx :=
 {X with N:=N,s₀:=s,H₀:=H,env:=compEnvC scope cl s.heap.objs.size X.env,outer:=X.stack,stack:=X.stack,ex:=ex,fn:=λ_=>false,pn:=[],xe:=λ_ _=>False}
section
variable{X:Cx}{pins:List (Addr×Obj)}{σ:St}{H:Hp}{s:Shared}{N:List Str}{scope:Scope}{cl:List (Str×Addr)}{fp:List Addr}
theorem hU(I:Inv X pins σ H s)(L:LcOk X scope cl)(hf:∀b∈fp,cm X pins H b)(ho:∀b∈fp,b<s.heap.objs.size):(aT X N scope cl s H fp).Ok where
 mod:=I.ok.mod
 kind:=L.kind
 glob:=I.ok.glob
 blt:=I.ok.blt
 above:=le_refl _
 inj:=λx y c h1 h2=>I.ok.inj x y c (L.cells x c h1) (L.cells y c h2)
 has:=λx hx=>L.has x hx
 cab:=λx c h _=>absurd h (by simp)
 hd:=I.ok.hd
 frames:=I.ok.frames
 stk:=.inl rfl
 exf:=λb hb=>⟨ne_of_lt (ho b hb),λx c h=>(hf b hb).2.2.2.2.1 x c (L.cells x c h)⟩
 bs:=I.bs
 bsz:=le_trans I.ok.bsz I.sz
 noex:=λb o e hb=>by
  rcases (hf b hb).2.2.2.1 with z|z
  ·exact I.ok.noex b o e z
  ·exact absurd (lt_of_lt_of_le (lt_size e) (le_trans I.ok.bsz z)) (lt_irrefl _)
 exfs:=λb hb hs=>by
  rcases mem_cons.mp (I.stkSub b hs)with z|z
  ·exact(hf b hb).2.1 z
  ·exact(hf b hb).2.2.1 z
 funs:=I.stack
 frf:=I.stkFree
def bf(k:Nat)(js:List Nat)(σ:St):St:=List.replicate k none++js.map λj=>(σ[j]?).getD none
theorem cV{h₁:Heap}{tk:Nat}{k:Nat}{js:List Nat}(I:Inv X pins σ H s)(L:LcOk X scope cl)(hf:∀b∈fp,cm X pins H b)(ho:∀b∈fp,b<s.heap.objs.size)(hns:∃m,h₁.Ns s.heap.objs.size m)(hk:∀b o,s.heap.get? b=some o→h₁.get? b=some o)(hN:N.length=k+js.length)(hj:∀(i j:Nat) x,js[i]?=some j→N[k+i]?=some x→X.N[j]?=some x∧Vis X.env.scope x∧X.env.scope.names.lookup x≠some .local∧((relabel scope X.env).names.lookup x=some .cell∨(relabel scope X.env).names.lookup x=some .free)):
  Inv (aT X N scope cl s H fp) [] (bf k js σ) H {s with heap:=h₁,toks:=tk}:=by
 obtain⟨m,hm⟩:=hns;have cellK:∀c v,s.heap.IsCell c v→h₁.IsCell c v:=λc v ⟨o,e,d⟩=>⟨o,hk c o e,d⟩;refine⟨hU I L hf ho,rfl,I.bare,Un.kept hk,⟨m,hm,λi x v e1 e2 e3=>?_⟩,λx c e=>?_,I.hok.fresh (le_refl _),λx c e=>I.freeC x c (L.cells x c e),λp hp=>absurd (show p∈([]:List (Addr×Obj))from hp) (by simp),I.hok.kept hk,?_⟩
 ·unfold bf at e2
  by_cases hi:i<k
  ·rw[getElem?_append_left (by simpa using hi),List.getElem?_replicate]at e2
   split at e2<;>cases e2
  ·obtain⟨i',rfl⟩:∃i',i=k+i':=⟨i-k,by omega⟩;rw[getElem?_append_right (by simp),List.length_replicate,Nat.add_sub_cancel_left,getElem?_map]at e2;cases ej:js[i']? with
   |none=>rw[ej]at e2;cases e2
   |some j =>
    rw[ej]at e2;have e2':(σ[j]?).getD none=some v:=Option.some.inj e2;obtain⟨h1,h2,h3,h4⟩:=hj i' j x ej e1;have e4:σ[j]?=some (some v):=by
     cases q:σ[j]? with
     |none=>rw[q]at e2';cases e2'
     |some y=>rw[q]at e2';exact congrArg some e2'
    obtain⟨m0,_,hl⟩:=I.loc;obtain⟨u,r,lk⟩:=hl j x v h1 e4 h2;refine⟨u,r,.inr ⟨h4,?_⟩⟩;rcases lk with⟨q,_⟩|⟨_,c,e5,e6⟩
    ·exact absurd q h3
    ·obtain⟨c',e7⟩:=L.has x h4;have:c'=c:=Option.some.inj ((L.cells x c' e7).symm.trans e5);subst this;exact⟨c',e7,cellK c' _ e6⟩
 ·obtain⟨v,e1⟩:=I.cell x c (L.cells x c e);exact⟨v,cellK c v e1⟩
 ·unfold bf;rw[length_append,List.length_replicate,length_map];exact hN.symm
theorem gr{H':Hp}{σ':St}{s':Shared}{h':Heap}(I:Inv X pins σ H s)(hf:∀b∈fp,cm X pins H b)(J:Inv (aT X N scope cl s H fp) [] σ' H' s')(hs:SameBut s.heap.objs.size s'.heap h'):Inv X pins σ H' {s' with heap:=h'}:=by
 have ne:∀b o,s.heap.get? b=some o→b≠s.heap.objs.size:=λb o e=>ne_of_lt (lt_size e);have u:=J.base;have u':Un (frs X.stack) fp H H' s.heap h' :=
  ⟨λb o e n hb hx=>(hs.2 b (ne b o e)).trans (u.keep b o e n hb hx),λb o e n hb hx=>by
   obtain⟨sl,q⟩:=u.slot b o e n hb hx;exact⟨sl,(hs.2 b (ne b o e)).trans q⟩,u.free,λb o e hx=>by
   obtain⟨o',q⟩:=u.there b o e hx;exact⟨o',(hs.2 b (ne b o e)).trans q⟩,u.tups,u.frzs,u.tbls⟩
 have nt:∀b o,H' b=some o→b≠s.heap.objs.size:=λb o e z=>by
  have:=J.free;rw[show(aT X N scope cl s H fp).env.locals=s.heap.objs.size from rfl,←z,e]at this;cases this
 refine I.call' (s':={s' with heap:=h'}) J.os u' (λb o e=>?_) J.bare λb hb=>?_
 ·refine(J.hok b o e).stay (λc v hc q=>(hs.2 c ?_).trans q) (λ_ q=>q) λ_ _ q=>q;rcases hc with z|z
  ·rw[z];exact nt b o e
  ·exact nt c _ z
 ·obtain⟨f0,f1,f2,f3,f4,f5⟩:=hf b hb;exact⟨f3,f1,f4,f5⟩
end
section
variable{prog:Program}{w:World}{A:Around}{R:Result→Shared→Prop}{s:Shared}
theorem jo{elt target iter:Expr}{scope:Scope}{pos:Pos}{it acc:Value}{env:Env}(I:Nat→Shared→Prop)(turn:∀n s,I n s→wpAny (model prog w) A (pyNext it) (λr s₁=>match r with
   |none=>R (.ok .next) s₁
   | some v=>wpAny (model prog w) A (letOwnedTupleGo target it v) (λ_ s₂=>wpAny (model prog w) A (assign target env v) (λ_ s₃=>wpAny (model prog w) A (eval elt env) (λx s₄ =>
     wpAny (model prog w) A (call (.builtin "list.append") [acc,x]) (λ_ s₅=>∃m,m<n∧I m s₅) (λ_ _=>False) s₄) (λ_ _=>False) s₃) (λ_ _=>False) s₂) (λ_ _=>False) s₁) (λ_ _=>False) s)(n:Nat)(h:I n s):codeAny (model prog w) A (.compLoop (.ListComp elt [⟨target,iter,[],0⟩] scope pos) 0 it acc env) R s:=by
 refine codeAny_loop rfl I (λn s hI=>?_) n h;show wpAny _ _ ((compTurn (.ListComp elt [⟨target,iter,[],0⟩] scope pos) 0 it acc env).onRaise (λx=>do noteFrame x env;theTreesLotGoes x)) _ _ s;refine wpAny_noted ?_;rw[compTurn_list1];refine wpAny_bind (wpAny_standAt (wpAny_bind (wpAny_mono (turn n s hI) (λr s₁ h₁=>?_) λ_ _ h'=>h'.elim)));cases r with
 |none=>exact wpAny_pure h₁
 |some v =>
  refine wpAny_bind (wpAny_mono h₁ (λ_ s₂ h₂=>?_) λ_ _ h'=>h'.elim);exact wpAny_bind (wpAny_mono h₂ (λ_ s₂ h₂=>wpAny_bind (wpAny_bind (wpAny_mono h₂ (λx s₃ h₃=>wpAny_bind (wpAny_mono h₃
   (λ_ s₄ h₄=>wpAny_pure (wpAny_pure ⟨rfl,h₄⟩)) λ_ _ h'=>h'.elim)) λ_ _ h'=>h'.elim))) λ_ _ h'=>h'.elim)
theorem eE(elt target iter c:Expr)(scope:Scope)(pos:Pos)(it acc:Value)(env:Env):
  compTurn (.ListComp elt [⟨target,iter,[c],0⟩] scope pos) 0 it acc env=(standAt iter.pos >>= λ_=>pyNext it >>= λr=>match r with
   |none=>pure (.done .next)
   |some v=>letOwnedTupleGo target it v >>= λ_=>assign target env v >>= λ_ =>
    (forIn [c] true λc r=>if r=true then do let ok ← isTrue c env (eval c env);pure (ForInStep.yield ok)else pure (ForInStep.yield r)) >>= λok =>
    if ok=true then (eval elt env >>= λx=>call (.builtin "list.append") [acc,x] >>= λ_=>pure ()) >>= λ_ =>
     again (.compLoop (.ListComp elt [⟨target,iter,[c],0⟩] scope pos) 0 it acc env)
    else again (.compLoop (.ListComp elt [⟨target,iter,[c],0⟩] scope pos) 0 it acc env)):=by rfl
theorem hV{elt target iter c:Expr}{scope:Scope}{pos:Pos}{it acc:Value}{env:Env}(I:Nat→Shared→Prop)(turn:∀n s,I n s→wpAny (model prog w) A (pyNext it) (λr s₁=>match r with
   |none=>R (.ok .next) s₁
   | some v=>wpAny (model prog w) A (letOwnedTupleGo target it v) (λ_ s₂=>wpAny (model prog w) A (assign target env v) (λ_ s₃=>wpAny (model prog w) A (isTrue c env (eval c env)) (λok s₃ =>
     if ok=true then wpAny (model prog w) A (eval elt env) (λx s₄ =>
      wpAny (model prog w) A (call (.builtin "list.append") [acc,x]) (λ_ s₅=>∃m,m<n∧I m s₅) (λ_ _=>False) s₄) (λ_ _=>False) s₃
     else ∃m,m<n∧I m s₃) (λ_ _=>False) s₃) (λ_ _=>False) s₂) (λ_ _=>False) s₁) (λ_ _=>False) s)(n:Nat)(h:I n s):codeAny (model prog w) A (.compLoop (.ListComp elt [⟨target,iter,[c],0⟩] scope pos) 0 it acc env) R s:=by
 refine codeAny_loop rfl I (λn s hI=>?_) n h;show wpAny _ _ ((compTurn (.ListComp elt [⟨target,iter,[c],0⟩] scope pos) 0 it acc env).onRaise (λx=>do noteFrame x env;theTreesLotGoes x)) _ _ s;refine wpAny_noted ?_;rw[eE];refine wpAny_bind (wpAny_standAt (wpAny_bind (wpAny_mono (turn n s hI) (λr s₁ h₁=>?_) λ_ _ h'=>h'.elim)));cases r with
 |none=>exact wpAny_pure h₁
 |some v =>
  refine wpAny_bind (wpAny_mono h₁ (λ_ s₂ h₂=>?_) λ_ _ h'=>h'.elim);refine wpAny_bind (wpAny_mono h₂ (λ_ s₃ h₃=>?_) λ_ _ h'=>h'.elim);rw[List.forIn_cons];simp only[if_true];refine wpAny_bind (wpAny_bind (wpAny_bind (wpAny_mono h₃ (λok s₄ h₄=>wpAny_pure ?_) λ_ _ h'=>h'.elim)));simp only[List.forIn_nil];refine wpAny_pure ?_;cases ok with
  |true =>
   rw[if_pos rfl]at h₄⊢;exact wpAny_bind (wpAny_bind (wpAny_mono h₄ (λx s₃ h₃=>wpAny_bind (wpAny_mono h₃ (λ_ s₄ h₄=>wpAny_pure (wpAny_pure ⟨rfl,h₄⟩)) λ_ _ h'=>h'.elim)) λ_ _ h'=>h'.elim))
  |false =>
   rw[if_neg (by simp)]at h₄⊢;exact wpAny_pure ⟨rfl,h₄⟩
end
def LcW(k:Nat)(js:List Nat)(g:TG)(te:TE)(σ:St)(Q:VK)(J:It)(H1:Hp)(p:Addr):Prop:=∃W:Nat→Nat→List V→St→Hp→Prop,
 (∃m,W 0 m [] (bf k js σ) (upd H1 p (.lst [])))∧∀i m ys σ' H',W i m ys σ' H'→(J.stop i H'∧Q (.ref p) H') ∨
  (J.go i H'∧ys.length<sizeLine∧∀x H2,J.yld i H' x H2→g x σ' H2 λσ2 H3=>te σ2 H3 λy H4=>H4 p=some (.lst ys)∧∃m',m'<m∧W (i+1) m' (ys++[y]) σ2 (upd H4 p (.lst (ys++[y]))))
def tLc(k:Nat)(js:List Nat)(wi:TI)(g:TG)(te:TE):TE:=λσ H Q=>wi σ H λJ H1=>∀p,H1 p=none→LcW k js g te σ Q J H1 p
def qw(k:Nat)(js:List Nat)(g:TG)(tc:TT)(te:TE)(σ:St)(Q:VK)(J:It)(H1:Hp)(p:Addr):Prop:=∃W:Nat→Nat→List V→St→Hp→Prop,
 (∃m,W 0 m [] (bf k js σ) (upd H1 p (.lst [])))∧∀i m ys σ' H',W i m ys σ' H'→(J.stop i H'∧Q (.ref p) H') ∨
  (J.go i H'∧ys.length<sizeLine∧∀x H2,J.yld i H' x H2→g x σ' H2 λσ2 H3=>tc σ2 H3 λb H4=>if b=true then te σ2 H4 λy H5=>H5 p=some (.lst ys)∧∃m',m'<m∧W (i+1) m' (ys++[y]) σ2 (upd H5 p (.lst (ys++[y])))
   else ∃m',m'<m∧W (i+1) m' ys σ2 H4)
def qy(k:Nat)(js:List Nat)(wi:TI)(g:TG)(tc:TT)(te:TE):TE:=λσ H Q=>wi σ H λJ H1=>∀p,H1 p=none→qw k js g tc te σ Q J H1 p
section
variable{X:Cx}{N:List Str}{scope:Scope}{cl:List (Str×Addr)}{k:Nat}{js:List Nat}
theorem dC{elt tg iter:Expr}{pos:Pos}{wi:TI}{g:TG}{te:TE}(hc:X.calm=true)(L:LcOk X scope cl)(hN:N.length=k+js.length)(hj:∀(i j:Nat) x,js[i]?=some j→N[k+i]?=some x→X.N[j]?=some x∧Vis X.env.scope x∧X.env.scope.names.lookup x≠some .local∧((relabel scope X.env).names.lookup x=some .cell∨(relabel scope X.env).names.lookup x=some .free))(hi:PI X tg iter wi)(hg:∀s H fp,PG (aT X N scope cl s H fp) tg g)(he:∀s H fp,PE (aT X N scope cl s H fp) elt te)(hs:∀x,foldedSetIterable iter X.env x=pure x:=by intro _;rfl):PE X (.ListComp elt [⟨tg,iter,[],0⟩] scope pos) (tLc k js wi g te):=by
 intro pins s σ H Q I h;rw[eval_ListComp];refine wpAny_comprehension_free (use:=none) rfl hs L.clos L.kind L.names ?_;refine thn (hi pins s σ H _ I h) λv s1 h1=>thn h1 λitv s2 h2=>?_;obtain⟨it,fp,tn,J,H2,e,I2,T,st2,f2,hW⟩:=h2;subst e;have hfp:∀b∈fp,b<s2.heap.objs.size:=λb hb=>by
  obtain⟨o,e,_⟩:=T.obj _ _ st2 b hb;exact lt_size e
 refine wpAny_newObj_type (wpAny_newFunctionEnv L.nocell (by intro y hy;simp at hy) (λh₁ hns hsb=>?_) L.kind);dsimp only at hns hsb⊢;obtain⟨W,⟨m0,w0⟩,turn⟩:=hW s2.heap.objs.size (I2.hok.fresh (le_refl _));have I3:Inv X pins σ (upd H2 s2.heap.objs.size (.lst [])) {s2 with heap:=s2.heap.push {cls:=.type "list",dict:=none,data:=.seq ([]:List Value).toArray}}:=I2.lnew (t':=s2.toks) .nil (zero_le _)
 generalize hA:s2.heap.push {cls:=.type "list",dict:=none,data:=.seq ([]:List Value).toArray}=hpA at hns hsb I3⊢;have hszA:hpA.objs.size=s2.heap.objs.size+1:=by rw[←hA,size_push]
 have keepA:∀b o,s2.heap.get? b=some o→hpA.get? b=some o:=λb o e=>by rw[←hA];exact get?_push_of_some _ e
 have f3:∀b∈fp,cm X pins (upd H2 s2.heap.objs.size (.lst [])) b:=λb hb=>⟨by rw[ah (ne_of_lt (hfp b hb))];exact(f2 b hb).1,(f2 b hb).2⟩;have hfp3:∀b∈fp,b<hpA.objs.size:=λb hb=>by rw[hszA];exact lt_succ_of_lt (hfp b hb)
 have keep1:∀b o,hpA.get? b=some o→h₁.get? b=some o:=λb o e=>hsb.extBut b o (ne_of_lt (lt_size e)) (get?_push_of_some _ e);have J0:=cV (N:=N) (k:=k) (js:=js) (tk:=s2.toks+([]:List (Str×Value)).length) I3 L f3 hfp3 ⟨_,hns⟩ keep1 hN hj;have st1:tn 0 h₁:=T.keep _ _ _ st2 λb hb o e=>keep1 b o (keepA b o e);have stat:∀{H':Hp},(∀b∈fp,H' b=none)→∀b∈fp,cm (aT X N scope cl {s2 with heap:=hpA} (upd H2 s2.heap.objs.size (.lst [])) fp) [] H' b:=λhn b hb =>
  ⟨hn b hb,ne_of_lt (hfp3 b hb),(hU (N:=N) I3 L f3 hfp3).exfs b hb,.inl hb,λx c h=>(f3 b hb).2.2.2.2.1 x c (L.cells x c h),λp hp=>absurd (show p∈([]:List (Addr×Obj))from hp) (by simp)⟩
 have loop:codeAny (model X.prog X.w) X.A (.compLoop (.ListComp elt [⟨tg,iter,[],0⟩] scope pos) 0 (.ref it) (.ref s2.heap.objs.size) (compEnvC scope cl hpA.objs.size X.env))
   (compPost (model X.prog X.w) X.A X.xe none (EP X pins σ Q) (.ref s2.heap.objs.size) hpA.objs.size) {s2 with heap:=h₁,toks:=s2.toks+([]:List (Str×Value)).length}:=by
  refine jo (λn s'=>∃i ys σ' H',Inv (aT X N scope cl {s2 with heap:=hpA} (upd H2 s2.heap.objs.size (.lst [])) fp) [] σ' H' s'∧tn i s'.heap∧(∀b∈fp,H' b=none)∧W i n ys σ' H') ?_ m0 ⟨0,[],_,_,J0,st1,λb hb=>(f3 b hb).1,w0⟩
  rintro n s3 ⟨i,ys,σ3,H3,J3,st3,fr3,w3⟩;rcases turn i n ys σ3 H3 w3 with⟨stop,qn⟩|⟨go,hlen,step⟩
  ·refine thn (T.done (aT X N scope cl {s2 with heap:=hpA} (upd H2 s2.heap.objs.size (.lst [])) fp) rfl rfl rfl hc i [] s3 σ3 H3 (λ_ _=>False) J3 (stat fr3) st3 stop) λr s4 hpt=>?_
   obtain⟨hr,J4⟩:=hpt;subst hr;obtain⟨m,hm,_⟩:=J4.loc;exact⟨m,hm,λh' hs'=>⟨.ref s2.heap.objs.size,H3,gr I3 f3 J4 hs',rfl,qn⟩⟩
  ·refine thn (T.item (aT X N scope cl {s2 with heap:=hpA} (upd H2 s2.heap.objs.size (.lst [])) fp) rfl rfl rfl hc i [] s3 σ3 H3 (λ_ _=>False) J3 (stat fr3) st3 go) λr s4 hpt=>?_
   obtain⟨u,hr,h4⟩:=hpt;subst hr;refine thn h4 λ_ s5 hpt=>?_;obtain⟨x,H5,J5,r5,y5,st5,fr5⟩:=hpt;have J5':=J5.pinned (stat fr5) (T.obj _ _ st5);refine thn (hg _ _ _ _ s5 σ3 H5 x u _ J5' r5 (step x H5 y5)) λ_ s6 hpt=>?_;obtain⟨σ6,H6,J6,q6⟩:=hpt;refine thn (he _ _ _ _ s6 σ6 H6 _ J6 q6) λy s7 hpt=>?_;obtain⟨vy,H7,J7,r7,q7,m',hm',w7⟩:=hpt;refine thn (aO _ s7 σ6 H7 (.ref s2.heap.objs.size) [vy] _ _ (λ_ H8=>H8=upd H7 s2.heap.objs.size (.lst (ys++[vy]))) J7 rfl (.cons r7 .nil) ⟨_,ys,vy,rfl,rfl,q7,hlen,rfl⟩) λ_ s8 hpt=>?_;obtain⟨_,H8,J8,_,e8⟩:=hpt;subst e8;refine⟨m',hm',i+1,ys++[vy],σ6,_,J8.unpinned,T.keep _ _ _ st5 λb hb o e=>(J8.pin (b,o) (mem_append_right _ (mem_append_right _ (aw hb e)))).1,λb hb=>?_,w7⟩;obtain⟨o,e,d⟩:=T.obj _ _ st5 b hb;exact(J8.pin (b,o) (mem_append_right _ (mem_append_right _ (aw hb e)))).2.1
 exact codeAny_compStart_list loop (T.self _ 0 _ _ _ st1 loop)
theorem oY{elt tg iter c:Expr}{pos:Pos}{wi:TI}{g:TG}{tc:TT}{te:TE}(hc:X.calm=true)(L:LcOk X scope cl)(hN:N.length=k+js.length)(hj:∀(i j:Nat) x,js[i]?=some j→N[k+i]?=some x→X.N[j]?=some x∧Vis X.env.scope x∧X.env.scope.names.lookup x≠some .local∧((relabel scope X.env).names.lookup x=some .cell∨(relabel scope X.env).names.lookup x=some .free))(hi:PI X tg iter wi)(hg:∀s H fp,PG (aT X N scope cl s H fp) tg g)(ht:∀s H fp,PT (aT X N scope cl s H fp) c tc)(he:∀s H fp,PE (aT X N scope cl s H fp) elt te)(hs:∀x,foldedSetIterable iter X.env x=pure x:=by intro _;rfl):PE X (.ListComp elt [⟨tg,iter,[c],0⟩] scope pos) (qy k js wi g tc te):=by
 intro pins s σ H Q I h;rw[eval_ListComp];refine wpAny_comprehension_free (use:=none) rfl hs L.clos L.kind L.names ?_;refine thn (hi pins s σ H _ I h) λv s1 h1=>thn h1 λitv s2 h2=>?_;obtain⟨it,fp,tn,J,H2,e,I2,T,st2,f2,hW⟩:=h2;subst e;have hfp:∀b∈fp,b<s2.heap.objs.size:=λb hb=>by
  obtain⟨o,e,_⟩:=T.obj _ _ st2 b hb;exact lt_size e
 refine wpAny_newObj_type (wpAny_newFunctionEnv L.nocell (by intro y hy;simp at hy) (λh₁ hns hsb=>?_) L.kind);dsimp only at hns hsb⊢;obtain⟨W,⟨m0,w0⟩,turn⟩:=hW s2.heap.objs.size (I2.hok.fresh (le_refl _));have I3:Inv X pins σ (upd H2 s2.heap.objs.size (.lst [])) {s2 with heap:=s2.heap.push {cls:=.type "list",dict:=none,data:=.seq ([]:List Value).toArray}}:=I2.lnew (t':=s2.toks) .nil (zero_le _)
 generalize hA:s2.heap.push {cls:=.type "list",dict:=none,data:=.seq ([]:List Value).toArray}=hpA at hns hsb I3⊢;have hszA:hpA.objs.size=s2.heap.objs.size+1:=by rw[←hA,size_push]
 have keepA:∀b o,s2.heap.get? b=some o→hpA.get? b=some o:=λb o e=>by rw[←hA];exact get?_push_of_some _ e
 have f3:∀b∈fp,cm X pins (upd H2 s2.heap.objs.size (.lst [])) b:=λb hb=>⟨by rw[ah (ne_of_lt (hfp b hb))];exact(f2 b hb).1,(f2 b hb).2⟩;have hfp3:∀b∈fp,b<hpA.objs.size:=λb hb=>by rw[hszA];exact lt_succ_of_lt (hfp b hb)
 have keep1:∀b o,hpA.get? b=some o→h₁.get? b=some o:=λb o e=>hsb.extBut b o (ne_of_lt (lt_size e)) (get?_push_of_some _ e);have J0:=cV (N:=N) (k:=k) (js:=js) (tk:=s2.toks+([]:List (Str×Value)).length) I3 L f3 hfp3 ⟨_,hns⟩ keep1 hN hj;have st1:tn 0 h₁:=T.keep _ _ _ st2 λb hb o e=>keep1 b o (keepA b o e);have stat:∀{H':Hp},(∀b∈fp,H' b=none)→∀b∈fp,cm (aT X N scope cl {s2 with heap:=hpA} (upd H2 s2.heap.objs.size (.lst [])) fp) [] H' b:=λhn b hb =>
  ⟨hn b hb,ne_of_lt (hfp3 b hb),(hU (N:=N) I3 L f3 hfp3).exfs b hb,.inl hb,λx c h=>(f3 b hb).2.2.2.2.1 x c (L.cells x c h),λp hp=>absurd (show p∈([]:List (Addr×Obj))from hp) (by simp)⟩
 have loop:codeAny (model X.prog X.w) X.A (.compLoop (.ListComp elt [⟨tg,iter,[c],0⟩] scope pos) 0 (.ref it) (.ref s2.heap.objs.size) (compEnvC scope cl hpA.objs.size X.env))
   (compPost (model X.prog X.w) X.A X.xe none (EP X pins σ Q) (.ref s2.heap.objs.size) hpA.objs.size) {s2 with heap:=h₁,toks:=s2.toks+([]:List (Str×Value)).length}:=by
  refine hV (λn s'=>∃i ys σ' H',Inv (aT X N scope cl {s2 with heap:=hpA} (upd H2 s2.heap.objs.size (.lst [])) fp) [] σ' H' s'∧tn i s'.heap∧(∀b∈fp,H' b=none)∧W i n ys σ' H') ?_ m0 ⟨0,[],_,_,J0,st1,λb hb=>(f3 b hb).1,w0⟩
  rintro n s3 ⟨i,ys,σ3,H3,J3,st3,fr3,w3⟩;rcases turn i n ys σ3 H3 w3 with⟨stop,qn⟩|⟨go,hlen,step⟩
  ·refine thn (T.done (aT X N scope cl {s2 with heap:=hpA} (upd H2 s2.heap.objs.size (.lst [])) fp) rfl rfl rfl hc i [] s3 σ3 H3 (λ_ _=>False) J3 (stat fr3) st3 stop) λr s4 hpt=>?_
   obtain⟨hr,J4⟩:=hpt;subst hr;obtain⟨m,hm,_⟩:=J4.loc;exact⟨m,hm,λh' hs'=>⟨.ref s2.heap.objs.size,H3,gr I3 f3 J4 hs',rfl,qn⟩⟩
  ·refine thn (T.item (aT X N scope cl {s2 with heap:=hpA} (upd H2 s2.heap.objs.size (.lst [])) fp) rfl rfl rfl hc i [] s3 σ3 H3 (λ_ _=>False) J3 (stat fr3) st3 go) λr s4 hpt=>?_
   obtain⟨u,hr,h4⟩:=hpt;subst hr;refine thn h4 λ_ s5 hpt=>?_;obtain⟨x,H5,J5,r5,y5,st5,fr5⟩:=hpt;have J5':=J5.pinned (stat fr5) (T.obj _ _ st5);refine thn (hg _ _ _ _ s5 σ3 H5 x u _ J5' r5 (step x H5 y5)) λ_ s6 hpt=>?_;obtain⟨σ6,H6,J6,q6⟩:=hpt;refine thn (ht _ _ _ _ s6 σ6 H6 _ J6 q6) λb s6 hpt=>?_;obtain⟨H6,J6,q6⟩:=hpt;cases b with
   |true =>
    rw[if_pos rfl]at q6⊢;refine thn (he _ _ _ _ s6 σ6 H6 _ J6 q6) λy s7 hpt=>?_;obtain⟨vy,H7,J7,r7,q7,m',hm',w7⟩:=hpt;refine thn (aO _ s7 σ6 H7 (.ref s2.heap.objs.size) [vy] _ _ (λ_ H8=>H8=upd H7 s2.heap.objs.size (.lst (ys++[vy]))) J7 rfl (.cons r7 .nil) ⟨_,ys,vy,rfl,rfl,q7,hlen,rfl⟩) λ_ s8 hpt=>?_;obtain⟨_,H8,J8,_,e8⟩:=hpt;subst e8;refine⟨m',hm',i+1,ys++[vy],σ6,_,J8.unpinned,T.keep _ _ _ st5 λb hb o e=>(J8.pin (b,o) (mem_append_right _ (mem_append_right _ (aw hb e)))).1,λb hb=>?_,w7⟩;obtain⟨o,e,d⟩:=T.obj _ _ st5 b hb;exact(J8.pin (b,o) (mem_append_right _ (mem_append_right _ (aw hb e)))).2.1
   |false =>
    rw[if_neg (by simp)]at q6⊢;obtain⟨m',hm',w7⟩:=q6;refine⟨m',hm',i+1,ys,σ6,_,J6.unpinned,T.keep _ _ _ st5 λb hb o e=>(J6.pin (b,o) (mem_append_right _ (mem_append_right _ (aw hb e)))).1,λb hb=>?_,w7⟩;obtain⟨o,e,d⟩:=T.obj _ _ st5 b hb;exact(J6.pin (b,o) (mem_append_right _ (mem_append_right _ (aw hb e)))).2.1
 exact codeAny_compStart_list loop (T.self _ 0 _ _ _ st1 loop)
end
end L2
namespace TB
open PySem SetTable
section
variable{prog:Program}{w:World}{K:Type}[DecidableEq K]{knd:KeyKind prog w K}{A:Around}{E:Value→Shared→Prop}{s:Shared}
end
section
variable{prog:Program}{w:World}{K:Type}[DecidableEq K](knd:KeyKind prog w K)
variable{knd}
variable{A:Around}{E:Value→Shared→Prop}{s:Shared}
end
section
variable{prog:Program}{w:World}{K:Type}[DecidableEq K]{knd:KeyKind prog w K}{A:Around}{E:Value→Shared→Prop}{s:Shared}
end
section
variable{prog:Program}{w:World}{K:Type}[DecidableEq K]{knd:KeyKind prog w K}{A:Around}{R:Result→Shared→Prop}{I:Addr}{fp wr:List Addr}{G:Array GenState→Array GenState→Prop}{n:Nat}{P:Nat→Value→Prop}{St:Nat→Shared→Prop}
end
section
variable{prog:Program}{w:World}{K:Type}[DecidableEq K]{knd:KeyKind prog w K}{A:Around}{E:Value→Shared→Prop}{s:Shared}
end
end TB
namespace SRT
open PySem PySem.W PyProof.Rows
def run{α:Type}(f:Nat→Nat→Bool):KasT α→α
 |.ret a=>a
 |.ask i j k=>run f (k (f i j))
theorem bR{α β:Type}(f:Nat→Nat→Bool)(g:α→KasT β):∀t:KasT α,run f (t.bind g)=run f (g (run f t))
 |.ret a=>rfl
 |.ask i j k=>bR f g (k (f i j))
def path{α:Type}(f:Nat→Nat→Bool)(n:Nat):KasT α→Prop
 |.ret _=>True
 |.ask i j k=>i<n∧j<n∧path f n (k (f i j))
theorem bx{α β:Type}{f:Nat→Nat→Bool}{n:Nat}{g:α→KasT β}:∀{t:KasT α},path f n t→path f n (g (run f t))→path f n (t.bind g)
 |.ret a,_,h=>h
 |.ask i j k,h,h'=>⟨h.1,h.2.1,bx (t:=k (f i j)) h.2.2 h'⟩
theorem jp{α:Type}{f:Nat→Nat→Bool}{n:Nat}{cmp:Nat→Nat→(Bool→Shared→Prop)→Shared→Prop}{s:Shared}(hc:∀i j C,i<n→j<n→C (f i j) s→cmp i j C s)(Q:α→Shared→Prop):∀t:KasT α,path f n t→Q (run f t) s→t.kasWp cmp Q s
 |.ret a,_,h=>h
 |.ask i j k,p,h=>hc i j _ p.1 p.2.1 (jp hc Q (k (f i j)) p.2.2 h)
structure Ord(f:Nat→Nat→Bool)(n:Nat):Prop where
 irr:∀i,i<n→f i i=false
 tr:∀i j k,i<n→j<n→k<n→f i j=true→f j k=true→f i k=true
 tot:∀i j,i<n→j<n→i≠j→f i j=true∨f j i=true
section
variable{f:Nat→Nat→Bool}{n:Nat}
structure Row(n:Nat)(p:Array Nat):Prop where
 perm:p.toList.Perm (List.range n)
theorem Row.size{p:Array Nat}(r:Row n p):p.size=n:=by have:=r.perm.length_eq;simpa using this
theorem Row.lt{p:Array Nat}(r:Row n p){i:Nat}(hi:i<n):p.getD i 0<n:=by
 have hs:=r.size;have:p.getD i 0∈p.toList:=by
  rw[getD_eq_getD_getElem?,Array.getElem?_eq_getElem (by omega)];exact Array.getElem_mem_toList (by omega)
 exact mem_range.mp (r.perm.mem_iff.mp this)
theorem Row.ne{p:Array Nat}(r:Row n p){i j:Nat}(hi:i<n)(hj:j<n)(hij:i≠j):p.getD i 0≠p.getD j 0:=by
 have hs:=r.size;have nd:p.toList.Nodup:=r.perm.nodup_iff.mpr List.nodup_range;rw[getD_eq_getD_getElem?,getD_eq_getD_getElem?,Array.getElem?_eq_getElem (by omega),Array.getElem?_eq_getElem (by omega)];intro e;have e':p.toList[i]'(by simpa using (by omega:i<p.size))=p.toList[j]'(by simpa using (by omega:j<p.size)):=by simpa using e
 exact hij ((getElem_inj nd).mp e')
theorem Row.rev{p:Array Nat}(r:Row n p)(i j:Nat):Row n (kas_rev p i j):=⟨(Array.perm_iff_toList_perm.mp (mirror_perm p i j _)).trans r.perm⟩
theorem Row.bub{p:Array Nat}(r:Row n p)(i j:Nat):Row n (bubble p i j):=⟨(Array.perm_iff_toList_perm.mp (bubble_perm p i j)).trans r.perm⟩
def Up(f:Nat→Nat→Bool)(p:Array Nat)(m:Nat):Prop:=∀i j,i<j→j<m→f (p.getD i 0) (p.getD j 0)=true
theorem nk(O:Ord f n){p:Array Nat}(r:Row n p){m:Nat}(hm:m<n)(h1:1≤m)(u:Up f p m)(h:f (p.getD m 0) (p.getD (m-1) 0)=false):Up f p (m+1):=by
 have hl:f (p.getD (m-1) 0) (p.getD m 0)=true:=by
  rcases O.tot _ _ (r.lt (i:=m) hm) (r.lt (i:=m-1) (by omega)) (r.ne hm (by omega) (by omega))with z|z
  ·rw[h]at z;cases z
  ·exact z
 intro i j hij hj
 by_cases e:j=m
 ·subst e
  by_cases e2:i=j-1
  ·rw[e2];exact hl
  ·exact O.tr _ _ _ (r.lt (by omega)) (r.lt (by omega)) (r.lt hm) (u i (j-1) (by omega) (by omega)) hl
 ·exact u i j hij (by omega)
theorem gs(O:Ord f n){p:Array Nat}(r:Row n p):∀(fuel m:Nat),1≤m→m+fuel≤n→Up f p m →
  m≤run f (kas_asc p fuel m)∧run f (kas_asc p fuel m)≤m+fuel∧Up f p (run f (kas_asc p fuel m))∧(run f (kas_asc p fuel m)<m+fuel→f (p.getD (run f (kas_asc p fuel m)) 0) (p.getD (run f (kas_asc p fuel m)-1) 0)=true)
 |0,m,_,_,u=>⟨le_refl _,le_refl _,u,λh=>absurd h (by simp[kas_asc,run])⟩
 |fuel+1,m,h1,hm,u=>by
  cases e:f (p.getD m 0) (p.getD (m-1) 0)with
  |true =>
   have er:run f (kas_asc p (fuel+1) m)=m:=by
    show run f (if f (p.getD m 0) (p.getD (m-1) 0)=true then KasT.ret m else kas_asc p fuel (m+1))=m
    rw[e,if_pos rfl];rfl
   rw[er];exact⟨le_refl _,by omega,u,λ_=>e⟩
  |false =>
   have er:run f (kas_asc p (fuel+1) m)=run f (kas_asc p fuel (m+1)):=by
    show run f (if f (p.getD m 0) (p.getD (m-1) 0)=true then KasT.ret m else kas_asc p fuel (m+1))=_
    rw[e,if_neg (by simp)]
   rw[er];obtain⟨a1,a2,a3,a4⟩:=gs O r fuel (m+1) (by omega) (by omega) (nk O r (by omega) h1 u e);exact⟨by omega,by omega,a3,λh=>a4 (by omega)⟩
def oZ(f:Nat→Nat→Bool)(p:Array Nat)(m:Nat):Prop:=∀i j,i<j→j<m→f (p.getD j 0) (p.getD i 0)=true
theorem gu(O:Ord f n){p:Array Nat}(r:Row n p):∀(fuel m:Nat),1≤m→m+fuel≤n→oZ f p m →
  ∃m',run f (kas_desc fuel p m 0)=(p,m',0)∧m≤m'∧m'≤m+fuel∧oZ f p m'
 |0,m,_,_,u=>⟨m,rfl,le_refl _,le_refl _,u⟩
 |fuel+1,m,h1,hm,u=>by
  cases e:f (p.getD m 0) (p.getD (m-1) 0)with
  |true =>
   have er:run f (kas_desc (fuel+1) p m 0)=run f (kas_desc fuel p (m+1) 0):=by
    show run f (if f (p.getD m 0) (p.getD (m-1) 0)=true then (if 0>0 then _ else kas_desc fuel p (m+1) 0)else _)=_
    rw[e,if_pos rfl,if_neg (by omega)]
   rw[er];obtain⟨m',a1,a2,a3,a4⟩:=gu O r fuel (m+1) (by omega) (by omega) (by
    intro i j hij hj
    by_cases ej:j=m
    ·subst ej
     by_cases e2:i=j-1
     ·rw[e2];exact e
     ·exact O.tr _ _ _ (r.lt (by omega)) (r.lt (i:=j-1) (by omega)) (r.lt (by omega)) e (u i (j-1) (by omega) (by omega))
    ·exact u i j hij (by omega))
   exact⟨m',a1,by omega,by omega,a4⟩
  |false =>
   have e2:f (p.getD (m-1) 0) (p.getD m 0)=true:=by
    rcases O.tot _ _ (r.lt (i:=m) (by omega)) (r.lt (i:=m-1) (by omega)) (r.ne (by omega) (by omega) (by omega))with z|z
    ·rw[e]at z;cases z
    ·exact z
   have er:run f (kas_desc (fuel+1) p m 0)=(p,m,0):=by
    show run f (if f (p.getD m 0) (p.getD (m-1) 0)=true then _ else KasT.ask (p.getD (m-1) 0) (p.getD m 0) λd=>if d=true then .ret (p,m,0)else kas_desc fuel p (m+1) (0+1))=_
    rw[e,if_neg (by simp)];show run f (if f (p.getD (m-1) 0) (p.getD m 0)=true then KasT.ret (p,m,0)else kas_desc fuel p (m+1) (0+1))=_
    rw[e2,if_pos rfl];rfl
   exact⟨m,er,le_refl _,by omega,u⟩
theorem jq{p:Array Nat}{m:Nat}(hm:m≤p.size)(k:Nat)(hk:k<m):(kas_rev p 0 m).getD k 0=p.getD (m-1-k) 0:=by
 unfold kas_rev;rw[getD_eq_getD_getElem?,getElem?_mirror_all hm k,if_pos ⟨by omega,hk⟩,getD_eq_getD_getElem?]
 congr 2
 omega
theorem pb{p:Array Nat}{m:Nat}(hm:m≤p.size)(d:oZ f p m):Up f (kas_rev p 0 m) m:=by
 intro i j hij hj;rw[jq hm i (by omega),jq hm j hj];exact d _ _ (by omega) (by omega)
theorem hX(O:Ord f n){p:Array Nat}(r:Row n p)(h2:1≤n):∃m p',run f (kas_count n p)=(m,p')∧1≤m∧m≤n∧Row n p'∧Up f p' m:=by
 obtain⟨a1,a2,a3,a4⟩:=gs O r (n-1) 1 (by omega) (by omega) (by intro i j hij hj;omega);have er:run f (kas_count n p)=run f (if (run f (kas_asc p (n-1) 1)==n)=true then KasT.ret (run f (kas_asc p (n-1) 1),p)else if run f (kas_asc p (n-1) 1)>1 then .ask (p.getD 0 0) (p.getD (run f (kas_asc p (n-1) 1)-1) 0) λc=>if c=true then .ret (run f (kas_asc p (n-1) 1),p)else kas_descPart (run f (kas_asc p (n-1) 1)) n (kas_rev p 0 (run f (kas_asc p (n-1) 1)))
  else kas_descPart (run f (kas_asc p (n-1) 1)) n p):=by
  unfold kas_count;rw[bR]
 rw[er];generalize run f (kas_asc p (n-1) 1)=m at a1 a2 a3 a4⊢
 by_cases e:m=n
 ·rw[if_pos (by simp[e])];exact⟨m,p,rfl,a1,by omega,r,a3⟩
 ·rw[if_neg (by simpa using e)]
  by_cases e1:m>1
  ·rw[if_pos e1];refine⟨m,p,?_,a1,by omega,r,a3⟩;show run f (if f (p.getD 0 0) (p.getD (m-1) 0)=true then KasT.ret (m,p)else _)=_
   rw[a3 0 (m-1) (by omega) (by omega),if_pos rfl];rfl
  ·rw[if_neg e1];have em:m=1:=by omega
   subst em;have hd:=a4 (by omega);unfold kas_descPart;obtain⟨m',b1,b2,b3,b4⟩:=gu O r (n-(1+1)) (1+1) (by omega) (by omega) (by
    intro i j hij hj;have:i=0∧j=1:=by omega
    rw[this.1,this.2];exact hd)
   rw[bR,b1];dsimp only;rw[if_neg (by omega)];unfold kas_tail3;have hs:=r.size;have ur:=pb (f:=f) (by omega:m'≤p.size) b4;obtain⟨c1,c2,c3,c4⟩:=gs O (r.rev 0 m') (n-m') m' (by omega) (by omega) ur;rw[bR];exact⟨_,_,rfl,by omega,by omega,r.rev 0 m',c3⟩
theorem cW(O:Ord f n){p:Array Nat}(r:Row n p){k:Nat}(hk:k<n)(u:Up f p k):∀(fuel l r':Nat),r'-l≤fuel→l≤r'→r'≤k →
  (∀i,i<l→f (p.getD i 0) (p.getD k 0)=true)→(∀i,r'≤i→i<k→f (p.getD k 0) (p.getD i 0)=true) →
  run f (kas_place p k fuel l r')≤k∧(∀i,i<run f (kas_place p k fuel l r')→f (p.getD i 0) (p.getD k 0)=true)∧(∀i,run f (kas_place p k fuel l r')≤i→i<k→f (p.getD k 0) (p.getD i 0)=true)
 |0,l,r',h1,h2,h3,h4,h5=>by
  have:l=r':=by omega
  subst this;exact⟨h3,h4,h5⟩
 |fuel+1,l,r',h1,h2,h3,h4,h5=>by
  unfold kas_place
  by_cases e:l≥r'
  ·rw[if_pos e];have:l=r':=by omega
   subst this;exact⟨h3,h4,h5⟩
  ·rw[if_neg e];have hmid:(l+r') / 2<k:=by omega
   cases c:f (p.getD k 0) (p.getD ((l+r') / 2) 0)with
   |true =>
    have er:run f (KasT.ask (p.getD k 0) (p.getD ((l+r') / 2) 0) λc=>if c=true then kas_place p k fuel l ((l+r') / 2)else kas_place p k fuel ((l+r') / 2+1) r')=run f (kas_place p k fuel l ((l+r') / 2)):=by
     show run f (if f (p.getD k 0) (p.getD ((l+r') / 2) 0)=true then _ else _)=_
     rw[c,if_pos rfl]
    rw[er];refine cW O r hk u fuel l _ (by omega) (by omega) (by omega) h4 (λi hi hik=>?_)
    by_cases ei:i=(l+r') / 2
    ·rw[ei];exact c
    ·exact O.tr _ _ _ (r.lt hk) (r.lt (i:=(l+r') / 2) (by omega)) (r.lt (by omega)) c (u _ _ (by omega) hik)
   |false =>
    have er:run f (KasT.ask (p.getD k 0) (p.getD ((l+r') / 2) 0) λc=>if c=true then kas_place p k fuel l ((l+r') / 2)else kas_place p k fuel ((l+r') / 2+1) r')=run f (kas_place p k fuel ((l+r') / 2+1) r'):=by
     show run f (if f (p.getD k 0) (p.getD ((l+r') / 2) 0)=true then _ else _)=_
     rw[c,if_neg (by simp)]
    rw[er];have c':f (p.getD ((l+r') / 2) 0) (p.getD k 0)=true:=by
     rcases O.tot _ _ (r.lt (i:=k) hk) (r.lt (i:=(l+r') / 2) (by omega)) (r.ne hk (by omega) (by omega))with z|z
     ·rw[c]at z;cases z
     ·exact z
    refine cW O r hk u fuel _ r' (by omega) (by omega) h3 (λi hi=>?_) h5
    by_cases ei:i=(l+r') / 2
    ·rw[ei];exact c'
    ·exact O.tr _ _ _ (r.lt (by omega)) (r.lt (i:=(l+r') / 2) (by omega)) (r.lt hk) (u i _ (by omega) (by omega)) c'
theorem dL{p:Array Nat}{k l:Nat}(hk:k<p.size)(hl:l≤k)(i:Nat):(bubble p k (k-l)).getD i 0=if i=l then p.getD k 0 else if l<i∧i≤k then p.getD (i-1) 0 else p.getD i 0:=by
 simp only[getD_eq_getD_getElem?];rw[getElem?_bubble hk (k-l) (by omega) i];have e:k-(k-l)=l:=by omega
 rw[e]
 by_cases h1:i=l
 ·rw[if_pos h1,if_pos h1]
 ·rw[if_neg h1,if_neg h1]
  by_cases h2:l<i∧i≤k
  ·rw[if_pos h2,if_pos h2]
  ·rw[if_neg h2,if_neg h2]
theorem lz(O:Ord f n):∀(fuel:Nat)(p:Array Nat)(k:Nat),Row n p→k+fuel=n→Up f p k→Row n (run f (kas_bin fuel p k))∧Up f (run f (kas_bin fuel p k)) n
 |0,p,k,r,hk,u=>by
  have:k=n:=by omega
  subst this;exact⟨r,u⟩
 |fuel+1,p,k,r,hk,u=>by
  have hkn:k<n:=by omega
  obtain⟨a1,a2,a3⟩:=cW O r hkn u k 0 k (by omega) (by omega) (le_refl _) (λi hi=>by omega) (λi h1 h2=>by omega);have er:run f (kas_bin (fuel+1) p k)=run f (kas_bin fuel (bubble p k (k-run f (kas_place p k k 0 k))) (k+1)):=by
   show run f ((kas_place p k k 0 k).bind λl=>kas_bin fuel (bubble p k (k-l)) (k+1))=_;rw[bR]
  rw[er];generalize run f (kas_place p k k 0 k)=l at a1 a2 a3⊢;have hs:=r.size;refine lz O fuel _ (k+1) (r.bub _ _) (by omega) ?_;intro i j hij hj;rw[dL (by omega) a1 i,dL (by omega) a1 j]
  by_cases ei:i=l
  ·rw[if_pos ei,if_neg (by omega),if_pos ⟨by omega,by omega⟩];exact a3 (j-1) (by omega) (by omega)
  ·rw[if_neg ei]
   by_cases ej:j=l
   ·rw[if_pos ej,if_neg (by omega)];exact a2 i (by omega)
   ·rw[if_neg ej]
    by_cases hi2:l<i∧i≤k
    ·rw[if_pos hi2,if_pos ⟨by omega,by omega⟩];exact u _ _ (by omega) (by omega)
    ·rw[if_neg hi2]
     by_cases hj2:l<j∧j≤k
     ·rw[if_pos hj2]
      by_cases e3:i=j-1
      ·omega
      ·exact u i (j-1) (by omega) (by omega)
     ·rw[if_neg hj2];exact u i j hij (by omega)
theorem eF{p:Array Nat}(r:Row n p):∀(fuel m:Nat),1≤m→m+fuel≤n→path f n (kas_asc p fuel m)
 |0,m,_,_=>trivial
 |fuel+1,m,h1,hm=>by
  refine⟨r.lt (by omega),r.lt (by omega),?_⟩;show path f n (if f (p.getD m 0) (p.getD (m-1) 0)=true then KasT.ret m else kas_asc p fuel (m+1))
  split
  ·exact trivial
  ·exact eF r fuel (m+1) (by omega) (by omega)
theorem fA(O:Ord f n){p:Array Nat}(r:Row n p):∀(fuel m:Nat),1≤m→m+fuel≤n→path f n (kas_desc fuel p m 0)
 |0,m,_,_=>trivial
 |fuel+1,m,h1,hm=>by
  refine⟨r.lt (by omega),r.lt (by omega),?_⟩;show path f n (if f (p.getD m 0) (p.getD (m-1) 0)=true then (if 0>0 then _ else kas_desc fuel p (m+1) 0)else KasT.ask (p.getD (m-1) 0) (p.getD m 0) λd=>if d=true then .ret (p,m,0)else kas_desc fuel p (m+1) (0+1))
  cases e:f (p.getD m 0) (p.getD (m-1) 0)with
  |true =>
   rw[if_pos rfl,if_neg (by omega)];exact fA O r fuel (m+1) (by omega) (by omega)
  |false =>
   rw[if_neg (by simp)];have e2:f (p.getD (m-1) 0) (p.getD m 0)=true:=by
    rcases O.tot _ _ (r.lt (i:=m) (by omega)) (r.lt (i:=m-1) (by omega)) (r.ne (by omega) (by omega) (by omega))with z|z
    ·rw[e]at z;cases z
    ·exact z
   refine⟨r.lt (by omega),r.lt (by omega),?_⟩;dsimp only;rw[e2,if_pos rfl];exact trivial
theorem iM(O:Ord f n){p:Array Nat}(r:Row n p)(h2:1≤n):path f n (kas_count n p):=by
 obtain⟨a1,a2,a3,a4⟩:=gs O r (n-1) 1 (by omega) (by omega) (by intro i j hij hj;omega);unfold kas_count;refine bx (eF r _ _ (by omega) (by omega)) ?_;generalize run f (kas_asc p (n-1) 1)=m at a1 a2 a3 a4⊢
 by_cases e:m=n
 ·rw[if_pos (by simp[e])];exact trivial
 ·rw[if_neg (by simpa using e)]
  by_cases e1:m>1
  ·rw[if_pos e1];refine⟨r.lt (by omega),r.lt (by omega),?_⟩;dsimp only;rw[a3 0 (m-1) (by omega) (by omega),if_pos rfl];exact trivial
  ·rw[if_neg e1];have em:m=1:=by omega
   subst em;have hd:=a4 (by omega);unfold kas_descPart;refine bx (fA O r _ _ (by omega) (by omega)) ?_;obtain⟨m',b1,b2,b3,b4⟩:=gu O r (n-(1+1)) (1+1) (by omega) (by omega) (by
    intro i j hij hj;have:i=0∧j=1:=by omega
    rw[this.1,this.2];exact hd)
   rw[b1];dsimp only;rw[if_neg (by omega)];unfold kas_tail3;exact bx (eF (r.rev 0 m') _ _ (by omega) (by omega)) trivial
theorem cI{p:Array Nat}(r:Row n p){k:Nat}(hk:k<n):∀(fuel l r':Nat),r'≤k→path f n (kas_place p k fuel l r')
 |0,l,r',_=>trivial
 |fuel+1,l,r',h=>by
  unfold kas_place
  by_cases e:l≥r'
  ·rw[if_pos e];exact trivial
  ·rw[if_neg e];refine⟨r.lt hk,r.lt (by omega),?_⟩;dsimp only
   split
   ·exact cI r hk fuel _ _ (by omega)
   ·exact cI r hk fuel _ _ h
theorem hZ(O:Ord f n):∀(fuel:Nat)(p:Array Nat)(k:Nat),Row n p→k+fuel=n→Up f p k→path f n (kas_bin fuel p k)
 |0,p,k,r,hk,u=>trivial
 |fuel+1,p,k,r,hk,u=>by
  have hkn:k<n:=by omega
  show path f n ((kas_place p k k 0 k).bind λl=>kas_bin fuel (bubble p k (k-l)) (k+1));refine bx (cI r hkn _ _ _ (le_refl _)) ?_;obtain⟨a1,a2,a3⟩:=cW O r hkn u k 0 k (by omega) (by omega) (le_refl _) (λi hi=>by omega) (λi h1 h2=>by omega);generalize run f (kas_place p k k 0 k)=l at a1 a2 a3⊢;have hs:=r.size;refine hZ O fuel _ (k+1) (r.bub _ _) (by omega) ?_;intro i j hij hj;rw[dL (by omega) a1 i,dL (by omega) a1 j]
  by_cases ei:i=l
  ·rw[if_pos ei,if_neg (by omega),if_pos ⟨by omega,by omega⟩];exact a3 (j-1) (by omega) (by omega)
  ·rw[if_neg ei]
   by_cases ej:j=l
   ·rw[if_pos ej,if_neg (by omega)];exact a2 i (by omega)
   ·rw[if_neg ej]
    by_cases hi2:l<i∧i≤k
    ·rw[if_pos hi2,if_pos ⟨by omega,by omega⟩];exact u _ _ (by omega) (by omega)
    ·rw[if_neg hi2]
     by_cases hj2:l<j∧j≤k
     ·rw[if_pos hj2]
      by_cases e3:i=j-1
      ·omega
      ·exact u i (j-1) (by omega) (by omega)
     ·rw[if_neg hj2];exact u i j hij (by omega)
theorem jZ(O:Ord f n)(h:1≤n):path f n (kas_sort n):=by
 have r0:Row n (toArray (List.range n)):=⟨by simp⟩;obtain⟨m,p',e,h1,h2,r,u⟩:=hX O r0 h;unfold kas_sort;refine bx (iM O r0 h) ?_;rw[e];dsimp only
 by_cases hm:m<n
 ·rw[if_pos hm];have:max m 1=m:=by omega
  rw[this];exact hZ O (n-m) p' m r (by omega) u
 ·rw[if_neg hm];exact trivial
theorem nn(O:Ord f n)(h:1≤n):Row n (run f (kas_sort n))∧Up f (run f (kas_sort n)) n:=by
 have r0:Row n (toArray (List.range n)):=⟨by simp⟩;obtain⟨m,p',e,h1,h2,r,u⟩:=hX O r0 h;unfold kas_sort;rw[bR,e];dsimp only
 by_cases hm:m<n
 ·rw[if_pos hm];have:max m 1=m:=by omega
  rw[this];exact lz O (n-m) p' m r (by omega) u
 ·rw[if_neg hm];have:m=n:=by omega
  subst this;exact⟨r,u⟩
end
section
variable{prog:Program}{w:World}{A:Around}{E:Value→Shared→Prop}{s:Shared}
theorem nq{vs:List Value}(h:vs.length<2):((vs.toArray.zip vs.toArray).map (·.2)).toList=(toArray ((toArray (List.range vs.length)).toList.map λi=>vs.getD i Value.none)).toList:=by
 cases vs with
 |nil=>simp
 |cons v r =>
  cases r with
  |nil=>simp
  |cons u r=>exact absurd h (by simp)
theorem gv{f:Nat→Nat→Bool}{a:Addr}{vs:List Value}{n:Nat}{κ:SortKind}{P:PySem.Fin→Shared→Prop}(O:Ord f vs.length)(ho:s.heap.get? a=some (seqObj "list" vs.toArray n))(h64:vs.length<64)(hk:∀s':Shared,(∀b o,b≠a→s.heap.get? b=some o→s'.heap.get? b=some o)→∀Q:SortKind→Shared→Prop,2≤vs.length→Q κ s'→wpAny (model prog w) A (keyKind' vs.toArray) Q (λ_ _=>False) s')(hlt:∀s':Shared,(∀b o,b≠a→s.heap.get? b=some o→s'.heap.get? b=some o)→∀(i j:Nat) (C:Bool→Shared→Prop),i<vs.length→j<vs.length→C (f i j) s'→wpAny (model prog w) A (keyLt' κ (vs.getD i Value.none) (vs.getD j Value.none)) C (λ_ _=>False) s')(h:∀p:Array Nat,Row vs.length p→Up f p vs.length→P (.done (.ret .none)) {s with heap:=sortedHeap s.heap a vs (toArray (p.toList.map λi=>vs.getD i Value.none))}):
  wpAny (model prog w) A (Builtin.«list.sort» ⟨[.ref a],[]⟩) P E s:=by
 have ha:a<s.heap.objs.size:=lt_size ho;have s1:=SameBut.update s.heap a (Obj.mapSeq λ_=>(#[]:Array Value));obtain⟨e1,ho1⟩:∃e1,(s.heap.update a (Obj.mapSeq λ_=>(#[]:Array Value))).get? a=some (seqObj "list" #[] e1):=⟨_,get?_update_seq ho λ_=>#[]⟩;rw[list_sort_plain];refine wpAny_bind (listItems_at ho rfl ?_);refine wpAny_bind (listUpdate_at ho rfl ?_ (by rw[size_toArray,sizeLine_eq];omega) (zero_le _));refine wpAny_bind (seqEpoch_at ho1 rfl ?_);refine wpAny_bind (wpAny_newTuple ?_ (by show vs.length≤_;rw[sizeLine_eq];omega));refine wpAny_bind (wpAny_newList ?_ (zero_le _));refine wpAny_holding ?_;have ho6:(((s.heap.update a (Obj.mapSeq λ_=>(#[]:Array Value))).push (seqObj "tuple" vs.toArray 0)).push (seqObj "list" #[] 0)).get? a=some (seqObj "list" #[] e1):=get?_push_of_some _ (get?_push_of_some _ ho1);have keep:∀b o,b≠a→s.heap.get? b=some o→(((s.heap.update a (Obj.mapSeq λ_=>(#[]:Array Value))).push (seqObj "tuple" vs.toArray 0)).push (seqObj "list" #[] 0)).get? b=some o:=λb o hb e =>
  get?_push_of_some _ (get?_push_of_some _ ((s1.2 b hb).trans e))
 show wpAny (model prog w) A _ P E {s with heap:=((s.heap.update a (Obj.mapSeq λ_=>(#[]:Array Value))).push (seqObj "tuple" vs.toArray 0)).push (seqObj "list" #[] 0)}
 dsimp only
 by_cases hn2:vs.toArray.size<2
 ·rw[if_pos hn2,if_pos hn2];refine wpAny_bind (wpAny_pure ?_);rw[StateT.run_pure];refine wpAny_bind (wpAny_pure ?_);dsimp only;have hn2':vs.length<2:=by simpa using hn2
  have hr:Row vs.length (toArray (List.range vs.length)):=⟨by simp⟩;have hu:Up f (toArray (List.range vs.length)) vs.length:=λi j hij hj=>by omega
  have e2:(arrOf (SortSt.mk' general' (vs.toArray.zip vs.toArray) #[] 7 none)).map (·.2)=toArray ((toArray (List.range vs.length)).toList.map λi=>vs.getD i Value.none):=by
   show(vs.toArray.zip vs.toArray).map (·.2)=_;apply Array.toList_inj.mp;exact nq hn2'
  refine wpAny_bind (seqEpoch_at ho6 rfl ?_);rw[e2];refine wpAny_bind (listUpdate_at ho6 rfl ?_ (zero_le _) (by rw[size_toArray,length_map,length_toList,hr.size,sizeLine_eq];omega));show wpAny _ _ (if (e1 != e1)=true then _ else _) _ _ _
  simp only[bne_self_eq_false,false_eq_true,if_false];exact wpAny_pure (h _ hr hu)
 ·have hn2':2≤vs.length:=by rw[size_toArray]at hn2;omega
  rw[if_neg hn2,if_neg hn2];refine wpAny_bind (wpAny_mono (hk {s with heap:=((s.heap.update a (Obj.mapSeq λ_=>(#[]:Array Value))).push (seqObj "tuple" vs.toArray 0)).push (seqObj "list" #[] 0)} keep (λk' s'=>k'=κ∧s'={s with heap:=((s.heap.update a (Obj.mapSeq λ_=>(#[]:Array Value))).push (seqObj "tuple" vs.toArray 0)).push (seqObj "list" #[] 0)}) hn2' ⟨rfl,rfl⟩) (λκ' s0 hes=>?_) λ_ _ x=>x.elim)
  obtain⟨ek,es⟩:=hes;subst ek es;obtain⟨hrow,hup⟩:=nn O (by omega:1≤vs.length);refine wpAny_bind (wpAny_mono (kat_run (Q:=λst' s'=>∃p:Array Nat,p.size=vs.length∧arrOf st'=p.map (kas_item (vs.toArray.zip vs.toArray))∧failedOf st'=none∧p=run f (kas_sort vs.length)∧s'={s with heap:=((s.heap.update a (Obj.mapSeq λ_=>(#[]:Array Value))).push (seqObj "tuple" vs.toArray 0)).push (seqObj "list" #[] 0)})
   rfl hn2' h64 (λp' st' s' a1 a2 a3 a4=>⟨p',a1,a2,a3,a4⟩) (jp (n:=vs.length) (λi j C hi hj hC=>hlt _ keep i j C hi hj hC) (λp s'=>p=run f (kas_sort vs.length)∧s'={s with heap:=((s.heap.update a (Obj.mapSeq λ_=>(#[]:Array Value))).push (seqObj "tuple" vs.toArray 0)).push (seqObj "list" #[] 0)}) _ (jZ O (by omega)) ⟨rfl,rfl⟩)) ?_ λ_ _ e=>e)
  rintro⟨⟨⟩,st'⟩ s' ⟨p,hp,har,hf,ep,es⟩;subst es;dsimp only;have hout:=kat_snds (ks:=vs) rfl har;refine wpAny_bind (seqEpoch_at ho6 rfl ?_);rw[hout];refine wpAny_bind (listUpdate_at ho6 rfl ?_ (zero_le _) (by rw[size_toArray,length_map,length_toList,hp,sizeLine_eq];omega));rw[hf];simp only[bne_self_eq_false,false_eq_true,if_false];rw[ep];exact wpAny_pure (h _ hrow hup)
theorem ia{l:Addr}{vs:List Value}{Q:List Value→Shared→Prop}(hl:IsTup s.heap l vs.toArray)(h:Q vs {s with heap:=(s.heap.push (seqObj "list" #[] 0)).update s.heap.objs.size (Obj.mapSeq (· ++ vs.toArray))})(hsz:vs.length≤sizeLine):
  wpAny (model prog w) A (collect (.ref l)) Q E s:=by
 obtain⟨o,ho,hc,n,hd⟩:=id hl;unfold collect;refine wpAny_bind (wpAny_runValue (codeAny_builtin entry_proto_collect' ?_));show wpAny _ _ (do again (.builtin "list.__iadd__" ⟨[←newList [],.ref l],[]⟩)) _ _ s
 refine wpAny_bind (wpAny_newList (wpAny_pure ⟨Code.quiet_builtin _ (by decide +kernel),codeAny_builtin entry_list_iadd' ?_⟩));show wpAny _ _ (Builtin.List.listExtendWith (.ref s.heap.objs.size) (.ref l) (.ref s.heap.objs.size)) _ _ {s with heap:=s.heap.push (seqObj "list" #[] 0)}
 unfold Builtin.List.listExtendWith;have ho':(s.heap.push (seqObj "list" #[] 0)).get? l=some o:=get?_push_of_some _ ho;refine wpAny_bind (wpAny_typeOf (T:="tuple") ⟨o,ho',hc⟩ ?_);have ht:(type "tuple"==type "tuple")=true:=by rfl
 rw[if_pos (by rw[ht];simp)];refine wpAny_bind (listItems_at ho' hd ?_);refine wpAny_bind (listItems_at (xs:=#[]) (n:=0) (get?_push_size _ rfl) rfl ?_);rw[if_neg (by simp)];refine wpAny_bind (listUpdate_at (xs:=#[]) (n:=0) (get?_push_size _ rfl) rfl ?_ (zero_le _) (by show(#[]++vs.toArray).size≤sizeLine+1;simp only[Array.size_append,size_toArray,length_nil];omega));refine wpAny_pure ?_;show wpAny (model prog w) A (do
   let o ← load s.heap.objs.size
   match o.data with
   |.seq xs _=>pure xs.toList
   | _=>unsupported "internal:collect") Q E {s with heap:=(s.heap.push (seqObj "list" #[] 0)).update s.heap.objs.size (Obj.mapSeq (· ++ vs.toArray))}
 refine wpAny_bind (wpAny_load (get?_update_seq (get?_push_size _ rfl) _) ?_);show wpAny _ _ (pure ((#[]:Array Value)++vs.toArray).toList) Q E _;rw[show((#[]:Array Value)++vs.toArray).toList=vs by simp];exact wpAny_pure h
theorem ib{l:Addr}{vs:List Value}{Q:List Value→Shared→Prop}(hl:s.heap.IsList l vs.toArray∨IsTup s.heap l vs.toArray)(h:Q vs {s with heap:=(s.heap.push (seqObj "list" #[] 0)).update s.heap.objs.size (Obj.mapSeq (· ++ vs.toArray))})(hsz:vs.length≤sizeLine):
  wpAny (model prog w) A (collect (.ref l)) Q E s:=by
 rcases hl with hl|hl
 ·exact collect_list hl h hsz
 ·exact ia hl h hsz
theorem eG{f:Nat→Nat→Bool}{l:Addr}{vs:List Value}{κ:SortKind}{Q:Value→Shared→Prop}(O:Ord f vs.length)(hl:s.heap.IsList l vs.toArray∨IsTup s.heap l vs.toArray)(h64:vs.length<64)(hk:∀(A':Around) (s':Shared),A'.units≤A.units+2→(∀b o,s.heap.get? b=some o→s'.heap.get? b=some o)→∀Q:SortKind→Shared→Prop,2≤vs.length→Q κ s'→wpAny (model prog w) A' (keyKind' vs.toArray) Q (λ_ _=>False) s')(hlt:∀(A':Around) (s':Shared),A'.units≤A.units+2→(∀b o,s.heap.get? b=some o→s'.heap.get? b=some o)→∀(i j:Nat) (C:Bool→Shared→Prop),i<vs.length→j<vs.length→C (f i j) s'→wpAny (model prog w) A' (keyLt' κ (vs.getD i Value.none) (vs.getD j Value.none)) C (λ_ _=>False) s')(h:∀(p:Array Nat) (h':Heap),Row vs.length p→Up f p vs.length→(∀b o,s.heap.get? b=some o→h'.get? b=some o)→s.heap.objs.size≤s.heap.objs.size+1→(∃k,h'.get? (s.heap.objs.size+1)=some (seqObj "list" (toArray (p.toList.map λi=>vs.getD i Value.none)) k))→Q (.ref (s.heap.objs.size+1)) {s with heap:=h'}):
  wpAny (model prog w) A (call (.builtin "sorted") [.ref l]) Q E s:=by
 refine Calls.call_function_entry kind_sorted plain_sorted entry_sorted (args_sorted1 _) ?_;unfold Builtin.«sorted»;refine wpAny_bind (m:=checkCount "sorted" 1 1 _) (wpAny_pure ?_);refine wpAny_bind (ib hl ?_ (by rw[sizeLine_eq];omega));refine wpAny_bind (wpAny_newList ?_ (by rw[sizeLine_eq];omega));have hsz:((s.heap.push (seqObj "list" #[] 0)).update s.heap.objs.size (Obj.mapSeq (· ++ vs.toArray))).objs.size=s.heap.objs.size+1:=by
  rw[Heap.size_update,size_push']
 have hoL:(((s.heap.push (seqObj "list" #[] 0)).update s.heap.objs.size (Obj.mapSeq (· ++ vs.toArray))).push (seqObj "list" vs.toArray 0)).get? (s.heap.objs.size+1)=some (seqObj "list" vs.toArray 0):=by
  rw[←hsz];exact get?_push_size _ rfl
 have keep:∀b o,s.heap.get? b=some o→(((s.heap.push (seqObj "list" #[] 0)).update s.heap.objs.size (Obj.mapSeq (· ++ vs.toArray))).push (seqObj "list" vs.toArray 0)).get? b=some o:=λb o q=>by
  have hlt:b<s.heap.objs.size:=lt_size q;rw[Heap.get?_push_ne _ _ _ (by rw[hsz];exact ne_of_lt (lt_succ_of_lt hlt)),Heap.get?_update_ne _ _ _ _ (ne_of_lt hlt),Heap.get?_push_ne _ _ _ (ne_of_lt hlt)];exact q
 have neD:∀b o,s.heap.get? b=some o→b≠s.heap.objs.size+1:=λb o q=>ne_of_lt (lt_succ_of_lt (lt_size q));show wpAny _ _ _ _ _ {s with heap:=((s.heap.push (seqObj "list" #[] 0)).update s.heap.objs.size (Obj.mapSeq (· ++ vs.toArray))).push (seqObj "list" vs.toArray 0)}
 rw[hsz];refine wpAny_bind (wpAny_holding (wpAny_call_entry slot_list_sort ⟨_,hoL,rfl⟩ entry_list_sort (gv (κ:=κ) (s:={s with heap:=((s.heap.push (seqObj "list" #[] 0)).update s.heap.objs.size (Obj.mapSeq (· ++ vs.toArray))).push (seqObj "list" vs.toArray 0)}) O hoL h64 ?_ ?_ λp hr hu=>⟨_,rfl,?_⟩) (args_list_sort _)))
 ·intro s' hs' Q' h2 hq;exact hk _ s' (by simp[Around.in1_units]) (λb o e=>hs' b o (neD b o e) (keep b o e)) Q' h2 hq
 ·intro s' hs' i j C hi hj hC;exact hlt _ s' (by simp[Around.in1_units]) (λb o e=>hs' b o (neD b o e) (keep b o e)) i j C hi hj hC
 ·refine wpAny_pure ⟨_,rfl,h p _ hr hu (λb o e=>?_) (le_succ _) ?_⟩
  ·unfold sortedHeap;rw[Heap.get?_update_ne _ _ _ _ (neD b o e)];refine get?_push_of_some _ (get?_push_of_some _ ?_);rw[Heap.get?_update_ne _ _ _ _ (neD b o e)];exact keep b o e
  ·unfold sortedHeap;obtain⟨e1,ho1⟩:∃e1,((((s.heap.push (seqObj "list" #[] 0)).update s.heap.objs.size (Obj.mapSeq (· ++ vs.toArray))).push (seqObj "list" vs.toArray 0)).update (s.heap.objs.size+1) (Obj.mapSeq λ_=>(#[]:Array Value))).get? (s.heap.objs.size+1)=some (seqObj "list" #[] e1):=⟨_,get?_update_seq hoL λ_=>#[]⟩;exact⟨_,get?_update_seq (get?_push_of_some _ (get?_push_of_some _ ho1)) _⟩
theorem ka{f:Nat→Nat→Bool}{l:Addr}{vs:List Value}{κ:SortKind}{Q:Value→Shared→Prop}(O:Ord f vs.length)(hl:s.heap.IsList l vs.toArray)(h64:vs.length<64)(hk:∀(A':Around) (s':Shared),A'.units≤A.units+2→(∀b o,s.heap.get? b=some o→s'.heap.get? b=some o)→∀Q:SortKind→Shared→Prop,2≤vs.length→Q κ s'→wpAny (model prog w) A' (keyKind' vs.toArray) Q (λ_ _=>False) s')(hlt:∀(A':Around) (s':Shared),A'.units≤A.units+2→(∀b o,s.heap.get? b=some o→s'.heap.get? b=some o)→∀(i j:Nat) (C:Bool→Shared→Prop),i<vs.length→j<vs.length→C (f i j) s'→wpAny (model prog w) A' (keyLt' κ (vs.getD i Value.none) (vs.getD j Value.none)) C (λ_ _=>False) s')(h:∀(p:Array Nat) (h':Heap),Row vs.length p→Up f p vs.length→(∀b o,s.heap.get? b=some o→h'.get? b=some o)→s.heap.objs.size≤s.heap.objs.size+1→(∃k,h'.get? (s.heap.objs.size+1)=some (seqObj "list" (toArray (p.toList.map λi=>vs.getD i Value.none)) k))→Q (.ref (s.heap.objs.size+1)) {s with heap:=h'}):
  wpAny (model prog w) A (call (.builtin "sorted") [.ref l]) Q E s:=eG O (.inl hl) h64 hk hlt h
end
end SRT
namespace L2
open PySem PySem.Spec PyProof.Rows
section
variable{X:Cx}{tg:Expr}
theorem kc{pins:List (Addr×Obj)}{σ:St}{H:Hp}{s:Shared}{a:Addr}{ks:List Key}(I:Inv X pins σ H s)(h:H a=some (.tup (ks.map kV)))(P:Program)(w:World):IsTupleKey (ar P w) s.heap ks a:=by
 obtain⟨_,its,r,o,e,c,n,d⟩:=I.hok a _ h;exact⟨o,its.toArray,n,e,c,d,by simpa using di r⟩
theorem cz:∀{as:List Addr}{us:List Value},am (as.map V.ref) us→us=as.map Value.ref
 |[],_,.nil=>rfl
 |b::bs,_,.cons r t=>by
  have e:_=Value.ref b:=r;rw[e,cz t];rfl
theorem eZ(hu:X.A.units+1<cLine):OpR X (compareOp .NotIn) (λx y H Q=>∃a p ks,∃kss:List (Addr×List Key),x=.ref a∧H a=some (.tup (ks.map kV))∧y=.ref p∧SqL X.K H p ((kss.map (·.1)).map V.ref) ∧
  (∀z∈kss,H z.1=some (.tup (z.2.map kV)))∧Q (.bl (!(kss.any λz=>decide (z.2=ks)))) H):=by
 intro pins s σ H x y v u Q I rx ry h;obtain⟨a,p,ks,kss,rfl,ha,rfl,hq,hk,q⟩:=h;cases rx;cases ry;obtain⟨its,rv,pl,hz⟩:=I.list hq;have e:=cz rv;subst e
 let e:Value→Bool:=λv=>match v with | .ref b=>((kss.find? λz=>z.1==b).map λz=>decide (z.2=ks)).getD false | _=>false
 have he:∀z∈kss,e (.ref z.1)=decide (z.2=ks):=λz hz'=>by
  show((kss.find? λy=>y.1==z.1).map λz=>decide (z.2=ks)).getD false=_;cases ef:kss.find? λy=>y.1==z.1 with
  |none=>have:=List.find?_eq_none.mp ef z hz';simp at this
  |some y =>
   have h1:=List.find?_some ef;have h2:=List.mem_of_find?_eq_some ef;have e1:y.1=z.1:=by simpa using h1
   have e2:=hk y h2;rw[e1,hk z hz']at e2;have e3:z.2.map kV=y.2.map kV:=by injection (Option.some.inj e2)
   rw[jl e3];rfl
 refine SeqAt.notIn_listAt e pl.isList (λy hy=>?_) ⟨.bl _,H,I,rfl,?_⟩
 ·have hy':y∈(kss.map (·.1)).map Value.ref:=by simpa using hy
  obtain⟨b,hb,rfl⟩:=mem_map.mp hy';obtain⟨z,hz',rfl⟩:=mem_map.mp hb;rw[he z hz'];intro prog w E' Q' hQ;exact wpAny_eqBool_tuple (knd:=ar prog w) (by simp;exact hu) (kc I (hk z hz') prog w) (kc I ha prog w) hQ
 ·have e1:(((kss.map (·.1)).map Value.ref).toArray.any e)=kss.any λz=>decide (z.2=ks):=by
   rw[List.any_toArray,any_map,any_map];apply Bool.eq_iff_iff.mpr;rw[any_eq_true,any_eq_true];constructor
   ·rintro⟨z,hz',h1⟩;exact⟨z,hz',by rw[←he z hz'];exact h1⟩
   ·rintro⟨z,hz',h1⟩;exact⟨z,hz',by show e (.ref z.1)=true;rw[he z hz'];exact h1⟩
  rw[e1];exact q
def nr:V→List V→Hp→VK→Prop:=λx vs H Q=>∃d kvs k y,x=.ref d∧vs=[kV k,y]∧H d=some (.dK kvs)∧kvs.length<sizeLine∧(∀v,aN kvs k=some v→Q v H)∧(aN kvs k=none→Q y (upd H d (.dK (eA kvs k y))))
theorem fb:MtM X "dict.setdefault" nr:=by
 intro pins s σ H x vs v us Q I rx rv h;obtain⟨d,kvs,k,y,rfl,rfl,hd,hz,q1,q2⟩:=h;cases rx;obtain⟨u,u',rfl,ru,ru'⟩:=rv.two;obtain⟨z,hs,ws,rel,dd⟩:=lv I.hok hd;have hzw:ws.length≤sizeLine:=by rw[←rel.length];exact z
 refine call_meetsIn F.slot_dict_setdefault dd.typeIs F.entry_dict_setdefault (F.args_dict_setdefault_3 _ _ _) (kt_meets_setdefault (ar X.prog X.w) d (eC ru) hs u') ⟨ws,dd,hzw,λw' hw=>?_,λhw h' dd' sb=>?_⟩
 ·have:=rel.val k;rw[hw]at this;cases e:aN kvs k with
  |none=>rw[e]at this;cases this
  |some v =>
   rw[e]at this;exact⟨v,H,I.tok _,this,q1 v e⟩
 ·have:=rel.val k;rw[hw]at this;cases e:aN kvs k with
  |some v=>rw[e]at this;cases this
  |none =>
   have he:∃q,h'.get? d=some q:=let⟨q,_,_,hq,_⟩:=dd';⟨q,hq⟩;have hl:(eA kvs k y).length≤sizeLine:=by have:=dB kvs k y;omega
   exact⟨y,_,jn I (by rw[hd];exact True.intro) sb he (iL hl hs (rel.put k ru') dd'),ru',q2 e⟩
theorem kd:bz X (.type "range") (λxs H Q=>∃i j,xs=[.int i,.int j]∧∀p,H p=none→Q (.ref p) (upd H p (.rng i j))):=by
 intro pins s σ H xs us Q I r h;obtain⟨i,j,rfl,q⟩:=h;obtain⟨u,u',rfl,⟨t,rfl⟩,⟨t',rfl⟩⟩:=qq r;refine call_range_2 ⟨.ref s.heap.objs.size,_,I.laid (t':=s.toks+1) (o:=.rng i j) (λb ob q=>get?_push_of_some _ q) (le_refl _) ?_,rfl,q _ (I.hok.fresh (le_refl _))⟩;exact⟨t,t',_,get?_push_size _ rfl⟩
theorem iN{lo:Int}{n:Nat}{acc:Array Value}(h:ItemsOf (λi v=>∃t,v=.int (lo+i*1) t) acc n):am ((List.range n).map λk=>V.int (lo+(k:Nat))) acc.toList:=by
 obtain⟨h1,h2⟩:=h;have key:∀(l:List Value)(k:Nat),(∀(i:Nat)(v:Value),l[i]?=some v→∃t,v=Value.int (lo+(k+i:Nat)) t)→am ((List.range' k l.length).map λk=>V.int (lo+(k:Nat))) l:=by
  intro l
  induction l with
  |nil=>intro k _;exact .nil
  |cons v l ih =>
   intro k hv;rw[length_cons,List.range'_succ,map_cons];refine .cons ?_ (ih (k+1) λi w hw=>?_)
   ·obtain⟨t,e⟩:=hv 0 v rfl;exact⟨t,e⟩
   ·obtain⟨t,e⟩:=hv (i+1) w hw;exact⟨t,by rw[e,show k+(i+1)=k+1+i by omega]⟩
 have hl:acc.toList.length=n:=by simpa using h1
 have:=key acc.toList 0 λi v hv=>by
  have hv':acc[i]?=some v:=by simpa using hv
  obtain⟨t,e⟩:=h2 i v hv';exact⟨t,by rw[e,Int.mul_one,Nat.zero_add]⟩
 rw[hl]at this;rw[List.range_eq_range'];exact this
theorem fc(hc:X.calm=true):bz X (.type "list") (λxs H Q=>∃p i j,xs=[.ref p]∧H p=some (.rng i j)∧(-(2 ^ 62)≤i∧i<2 ^ 62∧-(2 ^ 62)≤j∧j<2 ^ 62)∧(j-i).toNat≤1000 ∧
  ∀l,H l=none→Q (.ref l) (upd H l (.lst ((List.range (j-i).toNat).map λk=>V.int (i+(k:Nat)))))):=by
 intro pins s σ H xs us Q I r h;obtain⟨p,i,j,rfl,hp,⟨b1,b2,b3,b4⟩,hn,q⟩:=h;obtain⟨u,rfl,rx⟩:=cn r;cases rx;obtain⟨t,t',t'',e⟩:=(show aM X.prog X.w H s.heap p (.rng i j)from I.hok p _ hp);have hsz:Builtin.Range.rangeSize i j 1=((j-i).toNat:Nat):=by rw[rangeSize_one];split<;>omega
 refine call_list_range (n:=(j-i).toNat) (I.ok.hd hc) e (small_one b1 b2 b3 b4) hsz (by omega) λh' tk acc c' kp hg hi=>?_;refine⟨.ref s.heap.objs.size,_,I.laid (t':=tk) kp (le_refl _) (show aM X.prog X.w _ h' _ (.lst _)from⟨?_,acc.toList,c',iN hi,by simpa using hg⟩),rfl,q _ (I.hok.fresh (le_refl _))⟩
 rw[length_map,length_range,sizeLine_eq];omega
theorem cX{prog:Program}{w:World}{A:Around}{E:Value→Shared→Prop}{s:Shared}{t sl:Addr}{items:Array Value}{vl vu:Value}{lo hi:Option Int}{Q:Value→Shared→Prop}(ht:IsTup s.heap t items)(hs:s.heap.IsSliceOf sl vl vu .none)(pl:IsPart vl lo)(pu:IsPart vu hi)(hw:HT.sIx items.size 0 lo=0∧HT.sIx items.size items.size hi=items.size)(h:Q (.ref t) s):wpAny (model prog w) A (getItem (.ref t) (.ref sl)) Q E s:=by
 obtain⟨os,hos,hcs,hds⟩:=id hs;have hTs:s.TypeIs (.ref sl) "slice":=⟨os,hos,hcs⟩;unfold getItem
 try with_reducible refine wpAny_holding ?_
 first|refine wpAny_bind (wpAny_pure ?_)|skip
 refine wpAny_bind (wpAny_sequenceKey ht.typeIs (by decide) ?_);refine wpAny_bind (wpAny_callSpecial?_slot (name:=ofString "__getitem__") ht.typeIs PyProof.Rows.slot_tuple_getitem
  (wpAny_call_entry PyProof.Rows.slot_tuple_getitem ht.typeIs entry_tuple_getitem ?_ (args_tuple_getitem _ _)))
 show wpAny _ _ (Builtin.Tuple.tupleItemsOf (.ref t) >>= _) _ _ s;refine wpAny_bind (tupleItemsOf_ ht ?_);refine wpAny_bind (wpAny_typeOf hTs ?_);rw[if_pos (by decide)];refine wpAny_bind (HT.bO hs pl pu ?_);have hyes:((((HT.sIx items.size 0 lo:Nat):Int)==0&&(1:Int)==1&&(HT.sIx items.size items.size hi-HT.sIx items.size 0 lo)==items.size)=true):=by
  rw[hw.1,hw.2];simp
 show wpAny _ _ (if (((HT.sIx items.size 0 lo:Nat):Int)==0&&(1:Int)==1&&(HT.sIx items.size items.size hi-HT.sIx items.size 0 lo)==items.size)=true then _ else _) _ _ s
 rw[if_pos hyes];refine wpAny_bind ?_;unfold Builtin.Tuple.tupleIsExact;refine wpAny_bind (wpAny_typeOf ht.typeIs (wpAny_pure ?_));rw[if_pos (by decide)];exact wpAny_bind (wpAny_rule (wpAny_pure ⟨_,rfl,wpAny_pure h⟩))
theorem eI:SlR X (λx lo hi H Q=>∃a xs,x=.ref a∧SqT X.K H a xs∧HT.sIx xs.length 0 lo=0∧HT.sIx xs.length xs.length hi=xs.length∧Q (.ref a) H):=by
 intro pins s σ H x v vl vu lo hi sl Q I rx hs pl pu h;obtain⟨a,xs,rfl,hx,h1,h2,q⟩:=h;cases rx;obtain⟨its,r,ht,hz⟩:=I.tuple hx;have hlen:its.toArray.size=xs.length:=by rw[size_toArray];exact r.length.symm
 exact⟨"tuple",_,PyProof.Rows.slot_tuple_getitem.lookup,ht.typeIs,cX ht hs pl pu (by rw[hlen];exact⟨h1,h2⟩) ⟨.ref a,H,I,rfl,q⟩⟩
theorem iO(hu:X.A.units<cLine):OpR X (compareOp .Eq) (λx y H Q=>∃a b xs,x=.ref a∧y=.ref b∧SqL X.K H a xs∧SqL X.K H b []∧Q (.bl (decide (xs=[]))) H):=by
 intro pins s σ H x y v u Q I rx ry h;obtain⟨a,b,xs,rfl,rfl,ha,hb,q⟩:=h;cases rx;cases ry;obtain⟨its,r1,ht,_⟩:=I.list ha;obtain⟨its2,r2,hb',_⟩:=I.list hb;cases r2
 by_cases e:xs=[]
 ·subst e;cases r1;refine eq_listAt (e:=λ_=>true) ht.isList hb'.isList rfl hu (λj h1 h2=>absurd h2 (by simp)) ⟨.bl _,H,I,?_,q⟩;rfl
 ·have e2:its≠[]:=λz=>e (r1.nil_iff.mp z);have e3:its.length≠0:=λz=>e2 (length_eq_zero_iff.mp z);refine SeqAt.eq_list_lengthsAt ht.isList hb'.isList (by simp[e3]) hu ⟨.bl _,H,I,?_,q⟩;show _=Value.bool _;simp[e]
end
end L2
namespace ZT
open PySem PySem.SeqAt
section
variable{prog:Program}{w:World}{A:Around}{E:Value→Shared→Prop}{s:Shared}
end
end ZT
namespace L2
open PySem PySem.Spec PyProof.Rows
section
variable{X:Cx}{tg:Expr}
abbrev fe:=Addr×Int×List V
def numAt(zs:List fe)(i:Nat):Int:=(zs.getD i (0,0,[])).2.1
theorem lA{zs:List fe}(h:(zs.map (·.2.1)).Nodup):SRT.Ord (λi j=>decide (numAt zs i<numAt zs j)) zs.length:=by
 refine⟨λi _=>by simp,λi j k _ _ _ h1 h2=>?_,λi j hi hj hij=>?_⟩
 ·simp only[decide_eq_true_eq]at *;omega
 ·simp only[decide_eq_true_eq];have:numAt zs i≠numAt zs j:=by
   unfold numAt;rw[getD_eq_getElem?_getD,getD_eq_getElem?_getD,getElem?_eq_getElem hi,getElem?_eq_getElem hj];intro e;have e':(zs.map (·.2.1))[i]'(by simpa using hi)=(zs.map (·.2.1))[j]'(by simpa using hj):=by simpa using e
   exact hij ((getElem_inj h).mp e')
  omega
theorem ic{prog:Program}{w:World}{A:Around}{s:Shared}{b:Bool}{Q:Bool→Shared→Prop}(h:Q false s):∀(l:List Value)(i:Nat),PySem.W.KatLex prog w A b false Q (l.zip l) i s
 |[],i=>h
 |v::l,i=>kat_cons (EqAt.same v prog w _ _ (kat_yes (ic h l (i+1))))
theorem cY:bz X (.builtin "sorted") (λxs H Q=>∃l,∃zs:List fe,xs=[.ref l]∧(SqL X.K H l ((zs.map (·.1)).map V.ref)∨SqT X.K H l ((zs.map (·.1)).map V.ref))∧(∀z∈zs,H z.1=some (.tup (.int z.2.1::z.2.2)))∧(zs.map (·.2.1)).Nodup∧zs.length<64 ∧
  ∀zs':List fe,zs'.Perm zs→zs'.Pairwise (λa b=>a.2.1<b.2.1)→∀p,H p=none→Q (.ref p) (upd H p (.lst ((zs'.map (·.1)).map V.ref)))):=by
 intro pins s σ H xs us Q I r h;obtain⟨l,zs,rfl,hq,hk,hnd,h64,q⟩:=h;obtain⟨u,rfl,ru⟩:=cn r;cases ru;obtain⟨its,rv,pl⟩:∃its,am ((zs.map (·.1)).map V.ref) its∧(s.heap.IsList l its.toArray∨IsTup s.heap l its.toArray):=by
  rcases hq with hq|hq
  ·obtain⟨its,rv,pl,hz⟩:=I.list hq;exact⟨its,rv,.inl pl.isList⟩
  ·obtain⟨its,rv,pl,hz⟩:=I.tuple hq;exact⟨its,rv,.inr pl⟩
 have e:=cz rv;subst e;have hlen:((zs.map (·.1)).map Value.ref).length=zs.length:=by simp
 have hobj:∀z∈zs,∃o its n t,s.heap.get? z.1=some o∧o.cls=.type "tuple"∧o.data=.seq its n∧its.toList=.int z.2.1 t::its.toList.drop 1:=λz hz'=>by
  obtain⟨_,its,rr,o,e1,e2,n,e3⟩:=I.hok z.1 _ (hk z hz');cases rr with
  |cons r1 r2 =>
   obtain⟨t,rfl⟩:=r1;exact⟨o,_,n,t,e1,e2,e3,by simp⟩
 have hget:∀i,i<zs.length→((zs.map (·.1)).map Value.ref).getD i Value.none=.ref (zs.getD i (0,0,[])).1∧zs.getD i (0,0,[])∈zs:=λi hi=>by
  rw[getD_eq_getElem?_getD,getD_eq_getElem?_getD,getElem?_map,getElem?_map,getElem?_eq_getElem hi];exact⟨rfl,getElem_mem hi⟩
 refine SRT.eG (κ:=tuples' true) (f:=λi j=>decide (numAt zs i<numAt zs j)) (by rw[hlen];exact lA hnd) pl (by rw[hlen];exact h64) ?kind ?less ?fin
 case kind =>
  intro A' s' _ kp Q' h2 hQ';have key:∀ys:List fe,(∀z∈ys,z∈zs)→∃fs:List Value,KatTups s'.heap ((ys.map (·.1)).map Value.ref) fs∧fs.length=ys.length∧∀v∈fs,∃i t,v=Value.int i t:=by
   intro ys
   induction ys with
   |nil=>intro _;exact⟨[],KatTups.nil,rfl,λv hv=>by simp at hv⟩
   |cons z ys ih =>
    intro hm;obtain⟨fs,h1,h2',h3⟩:=ih λy hy=>hm y (by simp[hy]);obtain⟨o,its,n,t,e1,e2,e3,e4⟩:=hobj z (hm z (by simp));refine⟨.int z.2.1 t::fs,KatTups.cons (kp _ _ e1) e2 e3 ?_ h1,by simp[h2'],λv hv=>?_⟩
    ·rw[←getElem?_toList,e4];rfl
    ·rcases mem_cons.mp hv with rfl|hv
     ·exact⟨_,_,rfl⟩
     ·exact h3 v hv
  obtain⟨fs,h1,h2',h3⟩:=key zs λz hz'=>hz';refine kat_kind (T:=.type "int") h1 (by rw[h2'];rw[hlen]at h2;omega) (λv hv=>?_) (by rfl) hQ';obtain⟨i,t,rfl⟩:=h3 v hv;exact .now
 case less =>
  intro A' s' _ kp i j C hi hj hC;rw[hlen]at hi hj;obtain⟨gi,mi⟩:=hget i hi;obtain⟨gj,mj⟩:=hget j hj;rw[gi,gj];obtain⟨oi,ii,ni,ti,a1,a2,a3,a4⟩:=hobj _ mi;obtain⟨oj,ij,nj,tj,b1,b2,b3,b4⟩:=hobj _ mj;refine kat_lt (kp _ _ a1) a3 (kp _ _ b1) b3 ?_
  by_cases hij:i=j
  ·subst hij;rw[a1]at b1;cases b1;rw[a3]at b3;cases b3;have:C false s':=by simpa using hC
   have e2:decide (ii.size<ii.size)=false:=by simp
   rw[e2];exact ic this _ _
  ·have hne:numAt zs i≠numAt zs j:=by
    rcases (lA hnd).tot i j hi hj hij with h1|h1<;>simp only[decide_eq_true_eq]at h1<;>omega
   rw[a4,b4];refine kat_cons (wpAny_eqBool_int ?_);have e2:((zs.getD i (0,0,[])).2.1==(zs.getD j (0,0,[])).2.1)=false:=beq_eq_false_iff_ne.mpr hne;rw[e2];refine kat_no ?_;exact kat_lt_int hC
 case fin =>
  intro p h' hrow hup kp _ hg;obtain⟨c,hg⟩:=hg;rw[hlen]at hrow hup;obtain⟨zs',hzs'⟩:∃zs',zs'=p.toList.map λi=>zs.getD i (0,0,[]):=⟨_,rfl⟩;have hperm:zs'.Perm zs:=by
   rw[hzs'];refine(hrow.perm.map _).trans ?_;have:(List.range zs.length).map (λi=>zs.getD i (0,0,[]))=zs:=by
    apply ext_getElem?;intro i;rw[getElem?_map]
    by_cases hi:i<zs.length
    ·rw[List.getElem?_range hi,getElem?_eq_getElem hi];show some (zs.getD i (0,0,[]))=_;rw[getD_eq_getElem?_getD,getElem?_eq_getElem hi];rfl
    ·rw[getElem?_eq_none (by rw[length_range];omega),getElem?_eq_none (by omega)];rfl
   rw[this]
  have hpl:p.size=zs.length:=hrow.size;have hpw:zs'.Pairwise (λa b=>a.2.1<b.2.1):=by
   rw[List.pairwise_iff_getElem];intro i j hi hj hij;have hi':i<p.size:=by rw[hzs',length_map,length_toList]at hi;exact hi
   have hj':j<p.size:=by rw[hzs',length_map,length_toList]at hj;exact hj
   have:=hup i j hij (by omega);simp only[decide_eq_true_eq,numAt]at this;rw[getD_eq_getD_getElem?,getD_eq_getD_getElem?,Array.getElem?_eq_getElem hi',Array.getElem?_eq_getElem hj']at this;simpa [hzs']using this
  have hout:(toArray (p.toList.map λi=>((zs.map (·.1)).map Value.ref).getD i Value.none))=((zs'.map (·.1)).map Value.ref).toArray:=by
   congr 1
   rw[hzs'];simp only[map_map];apply map_congr_left;intro i hi;have hi':i<zs.length:=mem_range.mp (hrow.perm.mem_iff.mp hi);have:=(hget i hi').1;simp only[map_map]at this;exact this
  rw[hout]at hg;have hv:am ((zs'.map (·.1)).map V.ref) ((zs'.map (·.1)).map Value.ref):=by
   generalize zs'.map (·.1)=as
   induction as with
   |nil=>exact .nil
   |cons a as ih=>exact .cons rfl ih
  refine⟨.ref (s.heap.objs.size+1),_,I.laid (t':=s.toks) (o:=.lst ((zs'.map (·.1)).map V.ref)) kp (le_succ _) ⟨?_,_,c,hv,hg⟩,rfl,q zs' hperm hpw _ (I.hok.fresh (le_succ _))⟩;rw[length_map,length_map,hperm.length_eq,sizeLine_eq];omega
theorem dj:bz X (.builtin "sorted") (λxs H Q=>∃l,∃zs:List fe,xs=[.ref l]∧SqL X.K H l ((zs.map (·.1)).map V.ref)∧(∀z∈zs,H z.1=some (.tup (.int z.2.1::z.2.2)))∧(zs.map (·.2.1)).Nodup∧zs.length<64 ∧
  ∀zs':List fe,zs'.Perm zs→zs'.Pairwise (λa b=>a.2.1<b.2.1)→∀p,H p=none→Q (.ref p) (upd H p (.lst ((zs'.map (·.1)).map V.ref)))) :=
 λpins s σ H xs us Q I r ⟨l,zs,e,hq,h⟩=>cY pins s σ H xs us Q I r ⟨l,zs,e,.inl hq,h⟩
end
theorem gw{scope:Scope}{env:Env}(h:∀y∈scope.names,y.2≠.free):relabel scope env=scope:=by
 unfold relabel;rw[map_eq_self (l:=scope.names) (λx hx=>by
  obtain⟨n,k⟩:=x;have:(k==NameKind.free)=false:=by simpa using h _ hx
  simp[this])]
theorem eJ{X:Cx}{scope:Scope}(hk:scope.kind=.function)(hf:∀y∈scope.names,y.2≠.free)(hc:∀y∈scope.names,y.2≠.cell)(hn:∀x∈scope.names,x.2=.local→scope.names.lookup x.1=some .local):LcOk X scope [] :=
 ⟨hk,closureFor_none hf,hn,hc,λx c h=>by simp at h,λx h=>by
  rw[gw hf]at h;rcases h with h|h
  ·exact absurd rfl (hc _ (PySem.mem_of_lookup h))
  ·exact absurd rfl (hf _ (PySem.mem_of_lookup h))⟩
theorem oe{k:Nat}{js:List Nat}{J:It}{g:TG}{te:TE}{σ:St}{H1:Hp}{Q:VK}{p:Addr}(n:Nat)(hn:n≤1000)(Pv:Nat→List V→St→Hp→Prop)(h0:Pv 0 [] (bf k js σ) (upd H1 p (.lst [])))(hy:∀i ys σ' H',Pv i ys σ' H'→ys.length≤i)(go:∀i ys σ' H',i<n→Pv i ys σ' H'→J.go i H')(stop:∀ys σ' H',Pv n ys σ' H'→J.stop n H'∧Q (.ref p) H')(step:∀i ys σ' H',i<n→Pv i ys σ' H'→∀x H2,J.yld i H' x H2→g x σ' H2 λσ2 H3=>te σ2 H3 λy H4=>H4 p=some (.lst ys)∧Pv (i+1) (ys++[y]) σ2 (upd H4 p (.lst (ys++[y]))))(mg:∀x σ H (Q Q':St→Hp→Prop),(∀σ H,Q σ H→Q' σ H)→g x σ H Q→g x σ H Q')(me:∀σ H (Q Q':VK),(∀y H,Q y H→Q' y H)→te σ H Q→te σ H Q'):
  LcW k js g te σ Q J H1 p:=by
 refine⟨λi m ys σ' H'=>m=n-i∧i≤n∧Pv i ys σ' H',⟨n,by simp,zero_le _,h0⟩,?_⟩;rintro i m ys σ' H' ⟨rfl,hi,hp⟩
 by_cases hlt:i<n
 ·refine .inr ⟨go i ys σ' H' hlt hp,?_,λx H2 y=>?_⟩
  ·have:=hy i ys σ' H' hp;exact lt_of_le_of_lt this (aA (by omega))
  ·refine mg _ _ _ _ _ (λσ2 H3 h3=>me _ _ _ _ (λz H4 h4=>⟨h4.1,n-(i+1),by omega,rfl,hlt,h4.2⟩) h3) (step i ys σ' H' hlt hp x H2 y)
 ·have e:i=n:=by omega
  subst e;exact .inl (stop ys σ' H' hp)
theorem af{H:Hp}{p:Addr}{o:HO}(h:H p=none):Same H (upd H p o):=λb u e=>by rw[ah (ay e h)];exact e
theorem bi{H:Hp}{p a:Addr}{o u:HO}(h:H p=none)(e:H a=some u):upd H p o a=some u:=by rw[ah (ay e h)];exact e
theorem aE{H0 H:Hp}{p:Addr}{o:HO}(h0:H0 p=none)(s:Same H0 H):Same H0 (upd H p o):=λb u e=>by
 rw[ah (ay e h0)];exact s b u e
structure Fly(P:Program)(w:World)(outer:List Env)(H:Hp)(s:Shared)(H':Hp)(ea C:Addr)(s':Shared):Prop where
 os:s'.os=s.os
 bare:AllBare s'.gens
 un:Un (frs outer) [] H H' s.heap s'.heap
 new:H' ea=none
 fly:∃B a0,FlyingW B outer ea (.ref C) a0 s'.heap∧HOk P w H' B∧(∀b o,s.heap.get? b=some o→H b=none→b∉frs outer→B.get? b=some o) ∧
  ∀b o,s.heap.get? b=some o→b∉frs outer→∃o',B.get? b=some o'
def CX1(P:Program)(w:World):CXT:=λouter H s E e s'=>∃ea C H',e=.ref ea∧Fly P w outer H s H' ea C s'∧E (.ref C) none H'
theorem aM.ex{P:Program}{w:World}{H:Hp}{h:Heap}{a:Addr}{o:HO}(x:aM P w H h a o):∃ob,h.get? a=some ob:=by
 cases o with
 |lst xs=>obtain⟨_,_,_,_,e⟩:=x;exact⟨_,e⟩
 |tup xs=>obtain⟨_,_,_,ob,e,_⟩:=x;exact⟨ob,e⟩
 |dK kvs=>obtain⟨_,_,_,_,o,_,_,e,_⟩:=x;exact⟨_,e⟩
 |dT kvs=>obtain⟨_,_,_,_,o,_,_,e,_⟩:=x;exact⟨_,e⟩
 |set S n=>obtain⟨o,_,_,_,e,_⟩:=x;exact⟨_,e⟩
 |ins C dx fs=>obtain⟨_,_,_,e,_⟩:=x;exact⟨_,e⟩
 |own y=>obtain⟨_,e⟩:=x;exact⟨_,e⟩
 |xd fs=>obtain⟨_,⟨_,_,_,e,_⟩,_⟩:=x;exact⟨_,e⟩
 |rng lo hi=>obtain⟨_,_,_,e⟩:=x;exact⟨_,e⟩
 |frz ob u=>obtain⟨e,_⟩:=x;exact⟨_,e⟩
 |tbl ps=>exact⟨_,(show h.get? a=some _ from x)⟩
 |met f y=>exact⟨_,(show h.get? a=some _ from x)⟩
 |ext φ=>obtain⟨_,⟨_,e⟩,_⟩:=x;exact⟨_,e⟩
theorem lB{P:Program}{w:World}{H:Hp}{h:Heap}{l:List Addr}(x:HOk P w H h)(hl:∀b∈l,H b=none):HOk P w H (hideAll h l):=λa o e =>
 (x a o e).stay (λb u hb q=>hideAll_get l q λz=>by
  have:=hl b z;rcases hb with hb|hb
  ·rw[hb,e]at this;cases this
  ·rw[hb]at this;cases this) (λ_ q=>q) λ_ _ q=>q
section
variable{P:Program}{w:World}{l:List Env}{H H':Hp}{h1 h2 h3 B:Heap}{ea:Addr}{cls a0:Value}
theorem lC(un:Un (frs l) [] H H' h1 h2)(fl:FlyingW B l ea cls a0 h2)(hB:HOk P w H' B)(kp:∀b o,h1.get? b=some o→H b=none→b∉frs l→B.get? b=some o)(th:∀b o,h1.get? b=some o→b∉frs l→∃o',B.get? b=some o')(st:B.StaysIn h3)(hs:h2.UpToSlots h3):Un (frs l) [] H H' h1 h3∧HOk P w H' h3:=by
 refine⟨⟨λb o e n hb _=>st b o (kp b o e n hb),λb o e n hb hx=>?_,un.free,λb o e _=>?_,un.tups,un.frzs,un.tbls⟩,hB.kept st⟩
 ·obtain⟨sl,q⟩:=un.slot b o e n hb hx;obtain⟨_,o',ho',hd⟩:=fl.2.2.1.mem hb;rw[q]at ho';cases ho';obtain⟨sl',q'⟩:=hs b _ q hd;exact⟨sl',q'⟩
 ·by_cases hb:b∈frs l
  ·obtain⟨_,o',ho',hd⟩:=fl.2.2.1.mem hb;obtain⟨sl',q'⟩:=hs b _ ho' hd;exact⟨_,q'⟩
  ·obtain⟨o',q⟩:=th b o e hb;exact⟨o',st b o' q⟩
end
section
variable{X:Cx}{pins:List (Addr×Obj)}{σ:St}{H H':Hp}{s s':Shared}{ea C:Addr}{E:XK}
theorem Inv.fly_up(I:Inv X pins σ H s)(hex:X.ex=[])(J:Inv X pins σ H' s')(new:H' ea=none){B:Heap}{a0:Value}(fl:FlyingW B X.outer ea (.ref C) a0 s'.heap)(hB:HOk X.prog X.w H' B)(kp:∀b o,s.heap.get? b=some o→H b=none→b∉frs X.stack→B.get? b=some o)(th:∀b o,s.heap.get? b=some o→b∉frs X.stack→∃o',B.get? b=some o'):Fly X.prog X.w X.outer X.H₀ X.s₀ H' ea C s':=by
 have ub:=I.base;rw[hex]at ub;have uj:=J.base;rw[hex]at uj;have ne:∀b o,X.s₀.heap.get? b=some o→b∉frs X.outer→b∉frs X.stack:=λb o e n hb=>by
  rcases mem_cons.mp (I.stkSub b hb)with z|z
  ·have:=lt_size e;rw[z]at this;exact absurd (lt_of_lt_of_le this I.ok.above) (lt_irrefl _)
  ·exact n z
 refine⟨J.os,J.bare,uj,new,B,a0,fl,hB,λb o e n hb=>?_,λb o e hb=>?_⟩
 ·exact kp b o (ub.keep b o e n hb (by simp)) (ub.free b o e n (by simp)) (ne b o e hb)
 ·obtain⟨o',q⟩:=ub.there b o e (by simp);exact th b o' q (ne b o e hb)
structure Lv(X:Cx)(E:XK):Prop where
 ex:X.ex=[]
 stk:X.stack=X.env::X.outer
 fr:X.env.frame=some X.env.locals
 xe:X.xe=λe s'=>wpAny (model X.prog X.w) X.A (leaving X.env e) (λ_ s''=>CX1 X.prog X.w X.outer X.H₀ X.s₀ E e s'') (λe' s''=>CX1 X.prog X.w X.outer X.H₀ X.s₀ E e' s'') s'
theorem og{P:Program}{w:World}{K:PySem.W.Frag}{mg:Str→Option Value}{base:Heap}{N:List Str}{qual:Str}{scope:Scope}{f:Addr}{cd:Value}{A:Around}{outer:List Env}{s:Shared}{H:Hp}{E:XK} :
  Lv (dY (CX1 P w) P w K mg base N qual scope f cd A outer s H E) E:=⟨rfl,rfl,rfl,rfl⟩
theorem qz(L:Lv X E):dX (CX1 X.prog X.w) X E:=by
 intro pins σ H s e s' I h;obtain⟨ea,C,H',rfl,F,hE⟩:=h;rw[L.xe];obtain⟨B,a0,fl,hB,kp,th⟩:=id F.fly;have fl':=fl;rw[L.stk]at fl';refine wpAny_leaves_onW (by rw[I.ok.frames,L.stk]) L.fr fl' λh' fl2 hs=>?_;obtain⟨u,ok⟩:=lC F.un fl hB kp th fl2.1 hs;have J:Inv X pins σ H' {s' with heap:=h'}:=I.call' (s':={s' with heap:=h'}) F.os u ok F.bare λb z=>absurd z (by simp)
 exact⟨ea,C,H',rfl,I.fly_up L.ex J F.new fl2 hB kp th,hE⟩
theorem Inv.ground(I:Inv X pins σ H s):(hideAll s.heap (frs X.stack)).StaysIn s.heap∧s.heap.FunFrames (hideAll s.heap (frs X.stack)) X.stack∧HOk X.prog X.w H (hideAll s.heap (frs X.stack)) :=
 ⟨λb o q=>of_hideAll _ q,PySem.W.funFrames_hide I.stack λenv he b hb=>List.mem_filterMap.mpr ⟨env,he,hb⟩,lB I.hok I.stkFree⟩
theorem qA(L:Lv X E)(I:Inv X pins σ H s){h':Heap}{vs:List Value}(hx:Heap.MadeExcOf s.heap h' ea (.ref C) vs)(hE:E (.ref C) none H):X.xe (.ref ea) {s with heap:=h'}:=by
 rw[L.xe];obtain⟨g1,g2,g3⟩:=I.ground;have g2':s.heap.FunFrames (hideAll s.heap (frs X.stack)) (X.env::X.outer):=L.stk ▸ g2;refine wpAny_leaves_madeW (s:={s with heap:=h'}) (by rw[I.ok.frames,L.stk]) L.fr g1 g2' hx λh'' t fl _ _ hs=>?_;have hs':s.heap.UpToSlots h'':=(Heap.UpToSlots.of_keeps hx.keeps).trans hs;have u:Un (frs X.stack) [] H H s.heap h'':=⟨λb o e n hb _=>fl.1 b o (hideAll_get _ e hb),λb o e n hb _=>by
   obtain⟨_,o',ho',hd⟩:=g2.mem hb;rw[e]at ho';cases ho';exact hs' b o e hd,λb o e n _=>n,λb o e _=>by
   by_cases hb:b∈frs X.stack
   ·obtain⟨_,o',ho',hd⟩:=g2.mem hb;obtain⟨sl,q⟩:=hs' b o' ho' hd;exact⟨_,q⟩
   ·exact⟨o,fl.1 b o (hideAll_get _ e hb)⟩,λ_ _ q=>q,λ_ _ _ q=>q,λb ps q=>⟨#[],by simpa using q⟩⟩
 have J:Inv X pins σ H {s with heap:=h''}:=I.call' (s':={s with heap:=h''}) rfl u (g3.kept fl.1) I.bare λb z=>absurd z (by simp)
 have new:H ea=none:=by
  cases q:H ea with
  |none=>rfl
  |some o =>
   obtain⟨ob,e⟩:=(I.hok ea o q).ex;have h2:=hx.new;rw[e]at h2;cases h2
 exact⟨ea,C,H,rfl,I.fly_up L.ex J new fl g3 (λb o e _ hb=>hideAll_get _ e hb) λb o e hb=>⟨o,hideAll_get _ e hb⟩,hE⟩
end
end L2
namespace XI
open PySem PySem.Spec PySem.W
section
variable{prog:Program}{w:World}{A:Around}{E:Value→Shared→Prop}{h:Heap}{g:Array GenState}{d:Drawn}{t:Nat}{os:OsState}{a:Addr}{o:Obj}{vs:Array Value}{nm q:Str}{C N:Addr}{bs bm:List Value}{hdct:Bool}{sn:List Str}{sub:List Value}{ab:Bool}{col:Option Bool}{dd:Option Addr}{k0 k1 k2 k3 k5:Option Value}{newId:String}
end
end XI
namespace L2
open PySem PySem.Spec PyProof.Rows
section
variable{X:Cx}{pins:List (Addr×Obj)}{σ:St}{H:Hp}{s:Shared}
def tF2(te:TE):TE:=λσ H Q=>te σ H λv H1=>∃i:Int,v=.int i∧0≤i∧i≤60∧∀y,Q (.str y) H1
theorem iP(i:Int)(h0:0≤i)(h1:i≤60):(ofString (toString i)).length≤100:=by
 have key:∀n:Fin 61,(ofString (toString ((n.val:Nat):Int))).length≤100:=by decide +kernel
 have:=key ⟨i.toNat,by omega⟩;have e:((i.toNat:Nat):Int)=i:=by omega
 rw[e]at this;exact this
theorem qB{x:Str}{j:Nat}{p1 p2 p3:Pos}{e:Expr}{te:TE}(he:PE X e te)(hx:x.length≤800):PE X (.JoinedStr [.Constant (.str x) j p1,.FormattedValue e (-1) none p2] p3) (tF2 te):=by
 intro pins s σ H Q I h;have hl:(empty++x).length≤800:=by rw[strLen_append];show 0+x.length≤800;omega
 refine JoinedStr_many (joinParts_cons (Calls.Constant_str ?_));refine⟨le_of_lt (aA (by omega)),?_⟩;refine joinParts_cons (FormattedValue_plain (thn (he pins _ σ H _ (I.tok _) h) λv s1 hpt=>?_));obtain⟨y,H1,I1,r1,q1⟩:=hpt;obtain⟨i,rfl,h0,h1,q⟩:=q1;obtain⟨t,rfl⟩:=r1;have h2:=iP i h0 h1;have h3:((empty++x)++ofString (toString i)).length≤1000:=by rw[strLen_append];omega
 refine formatField_int_small (lt_of_le_of_lt (Nat.log2_le_self _) (by omega)) ⟨le_of_lt (aA h3),?_⟩;exact joinParts_nil ⟨.str _,H1,(I1.tok _).tok _,⟨_,rfl⟩,q _⟩ (le_of_lt (aA h3))
abbrev bmV:List Value:=[.type "ValueError",.type "Exception",.type "BaseException",.type "object"]
abbrev qC(X:Cx)(x:Str)(C:Addr):Prop:=OwnCls x C bmV "ValueError.__new__" X.mg X.base
def pc(C:Addr)(E:XK)(ta:TE):TS:=λ_ σ H=>dy ta iE σ H λvs H1=>vs.length≤sizeLine∧E (.ref C) none H1
theorem lD{E:XK}(L:Lv X E){x:Str}{C:Addr}{np cpos pos:Pos}{a:Expr}{ta:TE}(O:qC X x C)(hh:X.A.handled=none)(hg:Gl X x)(ha:PE X a ta)(hs:starEach [a] X.env=[(false,eval a X.env)]:=by rfl)(hd:(x==("__debug__":Str))=false:=by decide):PS X (.Raise (some (.Call (.Name x np) [a] [] cpos)) none pos) (pc C E ta):=by
 intro pins s σ H D I h;obtain⟨tl,N,nm,q,bs,hdct,sn,sub,ab,col,dd,k0,k1,k2,k3,k5,mN,hC,hN,hni,T⟩:=O.obj;refine wpAny_Raise_call_subT (C:=C) (nm:=nm) (q:=q) (N:=N) (bs:=bs) (bm:=tl) (hdct:=hdct) (sn:=sn) (sub:=sub) (ab:=ab) (col:=col) (dd:=dd) (k0:=k0) (k1:=k1) (k2:=k2) (k3:=k3) (k5:=k5)
  PySem.F.excBase_ValueError (mN:=mN) (T.hasType PySem.F.excBase_ValueError.hasBase) hh (by rw[hs];rfl) hni (ga I hg O.bound ⟨rfl,?_⟩ hd)
 have hA:PA X [a] (dy ta iE):=aa ha ae hs;have h':=hA cpos pins s σ H (λvs H1=>vs.length≤sizeLine∧E (.ref C) none H1) I h;rw[hs]at h'⊢;refine evalArgs_plain (thn h' λus s2 hpt=>?_);obtain⟨vs,H2,I2,r2,q2⟩:=hpt;exact⟨rfl,by rw[←r2.length];exact q2.1,I2.bk _ _ hC,hN.keeps I2.bk,T.keeps I2.bk,λh' e hx=>qA L I2 hx q2.2⟩
end
end L2
namespace DL
open PySem PySem.Spec PyProof.Rows
theorem eK:entryFor table "dict.update.loop"=some Builtin.«dict.update.loop»:=entryFor_of_tree (by kernel_rfl)
theorem cf:plainId "dict.update.loop"=true:=by decide +kernel
theorem gy:typeLookup (.type "list") "keys"=pure none:=by rw[typeLookup_type,builtinLookup_eq_fast];kernel_rfl
section
variable{prog:Program}{w:World}{A:Around}{E:Value→Shared→Prop}{s:Shared}
theorem nu{a:Addr}{xs:Array Value}{k:Nat}{sl:Array (Option Value)}{u:Tok}{Q:Value→Shared→Prop}(hx:s.heap.get? a=some {cls:=.type "list",dict:=none,data:=.seq xs k,slots:=sl})(hA:A.handled=none)(h:∀h' tk e,Heap.NewExcOf s.heap h' e "AttributeError"→E (.ref e) {s with heap:=h',toks:=tk}):
  wpAny (model prog w) A (getAttrBy (.ref a) (.str "keys" u) false) Q E s:=by
 obtain⟨hp,g,d,tk,os⟩:=s;have hT:∀tk',(⟨hp,g,d,tk',os⟩:Shared).TypeIs (.ref a) "list":=λ_=>⟨_,hx,rfl⟩;have f1:=sub_AttributeError;have f3:=F.slot_list_getattribute.lookup;have f4:=F.slot_list_getattribute.bind (.ref a);have f5:=am_list_getattr_none;unfold getAttrBy
 repeat (any_goals (first|assumption|exact hT _|((with_reducible show wpAny _ _ (call (Value.builtin "list.__getattribute__") _ _) _ _ _);refine call_meets F.slot_list_getattribute (hT _) am_entry_list_getattribute (F.args_list_getattribute_2 _ _) (meets_getattribute_miss_list a xs k sl "keys" _ gy (by decide) (by size_fits)) ⟨hx,hA,λh' tk' e hx'=>?_⟩)|wp_step))
 obtain⟨t',u',he⟩:=hx'.there;show wpAny _ _ (getattributeRaised _ _ _ _ _ _ _) _ _ _;unfold getattributeRaised
 repeat (any_goals (first|assumption|wp_step))
 exact h _ _ _ hx'.of
theorem nv{a:Addr}{xs:Array Value}{k:Nat}{sl:Array (Option Value)}{Q:Option Value→Shared→Prop}(hx:s.heap.get? a=some {cls:=.type "list",dict:=none,data:=.seq xs k,slots:=sl})(hA:A.handled=none)(h:∀h' tk,(∀b o,s.heap.get? b=some o→h'.get? b=some o)→Q none {s with heap:=h',toks:=tk}):
  wpAny (model prog w) A (getAttr? (.ref a) "keys") Q E s:=by
 obtain⟨hp,g,d,tk,os⟩:=s;have f1:=sub_AttributeError;unfold getAttr? getAttrBy?
 repeat (any_goals (first|assumption|((with_reducible show wpAny _ _ (getAttrBy _ _ false) _ _ _);refine nu (s:=⟨hp,g,d,_,os⟩) hx hA λh' tk' e hx'=>?_)|wp_step))
 obtain⟨⟨oc,od,odt,osl⟩,vs,he,hc,_,_⟩:=hx'.there;simp only at hc;subst hc
 repeat (any_goals (first|assumption|with_reducible refine wpAny_loadPart_at he ?_|wp_step))
 exact h h' tk' λb o e=>hx'.keeps b o e
end
section
variable{prog:Program}{w:World}{A:Around}{E:Value→Shared→Prop}{R:Result→Shared→Prop}{I:Addr}{fp wr:List Addr}{G:Array GenState→Array GenState→Prop}{n:Nat}{P:Nat→Value→Prop}{St:Nat→Shared→Prop}
theorem ke(W:WalksS prog w A.in1 I fp wr G n P St)(d:Addr)(hdf:d∉fp)(ad:Nat→Addr)(kk vv:Nat→Value)(hval:∀i v,P i v→v=.ref (ad i))(had:∀i,i<n→ad i∉d::wr)(D:Nat→Heap→Prop)(hD:∀i (h h':Heap),D i h→(∀b o,b∉wr→h.get? b=some o→h'.get? b=some o)→D i h')(step:∀i (s:Shared) (E:Value→Shared→Prop) (Q:Unit→Shared→Prop),i<n→D i s.heap→(∀h' tk,s.toks≤tk→SameBut d s.heap h'→D (i+1) h'→Q () {s with heap:=h',toks:=tk})→wpAny (model prog w) A.in1 (dictSet d (kk i) (vv i)) Q E s):
  ∀(k i:Nat)(s:Shared)(tk:Tok),n-i=k→i≤n→St i s→D i s.heap→(∀j,j<n→IsTup s.heap (ad j) #[kk j,vv j]) →
   (∀s',Moved (d::wr) G s s'→D n s'.heap→R (.ok (.ret .none)) s') →
   codeAny (model prog w) A (.builtin "dict.update.loop" ⟨[.ref d,.ref I,.int i tk,.none],[]⟩) R s:=by
 have hdw:d∉wr:=λh=>hdf (W.sub _ h);have hsub:∀b∈wr,b∈d::wr:=λb hb=>mem_cons_of_mem _ hb;have hadw:∀i,i<n→ad i∉wr:=λi hi h=>had i hi (mem_cons_of_mem _ h);have hadd:∀i,i<n→ad i≠d:=λi hi h=>had i hi (by rw[h];exact mem_cons_self);intro k
 induction k with
 |zero =>
  intro i s tk hk hi hst hDi htp hR;have hin:i=n:=by omega
  subst hin;refine codeAny_builtin eK ?_;rw[Around.under_plainId cf _];show wpAny _ A.in1 (pyNext (.ref I) >>= _) _ _ s;refine wpAny_bind (W.done s _ _ hst λs' hm=>?_);show wpAny _ A.in1 (Builtin.Dict.addKeywords d [] >>= λ_=>ret Value.none) _ _ s';exact wpAny_bind (wpAny_pure (wpAny_pure (hR s' (hm.mono hsub) (hD _ _ _ hDi hm.heap))))
 |succ k ih =>
  intro i s tk hk hi hst hDi htp hR;have hlt:i<n:=by omega
  refine codeAny_builtin eK ?_;rw[Around.under_plainId cf _];show wpAny _ A.in1 (pyNext (.ref I) >>= _) _ _ s;refine wpAny_bind (W.item i s _ _ hlt hst λv s' hP hst' hm=>?_);have hv:=hval i v hP;subst hv;have hDi':D i s'.heap:=hD _ _ _ hDi hm.heap;have htp':∀j,j<n→IsTup s'.heap (ad j) #[kk j,vv j]:=λj hj=>by
   obtain⟨o,ho,r⟩:=htp j hj;exact⟨o,hm.heap _ o (hadw j hj) ho,r⟩
  obtain⟨ot,hot,hct,nt,hdt⟩:=htp' i hlt;have hT:s'.TypeIs (.ref (ad i)) "tuple":=⟨ot,hot,hct⟩;refine wpAny_bind (wpAny_holding ?_);refine wpAny_bind (wpAny_tryCatch ?_);unfold Builtin.Dict.pairItems;refine wpAny_bind (wpAny_typeOf hT ?_);rw[if_pos (by decide)];generalize hDS:dictSet=DS;obtain⟨hp,g,dr,t,os⟩:=s';obtain⟨ocls,odict,odata,oslots⟩:=ot;simp only at hct hdt;subst hct hdt
  repeat (any_goals (first|assumption|with_reducible refine wpAny_loadPart_at hot ?_|wp_step))
  subst hDS;refine step i _ _ _ hlt hDi' λh' tk' htk hsb hD'=>?_;have hsb':SameBut d hp h':=hsb;have hkeep:∀b o,b∉d::wr→hp.get? b=some o→h'.get? b=some o:=λb o hb e=>by
   rw[hsb'.2 b (λz:b=d=>hb (by rw[z];exact mem_cons_self))];exact e
  refine wpAny_pure ⟨plainId_quiet cf _,?_⟩;refine ih (i+1) _ _ (by omega) hlt (W.frame _ _ _ _ hst' htk λb hb o e=>?_) hD' (λj hj=>?_) λs'' hm'' hD''=>?_
  ·rw[hsb'.2 b (λh:b=d=>hdf (by rw[←h];exact hb))];exact e
  ·obtain⟨o,ho,r⟩:=htp' j hj;exact⟨o,hkeep _ o (had j hj) ho,r⟩
  ·exact hR s'' (Moved.trans W.gtrans ((hm.mono hsub).then_heap htk λb o hb e=>hkeep b o hb e) hm'') hD''
end
section
variable{prog:Program}{w:World}{A:Around}{E:Value→Shared→Prop}{s:Shared}
theorem eL{l:Addr}{items:Array Value}{nl:Nat}{sl:Array (Option Value)}{Q:Value→Shared→Prop}(hh:A.handled=none)(hl:s.heap.get? l=some {cls:=.type "list",dict:=none,data:=.seq items nl,slots:=sl})(ad:Nat→Addr)(kk vv:Nat→Value)(hi:∀(i:Nat) (v:Value),items[i]?=some v→v=Value.ref (ad i))(ht:∀i,i<items.size→IsTup s.heap (ad i) #[kk i,vv i])(D:Nat→Heap→Prop)(hD0:∀h',h'.get? s.heap.objs.size=some {cls:=.type "dict",data:=.dict #[]}→(∀b o,s.heap.get? b=some o→h'.get? b=some o)→D 0 h')(hD:∀i (h h':Heap),D i h→(∀b o,b≤s.heap.objs.size→h.get? b=some o→h'.get? b=some o)→D i h')(step:∀i (s':Shared) (E:Value→Shared→Prop) (Q:Unit→Shared→Prop),i<items.size→D i s'.heap→(∀h' tk,s'.toks≤tk→SameBut s.heap.objs.size s'.heap h'→D (i+1) h'→Q () {s' with heap:=h',toks:=tk}) →
   wpAny (model prog w) A.in1.in1 (dictSet s.heap.objs.size (kk i) (vv i)) Q E s')(h:∀h' tk,D items.size h'→(∀b o,s.heap.get? b=some o→h'.get? b=some o)→Q (.ref s.heap.objs.size) {s with heap:=h',toks:=tk}):
  wpAny (model prog w) A (call (.type "dict") [.ref l]) Q E s:=by
 refine callType_codes (Q₁:=λobj s₁=>obj=.ref s.heap.objs.size∧s₁={s with heap:=s.heap.push {cls:=.type "dict",data:=.dict #[]}}) F.kt_called_dict (F.kt_typeCall_dict_1 _) F.entry_dict_init (kt_code_dict_new _ ⟨rfl,rfl⟩) ?_;rintro obj s₁ ⟨rfl,rfl⟩;have hnew:(s.heap.push {cls:=.type "dict",data:=.dict #[]}).get? s.heap.objs.size=some {cls:=.type "dict",data:=.dict #[]}:=get?_push_size _ rfl;have hTd:Shared.TypeIs {s with heap:=s.heap.push {cls:=.type "dict",data:=.dict #[]}} (.ref s.heap.objs.size) "dict":=⟨_,hnew,rfl⟩
 have hl':(s.heap.push {cls:=.type "dict",data:=.dict #[]}).get? l=some {cls:=.type "list",dict:=none,data:=.seq items nl,slots:=sl}:=get?_push_of_some _ hl;have hTl:Shared.TypeIs {s with heap:=s.heap.push {cls:=.type "dict",data:=.dict #[]}} (.ref l) "list":=⟨_,hl',rfl⟩
 refine⟨hTd,F.args_dict_init_2 _ _,?_⟩;unfold Builtin.«dict.__init__»;refine wpAny_bind ?_;unfold Builtin.Dict.selfAndRest;refine wpAny_bind (wpAny_notOrdered_dict hTd ?_);show wpAny _ _ (pure (s.heap.objs.size,[Value.ref l])) _ _ _;refine wpAny_pure ?_;show wpAny _ _ (Builtin.Dict.updateFrom "dict.__init__" s.heap.objs.size (.ref l) [] .none) _ _ _;unfold Builtin.Dict.updateFrom;refine wpAny_bind (wpAny_typeOf hTl ?_);rw[if_pos (by decide)];refine wpAny_bind (nv (s:={s with heap:=s.heap.push {cls:=.type "dict",data:=.dict #[]}}) hl' (show A.in1.in1.handled=none by simp[hh]) λh1 tk1 hk1=>?_);have hk1':∀b o,(s.heap.push {cls:=.type "dict",data:=.dict #[]}).get? b=some o→h1.get? b=some o:=hk1;have hL1:h1.IsList l items:=⟨_,hk1' _ _ hl',rfl,nl,rfl⟩;rw[if_pos (show(none:Option Value).isNone=true from rfl)];refine wpAny_bind (wpAny_rule ?_);refine wpAny_bind (wpAny_pyIter_list hL1 ?_);have hlS:l<s.heap.objs.size:=lt_size hl;have hS1:s.heap.objs.size<h1.objs.size:=lt_size (hk1' _ _ hnew);have k0:∀b o,s.heap.get? b=some o→h1.get? b=some o:=λb o e=>hk1' b o (get?_push_of_some _ e);have hadlt:∀i,i<items.size→ad i<s.heap.objs.size:=λi hi'=>by
  obtain⟨o,ho,_⟩:=ht i hi';exact lt_size ho
 refine wpAny_pure ⟨plainId_quiet cf _,ke (A:=A.in1) ((Walks.list (show A.in1.in1.handled=none by simp[hh]) h1.objs.size l (ne_of_lt (lt_trans hlS hS1)) items).toS) s.heap.objs.size ?hdf ad kk vv hi ?had D ?hD' (λi s' E Q hi' hDi hq=>step i s' E Q hi' hDi hq)
  (items.size-0) 0 _ 0 (by omega) (zero_le _) ⟨⟨_,get?_push_size _ rfl,rfl,rfl⟩,hL1.push _⟩ ?hD0' ?ht' λs' hm hDn=>?_⟩
 case hdf =>
  simp only[mem_cons,not_mem_nil,or_false,not_or];exact⟨ne_of_lt hS1,ne_of_gt hlS⟩
 case had =>
  intro i hi';simp only[mem_cons,not_mem_nil,or_false,not_or];exact⟨ne_of_lt (hadlt i hi'),ne_of_lt (lt_trans (hadlt i hi') hS1)⟩
 case hD' =>
  intro i g g' hDi hk;refine hD i g g' hDi λb o hb e=>hk b o ?_ e;simp only[mem_cons,not_mem_nil,or_false];exact ne_of_lt (lt_of_le_of_lt hb hS1)
 case hD0' =>
  exact hD0 _ (get?_push_of_some _ (hk1' _ _ hnew)) λb o e=>get?_push_of_some _ (k0 b o e)
 case ht' =>
  intro j hj;obtain⟨o,ho,r⟩:=ht j hj;exact⟨o,get?_push_of_some _ (k0 _ _ ho),r⟩
 obtain⟨h',g',d',tk',os'⟩:=s';have eg:g'=s.gens:=hm.gens;have ed:d'=s.drawn:=hm.drawn;have eo:os'=s.os:=hm.os;subst eg;subst ed;subst eo;refine⟨rfl,h h' tk' hDn λb o e=>?_⟩;have hb:b<s.heap.objs.size:=lt_size e;refine hm.heap b o ?_ (get?_push_of_some _ (k0 b o e));simp only[mem_cons,not_mem_nil,or_false,not_or];exact⟨ne_of_lt hb,ne_of_lt (lt_trans hb hS1)⟩
end
end DL
namespace L2
open PySem PySem.Spec PyProof.Rows
section
variable{X:Cx}
theorem iQ{pins:List (Addr×Obj)}{σ:St}{H:Hp}{s:Shared}(I:Inv X pins σ H s){a:Addr}{x y:V}(h:H a=some (.tup [x,y])):∃u v,au x u∧au y v∧IsTup s.heap a #[u,v]:=by
 obtain⟨_,its,r,ht⟩:=I.hok a _ h;cases r with
 |cons r1 r =>
  cases r with
  |cons r2 r=>cases r;exact⟨_,_,r1,r2,by simpa using ht⟩
theorem lE{κ:Type}{pins:List (Addr×Obj)}{σ:St}{H:Hp}{s:Shared}(I:Inv X pins σ H s){zs:List (Addr×κ×V)}(kf:Addr×κ×V→V)(hk:∀z∈zs,H z.1=some (.tup [kf z,z.2.2])):
  ∃f:Addr×κ×V→Value×Value,∀z∈zs,au (kf z) (f z).1∧au z.2.2 (f z).2∧IsTup s.heap z.1 #[(f z).1,(f z).2]:=by
 have hch:∀z:Addr×κ×V,∃p:Value×Value,z∈zs→au (kf z) p.1∧au z.2.2 p.2∧IsTup s.heap z.1 #[p.1,p.2]:=λz=>by
  by_cases hz':z∈zs
  ·obtain⟨u,v,a,b,c⟩:=iQ I (hk z hz');exact⟨(u,v),λ_=>⟨a,b,c⟩⟩
  ·exact⟨(.none,.none),λh=>absurd h hz'⟩
 exact⟨λz=>Classical.choose (hch z),λz hz=>Classical.choose_spec (hch z) hz⟩
theorem aJ{α:Type}{l:List α}{i:Nat}{d:α}(h:i<l.length):l.getD i d∈l∧l[i]?=some (l.getD i d):=by
 rw[getD_eq_getElem?_getD,getElem?_eq_getElem h];exact⟨getElem_mem h,rfl⟩
theorem kg{κ:Type}{zs:List (Addr×κ×V)}{d:Addr×κ×V}{i:Nat}{v:Value}(h:(((zs.map (·.1)).map Value.ref).toArray)[i]?=some v):v=Value.ref (zs.getD i d).1:=by
 have h':((zs.map (·.1)).map Value.ref)[i]?=some v:=by simpa using h
 rw[getElem?_map,getElem?_map]at h';rw[getD_eq_getElem?_getD];cases e:zs[i]? with
 |none=>rw[e]at h';cases h'
 |some z=>rw[e]at h';exact(Option.some.inj h').symm
theorem cA{α:Type}{l:List α}{i:Nat}{x:α}(h:l[i]?=some x):l.take (i+1)=l.take i++[x]:=by rw[take_succ,h];rfl
theorem kh{α κ:Type}{l:List α}{f:α→κ}{i:Nat}{x:α}(hn:(l.map f).Nodup)(h:l[i]?=some x):f x∉(l.take i).map f:=by
 intro hm;obtain⟨y,hy,e⟩:=mem_map.mp hm;obtain⟨j,hj,e2⟩:=mem_iff_getElem.mp hy;have hj':j<i:=by rw[length_take]at hj;omega
 have hi:i<l.length:=(List.getElem?_eq_some_iff.mp h).1;have e3:(l.map f)[j]'(by rw[length_map];omega)=(l.map f)[i]'(by rw[length_map];omega):=by
  rw[getElem_map,getElem_map];rw[List.getElem_take]at e2;rw[e2,e,(List.getElem?_eq_some_iff.mp h).2]
 have:=(getElem_inj hn).mp e3;omega
theorem dD(hc:X.calm=true):bz X (.type "dict") (λxs H Q=>∃l,∃zs:List (Addr×Key×V),xs=[.ref l]∧H l=some (.lst ((zs.map (·.1)).map V.ref))∧(∀z∈zs,H z.1=some (.tup [kV z.2.1,z.2.2]))∧zs.length≤1000 ∧
  (zs.map (·.2.1)).Nodup∧((∀d o,H d=none→Q (.ref d) (upd H d (.frz o (.dK (zs.map (·.2))))))∨∀d,H d=none→Q (.ref d) (upd H d (.dK (zs.map (·.2)))))):=by
 intro pins s σ H xs us Q I r h;obtain⟨l,zs,rfl,hl,hk,hz,hnd,q⟩:=h;obtain⟨u,rfl,ru⟩:=cn r;cases ru;obtain⟨_,its,nl,rv,ho⟩:=I.hok l _ hl;have e:=cz rv;subst e;obtain⟨f,hf⟩:=lE I (λz=>kV z.2.1) hk;have hsz:(((zs.map (·.1)).map Value.ref).toArray).size=zs.length:=by simp
 refine DL.eL (s:=s) (I.ok.hd hc) ho (λi=>(zs.getD i (0,.inl 0,.non)).1) (λi=>(f (zs.getD i (0,.inl 0,.non))).1) (λi=>(f (zs.getD i (0,.inl 0,.non))).2) (λi v hv=>kg hv) (λi hi=>?_)
  (λi h'=>h'.DictOf (ar X.prog X.w) s.heap.objs.size ((zs.take i).map λz=>(z.2.1,(f z).2))) (λh' hg _=>?_) (λi g g' hd hk=>?_) (λi s' E Q hi hd hq=>?_) λh' tk hd hkeep=>?_
 ·rw[hsz]at hi;exact(hf _ (aJ hi).1).2.2
 ·exact⟨_,#[],0,hg,⟨rfl,rfl,rfl⟩,rfl,λ_ he=>by simp at he,Pairs.nil,List.nodup_nil⟩
 ·obtain⟨o,es,ep,ho,r⟩:=hd;exact⟨o,es,ep,hk _ o (le_refl _) ho,r⟩
 ·rw[hsz]at hi;obtain⟨hm,hg⟩:=aJ (d:=((0,.inl 0,.non):Addr×Key×V)) hi;refine wpAny_dictSet_pairs (hsz:=by rw[length_map,length_take];have:=aA hz;omega) (k:=(zs.getD i (0,.inl 0,.non)).2.1) (eC (hf _ hm).1) hd λh' hd' hs=>hq h' _ (le_succ _) hs ?_;have e1:=cA hg;have e2:=kh hnd hg;rw[e1,map_append];unfold stored at hd';rw[if_neg]at hd'
  ·exact hd'
  ·intro ha;obtain⟨p,hp,he⟩:=any_eq_true.mp ha;obtain⟨z,hz',rfl⟩:=mem_map.mp hp;exact e2 (mem_map.mpr ⟨z,hz',of_decide_eq_true he⟩)
 ·rw[hsz,take_length]at hd;obtain⟨ob,hob⟩:∃ob,h'.get? s.heap.objs.size=some ob:=let⟨o,_,_,ho,_⟩:=hd;⟨o,ho⟩;have hrel:KV (zs.map (·.2)) (zs.map λz=>(z.2.1,(f z).2)):=by
   have:∀ys:List (Addr×Key×V),(∀z∈ys,z∈zs)→KV (ys.map (·.2)) (ys.map λz=>(z.2.1,(f z).2)):=by
    intro ys
    induction ys with
    |nil=>intro _;exact .nil
    |cons z ys ih=>intro hm;exact .cons ⟨rfl,(hf z (hm z (by simp))).2.1⟩ (ih λy hy=>hm y (by simp[hy]))
   exact this zs λz hz=>hz
  have hdk:∀H':Hp,aM X.prog X.w H' h' s.heap.objs.size (.dK (zs.map (·.2))):=λH'=>iL (le_of_lt (aA (by rw[length_map];exact hz))) (beq_eq_false_iff_ne.mpr (symm (ne_of_lt I.big))) hrel hd;rcases q with q|q
  ·exact⟨.ref s.heap.objs.size,_,I.laid (t':=tk) (o:=.frz ob (.dK (zs.map (·.2)))) hkeep (le_refl _) ⟨hob,hdk _⟩,rfl,q _ ob (I.hok.fresh (le_refl _))⟩
  ·exact⟨.ref s.heap.objs.size,_,I.laid (t':=tk) (o:=.dK (zs.map (·.2))) hkeep (le_refl _) (hdk _),rfl,q _ (I.hok.fresh (le_refl _))⟩
theorem iR(hc:X.calm=true):bz X (.type "dict") (λxs H Q=>∃l,∃zs:List (Addr×Key×V),xs=[.ref l]∧H l=some (.lst ((zs.map (·.1)).map V.ref))∧(∀z∈zs,H z.1=some (.tup [kV z.2.1,z.2.2]))∧zs.length≤1000∧(zs.map (·.2.1)).Nodup∧∀d o,H d=none→Q (.ref d) (upd H d (.frz o (.dK (zs.map (·.2)))))) :=
 λpins s σ H xs us Q I r ⟨l,zs,h1,h2,h3,h4,h5,q⟩=>dD hc pins s σ H xs us Q I r ⟨l,zs,h1,h2,h3,h4,h5,.inl q⟩
theorem ie(hc:X.calm=true):bz X (.type "dict") (λxs H Q=>∃l,∃zs:List (Addr×Key×V),xs=[.ref l]∧H l=some (.lst ((zs.map (·.1)).map V.ref))∧(∀z∈zs,H z.1=some (.tup [kV z.2.1,z.2.2]))∧zs.length≤1000∧(zs.map (·.2.1)).Nodup∧∀d,H d=none→Q (.ref d) (upd H d (.dK (zs.map (·.2))))) :=
 λpins s σ H xs us Q I r ⟨l,zs,h1,h2,h3,h4,h5,q⟩=>dD hc pins s σ H xs us Q I r ⟨l,zs,h1,h2,h3,h4,h5,.inr q⟩
end
def pe(h:Heap)(d:Addr)(es:Array DictEntry)(ep:Nat):Prop:=∃o,h.get? d=some o∧o.ExactDict∧o.data=.dict es ep
section
variable{prog:Program}{w:World}{A:Around}{E:Value→Shared→Prop}{s:Shared}
theorem lF{d:Addr}{es:Array DictEntry}{ep:Nat}{Q:Value→Shared→Prop}(hd:(d==sysModules)=false)(hm:pe s.heap d es ep)(hQ:Q (.ref s.heap.objs.size) {s with heap:=s.heap.push {cls:=.type "dict_keyiterator",data:=.fields #[.ref d,.int 0 0,.int es.size 0,.int ep 0]}}):
  wpAny (model prog w) A (pyIter (.ref d)) Q E s:=by
 obtain⟨o,ho,hc,hdat⟩:=id hm;have hT:s.TypeIs (.ref d) "dict":=⟨o,ho,hc.1⟩;refine wpAny_pyIter_slot hT PySem.F.slot_dict_iter (wpAny_call_entry PySem.F.slot_dict_iter hT PySem.F.entry_dict_iter ?_ (PySem.F.args_dict_iter_1 _));unfold Builtin.«dict.__iter__»;refine wpAny_bind ?_;unfold Builtin.Dict.dictSlotNone;refine wpAny_bind (wpAny_notOrdered_dict hT ?_);show wpAny _ _ (pure (Value.ref d)) _ _ s;refine wpAny_pure ?_;show wpAny _ _ (Builtin.Dict.showsAll d >>= _) _ _ s;unfold Builtin.Dict.showsAll;rw[if_neg (by rw[hd];exact Bool.false_ne_true)];refine wpAny_bind (wpAny_pure ?_);refine wpAny_bind (wpAny_dictEntries ho hdat ?_);refine wpAny_bind (wpAny_dictEpoch ho hdat ?_);refine wpAny_bind (wpAny_newObj_type (wpAny_pure ⟨_,rfl,"dict_keyiterator",_,⟨_,get?_push_size _ rfl,rfl⟩,slot_dict_keyiterator_next.lookup,?_⟩));simpa [rawInt]using hQ
theorem lG{it d:Addr}{i ep:Nat}{es:Array DictEntry}{e:DictEntry}{Q:Option Value→Shared→Prop}(hit:s.heap.IsKeyIter it d i es.size ep)(hm:pe s.heap d es ep)(hx:es[i]?=some e)(hQ:∀h',h'.IsKeyIter it d (i+1) es.size ep→SameBut it s.heap h'→Q (some e.key) {s with heap:=h'}):
  wpAny (model prog w) A (pyNext (.ref it)) Q E s:=by
 obtain⟨o,ho,hc,hd⟩:=id hit;obtain⟨od,hod,hcd,hdd⟩:=id hm;unfold pyNext;refine wpAny_bind (wpAny_attempt (wpAny_callSpecial?_slot (name:=ofString "__next__") hit.typeIs slot_dict_keyiterator_next
  (wpAny_call_entry slot_dict_keyiterator_next hit.typeIs PySem.F.entry_dict_keyiterator_next ?_ (PySem.F.args_dict_keyiterator_next_1 _))))
 refine wpAny_bind (wpAny_pure ?_);refine wpAny_bind ?_;refine wpAny_bind ?_
 first|refine wpAny_bind (wpAny_typeNameOfWhole_keyiter hit.typeIs (wpAny_pure ?_))|refine wpAny_bind (wpAny_typeNameOf_keyiter hit.typeIs (wpAny_pure ?_))
 refine wpAny_bind (wpAny_fieldsOf ho hd ?_);have hown:Builtin.Dict_items.ownsTuple "dict_keyiterator"=false:=by decide
 simp only[hown,false_eq_true,if_false];show wpAny _ _ (if (Value.ref d==Value.none)=true then _ else _) _ _ s
 rw[if_neg (show ¬((Value.ref d==Value.none)=true)from Bool.false_ne_true)];refine wpAny_bind (wpAny_pure ?_);refine wpAny_bind (wpAny_dictEntries hod hdd ?_);rw[if_neg (by simp)];refine wpAny_bind (wpAny_pure ?_);refine wpAny_bind (wpAny_dictEpoch hod hdd ?_);rw[if_neg (by simp)];refine wpAny_pure ?_;have hlt':i<es.size:=(Array.getElem?_eq_some_iff.mp hx).1;have he:es[i]=e:=(Array.getElem?_eq_some_iff.mp hx).2;simp only[show ¬((i:Int)<0)from by omega,if_false,Int.toNat_natCast,Array.getElem?_eq_getElem hlt'];refine wpAny_bind ?_
 first|refine wpAny_bind (wpAny_typeNameOfWhole_keyiter hit.typeIs (wpAny_pure ?_))|refine wpAny_bind (wpAny_typeNameOf_keyiter hit.typeIs (wpAny_pure ?_))
 refine wpAny_bind (wpAny_isOneOf_keyiter hit.typeIs ?_);show wpAny _ _ (setField (.ref it) 1 (rawInt ((i:Int)+1)) >>= _) _ _ s;refine wpAny_bind (wpAny_setField ho hd (by simp) ?_);have hit':(s.heap.update it (Obj.mapFields (·.setIfInBounds 1 (rawInt ((i:Int)+1))))).IsKeyIter it d (i+1) es.size ep :=
  ⟨_,Heap.get?_update_self _ ho (Obj.isFreed_of_fields (Obj.data_mapFields hd _)),(Obj.cls_mapFields ..).trans hc,by rw[Obj.data_mapFields hd];simp[rawInt]⟩
 refine wpAny_bind (wpAny_holding ?_);refine wpAny_bind (wpAny_isOneOf_keyiter (s:={s with heap:=s.heap.update it (Obj.mapFields (·.setIfInBounds 1 (rawInt ((i:Int)+1))))}) hit'.typeIs ?_)
 show wpAny _ _ (pure es[i].key) _ _ _;rw[he];exact wpAny_pure (wpAny_pure ⟨_,rfl,wpAny_pure (hQ _ hit' (SameBut.update ..))⟩)
theorem nw{it d:Addr}{i ep:Nat}{es:Array DictEntry}{Q:Option Value→Shared→Prop}(hh:A.handled=none)(hit:s.heap.IsKeyIter it d i es.size ep)(hm:pe s.heap d es ep)(hge:es.size≤i)(hQ:∀h',Heap.ExtBut it s.heap h'→Q none {s with heap:=h'}):wpAny (model prog w) A (pyNext (.ref it)) Q E s:=by
 obtain⟨o,ho,hc,hd⟩:=id hit;obtain⟨od,hod,hcd,hdd⟩:=id hm;unfold pyNext;refine wpAny_bind (wpAny_attempt (wpAny_callSpecial?_slot (name:=ofString "__next__") hit.typeIs slot_dict_keyiterator_next
  (wpAny_call_entry slot_dict_keyiterator_next hit.typeIs PySem.F.entry_dict_keyiterator_next ?_ (PySem.F.args_dict_keyiterator_next_1 _))))
 refine wpAny_bind (wpAny_pure ?_);refine wpAny_bind ?_;refine wpAny_bind ?_
 first|refine wpAny_bind (wpAny_typeNameOfWhole_keyiter hit.typeIs (wpAny_pure ?_))|refine wpAny_bind (wpAny_typeNameOf_keyiter hit.typeIs (wpAny_pure ?_))
 refine wpAny_bind (wpAny_fieldsOf ho hd ?_);have hown:Builtin.Dict_items.ownsTuple "dict_keyiterator"=false:=by decide
 simp only[hown,false_eq_true,if_false];show wpAny _ _ (if (Value.ref d==Value.none)=true then _ else _) _ _ s
 rw[if_neg (show ¬((Value.ref d==Value.none)=true)from Bool.false_ne_true)];refine wpAny_bind (wpAny_pure ?_);refine wpAny_bind (wpAny_dictEntries hod hdd ?_);rw[if_neg (by simp)];refine wpAny_bind (wpAny_pure ?_);refine wpAny_bind (wpAny_dictEpoch hod hdd ?_);rw[if_neg (by simp)];refine wpAny_pure ?_;simp only[show ¬((i:Int)<0)from by omega,if_false,Int.toNat_natCast,Array.getElem?_eq_none hge];refine wpAny_bind ?_
 first|refine wpAny_bind (wpAny_typeNameOfWhole_keyiter hit.typeIs (wpAny_pure ?_))|refine wpAny_bind (wpAny_typeNameOf_keyiter hit.typeIs (wpAny_pure ?_))
 show wpAny _ _ (setField (.ref it) 0 .none >>= _) _ _ s;refine wpAny_bind (wpAny_setField ho hd (by simp) ?_);show wpAny _ _ (newExc (.type "StopIteration") [] >>= _) _ _ _;refine wpAny_bind ?_;simp only[newExc,newTuple];refine wpAny_bind (wpAny_newObj_type ?_ (by size_fits));refine wpAny_bind (m:=firstArgMember _ _) (wpAny_of_eq (a:=Value.none) (by first|rfl|(simp only[firstArgMember];rfl)) ?_)
 refine wpAny_newObj_type ?_ (by size_fits);simp only[raiseNew];refine wpAny_bind (wpAny_handled ?_);rw[show A.in1.handled=none from hh];refine wpAny_bind (wpAny_pure (wpAny_throw ?_));refine wpAny_bind (wpAny_isInstance (T:="StopIteration") (b:=true) ⟨_,get?_push_size _ rfl,rfl⟩ isSubtype_stop ?_);exact wpAny_pure (hQ _ (((SameBut.update ..).extBut.push _).push _))
end
def Itk(d:Addr)(o:Obj)(u:HO)(ks:List V):It:=⟨λi H=>H d=some (.frz o u)∧i<ks.length,λi H x H'=>H'=H∧ks[i]?=some x,λi H=>H d=some (.frz o u)∧ks.length≤i⟩
theorem kl{P:Program}{w:World}{K:PySem.W.Frag}{tg:Expr}{d it:Addr}{o:Obj}{u:HO}{es:Array DictEntry}{ep:Nat}{ks:List V}(hx:o.ExactDict)(hd:o.data=.dict es ep)(hv:am ks (es.toList.map (·.key))):
  Turn P w K tg (Itk d o u ks) [it] it (λi h=>h.IsKeyIter it d i es.size ep) where
 mem:=by simp
 obj:=λi h st b hb=>by
  have e:b=it:=by simpa using hb
  subst e;obtain⟨o,e,c,d⟩:=st;exact⟨o,e,λv z=>by rw[d]at z;cases z⟩
 keep:=λi h h' st k=>st.at λo e=>k it (by simp) o e
 item:=by
  intro X hP hw hK hc i pins s σ H E I hf st hg;subst hP hw hK;obtain⟨hH,hi⟩:=hg;have ho:=(I.hok d _ hH).1;have hl:ks.length=es.size:=by rw[hv.length,length_map,length_toList]
  have hi':i<es.size:=by omega
  obtain⟨v,hv1,hv2⟩:=hv.get (getElem?_eq_getElem hi);obtain⟨f0,f1,f2,f3,f4,f5⟩:=hf it (by simp);have ev:v=es[i].key:=by
   rw[getElem?_map,getElem?_toList,Array.getElem?_eq_getElem hi']at hv1;exact(Option.some.inj hv1).symm
  refine lG st ⟨o,ho,hx,hd⟩ (Array.getElem?_eq_getElem hi') λh' st' sb=>?_;have I1:Inv X pins σ H {s with heap:=h'}:=I.turned (t':=s.toks) (λb o hb e=>(sb.2 b hb).trans e) f0 f1 f3 f4 f5
  obtain⟨oi,e,c,dd⟩:=id st';exact⟨_,rfl,je (s:={s with heap:=h'}) e c dd (by decide) ⟨ks[i],H,I1,ev ▸ hv2,⟨rfl,getElem?_eq_getElem hi⟩,st',λb hb=>(hf b hb).1⟩⟩
 done:=by
  intro X hP hw hK hc i pins s σ H E I hf st hg;subst hP hw hK;obtain⟨hH,hi⟩:=hg;have ho:=(I.hok d _ hH).1;have hl:ks.length=es.size:=by rw[hv.length,length_map,length_toList]
  obtain⟨f0,f1,f2,f3,f4,f5⟩:=hf it (by simp);exact nw (I.ok.hd hc) st ⟨o,ho,hx,hd⟩ (by omega) λh' eb=>⟨rfl,I.turned (t':=s.toks) (λb o hb e=>eb b o hb e) f0 f1 f3 f4 f5⟩
 self:=λ_ _ _ _ _ st h=>wpAny_pyIter_keyiter st h
section
variable{X:Cx}{tg:Expr}
def iDF(td:TE):TI:=λσ H R=>td σ H λv H1=>∃d o kvs,v=.ref d∧H1 d=some (.frz o (.dK kvs))∧R (Itk d o (.dK kvs) (kvs.map λp=>kV p.1)) H1
theorem lH{l:Expr}{tl:TE}(hl:PE X l tl):PI X tg l (iDF tl):=by
 intro pins s σ H R I h;refine thn (hl pins s σ H _ I h) λv s1 hpt=>?_;obtain⟨x,H1,I1,r1,q1⟩:=hpt;obtain⟨d,o,kvs,e,hH,q⟩:=q1;subst e;cases r1;obtain⟨ho,_,hsm,vs,rel,o',es,ep,ho',hx,hd,hk,hp,hn⟩:=I1.hok d _ hH;rw[ho]at ho';cases ho';refine lF hsm ⟨o,ho,hx,hd⟩ ?_;refine⟨s1.heap.objs.size,[s1.heap.objs.size],_,_,H1,rfl,I1.kept (t':=s1.toks) λb o e=>get?_push_of_some _ e,kl hx hd ?_,⟨_,get?_push_size _ rfl,rfl,rfl⟩,λb hb=>?_,q⟩
 ·have key:∀(es:List DictEntry)(vs:List (Key×Value))(kvs:List (Key×V)),Pairs (ar X.prog X.w) es vs→KV kvs vs→am (kvs.map λp=>kV p.1) (es.map (·.key)):=by
   intro es vs kvs hp
   induction hp generalizing kvs with
   |nil=>intro r;cases r;exact .nil
   |cons h1 h2 _ ih =>
    intro r;cases r with
    |cons r1 r2 =>
     refine .cons ?_ (ih _ r2);dsimp only;rw[r1.1];rcases aH h1 with⟨i,t,e1,e2⟩|⟨x,t,e1,e2⟩
     ·rw[e1,e2];exact⟨t,rfl⟩
     ·rw[e1,e2];exact⟨t,rfl⟩
  exact key _ _ _ hp rel
 ·have e:b=s1.heap.objs.size:=by simpa using hb
  subst e;exact I1.fpOk (le_refl _) (I1.hok.fresh (le_refl _))
end
theorem km:typeLookup (.type "list_reverseiterator") "__len__"=pure none:=by rw[typeLookup_type,builtinLookup_eq_fast];kernel_rfl
theorem lI:typeLookup (.type "list_reverseiterator") "__length_hint__"=pure (some (.builtin "list_reverseiterator.__length_hint__")):=by rw[typeLookup_type,builtinLookup_eq_fast];kernel_rfl
theorem ny:isSubtype (.type "list_reverseiterator") (.type "list_reverseiterator")=pure true:=by rw[isSubtype_type];kernel_rfl
section
variable{prog:Program}{w:World}{A:Around}{E:Value→Shared→Prop}{s:Shared}
theorem ig{I l:Addr}{items:Array Value}{Q:List Value→Shared→Prop}(hh:A.handled=none)(hI:s.heap.IsRevIter I l ((items.size:Int)-1))(hl:s.heap.IsList l items)(hne:l≠I)(hn:items.size≤sizeLine)(hQ:∀h' tk acc,(∀b o,b≠I→s.heap.get? b=some o→h'.get? b=some o)→acc=items.toList.reverse→Q acc {s with heap:=h',toks:=tk}):wpAny (model prog w) A (collect (.ref I)) Q E s:=by
 have W:=(Walks.listRev (prog:=prog) (w:=w) (show A.in1.handled=none by simp[hh]) I l hne items).toS;obtain⟨oI,hoI,_⟩:=id hI;obtain⟨oL,hoL,_⟩:=id hl;have ltI:I<s.heap.objs.size:=lt_size hoI;have ltL:l<s.heap.objs.size:=lt_size hoL;have hSf:s.heap.objs.size∉[I,l]:=by
  simp only[mem_cons,not_mem_nil,or_false,not_or];exact⟨ne_of_gt ltI,ne_of_gt ltL⟩
 have hSI:s.heap.objs.size≠I:=ne_of_gt ltI;have key:∀(s':Shared)(acc:Array Value),Moved [I] (λa b=>b=a) s s'→ItemsOf (λi v=>items[items.size-1-i]?=some v) acc items.size→Q acc.toList s':=by
  intro s' acc hm hacc;obtain⟨h',g',d',tk',os'⟩:=s';have eg:g'=s.gens:=hm.gens;have ed:d'=s.drawn:=hm.drawn;have eo:os'=s.os:=hm.os;subst eg;subst ed;subst eo;refine hQ h' tk' acc.toList (λb o hb e=>hm.heap b o (by simpa using hb) e) ?_;apply ext_getElem?;intro i;rw[getElem?_toList]
  by_cases hi:i<items.size
  ·have hi':i<acc.size:=by rw[hacc.1];exact hi
   have ha:acc[i]?=some acc[i]:=Array.getElem?_eq_getElem hi';rw[List.getElem?_reverse (by simpa using hi),ha,length_toList,getElem?_toList];exact(hacc.2 i _ ha).symm
  ·rw[Array.getElem?_eq_none (by rw[hacc.1];omega),getElem?_eq_none (by simp;omega)]
 have st0:∀o,(λ(i:Nat) (h:Heap)=>i≤items.size∧h.IsRevIter I l ((items.size:Int)-1-(i:Int))∧h.IsList l items) 0 (s.heap.push o):=λo=>by
  refine⟨zero_le _,?_,?_⟩
  ·rw[show(items.size:Int)-1-((0:Nat):Int)=(items.size:Int)-1 by omega];exact hI.at λo' e=>get?_push_of_some _ e
  ·exact hl.push _
 unfold collect;refine wpAny_bind (wpAny_runValue (codeAny_builtin PySem.F.entry_proto_collect ?_));rw[Around.under_plainId PySem.F.plain_proto_collect _];show wpAny _ A.in1 (newList [] >>= λl=>again (.builtin "list.__iadd__" ⟨[l,.ref I],[]⟩)) _ _ s;refine wpAny_bind (wpAny_newObj_type (wpAny_pure ⟨plainId_quiet PySem.F.plain_list_iadd _,codeAny_builtin PySem.F.entry_list_iadd ?_⟩));rw[Around.under_plainId PySem.F.plain_list_iadd _];have hTI:Shared.TypeIs {s with heap:=s.heap.push {cls:=.type "list",data:=.seq ([]:List Value).toArray}} (.ref I) "list_reverseiterator":=((st0 _).2.1).typeIs
 have h1:Builtin.List.listSameRef (.ref s.heap.objs.size) (.ref I)=false:=by simp[Builtin.List.listSameRef,hSI]
 show wpAny _ A.in1 (Builtin.List.listExtendWith (.ref s.heap.objs.size) (.ref I) (.ref s.heap.objs.size)) _ _ _;unfold Builtin.List.listExtendWith;refine wpAny_bind (wpAny_typeOf hTI ?_);rw[if_neg (by rw[h1];decide)];refine wpAny_bind (W.self 0 _ _ _ (st0 _) (wpAny_bind (wpAny_holding ?_)));unfold Builtin.List.listLengthHint;refine wpAny_bind (wpAny_specialOf hTI km ?_);show wpAny _ A.in1 (specialOf (Value.ref I) (ofString "__length_hint__") >>= _) _ _ _;refine wpAny_bind (wpAny_specialOf hTI lI ?_);generalize hid:("list_reverseiterator.__length_hint__":String)=id0
 wp_delta
 rw[show splitId id0=some ("list_reverseiterator","__length_hint__")from by subst hid;decide +kernel];subst hid;refine wpAny_bind (wpAny_isInstance (b:=true) hTI ny (wpAny_pure ?_));rw[if_neg (by decide)];have hS:(s.heap.push {cls:=.type "list",data:=.seq ([]:List Value).toArray}).get? s.heap.objs.size=some {cls:=.type "list",data:=.seq ([]:List Value).toArray}:=get?_push_size _ rfl;refine wpAny_pure ⟨plainId_quiet PySem.F.plain_extend_loop _,codeAny_extend_loopS W hn _ hSf _ items.size 0 _ _ _ rfl (zero_le _) (st0 _) hS (ItemsOf.nil _) λs' acc c hm hS' hacc=>?_⟩;show wpAny _ A (load s.heap.objs.size >>= _) _ _ s';exact wpAny_bind (wpAny_load hS' (wpAny_pure (key s' acc (Moved.drop_new (o:={cls:=.type "list",data:=.seq ([]:List Value).toArray}) (tk:=s.toks) hm (le_refl _)) hacc)))
theorem eM{I l:Addr}{items:Array Value}{Q:Value→Shared→Prop}(hh:A.handled=none)(hI:s.heap.IsRevIter I l ((items.size:Int)-1))(hl:s.heap.IsList l items)(hne:l≠I)(hn:items.size≤sizeLine)(hQ:∀(h':Heap) (tk:Nat),(∀b o,b≠I→s.heap.get? b=some o→h'.get? b=some o)→Q (.ref h'.objs.size) {s with heap:=h'.push {cls:=.type "tuple",data:=.seq items.toList.reverse.toArray},toks:=tk}):
  wpAny (model prog w) A (call (.type "tuple") [.ref I]) Q E s:=by
 refine callType_codes (Q₁:=λobj s₁=>s₁.TypeIs obj "tuple"∧Q obj s₁) called_tuple (PySem.F.typeCall_tuple_1 _) PySem.F.entry_object_init ?_ λobj s₁ h₁=>?_
 ·refine codeAny_of_tree ?_;show wpAny _ A.in1.in1 (do checkBuiltinCall "tuple.__new__" ⟨[.type "tuple",.ref I],[]⟩;again (.builtin "tuple.__new__" ⟨[.type "tuple",.ref I],[]⟩)) _ _ s
  refine wpAny_bind (wpAny_of_eq (PySem.F.newCall_tuple_1 _) (wpAny_pure ⟨plainId_quiet PySem.F.plain_tuple_new _,codeAny_builtin PySem.F.entry_tuple_new ?_⟩));rw[Around.under_plainId PySem.F.plain_tuple_new _];have hsub:=sub_tuple_self;have hinit:=init_tuple_lookup;have hmh:=madeHere_tuple;have hTI:s.TypeIs (.ref I) "list_reverseiterator":=hI.typeIs
  wp_walk using wpAny_typeOf hTI,ig (show A.in1.in1.handled=none by simp[hh]) hI hl hne hn
  intro h' tk acc hk hacc;subst hacc;refine wpAny_bind (wpAny_pure ?_);show wpAny _ _ (Builtin.Tuple.tupleExact items.toList.reverse.toArray >>= λv=>ret v) _ _ _;unfold Builtin.Tuple.tupleExact;have hsz:items.toList.reverse.toArray.size≤sizeLine:=by simpa using hn
  exact wpAny_bind (wpAny_newObj_type (wpAny_pure ⟨⟨_,get?_push_size _ rfl,rfl⟩,hQ h' tk hk⟩) hsz)
 ·exact⟨h₁.1,PySem.F.args_object_init_2 obj _,object_init_meets called_tuple.init.lookup called_tuple.made (by decide) prog w A.in1 _ s₁ ⟨h₁.1,rfl,h₁.2⟩⟩
end
section
variable{X:Cx}
def nz(te:TE):TE:=λσ H Q=>dy te iE σ H λvs H1=>∃l ys,vs=[.ref l]∧H1 l=some (.lst ys)∧∀p,H1 p=none→Q (.ref p) (upd H1 p (.tup ys.reverse))
theorem kn{e:Expr}{te:TE}{q1 q2 p1 p2:Pos}(hc:X.calm=true)(hg:Gl X "tuple")(hm:X.mg "tuple"=none)(hg':Gl X "reversed")(hm':X.mg "reversed"=none)(he:PE X e te)(s1:starEach [e] X.env=[(false,eval e X.env)]:=by rfl)(s2:starEach [.Call (.Name "reversed" q1) [e] [] p1] X.env=[(false,eval (.Call (.Name "reversed" q1) [e] [] p1) X.env)]:=by rfl):
  PE X (.Call (.Name "tuple" q2) [.Call (.Name "reversed" q1) [e] [] p1] [] p2) (nz te):=by
 intro pins s σ H Q I h;refine wpAny_Call_Name_kw (dh I hg hm boot_tuple ?_ (by decide) (by decide));refine PyProof.Rows.callWith_type1 ?_ s2 rfl;rw[s2];refine spliced_cons ?_;refine wpAny_Call_Name_kw (dh I hg' hm' PyProof.Rows.boot_reversed ?_ (by decide) (by decide));have hA:PA X [e] (dy te iE):=aa he ae s1;refine PyProof.Rows.callWith_type1 (thn (hA p1 pins s σ H _ I h) λus s3 ⟨vs,H1,I1,r1,q1⟩=>?_) s1 rfl;obtain⟨l,ys,rfl,hl,q⟩:=q1;obtain⟨u,rfl,ru⟩:=cn r1;cases ru;obtain⟨hz,its,n,rv,ho⟩:=I1.hok l _ hl;have hL:s3.heap.IsList l its.toArray:=⟨_,ho,rfl,n,rfl⟩;have hlen:its.toArray.size≤sizeLine:=by rw[size_toArray,←rv.length];exact hz
 refine call_reversed_list hL (spliced_nil ?_);have ltl:l<s3.heap.objs.size:=lt_size ho;refine eM (s:={s3 with heap:=s3.heap.push (revObj l ((its.toArray.size:Int)-1))}) (items:=its.toArray) (I.ok.hd hc) ⟨_,get?_push_size _ rfl,rfl,rfl⟩ (hL.push _) (ne_of_lt ltl) hlen λh' tk hk=>?_
 have k0:∀b o,s3.heap.get? b=some o→h'.get? b=some o:=λb o e=>hk b o (ne_of_lt (lt_size e)) (get?_push_of_some _ e);have I2:Inv X pins σ H1 {s3 with heap:=h',toks:=tk}:=I1.kept (t':=tk) k0
 have er:its.toArray.toList.reverse.toArray=its.reverse.toArray:=by simp
 rw[er];have I3:Inv X pins σ (upd H1 h'.objs.size (.tup ys.reverse)) {s3 with heap:=h'.push {cls:=.type "tuple",data:=.seq its.reverse.toArray},toks:=tk} :=
  I2.laid (t':=tk) (λb o e=>get?_push_of_some _ e) (le_refl _) (show aM X.prog X.w _ _ _ (.tup ys.reverse)from⟨by rw[List.length_reverse];exact hz,its.reverse,rv.reverse,IsTup.new _ _⟩)
 exact⟨.ref h'.objs.size,_,I3,rfl,q _ (I2.hok.fresh (le_refl _))⟩
end
end L2
namespace HT
open PySem PyProof.Rows
def cp(x y:Str):Bool:=decide (x.cps.toList<y.cps.toList)
def ba:List Str→List Str→Bool
 |[],[]=>false
 |[],_::_=>true
 |_::_,[]=>false
 |x::xs,y::ys=>if x=y then ba xs ys else cp x y
theorem bV(x y:Str)(xs ys:List Str):ba (x::xs) (y::ys)=if x=y then ba xs ys else cp x y:=rfl
theorem gB:ba [] []=false:=rfl
theorem ff(y:Str)(ys:List Str):ba [] (y::ys)=true:=rfl
theorem fg(x:Str)(xs:List Str):ba (x::xs) []=false:=rfl
theorem nA{x y:Str}(h:x.cps.toList=y.cps.toList):x=y:=by
 obtain⟨x⟩:=x;obtain⟨y⟩:=y
 congr
 exact Array.toList_inj.mp h
theorem ko(x:Str):cp x x=false:=decide_eq_false (List.lt_irrefl _)
theorem lJ{x y z:Str}(h1:cp x y=true)(h2:cp y z=true):cp x z=true:=by
 unfold cp at *;rw[decide_eq_true_eq]at *;exact List.lt_trans h1 h2
theorem kq{x y:Str}(h:x≠y):cp x y=true∨cp y x=true:=by
 unfold cp;rw[decide_eq_true_eq,decide_eq_true_eq];rcases Decidable.em (x.cps.toList<y.cps.toList)with a|a
 ·exact .inl a
 ·refine .inr ?_;have hle:y.cps.toList≤x.cps.toList:=not_lt.mp a;rcases Decidable.em (y.cps.toList<x.cps.toList)with b|b
  ·exact b
  ·have hle2:x.cps.toList≤y.cps.toList:=not_lt.mp b;exact absurd (nA (List.le_antisymm hle2 hle)) h
theorem bE:∀p:List Str,ba p p=false
 |[]=>rfl
 |x::p=>by rw[bV,if_pos rfl];exact bE p
theorem dM:∀{p q r:List Str},ba p q=true→ba q r=true→ba p r=true
 |[],[],_,h,_=>by cases h
 |[],_::_,[],_,h=>by cases h
 |[],_::_,_::_,_,_=>rfl
 |_::_,[],_,h,_=>by cases h
 |_::_,_::_,[],_,h=>by cases h
 |x::p,y::q,z::r,h1,h2=>by
  rw[bV]at h1 h2⊢
  by_cases a:x=y
  ·subst a;rw[if_pos rfl]at h1
   by_cases b:x=z
   ·rw[if_pos b]at h2⊢;exact dM h1 h2
   ·rw[if_neg b]at h2⊢;exact h2
  ·rw[if_neg a]at h1
   by_cases b:y=z
   ·subst b;rw[if_neg a];exact h1
   ·rw[if_neg b]at h2;have h3:=lJ h1 h2;have c:x≠z:=λe=>by
     subst e;rw[ko]at h3;cases h3
    rw[if_neg c];exact h3
theorem eN:∀{p q:List Str},p≠q→ba p q=true∨ba q p=true
 |[],[],h=>absurd rfl h
 |[],_::_,_=>.inl rfl
 |_::_,[],_=>.inr rfl
 |x::p,y::q,h=>by
  rw[bV,bV]
  by_cases a:x=y
  ·subst a;rw[if_pos rfl,if_pos rfl];exact eN λe=>h (by rw[e])
  ·rw[if_neg a,if_neg (symm a)];exact kq a
theorem lK(A:Around)(s:Shared)(a:Str)(t:Tok)(c:Str)(u:Tok):∃e,EqAt A s (.str a t) (.str c u) e∧(e=true↔a=c) :=
 ⟨decide (a=c),λprog w E Q h=>wpAny_eqBool_str h,by simp⟩
theorem lL(A:Around)(s:Shared)(a:Str)(t:Tok)(c:Str)(u:Tok)(prog:Program)(w:World)(E:Value→Shared→Prop)(Q:Value→Shared→Prop)(h:Q (.bool (cp a c)) s):
  wpAny (model prog w) A (richCompare .Lt (.str a t) (.str c u)) Q E s :=
 (lt_str h:wpAny (model prog w) A (compareOp .Lt (.str a t) (.str c u)) Q E s)
section
open PySem.SeqAt
open PySem.AutoSeq1 (wpAny_loadPart')
open PySem.MeetsSeq PySem.MeetsSeq2 PySem.MeetsSeq3
theorem fi(l b:Addr)(items items2:Array Value)(n n2:Nat)(dd dd2:Option Addr)(sl sl2:Array (Option Value))(ns ms:List Str)(hi:StrsAre items.toList ns)(hj:StrsAre items2.toList ms):
  Meets (Builtin.«tuple.__lt__» ⟨[.ref l,.ref b],[]⟩)
   (λ_ R s=>s.heap.get? l=some {cls:=.type "tuple",dict:=dd,data:=.seq items n,slots:=sl}∧s.heap.get? b=some {cls:=.type "tuple",dict:=dd2,data:=.seq items2 n2,slots:=sl2} ∧
    R (.ok (.ret (.bool (ba ns ms)))) s) :=
 .of_wp λprog w A R s h=>by
  obtain⟨hp,g,d,tk,os⟩:=s;obtain⟨hl,hb,h⟩:=h;have f2:=AutoSeq1.sub_tuple_tuple;have z1:items.size=ns.length:=by rw[←hi.length];simp
  have z2:items2.size=ms.length:=by rw[←hj.length];simp
  wp_walk using wpAny_loadPart' hl,wpAny_loadPart' hb,wpAny_forIn_list _ (λrest b s'=>b.1=none∧s'=⟨hp,g,d,tk,os⟩∧∃(vs ws:List Value) (ns' ms':List Str),rest=vs.zip ws ∧
   StrsAre vs ns'∧StrsAre ws ms'∧ns'.length+items2.size=ms'.length+items.size∧R (.ok (.ret (.bool (ba ns' ms')))) ⟨hp,g,d,tk,os⟩) _
  case turn =>
   rintro⟨y,x⟩ rest b s' ⟨hb',rfl,vs,ws,ns',ms',hz,hvi,hwi,hlen,hR⟩;cases hvi with
   |nil=>rw[List.zip_nil_left]at hz;cases hz
   |cons a t hvi' =>
    cases hwi with
    |nil=>rw[List.zip_nil_right]at hz;cases hz
    |cons c u hwi' =>
     rw[List.zip_cons_cons]at hz;injection hz with hyx hrest
     injection hyx with hy hx
     subst hy hx;rw[bV]at hR;simp only[length_cons]at hlen;obtain⟨e,he,hiff⟩:=lK A.in1 ⟨hp,g,d,tk,os⟩ a t c u;refine wpAny_bind (he prog w _ _ ?_);cases e with
     |true =>
      rw[if_pos (hiff.mp rfl)]at hR
      wp_walk
      exact⟨rfl,rfl,_,_,_,_,hrest,hvi',hwi',by omega,hR⟩
     |false =>
      rw[if_neg (λq=>absurd (hiff.mpr q) Bool.false_ne_true)]at hR;have hri:=lL A.in1 ⟨hp,g,d,tk,os⟩ a t c u prog w
      wp_walk using hri
      exact⟨_,rfl,by simpa using hR⟩
  case fin =>
   rintro⟨b1,b2⟩ s' ⟨hb',rfl,vs,ws,ns',ms',hz,hvi,hwi,hlen,hR⟩;simp only at hb';subst hb';have hv:ba ns' ms'=decide (items.size<items2.size):=by
    cases hvi with
    |nil =>
     cases hwi with
     |nil =>
      simp only[length_nil]at hlen;rw[gB];exact(decide_eq_false (by omega)).symm
     |cons c u hw =>
      simp only[length_nil,length_cons]at hlen;rw[ff];exact(decide_eq_true (by omega)).symm
    |cons a t hv =>
     cases hwi with
     |nil =>
      simp only[length_nil,length_cons]at hlen;rw[fg];exact(decide_eq_false (by omega)).symm
     |cons c u hw =>
      rw[List.zip_cons_cons]at hz;cases hz
   rw[hv]at hR
   wp_walk
   exact⟨_,rfl,by simpa [Builtin.Tuple.tupleCompareSizes]using hR⟩
  case h =>
   exact⟨rfl,rfl,items.toList,items2.toList,ns,ms,rfl,hi,hj,by omega,h⟩
end
section
variable{prog:Program}{w:World}{A:Around}{E:Value→Shared→Prop}{s:Shared}
theorem eO{l b:Addr}{items items2:Array Value}{ns ms:List Str}{Q:Value→Shared→Prop}(hl:IsTup s.heap l items)(hb:IsTup s.heap b items2)(hi:StrsAre items.toList ns)(hj:StrsAre items2.toList ms)(hu:A.units<cLine)(h:Q (.bool (ba ns ms)) s):wpAny (model prog w) A (compareOp .Lt (.ref l) (.ref b)) Q E s:=by
 obtain⟨⟨cls,dd,data,sl⟩,ho,hc,n,hd⟩:=id hl;obtain⟨⟨cls2,dd2,data2,sl2⟩,ho2,hc2,n2,hd2⟩:=id hb;simp only at hc hd hc2 hd2;subst hc hd hc2 hd2;exact richCompare_meets_room (op:=.Lt) ⟨_,ho,rfl⟩ ⟨_,ho2,rfl⟩ PySem.F.slot_tuple_lt PySem.F.entry_tuple_lt (PySem.F.args_tuple_lt_2 _ _) (fi l b items items2 n n2 dd dd2 sl sl2 ns ms hi hj)
  ⟨ho,ho2,show Value.bool (ba ns ms)≠Value.notImplemented∧Q (.bool (ba ns ms)) s from⟨(λx=>nomatch x),h⟩⟩ hu
end
end HT
namespace L2
open PySem PySem.Spec PyProof.Rows
section
variable{X:Cx}
theorem kr{α:Type}{zs:List α}{val:α→V}{d:α}:∀{us:List Value},am (zs.map val) us→∀(ps:List Nat),(∀i∈ps,i<zs.length)→am ((ps.map λi=>zs.getD i d).map val) (ps.map λi=>us.getD i Value.none):=by
 intro us rv ps
 induction ps with
 |nil=>intro _;exact .nil
 |cons i ps ih =>
  intro h;refine .cons ?_ (ih λj hj=>h j (by simp[hj]));have hi:=h i (by simp);obtain⟨u,hu,r⟩:=rv.get (i:=i) (x:=val (zs.getD i d)) (by rw[getElem?_map,(aJ (d:=d) hi).2];rfl);have:us.getD i Value.none=u:=by rw[getD_eq_getElem?_getD,hu];rfl
  show au (val (zs.getD i d)) (us.getD i Value.none);rw[this];exact r
theorem cq{α:Type}{zs:List α}{val:α→V}{d:α}{us:List Value}{f:α→α→Bool}{l:Addr}{pins:List (Addr×Obj)}{σ:St}{H:Hp}{s:Shared}{Q:VK}{κ:SortKind}{E:Value→Shared→Prop}(I:Inv X pins σ H s)(rv:am (zs.map val) us)(O:SRT.Ord (λi j=>f (zs.getD i d) (zs.getD j d)) zs.length)(pl:s.heap.IsList l us.toArray)(h64:zs.length<64)(hk:∀(A':Around) (s':Shared),A'.units≤X.A.units+2→(∀b o,s.heap.get? b=some o→s'.heap.get? b=some o)→∀Q:SortKind→Shared→Prop,2≤zs.length→Q κ s'→wpAny (model X.prog X.w) A' (keyKind' us.toArray) Q (λ_ _=>False) s')(hlt:∀(A':Around) (s':Shared),A'.units≤X.A.units+2→(∀b o,s.heap.get? b=some o→s'.heap.get? b=some o)→∀(i j:Nat) (C:Bool→Shared→Prop),i<zs.length→j<zs.length→C (f (zs.getD i d) (zs.getD j d)) s'→wpAny (model X.prog X.w) A' (keyLt' κ (us.getD i Value.none) (us.getD j Value.none)) C (λ_ _=>False) s')(q:∀zs':List α,zs'.Perm zs→zs'.Pairwise (λa b=>f a b=true)→∀p,H p=none→Q (.ref p) (upd H p (.lst (zs'.map val)))):wpAny (model X.prog X.w) X.A (call (.builtin "sorted") [.ref l]) (EP X pins σ Q) E s:=by
 have hlen:us.length=zs.length:=by rw[←rv.length,length_map]
 refine SRT.ka (κ:=κ) (f:=λi j=>f (zs.getD i d) (zs.getD j d)) (by rw[hlen];exact O) pl (by rw[hlen];exact h64) (λA' s' h1 h2 Q' h3=>hk A' s' h1 h2 Q' (by omega)) (λA' s' h1 h2 i j C hi hj=>hlt A' s' h1 h2 i j C (by omega) (by omega)) ?_;intro p h' hrow hup kp _ hg;obtain⟨c,hg⟩:=hg;rw[hlen]at hrow hup;have hin:∀i∈p.toList,i<zs.length:=λi hi=>mem_range.mp (hrow.perm.mem_iff.mp hi);have hperm:(p.toList.map λi=>zs.getD i d).Perm zs:=by
  refine(hrow.perm.map _).trans ?_;have:(List.range zs.length).map (λi=>zs.getD i d)=zs:=by
   apply ext_getElem?;intro i;rw[getElem?_map]
   by_cases hi:i<zs.length
   ·rw[List.getElem?_range hi,(aJ (d:=d) hi).2];rfl
   ·rw[getElem?_eq_none (by rw[length_range];omega),getElem?_eq_none (by omega)];rfl
  rw[this]
 have hpl:p.size=zs.length:=hrow.size;have hpw:(p.toList.map λi=>zs.getD i d).Pairwise (λa b=>f a b=true):=by
  rw[List.pairwise_iff_getElem];intro i j hi hj hij;have hi':i<p.size:=by rw[length_map,length_toList]at hi;exact hi
  have hj':j<p.size:=by rw[length_map,length_toList]at hj;exact hj
  have:=hup i j hij (by omega);simp only[]at this;rw[getD_eq_getD_getElem?,getD_eq_getD_getElem?,Array.getElem?_eq_getElem hi',Array.getElem?_eq_getElem hj']at this;simpa using this
 refine⟨.ref (s.heap.objs.size+1),_,I.laid (t':=s.toks) (o:=.lst ((p.toList.map λi=>zs.getD i d).map val)) kp (le_succ _) ⟨?_,_,c,kr rv p.toList hin,hg⟩,rfl,q _ hperm hpw _ (I.hok.fresh (le_succ _))⟩;rw[length_map,hperm.length_eq,sizeLine_eq];omega
theorem jr{ns:List Int}{us:List Value}(r:am (ns.map V.int) us):IntsAre us ns:=iH r
theorem dk:bz X (.builtin "sorted") (λxs H Q=>∃l,∃ns:List Int,xs=[.ref l]∧H l=some (.lst (ns.map V.int))∧ns.Nodup∧ns.length<64 ∧
  ∀ms:List Int,ms.Perm ns→ms.Pairwise (λa b=>a<b)→∀p,H p=none→Q (.ref p) (upd H p (.lst (ms.map V.int)))):=by
 intro pins s σ H xs us Q I r h;obtain⟨l,ns,rfl,hl,hnd,h64,q⟩:=h;obtain⟨u,rfl,ru⟩:=cn r;cases ru;obtain⟨_,its,n,rv,ho⟩:=I.hok l _ hl;have hI:=jr rv;have hlen:its.length=ns.length:=by rw[←rv.length,length_map]
 refine cq (val:=V.int) (d:=(0:Int)) (f:=λa b=>decide (a<b)) (κ:=oneType') I rv ⟨λi _=>by simp,λi j k _ _ _ h1 h2=>?_,λi j hi hj hij=>?_⟩ ⟨_,ho,rfl,n,rfl⟩ h64 (λA' s' _ _ Q' h2 hQ=>?_) (λA' s' _ _ i j C hi hj hC=>?_) λzs' h1 h2 p hp=>q zs' h1 (h2.imp λh=>by simpa using h) p hp
 ·simp only[decide_eq_true_eq]at *;omega
 ·simp only[decide_eq_true_eq];have:ns.getD i 0≠ns.getD j 0:=by
   rw[getD_eq_getElem?_getD,getD_eq_getElem?_getD,getElem?_eq_getElem hi,getElem?_eq_getElem hj];exact λe=>hij ((getElem_inj hnd).mp e)
  omega
 ·rw[ksk_kind (keys:=its.toArray) (kz:=ns) (by simpa using hI) (by rw[size_toArray];omega)];exact wpAny_pure hQ
 ·have gi:∀i,i<ns.length→∃t,its.getD i Value.none=.int (ns.getD i 0) t:=λi hi=>by
   obtain⟨v,hv,r⟩:=rv.get (i:=i) (x:=.int (ns.getD i 0)) (by rw[getElem?_map,(aJ (d:=(0:Int)) hi).2];rfl);obtain⟨t,rfl⟩:=r;exact⟨t,by rw[getD_eq_getElem?_getD,hv];rfl⟩
  obtain⟨t,e1⟩:=gi i hi;obtain⟨t',e2⟩:=gi j hj;rw[e1,e2];exact kat_lt_int hC
structure Cp where
 a:Addr
 t:Addr
 p:List Str
 n:Int
def dH(H:Hp)(z:Cp):Prop:=H z.a=some (.tup [.ref z.t,.int z.n])∧H z.t=some (.tup (z.p.map V.str))
theorem gC:∀{ps:List Str}{us:List Value},am (ps.map V.str) us→StrsAre us ps
 |[],_,.nil=>.nil
 |p::ps,_,.cons ⟨t,e⟩ r=>by subst e;exact .cons p t (gC r)
theorem bp(hu:X.A.units+8<cLine):bz X (.builtin "sorted") (λxs H Q=>∃l,∃zs:List Cp,xs=[.ref l]∧H l=some (.lst (zs.map λz=>V.ref z.a))∧(∀z∈zs,dH H z)∧(zs.map (·.p)).Nodup∧zs.length<64 ∧
  ∀zs':List Cp,zs'.Perm zs→zs'.Pairwise (λa b=>HT.ba a.p b.p=true)→∀p,H p=none→Q (.ref p) (upd H p (.lst (zs'.map λz=>V.ref z.a)))):=by
 intro pins s σ H xs us Q I r h;obtain⟨l,zs,rfl,hl,hk,hnd,h64,q⟩:=h;obtain⟨u,rfl,ru⟩:=cn r;cases ru;obtain⟨_,its,n,rv,ho⟩:=I.hok l _ hl
 let d:Cp:=⟨0,0,[],0⟩
 have hlen:its.length=zs.length:=by rw[←rv.length,length_map]
 have gi:∀i,i<zs.length→its.getD i Value.none=.ref (zs.getD i d).a:=λi hi=>by
  obtain⟨v,hv,r⟩:=rv.get (i:=i) (x:=.ref (zs.getD i d).a) (by rw[getElem?_map,(aJ (d:=d) hi).2];rfl);cases r;rw[getD_eq_getElem?_getD,hv];rfl
 have eits:its=zs.map λz=>Value.ref z.a:=by
  have key:∀(l:List Cp)(us:List Value),am (l.map λz=>V.ref z.a) us→us=l.map λz=>Value.ref z.a:=by
   intro l
   induction l with
   |nil=>intro us r;cases r;rfl
   |cons z l ih =>
    intro us r;cases r with
    |cons r1 r2 =>
     rw[ih _ r2];cases r1;rfl
  exact key zs its rv
 have hobj:∀z∈zs,∃t',IsTup s.heap z.a #[.ref z.t,.int z.n t']:=λz hz=>by
  obtain⟨u,v,r1,r2,ht⟩:=iQ I (hk z hz).1;cases r1;obtain⟨t',rfl⟩:=r2;exact⟨t',ht⟩
 have htup:∀z∈zs,∃ws:List Value,StrsAre ws z.p∧IsTup s.heap z.t ws.toArray:=λz hz=>by
  obtain⟨_,ws,r1,ht⟩:=I.hok z.t _ (hk z hz).2;exact⟨ws,gC r1,ht⟩
 have kept:∀{s':Shared}{a:Addr}{xs:Array Value},(∀b o,s.heap.get? b=some o→s'.heap.get? b=some o)→IsTup s.heap a xs→IsTup s'.heap a xs:=λk ⟨o,e,r⟩=>⟨o,k _ o e,r⟩;refine cq (val:=λz:Cp=>V.ref z.a) (d:=d) (f:=λa b=>HT.ba a.p b.p) (κ:=tuples' false) I rv ⟨λi _=>HT.bE _,λi j k _ _ _ h1 h2=>HT.dM h1 h2,λi j hi hj hij=>HT.eN ?_⟩ ⟨_,ho,rfl,n,rfl⟩ h64 (λA' s' _ kp Q' h2 hQ=>?_) (λA' s' hA kp i j C hi hj hC=>?_) q
 ·intro e;have e':(zs.map (·.p))[i]'(by simpa using hi)=(zs.map (·.p))[j]'(by simpa using hj):=by
   have h1:=(aJ (d:=d) hi).2;have h2:=(aJ (d:=d) hj).2;rw[getElem_map,getElem_map,(List.getElem?_eq_some_iff.mp h1).2,(List.getElem?_eq_some_iff.mp h2).2];exact e
  exact hij ((getElem_inj hnd).mp e')
 ·have key:∀ys:List Cp,(∀z∈ys,z∈zs)→KatTups s'.heap (ys.map λz=>Value.ref z.a) (ys.map λz=>Value.ref z.t):=by
   intro ys
   induction ys with
   |nil=>intro _;exact KatTups.nil
   |cons z ys ih =>
    intro hm;obtain⟨t',o,e1,e2,n',e3⟩:=hobj z (hm z (by simp));exact KatTups.cons (kp _ _ e1) e2 e3 rfl (ih λy hy=>hm y (by simp[hy]))
  rw[eits];refine kat_kind (T:=.type "tuple") (key zs λz hz=>hz) (by rw[length_map];omega) (λv hv=>?_) (by rfl) hQ;obtain⟨z,hz,rfl⟩:=mem_map.mp hv;obtain⟨ws,_,o,e1,e2,_⟩:=htup z hz;exact e2 ▸ (Looks.ld (kp _ _ e1)).andThen .now
 ·rw[gi i hi,gi j hj];have mi:=(aJ (d:=d) hi).1;have mj:=(aJ (d:=d) hj).1;generalize zs.getD i d=zi at mi hC⊢;generalize zs.getD j d=zj at mj hC⊢;obtain⟨ti,oi,a1,a2,ni,a3⟩:=hobj zi mi;obtain⟨tj,oj,b1,b2,nj,b3⟩:=hobj zj mj;refine kat_lt (kp _ _ a1) a3 (kp _ _ b1) b3 ?_;obtain⟨wi,si,pi⟩:=htup zi mi;obtain⟨wj,sj,pj⟩:=htup zj mj;have hu1:A'.units<cLine:=by omega
  have ki:IsTupleKey (ar X.prog X.w) s'.heap (zi.p.map Sum.inr) zi.t:=by
   obtain⟨o,its',n',ho',r⟩:=kc (ks:=zi.p.map Sum.inr) I (by rw[map_map];exact(hk zi mi).2) X.prog X.w;exact⟨o,its',n',kp _ _ ho',r⟩
  have kj:IsTupleKey (ar X.prog X.w) s'.heap (zj.p.map Sum.inr) zj.t:=by
   obtain⟨o,its',n',ho',r⟩:=kc (ks:=zj.p.map Sum.inr) I (by rw[map_map];exact(hk zj mj).2) X.prog X.w;exact⟨o,its',n',kp _ _ ho',r⟩
  refine kat_cons (wpAny_eqBool_tuple (knd:=ar X.prog X.w) hu1 ki kj ?_)
  by_cases e:zi.p=zj.p
  ·rw[e,decide_eq_true rfl];have hC':C false s':=by rw[e,HT.bE]at hC;exact hC
   have en:zi=zj:=by
    obtain⟨x,hx,ex⟩:=mem_iff_getElem.mp mi;obtain⟨y,hy,ey⟩:=mem_iff_getElem.mp mj;have e':(zs.map (·.p))[x]'(by simpa using hx)=(zs.map (·.p))[y]'(by simpa using hy):=by rw[getElem_map,getElem_map,ex,ey];exact e
    have:=(getElem_inj hnd).mp e';subst this;rw[←ex,←ey]
   subst en;refine kat_yes (kat_cons (wpAny_eqBool_int ?_));rw[beq_self_eq_true];exact kat_yes (kat_nil (by simpa using hC'))
  ·have hne:¬(zi.p.map Sum.inr:List Key)=zj.p.map Sum.inr:=λz=>e (by
    have:=congrArg (List.map λk:Key=>match k with | .inr x=>x | .inl _=>empty) z;simpa [map_map,Function.comp_def]using this)
   rw[decide_eq_false hne];refine kat_no (kat_one _ _ ?_);exact HT.eO (kept kp pi) (kept kp pj) (by simpa using si) (by simpa using sj) hu1 hC
end
def jt(H:Hp):Nat→V→V→Prop
 |0,x,y=>x=y∧cF x=true
 |n+1,x,y=>(x=y∧cF x=true)∨∃a b xs ys,x=.ref a∧y=.ref b∧H a=some (.tup xs)∧H b=some (.tup ys)∧xs.length=ys.length∧∀(i:Nat) x' y',xs[i]?=some x'→ys[i]?=some y'→jt H n x' y'
theorem ik{x:V}(f:cF x=true):eqV x x=true:=by
 cases x<;>first|rfl|(simp[eqV];done) | (exact absurd (show false=true from f) Bool.false_ne_true)
theorem cJ{H:Hp}{n:Nat}{x y:V}(h:x=y∧cF x=true):jt H n x y:=by
 cases n with
 |zero=>exact h
 |succ n=>exact .inl h
section
variable{X:Cx}{pins:List (Addr×Obj)}{σ:St}{H:Hp}{s:Shared}
theorem lM(I:Inv X pins σ H s):∀(n:Nat){A:Around}{x y:V}{u v:Value},au x u→au y v→jt H n x y→A.units+n<cLine→EqAt A s u v true:=by
 intro n
 induction n with
 |zero =>
  intro A x y u v ru rv h hu;obtain⟨e,f⟩:=h;subst e;have:=iI (A:=A) (s:=s) ru rv f f;rw[ik f]at this;exact this
 |succ n ih =>
  intro A x y u v ru rv h hu;rcases h with⟨e,f⟩|⟨a,b,xs,ys,rfl,rfl,ha,hb,hl,hx⟩
  ·subst e;have:=iI (A:=A) (s:=s) ru rv f f;rw[ik f]at this;exact this
  ·cases ru;cases rv
   by_cases hab:a=b
   ·subst hab;exact EqAt.same _
   ·obtain⟨_,us,r1,t1⟩:=I.hok a _ ha;obtain⟨_,ws,r2,t2⟩:=I.hok b _ hb;have l1:=r1.length;have l2:=r2.length;have:=SeqAt.RcAt.tuples (A:=A) (s:=s) (e:=λ_=>true) t1 t2 (by omega) (λj h1 h2=>by
     have h1':j<xs.length:=by rw[l1];simpa using h1
     have h2':j<ys.length:=by rw[l2];simpa using h2
     obtain⟨u',hu1,hu2⟩:=r1.get (getElem?_eq_getElem h1');obtain⟨v',hv1,hv2⟩:=r2.get (getElem?_eq_getElem h2');have e1:us.toArray[j]=u':=by
      have:us[j]?=some us.toArray[j]:=by rw[getElem?_eq_getElem (by simpa using h1)];simp
      rw[hu1]at this;exact(Option.some.inj this).symm
     have e2:ws.toArray[j]=v':=by
      have:ws[j]?=some ws.toArray[j]:=by rw[getElem?_eq_getElem (by simpa using h2)];simp
      rw[hv1]at this;exact(Option.some.inj this).symm
     rw[e1,e2];exact ih hu2 hv2 (hx j _ _ (getElem?_eq_getElem h1') (getElem?_eq_getElem h2')) (by simp[Around.in1_units];omega))
    have e3:((List.range (min us.toArray.size ws.toArray.size)).all (λ_=>true)&&us.toArray.size==ws.toArray.size)=true:=by
     have:us.toArray.size=ws.toArray.size:=by simp only[size_toArray];omega
     simp[this]
    rw[e3]at this;exact EqAt.of_refs hab this
def cZ(H:Hp)(xs ys:List V):Prop:=xs.length=ys.length∧∀(i:Nat) x y,xs[i]?=some x→ys[i]?=some y→jt H 3 x y
theorem da{pins:List (Addr×Obj)}{σ:St}{H:Hp}{s:Shared}(I:Inv X pins σ H s){xs ys:List V}{us ws:List Value}(r1:am xs us)(r2:am ys ws)(h:cZ H xs ys){A:Around}(hu:A.units+3<cLine):
  ∀j (h1:j<us.toArray.size) (h2:j<ws.toArray.size),EqAt A s us.toArray[j] ws.toArray[j] true:=λj h1 h2=>by
 have h1':j<xs.length:=by rw[r1.length];simpa using h1
 have h2':j<ys.length:=by rw[r2.length];simpa using h2
 obtain⟨u',hu1,hu2⟩:=r1.get (getElem?_eq_getElem h1');obtain⟨v',hv1,hv2⟩:=r2.get (getElem?_eq_getElem h2');have e1:us.toArray[j]=u':=by
  have:us[j]?=some us.toArray[j]:=by rw[getElem?_eq_getElem (by simpa using h1)];simp
  rw[hu1]at this;exact(Option.some.inj this).symm
 have e2:ws.toArray[j]=v':=by
  have:ws[j]?=some ws.toArray[j]:=by rw[getElem?_eq_getElem (by simpa using h2)];simp
  rw[hv1]at this;exact(Option.some.inj this).symm
 rw[e1,e2];exact lM I 3 hu2 hv2 (h.2 j _ _ (getElem?_eq_getElem h1') (getElem?_eq_getElem h2')) hu
theorem lN(hu:X.A.units+4<cLine):OpR X (compareOp .NotEq) (λx y H Q=>rNe x y H Q∨(∃a b xs ys,x=.ref a∧y=.ref b∧cZ H xs ys∧((H a=some (.lst xs)∧H b=some (.lst ys))∨(H a=some (.tup xs)∧H b=some (.tup ys)))∧Q (.bl false) H)):=by
 intro pins s σ H x y v u Q I rx ry h;rcases h with h|⟨a,b,xs,ys,rfl,rfl,hx,h,q⟩
 ·exact cQ pins s σ H x y v u Q I rx ry h
 ·cases rx;cases ry;rcases h with⟨ha,hb⟩|⟨ha,hb⟩
  ·obtain⟨_,us,n1,r1,o1⟩:=I.hok a _ ha;obtain⟨_,ws,n2,r2,o2⟩:=I.hok b _ hb;have hl:=hx.1;have l1:=r1.length;have l2:=r2.length;refine RcNeAt.lists (e:=λ_=>true) ⟨_,o1,rfl,n1,rfl⟩ ⟨_,o2,rfl,n2,rfl⟩ (by simp only[size_toArray];omega) (by omega) (da I r1 r2 hx (by simp[Around.in1_units];omega)) _ _ _ _ ⟨.bl false,H,I,?_,q⟩;show _=Value.bool false;simp
  ·obtain⟨_,us,r1,t1⟩:=I.hok a _ ha;obtain⟨_,ws,r2,t2⟩:=I.hok b _ hb;have hl:=hx.1;have l1:=r1.length;have l2:=r2.length;refine RcNeAt.tuples (e:=λ_=>true) t1 t2 (by omega) (da I r1 r2 hx (by simp[Around.in1_units];omega)) _ _ _ _ ⟨.bl false,H,I,?_,q⟩;show _=Value.bool false;have:us.toArray.size=ws.toArray.size:=by simp only[size_toArray];omega
   simp[this]
end
section
variable{prog:Program}{w:World}{A:Around}{E:Value→Shared→Prop}{s:Shared}
end
section
variable{P:Program}{w:World}
end
section
variable{X:Cx}{o e:Expr}{td ty:TE}{apos cpos:Pos}
end
def Ext(p:Addr)(H H':Hp):Prop:=∀b o,b≠p→H b=some o→H' b=some o
theorem Ext.of{p:Addr}{H H':Hp}(s:Same H H'):Ext p H H':=λb o _ e=>s b o e
theorem Ext.upd{p:Addr}{H:Hp}{o:HO}:Ext p H (upd H p o):=λb u hb e=>by rw[ah hb];exact e
theorem Ext.trans{p:Addr}{H H1 H2:Hp}(a:Ext p H H1)(b:Ext p H1 H2):Ext p H H2:=λc o hc e=>b c o hc (a c o hc e)
def qD(te:TE):Prop:=∀σ H (Q Q':VK),(∀y H,Q y H→Q' y H)→te σ H Q→te σ H Q'
theorem iS{js:List Nat}{J:It}{te:TE}{σ:St}{H1:Hp}{Q:VK}{p:Addr}{fr:List (Option V)}(n:Nat)(hn:n≤1000)(hp:H1 p=none)(hfr:bf 1 js σ=none::fr)(R:Nat→V→Hp→Prop)(hR:∀i y H H',R i y H→Ext p H H'→R i y H')(go:∀i H',i<n→Same H1 H'→J.go i H')(stop:∀H',Same H1 H'→J.stop n H')(me:qD te)(step:∀i H' x H2,i<n→Same H1 H'→(∃ys,H' p=some (.lst ys))→J.yld i H' x H2→H2=H'∧te (some x::fr) H' λy H4=>Same H' H4∧R i y H4)(fin:∀ys H',Same H1 H'→H' p=some (.lst ys)→ys.length=n→(∀(j:Nat) y,ys[j]?=some y→R j y H')→Q (.ref p) H'):LcW 1 js (aQ 0) te σ Q J H1 p:=by
 refine oe (k:=1) (js:=js) (J:=J) (p:=p) n hn (λi ys σ' H'=>(∃o,σ'=o::fr)∧Same H1 H'∧H' p=some (.lst ys)∧ys.length=i∧∀(j:Nat) y,ys[j]?=some y→R j y H') ⟨⟨none,hfr⟩,af hp,ac,rfl,λj y h=>by simp at h⟩
  (λi ys σ' H' h=>by have:=h.2.2.2.1;omega) (λi ys σ' H' hi h=>go i H' hi h.2.1) (λys σ' H' h=>⟨stop H' h.2.1,fin ys H' h.2.1 h.2.2.1 h.2.2.2.1 h.2.2.2.2⟩) (λi ys σ' H' hi h x H2 hy=>?_) ?_ me
 ·obtain⟨⟨o,rfl⟩,s1,hl,hlen,hrs⟩:=h;obtain⟨rfl,ht⟩:=step i H' x H2 hi s1 ⟨ys,hl⟩ hy;refine me _ _ _ _ (λy H4 h4=>?_) ht;obtain⟨s4,r4⟩:=h4;refine⟨s4 _ _ hl,⟨some x,rfl⟩,aE hp (s1.trans s4),ac,by rw[length_append,hlen];rfl,λj z hz=>?_⟩;have ex:Ext p H2 (upd H4 p (.lst (ys++[y]))):=(Ext.of s4).trans Ext.upd
  by_cases hj:j<ys.length
  ·rw[getElem?_append_left hj]at hz;exact hR _ _ _ _ (hrs j z hz) ex
  ·rw[getElem?_append_right (by omega)]at hz;have hj':j-ys.length=0:=by
    cases e:j-ys.length with
    |zero=>rfl
    |succ m=>rw[e]at hz;simp at hz
   rw[hj']at hz;have ez:y=z:=by simpa using hz
   subst ez;have ej:j=i:=by omega
   subst ej;exact hR _ _ _ _ r4 Ext.upd
 ·intro _ _ _ _ _ m q;exact m _ _ q
theorem cr{H:Hp}{p q:Addr}(hp:∃ys,H p=some (.lst ys))(hq:H q=none):q≠p:=λe=>by
 obtain⟨ys,h⟩:=hp;rw[←e,hq]at h;cases h
section
variable{X:Cx}{N:List Str}{scope:Scope}{cl:List (Str×Addr)}{k:Nat}{js:List Nat}
theorem dm{elt tg iter c:Expr}{pos spos py:Pos}{y:Str}{ii:Nat}{wi:TI}{g:TG}{tc:TT}{te:TE}(hXN:X.N.Nodup)(hii:X.N[ii]?=some y)(hx:Loc X.env.scope y)(hc:X.calm=true)(L:LcOk X scope cl)(hN:N.length=k+js.length)(hj:∀(i j:Nat) x,js[i]?=some j→N[k+i]?=some x→X.N[j]?=some x∧Vis X.env.scope x∧X.env.scope.names.lookup x≠some .local∧((relabel scope X.env).names.lookup x=some .cell∨(relabel scope X.env).names.lookup x=some .free))(hi:PI X tg iter wi)(hg:∀s H fp,PG (aT X N scope cl s H fp) tg g)(ht:∀s H fp,PT (aT X N scope cl s H fp) c tc)(he:∀s H fp,PE (aT X N scope cl s H fp) elt te)(hs:∀x,foldedSetIterable iter X.env x=pure x:=by intro _;rfl)(hsw:swapsWith (.ListComp elt [⟨tg,iter,[c],0⟩] scope pos) (some (.Name y py)) spos.line X.env=pure true:=by rfl)(hf:X.fn y=true∨X.env.scope.names.lookup y=some .local:=by first|exact .inl rfl|exact .inr rfl|assumption):PS X (.Assign [.Name y py] (.ListComp elt [⟨tg,iter,[c],0⟩] scope pos) spos) (oH (qy k js wi g tc te) (aQ ii)):=by
 intro pins s σ H D I h;rw[exec_Assign_Name_used _ _ _ _ hsw];refine wpAny_bind (wpAny_standAt (wpAny_bind ?_));show wpAny _ X.A (do let _ ← comprehension (.ListComp elt [⟨tg,iter,[c],0⟩] scope pos) scope X.env _ (newList []) false (eval iter X.env) (some (assign (.Name y py) X.env))) _ _ s
 refine wpAny_bind (wpAny_mono (wpAny_comprehension_free (use:=some (assign (.Name y py) X.env)) (Q:=λ_ s'=>∃σ' H',Inv X pins σ' H' s'∧D.nx σ' H') rfl hs L.clos L.kind L.names ?_) (λ_ s' hq=>wpAny_pure (wpAny_pure hq)) λ_ _ e=>e);refine thn (hi pins s σ H _ I h) λv s1 h1=>thn h1 λitv s2 h2=>?_;obtain⟨it,fp,tn,J,H2,e,I2,T,st2,f2,hW⟩:=h2;subst e;have hfp:∀b∈fp,b<s2.heap.objs.size:=λb hb=>by
  obtain⟨o,e,_⟩:=T.obj _ _ st2 b hb;exact lt_size e
 refine wpAny_newObj_type (wpAny_newFunctionEnv L.nocell (by intro y hy;simp at hy) (λh₁ hns hsb=>?_) L.kind);dsimp only at hns hsb⊢;obtain⟨W,⟨m0,w0⟩,turn⟩:=hW s2.heap.objs.size (I2.hok.fresh (le_refl _));have I3:Inv X pins σ (upd H2 s2.heap.objs.size (.lst [])) {s2 with heap:=s2.heap.push {cls:=.type "list",dict:=none,data:=.seq ([]:List Value).toArray}}:=I2.lnew (t':=s2.toks) .nil (zero_le _)
 generalize hA:s2.heap.push {cls:=.type "list",dict:=none,data:=.seq ([]:List Value).toArray}=hpA at hns hsb I3⊢;have hszA:hpA.objs.size=s2.heap.objs.size+1:=by rw[←hA,size_push]
 have keepA:∀b o,s2.heap.get? b=some o→hpA.get? b=some o:=λb o e=>by rw[←hA];exact get?_push_of_some _ e
 have f3:∀b∈fp,cm X pins (upd H2 s2.heap.objs.size (.lst [])) b:=λb hb=>⟨by rw[ah (ne_of_lt (hfp b hb))];exact(f2 b hb).1,(f2 b hb).2⟩;have hfp3:∀b∈fp,b<hpA.objs.size:=λb hb=>by rw[hszA];exact lt_succ_of_lt (hfp b hb)
 have keep1:∀b o,hpA.get? b=some o→h₁.get? b=some o:=λb o e=>hsb.extBut b o (ne_of_lt (lt_size e)) (get?_push_of_some _ e);have J0:=cV (N:=N) (k:=k) (js:=js) (tk:=s2.toks+([]:List (Str×Value)).length) I3 L f3 hfp3 ⟨_,hns⟩ keep1 hN hj;have st1:tn 0 h₁:=T.keep _ _ _ st2 λb hb o e=>keep1 b o (keepA b o e);have stat:∀{H':Hp},(∀b∈fp,H' b=none)→∀b∈fp,cm (aT X N scope cl {s2 with heap:=hpA} (upd H2 s2.heap.objs.size (.lst [])) fp) [] H' b:=λhn b hb =>
  ⟨hn b hb,ne_of_lt (hfp3 b hb),(hU (N:=N) I3 L f3 hfp3).exfs b hb,.inl hb,λx c h=>(f3 b hb).2.2.2.2.1 x c (L.cells x c h),λp hp=>absurd (show p∈([]:List (Addr×Obj))from hp) (by simp)⟩
 have loop:codeAny (model X.prog X.w) X.A (.compLoop (.ListComp elt [⟨tg,iter,[c],0⟩] scope pos) 0 (.ref it) (.ref s2.heap.objs.size) (compEnvC scope cl hpA.objs.size X.env))
   (compPost (model X.prog X.w) X.A X.xe (some (assign (.Name y py) X.env)) (λ_ s'=>∃σ' H',Inv X pins σ' H' s'∧D.nx σ' H') (.ref s2.heap.objs.size) hpA.objs.size) {s2 with heap:=h₁,toks:=s2.toks+([]:List (Str×Value)).length}:=by
  refine hV (λn s'=>∃i ys σ' H',Inv (aT X N scope cl {s2 with heap:=hpA} (upd H2 s2.heap.objs.size (.lst [])) fp) [] σ' H' s'∧tn i s'.heap∧(∀b∈fp,H' b=none)∧W i n ys σ' H') ?_ m0 ⟨0,[],_,_,J0,st1,λb hb=>(f3 b hb).1,w0⟩
  rintro n s3 ⟨i,ys,σ3,H3,J3,st3,fr3,w3⟩;rcases turn i n ys σ3 H3 w3 with⟨stop,qn⟩|⟨go,hlen,step⟩
  ·refine thn (T.done (aT X N scope cl {s2 with heap:=hpA} (upd H2 s2.heap.objs.size (.lst [])) fp) rfl rfl rfl hc i [] s3 σ3 H3 (λ_ _=>False) J3 (stat fr3) st3 stop) λr s4 hpt=>?_
   obtain⟨hr,J4⟩:=hpt;subst hr;obtain⟨m,hm,_⟩:=J4.loc;have I4:Inv X pins σ H3 s4:=gr I3 f3 J4 (SameBut.refl _ _);obtain⟨f0,f1,f2,f3',f4,f5⟩:=I3.fpOk (b:=hpA.objs.size) (le_refl _) (H':=H3) J4.free;show wpAny _ _ (assign (.Name y py) X.env (.ref s2.heap.objs.size)) _ _ _;refine wpAny_assign_Name (dg I4 hXN hii hx (v:=.ref s2.heap.objs.size) rfl (λs5 I5 ⟨a,sb,ha⟩=>⟨m,hm.sameBut sb ?_,λh' hs'=>⟨_,H3,I5.turned (t':=s5.toks) (λb o hb e=>(hs'.2 b hb).trans e) f0 f1 f3' f4 f5,qn⟩⟩) hf);rcases ha with e|e
   ·rw[e];exact f1
   ·exact λz=>f4 _ _ e z.symm
  ·refine thn (T.item (aT X N scope cl {s2 with heap:=hpA} (upd H2 s2.heap.objs.size (.lst [])) fp) rfl rfl rfl hc i [] s3 σ3 H3 (λ_ _=>False) J3 (stat fr3) st3 go) λr s4 hpt=>?_
   obtain⟨u,hr,h4⟩:=hpt;subst hr;refine thn h4 λ_ s5 hpt=>?_;obtain⟨x,H5,J5,r5,y5,st5,fr5⟩:=hpt;have J5':=J5.pinned (stat fr5) (T.obj _ _ st5);refine thn (hg _ _ _ _ s5 σ3 H5 x u _ J5' r5 (step x H5 y5)) λ_ s6 hpt=>?_;obtain⟨σ6,H6,J6,q6⟩:=hpt;refine thn (ht _ _ _ _ s6 σ6 H6 _ J6 q6) λb s6 hpt=>?_;obtain⟨H6,J6,q6⟩:=hpt;cases b with
   |true =>
    rw[if_pos rfl]at q6⊢;refine thn (he _ _ _ _ s6 σ6 H6 _ J6 q6) λy s7 hpt=>?_;obtain⟨vy,H7,J7,r7,q7,m',hm',w7⟩:=hpt;refine thn (aO _ s7 σ6 H7 (.ref s2.heap.objs.size) [vy] _ _ (λ_ H8=>H8=upd H7 s2.heap.objs.size (.lst (ys++[vy]))) J7 rfl (.cons r7 .nil) ⟨_,ys,vy,rfl,rfl,q7,hlen,rfl⟩) λ_ s8 hpt=>?_;obtain⟨_,H8,J8,_,e8⟩:=hpt;subst e8;refine⟨m',hm',i+1,ys++[vy],σ6,_,J8.unpinned,T.keep _ _ _ st5 λb hb o e=>(J8.pin (b,o) (mem_append_right _ (mem_append_right _ (aw hb e)))).1,λb hb=>?_,w7⟩;obtain⟨o,e,d⟩:=T.obj _ _ st5 b hb;exact(J8.pin (b,o) (mem_append_right _ (mem_append_right _ (aw hb e)))).2.1
   |false =>
    rw[if_neg (by simp)]at q6⊢;obtain⟨m',hm',w7⟩:=q6;refine⟨m',hm',i+1,ys,σ6,_,J6.unpinned,T.keep _ _ _ st5 λb hb o e=>(J6.pin (b,o) (mem_append_right _ (mem_append_right _ (aw hb e)))).1,λb hb=>?_,w7⟩;obtain⟨o,e,d⟩:=T.obj _ _ st5 b hb;exact(J6.pin (b,o) (mem_append_right _ (mem_append_right _ (aw hb e)))).2.1
 exact codeAny_compStart_list loop (T.self _ 0 _ _ _ st1 loop)
theorem lO{elt tg iter:Expr}{pos spos py:Pos}{y:Str}{ii:Nat}{wi:TI}{g:TG}{te:TE}(hXN:X.N.Nodup)(hii:X.N[ii]?=some y)(hx:Loc X.env.scope y)(hc:X.calm=true)(L:LcOk X scope cl)(hN:N.length=k+js.length)(hj:∀(i j:Nat) x,js[i]?=some j→N[k+i]?=some x→X.N[j]?=some x∧Vis X.env.scope x∧X.env.scope.names.lookup x≠some .local∧((relabel scope X.env).names.lookup x=some .cell∨(relabel scope X.env).names.lookup x=some .free))(hi:PI X tg iter wi)(hg:∀s H fp,PG (aT X N scope cl s H fp) tg g)(he:∀s H fp,PE (aT X N scope cl s H fp) elt te)(hs:∀x,foldedSetIterable iter X.env x=pure x:=by intro _;rfl)(hsw:swapsWith (.ListComp elt [⟨tg,iter,[],0⟩] scope pos) (some (.Name y py)) spos.line X.env=pure true:=by rfl)(hf:X.fn y=true∨X.env.scope.names.lookup y=some .local:=by first|exact .inl rfl|exact .inr rfl|assumption):PS X (.Assign [.Name y py] (.ListComp elt [⟨tg,iter,[],0⟩] scope pos) spos) (oH (tLc k js wi g te) (aQ ii)):=by
 intro pins s σ H D I h;rw[exec_Assign_Name_used _ _ _ _ hsw];refine wpAny_bind (wpAny_standAt (wpAny_bind ?_));show wpAny _ X.A (do let _ ← comprehension (.ListComp elt [⟨tg,iter,[],0⟩] scope pos) scope X.env _ (newList []) false (eval iter X.env) (some (assign (.Name y py) X.env))) _ _ s
 refine wpAny_bind (wpAny_mono (wpAny_comprehension_free (use:=some (assign (.Name y py) X.env)) (Q:=λ_ s'=>∃σ' H',Inv X pins σ' H' s'∧D.nx σ' H') rfl hs L.clos L.kind L.names ?_) (λ_ s' hq=>wpAny_pure (wpAny_pure hq)) λ_ _ e=>e);refine thn (hi pins s σ H _ I h) λv s1 h1=>thn h1 λitv s2 h2=>?_;obtain⟨it,fp,tn,J,H2,e,I2,T,st2,f2,hW⟩:=h2;subst e;have hfp:∀b∈fp,b<s2.heap.objs.size:=λb hb=>by
  obtain⟨o,e,_⟩:=T.obj _ _ st2 b hb;exact lt_size e
 refine wpAny_newObj_type (wpAny_newFunctionEnv L.nocell (by intro y hy;simp at hy) (λh₁ hns hsb=>?_) L.kind);dsimp only at hns hsb⊢;obtain⟨W,⟨m0,w0⟩,turn⟩:=hW s2.heap.objs.size (I2.hok.fresh (le_refl _));have I3:Inv X pins σ (upd H2 s2.heap.objs.size (.lst [])) {s2 with heap:=s2.heap.push {cls:=.type "list",dict:=none,data:=.seq ([]:List Value).toArray}}:=I2.lnew (t':=s2.toks) .nil (zero_le _)
 generalize hA:s2.heap.push {cls:=.type "list",dict:=none,data:=.seq ([]:List Value).toArray}=hpA at hns hsb I3⊢;have hszA:hpA.objs.size=s2.heap.objs.size+1:=by rw[←hA,size_push]
 have keepA:∀b o,s2.heap.get? b=some o→hpA.get? b=some o:=λb o e=>by rw[←hA];exact get?_push_of_some _ e
 have f3:∀b∈fp,cm X pins (upd H2 s2.heap.objs.size (.lst [])) b:=λb hb=>⟨by rw[ah (ne_of_lt (hfp b hb))];exact(f2 b hb).1,(f2 b hb).2⟩;have hfp3:∀b∈fp,b<hpA.objs.size:=λb hb=>by rw[hszA];exact lt_succ_of_lt (hfp b hb)
 have keep1:∀b o,hpA.get? b=some o→h₁.get? b=some o:=λb o e=>hsb.extBut b o (ne_of_lt (lt_size e)) (get?_push_of_some _ e);have J0:=cV (N:=N) (k:=k) (js:=js) (tk:=s2.toks+([]:List (Str×Value)).length) I3 L f3 hfp3 ⟨_,hns⟩ keep1 hN hj;have st1:tn 0 h₁:=T.keep _ _ _ st2 λb hb o e=>keep1 b o (keepA b o e);have stat:∀{H':Hp},(∀b∈fp,H' b=none)→∀b∈fp,cm (aT X N scope cl {s2 with heap:=hpA} (upd H2 s2.heap.objs.size (.lst [])) fp) [] H' b:=λhn b hb =>
  ⟨hn b hb,ne_of_lt (hfp3 b hb),(hU (N:=N) I3 L f3 hfp3).exfs b hb,.inl hb,λx c h=>(f3 b hb).2.2.2.2.1 x c (L.cells x c h),λp hp=>absurd (show p∈([]:List (Addr×Obj))from hp) (by simp)⟩
 have loop:codeAny (model X.prog X.w) X.A (.compLoop (.ListComp elt [⟨tg,iter,[],0⟩] scope pos) 0 (.ref it) (.ref s2.heap.objs.size) (compEnvC scope cl hpA.objs.size X.env))
   (compPost (model X.prog X.w) X.A X.xe (some (assign (.Name y py) X.env)) (λ_ s'=>∃σ' H',Inv X pins σ' H' s'∧D.nx σ' H') (.ref s2.heap.objs.size) hpA.objs.size) {s2 with heap:=h₁,toks:=s2.toks+([]:List (Str×Value)).length}:=by
  refine jo (λn s'=>∃i ys σ' H',Inv (aT X N scope cl {s2 with heap:=hpA} (upd H2 s2.heap.objs.size (.lst [])) fp) [] σ' H' s'∧tn i s'.heap∧(∀b∈fp,H' b=none)∧W i n ys σ' H') ?_ m0 ⟨0,[],_,_,J0,st1,λb hb=>(f3 b hb).1,w0⟩
  rintro n s3 ⟨i,ys,σ3,H3,J3,st3,fr3,w3⟩;rcases turn i n ys σ3 H3 w3 with⟨stop,qn⟩|⟨go,hlen,step⟩
  ·refine thn (T.done (aT X N scope cl {s2 with heap:=hpA} (upd H2 s2.heap.objs.size (.lst [])) fp) rfl rfl rfl hc i [] s3 σ3 H3 (λ_ _=>False) J3 (stat fr3) st3 stop) λr s4 hpt=>?_
   obtain⟨hr,J4⟩:=hpt;subst hr;obtain⟨m,hm,_⟩:=J4.loc;have I4:Inv X pins σ H3 s4:=gr I3 f3 J4 (SameBut.refl _ _);obtain⟨f0,f1,f2,f3',f4,f5⟩:=I3.fpOk (b:=hpA.objs.size) (le_refl _) (H':=H3) J4.free;show wpAny _ _ (assign (.Name y py) X.env (.ref s2.heap.objs.size)) _ _ _;refine wpAny_assign_Name (dg I4 hXN hii hx (v:=.ref s2.heap.objs.size) rfl (λs5 I5 ⟨a,sb,ha⟩=>⟨m,hm.sameBut sb ?_,λh' hs'=>⟨_,H3,I5.turned (t':=s5.toks) (λb o hb e=>(hs'.2 b hb).trans e) f0 f1 f3' f4 f5,qn⟩⟩) hf);rcases ha with e|e
   ·rw[e];exact f1
   ·exact λz=>f4 _ _ e z.symm
  ·refine thn (T.item (aT X N scope cl {s2 with heap:=hpA} (upd H2 s2.heap.objs.size (.lst [])) fp) rfl rfl rfl hc i [] s3 σ3 H3 (λ_ _=>False) J3 (stat fr3) st3 go) λr s4 hpt=>?_
   obtain⟨u,hr,h4⟩:=hpt;subst hr;refine thn h4 λ_ s5 hpt=>?_;obtain⟨x,H5,J5,r5,y5,st5,fr5⟩:=hpt;have J5':=J5.pinned (stat fr5) (T.obj _ _ st5);refine thn (hg _ _ _ _ s5 σ3 H5 x u _ J5' r5 (step x H5 y5)) λ_ s6 hpt=>?_;obtain⟨σ6,H6,J6,q6⟩:=hpt;refine thn (he _ _ _ _ s6 σ6 H6 _ J6 q6) λy s7 hpt=>?_;obtain⟨vy,H7,J7,r7,q7,m',hm',w7⟩:=hpt;refine thn (aO _ s7 σ6 H7 (.ref s2.heap.objs.size) [vy] _ _ (λ_ H8=>H8=upd H7 s2.heap.objs.size (.lst (ys++[vy]))) J7 rfl (.cons r7 .nil) ⟨_,ys,vy,rfl,rfl,q7,hlen,rfl⟩) λ_ s8 hpt=>?_;obtain⟨_,H8,J8,_,e8⟩:=hpt;subst e8;refine⟨m',hm',i+1,ys++[vy],σ6,_,J8.unpinned,T.keep _ _ _ st5 λb hb o e=>(J8.pin (b,o) (mem_append_right _ (mem_append_right _ (aw hb e)))).1,λb hb=>?_,w7⟩;obtain⟨o,e,d⟩:=T.obj _ _ st5 b hb;exact(J8.pin (b,o) (mem_append_right _ (mem_append_right _ (aw hb e)))).2.1
 exact codeAny_compStart_list loop (T.self _ 0 _ _ _ st1 loop)
end
section
variable{X:Cx}{tg:Expr}
theorem pg(hu:X.A.units+4<cLine):OpR X (compareOp .Eq) (λx y H Q=>rEq x y H Q∨(∃a b xs ys,x=.ref a∧y=.ref b∧cZ H xs ys∧((H a=some (.lst xs)∧H b=some (.lst ys))∨(H a=some (.tup xs)∧H b=some (.tup ys)))∧Q (.bl true) H)):=by
 intro pins s σ H x y v u Q I rx ry h;rcases h with h|⟨a,b,xs,ys,rfl,rfl,hx,h,q⟩
 ·exact lh pins s σ H x y v u Q I rx ry h
 ·cases rx;cases ry;rcases h with⟨ha,hb⟩|⟨ha,hb⟩
  ·obtain⟨_,us,n1,r1,o1⟩:=I.hok a _ ha;obtain⟨_,ws,n2,r2,o2⟩:=I.hok b _ hb;have hl:=hx.1;have l1:=r1.length;have l2:=r2.length;refine eq_listAt (e:=λ_=>true) ⟨_,o1,rfl,n1,rfl⟩ ⟨_,o2,rfl,n2,rfl⟩ (by simp only[size_toArray];omega) (by omega) (da I r1 r2 hx (by simp[Around.in1_units];omega)) ⟨.bl true,H,I,?_,q⟩;show _=Value.bool true;simp
  ·obtain⟨_,us,r1,t1⟩:=I.hok a _ ha;obtain⟨_,ws,r2,t2⟩:=I.hok b _ hb;have hl:=hx.1;have l1:=r1.length;have l2:=r2.length;refine SeqAt.eq_tupleAt (e:=λ_=>true) t1 t2 (by omega) (da I r1 r2 hx (by simp[Around.in1_units];omega)) ⟨.bl true,H,I,?_,q⟩;show _=Value.bool true;have:us.toArray.size=ws.toArray.size:=by simp only[size_toArray];omega
   simp[this]
end
theorem Same.seqT{K:PySem.W.Frag}{H H':Hp}{a:Addr}{xs:List V}(e:Same H H')(h:SqT K H a xs):SqT K H' a xs:=by
 rcases h with (h|⟨o,h⟩)|h
 ·exact .inl (.inl (e _ _ h))
 ·exact .inl (.inr ⟨o,e _ _ h⟩)
 ·exact .inr h
structure Src(J:It)(H1:Hp)(xs:List V):Prop where
 go:∀i H',i<xs.length→Same H1 H'→J.go i H'
 stop:∀H',Same H1 H'→J.stop xs.length H'
 yl:∀i H' x H2,i<xs.length→Same H1 H'→J.yld i H' x H2→H2=H'∧xs[i]?=some x
theorem nB{K:PySem.W.Frag}{a:Addr}{xs:List V}{H1:Hp}(h:SqT K H1 a xs):Src (Itt K a) H1 xs :=
 ⟨λi H' hi s=>⟨xs,xs[i],s.seqT h,getElem?_eq_getElem hi⟩,λH' s=>⟨xs,s.seqT h,le_refl _⟩,λi H' x H2 _ s ⟨e,y⟩=>⟨e,y xs (by subst e;exact s.seqT h)⟩⟩
theorem cB{K:PySem.W.Frag}{a:Addr}{xs:List V}{H1:Hp}(h:SqL K H1 a xs):Src (Itl K a) H1 xs :=
 ⟨λi H' hi s=>⟨xs,xs[i],s.seq h,getElem?_eq_getElem hi⟩,λH' s=>⟨xs,s.seq h,le_refl _⟩,λi H' x H2 _ s ⟨e,y⟩=>⟨e,y xs (by subst e;exact s.seq h)⟩⟩
theorem il{d:Addr}{o:Obj}{u:HO}{ks:List V}{H1:Hp}(h:H1 d=some (.frz o u)):Src (Itk d o u ks) H1 ks :=
 ⟨λi H' hi s=>⟨s _ _ h,hi⟩,λH' s=>⟨s _ _ h,le_refl _⟩,λi H' x H2 _ s ⟨e,y⟩=>⟨e,y⟩⟩
theorem Paired.snoc{α β:Type}{R:α→β→Prop}:∀{as:List α}{bs:List β}{a:α}{b:β},Paired R as bs→R a b→Paired R (as++[a]) (bs++[b])
 |_,_,_,_,.nil,h=>.cons h .nil
 |_,_,_,_,.cons r t,h=>.cons r (Paired.snoc t h)
theorem gD{α:Type}{js:List Nat}{J:It}{tc:TT}{te:TE}{σ:St}{H1:Hp}{Q:VK}{p:Addr}{fr:List (Option V)}(zs:List α)(val:α→V)(hn:zs.length≤1000)(hp:H1 p=none)(S:Src J H1 (zs.map val))(hfr:bf 1 js σ=none::fr)(g:α→Bool)(R:α→V→Hp→Prop)(hR:∀z y H H',R z y H→Ext p H H'→R z y H')(cond:∀z H' (k:Bool→Hp→Prop),z∈zs→Same H1 H'→(∃ys,H' p=some (.lst ys))→(∀H4,Same H' H4→k (g z) H4)→tc (some (val z)::fr) H' k)(elt:∀z H' (k:VK),z∈zs→g z=true→Same H1 H'→(∃ys,H' p=some (.lst ys))→(∀y H4,Same H' H4→R z y H4→k y H4)→te (some (val z)::fr) H' k)(fin:∀ys H',Same H1 H'→H' p=some (.lst ys)→Paired (λz y=>R z y H') (zs.filter g) ys→Q (.ref p) H'):qw 1 js (aQ 0) tc te σ Q J H1 p:=by
 have grow:∀{as:List α}{ys:List V}{H H':Hp},Ext p H H'→Paired (λz y=>R z y H) as ys→Paired (λz y=>R z y H') as ys:=λex r=>Paired.mapP r λa b h=>hR a b _ _ h ex;have hlen:∀{as:List α}{ys:List V}{H:Hp},Paired (λz y=>R z y H) as ys→ys.length=as.length:=λr=>(Paired.length r).symm;refine⟨λi m ys σ' H'=>m=zs.length-i∧i≤zs.length∧(∃o,σ'=o::fr)∧Same H1 H'∧H' p=some (.lst ys)∧Paired (λz y=>R z y H') ((zs.take i).filter g) ys,⟨zs.length,by simp,zero_le _,⟨none,hfr⟩,af hp,ac,.nil⟩,?_⟩;rintro i m ys σ' H' ⟨rfl,hi,⟨o,rfl⟩,s1,hl,hys⟩
 by_cases hlt:i<zs.length
 ·have hlt':i<(zs.map val).length:=by rw[length_map];exact hlt
  refine .inr ⟨S.go i H' hlt' s1,?_,λx H2 hy=>?_⟩
  ·have h1:ys.length≤zs.length:=by
    rw[hlen hys];exact le_trans (length_filter_le _ _) (by rw[length_take];omega)
   exact lt_of_le_of_lt h1 (aA hn)
  ·obtain⟨rfl,hx⟩:=S.yl i H' x H2 hlt' s1 hy;have gz:zs[i]?=some zs[i]:=getElem?_eq_getElem hlt;have mz:=mem_of_getElem? gz;rw[getElem?_map,gz]at hx;have ex:val zs[i]=x:=Option.some.inj hx;have et:zs.take (i+1)=zs.take i++[zs[i]]:=cA gz;subst ex;generalize zs[i]=z at gz mz et⊢;refine cond z H2 _ mz s1 ⟨ys,hl⟩ λH4 s4=>?_;cases hb:g z with
   |true =>
    rw[if_pos rfl];refine elt z H4 _ mz hb (s1.trans s4) ⟨ys,s4 _ _ hl⟩ λy H5 s5 r5=>⟨s5 _ _ (s4 _ _ hl),zs.length-(i+1),by omega,rfl,hlt,⟨_,rfl⟩,aE hp ((s1.trans s4).trans s5),ac,?_⟩;rw[et,List.filter_append,filter_cons_of_pos hb];exact Paired.snoc (grow ((Ext.of (s4.trans s5)).trans Ext.upd) hys) (hR _ _ _ _ r5 Ext.upd)
   |false =>
    rw[if_neg (by simp)];refine⟨zs.length-(i+1),by omega,rfl,hlt,⟨_,rfl⟩,s1.trans s4,s4 _ _ hl,?_⟩;rw[et,List.filter_append,filter_cons_of_neg (by simp[hb]),List.filter_nil,append_nil];exact grow (Ext.of s4) hys
 ·have e:i=zs.length:=by omega
  subst e;have st:=S.stop H' s1;rw[length_map]at st;refine .inl ⟨st,fin ys H' s1 hl ?_⟩;rw[take_length]at hys;exact hys
theorem dN{α:Type}{js:List Nat}{J:It}{te:TE}{σ:St}{H1:Hp}{Q:VK}{p:Addr}{fr:List (Option V)}(zs:List α)(val:α→V)(hn:zs.length≤1000)(hp:H1 p=none)(S:Src J H1 (zs.map val))(hfr:bf 1 js σ=none::fr)(R:α→V→Hp→Prop)(hR:∀z y H H',R z y H→Ext p H H'→R z y H')(elt:∀z H' (k:VK),z∈zs→Same H1 H'→(∃ys,H' p=some (.lst ys))→(∀y H4,Same H' H4→R z y H4→k y H4)→te (some (val z)::fr) H' k)(fin:∀ys H',Same H1 H'→H' p=some (.lst ys)→Paired (λz y=>R z y H') zs ys→Q (.ref p) H'):LcW 1 js (aQ 0) te σ Q J H1 p:=by
 have grow:∀{as:List α}{ys:List V}{H H':Hp},Ext p H H'→Paired (λz y=>R z y H) as ys→Paired (λz y=>R z y H') as ys:=λex r=>Paired.mapP r λa b h=>hR a b _ _ h ex;have hlen:∀{as:List α}{ys:List V}{H:Hp},Paired (λz y=>R z y H) as ys→ys.length=as.length:=λr=>(Paired.length r).symm;refine⟨λi m ys σ' H'=>m=zs.length-i∧i≤zs.length∧(∃o,σ'=o::fr)∧Same H1 H'∧H' p=some (.lst ys)∧Paired (λz y=>R z y H') (zs.take i) ys,⟨zs.length,by simp,zero_le _,⟨none,hfr⟩,af hp,ac,.nil⟩,?_⟩;rintro i m ys σ' H' ⟨rfl,hi,⟨o,rfl⟩,s1,hl,hys⟩
 by_cases hlt:i<zs.length
 ·have hlt':i<(zs.map val).length:=by rw[length_map];exact hlt
  refine .inr ⟨S.go i H' hlt' s1,?_,λx H2 hy=>?_⟩
  ·have h1:ys.length≤zs.length:=by
    rw[hlen hys,length_take];omega
   exact lt_of_le_of_lt h1 (aA hn)
  ·obtain⟨rfl,hx⟩:=S.yl i H' x H2 hlt' s1 hy;have gz:zs[i]?=some zs[i]:=getElem?_eq_getElem hlt;have mz:=mem_of_getElem? gz;rw[getElem?_map,gz]at hx;have ex:val zs[i]=x:=Option.some.inj hx;have et:zs.take (i+1)=zs.take i++[zs[i]]:=cA gz;subst ex;generalize zs[i]=z at gz mz et⊢;refine elt z H2 _ mz s1 ⟨ys,hl⟩ λy H5 s5 r5=>⟨s5 _ _ hl,zs.length-(i+1),by omega,rfl,hlt,⟨_,rfl⟩,aE hp (s1.trans s5),ac,?_⟩;rw[et];exact Paired.snoc (grow ((Ext.of s5).trans Ext.upd) hys) (hR _ _ _ _ r5 Ext.upd)
 ·have e:i=zs.length:=by omega
  subst e;have st:=S.stop H' s1;rw[length_map]at st;refine .inl ⟨st,fin ys H' s1 hl ?_⟩;rw[take_length]at hys;exact hys
theorem cC{α β:Type}{R:α→V→Prop}{val:β→V}{S:α→β→Prop}{zs:List α}{ys:List V}(h:Paired R zs ys)(f:∀z y,z∈zs→R z y→∃b,y=val b∧S z b):
  ∃bs:List (α×β),bs.map (·.1)=zs∧ys=bs.map (λx=>val x.2)∧∀x∈bs,S x.1 x.2:=by
 induction h with
 |nil=>exact⟨[],rfl,rfl,by simp⟩
 |@cons a y as bs r _ ih =>
  obtain⟨cs,e1,e2,e3⟩:=ih λz y hz=>f z y (by simp[hz]);obtain⟨b,e,s⟩:=f _ _ (by simp) r;refine⟨(a,b)::cs,by rw[map_cons,e1],by rw[map_cons,←e2,e],λx hx=>?_⟩;rcases mem_cons.mp hx with rfl|hx
  ·exact s
  ·exact e3 x hx
theorem bG{α:Type}{R:α→V→Prop}{f:α→V}{zs:List α}{ys:List V}(h:Paired R zs ys)(hf:∀z y,z∈zs→R z y→y=f z):ys=zs.map f:=by
 induction h with
 |nil=>rfl
 |cons r _ ih=>rw[map_cons,←ih λz y hz=>hf z y (by simp[hz]),hf _ _ (by simp) r]
theorem lP{X:Cx}:dX (CX1 X.prog X.w) X E0:=λ_ _ _ _ _ _ _ ⟨_,_,_,_,_,h⟩=>h.elim
end L2
namespace TW
structure Nd(S:Type) where
 num:Int
 par:Int
 nm:S
 st:Option Int
section
variable{S:Type}
inductive Reach(ns:List (Nd S))(f:Int):Nd S→Prop where
 |base {n:Nd S}:n∈ns→n.par=f→Reach ns f n
 |step {m n:Nd S}:Reach ns f m→m.st=none→n∈ns→n.par=m.num→Reach ns f n
theorem Reach.mem{ns:List (Nd S)}{f:Int}{n:Nd S}(h:Reach ns f n):n∈ns:=by
 cases h<;>assumption
theorem Reach.mono{ns ms:List (Nd S)}{f:Int}{n:Nd S}(h:Reach ns f n)(hs:∀x∈ns,x∈ms):Reach ms f n:=by
 induction h with
 |base hm hp=>exact .base (hs _ hm) hp
 |step _ hf hm hp ih=>exact .step ih hf (hs _ hm) hp
def eQ(ns:List (Nd S))(k:Int):List (Nd S):=ns.filter λn=>decide (n.par=k)
def cg(dn:List Int)(n:Nd S):Bool:=decide (n.par∈dn)
structure Walk(ns:List (Nd S))(f:Int)(dn:List Int)(fd:List (Nd S))(pd:List Int):Prop where
 perm:fd.Perm (ns.filter (cg dn))
 reach:∀n∈fd,Reach ns f n
 cover:∀k,(k∈pd∨k∈dn)↔(k=f∨∃m∈fd,m.st=none∧m.num=k)
theorem Walk.start(ns:List (Nd S))(f:Int):Walk ns f [] [] [f]:=by
 refine⟨?_,by simp,λk=>by simp⟩;have e:ns.filter (cg [])=[]:=by
  rw[List.filter_eq_nil_iff];intro a _;simp[cg]
 rw[e]
theorem cu{α:Type}(p q:α→Bool)(hd:∀x,p x=true→q x=true→False):∀l:List α,
  (l.filter p++l.filter q).Perm (l.filter λx=>p x||q x)
 |[]=>by simp
 |x::l=>by
  have ih:=cu p q hd l;cases hp:p x with
  |true =>
   have hq:q x=false:=by
    cases h:q x with
    |false=>rfl
    |true=>exact(hd x hp h).elim
   rw[filter_cons_of_pos hp,filter_cons_of_neg (by simp[hq]),filter_cons_of_pos (by simp[hp])];exact List.Perm.cons x ih
  |false =>
   cases hq:q x with
   |true =>
    rw[filter_cons_of_neg (by simp[hp]),filter_cons_of_pos hq,filter_cons_of_pos (by simp[hq])];exact List.perm_middle.trans (List.Perm.cons x ih)
   |false =>
    rw[filter_cons_of_neg (by simp[hp]),filter_cons_of_neg (by simp[hq]),filter_cons_of_neg (by simp[hp,hq])];exact ih
def here(ns:List (Nd S))(dn:List Int)(x:Int):List (Nd S):=if x∈dn then []else eQ ns x
def aq(l:List (Nd S)):List Int:=(l.filter λn=>n.st.isNone).map (·.num)
theorem dE{l:List (Nd S)}{k:Int}:k∈aq l↔∃m∈l,m.st=none∧m.num=k:=by
 unfold aq;rw[mem_map];constructor
 ·rintro⟨m,hm,e⟩;rw[mem_filter]at hm;exact⟨m,hm.1,by simpa using hm.2,e⟩
 ·rintro⟨m,hm,h,e⟩;exact⟨m,mem_filter.mpr ⟨hm,by simp[h]⟩,e⟩
theorem Walk.turn{ns:List (Nd S)}{f x:Int}{dn:List Int}{fd:List (Nd S)}{pd:List Int}(w:Walk ns f dn fd (pd++[x])):
  Walk ns f (x::dn) (fd++here ns dn x) (pd++aq (here ns dn x)):=by
 have hx:=(w.cover x).mp (.inl (by simp))
 by_cases hd:x∈dn
 ·have eh:here ns dn x=[]:=by unfold here;rw[if_pos hd]
  rw[eh];refine⟨?_,by simpa using w.reach,λk=>?_⟩
  ·have e:ns.filter (cg (x::dn))=ns.filter (cg dn):=by
    apply List.filter_congr;intro n _;simp only[cg,mem_cons,decide_eq_decide];constructor
    ·rintro(h|h)
     ·rw[h];exact hd
     ·exact h
    ·exact .inr
   rw[e,append_nil];exact w.perm
  ·have c:=w.cover k;rw[append_nil,←c];simp only[aq,List.filter_nil,map_nil,append_nil,mem_append,mem_cons,not_mem_nil,or_false];constructor
   ·rintro(h|h|h)
    ·exact .inl (.inl h)
    ·exact .inl (.inr h)
    ·exact .inr h
   ·rintro((h|h)|h)
    ·exact .inl h
    ·exact .inr (.inl h)
    ·exact .inr (.inr h)
 ·have eh:here ns dn x=eQ ns x:=by unfold here;rw[if_neg hd]
  rw[eh];refine⟨?_,λn hn=>?_,λk=>?_⟩
  ·have e:ns.filter (cg (x::dn))=ns.filter λn=>cg dn n||decide (n.par=x):=by
    apply List.filter_congr;intro n _;rw[Bool.eq_iff_iff];simp only[cg,mem_cons,decide_eq_true_eq,Bool.or_eq_true];constructor
    ·rintro(h|h)
     ·exact .inr h
     ·exact .inl h
    ·rintro(h|h)
     ·exact .inr h
     ·exact .inl h
   rw[e];refine(List.Perm.append_right _ w.perm).trans (cu _ _ (λy h1 h2=>?_) ns);simp only[cg,decide_eq_true_eq]at h1 h2;rw[h2]at h1;exact hd h1
  ·rcases mem_append.mp hn with h|h
   ·exact w.reach n h
   ·unfold eQ at h;rw[mem_filter]at h;obtain⟨hm,hp⟩:=h;simp only[decide_eq_true_eq]at hp;rcases hx with e|⟨m,hm',hf,e⟩
    ·exact .base hm (hp.trans e)
    ·exact .step (w.reach m hm') hf hm (hp.trans e.symm)
  ·have c:=w.cover k;simp only[mem_append,mem_cons,not_mem_nil,or_false]at c⊢;rw[dE];constructor
   ·rintro((h|⟨m,hm,h1,h2⟩)|h|h)
    ·rcases c.mp (.inl (.inl h))with e|⟨m,hm,z⟩
     ·exact .inl e
     ·exact .inr ⟨m,.inl hm,z⟩
    ·exact .inr ⟨m,.inr hm,h1,h2⟩
    ·rcases c.mp (.inl (.inr h))with e|⟨m,hm,z⟩
     ·exact .inl e
     ·exact .inr ⟨m,.inl hm,z⟩
    ·rcases c.mp (.inr h)with e|⟨m,hm,z⟩
     ·exact .inl e
     ·exact .inr ⟨m,.inl hm,z⟩
   ·rintro(e|⟨m,hm|hm,z⟩)
    ·rcases c.mpr (.inl e)with (h|h)|h
     ·exact .inl (.inl h)
     ·exact .inr (.inl h)
     ·exact .inr (.inr h)
    ·rcases c.mpr (.inr ⟨m,hm,z⟩)with (h|h)|h
     ·exact .inl (.inl h)
     ·exact .inr (.inl h)
     ·exact .inr (.inr h)
    ·exact .inl (.inr ⟨m,hm,z⟩)
theorem Walk.len{ns:List (Nd S)}{f:Int}{dn:List Int}{fd:List (Nd S)}{pd:List Int}(w:Walk ns f dn fd pd):fd.length≤ns.length:=by
 rw[w.perm.length_eq];exact length_filter_le _ _
theorem bJ(l:List (Nd S)):(aq l).length≤l.length:=by
 unfold aq;rw[length_map];exact length_filter_le _ _
theorem Walk.mem{ns:List (Nd S)}{f:Int}{dn:List Int}{fd:List (Nd S)}(w:Walk ns f dn fd [])(n:Nd S):n∈fd↔Reach ns f n:=by
 constructor
 ·exact w.reach n
 ·have cov:∀k,(k=f∨∃m∈fd,m.st=none∧m.num=k)→k∈dn:=λk h=>by
   rcases (w.cover k).mpr h with z|z
   ·simp at z
   ·exact z
  have back:∀x,x∈ns→x.par∈dn→x∈fd:=λx hx hp=>w.perm.mem_iff.mpr (mem_filter.mpr ⟨hx,by simp[cg,hp]⟩);intro h
  induction h with
  |base hm hp=>exact back _ hm (cov _ (.inl hp))
  |step _ hf hm hp ih=>exact back _ hm (cov _ (.inr ⟨_,ih,hf,hp.symm⟩))
def kt(ns:List (Nd S)):Prop:=ns.Pairwise λa b=>a.num<b.num
def cK(ns:List (Nd S)):Prop:=(ns.map λn=>(n.par,n.nm)).Nodup
structure Tree(ns:List (Nd S)):Prop where
 rise:kt ns
 own:cK ns
 down:∀n∈ns,Reach ns 0 n
inductive Built:List (Nd S)→Prop where
 |nil:Built []
 |snoc {l:List (Nd S)} {n:Nd S}:Built l→(n.par=0∨∃m∈l,m.st=none∧m.num=n.par)→Built (l++[n])
theorem Built.down{l:List (Nd S)}(b:Built l):∀n∈l,Reach l 0 n:=by
 induction b with
 |nil=>simp
 |@snoc l n b h ih =>
  intro x hx;have up:∀y∈l,y∈l++[n]:=λy hy=>mem_append_left _ hy;rcases mem_append.mp hx with hx|hx
  ·exact(ih x hx).mono up
  ·have e:x=n:=by simpa using hx
   subst e;rcases h with h|⟨m,hm,hf,he⟩
   ·exact .base (by simp) h
   ·exact .step ((ih m hm).mono up) hf (by simp) he.symm
theorem nC{l t:List (Nd S)}(b:Built l)(p:t.Perm l)(hr:t.Pairwise λa b=>a.num≤b.num)(hn:(l.map (·.num)).Nodup)(ho:cK l):Tree t:=by
 refine⟨?_,?_,λn hn'=>?_⟩
 ·have hn':(t.map (·.num)).Nodup:=((p.map _).nodup_iff).mpr hn;unfold Nodup at hn';rw[pairwise_map]at hn';unfold kt;exact hr.imp₂ (λa b h1 h2=>by omega) hn'
 ·unfold cK;exact((p.map _).nodup_iff).mpr ho
 ·exact(b.down n (p.mem_iff.mp hn')).mono λx hx=>p.mem_iff.mpr hx
theorem lQ{t:List (Nd S)}(h:kt t){a b:Nd S}(ha:a∈t)(hb:b∈t)(e:a.num=b.num):a=b:=by
 unfold kt at h
 induction t with
 |nil=>simp at ha
 |cons x r ih =>
  rw[pairwise_cons]at h;rcases mem_cons.mp ha with ea|ha'
  ·rcases mem_cons.mp hb with eb|hb'
   ·rw[ea,eb]
   ·have:=h.1 b hb';rw[←ea]at this;omega
  ·rcases mem_cons.mp hb with eb|hb'
   ·have:=h.1 a ha';rw[←eb]at this;omega
   ·exact ih h.2 ha' hb'
end
end TW
namespace TW
section
variable{S:Type}
inductive PathTo(ns:List (Nd S)):Int→List S→Prop where
 |top:PathTo ns 0 []
 |node {n:Nd S} {p:List S}:n∈ns→PathTo ns n.par p→PathTo ns n.num (p++[n.nm])
structure Tree1(ns:List (Nd S)):Prop extends Tree ns where
 pos:∀n∈ns,1≤n.num
theorem Tree1.inj{ns:List (Nd S)}(T:Tree1 ns){a b:Nd S}(ha:a∈ns)(hb:b∈ns)(e:a.num=b.num):a=b:=lQ T.rise ha hb e
theorem PathTo.zero{ns:List (Nd S)}(T:Tree1 ns){k:Int}{p:List S}(h:PathTo ns k p)(e:k=0):p=[]:=by
 cases h with
 |top=>rfl
 |@node n p hm _=>have:=T.pos n hm;omega
theorem PathTo.inv{ns:List (Nd S)}(T:Tree1 ns){k:Int}{p:List S}(h:PathTo ns k p){n:Nd S}(hn:n∈ns)(e:k=n.num):∃q,p=q++[n.nm]∧PathTo ns n.par q:=by
 cases h with
 |top=>have:=T.pos n hn;omega
 |@node m q hm hq =>
  have:m=n:=T.inj hm hn e;subst this;exact⟨q,rfl,hq⟩
theorem PathTo.uniq{ns:List (Nd S)}(T:Tree1 ns){k:Int}{p:List S}(h:PathTo ns k p):∀{q:List S},PathTo ns k q→p=q:=by
 induction h with
 |top=>intro q hq;exact(hq.zero T rfl).symm
 |@node n p hm _ ih =>
  intro q hq;obtain⟨q',e,hq'⟩:=hq.inv T hm rfl;rw[e,ih hq']
theorem PathTo.ex{ns:List (Nd S)}(T:Tree1 ns){n:Nd S}(hn:n∈ns):∃p,PathTo ns n.num p:=by
 have key:∀x,Reach ns 0 x→∃p,PathTo ns x.num p:=by
  intro x r
  induction r with
  |base hm hp=>exact⟨_,.node hm (by rw[hp];exact .top)⟩
  |step _ _ hm hp ih =>
   obtain⟨p,h⟩:=ih;exact⟨_,.node hm (by rw[hp];exact h)⟩
 exact key n (T.down n hn)
theorem PathTo.key{ns:List (Nd S)}(T:Tree1 ns):∀{p:List S}{k j:Int},PathTo ns k p→PathTo ns j p→k=j:=by
 have main:∀(m:Nat){p:List S}{k j:Int},p.length=m→PathTo ns k p→PathTo ns j p→k=j:=by
  intro m
  induction m with
  |zero =>
   intro p k j hl h1 h2;have e:p=[]:=length_eq_zero_iff.mp hl;subst e;have z:∀{k:Int}{q:List S},PathTo ns k q→q=[]→k=0:=by
    intro k q h e;cases h with
    |top=>rfl
    |node _ _=>simp at e
   rw[z h1 rfl,z h2 rfl]
  |succ m ih =>
   intro p k j hl h1 h2;have z:∀{k:Int}{q:List S},PathTo ns k q→q=p→∃n q',n∈ns∧n.num=k∧p=q'++[n.nm]∧PathTo ns n.par q':=by
    intro k q h e;cases h with
    |top=>rw[←e]at hl;simp at hl
    |@node n q' hm hq'=>exact⟨n,q',hm,rfl,e.symm,hq'⟩
   obtain⟨n,q,hn,e1,e2,hq⟩:=z h1 rfl;obtain⟨n',q',hn',e1',e2',hq'⟩:=z h2 rfl;have e3:q++[n.nm]=q'++[n'.nm]:=e2.symm.trans e2';obtain⟨e4,e5⟩:=List.append_inj' e3 rfl;subst e4;have e6:n.nm=n'.nm:=by simpa using e5
   have e7:n.par=n'.par:=ih (by rw[e2]at hl;simpa using hl) hq hq';have ho:=T.own;have:n=n':=by
    unfold cK at ho;obtain⟨i,hi,gi⟩:=mem_iff_getElem.mp hn;obtain⟨j',hj,gj⟩:=mem_iff_getElem.mp hn';have:(ns.map λn=>(n.par,n.nm))[i]'(by simpa using hi)=(ns.map λn=>(n.par,n.nm))[j']'(by simpa using hj):=by
     rw[getElem_map,getElem_map,gi,gj,e6,e7]
    have hij:=(getElem_inj ho).mp this;subst hij;rw[←gi,←gj]
   rw[←e1,←e1',this]
 intro p k j h1 h2;exact main p.length rfl h1 h2
theorem PathTo.chain{ns:List (Nd S)}(T:Tree1 ns){k:Int}{p:List S}(h:PathTo ns k p):∃l:List Int,l.length=p.length∧l.Nodup∧∀x∈l,x∈ns.map (·.num)∧∃q,PathTo ns x q∧q.length≤p.length:=by
 induction h with
 |top=>exact⟨[],rfl,List.nodup_nil,by simp⟩
 |@node n p hm hp ih =>
  obtain⟨l,e,nd,hx⟩:=ih;refine⟨n.num::l,by simp[e],nodup_cons.mpr ⟨λhin=>?_,nd⟩,λx hx'=>?_⟩
  ·obtain⟨_,q,hq,hl⟩:=hx _ hin;have:=hq.uniq T (.node hm hp);rw[this]at hl;simp at hl;omega
  ·rcases mem_cons.mp hx' with e'|h'
   ·rw[e'];exact⟨mem_map.mpr ⟨n,hm,rfl⟩,_,.node hm hp,le_refl _⟩
   ·obtain⟨a,q,b,c⟩:=hx x h';exact⟨a,q,b,by simp;omega⟩
theorem PathTo.len{ns:List (Nd S)}(T:Tree1 ns){k:Int}{p:List S}(h:PathTo ns k p):p.length≤ns.length:=by
 obtain⟨l,e,nd,hx⟩:=h.chain T;rw[←e];have:=Nodup.length_le_of_subset nd (λx hx'=>(hx x hx').1);rw[length_map]at this;exact this
inductive Und(ns:List (Nd S))(g:Int):Int→Prop where
 |here:Und ns g g
 |up {n:Nd S}:n∈ns→Und ns g n.par→Und ns g n.num
theorem Und.zero{ns:List (Nd S)}(T:Tree1 ns){g k:Int}(h:Und ns g k)(e:k=0):g=0:=by
 cases h with
 |here=>exact e
 |@up n hm _=>have:=T.pos n hm;omega
theorem Und.inv{ns:List (Nd S)}(T:Tree1 ns){g k:Int}(h:Und ns g k){n:Nd S}(hn:n∈ns)(e:k=n.num)(hg:k≠g):Und ns g n.par:=by
 cases h with
 |here=>exact absurd rfl hg
 |@up m hm hu =>
  have:m=n:=T.inj hm hn e;subst this;exact hu
theorem ku{ns:List (Nd S)}(T:Tree1 ns){n:Nd S}(hn:n∈ns):n.par=0∨∃m∈ns,m.st=none∧m.num=n.par:=by
 have:=T.down n hn;cases this with
 |base _ hp=>exact .inl hp
 |@step m _ hr hf _ hp=>exact .inr ⟨m,hr.mem,hf,hp.symm⟩
theorem fE{ns:List (Nd S)}(T:Tree1 ns){g:Int}{n:Nd S}(h:Reach ns g n):Und ns g n.num∧∃p q,PathTo ns n.num (p++q)∧q≠[]∧PathTo ns g p:=by
 induction h with
 |@base n hm hp =>
  obtain⟨p,h⟩:=PathTo.ex T hm;obtain⟨q,e,hq⟩:=h.inv T hm rfl;refine⟨.up hm (by rw[hp];exact .here),q,[n.nm],by rw[←e];exact h,by simp,by rw[←hp];exact hq⟩
 |@step m n hr hf hm hp ih =>
  obtain⟨hu,p,q,h1,h2,h3⟩:=ih;refine⟨.up hm (by rw[hp];exact hu),p,q++[n.nm],?_,by simp,h3⟩;rw[←append_assoc];exact .node hm (by rw[hp];exact h1)
theorem lR{ns:List (Nd S)}(T:Tree1 ns){g:Int}{n:Nd S}(h:Reach ns g n):n.num≠g:=by
 obtain⟨_,p,q,h1,h2,h3⟩:=fE T h;intro e;rw[e]at h1;have:=h1.uniq T h3;have hl:=congrArg length this;rw[length_append]at hl;have:q.length≠0:=λz=>h2 (length_eq_zero_iff.mp z);omega
theorem kx{ns:List (Nd S)}(T:Tree1 ns){g:Int}(hg:1≤g):∀{k:Int}{p:List S},PathTo ns k p→∀{n:Nd S},n∈ns→k=n.num→Und ns g k→k≠g→Reach ns g n:=by
 intro k p h
 induction h with
 |top=>intro n hn e;have:=T.pos n hn;omega
 |@node m p hm hp ih =>
  intro n hn e hu hne;have:m=n:=T.inj hm hn e;subst this;have hu':=hu.inv T hm rfl hne
  by_cases hpg:m.par=g
  ·exact .base hm hpg
  ·rcases ku T hm with h0|⟨r,hr,hf,er⟩
   ·have:=hu'.zero T h0;omega
   ·exact .step (ih hr er.symm hu' hpg) hf hm er.symm
theorem ky{ns:List (Nd S)}(T:Tree1 ns){g:Int}(hg:1≤g){n:Nd S}(hn:n∈ns):Reach ns g n↔n.num≠g∧Und ns g n.num:=by
 constructor
 ·intro h;exact⟨lR T h,(fE T h).1⟩
 ·rintro⟨h1,h2⟩;obtain⟨p,hp⟩:=PathTo.ex T hn;exact kx T hg hp hn rfl h2 h1
end
end TW
namespace TW
section
variable{S:Type}
end
end TW
namespace TW
section
variable{S:Type}
end
end TW
namespace TW
section
variable{S:Type}
end
end TW
namespace L2
open PySem PySem.Spec PyProof.Rows
section
variable{P:Program}{w:World}{K:PySem.W.Frag}{mg:Str→Option Value}{base:Heap}
theorem Fun.okX{x qual:Str}{st:Stmt}{f:Addr}{fd:FuncData}{N ps:List Str}{k:Nat}{sp:Sp}(F:Fun K x qual st f fd)(S:FnScope N ps (ag st))(len:∀vs H Q E,sp vs H Q E→vs.length=ps.length)(hbody:∀(cdv:Value) (A:Around) (outer:List Env) (s:Shared) (H:Hp) (vs:List V) (Q:VK) (E:XK),Room k (A.deeper (envOfC qual (ag st) s.heap.objs.size f cdv))→sp vs H Q E →
   ∃t,PSs (dY (CX1 P w) P w K mg base N qual (ag st) f cdv A outer s H E) (aY st) t∧t {nx:=λ_ H'=>Q .non H',rt:=Q} (start N vs) H):FnOk P w K mg base (CX1 P w) (k+1) f fd ps sp:=by
 obtain⟨oc,od,kV,doc,pm,an,cdv,ct,osl,rfl,lk,hcd⟩:=F.ex;exact lm lk hcd S len λA outer s H vs Q E hr hsp=>hbody cdv A outer s H vs Q E hr hsp
theorem LcOk.mk'{X:Cx}{scope:Scope}{cl:List (Str×Addr)}(fs:List Str)(hk:scope.kind=.function)(hc:closureFor scope X.env=pure cl)(hn:∀x∈scope.names,x.2=.local→scope.names.lookup x.1=some .local)(hnc:∀x∈scope.names,x.2≠.cell)(hcl:∀y∈cl,X.env.cells.lookup y.1=some y.2)(hfs:cl.map (·.1)=fs)(hall:scope.names.all (λy=>!(y.2==.free)||fs.contains y.1)=true):LcOk X scope cl:=by
 refine⟨hk,hc,hn,hnc,λx c h=>hcl (x,c) (PySem.mem_of_lookup h),λx h=>?_⟩;have hm:∃k,(x,k)∈(relabel scope X.env).names∧(k=.cell∨k=.free):=by
  rcases h with h|h
  ·exact⟨_,PySem.mem_of_lookup h,.inl rfl⟩
  ·exact⟨_,PySem.mem_of_lookup h,.inr rfl⟩
 obtain⟨k,hm,hk'⟩:=hm;unfold relabel at hm;obtain⟨⟨y,k0⟩,hy,e⟩:=mem_map.mp hm;have hfree:x=y∧k0=.free:=by
  cases k0 with
  |free =>
   simp only at e
   split at e
   ·injection e with e1 e2;exact⟨e1.symm,rfl⟩
   ·injection e with e1 e2;exact⟨e1.symm,rfl⟩
  |cell=>exact absurd rfl (hnc _ hy)
  |_ =>
   exfalso
   have e2:k=_:=(congrArg Prod.snd e).symm;simp at e2;rcases hk' with z|z<;>rw[z]at e2<;>cases e2
 obtain⟨rfl,rfl⟩:=hfree;have:=List.all_eq_true.mp hall _ hy;have hin:fs.contains x=true:=by simpa using this
 rw[←hfs]at hin;have hmem:x∈cl.map (·.1):=List.contains_iff_mem.mp hin;cases e:cl.lookup x with
 |some c=>exact⟨c,rfl⟩
 |none =>
  exfalso
  obtain⟨y,hy,ey⟩:=mem_map.mp hmem;have:=List.lookup_eq_none_iff.mp e y hy;rw[ey]at this;simp at this
end
end L2
namespace TK
open PySem L2
abbrev Nd:=TW.Nd Str
def stV:Option Int→V
 |none=>.non
 |some i=>.int i
def vals(n:Nd):List V:=[.int n.num,.int n.par,.str n.nm,stV n.st]
abbrev ZN:=List (Addr×Nd)
def aX(zs:ZN):List V:=(zs.map (·.1)).map V.ref
def nds(zs:ZN):List Nd:=zs.map (·.2)
def At(H:Hp)(zs:ZN):Prop:=∀z∈zs,H z.1=some (.tup (vals z.2))
theorem At.same{H H':Hp}{zs:ZN}(h:At H zs)(s:Same H H'):At H' zs:=λz hz=>s _ _ (h z hz)
theorem bj(zs:ZN):(aX zs).length=zs.length:=by simp[aX]
theorem aV(zs:ZN):(nds zs).length=zs.length:=by simp[nds]
theorem cw{zs:ZN}{i:Nat}{x:V}(h:(aX zs)[i]?=some x):∃z,zs[i]?=some z∧x=.ref z.1:=by
 unfold aX at h;rw[getElem?_map,getElem?_map]at h;cases e:zs[i]? with
 |none=>rw[e]at h;cases h
 |some z=>rw[e]at h;exact⟨z,rfl,(Option.some.inj h).symm⟩
theorem eR{zs:ZN}{i:Nat}{z:Addr×Nd}(h:zs[i]?=some z):(aX zs)[i]?=some (.ref z.1):=by
 unfold aX;rw[getElem?_map,getElem?_map,h];rfl
theorem at0(n:Nd):atI (vals n) 0=some (.int n.num):=rfl
theorem at1(n:Nd):atI (vals n) 1=some (.int n.par):=rfl
theorem at2(n:Nd):atI (vals n) 2=some (.str n.nm):=rfl
theorem at3(n:Nd):atI (vals n) 3=some (stV n.st):=rfl
theorem ph{σ:St}(h:σ.length=2):∃a b,σ=[a,b]:=by
 match σ,h with
 |[a,b],_=>exact⟨a,b,rfl⟩
theorem po{σ:St}(h:σ.length=1):∃a,σ=[a]:=by
 match σ,h with
 |[a],_=>exact⟨a,rfl⟩
theorem aR{n:Nat}(h:n≤1000):n≤sizeLine:=le_of_lt (aA h)
theorem le2:2≤sizeLine:=aR (by decide)
theorem iT{A:Around}{k:Nat}(hr:Room k A):A.units+4<cLine:=lt_of_le_of_lt (Nat.add_le_add_left (by decide:4≤64) _) hr.units
def plK(n:Nd):List Key:=[.inl n.par,.inr n.nm]
def ins(zs:ZN)(k:Int):ZN:=zs.filter λz=>decide (z.2.par=k)
theorem ju(zs:ZN)(k:Int):nds (ins zs k)=TW.eQ (nds zs) k:=by
 unfold nds ins TW.eQ;rw[List.filter_map];rfl
theorem cx(zs:ZN)(z:Addr×Nd)(k:Int):ins (zs++[z]) k=if z.2.par=k then ins zs k++[z]else ins zs k:=by
 unfold ins;rw[List.filter_append]
 by_cases h:z.2.par=k
 ·rw[if_pos h,filter_cons_of_pos (by simp[h])];rfl
 ·rw[if_neg h,filter_cons_of_neg (by simp[h])];simp
theorem nE{zs:ZN}{k:Int}{z:Addr×Nd}(h:z∈ins zs k):z∈zs:=(mem_filter.mp h).1
theorem fG(zs:ZN)(z:Addr×Nd):aX (zs++[z])=aX zs++[.ref z.1]:=by simp[aX]
structure Mem(H0 H:Hp)(d:Addr)(L:Int→Addr)(kvs:List (Key×V))(xs:ZN)(dn:List Int):Prop where
 dict:H d=some (.dK kvs)
 d0:H0 d=none
 len:kvs.length≤xs.length
 val:∀k:Int,aN kvs (Sum.inl k:Key)=if k∈dn∨ins xs k=[]then none else some (.ref (L k))
 at':∀k,k∉dn→ins xs k≠[]→H (L k)=some (.lst (aX (ins xs k)))∧H0 (L k)=none
 inj:∀k k',k∉dn→k'∉dn→ins xs k≠[]→ins xs k'≠[]→L k=L k'→k=k'
 same:Same H0 H
theorem Mem.grow{H0 H H':Hp}{d:Addr}{L:Int→Addr}{kvs:List (Key×V)}{xs:ZN}{dn:List Int}(m:Mem H0 H d L kvs xs dn)(s:Same H H'):Mem H0 H' d L kvs xs dn :=
 ⟨s _ _ m.dict,m.d0,m.len,m.val,λk h1 h2=>⟨s _ _ (m.at' k h1 h2).1,(m.at' k h1 h2).2⟩,m.inj,m.same.trans s⟩
theorem Mem.other{H0 H:Hp}{d p:Addr}{L:Int→Addr}{kvs:List (Key×V)}{xs:ZN}{dn:List Int}{is:List Int}{o:HO}(m:Mem H0 H d L kvs xs dn)(hp:H p=some (.lst (is.map V.int)))(h0:H0 p=none):Mem H0 (upd H p o) d L kvs xs dn:=by
 refine⟨?_,m.d0,m.len,m.val,λk h1 h2=>⟨?_,(m.at' k h1 h2).2⟩,m.inj,aE h0 m.same⟩
 ·rw[ah]
  ·exact m.dict
  ·intro e;have:=m.dict;rw[e,hp]at this;cases this
 ·have e1:=(m.at' k h1 h2).1;rw[ah]
  ·exact e1
  ·intro e;rw[e,hp]at e1;injection e1 with e1
   injection e1 with e1
   have hne:=h2;cases hk:ins xs k with
   |nil=>exact h2 hk
   |cons a r =>
    rw[hk]at e1;cases is with
    |nil=>simp[aX]at e1
    |cons i r'=>simp[aX]at e1
theorem Mem.start{H0:Hp}{d:Addr}(h:H0 d=none):Mem H0 (upd H0 d (.dK [])) d (λ_=>d) [] [] [] :=
 ⟨ac,h,by simp,λk=>by rw[if_pos (.inr rfl)];rfl,λk _ h=>absurd rfl h,λk k' _ _ h=>absurd rfl h,af h⟩
theorem Mem.hit{H0 H:Hp}{d:Addr}{L:Int→Addr}{kvs:List (Key×V)}{xs:ZN}{z:Addr×Nd}(m:Mem H0 H d L kvs xs [])(hp:ins xs z.2.par≠[]):
  Mem H0 (upd H (L z.2.par) (.lst (aX (ins xs z.2.par)++[.ref z.1]))) d L kvs (xs++[z]) []:=by
 have e1:=(m.at' z.2.par (by simp) hp);have hd:d≠L z.2.par:=λe=>by
  have:=m.dict;rw[e,e1.1]at this;cases this
 have ne:∀k,ins (xs++[z]) k=[]↔ins xs k=[]:=λk=>by
  rw[cx]
  by_cases h:z.2.par=k
  ·rw[if_pos h];subst h;simp[hp]
  ·rw[if_neg h]
 refine⟨by rw[ah hd];exact m.dict,m.d0,by have:=m.len;simp;omega,λk=>?_,λk h1 h2=>?_,λk k' _ _ h2 h3 e=>m.inj k k' (by simp) (by simp) (λh=>h2 ((ne k).mpr h)) (λh=>h3 ((ne k').mpr h)) e,aE e1.2 m.same⟩
 ·rw[m.val k];simp only[ne k]
 ·have h2':ins xs k≠[]:=λh=>h2 ((ne k).mpr h);refine⟨?_,(m.at' k h1 h2').2⟩
  by_cases h:z.2.par=k
  ·subst h;rw[ac,cx,if_pos rfl,fG]
  ·rw[ah,cx,if_neg h]
   ·exact(m.at' k h1 h2').1
   ·intro e;exact h (m.inj _ _ (by simp) (by simp) hp h2' e.symm)
theorem Mem.fresh{H0 H:Hp}{d q:Addr}{L:Int→Addr}{kvs:List (Key×V)}{xs:ZN}{z:Addr×Nd}(m:Mem H0 H d L kvs xs [])(hp:ins xs z.2.par=[])(hq:H q=none):
  Mem H0 (upd (upd (upd H q (.lst [])) d (.dK (eA kvs (Sum.inl z.2.par:Key) (.ref q)))) q (.lst ([]++[.ref z.1]))) d (λk=>if k=z.2.par then q else L k) (eA kvs (Sum.inl z.2.par:Key) (.ref q)) (xs++[z]) []:=by
 have hdq:d≠q:=λe=>by
  have:=m.dict;rw[e,hq]at this;cases this
 have lq:∀k,ins xs k≠[]→L k≠q:=λk h e=>by
  have:=(m.at' k (by simp) h).1;rw[e,hq]at this;cases this
 have ld:∀k,ins xs k≠[]→L k≠d:=λk h e=>by
  have:=(m.at' k (by simp) h).1;rw[e,m.dict]at this;cases this
 have q0:H0 q=none:=m.same.free hq;have e2:∀k,k≠z.2.par→ins (xs++[z]) k=ins xs k:=λk h=>by rw[cx,if_neg (λe=>h e.symm)]
 have e3:ins (xs++[z]) z.2.par=[z]:=by rw[cx,if_pos rfl,hp];rfl
 refine⟨by rw[ah hdq,ac],m.d0,?_,λk=>?_,λk h1 h2=>?_,λk k' _ _ h2 h3 e=>?_,?_⟩
 ·have h1:=m.len;have h2:=dB kvs (Sum.inl z.2.par:Key) (.ref q);rw[length_append,length_singleton];omega
 ·rw[lu]
  by_cases h:k=z.2.par
  ·subst h;rw[if_pos rfl,if_neg (by rw[e3];simp),if_pos rfl]
  ·rw[if_neg (λe=>h (Sum.inl.inj e)),m.val k,e2 k h,if_neg h]
 ·by_cases h:k=z.2.par
  ·subst h;simp only[if_true];exact⟨by rw[ac,e3];rfl,q0⟩
  ·rw[e2 k h]at h2;simp only[if_neg h];refine⟨?_,(m.at' k h1 h2).2⟩;rw[ah (lq k h2),ah (ld k h2),ah (lq k h2),e2 k h];exact(m.at' k h1 h2).1
 ·by_cases h:k=z.2.par
  ·by_cases h':k'=z.2.par
   ·rw[h,h']
   ·rw[e2 k' h']at h3;simp only[if_pos h,if_neg h']at e;exact absurd e.symm (lq k' h3)
  ·rw[e2 k h]at h2
   by_cases h':k'=z.2.par
   ·simp only[if_neg h,if_pos h']at e;exact absurd e (lq k h2)
   ·rw[e2 k' h']at h3;simp only[if_neg h,if_neg h']at e;exact m.inj k k' (by simp) (by simp) h2 h3 e
 ·exact aE q0 (aE m.d0 (m.same.trans (af hq)))
theorem kA{κ:Type}[DecidableEq κ](kvs:List (κ×V))(k j:κ):aN (br kvs k) j=if j=k then none else aN kvs j:=by
 induction kvs with
 |nil=>simp[br,aN]
 |cons p r ih =>
  by_cases e:p.1=k
  ·rw[jX e,ih]
   by_cases h:j=k
   ·rw[if_pos h,if_pos h]
   ·rw[if_neg h,if_neg h,aC (λz=>h (z.symm.trans e))]
  ·rw[jY e]
   by_cases h:p.1=j
   ·rw[aI h,if_neg (λz=>e (h.trans z)),aI h]
   ·rw[aC h,ih,aC h]
theorem Mem.drop{H0 H:Hp}{d:Addr}{L:Int→Addr}{kvs:List (Key×V)}{xs:ZN}{dn:List Int}(m:Mem H0 H d L kvs xs dn)(x:Int):Mem H0 (upd H d (.dK (br kvs (Sum.inl x:Key)))) d L (br kvs (Sum.inl x:Key)) xs (x::dn):=by
 have ld:∀k,k∉dn→ins xs k≠[]→L k≠d:=λk h0 h e=>by
  have:=(m.at' k h0 h).1;rw[e,m.dict]at this;cases this
 have no:∀k,k∉x::dn→k∉dn:=λk h h'=>h (mem_cons_of_mem _ h');refine⟨ac,m.d0,le_trans (gY _ _) m.len,λk=>?_,λk h1 h2=>?_,λk k' h0 h1 h2 h3 e=>m.inj k k' (no k h0) (no k' h1) h2 h3 e,aE m.d0 m.same⟩
 ·rw[kA,m.val k]
  by_cases h:k=x
  ·rw[if_pos (by rw[h]),if_pos (.inl (by rw[h];simp))]
  ·rw[if_neg (λe=>h (Sum.inl.inj e))];simp[h]
 ·rw[ah (ld k (no k h1) h2)];exact m.at' k (no k h1) h2
theorem Mem.skip{H0 H:Hp}{d:Addr}{L:Int→Addr}{kvs:List (Key×V)}{xs:ZN}{dn:List Int}(m:Mem H0 H d L kvs xs dn){x:Int}(hx:x∈dn∨ins xs x=[]):Mem H0 H d L kvs xs (x::dn):=by
 have no:∀k,k∉x::dn→k∉dn:=λk h h'=>h (mem_cons_of_mem _ h');refine⟨m.dict,m.d0,m.len,λk=>?_,λk h1 h2=>m.at' k (no k h1) h2,λk k' h0 h1 h2 h3 e=>m.inj k k' (no k h0) (no k' h1) h2 h3 e,m.same⟩;rw[m.val k]
 by_cases h:k=x
 ·subst h;rw[if_pos hx,if_pos (.inl (by simp))]
 ·simp[h]
theorem lS{Q:VK}{H0 H:Hp}{d q:Addr}{L:Int→Addr}{kvs:List (Key×V)}{zs:ZN}{dn:List Int}{x:Int}(m:Mem H0 H d L kvs zs dn)(hq:H q=some (.lst []))(k:∀hl Hc kvs' hs,Mem H0 Hc d L kvs' zs (x::dn)→Hc hl=some (.lst (aX hs))→nds hs=TW.here (nds zs) dn x→(∀z∈hs,z∈zs)→(∀p,p≠d→Hc p=H p)→(hs=[]→hl=q)→Q (.ref hl) Hc):
  ∃kvs k,H d=some (.dK kvs)∧V.int x=kV k∧(∀v,aN kvs k=some v→Q v (upd H d (.dK (br kvs k))))∧(aN kvs k=none→Q (.ref q) H):=by
 refine⟨kvs,.inl x,m.dict,rfl,λv hv=>?_,λhn=>?_⟩
 ·rw[m.val x]at hv
  by_cases h:x∈dn∨ins zs x=[]
  ·rw[if_pos h]at hv;cases hv
  ·rw[if_neg h]at hv;have h1:x∉dn:=λz=>h (.inl z);have h2:ins zs x≠[]:=λz=>h (.inr z);cases hv;have a:=(m.at' x h1 h2).1;have ld:L x≠d:=λe=>by rw[e,m.dict]at a;cases a
   refine k (L x) _ _ (ins zs x) (m.drop x) (by rw[ah ld];exact a) ?_ (λz hz=>nE hz) (λp hp=>ah hp) (λe=>absurd e h2);rw[ju];unfold TW.here;rw[if_neg h1]
 ·rw[m.val x]at hn
  by_cases h:x∈dn∨ins zs x=[]
  ·refine k q _ _ [] (m.skip h) hq ?_ (by simp) (λp _=>rfl) (λ_=>rfl);unfold TW.here
   by_cases h1:x∈dn
   ·rw[if_pos h1];rfl
   ·rw[if_neg h1];rcases h with h|h
    ·exact absurd h h1
    ·rw[←ju,h]
  ·rw[if_neg h]at hn;cases hn
theorem jv{H:Hp}{p hl:Addr}{hs:ZN}{is:List Int}(hp:H p=some (.lst (is.map V.int)))(h:H hl=some (.lst (aX hs)))(hne:hs≠[]):hl≠p:=by
 intro e;rw[e,hp]at h;injection h with h
 injection h with h
 cases hs with
 |nil=>exact hne rfl
 |cons a r =>
  cases is with
  |nil=>simp[aX]at h
  |cons i r'=>simp[aX]at h
def db(H:Hp)(p:Addr):Nat:=match H p with
 |some (.lst xs)=>xs.length
 |_=>0
theorem bX{H:Hp}{p:Addr}{xs:List V}(h:H p=some (.lst xs)):db H p=xs.length:=by unfold db;rw[h]
def bY(l:List Nd):List V:=(l.map (·.num)).map V.int
def fH(K:PySem.W.Frag)(H:Hp)(a:Addr):Prop:=∃ns:List Int,SqL K H a (ns.map V.int)
theorem fH.same{K:PySem.W.Frag}{H H':Hp}{a:Addr}(h:fH K H a)(s:Same H H'):fH K H' a:=let⟨ns,e⟩:=h;⟨ns,s.seq e⟩
theorem im{ns:List Int}{i:Int}(h0:0≤i)(h1:i<ns.length):∃j,atI (ns.map V.int) i=some (.int j):=by
 refine⟨ns[i.toNat]'(by omega),?_⟩;have:=bu (xs:=ns.map V.int) (j:=i.toNat) (v:=.int (ns[i.toNat]'(by omega))) (by rw[getElem?_map,getElem?_eq_getElem (by omega)];rfl);rw[show((i.toNat:Nat):Int)=i by omega]at this;exact this
def Has(P:Program)(w:World)(K:PySem.W.Frag)(mg:Str→Option Value)(base:Heap)(k:Nat)(x:Str)(ps:List Str)(sp:Sp):Prop:=∃f fd,FnOk P w K mg base CX0 k f fd ps sp∧mg x=some (.ref f)∧keepIn K (.ref f)=true∧bA K fd ps []
def pq(n:Nd):Prop:=1≤n.num∧n.num≤12∧(n.nm="a"∨n.nm="b"∨n.nm="c"∨n.nm="abcde")∧(n.st=none∨n.st=some 0∨n.st=some 1∨n.st=some 2∨n.st=some 999)
structure Bd(zs:ZN)(lf:List Int):Prop where
 built:TW.Built (nds zs)
 nd:((nds zs).map (·.num)++lf).Nodup
 rng:∀x∈lf,1≤x∧x≤12
 own:TW.cK (nds zs)
 ok:∀z∈zs,pq z.2
theorem Bd.skip{zs:ZN}{lf:List Int}(b:Bd zs lf)(i:Nat):Bd zs (lf.eraseIdx i) :=
 ⟨b.built,Nodup.sublist (Sublist.append (Sublist.refl _) (List.eraseIdx_sublist lf i)) b.nd,λx hx=>b.rng x ((List.eraseIdx_sublist lf i).mem hx),b.own,b.ok⟩
theorem eS:∀{l:List Int}{i:Nat}{x:Int},l[i]?=some x→(x::l.eraseIdx i).Perm l
 |a::l,0,x,h=>by
  have:a=x:=by simpa using h
  subst this;exact List.Perm.refl _
 |a::l,i+1,x,h=>by
  have h':l[i]?=some x:=by simpa using h
  exact(List.Perm.swap a x _).trans (List.Perm.cons a (eS h'))
 |[],i,x,h=>by simp at h
theorem Bd.add{zs:ZN}{lf:List Int}{i:Nat}{q:Addr}{n:Nd}(b:Bd zs lf)(hi:lf[i]?=some n.num)(hp:n.par∈(0:Int)::TW.aq (nds zs))(ho:∀z∈zs,¬(z.2.par=n.par∧z.2.nm=n.nm))(h3:n.nm="a"∨n.nm="b"∨n.nm="c"∨n.nm="abcde")(h4:n.st=none∨n.st=some 0∨n.st=some 1∨n.st=some 2∨n.st=some 999):Bd (zs++[(q,n)]) (lf.eraseIdx i):=by
 have e:nds (zs++[(q,n)])=nds zs++[n]:=by simp[nds]
 have pm:=eS hi;refine⟨?_,?_,λx hx=>b.rng x ((List.eraseIdx_sublist lf i).mem hx),?_,λz hz=>?_⟩
 ·rw[e];refine .snoc b.built ?_;rcases mem_cons.mp hp with h|h
  ·exact .inl h
  ·exact .inr (TW.dE.mp h)
 ·rw[e,map_append,append_assoc];exact((List.Perm.append_left _ pm).nodup_iff).mpr b.nd
 ·rw[e];unfold TW.cK;rw[map_append,List.nodup_append];refine⟨b.own,by simp,λx hx y hy=>?_⟩;have ey:y=(n.par,n.nm):=by simpa using hy
  subst ey;obtain⟨m,hm,rfl⟩:=mem_map.mp hx;obtain⟨z,hz,rfl⟩:=mem_map.mp hm;intro h;injection h with h1 h2
  exact ho z hz ⟨h1,h2⟩
 ·rcases mem_append.mp hz with h|h
  ·exact b.ok z h
  ·have ez:z=(q,n):=by simpa using h
   subst ez;have:=b.rng n.num (mem_of_getElem? hi);exact⟨this.1,this.2,h3,h4⟩
def tp(z:Addr×Nd):fe:=(z.1,z.2.num,[.int z.2.par,.str z.2.nm,stV z.2.st])
def un(t:fe):Addr×Nd:=(t.1,match t.2.2 with
 |[.int p,.str s,.int i]=>⟨t.2.1,p,s,some i⟩
 |[.int p,.str s,_]=>⟨t.2.1,p,s,none⟩
 | _=>⟨0,0,"",none⟩)
theorem ol(z:Addr×Nd):un (tp z)=z:=by
 obtain⟨a,⟨n,p,s,st⟩⟩:=z;cases st<;>rfl
theorem back{zs:ZN}{ts:List fe}(h:ts.Perm (zs.map tp)):(ts.map un).Perm zs∧(ts.map un).map tp=ts:=by
 constructor
 ·have:=h.map un;rw[map_map]at this;have e:zs.map (un∘tp)=zs.map id:=map_congr_left λz _=>ol z;rw[e,List.map_id]at this;exact this
 ·rw[map_map,map_congr_left (g:=id)]
  ·simp
  ·intro t ht;obtain⟨z,_,rfl⟩:=mem_map.mp (h.mem_iff.mp ht);show tp (un (tp z))=tp z;rw[ol]
theorem jw(zs:ZN):((zs.map tp).map (·.1)).map V.ref=aX zs:=by
 unfold aX;simp only[map_map];rfl
theorem pr{n:Nat}{j:Int}(h0:0≤j)(h1:j<n):seqIndex? j n=some j.toNat:=(jj (by unfold ixN;rw[if_pos h0,if_pos h1])).1
theorem fJ:∀(l:List Int)(i:Nat),(l.map V.int).eraseIdx i=(l.eraseIdx i).map V.int
 |[],i=>by simp
 |a::l,0=>rfl
 |a::l,i+1=>by
  show V.int a::(l.map V.int).eraseIdx i=V.int a::(l.eraseIdx i).map V.int;rw[fJ l i]
theorem nF{ns:List Int}{i:Int}(h0:0≤i)(h1:i<ns.length):∃x∈ns,atI (ns.map V.int) i=some (.int x):=by
 refine⟨ns[i.toNat]'(by omega),getElem_mem _,?_⟩;have:=bu (xs:=ns.map V.int) (j:=i.toNat) (v:=.int (ns[i.toNat]'(by omega))) (by rw[getElem?_map,getElem?_eq_getElem (by omega)];rfl);rw[show((i.toNat:Nat):Int)=i by omega]at this;exact this
theorem nG{j:Int}(h0:0≤j)(h1:j<4):∃x:Str,(x="a"∨x="b"∨x="c"∨x="abcde")∧atI [V.str "a",.str "b",.str "c",.str "abcde"] j=some (.str x):=by
 obtain rfl|rfl|rfl|rfl:j=0∨j=1∨j=2∨j=3:=by omega
 ·exact⟨"a",.inl rfl,rfl⟩
 ·exact⟨"b",.inr (.inl rfl),rfl⟩
 ·exact⟨"c",.inr (.inr (.inl rfl)),rfl⟩
 ·exact⟨"abcde",.inr (.inr (.inr rfl)),rfl⟩
theorem nH{j:Int}(h0:0≤j)(h1:j<4):∃i:Int,(some i=none∨some i=some (0:Int)∨some i=some 1∨some i=some 2∨some i=some 999)∧atI [V.int 0,.int 1,.int 2,.int 999] j=some (.int i):=by
 obtain rfl|rfl|rfl|rfl:j=0∨j=1∨j=2∨j=3:=by omega
 ·exact⟨0,.inr (.inl rfl),rfl⟩
 ·exact⟨1,.inr (.inr (.inl rfl)),rfl⟩
 ·exact⟨2,.inr (.inr (.inr (.inl rfl))),rfl⟩
 ·exact⟨999,.inr (.inr (.inr (.inr rfl))),rfl⟩
structure Sta(H:Hp)(pl pf pn:Addr)(Hx:Hp)(lf fs:List Int)(zs:ZN):Prop where
 same:Same H Hx
 l:Hx pl=some (.lst (lf.map V.int))
 f:Hx pf=some (.lst (fs.map V.int))
 n:Hx pn=some (.lst (aX zs))
 nd:At Hx zs
 l0:H pl=none
 f0:H pf=none
 n0:H pn=none
 lf':pl≠pf
 ln':pl≠pn
 fn':pf≠pn
theorem Sta.grow{H Hx Hy:Hp}{pl pf pn:Addr}{lf fs:List Int}{zs:ZN}(a:Sta H pl pf pn Hx lf fs zs)(s:Same Hx Hy):Sta H pl pf pn Hy lf fs zs :=
 ⟨a.same.trans s,s _ _ a.l,s _ _ a.f,s _ _ a.n,a.nd.same s,a.l0,a.f0,a.n0,a.lf',a.ln',a.fn'⟩
theorem At.over{H:Hp}{p:Addr}{xs:List V}{o:HO}{zs:ZN}(h:At H zs)(hp:H p=some (.lst xs)):At (upd H p o) zs:=λz hz=>by
 rw[ah]
 ·exact h z hz
 ·intro e;have:=h z hz;rw[e,hp]at this;cases this
theorem Sta.pop{H Hx:Hp}{pl pf pn:Addr}{lf fs:List Int}{zs:ZN}(a:Sta H pl pf pn Hx lf fs zs)(lf2:List Int):Sta H pl pf pn (upd Hx pl (.lst (lf2.map V.int))) lf2 fs zs :=
 ⟨aE a.l0 a.same,ac,by rw[ah (symm a.lf')];exact a.f,by rw[ah (symm a.ln')];exact a.n,a.nd.over a.l,a.l0,a.f0,a.n0,a.lf',a.ln',a.fn'⟩
theorem Sta.fold{H Hx:Hp}{pl pf pn:Addr}{lf fs:List Int}{zs:ZN}(a:Sta H pl pf pn Hx lf fs zs)(x:Int):Sta H pl pf pn (upd Hx pf (.lst (fs.map V.int++[.int x]))) lf (fs++[x]) zs :=
 ⟨aE a.f0 a.same,by rw[ah a.lf'];exact a.l,by rw[ac];simp,by rw[ah (symm a.fn')];exact a.n,a.nd.over a.f,a.l0,a.f0,a.n0,a.lf',a.ln',a.fn'⟩
theorem Sta.node{H Hx:Hp}{pl pf pn q:Addr}{lf fs:List Int}{zs:ZN}{n:Nd}(a:Sta H pl pf pn Hx lf fs zs)(hq:Hx q=some (.tup (vals n))):Sta H pl pf pn (upd Hx pn (.lst (aX zs++[.ref q]))) lf fs (zs++[(q,n)]) :=
 ⟨aE a.n0 a.same,by rw[ah a.ln'];exact a.l,by rw[ah a.fn'];exact a.f,by rw[ac,fG],(λz hz=>by
  rcases mem_append.mp hz with h|h
  ·exact a.nd.over a.n z h
  ·have ez:z=(q,n):=by simpa using h
   subst ez;rw[ah]
   ·exact hq
   ·intro e;have e':q=pn:=e;rw[e',a.n]at hq;cases hq),a.l0,a.f0,a.n0,a.lf',a.ln',a.fn'⟩
def lf0(m:Int):List Int:=(List.range (m+4-1).toNat).map λk=>(1:Int)+(k:Nat)
theorem nI{m:Int}(h:0≤m):((lf0 m).length:Int)=m+3:=by unfold lf0;rw[length_map,length_range];omega
theorem nJ{m:Int}(h:m≤9):∀x∈lf0 m,1≤x∧x≤12:=λx hx=>by
 unfold lf0 at hx;obtain⟨k,hk,rfl⟩:=mem_map.mp hx;have:=mem_range.mp hk;omega
theorem pw(m:Int):(lf0 m).Nodup:=by
 unfold lf0 Nodup;rw[pairwise_map];exact List.nodup_range.imp λh e=>h (by omega)
theorem Bd.zero{m:Int}(h:m≤9):Bd [] (lf0 m):=⟨.nil,by show(([]:List Int)++lf0 m).Nodup;rw[nil_append];exact pw m,nJ h,by unfold TW.cK nds;simp,by simp⟩
def bq(zs:ZN):List (Key×V):=zs.map λz=>((Sum.inl z.2.num:Key),V.ref z.1)
theorem gE{zs:ZN}(hn:((nds zs).map (·.num)).Nodup){z:Addr×Nd}(hz:z∈zs):aN (bq zs) (Sum.inl z.2.num:Key)=some (.ref z.1):=by
 induction zs with
 |nil=>simp at hz
 |cons y zs ih =>
  have hn':y.2.num∉(nds zs).map (·.num)∧((nds zs).map (·.num)).Nodup:=by simpa [nds]using hn
  show aN (((Sum.inl y.2.num:Key),V.ref y.1)::bq zs) _=_;rcases mem_cons.mp hz with e|hz'
  ·subst e;exact aI rfl
  ·rw[aC]
   ·exact ih hn'.2 hz'
   ·intro e;injection e with e
    exact hn'.1 (mem_map.mpr ⟨z.2,mem_map.mpr ⟨z,hz',rfl⟩,e.symm⟩)
theorem iU{zs:ZN}{k:Int}(h:∀z∈zs,z.2.num≠k):aN (bq zs) (Sum.inl k:Key)=none:=by
 induction zs with
 |nil=>rfl
 |cons y zs ih =>
  show aN (((Sum.inl y.2.num:Key),V.ref y.1)::bq zs) _=_;rw[aC]
  ·exact ih λz hz=>h z (mem_cons_of_mem _ hz)
  ·intro e;injection e with e
   exact h y (by simp) e
def eT(H:Hp)(d:Addr)(zs:ZN):Prop:=∃o,H d=some (.frz o (.dK (bq zs)))
theorem eT.same{H H':Hp}{d:Addr}{zs:ZN}(h:eT H d zs)(s:Same H H'):eT H' d zs:=let⟨o,e⟩:=h;⟨o,s _ _ e⟩
theorem eT.get{H:Hp}{d:Addr}{zs:ZN}(h:eT H d zs)(hn:((nds zs).map (·.num)).Nodup){z:Addr×Nd}(hz:z∈zs):hG H d (.int z.2.num) (some (.ref z.1)):=by
 obtain⟨o,e⟩:=h;exact .inl ⟨bq zs,Sum.inl z.2.num,.inr ⟨o,e⟩,rfl,(gE hn hz).symm⟩
theorem eT.not{H:Hp}{d:Addr}{zs:ZN}(h:eT H d zs){k:Int}(hk:∀z∈zs,z.2.num≠k):hG H d (.int k) none:=by
 obtain⟨o,e⟩:=h;exact .inl ⟨bq zs,Sum.inl k,.inr ⟨o,e⟩,rfl,(iU hk).symm⟩
theorem bb{ns:List Nd}(T:TW.Tree1 ns):(ns.map (·.num)).Nodup:=by
 have h:=T.rise;unfold TW.kt at h;unfold Nodup;rw[pairwise_map];exact h.imp λh e=>by omega
theorem nK{ys:List V}{zs:ZN}{H:Hp}{p:Addr}{g:Addr×Nd→List V}(hlen:ys.length=zs.length)(h:∀(i:Nat) y,ys[i]?=some y→∃q z,zs[i]?=some z∧y=.ref q∧q≠p∧H q=some (.tup (g z))):
  ∃as:List (Addr×(Addr×Nd)),as.map (·.2)=zs∧ys=(as.map (·.1)).map V.ref∧∀a∈as,a.1≠p∧H a.1=some (.tup (g a.2)):=by
 induction ys generalizing zs with
 |nil =>
  have:zs=[]:=length_eq_zero_iff.mp hlen.symm;subst this;exact⟨[],rfl,rfl,by simp⟩
 |cons y ys ih =>
  cases zs with
  |nil=>simp at hlen
  |cons z zs =>
   obtain⟨as,e1,e2,e3⟩:=ih (zs:=zs) (by simpa using hlen) λi x hx=>by simpa using h (i+1) x (by simpa using hx)
   obtain⟨q,z',f1,f2,f3,f4⟩:=h 0 y rfl;have:z=z':=by simpa using f1
   subst this;refine⟨(q,z)::as,by simp[e1],by simp[e2,f2],λa ha=>?_⟩;rcases mem_cons.mp ha with rfl|ha
   ·exact⟨f3,f4⟩
   ·exact e3 a ha
theorem lT{κ:Type}[DecidableEq κ]{kvs:List (κ×V)}(hn:(kvs.map (·.1)).Nodup){k:κ}{v:V}(h:(k,v)∈kvs):aN kvs k=some v:=by
 induction kvs with
 |nil=>simp at h
 |cons y kvs ih =>
  have hn':y.1∉kvs.map (·.1)∧(kvs.map (·.1)).Nodup:=by simpa using hn
  rcases mem_cons.mp h with e|h'
  ·subst e;exact aI rfl
  ·rw[aC]
   ·exact ih hn'.2 h'
   ·intro e;exact hn'.1 (mem_map.mpr ⟨_,h',e.symm⟩)
theorem gF{zs:ZN}{k:Int}{q:List Str}(T:TW.Tree1 (nds zs))(h:TW.PathTo (nds zs) k q)(hk:k≠0):∃z∈zs,z.2.num=k∧∃q',q=q'++[z.2.nm]∧TW.PathTo (nds zs) z.2.par q':=by
 cases h with
 |top=>exact absurd rfl hk
 |@node n q' hm hq' =>
  obtain⟨z,hz,rfl⟩:=mem_map.mp hm;exact⟨z,hz,rfl,q',rfl,hq'⟩
def kE(P:Program)(w:World)(K:PySem.W.Frag)(mg:Str→Option Value)(base:Heap)(k:Nat)(x:Str)(ps:List Str)(sp:Sp):Prop:=∃f fd,FnOk P w K mg base (CX1 P w) k f fd ps sp∧mg x=some (.ref f)∧keepIn K (.ref f)=true∧bA K fd ps []
structure Tre(H:Hp)(t:Addr)(zs:ZN):Prop where
 tup:H t=some (.tup (aX zs))
 nod:At H zs
 tr:TW.Tree1 (nds zs)
 len:zs.length≤30
theorem Tre.same{H H':Hp}{t:Addr}{zs:ZN}(h:Tre H t zs)(s:Same H H'):Tre H' t zs:=⟨s _ _ h.tup,h.nod.same s,h.tr,h.len⟩
theorem kG{ns:List Nd}(T:TW.Tree1 ns){f:Int}{dn:List Int}{fd:List Nd}(wk:TW.Walk ns f dn fd []):(fd.map (·.num)).Nodup:=by
 have h:=bb T;have:(fd.map (·.num)).Perm ((ns.filter (TW.cg dn)).map (·.num)):=wk.perm.map _;exact this.nodup_iff.mpr (h.sublist (List.filter_sublist.map _))
theorem _root_.L2.Same.rd{H H':Hp}(s:Same H H'){a:Addr}{u:HO}(r:Rd H a u):Rd H' a u:=by
 rcases r with r|⟨o,r⟩
 ·exact .inl (s _ _ r)
 ·exact .inr ⟨o,s _ _ r⟩
def bn(as:List (Addr×(Addr×Nd))):List (Key×V):=as.map λa=>((Sum.inl a.2.2.num:Key),V.ref a.1)
def ci(n:Nd):List V:=[.int n.par,.str n.nm,stV n.st]
structure Book(H:Hp)(d:Addr)(as:List (Addr×(Addr×Nd)))(zs:ZN):Prop where
 dict:Rd H d (.dK (bn as))
 of:as.map (·.2)=zs
 at':∀a∈as,H a.1=some (.tup (ci a.2.2))
theorem Book.same{H H':Hp}{d:Addr}{as:List (Addr×(Addr×Nd))}{zs:ZN}(b:Book H d as zs)(s:Same H H'):Book H' d as zs:=⟨s.rd b.dict,b.of,λa ha=>s _ _ (b.at' a ha)⟩
theorem iV{as:List (Addr×(Addr×Nd))}{zs:ZN}(h:as.map (·.2)=zs):(bn as).map (·.1)=((nds zs).map (·.num)).map (Sum.inl:Int→Key):=by
 rw[←h];unfold bn nds;simp only[map_map];rfl
theorem lU{as:List (Addr×(Addr×Nd))}{zs:ZN}(h:as.map (·.2)=zs)(hn:((nds zs).map (·.num)).Nodup):((bn as).map (·.1)).Nodup:=by
 rw[iV h];unfold Nodup at hn⊢;rw[pairwise_map];exact hn.imp λh e=>h (by injection e)
theorem Book.get{H:Hp}{d:Addr}{as:List (Addr×(Addr×Nd))}{zs:ZN}(b:Book H d as zs)(hn:((nds zs).map (·.num)).Nodup){z:Addr×Nd}(hz:z∈zs):∃q,hG H d (.int z.2.num) (some (.ref q))∧H q=some (.tup (ci z.2)):=by
 have:z∈as.map (·.2):=by rw[b.of];exact hz
 obtain⟨a,ha,rfl⟩:=mem_map.mp this;refine⟨a.1,.inl ⟨bn as,Sum.inl a.2.2.num,b.dict,rfl,?_⟩,b.at' a ha⟩;exact(lT (lU b.of hn) (mem_map.mpr ⟨a,ha,rfl⟩)).symm
def io(ns:List Nd)(k:Int):Nat:=open Classical in if h:∃p,TW.PathTo ns k p then (Classical.choose h).length else 0
theorem dO{ns:List Nd}(T:TW.Tree1 ns){k:Int}{p:List Str}(h:TW.PathTo ns k p):io ns k=p.length:=by
 unfold io;have hx:∃p,TW.PathTo ns k p:=⟨p,h⟩;rw[dif_pos hx];rw[(Classical.choose_spec hx).uniq T h]
theorem qE(n:Nd):atI (ci n) 0=some (.int n.par):=rfl
theorem rl(n:Nd):atI (ci n) 1=some (.str n.nm):=rfl
abbrev qF(x:Str)(mg:Str→Option Value)(base:Heap)(C:Addr):Prop:=PyProof.Rows.OwnCls x C bmV "ValueError.__new__" mg base
theorem lV(zs:ZN):zs.map (λz=>V.ref z.1)=aX zs:=by simp[aX]
theorem bg{zs:ZN}{z:Addr×Nd}(h:z∈zs):z.2∈nds zs:=mem_map.mpr ⟨z,h,rfl⟩
theorem lW{zs:ZN}{n:Nd}(h:n∈nds zs):∃z∈zs,z.2=n:=mem_map.mp h
def jx(bs:List (Addr×Nd)):List (Key×V):=bs.map λb=>((Sum.inl b.2.num:Key),V.ref b.1)
theorem nL(as:List (Addr×(Addr×Nd))):bn as=jx (as.map λa=>(a.1,a.2.2)):=by
 unfold bn jx;rw[map_map];rfl
theorem iW(bs:List (Addr×Nd)):(jx bs).map (λp=>kV p.1)=bs.map λb=>V.int b.2.num:=by
 unfold jx;rw[map_map];rfl
theorem px(n:Nd):atI (ci n) 2=some (stV n.st):=rfl
def top(i:Nat):Stmt:=PySem.Challenge.pw_treewatch_k81_whole_totals.main.body.getD i (.Pass ⟨0,0,0,0⟩)
abbrev pA:Stmt:=top 6
abbrev pB:Stmt:=top 7
abbrev pC:Stmt:=top 8
abbrev pD:Stmt:=top 9
abbrev pE:Stmt:=top 10
abbrev pF:Stmt:=top 11
abbrev nM:Stmt:=top 12
abbrev dP:Stmt:=top 14
abbrev dc:Stmt:=top 15
abbrev dq:Stmt:=top 16
abbrev lX:Stmt:=top 18
abbrev lY:Stmt:=top 19
abbrev dt:Stmt:=top 20
abbrev lZ:Stmt:=top 21
abbrev iX:Stmt:=top 22
abbrev iY:Stmt:=top 23
abbrev bH:Stmt:=top 24
structure Txt(mg:Str→Option Value):Prop where
 isin:mg "isinstance"=none
 dict:mg "dict"=none
 len:mg "len"=none
 tuple:mg "tuple"=none
 list:mg "list"=none
 range:mg "range"=none
 sorted:mg "sorted"=none
 reversed:mg "reversed"=none
 ValueError:mg "ValueError"=none
 str:mg "str"=none
 set:mg "set"=none
 max:mg "max"=none
 min:mg "min"=none
 sum:mg "sum"=none
 zip:mg "zip"=none
 enumerate:mg "enumerate"=none
 all:mg "all"=none
 int:mg "int"=none
 bool:mg "bool"=none
 top:∃t,mg "TOP"=some (.int 0 t)
section
variable{P:Program}{w:World}{K:PySem.W.Frag}{mg:Str→Option Value}{base:Heap}
def jy:Sp:=λvs H Q _=>∃t f zs,vs=[.ref t,.int f]∧H t=some (.tup (aX zs))∧At H zs∧zs.length≤100∧∀fd dn l H',TW.Walk (nds zs) f dn fd []→H' l=some (.lst (bY fd))→Same H H'→Q (.ref l) H'
theorem eU:FnScope ["nodes","folder","members","node","found","pending","here"] ["nodes","folder"] (ag pA):=fsc
theorem pG{f:Addr}{fd:FuncData}(F:Fun K "numbers_inside" "numbers_inside" pA f fd)(T:Txt mg):FnOk P w K mg base CX0 1 f fd ["nodes","folder"] jy:=by
 refine F.ok eU (λvs H Q E h=>?_) (λcdv A outer s H vs Q E hr h=>?_)
 ·obtain⟨t,f,zs,rfl,_⟩:=h;rfl
 ·obtain⟨t,f,zs,rfl,ht,hA,hl,k⟩:=h;refine⟨_,ai (ax (i:=2) eU.nd rfl (Or.inl rfl) lx)
   (ai (dS PassesOwn.never rfl (gc (pv 0)) (aD (i:=3) eU.nd rfl (Or.inl rfl)) (ak (bt (dA plainAttrs_list PySem.F.slot_list_append PySem.F.type_list_append aO
     (dA PySem.F.plainAttrs_dict PySem.F.slot_dict_setdefault PySem.F.type_dict_setdefault fb (pv 2) (aa (aK aG (pv 3) aj (λ_ _=>rfl)) (aa (bc ae) ae))) (aa (pv 3) ae)))))
   (ai (ax (i:=4) eU.nd rfl (Or.inl rfl) (bc ae))
   (ai (ax (i:=5) eU.nd rfl (Or.inl rfl) (bc (aa (pv 1) ae)))
   (ai (cO PassesOwn.never (ll (pv 5) (λ_=>rfl))
    (ai (ax (i:=6) eU.nd rfl (Or.inl rfl) (ly (pv 2) (oP plainAttrs_list slot_list_pop type_list_pop oQ (pv 5)) (bc ae) ⟨rfl,rfl,rfl,rfl⟩))
    (ak (dS PassesOwn.never rfl (be (pv 6)) (aD (i:=3) eU.nd rfl (Or.inl rfl))
     (ai (bt (dA plainAttrs_list PySem.F.slot_list_append PySem.F.type_list_append aO (pv 4) (aa (aK aG (pv 3) aj (λ_ _=>rfl)) ae)))
     (ak (bM (az gh (aK aG (pv 3) aj (λ_ _=>rfl)) bo (aF _)) (ak (bt (dA plainAttrs_list PySem.F.slot_list_append PySem.F.type_list_append aO (pv 5) (aa (aK aG (pv 3) aj (λ_ _=>rfl)) ae)))) aU)))))))
   (ak (aP (pv 4))))))),?_⟩
  refine λd hd=>?_;have z100:∀{n:Nat},n≤100→n<sizeLine:=λh=>aA (by omega);refine⟨_,rfl,t,rfl,⟨_,SqT.of (bi hd ht)⟩,mV (xs:=aX zs) (λi σ H'=>∃L kvs on,σ=[some (.ref t),some (.int f),some (.ref d),on,none,none,none]∧Mem H H' d L kvs (zs.take i) [])
   ⟨_,_,_,rfl,Mem.start hd⟩ (λi σ H' _ h=>?_) (λi x σ H' hx h=>?_) (λσ H' h=>?_)⟩
  ·obtain⟨_,_,_,_,m⟩:=h;exact SqT.of (m.same _ _ ht)
  ·obtain⟨L,kvs,on,rfl,m⟩:=h;obtain⟨z,gz,rfl⟩:=cw hx;have mz:=mem_of_getElem? gz;have ez:zs.take (i+1)=zs.take i++[z]:=by rw[take_succ,gz];rfl
   have hkl:kvs.length≤100:=by have:=m.len;rw[length_take]at this;omega
   refine⟨_,rfl,.inr (.inr (.inl ⟨rfl,.inl ⟨_,m.dict⟩⟩)),_,rfl,z.1,_,_,_,rfl,rfl,SqT.of (m.same _ _ (hA z mz)),at1 z.2,zero_le _,λq hq=>?_⟩;have m':=m.grow (af (o:=.lst []) hq);refine⟨d,kvs,.inl z.2.par,.ref q,rfl,rfl,m'.dict,z100 hkl,λv hv=>?_,λhn=>?_⟩
   ·rw[m.val]at hv
    by_cases h:z.2.par∈([]:List Int)∨ins (zs.take i) z.2.par=[]
    ·rw[if_pos h]at hv;cases hv
    ·rw[if_neg h]at hv;cases hv;have h2:ins (zs.take i) z.2.par≠[]:=λz=>h (.inr z);have a:=(m'.at' z.2.par (by simp) h2).1;refine⟨.inl ⟨rfl,_,SqL.of a⟩,_,rfl,_,_,_,rfl,rfl,a,?_,?_⟩
     ·refine z100 ?_;rw[bj];exact le_trans (Sublist.length_le (Sublist.trans List.filter_sublist (List.take_sublist _ _))) hl
     ·refine⟨L,kvs,_,rfl,?_⟩;rw[ez];exact m'.hit h2
   ·rw[m.val]at hn
    by_cases h:z.2.par∈([]:List Int)∨ins (zs.take i) z.2.par=[]
    ·have h2:ins (zs.take i) z.2.par=[]:=h.resolve_left (by simp);have hqd:q≠d:=λe=>by rw[e,m.dict]at hq;cases hq
     have a:upd (upd H' q (.lst [])) d (.dK (eA kvs (Sum.inl z.2.par:Key) (.ref q))) q=some (.lst []):=by rw[ah hqd];exact ac
     refine⟨.inl ⟨rfl,_,SqL.of a⟩,_,rfl,q,[],_,rfl,rfl,a,z100 (zero_le _),?_⟩;have fr:=m.fresh (z:=z) h2 hq;rw[←ez]at fr;exact⟨_,_,_,rfl,fr⟩
    ·rw[if_neg h]at hn;cases hn
  ·obtain⟨L,kvs,on,rfl,m⟩:=h;rw[bj,take_length]at m;refine⟨zero_le _,λpf hpf=>⟨_,rfl,aR (by simp),λpp hpp=>?_⟩⟩;have m1:=(m.grow (af (o:=.lst []) hpf)).grow (af (o:=.lst [.int f]) hpp);have hpf0:H pf=none:=m.same.free hpf;have hne:pp≠pf:=λe=>by rw[e,ac]at hpp;cases hpp
   have hpp0:H pp=none:=by rw[ah hne]at hpp;exact m.same.free hpp
   dsimp only[aQ,mR];refine cP (λσ H'=>∃L kvs dn fd pd on oh,σ=[some (.ref t),some (.int f),some (.ref d),on,some (.ref pf),some (.ref pp),oh]∧pd.length≤fd.length+1∧Mem H H' d L kvs zs dn∧TW.Walk (nds zs) f dn fd pd∧H' pf=some (.lst (bY fd))∧H' pp=some (.lst (pd.map V.int)))
    (λσ H'=>2*(zs.length-db H' pf)+db H' pp) ⟨L,kvs,[],[],[f],_,_,rfl,le_refl _,m1,TW.Walk.start _ _,by rw[ah (symm hne),ac];rfl,ac⟩ (λσ H' h=>?_) ?_
   ·obtain⟨L,kvs,dn,fd,pd,on,oh,rfl,hpl,m,wk,ef,ep⟩:=h;refine⟨_,rfl,_,.inl ⟨_,SqL.of ep,rfl⟩,?_⟩
    by_cases hpd:pd=[]
    ·subst hpd;exact bv ⟨_,rfl,k fd dn pf H' wk ef m.same⟩
    ·obtain⟨pd',x,rfl⟩:∃pd' x,pd=pd'++[x]:=⟨pd.dropLast,pd.getLast hpd,(List.dropLast_concat_getLast hpd).symm⟩;have et:(!((pd'++[x]).map V.int).isEmpty)=true:=by simp
     rw[if_pos et];have elast:((pd'++[x]).map V.int)[((pd'++[x]).map V.int).length-1]?=some (.int x):=by simp
     have edrop:((pd'++[x]).map V.int).dropLast=pd'.map V.int:=by simp
     refine⟨_,rfl,d,rfl,.inl ⟨_,Rd.of m.dict⟩,_,rfl,.inl ⟨rfl,_,SqL.of ep⟩,pp,_,.int x,rfl,rfl,ep,elast,zero_le _,λq hq=>?_⟩;rw[edrop]at hq⊢;have m2:=(m.other (o:=.lst (pd'.map V.int)) ep hpp0).grow (af (o:=.lst []) hq);have hqp:q≠pp:=λe=>by rw[e,ac]at hq;cases hq
     have hqf:q≠pf:=λe=>by rw[e,ah (symm hne),ef]at hq;cases hq
     refine lS m2 ac λhl Hc kvs' hs m3 ehl eh hsub hkeep hnil=>?_;have df:pf≠d:=λe=>by have:=m.dict;rw[←e,ef]at this;cases this
     have dp:pp≠d:=λe=>by have:=m.dict;rw[←e,ep]at this;cases this
     have ef3:Hc pf=some (.lst (bY fd)):=by rw[hkeep pf df,ah (symm hqf),ah (symm hne)];exact ef
     have ep3:Hc pp=some (.lst (pd'.map V.int)):=by rw[hkeep pp dp,ah (symm hqp),ac]
     have hlf:hl≠pf:=by
      by_cases h:hs=[]
      ·rw[hnil h];exact hqf
      ·exact jv ef3 ehl h
     have hlp:hl≠pp:=by
      by_cases h:hs=[]
      ·rw[hnil h];exact hqp
      ·exact jv ep3 ehl h
     have wk':=wk.turn;rw[←eh]at wk';have hlen:=wk'.len;rw[length_append,aV,aV]at hlen;rw[length_append,length_singleton]at hpl;refine⟨_,rfl,hl,rfl,⟨_,SqL.of ehl⟩,dU (xs:=aX hs) (λj σ H'=>∃on,σ=[some (.ref t),some (.int f),some (.ref d),on,some (.ref pf),some (.ref pp),some (.ref hl)]∧Mem H H' d L kvs' zs (x::dn)∧H' hl=some (.lst (aX hs)) ∧
      H' pf=some (.lst (bY (fd++nds (hs.take j))))∧H' pp=some (.lst ((pd'++TW.aq (nds (hs.take j))).map V.int))) ⟨_,rfl,m3,ehl,by rw[ef3];simp[nds],by rw[ep3];simp[nds,TW.aq]⟩
      (λj σ H' _ h=>?_) (λj y σ H' hy h=>?_) (λσ H' h=>?_)⟩
     ·obtain⟨_,_,_,e,_⟩:=h;exact SqL.of e
     ·obtain⟨on,rfl,m4,e1,e2,e3⟩:=h;obtain⟨z,gz,rfl⟩:=cw hy;have mz:=hsub z (mem_of_getElem? gz);have ez:hs.take (j+1)=hs.take j++[z]:=by rw[take_succ,gz];rfl
      have l1:(bY (fd++nds (hs.take j))).length≤100:=by
       unfold bY;rw[length_map,length_map,length_append,aV,length_take];omega
      have l2:((pd'++TW.aq (nds (hs.take j))).map V.int).length≤1000:=by
       have:=TW.bJ (nds (hs.take j));rw[aV,length_take]at this;rw[length_map,length_append];omega
      have g0:∀{Hx:Hp},Same H Hx→Hx z.1=some (.tup (vals z.2)):=λs=>s _ _ (hA z mz);have e4:bY (fd++nds (hs.take (j+1)))=bY (fd++nds (hs.take j))++[.int z.2.num]:=by rw[ez];simp[bY,nds]
      have m5:Mem H (upd H' pf (.lst (bY (fd++nds (hs.take j))++[.int z.2.num]))) d L kvs' zs (x::dn):=m4.other e2 hpf0;have e5:(upd H' pf (.lst (bY (fd++nds (hs.take j))++[.int z.2.num]))) hl=some (.lst (aX hs)):=by rw[ah hlf];exact e1
      have e6:(upd H' pf (.lst (bY (fd++nds (hs.take j))++[.int z.2.num]))) pp=some (.lst ((pd'++TW.aq (nds (hs.take j))).map V.int)):=by rw[ah hne];exact e3
      refine⟨_,rfl,.inl ⟨rfl,_,SqL.of e2⟩,_,rfl,z.1,_,_,_,rfl,rfl,SqT.of (g0 m4.same),at0 z.2,pf,_,_,rfl,rfl,e2,z100 l1,?_⟩;refine⟨_,rfl,z.1,_,_,_,rfl,rfl,SqT.of (g0 m5.same),at3 z.2,rfl,_,rfl,?_⟩;cases est:z.2.st with
      |none =>
       have e7:TW.aq (nds (hs.take (j+1)))=TW.aq (nds (hs.take j))++[z.2.num]:=by rw[ez];simp[TW.aq,nds,est]
       refine ck ⟨_,rfl,.inl ⟨rfl,_,SqL.of e6⟩,_,rfl,z.1,_,_,_,rfl,rfl,SqT.of (g0 m5.same),at0 z.2,pp,_,_,rfl,rfl,e6,aA l2,?_⟩;refine⟨_,rfl,m5.other e6 hpp0,by rw[ah hlp];exact e5,by rw[ah (symm hne),ac,e4],?_⟩;rw[ac,e7];simp
      |some i =>
       have e7:TW.aq (nds (hs.take (j+1)))=TW.aq (nds (hs.take j)):=by rw[ez];simp[TW.aq,nds,est]
       refine bv ⟨_,rfl,m5,e5,by rw[ac,e4],?_⟩;rw[e6,e7]
     ·obtain⟨on,rfl,m4,e1,e2,e3⟩:=h;rw[bj,take_length]at e2 e3;refine⟨⟨L,kvs',x::dn,_,_,on,_,rfl,?_,m4,wk',e2,e3⟩,?_⟩
      ·have:=TW.bJ (nds hs);rw[aV]at this;rw[length_append,length_append,aV];omega
      show 2*(zs.length-db H' pf)+db H' pp<_;rw[bX e2,bX e3,bX ef,bX ep];have:=TW.bJ (nds hs);rw[aV]at this;simp only[bY,length_map,length_append,aV,length_singleton];omega
   ·rintro σ H Q Q' mo ⟨v,e,k,tv,q⟩;exact⟨v,e,k,tv,mo _ _ q⟩
def fM:Sp:=λvs H Q _=>∃t zs,vs=[.ref t]∧H t=some (.tup (aX zs))∧At H zs∧zs.length≤100∧((nds zs).map (·.num)).Nodup∧∀d H',Same H H'→eT H' d zs→Q (.ref d) H'
theorem qG:FnScope ["tree"] ["tree"] (ag pB):=fsc
theorem pH{f:Addr}{fd:FuncData}(F:Fun K "by_number" "by_number" pB f fd)(T:Txt mg):FnOk P w K mg base CX0 1 f fd ["tree"] fM:=by
 refine F.ok qG (λvs H Q E h=>?_) (λcdv A outer s H vs Q E hr h=>?_)
 ·obtain⟨t,zs,rfl,_⟩:=h;rfl
 ·obtain⟨t,zs,rfl,ht,hA,hl,hnd,k⟩:=h;refine⟨_,ak (aP (bw (iR rfl) rfl T.dict boot_dict (aa (dC (N:=["node"]) (k:=1) (js:=[]) (g:=aQ 0) rfl (eJ rfl (by decide +kernel) (by decide +kernel) (by decide +kernel)) rfl (λi j x h=>by simp at h)
   (gc (pv 0)) (λs H fp=>aD (i:=0) (show(["node"]:List Str).Nodup by decide +kernel) rfl (Or.inl rfl) (Or.inr rfl))
   (λs H fp=>aW (aa (aK (r:=eu K) aG (pv 0) aj (λ_ _=>rfl)) (aa (pv 0) ae)))) ae))),?_⟩
  refine⟨_,rfl,t,rfl,⟨_,SqT.of ht⟩,λp hp=>?_⟩;refine iS (fr:=[]) zs.length (by omega) hp rfl (λi y H'=>∃q z,zs[i]?=some z∧y=.ref q∧q≠p∧H' q=some (.tup [.int z.2.num,.ref z.1])) (λi y H1 H2 h ex=>?_) (λi H' hi s1=>?_) (λH' s1=>?_) ?_ (λi H' x H2 hi s1 hpl hy=>?_) (λys H' s1 hp' hlen hys=>?_)
  ·obtain⟨q,z,e1,e2,e3,e4⟩:=h;exact⟨q,z,e1,e2,e3,ex q _ e3 e4⟩
  ·exact⟨_,_,SqT.of (s1 _ _ ht),eR (getElem?_eq_getElem hi)⟩
  ·exact⟨_,SqT.of (s1 _ _ ht),by rw[bj];exact le_refl _⟩
  ·rintro _ _ _ _ m ⟨v1,b1,p1,xs,i1,v2,c1,c2,c3,c4,v3,b3,hz,q⟩;exact⟨v1,b1,p1,xs,i1,v2,c1,c2,c3,c4,v3,b3,hz,λl hl=>m _ _ (q l hl)⟩
  ·obtain⟨rfl,hx⟩:=hy;obtain⟨z,gz,rfl⟩:=cw (hx _ (SqT.of (s1 _ _ ht)));have mz:=mem_of_getElem? gz;refine⟨rfl,_,rfl,z.1,_,_,_,rfl,rfl,SqT.of (s1 _ _ (hA z mz)),at0 z.2,_,rfl,le2,λq hq=>⟨af hq,q,z,gz,rfl,cr hpl hq,ac⟩⟩
  ·obtain⟨as,e1,e2,e3⟩:=nK (g:=λz=>[.int z.2.num,.ref z.1]) hlen hys;have e4:as.length=zs.length:=by rw[←e1,length_map]
   have e5:(as.map λa=>((Sum.inl a.2.2.num:Key),V.ref a.2.1))=bq zs:=by rw[←e1];unfold bq;rw[map_map];rfl
   refine⟨p,as.map λa=>(a.1,(Sum.inl a.2.2.num:Key),V.ref a.2.1),rfl,?_,?_,?_,?_,λd o hd=>?_⟩
   ·rw[hp',e2,map_map,map_map,map_map];rfl
   ·intro z hz;obtain⟨a,ha,rfl⟩:=mem_map.mp hz;exact(e3 a ha).2
   ·rw[length_map];omega
   ·rw[map_map];have:(as.map ((λx:Addr×Key×V=>x.2.1)∘λa=>(a.1,(Sum.inl a.2.2.num:Key),V.ref a.2.1)))=((nds zs).map (·.num)).map (Sum.inl:Int→Key):=by
     rw[←e1];unfold nds;simp only[map_map];rfl
    rw[this];unfold Nodup at hnd⊢;rw[pairwise_map];exact hnd.imp λh e=>h (by injection e)
   ·refine k d _ (s1.trans (af hd)) ⟨o,?_⟩;rw[ac,map_map];exact congrArg (λx=>some (HO.frz o (.dK x))) e5
abbrev ma(mg:Str→Option Value)(base:Heap)(C:Addr):Prop:=PyProof.Rows.OwnCls "NoNode" C bmV "ValueError.__new__" mg base
def jz(C:Addr):Sp:=λvs H Q E=>∃d k zs,vs=[.ref d,.int k]∧eT H d zs∧((nds zs).map (·.num)).Nodup∧0≤k∧k≤60∧(∀z∈zs,z.2.num=k→Q (.ref z.1) H)∧((∀z∈zs,z.2.num≠k)→E (.ref C) none H)
theorem qH:FnScope ["nodes","number"] ["nodes","number"] (ag pC):=fsc
theorem pI{f C:Addr}{fd:FuncData}(F:Fun K "node_of" "node_of" pC f fd)(O:ma mg base C):FnOk P w K mg base (CX1 P w) 1 f fd ["nodes","number"] (jz C):=by
 refine F.okX qH (λvs H Q E h=>?_) (λcdv A outer s H vs Q E hr h=>?_)
 ·obtain⟨d,k,zs,rfl,_⟩:=h;rfl
 ·obtain⟨d,k,zs,rfl,hd,hnd,h0,h1,q1,q2⟩:=h;refine⟨_,ai (bM (oC (jU (bQ hr) (pv 1) (pv 0))) (ak (lD og O hr.hd rfl (qB (pv 1) (by decide +kernel)))) aU) (ak (aP (aZ (bQ hr) (pv 0) (pv 1) (λ_ _=>rfl)))),?_⟩
  by_cases hk:∀z∈zs,z.2.num≠k
  ·refine⟨_,rfl,_,rfl,d,_,rfl,hd.not hk,_,rfl,?_⟩;exact ck ⟨_,rfl,k,rfl,h0,h1,λy=>⟨aR (show 1≤1000 by decide),q2 hk⟩⟩
  ·obtain⟨z,hz,e⟩:∃z∈zs,z.2.num=k:=by
    by_cases h:∃z∈zs,z.2.num=k
    ·exact h
    ·exact absurd (λz hz e=>h ⟨z,hz,e⟩) hk
   subst e;refine⟨_,rfl,_,rfl,d,_,rfl,hd.get hnd hz,_,rfl,?_⟩;exact bv ⟨_,rfl,_,rfl,d,_,rfl,hd.get hnd hz,q1 z hz rfl⟩
def jA(C:Addr):Sp:=λvs H Q E=>∃t k zs,vs=[.ref t,.int k]∧Tre H t zs∧0≤k∧k≤60 ∧
 ((k=0∨∃z∈zs,z.2.num=k)→∀(ms:List Int)(l:Addr)(H':Hp),Same H H'→ms.Pairwise (λa b:Int=>a<b)→ms.length≤zs.length→(∀x,x∈ms↔∃n∈nds zs,n.num=x∧TW.Reach (nds zs) k n)→H' l=some (.lst (ms.map V.int))→Q (.ref l) H') ∧
 (k≠0→(∀z∈zs,z.2.num≠k)→∀H',Same H H'→E (.ref C) none H')
theorem qI:FnScope ["tree","number"] ["tree","number"] (ag pF):=fsc
theorem pJ{f C:Addr}{fd:FuncData}(F:Fun K "below" "below" pF f fd)(T:Txt mg)(CB:Has P w K mg base 1 "by_number" ["tree"] fM)(CN:kE P w K mg base 1 "node_of" ["nodes","number"] (jz C))(CI:Has P w K mg base 1 "numbers_inside" ["nodes","folder"] jy):
  FnOk P w K mg base (CX1 P w) 2 f fd ["tree","number"] (jA C):=by
 obtain⟨fB,fdB,GB,mB,kB,bB⟩:=CB;obtain⟨fN,fdN,GN,mN,kN,bN⟩:=CN;obtain⟨fI,fdI,GI,mI,kI,bI⟩:=CI;obtain⟨tt,hT⟩:=T.top;refine F.okX qI (λvs H Q E h=>?_) (λcdv A outer s H vs Q E hr h=>?_)
 ·obtain⟨t,k,zs,rfl,_⟩:=h;rfl
 ·obtain⟨t,k,zs,rfl,tr,h0,h1,q1,q2⟩:=h;have hnd:=bb tr.tr;have hl:=tr.len;refine⟨_,ai (bM (az cQ (pv 1) (gb (v:=.int 0) rfl hT ⟨_,rfl⟩) (aF _))
    (ak (bt (al (E:=E) GN hr rfl mN kN bN .nil (qz og) (aa (al GB hr rfl mB kB bB .nil aL (aa (pv 0) ae)) (aa (pv 1) ae))))) aU)
   (ak (aP (ap dk rfl T.sorted boot_sorted (aa (al GI hr rfl mI kI bI .nil aL (aa (pv 0) (aa (pv 1) ae))) ae)))),?_⟩
  have main:∀H1,Same H H1→(k=0∨∃z∈zs,z.2.num=k)→qe (tCB (λxs H Q=>∃l,∃ns:List Int,xs=[.ref l]∧H l=some (.lst (ns.map V.int))∧ns.Nodup∧ns.length<64∧∀ms:List Int,ms.Perm ns→ms.Pairwise (λa b=>a<b)→∀p,H p=none→Q (.ref p) (upd H p (.lst (ms.map V.int))))
    (dy (nZ jy [] E0 (dy (mQ 0) (dy (mQ 1) iE))) iE)) {nx:=λ_ H'=>Q .non H',rt:=Q} [some (.ref t),some (.int k)] H1:=by
   intro H1 s1 hk;refine⟨_,rfl,_,rfl,t,k,zs,rfl,s1 _ _ tr.tup,tr.nod.same s1,by omega,λfd dn l H2 wk el s2=>?_⟩;have hfl:=wk.len;rw[aV]at hfl;refine⟨l,fd.map (λn:Nd=>n.num),rfl,(show H2 l=some (.lst ((fd.map λn:Nd=>n.num).map V.int))from el),kG tr.tr wk,by rw[length_map];omega,λms hp hs p hpn=>?_⟩;refine q1 hk ms p _ ((s1.trans s2).trans (af hpn)) hs (by rw[hp.length_eq,length_map];exact hfl) (λx=>?_) ac;rw[hp.mem_iff,mem_map];constructor
   ·rintro⟨n,hn,e⟩;have:=(wk.mem n).mp hn;exact⟨n,this.mem,e,this⟩
   ·rintro⟨n,_,e,hr⟩;exact⟨n,(wk.mem n).mpr hr,e⟩
  refine⟨_,rfl,rfl,_,rfl,?_⟩
  by_cases hk0:k=0
  ·have:decide (V.int k=V.int 0)=true:=by simp[hk0]
   rw[this];exact bv (main H (Same.refl _) (.inl hk0))
  ·have:decide (V.int k=V.int 0)=false:=by simp[hk0]
   rw[this];refine ck ?_;refine⟨_,rfl,t,zs,rfl,tr.tup,tr.nod,by omega,hnd,λd H1 s1 nd1=>?_⟩;refine⟨_,rfl,d,k,zs,rfl,nd1,hnd,h0,h1,λz hz e=>main H1 s1 (.inr ⟨z,hz,e⟩),λhk=>q2 hk0 hk H1 s1⟩
def gG:Sp:=λvs H Q _=>∃t zs,vs=[.ref t]∧Tre H t zs∧∀d as H',Same H H'→H d=none→Book H' d as zs→H' d=some (.dK (bn as))→Q (.ref d) H'
theorem pK:FnScope ["_law_tree_here"] ["_law_tree_here"] (ag lZ):=fsc
theorem nN{f:Addr}{fd:FuncData}(F:Fun K "_law_book" "_law_book" lZ f fd)(T:Txt mg):FnOk P w K mg base CX0 1 f fd ["_law_tree_here"] gG:=by
 refine F.ok pK (λvs H Q E h=>?_) (λcdv A outer s H vs Q E hr h=>?_)
 ·obtain⟨t,zs,rfl,_⟩:=h;rfl
 ·obtain⟨t,zs,rfl,tr,k⟩:=h;have hnd:=bb tr.tr;have hl:=tr.len;have ht:=tr.tup;have hA:=tr.nod;refine⟨_,ak (aP (bw (ie rfl) rfl T.dict boot_dict (aa (dC (N:=["_law_node"]) (k:=1) (js:=[]) (g:=aQ 0) rfl (eJ rfl (by decide +kernel) (by decide +kernel) (by decide +kernel)) rfl (λi j x h=>by simp at h)
   (gc (pv 0)) (λs H fp=>aD (i:=0) (show(["_law_node"]:List Str).Nodup by decide +kernel) rfl (Or.inl rfl) (Or.inr rfl))
   (λs H fp=>aW (aa (aK (r:=eu K) aG (pv 0) aj (λ_ _=>rfl)) (aa (cT (r:=mZ K) gq (pv 0) (cS aj) gp) ae)))) ae))),?_⟩
  refine⟨_,rfl,t,rfl,⟨_,SqT.of ht⟩,λp hp=>?_⟩;refine iS (fr:=[]) zs.length (by omega) hp rfl (λi y H'=>∃q t' z,zs[i]?=some z∧y=.ref q∧q≠p∧t'≠p∧H' q=some (.tup [.int z.2.num,.ref t'])∧H' t'=some (.tup (ci z.2))) (λi y H1 H2 h ex=>?_) (λi H' hi s1=>?_) (λH' s1=>?_) ?_ (λi H' x H2 hi s1 hpl hy=>?_) (λys H' s1 hp' hlen hys=>?_)
  ·obtain⟨q,t',z,e1,e2,e3,e4,e5,e6⟩:=h;exact⟨q,t',z,e1,e2,e3,e4,ex q _ e3 e5,ex t' _ e4 e6⟩
  ·exact⟨_,_,SqT.of (s1 _ _ ht),eR (getElem?_eq_getElem hi)⟩
  ·exact⟨_,SqT.of (s1 _ _ ht),by rw[bj];exact le_refl _⟩
  ·rintro _ _ _ _ m ⟨v1,b1,p1,xs,i1,v2,c1,c2,c3,c4,v3,b3,i3,d0,a3,xs3,d1,d2,d3,q⟩;refine⟨v1,b1,p1,xs,i1,v2,c1,c2,c3,c4,v3,b3,i3,d0,a3,xs3,d1,d2,d3,λl hl=>?_⟩;obtain⟨hz',q'⟩:=q l hl;exact⟨hz',λl' hl'=>m _ _ (q' l' hl')⟩
  ·obtain⟨rfl,hx⟩:=hy;obtain⟨z,gz,rfl⟩:=cw (hx _ (SqT.of (s1 _ _ ht)));have mz:=mem_of_getElem? gz;have hz1:=s1 _ _ (hA z mz);have ecut:gU (vals z.2) (some 1) none=ci z.2:=rfl;refine⟨rfl,_,rfl,z.1,_,_,_,rfl,rfl,SqT.of hz1,at0 z.2,_,rfl,_,rfl,z.1,_,rfl,SqT.of hz1,(by intro h;exact absurd h.1 (show ¬HT.sIx 4 0 (some 1)=0 by decide)),λt' ht'=>?_⟩;rw[ecut];have s2:=af (o:=.tup (ci z.2)) ht';have hpl2:∃ys,upd H2 t' (.tup (ci z.2)) p=some (.lst ys):=let⟨ys,e⟩:=hpl;⟨ys,s2 _ _ e⟩;refine⟨le2,λq hq=>⟨s2.trans (af hq),q,t',z,gz,rfl,cr hpl2 hq,cr hpl ht',ac,bi hq ac⟩⟩
  ·obtain⟨as,e1,e2,e3⟩:∃as:List ((Addr×Addr)×(Addr×Nd)),as.map (·.2)=zs∧ys=(as.map (·.1.1)).map V.ref∧∀a∈as,H' a.1.1=some (.tup [.int a.2.2.num,.ref a.1.2])∧H' a.1.2=some (.tup (ci a.2.2)):=by
    clear hp';have main:∀(ys:List V)(xs:ZN),ys.length=xs.length→(∀(i:Nat) y,ys[i]?=some y→∃q t' z,xs[i]?=some z∧y=.ref q∧q≠p∧t'≠p∧H' q=some (.tup [.int z.2.num,.ref t'])∧H' t'=some (.tup (ci z.2))) →
      ∃as:List ((Addr×Addr)×(Addr×Nd)),as.map (·.2)=xs∧ys=(as.map (·.1.1)).map V.ref∧∀a∈as,H' a.1.1=some (.tup [.int a.2.2.num,.ref a.1.2])∧H' a.1.2=some (.tup (ci a.2.2)):=by
     intro ys
     induction ys with
     |nil =>
      intro xs hl _;have:xs=[]:=length_eq_zero_iff.mp hl.symm;subst this;exact⟨[],rfl,rfl,by simp⟩
     |cons y ys ih =>
      intro xs hl h;cases xs with
      |nil=>simp at hl
      |cons x xs =>
       obtain⟨as,e1,e2,e3⟩:=ih xs (by simpa using hl) λi y hy=>by simpa using h (i+1) y (by simpa using hy)
       obtain⟨q,t',z,f1,f2,f3,f4,f5,f6⟩:=h 0 y rfl;have:x=z:=by simpa using f1
       subst this;refine⟨((q,t'),x)::as,by simp[e1],by simp[e2,f2],λa ha=>?_⟩;rcases mem_cons.mp ha with rfl|ha
       ·exact⟨f5,f6⟩
       ·exact e3 a ha
    exact main ys zs hlen hys
   have hal:as.length=zs.length:=by rw[←e1,length_map]
   refine⟨p,as.map λa=>(a.1.1,(Sum.inl a.2.2.num:Key),V.ref a.1.2),rfl,?_,?_,?_,?_,λd hd=>?_⟩
   ·rw[hp',e2,map_map,map_map,map_map];rfl
   ·intro z hz;obtain⟨a,ha,rfl⟩:=mem_map.mp hz;exact(e3 a ha).1
   ·rw[length_map];omega
   ·rw[map_map];have:(as.map ((λx:Addr×Key×V=>x.2.1)∘λa=>(a.1.1,(Sum.inl a.2.2.num:Key),V.ref a.1.2)))=((nds zs).map (·.num)).map (Sum.inl:Int→Key):=by
     rw[←e1];unfold nds;simp only[map_map];rfl
    rw[this];unfold Nodup at hnd⊢;rw[pairwise_map];exact hnd.imp λh e=>h (by injection e)
   ·have sd:=af (o:=.dK ((as.map λa=>(a.1.1,(Sum.inl a.2.2.num:Key),V.ref a.1.2)).map (·.2))) hd;have ed:upd H' d (.dK ((as.map λa=>(a.1.1,(Sum.inl a.2.2.num:Key),V.ref a.1.2)).map (·.2))) d=some (.dK (bn (as.map λa=>(a.1.2,a.2)))):=by
     rw[ac];refine congrArg (λx=>some (HO.dK x)) ?_;unfold bn;simp only[map_map];rfl
    refine k d (as.map λa=>(a.1.2,a.2)) _ (s1.trans sd) (s1.free hd) ⟨.inl ed,by rw[map_map];exact e1,λa ha=>?_⟩ ed;obtain⟨b,hb,rfl⟩:=mem_map.mp ha;exact sd _ _ (e3 b hb).2
theorem om:FnScope ["_law_book_here","_law_number","_law_goal"] ["_law_book_here","_law_number","_law_goal"] (ag iY):=fsc
end
end TK
namespace TB
open PySem SetTable
section
variable{prog:Program}{w:World}{A:Around}{E:Value→Shared→Prop}{s:Shared}
end
section
variable{prog:Program}{w:World}{A:Around}{R:Result→Shared→Prop}{I:Addr}{fp wr:List Addr}{G:Array GenState→Array GenState→Prop}{n:Nat}{P:Nat→Value→Prop}{St:Nat→Shared→Prop}
end
section
variable{prog:Program}{w:World}{A:Around}{E:Value→Shared→Prop}{s:Shared}
end
end TB
namespace SRT
open PySem PySem.W PyProof.Rows
section
variable{prog:Program}{w:World}{A:Around}{E:Value→Shared→Prop}{s:Shared}
end
end SRT
namespace L2
open PySem PySem.Spec PyProof.Rows
section
variable{X:Cx}
end
end L2
namespace TB
open PySem SetTable
section
variable{prog:Program}{w:World}{A:Around}{E:Value→Shared→Prop}{s:Shared}
end
end TB
namespace L2
open PySem PySem.Spec PyProof.Rows
section
variable{X:Cx}
end
end L2
namespace TW
section
variable{S:Type}
end
end TW
namespace TW
section
variable{S:Type}
end
end TW
namespace L2
open PySem PySem.Spec PyProof.Rows
theorem md{α:Type}{k:Nat}{js:List Nat}{J:It}{g:TG}{te:TE}{σ:St}{H1:Hp}{Q:VK}{p:Addr}{fr:List (Option V)}(zs:List α)(val:α→V)(hn:zs.length≤1000)(hp:H1 p=none)(S:Src J H1 (zs.map val))(hfr:∃σ0:St,σ0.length=k∧bf k js σ=σ0++fr)(R:α→V→Hp→Prop)(hR:∀z y H H',R z y H→Ext p H H'→R z y H')(elt:∀z (σ0:St) H' (kk:St→VK),σ0.length=k→z∈zs→Same H1 H'→(∃ys,H' p=some (.lst ys))→(∀σ2 y H4,(∃σ0':St,σ0'.length=k∧σ2=σ0'++fr)→Same H' H4→R z y H4→kk σ2 y H4)→g (val z) (σ0++fr) H' λσ2 H3=>te σ2 H3 (kk σ2))(fin:∀ys H',Same H1 H'→H' p=some (.lst ys)→Paired (λz y=>R z y H') zs ys→Q (.ref p) H'):LcW k js g te σ Q J H1 p:=by
 have grow:∀{as:List α}{ys:List V}{H H':Hp},Ext p H H'→Paired (λz y=>R z y H) as ys→Paired (λz y=>R z y H') as ys:=λex r=>Paired.mapP r λa b h=>hR a b _ _ h ex;have hlen:∀{as:List α}{ys:List V}{H:Hp},Paired (λz y=>R z y H) as ys→ys.length=as.length:=λr=>(Paired.length r).symm;refine⟨λi m ys σ' H'=>m=zs.length-i∧i≤zs.length∧(∃σ0:St,σ0.length=k∧σ'=σ0++fr)∧Same H1 H'∧H' p=some (.lst ys)∧Paired (λz y=>R z y H') (zs.take i) ys,⟨zs.length,by simp,zero_le _,hfr,af hp,ac,.nil⟩,?_⟩;rintro i m ys σ' H' ⟨rfl,hi,⟨σ0,hσ0,rfl⟩,s1,hl,hys⟩
 by_cases hlt:i<zs.length
 ·have hlt':i<(zs.map val).length:=by rw[length_map];exact hlt
  refine .inr ⟨S.go i H' hlt' s1,?_,λx H2 hy=>?_⟩
  ·have h1:ys.length≤zs.length:=by
    rw[hlen hys,length_take];omega
   exact lt_of_le_of_lt h1 (aA hn)
  ·obtain⟨rfl,hx⟩:=S.yl i H' x H2 hlt' s1 hy;have gz:zs[i]?=some zs[i]:=getElem?_eq_getElem hlt;have mz:=mem_of_getElem? gz;rw[getElem?_map,gz]at hx;have ex:val zs[i]=x:=Option.some.inj hx;have et:zs.take (i+1)=zs.take i++[zs[i]]:=cA gz;subst ex;generalize zs[i]=z at gz mz et⊢;refine elt z σ0 H2 _ hσ0 mz s1 ⟨ys,hl⟩ λσ2 y H5 hσ2 s5 r5=>⟨s5 _ _ hl,zs.length-(i+1),by omega,rfl,hlt,hσ2,aE hp (s1.trans s5),ac,?_⟩;rw[et];exact Paired.snoc (grow ((Ext.of s5).trans Ext.upd) hys) (hR _ _ _ _ r5 Ext.upd)
 ·have e:i=zs.length:=by omega
  subst e;have st:=S.stop H' s1;rw[length_map]at st;refine .inl ⟨st,fin ys H' s1 hl ?_⟩;rw[take_length]at hys;exact hys
end L2
namespace TK
open PySem L2
instance decNd:DecidableEq (TW.Nd Str):=λa b=>Classical.propDecidable _
end TK
namespace L2
open PySem PySem.Spec PyProof.Rows
section
variable{X:Cx}
end
end L2
namespace TW
section
variable{S:Type}
end
end TW
namespace L2
open PySem PySem.Spec PyProof.Rows
end L2
namespace TK
open PySem L2
end TK
namespace L2
open PySem PySem.Spec PyProof.Rows
section
variable{X:Cx}{tg:Expr}
end
end L2
namespace L2
open PySem PyProof PyProof.Rows
section
variable{X:Cx}{pos:Pos}
end
end L2
namespace L2
open PySem PySem.Spec PyProof.Rows
def nO(CX:CXT)(P:Program)(w:World)(K:PySem.W.Frag)(mg:Str→Option Value)(base:Heap)(N:List Str)(qual:Str)(scope:Scope)(f:Addr)(cd:Value)(cl:List (Str×Addr))(A:Around)(outer:List Env)(s:Shared)(H:Hp)(E:XK):Cx where
 prog:=P
 w:=w
 K:=K
 mg:=mg
 base:=base
 A:=A.deeper (envX qual scope s.heap.objs.size f cd cl)
 N:=N
 s₀:=s
 H₀:=H
 env:=envX qual scope s.heap.objs.size f cd cl
 outer:=outer
 stack:=envX qual scope s.heap.objs.size f cd cl::outer
 ex:=[]
 calm:=true
 fn:=λ_=>false
 pn:=[]
 xe:=λe s'=>wpAny (model P w) (A.deeper (envX qual scope s.heap.objs.size f cd cl)) (leaving (envX qual scope s.heap.objs.size f cd cl) e) (λ_ s''=>CX outer H s E e s'') (λe' s''=>CX outer H s E e' s'') s'
structure LaScope(ps:List Str)(scope:Scope)(cl:List (Str×Addr)):Prop where
 kind:scope.kind=.function
 co:scope.isCoroutine=false
 gen:scope.isGenerator=false
 nocell:∀x∈scope.names,x.2≠.cell
 par:∀x∈ps,scope.names.lookup x=some .local
 nd:ps.Nodup
 has:∀x,scope.names.lookup x=some .free→∃c,cl.lookup x=some c
 inj:∀x y c,cl.lookup x=some c→cl.lookup y=some c→x=y
structure Capt(base:Heap)(scope:Scope)(cl:List (Str×Addr))(fs:List Str)(fv:List V):Prop where
 cell:∀x c,cl.lookup x=some c→∃v,base.IsCell c v
 len:fs.length=fv.length
 val:∀(i:Nat) x v,fs[i]?=some x→fv[i]?=some v→scope.names.lookup x=some .free∧∃c u,cl.lookup x=some c∧base.IsCell c (some u)∧au v u
theorem jB:∀(ps:List Str)(us:List Value),((ps.zip us).map (·.1)).Sublist ps
 |[],_=>by simp
 |_::_,[]=>by simp
 |p::ps,u::us=>by rw[List.zip_cons_cons,map_cons];exact(jB ps us).cons₂ _
theorem ip{ps:List Str}{us:List Value}{i:Nat}{x:Str}{u:Value}(nd:ps.Nodup)(h1:ps[i]?=some x)(h2:us[i]?=some u):(ps.zip us).reverse.lookup x=some u:=by
 have mem:(x,u)∈(ps.zip us).reverse:=by
  rw[List.mem_reverse];exact mem_of_getElem? (i:=i) (by rw[List.getElem?_zip_eq_some];exact⟨h1,h2⟩)
 have nd2:((ps.zip us).reverse.map (·.1)).Nodup:=by
  rw[List.map_reverse];unfold Nodup;rw[List.pairwise_reverse];exact(nd.sublist (jB ps us)).imp λh=>symm h
 generalize (ps.zip us).reverse=l at mem nd2
 induction l with
 |nil=>cases mem
 |cons a r ih =>
  obtain⟨y,w⟩:=a;rw[map_cons,nodup_cons]at nd2;rcases mem_cons.mp mem with e|e
  ·cases e;rw[List.lookup_cons,beq_self_eq_true]
  ·have ne:x≠y:=λz=>nd2.1 (by rw[←z];exact mem_map.mpr ⟨(x,u),e,rfl⟩);rw[List.lookup_cons,show(x==y)=false by simpa using ne]
   exact ih e nd2.2
section
variable{CX:CXT}{P:Program}{w:World}{K:PySem.W.Frag}{mg:Str→Option Value}{base:Heap}{k:Nat}{f c:Addr}{name qual:Str}{params:Arguments}{body:Expr}{scope:Scope}{cl:List (Str×Addr)}{pm ctv:Value}{ps fs:List Str}{fv:List V}{sp:Sp}
theorem mf{A:Around}{outer:List Env}{s:Shared}{H:Hp}{E:XK}{us:List Value}{vs:List V}{h₁:Heap}{tk:Nat}(S:LaScope ps scope cl)(C:Capt base scope cl fs fv)(hd:A.handled=none)(e0:Env0 P w K mg base A outer s H)(hl:vs.length=ps.length)(r:am vs us)(hns:h₁.Ns s.heap.objs.size (λx=>(ps.zip us).reverse.lookup x))(hk:∀b o,s.heap.get? b=some o→h₁.get? b=some o):
  Inv (nO CX P w K mg base (ps++fs) qual scope f (.ref c) cl A outer s H E) [] (vs.map some++fv.map some) H {s with heap:=h₁,toks:=tk}:=by
 have noA:∀b:Addr,b∉(nO CX P w K mg base (ps++fs) qual scope f (.ref c) cl A outer s H E).ex:=λb z=>absurd (show b∈([]:List Addr)from z) (by simp);have cellB:∀c v,base.IsCell c v→h₁.IsCell c v∧H c=none∧c≠s.heap.objs.size:=λc v ⟨o,e,d⟩=>⟨⟨o,hk c o (e0.bs _ _ e).1,d⟩,(e0.bs _ _ e).2,ne_of_lt (lt_size (e0.bs _ _ e).1)⟩;refine⟨⟨e0.mod,S.kind,rfl,rfl,le_refl _,S.inj,λy hy=>?_,λy c h _=>absurd h (by simp[nO]),λ_=>hd,Around.frames_deeper e0.frames,.inr ⟨rfl,rfl⟩,λb z=>absurd z (noA b),e0.bs,e0.bsz,λb _ _=>noA b,λb z=>absurd z (noA b),e0.funs,e0.frf⟩,
  rfl,e0.bare,Un.kept hk,⟨_,hns,λi y v h1 h2 h3=>?_⟩,λy c h=>?_,e0.hok.fresh (le_refl _),λy c h=>?_,λp hp=>absurd (show p∈([]:List (Addr×Obj))from hp) (by simp),e0.hok.kept hk,?_⟩
 ·have hy:scope.names.lookup y=some .cell∨scope.names.lookup y=some .free:=hy;rcases hy with hy|hy
  ·exact absurd rfl (S.nocell _ (PySem.mem_of_lookup hy))
  ·exact S.has y hy
 ·have h1:(ps++fs)[i]?=some y:=h1
  by_cases hi:i<ps.length
  ·rw[getElem?_append_left hi]at h1;rw[getElem?_append_left (by rw[length_map];omega),getElem?_map]at h2;cases e:vs[i]? with
   |none=>rw[e]at h2;cases h2
   |some a =>
    rw[e]at h2;cases h2;obtain⟨u,hu,rv⟩:=r.get e;exact⟨u,rv,.inl ⟨S.par y (mem_of_getElem? h1),ip S.nd h1 hu⟩⟩
  ·rw[getElem?_append_right (by omega)]at h1;rw[getElem?_append_right (by rw[length_map];omega),length_map,hl,getElem?_map]at h2;cases e:fv[i-ps.length]? with
   |none=>rw[e]at h2;cases h2
   |some a =>
    rw[e]at h2;cases h2;obtain⟨g1,cc,u,g2,g3,rv⟩:=C.val _ _ _ h1 e;exact⟨u,rv,.inr ⟨.inr g1,cc,g2,(cellB _ _ g3).1⟩⟩
 ·obtain⟨v,hv⟩:=C.cell y c h;exact⟨v,(cellB _ _ hv).1⟩
 ·obtain⟨v,hv⟩:=C.cell y c h;exact(cellB _ _ hv).2.1
 ·show _=(ps++fs).length;rw[length_append,length_append,length_map,length_map,hl,C.len]
end
def cdφ(c:Addr)(qual:Str)(h:Heap):Prop:=h.CodeRec (.ref c) qual
theorem iq{c:Addr}{qual:Str}:∀h1 h2:Heap,cdφ c qual h1→(∀o,h1.get? c=some o→h2.get? c=some o)→cdφ c qual h2:=λh1 h2 h k=>by
 obtain⟨c',oc,vs,tq,e1,e2,e3⟩:=h;cases e1;exact⟨c,oc,vs,tq,rfl,k _ e2,e3⟩
theorem mh{c:Addr}{qual:Str}{h:Heap}(x:cdφ c qual h):∃o,h.get? c=some o:=by
 obtain⟨c',oc,vs,tq,e1,e2,e3⟩:=x;cases e1;exact⟨oc,e2⟩
def dw(H:Hp)(P:Addr)(qual:Str):Prop:=∃ps:Array Value,H P=some (.tbl ps)∧TriplesOk ps.toList∧∀pos cv,codeAmong pos ps.toList=some cv→∃c,cv=.ref c∧H c=some (.ext (cdφ c qual))
theorem dw.start{H:Hp}{P:Addr}{qual:Str}(h:H P=some (.tbl #[])):dw H P qual:=⟨#[],h,trivial,λpos cv e=>by cases e⟩
theorem fO{pos:Pos}{a b:Int}{t u:Tok}{v cv:Value}:∀{l:List Value},TriplesOk l→codeAmong pos (l++[.int a t,.int b u,v])=some cv→codeAmong pos l=some cv∨cv=v
 |[],_,h=>by
  have h:(if a==pos.line&&b==pos.col then some v else codeAmong pos [])=some cv:=h
  split at h
  ·exact .inr (Option.some.inj h).symm
  ·cases h
 |.int x t1::.int y t2::c::rest,ht,h=>by
  have h:(if x==pos.line&&y==pos.col then some c else codeAmong pos (rest++[.int a t,.int b u,v]))=some cv:=h
  show(if x==pos.line&&y==pos.col then some c else codeAmong pos rest)=some cv∨cv=v
  split at h
  ·rename_i e;rw[if_pos e];exact .inl h
  ·rename_i e;rw[if_neg e];exact fO (show TriplesOk rest from ht) h
theorem dF{a b:Int}{t u:Tok}{v:Value}:∀{l:List Value},TriplesOk l→TriplesOk (l++[.int a t,.int b u,v])
 |[],_=>trivial
 |.int x t1::.int y t2::c::rest,ht=>dF (l:=rest) ht
def gH(P:Addr)(H H':Hp):Prop:=∀b o,b≠P→H b=some o→H' b=some o
theorem gH.refl(P:Addr)(H:Hp):gH P H H:=λ_ _ _ h=>h
def BmB(base:Heap)(mg:Str→Option Value):Prop:=∃bm o,mg "__builtins__"=some (.ref bm)∧bm≠builtinsNs∧base.get? bm=some o∧o.cls=.type "module"∧o.dict=some builtinsNs∧o.data=.plain
section
variable{X:Cx}{pins:List (Addr×Obj)}{σ:St}{H:Hp}{s:Shared}
theorem Inv.tab{P:Addr}{ps more:Array Value}{h':Heap}{t':Nat}(I:Inv X pins σ H s)(hP:H P=some (.tbl ps))(k:∀b o,b≠P→s.heap.get? b=some o→h'.get? b=some o)(hP':h'.get? P=some {cls:=.none,data:=.fields (ps++more)}):Inv X pins σ (upd H P (.tbl (ps++more))) {s with heap:=h',toks:=t'}:=by
 have ne:∀b,H b=none→b≠P:=λb n z=>by rw[z,hP]at n;cases n
 refine I.un (t':=t') ⟨λb o e n _ _=>k b o (ne b n) e,λb o e n _ _=>⟨o.slots,k b o (ne b n) e⟩,λb o e n _=>by rw[ah (ne b n)];exact n,λb o e _=>?_,λb xs e=>?_,λb o u e=>?_,λb qs e=>?_⟩ λb u e=>?_
 ·by_cases hb:b=P
  ·rw[hb];exact⟨_,hP'⟩
  ·exact⟨o,k b o hb e⟩
 ·rw[ah (λz=>by rw[z,hP]at e;cases e)];exact e
 ·rw[ah (λz=>by rw[z,hP]at e;cases e)];exact e
 ·by_cases hb:b=P
  ·subst hb;rw[hP]at e;cases e;exact⟨more,ac⟩
  ·exact⟨#[],by rw[ah hb,e];simp⟩
 ·by_cases hb:b=P
  ·subst hb;rw[ac]at e;cases e;exact hP'
  ·rw[ah hb]at e;refine(I.hok b u e).stay (λc v hc q=>k c v (λz=>?_) q) (λc q=>?_) λc xs q=>?_
   ·rcases hc with hc|hc
    ·exact hb (hc.symm.trans z)
    ·rw[z,hP]at hc;cases hc
   ·rw[ah (λz=>by rw[z,hP]at q;cases q)];exact q
   ·rw[ah (λz=>by rw[z,hP]at q;cases q)];exact q
theorem nP{c0 P:Addr}{params:Arguments}{body:Expr}{scope:Scope}{pos:Pos}{cl:List (Str×Addr)}{Q:Value→Shared→Prop}{E:Value→Shared→Prop}(I:Inv X pins σ H s)(C0:CodeHd X.base c0 P)(hc:X.env.code=.ref c0)(Bm:BmB X.base X.mg)(T:dw H P (X.env.qual++"<lambda>"))(hdef:defaultsOf params X.env=([],[]))(hcl:closureFor scope X.env=pure cl)(h:∀f c pm ctv H' s',gH P H H'→dw H' P (X.env.qual++"<lambda>")→H' c=some (.ext (cdφ c (X.env.qual++"<lambda>")))→Inv X pins σ H' s'→s'.heap.get? f=some (kla_obj "<lambda>" (X.env.qual++"<lambda>") params body scope cl pm c ctv)→s.heap.objs.size≤f→H' f=none→(∀b v,s.heap.IsCell b v→H b=none→s'.heap.IsCell b v)→Q (.ref f) s'):
  wpAny (model X.prog X.w) X.A (eval (.Lambda params body scope pos) X.env) Q E s:=by
 obtain⟨ps,hP,ht,hq⟩:=T;have hPs:s.heap.get? P=some (tabObj ps):=I.hok P _ hP;have hg:s.heap.Ns mainGlobals X.mg:=I.ok.mod.glob.keeps I.bk;have hgP:mainGlobals≠P:=λq=>by
  obtain⟨o,es,ep,e,hd,_⟩:=I.ok.mod.glob;have:=(I.bs _ _ e).2;rw[q,hP]at this;cases this
 have hb:s.heap.BuiltinsAt X.mg P:=by
  obtain⟨bm,ob,b1,b2,b3,b4,b5,b6⟩:=Bm;refine⟨bm,ob,b1,b2,λq=>?_,λq=>?_,I.bk _ _ b3,b4,b5,b6⟩
  ·obtain⟨o,es,ep,e,hd,_⟩:=I.ok.mod.glob;rw[q,e]at b3;cases b3;rw[hd]at b6;cases b6
  ·have:=(I.bs _ _ b3).2;rw[q,hP]at this;cases this
 have C:=C0.keeps I.bk;have cellP:∀b v,s.heap.IsCell b v→H b=none→b≠P:=λb v _ n z=>by rw[z,hP]at n;cases n
 refine PySem.W.kla_eval hdef ?_;cases ha:codeAmong pos ps.toList with
 |none =>
  refine PySem.W.kla_makeFunction (mg:=X.mg) hcl I.ok.glob hg hc C hPs ht ha hgP hb λc' ctv h' tk hx hge hlt hrec htb=>?_;have J:=I.tab (t':=tk) (more:=#[rawInt pos.line,rawInt pos.col,.ref c']) (h':=h'.push (kla_obj "<lambda>" (X.env.qual++"<lambda>") params body scope cl ((X.mg "__name__").getD .none) c' ctv)) hP (λb o n e=>get?_push_of_some _ (hx b o n e)) (get?_push_of_some _ htb);have fr:H c'=none:=I.hok.fresh hge;have ncP:c'≠P:=λz=>by rw[z,hP]at fr;cases fr
  have fr':upd H P (.tbl (ps ++ #[rawInt pos.line,rawInt pos.col,.ref c'])) c'=none:=by rw[ah ncP];exact fr
  have hrec':cdφ c' (X.env.qual++"<lambda>") (h'.push (kla_obj "<lambda>" (X.env.qual++"<lambda>") params body scope cl ((X.mg "__name__").getD .none) c' ctv)):=iq _ _ hrec λo e=>get?_push_of_some _ e;have Hq:gH P H (upd (upd H P (.tbl (ps ++ #[rawInt pos.line,rawInt pos.col,.ref c']))) c' (.ext (cdφ c' (X.env.qual++"<lambda>")))):=λb o n e=>by
   rw[ah (ay e fr),ah n];exact e
  have sz:s.heap.objs.size≤h'.objs.size:=le_trans hge (le_of_lt hlt);have nfc:h'.objs.size≠c':=ne_of_gt hlt;have frf:H h'.objs.size=none:=I.hok.fresh sz;have nfP:h'.objs.size≠P:=λz=>by rw[z,hP]at frf;cases frf
  have J2:Inv X pins σ (upd (upd H P (.tbl (ps ++ #[rawInt pos.line,rawInt pos.col,.ref c']))) c' (.ext (cdφ c' (X.env.qual++"<lambda>")))) {s with heap:=h'.push (kla_obj "<lambda>" (X.env.qual++"<lambda>") params body scope cl ((X.mg "__name__").getD .none) c' ctv),toks:=tk}:=by
   refine⟨J.ok,J.os,J.bare,⟨λb o e n hb hx=>J.base.keep b o e n hb hx,λb o e n hb hx=>J.base.slot b o e n hb hx,λb o e n hx=>?_,J.base.there,λb xs e=>?_,λb o u e=>?_,λb qs e=>?_⟩,J.loc,J.cell,?_,λx c e=>?_,λp hp=>?_,λb u e=>?_,J.len⟩
   ·have h1:=J.base.free b o e n hx;have:b≠c':=ne_of_lt (lt_of_lt_of_le (lt_of_lt_of_le (lt_size e) I.sz) hge);rw[ah this];exact h1
   ·have h1:=J.base.tups b xs e;rw[ah (ay h1 fr')];exact h1
   ·have h1:=J.base.frzs b o u e;rw[ah (ay h1 fr')];exact h1
   ·obtain⟨m,h1⟩:=J.base.tbls b qs e;exact⟨m,by rw[ah (ay h1 fr')];exact h1⟩
   ·rw[ah (ne_of_lt (lt_of_lt_of_le I.lt hge))];exact J.free
   ·have h1:=J.freeC x c e;obtain⟨v,o,ho,_⟩:=I.cell x c e;rw[ah (ne_of_lt (lt_of_lt_of_le (lt_size ho) hge))];exact h1
   ·obtain⟨g1,g2,g3,g4,g5⟩:=J.pin p hp;obtain⟨i1,_⟩:=I.pin p hp;exact⟨g1,by rw[ah (ne_of_lt (lt_of_lt_of_le (lt_size i1) hge))];exact g2,g3,g4,g5⟩
   ·by_cases hb:b=c'
    ·subst hb;rw[ac]at e;cases e;exact⟨hrec',mh hrec',iq⟩
    ·rw[ah hb]at e;exact(J.hok b u e).stay (λ_ _ _ q=>q) (λc q=>by rw[ah (ay q fr')];exact q) λc xs q=>by rw[ah (ay q fr')];exact q
  refine h h'.objs.size c' _ ctv _ _ Hq ⟨_,by rw[ah (symm ncP)];exact ac,?_,λpos' cv e=>?_⟩ ac J2 (get?_push_size _ rfl) sz ?_ λb v ⟨o,ho,hd⟩ n=>⟨o,get?_push_of_some _ (hx b o (cellP b v ⟨o,ho,hd⟩ n) ho),hd⟩
  ·rw[Array.toList_append];exact dF ht
  ·rw[Array.toList_append]at e;rcases fO ht e with e|e
   ·obtain⟨c,e1,e2⟩:=hq pos' cv e;refine⟨c,e1,Hq c _ (λz=>?_) e2⟩;rw[z,hP]at e2;cases e2
   ·exact⟨c',e,ac⟩
  ·rw[ah nfc,ah nfP];exact frf
 |some cv =>
  obtain⟨c,rfl,hcx⟩:=hq pos cv ha;refine PySem.W.kla_makeFunctionHit (mg:=X.mg) hcl I.ok.glob hg hc C hPs ht ha hb λctv h' tk hk hsz=>?_;have J:=I.kept (t':=tk) (h':=h'.push (kla_obj "<lambda>" (X.env.qual++"<lambda>") params body scope cl ((X.mg "__name__").getD .none) c ctv)) λb o e=>get?_push_of_some _ (hk b o e);exact h h'.objs.size c _ ctv H _ (gH.refl _ _) ⟨ps,hP,ht,hq⟩ hcx J (get?_push_size _ rfl) hsz (I.hok.fresh hsz) λb v ⟨o,ho,hd⟩ _=>⟨o,get?_push_of_some _ (hk b o ho),hd⟩
end
def bB(X:Cx)(H:Hp)(s:Shared):Heap:=hideAll s.heap (trk s.heap H++frs X.stack)
section
variable{X:Cx}{pins:List (Addr×Obj)}{σ:St}{H:Hp}{s:Shared}
theorem ml{b:Addr}{o:Obj}(e:s.heap.get? b=some o)(n:H b=none)(nf:b∉frs X.stack):(bB X H s).get? b=some o :=
 hideAll_get _ e λhm=>by
  rcases mem_append.mp hm with hm|hm
  ·have q:(H b).isSome=true:=(mem_filter.mp hm).2;rw[n]at q;simp at q
  ·exact nf hm
theorem mm{b:Addr}{o:Obj}(e:(bB X H s).get? b=some o):s.heap.get? b=some o∧H b=none∧b∉frs X.stack:=by
 have e':s.heap.get? b=some o:=of_hideAll (trk s.heap H++frs X.stack) e;have hid:b∉trk s.heap H++frs X.stack:=λhm=>by
  have z:(bB X H s).get? b=none:=hideAll_none _ hm;rw[z]at e;cases e
 refine⟨e',?_,λhm=>hid (mem_append_right _ hm)⟩;cases q:H b with
 |none=>rfl
 |some x=>exact absurd (mem_append_left _ (mem_filter.mpr ⟨mem_range.mpr (lt_size e'),by simp[q]⟩)) hid
theorem bZ{h base base':Heap}:∀{l:List Env},h.FunFrames base l→(∀b∈frs l,base'.get? b=none)→h.FunFrames base' l
 |[],_,_=>trivial
 |env::rest,⟨k,⟨L,o,hf,hb,ho,hd⟩,r⟩,hn=>by
  have e:frs (env::rest)=L::frs rest:=by unfold frs;rw[filterMap_cons,hf]
  rw[e]at hn;exact⟨k,⟨L,o,hf,hn L mem_cons_self,ho,hd⟩,bZ r λb hb=>hn b (mem_cons_of_mem _ hb)⟩
theorem Inv.bsub(I:Inv X pins σ H s):∀b o,X.base.get? b=some o→(bB X H s).get? b=some o:=λb o e=>by
 obtain⟨h1,h2⟩:=I.bs b o e;refine ml h1 h2 λhm=>?_;have:=(I.stack.mem hm).1;rw[e]at this;cases this
theorem Inv.env0B(I:Inv X pins σ H s):Env0 X.prog X.w X.K X.mg (bB X H s) X.A X.stack s H:=by
 have kp:=I.bsub;obtain⟨mb,hb,hbb⟩:=I.ok.mod.blt;refine⟨I.ok.frames,⟨I.ok.mod.kin.keeps kp,I.ok.mod.glob.keeps kp,⟨mb,hb.keeps kp,hbb⟩,I.ok.mod.nolimit.keeps kp⟩,λb o e=>⟨(mm e).1,(mm e).2.1⟩,Nat.le_of_eq (hideAll_size _ _),bZ I.stack λb hb=>?_,I.stkFree,I.hok,I.bare⟩;cases q:(bB X H s).get? b with
 |none=>rfl
 |some o=>exact absurd hb (mm q).2.2
end
section
variable{CX:CXT}{P:Program}{w:World}{K:PySem.W.Frag}{mg:Str→Option Value}{base:Heap}{k:Nat}{f c:Addr}{name qual:Str}{params:Arguments}{body:Expr}{scope:Scope}{cl:List (Str×Addr)}{pm ctv:Value}{ps fs:List Str}{fv:List V}{sp:Sp}
theorem nQ(ho:base.get? f=some (kla_obj name qual params body scope cl pm c ctv))(hcd:∀vs H Q E,sp vs H Q E→H c=some (.ext (cdφ c qual)))(S:LaScope ps scope cl)(C:Capt base scope cl fs fv)(len:∀vs H Q E,sp vs H Q E→vs.length=ps.length)(hbody:∀(A:Around) (outer:List Env) (s:Shared) (H:Hp) (vs:List V) (Q:VK) (E:XK),Room k (A.deeper (envX qual scope s.heap.objs.size f (.ref c) cl))→sp vs H Q E →
   ∃t,PE (nO CX P w K mg base (ps++fs) qual scope f (.ref c) cl A outer s H E) body t∧t (vs.map some++fv.map some) H Q):
  FnOk P w K mg base CX (k+1) f (kla_fn name qual params body scope cl pm (.ref c) ctv) ps sp:=by
 refine⟨len,λA outer s H args us vs Q E hr e0 hb r hsp=>?_⟩;have hl:=len _ _ _ _ hsp;have kp:∀b o,base.get? b=some o→s.heap.get? b=some o:=λb o e=>(e0.bs b o e).1;have lim:s.heap.NoLimit:=e0.mod.nolimit.keeps kp;have hcd':s.heap.CodeRec (.ref c) qual:=(e0.hok c _ (hcd _ _ _ _ hsp)).1;refine PySem.W.kla_callFunE hr.depth (kp _ _ ho) rfl S.co S.gen rfl hcd' (hb _ _ _ _ ?_);refine wpAny_newFunctionEnv S.nocell (λx hx=>S.par _ (of_mem_zip hx).1) (λh₁ hns hsb=>?_) S.kind;have hk₁:∀b o,s.heap.get? b=some o→h₁.get? b=some o:=λb o e=>hsb.extBut b o (ne_of_lt (lt_size e)) (get?_push_of_some _ e);refine⟨lim.keeps hk₁,PySem.W.kla_codeExpr ?_⟩;obtain⟨t,ht,hq⟩:=hbody A outer s H vs Q E (hr.deeper _) hsp;have I:=mf (CX:=CX) (P:=P) (w:=w) (K:=K) (mg:=mg) (qual:=qual) (f:=f) (c:=c) (E:=E) (tk:=s.toks+(ps.zip us).length) S C hr.hd e0 hl r hns hk₁;exact wpAny_mono (ht [] _ _ H _ I hq) (λu s' ⟨v,H',J,rv,q⟩=>⟨v,H',J.os,J.bare,J.base,J.hok,rv,q⟩) λe s' h=>h
end
structure KSt(P:Program)(w:World)(H:Hp)(fs:List Addr)(s s':Shared):Prop where
 os:s'.os=s.os
 bare:AllBare s'.gens
 hok:HOk P w H s'.heap
 un:Un fs [] H H s.heap s'.heap
section
variable{P:Program}{w:World}{H:Hp}{fs:List Addr}{s s1:Shared}
theorem KSt.low(h0:HOk P w H s.heap)(h:KSt P w H fs s s1){h2:Heap}{t:Nat}(k:∀b o,b<s.heap.objs.size→s1.heap.get? b=some o→h2.get? b=some o):KSt P w H fs s {s1 with heap:=h2,toks:=t}:=by
 refine⟨h.os,h.bare,λb u e=>(h.hok b u e).stay (λc v hc q=>k c v ?_ q) (λ_ q=>q) λ_ _ q=>q,⟨λb o e n hb hx=>k b o (lt_size e) (h.un.keep b o e n hb hx),λb o e n hb hx=>?_,h.un.free,λb o e hx=>?_,h.un.tups,h.un.frzs,h.un.tbls⟩⟩
 ·rcases hc with z|z
  ·rw[z];exact h0.lt e
  ·exact h0.lt z
 ·obtain⟨sl,q⟩:=h.un.slot b o e n hb hx;exact⟨sl,k b _ (lt_size e) q⟩
 ·obtain⟨o',q⟩:=h.un.there b o e hx;exact⟨o',k b o' (lt_size e) q⟩
theorem de{base h h':Heap}{ex:List Addr}:∀{l:List Env},h.FunFrames base l→Un fs [] H H h h'→(∀b∈frs l,H b=none)→h'.FunFrames base l
 |[],_,_,_=>trivial
 |env::rest,⟨k,⟨L,o,hf,hb,ho,hd⟩,r⟩,u,hn=>by
  have e:frs (env::rest)=L::frs rest:=by unfold frs;rw[filterMap_cons,hf]
  rw[e]at hn;obtain⟨sl,q⟩:=u.any ho (hn L mem_cons_self) (by simp);exact⟨k,⟨L,_,hf,hb,q,hd⟩,de (ex:=ex) r u λb hb=>hn b (mem_cons_of_mem _ hb)⟩
variable{K:PySem.W.Frag}{mg:Str→Option Value}{base:Heap}{A:Around}{outer:List Env}{k:Nat}{f:Addr}{fd:FuncData}{y:Str}{spK:Sp}{key:V→Str}
end
section
variable{X:Cx}
end
section
variable{P:Program}{w:World}{H:Hp}{s s1:Shared}{K:PySem.W.Frag}{mg:Str→Option Value}{base:Heap}{A:Around}{outer:List Env}{k:Nat}{f:Addr}{fd:FuncData}{y:Str}{spK:Sp}{key:V→Int}
theorem fQ(F:FnOk P w K mg base CX0 k f fd [y] spK)(hb:bA K fd [y] [])(hr:Room k A)(e0:Env0 P w K mg base A outer s H)(h:KSt P w H (frs outer) s s1)(hsz:s.heap.objs.size≤s1.heap.objs.size){x:V}{u:Value}(r:au x u)(hsp:spK [x] H (λv H'=>v=.int (key x)∧H'=H) E0):
  wpAny (model P w) A (call (.ref f) [u]) (λv s2=>KSt P w H (frs outer) s s2∧(∃t,v=.int (key x) t)∧∀b o,s.heap.objs.size≤b→s1.heap.get? b=some o→s2.heap.get? b=some o) (λ_ _=>False) s1:=by
 have lowF:∀b∈frs outer,b<s.heap.objs.size:=λb hb=>by
  obtain⟨_,o,ho,_⟩:=e0.funs.mem hb;exact lt_size ho
 have bs:∀b o,base.get? b=some o→s1.heap.get? b=some o∧H b=none:=λb o e=>by
  obtain⟨h1,h2⟩:=e0.bs b o e;refine⟨h.un.keep b o h1 h2 (λhm=>?_) (by simp),h2⟩;have:=(e0.funs.mem hm).1;rw[e]at this;cases this
 have e1:Env0 P w K mg base A outer s1 H:=⟨e0.frames,e0.mod,bs,le_trans e0.bsz hsz,de (ex:=[]) e0.funs h.un e0.frf,e0.frf,h.hok,h.bare⟩;have KX:K.In s1.heap:=e0.mod.kin.keeps λb o e=>(bs b o e).1;have hb':=hb s1 [u] KX rfl;refine wpAny_call (codeAny_mono (F.run A outer s1 H ⟨[u],[]⟩ [u] [x] _ E0 hr e1 hb' (.cons r .nil) hsp) λrs s2 hq=>?_);cases rs with
 |error e=>exact hq
 |ok fl =>
  cases fl with
  |next=>exact False.elim hq
  |brk=>exact False.elim hq
  |cont=>exact False.elim hq
  |ret v =>
   obtain⟨x',H',os,bare,un,hok,rv,ev,eH⟩:=hq;subst ev eH;refine⟨⟨os.trans h.os,bare,hok,h.un.trans un⟩,rv,λb o hb' e=>un.keep b o e (e0.hok.fresh hb') (λhm=>?_) (by simp)⟩;exact absurd (lowF b hm) (Nat.not_lt.mpr hb')
def mn(key:V→Int)(xs:List V)(i n:Nat)(x:V):Prop:=∀j x',j<n→xs[j]?=some x'→key x'≤key x∧(j<i→key x'<key x)
theorem mq(F:FnOk P w K mg base CX0 k f fd [y] spK)(hb:bA K fd [y] [])(hr:Room k A.in1)(e0:Env0 P w K mg base A.in1 outer s H)(hh:A.handled=none){l I S:Addr}{xs:List V}(hl:H l=some (.lst xs))(hlI:l≠I)(hI:s.heap.objs.size≤I)(hS:s.heap.objs.size≤S)(hSI:S≠I)(hsp:∀x∈xs,spK [x] H (λv H'=>v=.int (key x)∧H'=H) E0){kw:List (Str×Value)}{R:Result→Shared→Prop}(hR:∀i x vb s',xs[i]?=some x→au x vb→mn key xs i xs.length x→KSt P w H (frs outer) s s'→R (.ok (.ret vb)) s'):
  ∀(r j i:Nat)(s1:Shared)(x:V)(vb:Value)(tb:Tok)(c:Nat),xs.length-(j+1)=r→j+1≤xs.length→KSt P w H (frs outer) s s1→s1.heap.get? S=some (seqObj "list" #[vb,.int (key x) tb] c)→s1.heap.IsListIter I l (j+1)→xs[i]?=some x→au x vb→i≤j→mn key xs i (j+1) x →
   codeAny (model P w) A (.builtin "max.loop" ⟨[.ref I,.ref f,.ref S],kw⟩) R s1:=by
 have hname:(toString "max"++toString ".loop":String)="max.loop":=by decide
 intro r
 induction r with
 |zero =>
  intro j i s1 x vb tb c hr' hj K1 nS hit hx rx hij hbest;have hin:j+1=xs.length:=by omega
  obtain⟨_,its,n,rv,ho⟩:=K1.hok l _ hl;have W:=Walks.list (prog:=P) (w:=w) (A:=A.in1) hh I l hlI its.toArray;have hsz:its.toArray.size=xs.length:=by rw[size_toArray];exact rv.length.symm
  refine codeAny_builtin entry_max_loop ?_;rw[Around.under_plainId plain_max_loop _];show wpAny _ A.in1 (seqItems? (.ref S) >>= _) _ _ _;refine wpAny_bind (wpAny_seqItems nS rfl ?_);show wpAny _ A.in1 (tryCatch (pyNext (.ref I)) _ >>= _) _ _ _;refine wpAny_bind (wpAny_tryCatch (W.done _ _ _ ⟨by rw[hsz,←hin];exact hit,⟨_,ho,rfl,n,rfl⟩⟩ λh' tk' hk'=>?_));have K2:=K1.low (t:=tk') e0.hok (h2:=h') λb o hb e=>hk' b o (by simpa using ne_of_lt (lt_of_lt_of_le hb hI)) e
  have hS':=hk' S _ (by simpa using hSI) nS;have sb:=SameBut.update h' S (Obj.mapSeq λ_=>(#[]:Array Value));show wpAny _ A.in1 (updateSeq S (λ_=>#[]) >>= _) _ _ _;refine wpAny_bind ?_;refine wpAny_updateSeq hS' rfl (wpAny_bind (wpAny_letGo (wpAny_pure ?_)));refine hR i x vb _ hx rx (by rw[←hin];exact hbest) (K2.low (t:=tk') e0.hok λb o hb e=>(sb.2 b (ne_of_lt (lt_of_lt_of_le hb hS))).trans e)
 |succ r ih =>
  intro j i s1 x vb tb c hr' hj K1 nS hit hx rx hij hbest;have hlt:j+1<xs.length:=by omega
  obtain⟨_,its,n,rv,ho⟩:=K1.hok l _ hl;have W:=Walks.list (prog:=P) (w:=w) (A:=A.in1) hh I l hlI its.toArray;have hsz:its.toArray.size=xs.length:=by rw[size_toArray];exact rv.length.symm
  refine codeAny_builtin entry_max_loop ?_;rw[Around.under_plainId plain_max_loop _];show wpAny _ A.in1 (seqItems? (.ref S) >>= _) _ _ _;refine wpAny_bind (wpAny_seqItems nS rfl ?_);show wpAny _ A.in1 (tryCatch (pyNext (.ref I)) _ >>= _) _ _ _;refine wpAny_bind (wpAny_tryCatch (W.item (j+1) _ _ _ (by rw[hsz];exact hlt) ⟨hit,⟨_,ho,rfl,n,rfl⟩⟩ λv h' tk' hP hst' hk'=>?_));have K2:=K1.low (t:=tk') e0.hok (h2:=h') λb o hb e=>hk' b o (by simpa using ne_of_lt (lt_of_lt_of_le hb hI)) e
  have hv:its[j+1]?=some v:=by simpa using hP
  obtain⟨v',hv',rv'⟩:=rv.get (getElem?_eq_getElem hlt);have ev:v'=v:=by rw[hv]at hv';exact(Option.some.inj hv').symm
  subst ev;obtain⟨oI',hoI',hoc,hod⟩:=id hst'.1;have hS':=hk' S _ (by simpa using hSI) nS;have hxj:xs[j+1]?=some xs[j+1]:=getElem?_eq_getElem hlt;have mx:=getElem_mem hlt;generalize xs[j+1]=x' at rv' hxj mx;show wpAny _ A.in1 (tryCatch (holding [v'] (call (.ref f) [v'])) _ >>= _) _ _ _;refine wpAny_bind (wpAny_tryCatch (wpAny_holding (wpAny_mono (fQ F hb hr e0 K2 (le_of_lt (lt_of_le_of_lt hS (lt_size hS'))) rv' (hsp x' mx)) (λu s2 he=>?_) λ_ _ hF=>hF.elim)));obtain⟨K3,⟨t2,rfl⟩,kp⟩:=he;have nS2:=kp _ _ hS hS';have nI2:=kp _ _ hI hoI';have hit2:s2.heap.IsListIter I l (j+1+1):=⟨oI',nI2,hoc,hod⟩;show wpAny _ A.in1 (tryCatch (holding [v',.int (key x') t2] (richCompare .Gt (.int (key x') t2) (.int (key x) tb) >>= _)) _ >>= _) _ _ _;refine wpAny_bind (wpAny_tryCatch (wpAny_holding (wpAny_bind (CmpOf.ints_gt (prog:=P) (w:=w) (A:=A.in1) (P:=λi v=>∃t,v=.int (if i=0 then key x' else key x) t) (λi=>if i=0 then key x' else key x) (λi v h=>h) 0 1 _ _ _ _ _ ⟨t2,rfl⟩ ⟨tb,rfl⟩ ?_))));refine wpAny_bind (wpAny_holding (wpAny_truthy_bool ?_));refine wpAny_bind (wpAny_letGo (wpAny_pure ?_))
  by_cases hb':key x'>key x
  ·have s1':=SameBut.update s2.heap S (Obj.mapSeq λ_=>#[v',.int (key x') t2]);obtain⟨c2,hc2⟩:∃c2,(s2.heap.update S (Obj.mapSeq λ_=>#[v',.int (key x') t2])).get? S=some (seqObj "list" #[v',.int (key x') t2] c2):=⟨_,get?_update_seq nS2 λ_=>#[v',.int (key x') t2]⟩;have hdec:decide ((if (0:Nat)=0 then key x' else key x)>(if (1:Nat)=0 then key x' else key x))=true:=decide_eq_true (by simpa using hb')
   have hif:((λi j:Nat=>decide ((if i=0 then key x' else key x)>(if j=0 then key x' else key x))) 0 1)=true:=hdec;rw[if_pos hif];refine wpAny_bind ?_;refine wpAny_updateSeq nS2 rfl (wpAny_bind (wpAny_letGo ?_));rw[hname];refine wpAny_pure ⟨plainId_quiet plain_max_loop _,ih (j+1) (j+1) _ x' v' t2 c2 (by omega) hlt (K3.low (t:=s2.toks) e0.hok λb o hb e=>(s1'.2 b (ne_of_lt (lt_of_lt_of_le hb hS))).trans e) hc2 ⟨oI',(s1'.2 I hSI.symm).trans nI2,hoc,hod⟩ hxj rv' (le_refl _) λj' x2 hj' hx2=>?_⟩
   by_cases e:j'=j+1
   ·subst e;rw[hxj]at hx2;cases hx2;exact⟨by omega,λh=>absurd h (lt_irrefl _)⟩
   ·have:=(hbest j' x2 (by omega) hx2).1;exact⟨by omega,λ_=>by omega⟩
  ·have hdec:decide ((if (0:Nat)=0 then key x' else key x)>(if (1:Nat)=0 then key x' else key x))=false:=decide_eq_false (by simpa using hb')
   have hif:¬((λi j:Nat=>decide ((if i=0 then key x' else key x)>(if j=0 then key x' else key x))) 0 1)=true:=by rw[show((λi j:Nat=>decide ((if i=0 then key x' else key x)>(if j=0 then key x' else key x))) 0 1)=false from hdec];simp
   rw[if_neg hif];refine wpAny_bind (wpAny_letGo ?_);rw[hname];refine wpAny_pure ⟨plainId_quiet plain_max_loop _,ih (j+1) i _ x vb tb c (by omega) hlt K3 nS2 hit2 hx rx (by omega) λj' x2 hj' hx2=>?_⟩
   by_cases e:j'=j+1
   ·subst e;rw[hxj]at hx2;cases hx2;exact⟨by omega,λh=>absurd h (by omega)⟩
   ·exact hbest j' x2 (by omega) hx2
end
theorem mr(a v d:Value):argsOk "max" ⟨[a],[(ofString "key",v),(ofString "default",d)]⟩:=by unfold argsOk;kernel_rfl
def oo(P:Addr)(qual:Str)(spK:Addr→Addr→Sp)(key:Hp→V→Int)(td:TE)(σ:St)(Q:VK):List V→Hp→Prop
 |[v],H1=>∃l xs,v=.ref l∧H1 l=some (.lst xs)∧dw H1 P qual∧∀f c H',gH P H1 H'→dw H' P qual→H' c=some (.ext (cdφ c qual)) →
  td σ H' λdv H2=>H2 l=some (.lst xs)∧(∀x∈xs,spK f c [x] H2 (λv H3=>v=.int (key H2 x)∧H3=H2) E0)∧(xs=[]→Q dv H2)∧∀i x,xs[i]?=some x→mn (key H2) xs i xs.length x→Q x H2
 |_,_=>False
def qJ(P:Addr)(qual:Str)(spK:Addr→Addr→Sp)(key:Hp→V→Int)(te td:TE):TE:=λσ H Q=>te σ H λv H1=>oo P qual spK key td σ Q [v] H1
section
variable{X:Cx}
theorem nR{P c0:Addr}{k:Nat}{y:Str}{p lpos kpos dpos pos:Pos}{params:Arguments}{body:Expr}{scope:Scope}{qual:Str}{spK:Addr→Addr→Sp}{key:Hp→V→Int}{e ed:Expr}{te td:TE}(C0:CodeHd X.base c0 P)(hc:X.env.code=.ref c0)(Bm:BmB X.base X.mg)(hq:X.env.qual++"<lambda>"=qual)(hdef:defaultsOf params X.env=([],[]))(hcl:closureFor scope X.env=pure [])(hcm:X.calm=true)(hK:∀(base':Heap) (f c:Addr) (pm ctv:Value),(∀b o,X.base.get? b=some o→base'.get? b=some o)→base'.get? f=some (kla_obj "<lambda>" qual params body scope [] pm c ctv)→FnOk X.prog X.w X.K X.mg base' CX0 k f (kla_fn "<lambda>" qual params body scope [] pm (.ref c) ctv) [y] (spK f c))(hbn:∀(pm ctv:Value) (c:Addr),bA X.K (kla_fn "<lambda>" qual params body scope [] pm (.ref c) ctv) [y] [])(hr:Room (k+1) X.A)(hg:Gl X "max")(hm:X.mg "max"=none)(he:PE X e te)(hd:PE X ed td)(hse:starEach [e] X.env=(false,eval e X.env)::starEach [] X.env:=by rfl)(hpl:(backTo pos (starEach [e] X.env)).any (·.1)=false:=by rfl):
  PE X (.Call (.Name "max" p) [e] [⟨some "key",.Lambda params body scope lpos,kpos⟩,⟨some "default",ed,dpos⟩] pos) (qJ P qual spK key te td):=by
 intro pins s σ H Q I h;subst hq;refine wpAny_Call_Name_kw (dh I hg hm boot_max ?_ (by decide) (by decide));refine PyProof.Rows.callWith_kw ?_ (by rw[hse];rfl) hpl rfl rfl;refine thn (aa he ae hse pos pins s σ H (oo P (X.env.qual++"<lambda>") spK key td σ Q) I h) λus s1 hpt=>?_;obtain⟨vs,H1,I1,r,q0⟩:=hpt;obtain⟨v,rfl⟩:∃v,vs=[v]:=by
  match vs,q0 with
  |[v],_=>exact⟨v,rfl⟩
 obtain⟨l,xs,rfl,hl,T,q⟩:=q0;obtain⟨u,rfl,ru⟩:=cn r;cases ru;show wpAny _ _ (evalAll [(do let v ← eval (.Lambda params body scope lpos) X.env;standAt pos;pure v),(do let v ← eval ed X.env;standAt pos;pure v)]) _ _ s1
 refine wpAny_evalAll_cons (wpAny_bind (nP I1 C0 hc Bm T hdef hcl λf c pm ctv H' s2 off tq hc' J ho hsz hf hcell=>wpAny_bind (wpAny_standAt (wpAny_pure ?_))));have nf:f∉frs X.stack:=λhm=>by
  rcases mem_cons.mp (I1.stkSub f hm)with z|z
  ·have:=I1.lt;rw[←z]at this;exact absurd this (Nat.not_lt.mpr hsz)
  ·exact I1.nofs hsz z
 have Jp:=J.pinned (fp:=[f]) (λb hb=>by rw[List.mem_singleton.mp hb];exact I1.fpOk hsz hf) (λb hb=>by rw[List.mem_singleton.mp hb];exact⟨_,ho,λv h=>by cases h⟩);refine wpAny_evalAll_cons (wpAny_bind (thn (hd _ s2 σ H' _ Jp (q f c H' off tq hc')) λdu s3 ⟨dv,H2,J2,rd,hl2,hsp,q1,q2⟩=>wpAny_bind (wpAny_standAt (wpAny_pure (wpAny_evalAll_nil ?_)))));obtain⟨ho3,hf3,_⟩:=J2.pin (f,_) (mem_append_right _ (mem_append_right _ (aw (List.mem_singleton.mpr rfl) ho)));have J3:=J2.unpinned;have F:=hK _ f c pm ctv J3.bsub (ml ho3 hf3 nf);show wpAny _ _ (call (.builtin "max") [.ref l] [("key",.ref f),("default",du)]) _ _ s3;have hname:(toString "max"++toString ".loop":String)="max.loop":=by decide
 have hh:=J3.ok.hd hcm;obtain⟨_,its,n,rv,hol⟩:=J3.hok l _ hl2;have hls:s3.heap.IsList l its.toArray:=⟨_,hol,rfl,n,rfl⟩;have hll:l<s3.heap.objs.size:=lt_size hol;refine kmk_tree PySem.F.kind_max PySem.F.plain_max PySem.F.entry_max (mr _ _ _) ?_;show wpAny _ X.A.in1 (Builtin.Builtins.bindParams "max" ["key","default"] 0 ⟨[],[(ofString "key",.ref f),(ofString "default",du)]⟩ >>= _) _ _ s3;refine wpAny_bind (wpAny_of_eq (show Builtin.Builtins.bindParams "max" ["key","default"] 0 ⟨[],[(ofString "key",.ref f),(ofString "default",du)]⟩=pure [some (.ref f),some du]from rfl) ?_);refine wpAny_bind (wpAny_pure ?_);refine wpAny_bind (wpAny_pyIter_list hls ?_);refine wpAny_bind (wpAny_newList ?_ (zero_le _));rw[hname];have hS:(s3.heap.push {cls:=.type "list_iterator",data:=.fields #[.ref l,.int 0 0]}).objs.size=s3.heap.objs.size+1:=size_push' ..;rw[hS];have gI:((s3.heap.push {cls:=.type "list_iterator",data:=.fields #[.ref l,.int 0 0]}).push (seqObj "list" #[] 0)).get? s3.heap.objs.size=some {cls:=.type "list_iterator",data:=.fields #[.ref l,.int 0 0]} :=
  get?_push_of_some _ (get?_push_size _ rfl)
 have gS:((s3.heap.push {cls:=.type "list_iterator",data:=.fields #[.ref l,.int 0 0]}).push (seqObj "list" #[] 0)).get? (s3.heap.objs.size+1)=some (seqObj "list" #[] 0):=by
  rw[←hS];exact get?_push_size _ rfl
 have K0:KSt X.prog X.w H2 (frs X.stack) s3 s3:=⟨rfl,J3.bare,J3.hok,Un.refl⟩;have K1:=K0.low (t:=s3.toks) J3.hok (h2:=(s3.heap.push {cls:=.type "list_iterator",data:=.fields #[.ref l,.int 0 0]}).push (seqObj "list" #[] 0)) λb o hb e=>get?_push_of_some _ (get?_push_of_some _ e);have fin:∀(x:V)(vb:Value)(s':Shared),au x vb→Q x H2→KSt X.prog X.w H2 (frs X.stack) s3 s'→EP X pins σ Q vb s':=λx vb s' rx qx K' =>
  ⟨x,H2,J3.call' (s':=s') (ch:=[]) K'.os K'.un K'.hok K'.bare λb z=>absurd z (by simp),rx,qx⟩
 have hlI:l≠s3.heap.objs.size:=ne_of_lt hll;have hSI:s3.heap.objs.size+1≠s3.heap.objs.size:=ne_of_gt (Nat.lt_succ_self _);refine wpAny_pure ⟨plainId_quiet plain_max_loop _,?_⟩;have W:=Walks.list (prog:=X.prog) (w:=X.w) (A:=X.A.in1) hh s3.heap.objs.size l hlI its.toArray;have hsz':its.toArray.size=xs.length:=by rw[size_toArray];exact rv.length.symm
 refine codeAny_builtin entry_max_loop ?_;rw[Around.under_plainId plain_max_loop _];show wpAny _ X.A.in1 (seqItems? (.ref _) >>= _) _ _ _;refine wpAny_bind (wpAny_seqItems gS rfl ?_);show wpAny _ X.A.in1 (tryCatch (pyNext (.ref s3.heap.objs.size)) _ >>= _) _ _ _;have hst:((s3.heap.push {cls:=.type "list_iterator",data:=.fields #[.ref l,.int 0 0]}).push (seqObj "list" #[] 0)).IsListIter s3.heap.objs.size l 0∧((s3.heap.push {cls:=.type "list_iterator",data:=.fields #[.ref l,.int 0 0]}).push (seqObj "list" #[] 0)).IsList l its.toArray:=⟨⟨_,gI,rfl,rfl⟩,(hls.push _).push _⟩;cases xs with
 |nil =>
  have hz:its.toArray.size=0:=hsz';refine wpAny_bind (wpAny_tryCatch (W.done _ _ _ (by rw[hz];exact hst) λh' tk' hk'=>?_));refine wpAny_bind (wpAny_rule (wpAny_pure ?_));exact fin dv du _ rd (q1 rfl) (K1.low (t:=tk') J3.hok λb o hb e=>hk' b o (by simpa using ne_of_lt hb) e)
 |cons x0 xr =>
  refine wpAny_bind (wpAny_tryCatch (W.item 0 _ _ _ (by rw[hsz'];simp) hst λv h' tk' hP hst' hk'=>?_));have hv:its[0]?=some v:=by simpa using hP
  obtain⟨v',hv',rv'⟩:=rv.get (i:=0) (x:=x0) rfl;have ev:v'=v:=by rw[hv]at hv';exact(Option.some.inj hv').symm
  subst ev;obtain⟨oI',hoI',hoc,hod⟩:=id hst'.1;have K2:=K1.low (t:=tk') J3.hok (h2:=h') λb o hb e=>hk' b o (by simpa using ne_of_lt hb) e;have hS':=hk' (s3.heap.objs.size+1) _ (by simpa using hSI) gS;show wpAny _ X.A.in1 (tryCatch (holding [v'] (call (.ref f) [v'])) _ >>= _) _ _ _;refine wpAny_bind (wpAny_tryCatch (wpAny_holding (wpAny_mono (fQ (key:=key H2) F (hbn pm ctv c) hr.in1 J3.env0B.in1 K2 (le_of_lt (lt_of_le_of_lt (le_succ _) (lt_size hS'))) rv' (hsp x0 mem_cons_self)) (λu s4 hk=>?_) λ_ _ hF=>hF.elim)));obtain⟨K3,⟨t2,rfl⟩,kp⟩:=hk;have nS2:=kp _ _ (le_succ _) hS';have nI2:=kp _ _ (le_refl _) hoI';have s1':=SameBut.update s4.heap (s3.heap.objs.size+1) (Obj.mapSeq λ_=>#[v',.int (key H2 x0) t2]);obtain⟨c2,hc2⟩:∃c2,(s4.heap.update (s3.heap.objs.size+1) (Obj.mapSeq λ_=>#[v',.int (key H2 x0) t2])).get? (s3.heap.objs.size+1)=some (seqObj "list" #[v',.int (key H2 x0) t2] c2):=⟨_,get?_update_seq nS2 λ_=>#[v',.int (key H2 x0) t2]⟩;show wpAny _ X.A.in1 (updateSeq (s3.heap.objs.size+1) (λ_=>#[v',.int (key H2 x0) t2]) >>= _) _ _ _;refine wpAny_bind ?_;refine wpAny_updateSeq nS2 rfl ?_;rw[hname];refine wpAny_pure ⟨plainId_quiet plain_max_loop _,mq (key:=key H2) F (hbn pm ctv c) hr.in1 J3.env0B.in1 hh hl2 hlI (le_refl _) (le_succ _) hSI hsp (λi x vb s' hx rx hbest K'=>fin x vb s' rx (q2 i x hx hbest) K') _ 0 0 _ x0 v' t2 c2 rfl (by simp) (K3.low (t:=s4.toks) J3.hok λb o hb e=>(s1'.2 b (ne_of_lt (lt_succ_of_lt hb))).trans e) hc2 ⟨oI',(s1'.2 _ hSI.symm).trans nI2,hoc,hod⟩ rfl rv' (le_refl _) λj' x2 hj' hx2=>?_⟩;have e:j'=0:=by omega
  subst e;cases hx2;exact⟨Int.le_refl _,λh=>absurd h (lt_irrefl _)⟩
end
theorem Inv.freeze{X:Cx}{pins:List (Addr×Obj)}{σ:St}{H:Hp}{s:Shared}{d:Addr}{kvs:List (Key×V)}(I:Inv X pins σ H s)(hH:H d=some (.dK kvs)):∃o,Inv X pins σ (upd H d (.frz o (.dK kvs))) s:=by
 obtain⟨hz,hsm,vs,rel,o,es,ep,ho,hx,hd,hk,hp,hn⟩:=I.hok d _ hH;exact⟨o,I.write (t':=s.toks) (x:=d) (e:=d) (by rw[hH];trivial) (.inl rfl) (λ_ _ _ q=>q) ⟨o,ho⟩ ⟨ho,hz,hsm,vs,rel,o,es,ep,ho,hx,hd,hk,hp,hn⟩⟩
def rm(t:TS):TS:=λD σ H=>∃d kvs,H d=some (.dK kvs)∧∀o,t D σ (upd H d (.frz o (.dK kvs)))
theorem kH{X:Cx}{st:Stmt}{t:TS}(hs:PS X st t):PS X st (rm t):=λpins s σ H D I ⟨d,kvs,h,ht⟩=>by
 obtain⟨o,I2⟩:=I.freeze h;exact hs pins s σ _ D I2 (ht o)
section
variable{X:Cx}{pins:List (Addr×Obj)}{σ:St}{H:Hp}{s:Shared}
theorem eV{H:Hp}{xs:List V}(h:xs.all cF=true):cZ H xs xs:=⟨rfl,λi x y hx hy=>by
 rw[hx]at hy;cases hy;exact cJ ⟨rfl,List.all_eq_true.mp h x (mem_of_getElem? hx)⟩⟩
structure Cv where
 a:Addr
 t:Addr
 p:List Str
 v:V
def nT(H:Hp)(z:Cv):Prop:=H z.a=some (.tup [.ref z.t,z.v])∧H z.t=some (.tup (z.p.map V.str))
theorem dI(hu:X.A.units+8<cLine):bz X (.builtin "sorted") (λxs H Q=>∃l,∃zs:List Cv,xs=[.ref l]∧H l=some (.lst (zs.map λz=>V.ref z.a))∧(∀z∈zs,nT H z)∧(∀z∈zs,cF z.v=true∧eqV z.v z.v=true)∧(zs.map (·.p)).Nodup∧zs.length<64 ∧
  ∀zs':List Cv,zs'.Perm zs→zs'.Pairwise (λa b=>HT.ba a.p b.p=true)→∀p,H p=none→Q (.ref p) (upd H p (.lst (zs'.map λz=>V.ref z.a)))):=by
 intro pins s σ H xs us Q I r h;obtain⟨l,zs,rfl,hl,hk,hfv,hnd,h64,q⟩:=h;obtain⟨u,rfl,ru⟩:=cn r;cases ru;obtain⟨_,its,n,rv,ho⟩:=I.hok l _ hl
 let d:Cv:=⟨0,0,[],.non⟩
 have hlen:its.length=zs.length:=by rw[←rv.length,length_map]
 have gi:∀i,i<zs.length→its.getD i Value.none=.ref (zs.getD i d).a:=λi hi=>by
  obtain⟨v,hv,r⟩:=rv.get (i:=i) (x:=.ref (zs.getD i d).a) (by rw[getElem?_map,(aJ (d:=d) hi).2];rfl);cases r;rw[getD_eq_getElem?_getD,hv];rfl
 have eits:its=zs.map λz=>Value.ref z.a:=by
  have key:∀(l:List Cv)(us:List Value),am (l.map λz=>V.ref z.a) us→us=l.map λz=>Value.ref z.a:=by
   intro l
   induction l with
   |nil=>intro us r;cases r;rfl
   |cons z l ih =>
    intro us r;cases r with
    |cons r1 r2 =>
     rw[ih _ r2];cases r1;rfl
  exact key zs its rv
 have hobj:∀z∈zs,∃v',au z.v v'∧IsTup s.heap z.a #[.ref z.t,v']:=λz hz=>by
  obtain⟨u,v,r1,r2,ht⟩:=iQ I (hk z hz).1;cases r1;exact⟨v,r2,ht⟩
 have htup:∀z∈zs,∃ws:List Value,StrsAre ws z.p∧IsTup s.heap z.t ws.toArray:=λz hz=>by
  obtain⟨_,ws,r1,ht⟩:=I.hok z.t _ (hk z hz).2;exact⟨ws,gC r1,ht⟩
 have kept:∀{s':Shared}{a:Addr}{xs:Array Value},(∀b o,s.heap.get? b=some o→s'.heap.get? b=some o)→IsTup s.heap a xs→IsTup s'.heap a xs:=λk ⟨o,e,r⟩=>⟨o,k _ o e,r⟩;refine cq (val:=λz:Cv=>V.ref z.a) (d:=d) (f:=λa b=>HT.ba a.p b.p) (κ:=tuples' false) I rv ⟨λi _=>HT.bE _,λi j k _ _ _ h1 h2=>HT.dM h1 h2,λi j hi hj hij=>HT.eN ?_⟩ ⟨_,ho,rfl,n,rfl⟩ h64 (λA' s' _ kp Q' h2 hQ=>?_) (λA' s' hA kp i j C hi hj hC=>?_) q
 ·intro e;have e':(zs.map (·.p))[i]'(by simpa using hi)=(zs.map (·.p))[j]'(by simpa using hj):=by
   have h1:=(aJ (d:=d) hi).2;have h2:=(aJ (d:=d) hj).2;rw[getElem_map,getElem_map,(List.getElem?_eq_some_iff.mp h1).2,(List.getElem?_eq_some_iff.mp h2).2];exact e
  exact hij ((getElem_inj hnd).mp e')
 ·have key:∀ys:List Cv,(∀z∈ys,z∈zs)→KatTups s'.heap (ys.map λz=>Value.ref z.a) (ys.map λz=>Value.ref z.t):=by
   intro ys
   induction ys with
   |nil=>intro _;exact KatTups.nil
   |cons z ys ih =>
    intro hm;obtain⟨t',_,o,e1,e2,n',e3⟩:=hobj z (hm z (by simp));exact KatTups.cons (kp _ _ e1) e2 e3 rfl (ih λy hy=>hm y (by simp[hy]))
  rw[eits];refine kat_kind (T:=.type "tuple") (key zs λz hz=>hz) (by rw[length_map];omega) (λv hv=>?_) (by rfl) hQ;obtain⟨z,hz,rfl⟩:=mem_map.mp hv;obtain⟨ws,_,o,e1,e2,_⟩:=htup z hz;exact e2 ▸ (Looks.ld (kp _ _ e1)).andThen .now
 ·rw[gi i hi,gi j hj];have mi:=(aJ (d:=d) hi).1;have mj:=(aJ (d:=d) hj).1;generalize zs.getD i d=zi at mi hC⊢;generalize zs.getD j d=zj at mj hC⊢;obtain⟨ti,ri,oi,a1,a2,ni,a3⟩:=hobj zi mi;obtain⟨tj,rj,oj,b1,b2,nj,b3⟩:=hobj zj mj;refine kat_lt (kp _ _ a1) a3 (kp _ _ b1) b3 ?_;obtain⟨wi,si,pi⟩:=htup zi mi;obtain⟨wj,sj,pj⟩:=htup zj mj;have hu1:A'.units<cLine:=by omega
  have ki:IsTupleKey (ar X.prog X.w) s'.heap (zi.p.map Sum.inr) zi.t:=by
   obtain⟨o,its',n',ho',r⟩:=kc (ks:=zi.p.map Sum.inr) I (by rw[map_map];exact(hk zi mi).2) X.prog X.w;exact⟨o,its',n',kp _ _ ho',r⟩
  have kj:IsTupleKey (ar X.prog X.w) s'.heap (zj.p.map Sum.inr) zj.t:=by
   obtain⟨o,its',n',ho',r⟩:=kc (ks:=zj.p.map Sum.inr) I (by rw[map_map];exact(hk zj mj).2) X.prog X.w;exact⟨o,its',n',kp _ _ ho',r⟩
  refine kat_cons (wpAny_eqBool_tuple (knd:=ar X.prog X.w) hu1 ki kj ?_)
  by_cases e:zi.p=zj.p
  ·rw[e,decide_eq_true rfl];have hC':C false s':=by rw[e,HT.bE]at hC;exact hC
   have en:zi=zj:=by
    obtain⟨x,hx,ex⟩:=mem_iff_getElem.mp mi;obtain⟨y,hy,ey⟩:=mem_iff_getElem.mp mj;have e':(zs.map (·.p))[x]'(by simpa using hx)=(zs.map (·.p))[y]'(by simpa using hy):=by rw[getElem_map,getElem_map,ex,ey];exact e
    have:=(getElem_inj hnd).mp e';subst this;rw[←ex,←ey]
   subst en;have ee:=(hfv zi mi).2;refine kat_yes (kat_cons (iI ri rj (hfv zi mi).1 (hfv zi mi).1 X.prog X.w _ _ ?_));rw[ee];exact kat_yes (kat_nil (by simpa using hC'))
  ·have hne:¬(zi.p.map Sum.inr:List Key)=zj.p.map Sum.inr:=λz=>e (by
    have:=congrArg (List.map λk:Key=>match k with | .inr x=>x | .inl _=>empty) z;simpa [map_map,Function.comp_def]using this)
   rw[decide_eq_false hne];refine kat_no (kat_one _ _ ?_);exact HT.eO (kept kp pi) (kept kp pj) (by simpa using si) (by simpa using sj) hu1 hC
theorem cH(hc:X.calm=true):bz X (.builtin "sum") (λxs H Q=>∃l,∃ns:List Int,xs=[.ref l]∧H l=some (.lst (ns.map V.int))∧Q (.int ns.sum) H):=by
 intro pins s σ H xs us Q I r h;obtain⟨l,ns,rfl,hl,q⟩:=h;obtain⟨u,rfl,ru⟩:=cn r;cases ru;obtain⟨_,its,n,rv,ho⟩:=I.hok l _ hl;have hi:=jr rv;obtain⟨xs,hx⟩:=hi.allInts.items;have hl':s.heap.IsList l (intItems xs):=hx ▸ ⟨_,ho,rfl,n,rfl⟩;refine sum_intListG (I.ok.hd hc) hl' λh' tk t' hk=>?_;have e1:ns=xs.toList.map (·.1):=by
  rw[←nums_intItems,←hx];exact(show numsOf its.toArray.toList=ns from hi.numsOf).symm
 have e2:preSum (PySem.numAt xs) xs.size=ns.sum:=by
  rw[preSum_eq,List.take_of_length_le (by simp),e1]
 rw[e2];exact⟨.int ns.sum,H,I.kept (t':=tk) hk,⟨t',rfl⟩,q⟩
end
end L2
namespace TW
section
variable{S:Type}[DecidableEq S]
end
section
variable{S:Type}{ns:List (Nd S)}
theorem mt(T:Tree1 ns){g k:Int}(h:Und ns g k):∀{p:List S},PathTo ns k p→∃q r,PathTo ns g q∧p=q++r:=by
 induction h with
 |here=>intro p hp;exact⟨p,[],hp,(append_nil _).symm⟩
 |@up n hn _ ih =>
  intro p hp;obtain⟨q,e,hq⟩:=hp.inv T hn rfl;obtain⟨q',r,h1,h2⟩:=ih hq;exact⟨q',r++[n.nm],h1,by rw[e,h2,append_assoc]⟩
variable[DecidableEq S]
end
end TW
namespace TK
open PySem L2
section
variable{P:Program}{w:World}{K:PySem.W.Frag}{mg:Str→Option Value}{base:Heap}
def jC:Sp:=λvs H Q _=>∃d k zs p,vs=[.ref d,.int k]∧eT H d zs∧At H zs∧TW.Tree1 (nds zs)∧zs.length≤100∧TW.PathTo (nds zs) k p∧∀t H',Same H H'→H' t=some (.tup (p.map V.str))→Q (.ref t) H'
theorem jD:FnScope ["nodes","number","names","at"] ["nodes","number"] (ag pE):=fsc
theorem pL{f:Addr}{fd:FuncData}(F:Fun K "path_up" "path_up" pE f fd)(T:Txt mg):FnOk P w K mg base CX0 1 f fd ["nodes","number"] jC:=by
 obtain⟨tt,hT⟩:=T.top;refine F.ok jD (λvs H Q E h=>?_) (λcdv A outer s H vs Q E hr h=>?_)
 ·obtain⟨d,k,zs,p,rfl,_⟩:=h;rfl
 ·obtain⟨d,k,zs,p,rfl,hd,hA,hTr,hl,hp,q⟩:=h;have hnd:=bb hTr;have hpl:p.length≤100:=by have:=hp.len hTr;rw[aV]at this;omega
  refine⟨_,ai (ax (i:=2) jD.nd rfl (Or.inl rfl) (bc ae)) (ai (ax (i:=3) jD.nd rfl (Or.inl rfl) (pv 1))
   (ai (cO PassesOwn.never (az cQ (pv 3) (gb (v:=.int 0) rfl hT ⟨_,rfl⟩) (aF _))
    (ai (bt (dA plainAttrs_list PySem.F.slot_list_append PySem.F.type_list_append aO (pv 2) (aa (aK aG (aZ (bQ hr) (pv 0) (pv 3) (λ_ _=>rfl)) aj (λ_ _=>rfl)) ae)))
    (ak (ax (i:=3) jD.nd rfl (Or.inl rfl) (aK aG (aZ (bQ hr) (pv 0) (pv 3) (λ_ _=>rfl)) aj (λ_ _=>rfl))))))
   (ak (aP (kn rfl rfl T.tuple rfl T.reversed (pv 2)))))),?_⟩
  refine⟨zero_le _,λpn hpn=>⟨_,rfl,?_⟩⟩;dsimp only[aQ,mR];refine cP (λσ H'=>∃at' q' r,σ=[some (.ref d),some (.int k),some (.ref pn),some (.int at')]∧TW.PathTo (nds zs) at' q'∧p=q'++r∧H' pn=some (.lst (r.reverse.map V.str))∧Same H H')
   (λσ H'=>p.length-db H' pn) ⟨k,p,[],rfl,hp,by simp,ac,af hpn⟩ (λσ H' h=>?_) ?_
  ·obtain⟨at',q',r,rfl,hq',ep,en,s1⟩:=h;refine⟨_,rfl,rfl,_,rfl,?_⟩
   by_cases h0:at'=0
   ·subst h0;have e0:q'=[]:=hq'.zero hTr rfl;subst e0;refine bv ⟨_,rfl,pn,_,rfl,en,λt ht=>q t _ (s1.trans (af ht)) ?_⟩;rw[ac,ep,nil_append,←List.map_reverse,List.reverse_reverse]
   ·have hne:decide (V.int at'=V.int 0)=false:=by simp[h0]
    rw[hne];refine ck ?_;obtain⟨z,hz,e1,q'',e2,hq''⟩:=gF hTr hq' h0;subst e1;have hdz:=(hd.same s1).get hnd hz;have hat:=s1 _ _ (hA z hz);have hrl:r.length<100:=by
     have:=congrArg length ep;rw[e2]at this;simp at this;omega
    refine⟨_,rfl,.inl ⟨rfl,_,SqL.of en⟩,_,rfl,_,rfl,d,_,rfl,hdz,z.1,_,_,_,rfl,rfl,SqT.of hat,at2 z.2,pn,_,_,rfl,rfl,en,aA (by rw[length_map,List.length_reverse];omega),?_⟩;have hpnd:pn≠d:=λe=>by
     obtain⟨o,e'⟩:=hd.same s1;rw[←e,en]at e';cases e'
    have hpnz:z.1≠pn:=λe=>by rw[e,en]at hat;cases hat
    have s2:Same H (upd H' pn (.lst (r.reverse.map V.str++[.str z.2.nm]))):=aE hpn s1;refine⟨_,rfl,_,rfl,d,_,rfl,(hd.same s2).get hnd hz,z.1,_,_,_,rfl,rfl,SqT.of (s2 _ _ (hA z hz)),at1 z.2,?_⟩;refine⟨⟨z.2.par,q'',z.2.nm::r,rfl,hq'',by rw[ep,e2];simp,by rw[ac];simp,s2⟩,?_⟩;show p.length-db _ pn<p.length-db H' pn;rw[bX ac,bX en,ep,e2];simp;omega
  ·rintro σ H1 Q1 Q2 m ⟨v,e,h2,b,e3,q⟩;exact⟨v,e,h2,b,e3,m _ _ q⟩
def ir:Sp:=λvs H Q _=>∃d k as zs p,vs=[.ref d,.int k]∧Book H d as zs∧TW.Tree1 (nds zs)∧zs.length≤30∧TW.PathTo (nds zs) k p∧∀t H',Same H H'→H' t=some (.tup (p.map V.str))→Q (.ref t) H'
theorem nU:FnScope ["_law_book_here","_law_number","_law_names"] ["_law_book_here","_law_number"] (ag iX):=fsc
theorem qK{f:Addr}{fd:FuncData}(F:Fun K "_law_path" "_law_path" iX f fd)(T:Txt mg):FnOk P w K mg base CX0 1 f fd ["_law_book_here","_law_number"] ir:=by
 refine F.ok nU (λvs H Q E h=>?_) (λcdv A outer s H vs Q E hr h=>?_)
 ·obtain⟨d,k,as,zs,p,rfl,_⟩:=h;rfl
 ·obtain⟨d,k,as,zs,p,rfl,bk,hTr,hl,hp,q⟩:=h;have hnd:=bb hTr;refine⟨_,ai (ax (i:=2) nU.nd rfl (Or.inl rfl) (bc ae))
   (ai (cO PassesOwn.never (az cQ (pv 1) aj (aF _))
    (ai (ax (i:=2) nU.nd rfl (Or.inl rfl) (aB ls (bc (aa (aK aG (aZ (bQ hr) (pv 0) (pv 1) (λ_ _=>rfl)) aj (λ_ _=>rfl)) ae)) (pv 2)))
    (ak (ax (i:=1) nU.nd rfl (Or.inl rfl) (aK aG (aZ (bQ hr) (pv 0) (pv 1) (λ_ _=>rfl)) aj (λ_ _=>rfl))))))
   (ak (aP (bw cG rfl T.tuple rfl (aa (pv 2) ae))))),?_⟩
  refine⟨zero_le _,λpn hpn=>?_⟩;dsimp only[aQ,mR];refine cP (λσ H'=>∃at' q' r pn,σ=[some (.ref d),some (.int at'),some (.ref pn)]∧TW.PathTo (nds zs) at' q'∧p=q'++r∧H' pn=some (.lst (r.map V.str))∧Same H H')
   (λσ H'=>match σ with | [_,some (.int k),_]=>io (nds zs) k | _=>0) ⟨k,p,[],pn,rfl,hp,by simp,ac,af hpn⟩ (λσ H' h=>?_) ?_
  ·obtain⟨at',q',r,pn,rfl,hq',ep,en,s1⟩:=h;refine⟨_,rfl,rfl,_,rfl,?_⟩
   by_cases h0:at'=0
   ·subst h0;have e0:q'=[]:=hq'.zero hTr rfl;subst e0;refine bv ⟨_,rfl,pn,_,rfl,.inl ⟨SqL.of en,λt ht=>q t _ (s1.trans (af ht)) ?_⟩⟩;rw[ac,ep,nil_append]
   ·have hne:decide (V.int at'=V.int 0)=false:=by simp[h0]
    rw[hne];refine ck ?_;obtain⟨z,hz,e1,q'',e2,hq''⟩:=gF hTr hq' h0;subst e1;obtain⟨b,hb1,hb2⟩:=(bk.same s1).get hnd hz;have hrl:r.length≤100:=by
     have h1:=hp.len hTr;have h2:=congrArg length ep;rw[aV]at h1;rw[length_append]at h2;omega
    refine⟨_,rfl,_,rfl,d,_,rfl,hb1,b,_,_,_,rfl,rfl,SqT.of hb2,rl z.2,aR (show 1≤1000 by decide),λl1 hl1=>?_⟩;have s2:=af (o:=.lst [.str z.2.nm]) hl1;refine⟨_,rfl,l1,pn,_,_,rfl,rfl,ac,s2 _ _ en,aR (by simp;omega),λl2 hl2=>?_⟩;have s3:=s2.trans (af (o:=.lst ([.str z.2.nm]++r.map V.str)) hl2);obtain⟨b',hb1',hb2'⟩:=(bk.same (s1.trans s3)).get hnd hz;refine⟨_,rfl,_,rfl,d,_,rfl,hb1',b',_,_,_,rfl,rfl,SqT.of hb2',qE z.2,?_⟩;refine⟨⟨z.2.par,q'',z.2.nm::r,l2,rfl,hq'',by rw[ep,e2];simp,ac,s1.trans s3⟩,?_⟩;show io (nds zs) z.2.par<io (nds zs) z.2.num;rw[dO hTr hq'',dO hTr hq',e2];simp
  ·rintro σ H1 Q1 Q2 m ⟨v,e,h2,b,e3,q⟩;exact⟨v,e,h2,b,e3,m _ _ q⟩
end
theorem fR{α β:Type}{g:α→β}{l:List α}(h:(l.map g).Nodup){a b:α}(ha:a∈l)(hb:b∈l)(e:g a=g b):a=b:=by
 induction l with
 |nil=>cases ha
 |cons x r ih =>
  rw[map_cons,nodup_cons]at h;rcases mem_cons.mp ha with ea|ha'<;>rcases mem_cons.mp hb with eb|hb'
  ·rw[ea,eb]
  ·exact absurd (mem_map.mpr ⟨b,hb',by rw[←e,ea]⟩) h.1
  ·exact absurd (mem_map.mpr ⟨a,ha',by rw[e,eb]⟩) h.1
  ·exact ih h.2 ha' hb'
def oq(zs:ZN):List V:=zs.map λz=>V.int z.2.num
theorem cL{α:Type}{R:α→α→Prop}(irr:∀a,¬R a a)(asy:∀a b,R a b→¬R b a):∀{l m:List α},l.Pairwise R→m.Pairwise R→(∀x,x∈l↔x∈m)→l=m
 |[],[],_,_,_=>rfl
 |[],b::m,_,_,h=>absurd ((h b).mpr mem_cons_self) (by simp)
 |a::l,[],_,_,h=>absurd ((h a).mp mem_cons_self) (by simp)
 |a::l,b::m,hl,hm,h=>by
  obtain⟨l1,l2⟩:=pairwise_cons.mp hl;obtain⟨m1,m2⟩:=pairwise_cons.mp hm;have e:a=b:=by
   rcases mem_cons.mp ((h a).mp mem_cons_self)with e|h1
   ·exact e
   ·rcases mem_cons.mp ((h b).mpr mem_cons_self)with e|h2
    ·exact e.symm
    ·exact absurd (m1 a h1) (asy _ _ (l1 b h2))
  subst e;rw[cL irr asy l2 m2 λx=>⟨λhx=>?_,λhx=>?_⟩]
  ·rcases mem_cons.mp ((h x).mp (mem_cons_of_mem _ hx))with e|h1
   ·subst e;exact absurd (l1 x hx) (irr _)
   ·exact h1
  ·rcases mem_cons.mp ((h x).mpr (mem_cons_of_mem _ hx))with e|h1
   ·subst e;exact absurd (m1 x hx) (irr _)
   ·exact h1
theorem ca{H H':Hp}{Pt:Addr}{qual:Str}(h:dw H Pt qual)(s:Same H H'):dw H' Pt qual:=by
 obtain⟨ps,h1,h2,h3⟩:=h;exact⟨ps,s _ _ h1,h2,λpos cv e=>let⟨c,e1,e2⟩:=h3 pos cv e;⟨c,e1,s _ _ e2⟩⟩
section
variable{P:Program}{w:World}{K:PySem.W.Frag}{mg:Str→Option Value}{base:Heap}{f:Addr}
def jE:Sp:=λvs H Q _=>∃d k zs,vs=[.ref d,.int k]∧eT H d zs∧At H zs∧((nds zs).map (·.num)).Nodup∧0≤k∧k≤60∧(k=0∨∃z∈zs,z.2.num=k∧z.2.st=none)∧Q .non H
theorem qL:FnScope ["nodes","number"] ["nodes","number"] (ag pD):=fsc
theorem pM{CN0:Addr}{fd:FuncData}(F:Fun K "check_folder" "check_folder" pD f fd)(T:Txt mg)(CN:kE P w K mg base 1 "node_of" ["nodes","number"] (jz CN0)):FnOk P w K mg base CX0 2 f fd ["nodes","number"] jE:=by
 obtain⟨fN,fdN,GN,mN,kN,bN⟩:=CN;obtain⟨tt,hT⟩:=T.top;refine F.ok qL (λvs H Q E h=>?_) (λcdv A outer s H vs Q E hr h=>?_)
 ·obtain⟨d,k,zs,rfl,_⟩:=h;rfl
 ·obtain⟨d,k,zs,rfl,hd,hA,hnd,k0,k1,hk,q⟩:=h;refine⟨_,ak (bM (PW.pt (pw_and (az cQ (pv 1) (gb (v:=.int 0) rfl hT ⟨_,rfl⟩) (aF _)) (pw_and1 (az dJ (aK aG (al GN hr rfl mN kN bN .nil lP (aa (pv 0) (aa (pv 1) ae))) aj (λ_ _=>rfl)) bo (aF _))))) cy aU),?_⟩
  by_cases h0:k=0
  ·subst h0;exact⟨_,rfl,rfl,_,rfl,bv (bv q)⟩
  ·obtain⟨z,hz,e,hs⟩:=hk.resolve_left h0;refine⟨_,rfl,rfl,_,rfl,?_⟩;rw[show(!decide (V.int k=V.int 0))=true by simp[h0]];refine ck ⟨_,rfl,_,rfl,d,k,zs,rfl,hd,hnd,k0,k1,λy hy ey=>?_,λhno=>absurd e (hno z hz)⟩;have:y=z:=fR (g:=λz:Addr×Nd=>z.2.num) (by unfold nds at hnd;rw[map_map]at hnd;exact hnd) hy hz (ey.trans e.symm);subst this;refine⟨y.1,_,_,_,rfl,rfl,SqT.of (hA y hy),at3 y.2,rfl,_,rfl,?_⟩;rw[hs];exact bv q
def fV:Sp:=λvs H Q _=>∃d k g as zs p,vs=[.ref d,.int k,.int g]∧Book H d as zs∧TW.Tree1 (nds zs)∧TW.PathTo (nds zs) k p∧∀b,(b=true↔TW.Und (nds zs) g k)→Q (.bl b) H
theorem pN{f:Addr}{fd:FuncData}(F:Fun K "_law_under" "_law_under" iY f fd):FnOk P w K mg base CX0 1 f fd ["_law_book_here","_law_number","_law_goal"] fV:=by
 refine F.ok om (λvs H Q E h=>?_) (λcdv A outer s H vs Q E hr h=>?_)
 ·obtain⟨d,k,g,as,zs,p,rfl,_⟩:=h;rfl
 ·obtain⟨d,k,g,as,zs,p,rfl,bk,hTr,hp,q⟩:=h;have hnd:=bb hTr;refine⟨_,ai (cO PassesOwn.never (PW.pt (pw_and (az cQ (pv 1) aj (aF _)) (pw_and1 (az cQ (pv 1) (pv 2) (aF _)))))
    (ak (ax (i:=1) om.nd rfl (Or.inl rfl) (aK aG (aZ (bQ hr) (pv 0) (pv 1) (λ_ _=>rfl)) aj (λ_ _=>rfl)))))
   (ak (aP (gk lh (pv 1) (pv 2) (aF _)))),?_⟩
  refine cP (λσ H'=>∃at' q',σ=[some (.ref d),some (.int at'),some (.int g)]∧TW.PathTo (nds zs) at' q'∧(TW.Und (nds zs) g k↔TW.Und (nds zs) g at')∧H'=H)
   (λσ H'=>match σ with | [_,some (.int k),_]=>io (nds zs) k | _=>0) ⟨k,p,rfl,hp,Iff.rfl,rfl⟩ (λσ H' h=>?_) ?_
  ·obtain⟨at',q',rfl,hq',hu,rfl⟩:=h;have last:∀b:Bool,(b=true↔TW.Und (nds zs) g at')→Q (.bl b) H':=λb hb=>q b (hb.trans hu.symm);refine⟨_,rfl,rfl,_,rfl,?_⟩
   by_cases h0:at'=0
   ·have hne:decide (V.int at'=V.int 0)=true:=by simp[h0]
    rw[hne];refine bv (bv ⟨_,rfl,_,rfl,rfl,last _ ?_⟩);rw[decide_eq_true_eq];constructor
    ·intro e;injection e with e;rw[←e];exact .here
    ·intro hx;have:=hx.zero hTr h0;rw[h0,this]
   ·have hne:decide (V.int at'=V.int 0)=false:=by simp[h0]
    rw[hne];refine ck ⟨_,rfl,_,rfl,rfl,_,rfl,?_⟩
    by_cases hg':at'=g
    ·have hne:decide (V.int at'=V.int g)=true:=by simp[hg']
     rw[hne];refine bv ⟨_,rfl,_,rfl,rfl,last _ ?_⟩;rw[hne];constructor
     ·intro _;rw[hg'];exact .here
     ·intro _;rfl
    ·have hne:decide (V.int at'=V.int g)=false:=by simp[hg']
     rw[hne];refine ck ?_;obtain⟨z,hz,e1,q'',e2,hq''⟩:=gF hTr hq' h0;subst e1;obtain⟨b,hb1,hb2⟩:=bk.get hnd hz;refine⟨_,rfl,_,rfl,d,_,rfl,hb1,b,_,_,_,rfl,rfl,SqT.of hb2,qE z.2,?_⟩;have mz:z.2∈nds zs:=mem_map.mpr ⟨z,hz,rfl⟩;refine⟨⟨z.2.par,q'',rfl,hq'',hu.trans ⟨λh=>h.inv hTr mz rfl hg',λh=>.up mz h⟩,rfl⟩,?_⟩;show io (nds zs) z.2.par<io (nds zs) z.2.num;rw[dO hTr hq'',dO hTr hq',e2];simp
  ·rintro σ H1 Q1 Q2 m ⟨v,e,h2,b,e3,q⟩;refine⟨v,e,h2,b,e3,?_⟩;cases b with
   |false=>exact m _ _ q
   |true =>
    obtain⟨v1,f1,v2,f2,h3,b',e4,q'⟩:=q;exact⟨v1,f1,v2,f2,h3,b',e4,m _ _ q'⟩
theorem gJ{A:Around}{k:Nat}(hr:Room k A):A.units+8<cLine:=lt_of_le_of_lt (Nat.add_le_add_left (by decide:8≤64) _) hr.units
structure Wl(H:Hp)(zs:ZN)(cs:List Cp):Prop where
 at':∀c∈cs,dH H c
 up:cs.Pairwise (λa b=>HT.ba a.p b.p=true)
 mem:∀p n,(∃c∈cs,c.p=p∧c.n=n)↔∃z∈zs,z.2.num=n∧TW.PathTo (nds zs) n p
structure Cps(H:Hp)(zs:ZN)(cs:List Cp):Prop where
 at':∀c∈cs,dH H c
 nums:cs.map (·.n)=(nds zs).map (·.num)
 path:∀c∈cs,TW.PathTo (nds zs) c.n c.p
theorem pO{H:Hp}{p:Addr}{zs:ZN}{ys:List V}(hlen:ys.length=zs.length)(h:∀(i:Nat) y,ys[i]?=some y→∃q t z pa,zs[i]?=some z∧y=.ref q∧q≠p∧t≠p∧H q=some (.tup [.ref t,.int z.2.num])∧H t=some (.tup (pa.map V.str))∧TW.PathTo (nds zs) z.2.num pa):
  ∃cs:List Cp,ys=cs.map (λc=>V.ref c.a)∧Cps H zs cs∧∀c∈cs,c.a≠p∧c.t≠p:=by
 have main:∀(ys:List V)(xs:ZN),ys.length=xs.length→(∀(i:Nat) y,ys[i]?=some y→∃q t z pa,xs[i]?=some z∧y=.ref q∧q≠p∧t≠p∧H q=some (.tup [.ref t,.int z.2.num])∧H t=some (.tup (pa.map V.str))∧TW.PathTo (nds zs) z.2.num pa) →
   ∃cs:List Cp,ys=cs.map (λc=>V.ref c.a)∧(∀c∈cs,dH H c∧TW.PathTo (nds zs) c.n c.p∧c.a≠p∧c.t≠p)∧cs.map (·.n)=(nds xs).map (·.num):=by
  intro ys
  induction ys with
  |nil =>
   intro xs hl _;have:xs=[]:=length_eq_zero_iff.mp hl.symm;subst this;exact⟨[],rfl,by simp,rfl⟩
  |cons y ys ih =>
   intro xs hl h;cases xs with
   |nil=>simp at hl
   |cons x xs =>
    obtain⟨cs,e1,e2,e3⟩:=ih xs (by simpa using hl) λi y hy=>by simpa using h (i+1) y (by simpa using hy)
    obtain⟨q,t,z,pa,f1,f2,f3,f4,f5,f6,f7⟩:=h 0 y rfl;have:x=z:=by simpa using f1
    subst this;refine⟨⟨q,t,pa,x.2.num⟩::cs,by simp[e1,f2],λc hc=>?_,by simp[nds]at e3⊢;exact e3⟩;rcases mem_cons.mp hc with rfl|hc
    ·exact⟨⟨f5,f6⟩,f7,f3,f4⟩
    ·exact e2 c hc
 obtain⟨cs,e1,e2,e3⟩:=main ys zs hlen h;exact⟨cs,e1,⟨λc hc=>(e2 c hc).1,e3,λc hc=>(e2 c hc).2.1⟩,λc hc=>(e2 c hc).2.2⟩
theorem Cps.paths_nd{H:Hp}{zs:ZN}{cs:List Cp}(h:Cps H zs cs)(T:TW.Tree1 (nds zs)):(cs.map (·.p)).Nodup:=by
 have hn:(cs.map (·.n)).Nodup:=by rw[h.nums];exact bb T
 unfold Nodup at hn⊢;rw[pairwise_map]at hn⊢;have hp:=h.path;clear h
 induction cs with
 |nil=>exact .nil
 |cons c cs ih =>
  rw[pairwise_cons]at hn⊢;refine⟨λd hd e=>hn.1 d hd ?_,ih hn.2 λx hx=>hp x (by simp[hx])⟩;have h1:=hp c (by simp);have h2:=hp d (by simp[hd]);rw[←e]at h2;exact h1.key T h2
theorem Cps.wl{H:Hp}{zs:ZN}{cs cs':List Cp}(h:Cps H zs cs)(T:TW.Tree1 (nds zs))(hp:cs'.Perm cs)(hs:cs'.Pairwise (λa b=>HT.ba a.p b.p=true)):Wl H zs cs':=by
 refine⟨λc hc=>h.at' c (hp.mem_iff.mp hc),hs,λp n=>?_⟩;constructor
 ·rintro⟨c,hc,rfl,rfl⟩;have hc':=hp.mem_iff.mp hc;have:c.n∈(nds zs).map (·.num):=by rw[←h.nums];exact mem_map.mpr ⟨c,hc',rfl⟩
  obtain⟨n,hn,e⟩:=mem_map.mp this;obtain⟨z,hz,rfl⟩:=mem_map.mp hn;exact⟨z,hz,e,h.path c hc'⟩
 ·rintro⟨z,hz,rfl,hpa⟩;have:z.2.num∈cs.map (·.n):=by rw[h.nums];exact mem_map.mpr ⟨z.2,mem_map.mpr ⟨z,hz,rfl⟩,rfl⟩
  obtain⟨c,hc,e⟩:=mem_map.mp this;refine⟨c,hp.mem_iff.mpr hc,?_,e⟩;have:=h.path c hc;rw[e]at this;exact this.uniq T hpa
def mv:Sp:=λvs H Q _=>∃t zs,vs=[.ref t]∧Tre H t zs∧∀cs l H',Same H H'→Wl H' zs cs→cs.length=zs.length→H' l=some (.lst (cs.map λc=>V.ref c.a))→Q (.ref l) H'
theorem ou:FnScope ["tree","nodes"] ["tree"] (ag nM):=fsc
theorem pP{f:Addr}{fd:FuncData}(F:Fun K "walked" "walked" nM f fd)(T:Txt mg)(CB:Has P w K mg base 1 "by_number" ["tree"] fM)(CU:Has P w K mg base 1 "path_up" ["nodes","number"] jC):
  FnOk P w K mg base CX0 2 f fd ["tree"] mv:=by
 obtain⟨fB,fdB,GB,mB,kB,bB⟩:=CB;obtain⟨fU,fdU,GU,mU,kU,bU⟩:=CU;refine F.ok ou (λvs H Q E h=>?_) (λcdv A outer s H vs Q E hr h=>?_)
 ·obtain⟨t,zs,rfl,_⟩:=h;rfl
 ·obtain⟨t,zs,rfl,tr,k⟩:=h;have hnd:=bb tr.tr;have hl:=tr.len;refine⟨_,ai (ax (i:=1) ou.nd rfl (Or.inr rfl) (al GB hr rfl mB kB bB .nil aL (aa (pv 0) ae)))
   (ak (aP (ap (bp (gJ hr)) rfl T.sorted boot_sorted (aa (dC (N:=["number","nodes"]) (cl:=[("nodes",s.heap.objs.size+1)]) (k:=1) (js:=[1]) (g:=aQ 0) rfl
     (LcOk.mk' ["nodes"] rfl rfl (by decide +kernel) (by decide +kernel) ?hcl rfl (by decide +kernel)) rfl ?hj
    (lH (pv 1)) (λs H fp=>aD (i:=0) (show(["number","nodes"]:List Str).Nodup by decide +kernel) rfl (Or.inl rfl) (Or.inr rfl))
    (λs H fp=>aW (aa (al (X:=aT _ _ _ _ _ _ _) GU hr rfl mU kU bU .nil aL (aa (pv 1) (aa (pv 0) ae))) (aa (pv 0) ae)))) ae)))),?_⟩
  case hcl =>
   intro y hy;rcases mem_cons.mp hy with e|hy
   ·rw[e];rfl
   ·cases hy
  case hj =>
   intro i j x h1 h2
   match i,h1,h2 with
   |0,h1,h2 =>
    cases h1;cases h2;exact⟨rfl,Or.inr (Or.inl rfl),(show((ag nM).names.lookup ("nodes":Str)≠some NameKind.local)by decide +kernel),by first|exact Or.inl rfl|exact Or.inr rfl⟩
   |i+1,h1,h2=>simp at h1
  refine⟨_,rfl,t,zs,rfl,tr.tup,tr.nod,by omega,hnd,λd H1 s1 nd1=>?_⟩;obtain⟨o,ho⟩:=id nd1;have tr1:=tr.same s1;refine⟨_,rfl,d,o,_,rfl,ho,λp hp=>?_⟩;refine iS (fr:=[some (.ref d)]) zs.length (by omega) hp rfl (λi y H'=>∃q t z pa,zs[i]?=some z∧y=.ref q∧q≠p∧t≠p∧H' q=some (.tup [.ref t,.int z.2.num])∧H' t=some (.tup (pa.map V.str))∧TW.PathTo (nds zs) z.2.num pa) (λi y H1 H2 h ex=>?_) (λi H' hi s2=>?_) (λH' s2=>?_) ?_ (λi H' x H2 hi s2 hpl hy=>?_) (λys H' s2 hp' hlen hys=>?_)
  ·obtain⟨q,t,z,pa,e1,e2,e3,e4,e5,e6,e7⟩:=h;exact⟨q,t,z,pa,e1,e2,e3,e4,ex q _ e3 e5,ex t _ e4 e6,e7⟩
  ·exact⟨s2 _ _ ho,by simpa [bq]using hi⟩
  ·exact⟨s2 _ _ ho,by simp[bq]⟩
  ·rintro _ _ _ _ m ⟨v1,b1,v2,b2,d',k',zs',pa,c1,c2,c3,c4,c5,c6,q⟩;refine⟨v1,b1,v2,b2,d',k',zs',pa,c1,c2,c3,c4,c5,c6,λt' H' st ht=>?_⟩;obtain⟨v3,b3,hz,q'⟩:=q t' H' st ht;exact⟨v3,b3,hz,λl hl=>m _ _ (q' l hl)⟩
  ·obtain⟨rfl,hx⟩:=hy;have gz:zs[i]?=some zs[i]:=getElem?_eq_getElem hi;have ex:x=.int zs[i].2.num:=by
    unfold bq at hx;rw[getElem?_map,getElem?_map,gz]at hx;exact(Option.some.inj hx).symm
   subst ex;have mz:=mem_of_getElem? gz;generalize zs[i]=z at gz mz⊢;obtain⟨pa,hpa⟩:=TW.PathTo.ex tr.tr (mem_map.mpr ⟨z,mz,rfl⟩:z.2∈nds zs);have s12:=s1.trans s2;refine⟨rfl,_,rfl,_,rfl,d,_,zs,pa,rfl,nd1.same s2,tr.nod.same s12,tr.tr,by omega,hpa,λt' H4 s4 ht'=>?_⟩;have hpl4:∃ys,H4 p=some (.lst ys):=let⟨ys,e⟩:=hpl;⟨ys,s4 _ _ e⟩;have htp:t'≠p:=λe=>by obtain⟨ys,e'⟩:=hpl4;rw[←e,ht']at e';cases e'
   refine⟨_,rfl,le2,λq hq=>⟨s4.trans (af hq),q,t',z,pa,gz,rfl,cr hpl4 hq,htp,ac,bi hq ht',hpa⟩⟩
  ·obtain⟨cs,e1,e2,e3⟩:=pO (p:=p) hlen hys;subst e1;have hcl:cs.length=zs.length:=by rw[←hlen,length_map]
   refine⟨p,cs,rfl,hp',e2.at',e2.paths_nd tr.tr,by omega,λcs' hpm hup q hq=>?_⟩;have s3:=af (o:=.lst (cs'.map λc=>V.ref c.a)) hq;have wl:=e2.wl tr.tr hpm hup;refine k cs' q _ ((s1.trans s2).trans s3) ⟨λc hc=>?_,wl.up,wl.mem⟩ (hpm.length_eq.trans hcl) ac;obtain⟨g1,g2⟩:=wl.at' c hc;exact⟨s3 _ _ g1,s3 _ _ g2⟩
end
end TK
namespace TW
theorem iZ{S:Type}{ns:List (Nd S)}{n:Nd S}(h:Reach ns 0 n):Und ns 0 n.num:=by
 induction h with
 |base hn e=>exact .up hn (by rw[e];exact .here)
 |step _ _ hn e ih=>exact .up hn (by rw[e];exact ih)
theorem fX{S:Type}{ns:List (Nd S)}(T:Tree1 ns){k:Int}(hk:k=0∨1≤k){n:Nd S}(hn:n∈ns):Reach ns k n↔n.num≠k∧Und ns k n.num:=by
 rcases hk with e|h
 ·subst e;have h1:=T.down n hn;have h2:=T.pos n hn;exact⟨λ_=>⟨by omega,iZ h1⟩,λ_=>h1⟩
 ·exact ky T h hn
end TW
namespace TK
open PySem L2
def isF(z:Addr×Nd):Bool:=z.2.st.isSome
def nums(zs:ZN):List Int:=zs.map λz=>z.2.num
theorem iu(zs:ZN):(nums zs).length=zs.length:=length_map _
theorem bd(zs:ZN):oq zs=(nums zs).map V.int:=by unfold oq nums;rw[map_map];rfl
theorem mw{z:Addr×Nd}(h:isF z=true):∃i,z.2.st=some i:=by
 unfold isF at h;cases e:z.2.st with
 |none=>rw[e]at h;cases h
 |some i=>exact⟨i,rfl⟩
theorem pQ{l m:List Int}(hl:l.Pairwise λa b:Int=>a<b)(hm:m.Pairwise λa b:Int=>a<b)(h:∀x,x∈l↔x∈m):l=m:=cL (R:=λa b:Int=>a<b) (λa=>Int.lt_irrefl a) (λa b h1 h2=>by omega) hl hm h
def isB(zs:ZN)(k:Int)(z:Addr×Nd):Bool:=@decide (TW.Reach (nds zs) k z.2) (Classical.propDecidable _)
theorem cE{zs:ZN}{k:Int}{z:Addr×Nd}:isB zs k z=true↔TW.Reach (nds zs) k z.2:=@decide_eq_true_iff _ (Classical.propDecidable _)
theorem ja{zs:ZN}(T:TW.Tree1 (nds zs))(g:Addr×Nd→Bool):(nums (zs.filter g)).Pairwise λa b:Int=>a<b:=by
 have:=T.rise;unfold TW.kt nds at this;unfold nums;rw[pairwise_map]at this⊢;exact this.sublist List.filter_sublist
def bel(zs:ZN)(k:Int):ZN:=zs.filter (isB zs k)
theorem bh{zs:ZN}{k:Int}{z:Addr×Nd}(h:z∈bel zs k):z∈zs:=(mem_filter.mp h).1
theorem dQ(zs:ZN)(k:Int):(bel zs k).length≤zs.length:=length_filter_le _ _
theorem jF{zs:ZN}(T:TW.Tree1 (nds zs)){k:Int}{ms:List Int}(hu:ms.Pairwise λa b:Int=>a<b)(hm:∀x,x∈ms↔∃n∈nds zs,n.num=x∧TW.Reach (nds zs) k n):ms=nums (bel zs k) :=
 pQ hu (ja T _) λx=>by
  rw[hm];unfold nums bel;rw[mem_map];constructor
  ·rintro⟨n,hn,e,hr⟩;obtain⟨z,hz,rfl⟩:=lW hn;exact⟨z,mem_filter.mpr ⟨hz,cE.mpr hr⟩,e⟩
  ·rintro⟨z,hz,e⟩;have:=mem_filter.mp hz;exact⟨z.2,bg this.1,e,cE.mp this.2⟩
def sts(zs:ZN)(k:Int):List Int:=((bel zs k).filter isF).map λz=>z.2.st.getD 0
def iw(zs:ZN)(k:Int):List V:=[.int (((bel zs k).length:Int)-((sts zs k).length:Int)),.int ((sts zs k).length:Int),.int (sts zs k).sum]
def ix(zs:ZN)(k:Int):Prop:=k=0∨∃z∈zs,z.2.num=k∧z.2.st=none
section
variable{P:Program}{w:World}{K:PySem.W.Frag}{mg:Str→Option Value}{base:Heap}{f:Addr}
def eW:Sp:=λvs H Q _=>∃t k zs,vs=[.ref t,.int k]∧Tre H t zs∧0≤k∧k≤60∧ix zs k∧∀t' H',Same H H'→H' t'=some (.tup (iw zs k))→Q (.ref t') H'
theorem jG:FnScope ["tree","number","nodes","stamps","of_files"] ["tree","number"] (ag dP):=fsc
theorem pR{CN0:Addr}{fd:FuncData}(F:Fun K "total" "total" dP f fd)(T:Txt mg)(CB:Has P w K mg base 1 "by_number" ["tree"] fM)(CF:Has P w K mg base 2 "check_folder" ["nodes","number"] jE)(CL:kE P w K mg base 2 "below" ["tree","number"] (jA CN0)):FnOk P w K mg base CX0 3 f fd ["tree","number"] eW:=by
 obtain⟨fB,fdB,GB,mB,kB,bB⟩:=CB;obtain⟨fF,fdF,GF,mF,kF,bF⟩:=CF;obtain⟨fL,fdL,GL,mL,kL,bL⟩:=CL;refine F.ok jG (λvs H Q E h=>?_) (λcdv A outer s H vs Q E hr h=>?_)
 ·obtain⟨t,k,zs,rfl,_⟩:=h;rfl
 ·obtain⟨t,k,zs,rfl,tr,k0,k1,hk,q⟩:=h;have hr1:Room 1 _:=hr.mono (by decide);refine⟨_,ai (ax (i:=2) jG.nd rfl (Or.inr rfl) (al GB hr1 rfl mB kB bB .nil aL (aa (pv 0) ae)))
   (ai (bt (al GF hr rfl mF kF bF .nil aL (aa (pv 2) (aa (pv 1) ae))))
   (ai (lO (ii:=3) (N:=["inner","nodes"]) (cl:=[("nodes",s.heap.objs.size+1)]) (k:=1) (js:=[2]) (g:=aQ 0) jG.nd rfl (Or.inl rfl) rfl
    (LcOk.mk' ["nodes"] rfl rfl (by decide +kernel) (by decide +kernel) ?hcl rfl (by decide +kernel)) rfl ?hj (be (al GL hr rfl mL kL bL .nil lP (aa (pv 0) (aa (pv 1) ae)))) (λs H fp=>aD (i:=0) (show(["inner","nodes"]:List Str).Nodup by decide +kernel) rfl (Or.inl rfl) (Or.inr rfl))
    (λs H fp=>aK (r:=eu K) aG (aZ (bQ hr) (pv 1) (pv 0) (λ_ _=>rfl)) aj (λ_ _=>rfl)))
   (ai (dm (ii:=4) (N:=["stamp"]) (cl:=[]) (k:=1) (js:=[]) (g:=aQ 0) jG.nd rfl (Or.inl rfl) rfl (eJ rfl (by decide +kernel) (by decide +kernel) (by decide +kernel)) rfl (λi j x h=>by simp at h)
    (be (pv 3)) (λs H fp=>aD (i:=0) (show(["stamp"]:List Str).Nodup by decide +kernel) rfl (Or.inl rfl) (Or.inr rfl))
    (λs H fp=>az dJ (pv 0) bo (aF _)) (λs H fp=>pv 0))
   (ak (aP (aW (aa (aB la (ap ao rfl T.len boot_len (aa (pv 3) ae)) (ap ao rfl T.len boot_len (aa (pv 4) ae))) (aa (ap ao rfl T.len boot_len (aa (pv 4) ae)) (aa (ap (cH rfl) rfl T.sum boot_sum (aa (pv 4) ae)) ae))))))))),?_⟩
  case hcl =>
   intro y hy;rcases mem_cons.mp hy with e|hy
   ·rw[e];rfl
   ·cases hy
  case hj =>
   intro i j x h1 h2
   match i,h1,h2 with
   |0,h1,h2 =>
    cases h1;cases h2;exact⟨rfl,Or.inr (Or.inl rfl),(show((ag dP).names.lookup ("nodes":Str)≠some NameKind.local)by decide +kernel),by first|exact Or.inl rfl|exact Or.inr rfl⟩
   |i+1,h1,h2=>simp at h1
  have hl:=tr.len;have hnd:=bb tr.tr;refine⟨_,rfl,t,zs,rfl,tr.tup,tr.nod,by omega,hnd,λd H1 s1 nd1=>?_⟩;refine⟨_,rfl,_,rfl,d,k,zs,rfl,nd1,tr.nod.same s1,hnd,k0,k1,hk,?_⟩;have tr1:=tr.same s1;refine⟨_,rfl,_,rfl,t,k,zs,rfl,tr1,k0,k1,λ_ ms lb H2 s2 hup hml hmm hlb=>?_,λh0 hno=>?_⟩
  case refine_2 =>
   obtain⟨z',hz',e,_⟩:=hk.resolve_left h0;exact absurd e (hno z' hz')
  have em:=jF tr.tr hup hmm;subst em;have hbl:=dQ zs k;refine⟨lb,rfl,⟨_,SqL.of hlb⟩,λp hp=>?_⟩;refine dN (fr:=[some (.ref d)]) (bel zs k) (λz=>V.int z.2.num) (by omega) hp (cB (by rw[show((bel zs k).map λz=>V.int z.2.num)=(nums (bel zs k)).map V.int from bd _];exact SqL.of hlb)) rfl (λz y _=>y=stV z.2.st) (λ_ _ _ _ h _=>h) (λz H' kk mz s3 _ hk=>?_) (λys H3 s3 hp3 hys=>?_)
  ·have hz:=bh mz;exact⟨_,rfl,_,rfl,d,_,rfl,((nd1.same s2).same s3).get hnd hz,z.1,_,_,_,rfl,rfl,SqT.of (((tr1.same s2).same s3).nod z hz),at3 z.2,hk _ H' (Same.refl _) rfl⟩
  have ey:=bG (f:=λz:Addr×Nd=>stV z.2.st) hys (λz y _ h=>h);rw[ey]at hp3;refine⟨_,rfl,p,rfl,⟨_,SqL.of hp3⟩,λp4 hp4=>?_⟩;refine gD (fr:=[]) (bel zs k) (λz=>stV z.2.st) (by omega) hp4 (cB (SqL.of hp3)) rfl isF (λz y _=>y=.int (z.2.st.getD 0)) (λ_ _ _ _ h _=>h) (λz H' kk mz s4 _ hk=>?_) (λz H' kk mz hf s4 _ hk=>?_) (λys4 H4 s4 hp4' hys4=>?_)
  ·refine⟨_,rfl,rfl,_,rfl,?_⟩;have e:(!decide (stV z.2.st=V.non))=isF z:=by
    unfold isF;cases z.2.st<;>simp[stV]
   rw[e];exact hk H' (Same.refl _)
  ·obtain⟨i,ei⟩:=mw hf;refine⟨_,rfl,hk _ H' (Same.refl _) ?_⟩;rw[ei];rfl
  have ey4:=bG (f:=λz:Addr×Nd=>V.int (z.2.st.getD 0)) hys4 (λz y _ h=>h);have e4:ys4=(sts zs k).map V.int:=by rw[ey4];unfold sts;rw[map_map];rfl
  rw[e4]at hp4';refine⟨_,rfl,p,_,rfl,.inl (SqL.of (s4 _ _ hp3)),_,rfl,p4,_,rfl,.inl (SqL.of hp4'),_,_,rfl,rfl,?_⟩;refine⟨_,rfl,p4,_,rfl,.inl (SqL.of hp4'),_,rfl,p4,_,rfl,hp4',(show 3≤sizeLine from aR (by decide)),λt' ht'=>?_⟩;refine q t' _ ((((s1.trans s2).trans s3).trans s4).trans (af ht')) ?_;rw[ac];unfold iw;simp only[length_map]
end
end TK
namespace L2
open PySem PySem.Spec PyProof.Rows
theorem kJ{P:Program}{w:World}{K:PySem.W.Frag}{mg mb:Str→Option Value}{k:Nat}{fa a:Addr}{fd:FuncData}{x:Str}{sp:Sp}{s₁:Shared}{vs:List Value}{ns:List Int}{tabs:List Addr}(KX:K.In s₁.heap)(hns:s₁.heap.Ns mainGlobals mg)(hb:s₁.heap.Ns builtinsNs mb)(hbb:∀x:Str,x≠"__name__"→mb x=bootBuiltins x)(hlim:s₁.heap.NoLimit)(hg:s₁.gens=#[])(hT:∀t∈tabs,(∃c,CodeHd s₁.heap c t)∧s₁.heap.get? t=some (tabObj #[]))(hKT:∀t∈tabs,K.lookup t=none)(hbm:BmB s₁.heap mg)(ha:s₁.heap.get? a=some {cls:=.type "list",data:=.seq vs.toArray})(hi:IntsAre vs ns)(hl:ns.length≤sizeLine)(hr:Room k callerA)(F:∀base:Heap,K.In base→base.Ns mainGlobals mg→BmB base mg→FnOk P w K mg base CX0 k fa fd [x] sp)(hbind:∀(s:Shared) (u:Value),BindsTo s fd ⟨[u],[]⟩ [(x,u)])(hsp:∀H:Hp,SqL K H a (ns.map V.int)→(∀t∈tabs,H t=some (.tbl #[]))→sp [.ref a] H (λv _=>v=.bl true) λ_ _ _=>False):
  codeAny (model P w) callerA (.call (.ref fa) ⟨[.ref a],[]⟩) (λr s'=>r=.ok (.ret (.bool true))∧OldK s₁.heap s'.heap∧s'.os=s₁.os∧AllBare s'.gens) s₁:=by
 have rv:=fz hi;have lenV:=hi.length;have naT:a∉tabs:=λh=>by
  have:=(hT a h).2;rw[ha]at this;cases this
 have core:∀(H:Hp),SqL K H a (ns.map V.int)→HOk P w H s₁.heap→(∀t∈tabs,H t=some (.tbl #[]))→(∀b o,H b=some o→(b=a∧K.lookup a=none∧∃ob xs,o=.frz ob (.lst xs))∨b∈tabs) →
   codeAny (model P w) callerA (.call (.ref fa) ⟨[.ref a],[]⟩) (λr s'=>r=.ok (.ret (.bool true))∧OldK s₁.heap s'.heap∧s'.os=s₁.os∧AllBare s'.gens) s₁:=by
  intro H hS hok hTt hA;have base_of:∀{b:Addr}{o:Obj},s₁.heap.get? b=some o→H b=none→(eY s₁.heap H).get? b=some o:=λe n=>kO e n;have noA:∀{b:Addr}{o:Obj}{es:Array DictEntry}{ep:Nat},s₁.heap.get? b=some o→o.data=.dict es ep→H b=none:=λ{b o es ep} e d=>by
   cases q:H b with
   |none=>rfl
   |some u =>
    rcases hA b u q with⟨e',_⟩|hm
    ·subst e';rw[ha]at e;cases e;cases d
    ·rw[(hT b hm).2]at e;cases e;cases d
  have nsK:∀{b:Addr}{m:Str→Option Value},s₁.heap.Ns b m→(eY s₁.heap H).Ns b m:=λ{b m} ⟨o,es,ep,e,d,r⟩=>⟨o,es,ep,base_of e (noA e d),d,r⟩;have hKb:K.In (eY s₁.heap H):=λb o e=>base_of (KX b o e) (by
   cases q:H b with
   |none=>rfl
   |some u =>
    rcases hA b u q with⟨e',hk,_⟩|hm
    ·subst e';rw[hk]at e;cases e
    ·rw[hKT b hm]at e;cases e)
  have hM:Mod K mg (eY s₁.heap H):=⟨hKb,nsK hns,⟨mb,nsK hb,hbb⟩,let⟨mc,h1,h2⟩:=hlim;⟨mc,nsK h1,h2⟩⟩;have e0:Env0 P w K mg (eY s₁.heap H) callerA [] s₁ H:=⟨rfl,hM,λb o e=>mO e,Nat.le_of_eq (jN _ _),trivial,λb hb=>absurd (show b∈([]:List Addr)from hb) (by simp),hok,.of_eq hg⟩;have hBm:BmB (eY s₁.heap H) mg:=by
   obtain⟨bm,o,b1,b2,b3,b4,b5,b6⟩:=hbm;refine⟨bm,o,b1,b2,base_of b3 ?_,b4,b5,b6⟩;cases q:H bm with
   |none=>rfl
   |some u =>
    rcases hA bm u q with⟨e',_⟩|hm
    ·subst e';rw[ha]at b3;cases b3;cases b6
    ·rw[(hT bm hm).2]at b3;cases b3;cases b6
  refine codeAny_mono ((F _ hKb (nsK hns) hBm).run callerA [] s₁ H ⟨[.ref a],[]⟩ [.ref a] [.ref a] _ _ hr e0 (hbind s₁ (.ref a)) (.cons rfl .nil) (hsp H hS hTt)) λr s' h=>?_;cases r with
  |error e=>exact False.elim h
  |ok fl =>
   cases fl with
   |next=>exact False.elim h
   |brk=>exact False.elim h
   |cont=>exact False.elim h
   |ret u =>
    obtain⟨v,H',os,bare,un,hok',r',q⟩:=h;have q':v=.bl true:=q;subst q';obtain rfl:u=Value.bool true:=r';refine⟨rfl,⟨λb o e=>?_,λb o e=>?_⟩,os,bare⟩
    ·cases q:H b with
     |none=>exact .inl (un.keep b o e q (by intro z;exact absurd (show b∈([]:List Addr)from z) (by simp)) (by simp))
     |some u =>
      rcases hA b u q with⟨e',_,ob,xs,z⟩|hm
      ·subst z;have z2:=un.frzs b ob _ q;obtain⟨e1,_⟩:=hok b _ q;obtain⟨e2,_⟩:=hok' b _ z2;rw[e]at e1;cases e1;exact .inl e2
      ·obtain⟨⟨c,C⟩,e1⟩:=hT b hm;obtain⟨more,e2⟩:=un.tbls b _ (hTt b hm);have e3:s'.heap.get? b=some (tabObj (#[]++more)):=hok' b _ e2;rw[e]at e1;cases e1;exact .inr (.inl ⟨(C.tab e).isCodeTable,rfl,#[],more,rfl,e3⟩)
    ·exact un.there b o e (by simp)
 cases hk:K.lookup a with
 |some o =>
  have e:=KX a o hk;rw[ha]at e;cases e;refine core (λb=>if b∈tabs then some (.tbl #[])else none) (.inr ⟨_,vs.toArray,_,hk,rfl,rfl,rfl,by rw[size_toArray,lenV];exact hl,by simpa using rv⟩) (λb u z=>?_) (λt h=>if_pos h) λb o z=>?_
  ·by_cases hb:b∈tabs
   ·have z':=(if_pos hb).symm.trans z;cases z';exact(hT b hb).2
   ·have z':=(if_neg hb).symm.trans z;cases z'
  ·by_cases hb:b∈tabs
   ·exact .inr hb
   ·have z':=(if_neg hb).symm.trans z;cases z'
 |none =>
  refine core (λb=>if b=a then some (.frz {cls:=.type "list",data:=.seq vs.toArray} (.lst (ns.map V.int)))else if b∈tabs then some (.tbl #[])else none) (.inl (.inr ⟨{cls:=.type "list",data:=.seq vs.toArray},if_pos rfl⟩)) (λb u z=>?_) (λt h=>?_) λb o z=>?_
  ·by_cases hb:b=a
   ·have z':=(if_pos hb).symm.trans z;cases z';subst hb;exact⟨ha,by rw[length_map];exact hl,vs,_,rv,ha⟩
   ·have z1:=(if_neg hb).symm.trans z
    by_cases hm:b∈tabs
    ·have z':=(if_pos hm).symm.trans z1;cases z';exact(hT b hm).2
    ·have z':=(if_neg hm).symm.trans z1;cases z'
  ·have:t≠a:=λz=>naT (by rw[←z];exact h);rw[if_neg this,if_pos h]
  ·by_cases hb:b=a
   ·have z':=(if_pos hb).symm.trans z;exact .inl ⟨hb,hk,_,_,(Option.some.inj z').symm⟩
   ·have z1:=(if_neg hb).symm.trans z
    by_cases hm:b∈tabs
    ·exact .inr hm
    ·have z':=(if_neg hm).symm.trans z1;cases z'
theorem my{l:PySem.W.OpenLaw}{n k:Nat}{q:Program}{loose:List Str}{XP:(Str→Option Value)→Heap→Prop}{YP:World→Heap→Prop}{d:DefRec}{K:Params→PySem.W.Frag}{sp:World→Sp}{x:Str}{tabs:List Addr}(hn:l.most=some n)(hn2:n≤sizeLine)(hdf:d.params.defaults=[])(hr:Room k callerA)(hY:∀(w:World) (h:Heap),YP w h→(K w.params).In h)(hT:∀(w:World) (h:Heap),YP w h→∀t∈tabs,h.get? t=some (tabObj #[]))(hC:∀w:World,∀t∈tabs,(∃c,codeHdIn (K w.params) c t=true)∧(K w.params).lookup t=none)(F:∀(w:World) (mg:Str→Option Value) (fa:Addr) (h:Heap),(K w.params).In h→h.Ns mainGlobals mg→mg d.name=some (.ref fa) →
   ∃fd:FuncData,(∀(s:Shared) (u:Value),BindsTo s fd ⟨[u],[]⟩ [(x,u)]) ∧
    ∀base:Heap,(K w.params).In base→base.Ns mainGlobals mg→BmB base mg→FnOk l.prog w (K w.params) mg base CX0 k fa fd [x] (sp w))(hsp:∀(w:World) (H:Hp) (a:Addr) (ns:List Int),ns.length≤n→SqL (K w.params) H a (ns.map V.int)→(∀t∈tabs,H t=some (.tbl #[]))→sp w [.ref a] H (λv _=>v=.bl true) λ_ _ _=>False):
  PySem.W.WalkO q loose XP YP l.row.toRowW d [] (λf vs=>PySem.call f vs):=by
 refine Att.hO hn hdf λw s₀ s₁ mg mb fa o pm cd doc a vs ns G Y ho hd hcd hmg hobj hints hlen hg=>?_;have KX:=hY w _ Y;obtain⟨fd,hb,hF⟩:=F w mg fa _ KX G.T.g hmg;exact kJ KX G.T.g G.T.b G.T.builtins G.T.nolimit hg (λt h=>⟨let⟨c,e⟩:=(hC w t h).1;⟨c,codeHd_of_K KX e⟩,hT w _ Y t h⟩) (λt h=>(hC w t h).2) G.T.bmain hobj hints (le_trans hlen hn2) hr hF hb λH hS hTt=>hsp w H a ns hlen hS hTt
theorem Fun.okT{P:Program}{w:World}{K:PySem.W.Frag}{mg:Str→Option Value}{base:Heap}{x qual:Str}{st:Stmt}{f c0:Addr}{fd:FuncData}{N ps:List Str}{k:Nat}{sp:Sp}(F:Fun K x qual st f fd)(hc:fd.code=.ref c0)(S:FnScope N ps (ag st))(len:∀vs H Q E,sp vs H Q E→vs.length=ps.length)(hbody:∀(A:Around) (outer:List Env) (s:Shared) (H:Hp) (vs:List V) (Q:VK) (E:XK),Room k (A.deeper (envOfC qual (ag st) s.heap.objs.size f (.ref c0)))→sp vs H Q E →
   ∃t,PSs (dY CX0 P w K mg base N qual (ag st) f (.ref c0) A outer s H E).nox (aY st) t∧t {nx:=λ_ H'=>Q .non H',rt:=Q} (start N vs) H):FnOk P w K mg base CX0 (k+1) f fd ps sp:=by
 obtain⟨oc,od,kV,doc,pm,an,cdv,ct,osl,rfl,lk,hcd⟩:=F.ex;obtain rfl:cdv=.ref c0:=hc;refine lm lk hcd S len λA outer s H vs Q E hr hsp=>?_;obtain⟨t,h,q⟩:=hbody A outer s H vs Q E hr hsp;exact⟨t,h.nox,q⟩
end L2
namespace TK
open PySem L2
abbrev pS(K:PySem.W.Frag):V→Option Int→Option Int→Hp→VK→Prop:=λx lo hi H Q=>mZ K x lo hi H Q∨∃a xs,x=.ref a∧SqT K H a xs∧HT.sIx xs.length 0 lo=0∧HT.sIx xs.length xs.length hi=xs.length∧Q (.ref a) H
theorem mE{xs:List V}{k:Nat}(h:k≤xs.length):gU xs (some (k:Int)) none=xs.drop k:=by
 unfold gU;rw[HT.gn,HT.gT,Nat.min_eq_left h,←length_drop,take_length]
theorem jH{K:PySem.W.Frag}{H:Hp}{t:Addr}{pk r:List Str}{Q:VK}(ht:H t=some (.tup ((pk++r).map V.str)))(q:∀t' H',Same H H'→H' t'=some (.tup (r.map V.str))→Q (.ref t') H'):pS K (.ref t) (some (pk.length:Int)) none H Q:=by
 have hle:pk.length≤((pk++r).map V.str).length:=by rw[length_map,length_append];omega
 by_cases h:pk=[]
 ·subst h;exact .inr ⟨t,_,rfl,SqT.of ht,by rw[HT.gn];simp,by rw[HT.gT],q t H (Same.refl _) (by simpa using ht)⟩
 ·refine .inl ⟨t,_,rfl,SqT.of ht,λz=>?_,λt' ht'=>q t' _ (af ht') ?_⟩
  ·have:=z.1;rw[HT.gn,Nat.min_eq_left hle]at this;exact h (length_eq_zero_iff.mp this)
  ·rw[ac,mE hle,←List.map_drop,List.drop_left]
theorem iy{zs:ZN}(T:TW.Tree1 (nds zs)){k:Int}(hk:k=0∨1≤k){pk:List Str}(hpk:TW.PathTo (nds zs) k pk){z:Addr×Nd}(hz:z∈bel zs k){p:List Str}(hp:TW.PathTo (nds zs) z.2.num p):∃r,p=pk++r:=by
 have h:=mem_filter.mp hz;have hu:=((TW.fX T hk (bg h.1)).mp (cE.mp h.2)).2;obtain⟨q,r,h1,h2⟩:=TW.mt T hu hp;exact⟨r,by rw[h2,h1.uniq T hpk]⟩
structure ShAt(H:Hp)(zs:ZN)(k:Int)(pk:List Str)(cs:List Cv):Prop where
 at':∀c∈cs,nT H c
 up:cs.Pairwise λa b=>HT.ba a.p b.p=true
 mem:∀p v,(∃c∈cs,c.p=p∧c.v=v)↔∃z∈bel zs k,v=stV z.2.st∧TW.PathTo (nds zs) z.2.num (pk++p)
theorem gK{zs:ZN}(T:TW.Tree1 (nds zs)){k:Int}(h:ix zs k):k=0∨1≤k:=by
 rcases h with h|⟨z,hz,e,_⟩
 ·exact .inl h
 ·have:=T.pos z.2 (bg hz);exact .inr (by omega)
theorem mG(n:Nd):cF (stV n.st)=true∧eqV (stV n.st) (stV n.st)=true:=by
 cases n.st with
 |none=>exact⟨rfl,rfl⟩
 |some i=>exact⟨rfl,by simp[stV,eqV]⟩
section
variable{P:Program}{w:World}{K:PySem.W.Frag}{mg:Str→Option Value}{base:Heap}{f:Addr}
def fY:Sp:=λvs H Q _=>∃t k zs pk,vs=[.ref t,.int k]∧Tre H t zs∧0≤k∧k≤60∧ix zs k∧TW.PathTo (nds zs) k pk∧∀l cs H',Same H H'→H' l=some (.lst (cs.map λc=>V.ref c.a))→ShAt H' zs k pk cs→Q (.ref l) H'
theorem mH:FnScope ["tree","number","nodes","start"] ["tree","number"] (ag dc):=fsc
theorem pT{CN0:Addr}{fd:FuncData}(F:Fun K "shape" "shape" dc f fd)(T:Txt mg)(CB:Has P w K mg base 1 "by_number" ["tree"] fM)(CF:Has P w K mg base 2 "check_folder" ["nodes","number"] jE)(CU:Has P w K mg base 1 "path_up" ["nodes","number"] jC)(CL:kE P w K mg base 2 "below" ["tree","number"] (jA CN0)):FnOk P w K mg base CX0 3 f fd ["tree","number"] fY:=by
 obtain⟨fB,fdB,GB,mB,kB,bB⟩:=CB;obtain⟨fF,fdF,GF,mF,kF,bF⟩:=CF;obtain⟨fU,fdU,GU,mU,kU,bU⟩:=CU;obtain⟨fL,fdL,GL,mL,kL,bL⟩:=CL;refine F.ok mH (λvs H Q E h=>?_) (λcdv A outer s H vs Q E hr h=>?_)
 ·obtain⟨t,k,zs,pk,rfl,_⟩:=h;rfl
 ·obtain⟨t,k,zs,pk,rfl,tr,k0,k1,hk,hpk,q⟩:=h;have hr1:Room 1 _:=hr.mono (by decide);refine⟨_,ai (ax (i:=2) mH.nd rfl (Or.inr rfl) (al GB hr1 rfl mB kB bB .nil aL (aa (pv 0) ae)))
   (ai (bt (al GF hr rfl mF kF bF .nil aL (aa (pv 2) (aa (pv 1) ae))))
   (ai (ax (i:=3) mH.nd rfl (Or.inr rfl) (ap ao rfl T.len boot_len (aa (al GU hr1 rfl mU kU bU .nil aL (aa (pv 2) (aa (pv 1) ae))) ae)))
   (ak (aP (ap (dI (gJ hr)) rfl T.sorted boot_sorted (aa (dC (N:=["inner","nodes","start"]) (cl:=[("start",s.heap.objs.size+2),("nodes",s.heap.objs.size+1)]) (k:=1) (js:=[2,3]) (g:=aQ 0) rfl
    (LcOk.mk' ["start","nodes"] rfl rfl (by decide +kernel) (by decide +kernel) ?hcl rfl (by decide +kernel)) rfl ?hj (be (al GL hr rfl mL kL bL .nil lP (aa (pv 0) (aa (pv 1) ae)))) (λs H fp=>aD (i:=0) (show(["inner","nodes","start"]:List Str).Nodup by decide +kernel) rfl (Or.inl rfl) (Or.inr rfl))
    (λs H fp=>aW (aa (cT (r:=pS K) (gq.or eI) (al (X:=aT _ _ _ _ _ _ _) GU hr1 rfl mU kU bU .nil aL (aa (pv 1) (aa (pv 0) ae))) (cS (pv 2)) gp)
     (aa (aK (r:=eu K) aG (aZ (bQ hr) (pv 1) (pv 0) (λ_ _=>rfl)) aj (λ_ _=>rfl)) ae)))) ae)))))),?_⟩
  case hcl =>
   intro y hy;rcases mem_cons.mp hy with e|hy
   ·rw[e];rfl
   ·rcases mem_cons.mp hy with e|hy
    ·rw[e];rfl
    ·cases hy
  case hj =>
   intro i j x h1 h2
   match i,h1,h2 with
   |0,h1,h2 =>
    cases h1;cases h2;exact⟨rfl,Or.inr (Or.inl rfl),(show((ag dc).names.lookup ("nodes":Str)≠some NameKind.local)by decide +kernel),by first|exact Or.inl rfl|exact Or.inr rfl⟩
   |1,h1,h2 =>
    cases h1;cases h2;exact⟨rfl,Or.inr (Or.inl rfl),(show((ag dc).names.lookup ("start":Str)≠some NameKind.local)by decide +kernel),by first|exact Or.inl rfl|exact Or.inr rfl⟩
   |i+2,h1,h2=>simp at h1
  have hl:=tr.len;have hnd:=bb tr.tr;have hge:=gK tr.tr hk;refine⟨_,rfl,t,zs,rfl,tr.tup,tr.nod,by omega,hnd,λd H1 s1 nd1=>?_⟩;refine⟨_,rfl,_,rfl,d,k,zs,rfl,nd1,tr.nod.same s1,hnd,k0,k1,hk,?_⟩;have tr1:=tr.same s1;refine⟨_,rfl,_,rfl,d,k,zs,pk,rfl,nd1,tr1.nod,tr.tr,by omega,hpk,λt1 H2 s2 ht1=>?_⟩;refine⟨t1,_,rfl,.inr (SqT.of ht1),?_⟩;rw[length_map];have tr2:=tr1.same s2;refine⟨_,rfl,_,rfl,t,k,zs,rfl,tr2,k0,k1,λ_ ms lb H3 s3 hup hml hmm hlb=>?_,λh0 hno=>?_⟩
  case refine_2 =>
   obtain⟨z',hz',e,_⟩:=hk.resolve_left h0;exact absurd e (hno z' hz')
  have em:=jF tr.tr hup hmm;subst em;have hbl:=dQ zs k;have nd3:=(nd1.same s2).same s3;have tr3:=tr2.same s3;refine⟨lb,rfl,⟨_,SqL.of hlb⟩,λp hp=>?_⟩;refine dN (fr:=[some (.ref d),some (.int (pk.length:Int))]) (bel zs k) (λz=>V.int z.2.num) (by omega) hp (cB (by rw[show((bel zs k).map λz=>V.int z.2.num)=(nums (bel zs k)).map V.int from bd _];exact SqL.of hlb)) rfl (λz y H'=>∃c:Cv,y=.ref c.a∧c.a≠p∧c.t≠p∧nT H' c∧c.v=stV z.2.st∧TW.PathTo (nds zs) z.2.num (pk++c.p)) (λz y H H' h ex=>?_) (λz H' kk mz s4 hpl hk=>?_) (λys H4 s4 hp4 hys=>?_)
  ·obtain⟨c,e,n1,n2,⟨h1,h2⟩,h3,h4⟩:=h;exact⟨c,e,n1,n2,⟨ex _ _ n1 h1,ex _ _ n2 h2⟩,h3,h4⟩
  ·have hz:=bh mz;obtain⟨pz,hpz⟩:=TW.PathTo.ex tr.tr (bg hz);obtain⟨r,er⟩:=iy tr.tr hge hpk mz hpz;subst er;refine⟨_,rfl,_,rfl,d,z.2.num,zs,pk++r,rfl,nd3.same s4,(tr3.same s4).nod,tr.tr,by omega,hpz,λt2 H5 s5 ht2=>?_⟩;refine⟨_,rfl,_,rfl,jH ht2 λt3 H6 s6 ht3=>?_⟩;have s46:=(s4.trans s5).trans s6;refine⟨_,rfl,_,rfl,d,_,rfl,(nd3.same s46).get hnd hz,z.1,_,_,_,rfl,rfl,SqT.of ((tr3.same s46).nod z hz),at3 z.2,le2,λq1 hq1=>?_⟩;have s7:=af (o:=.tup [.ref t3,stV z.2.st]) hq1;have hpl6:∃ys,H6 p=some (.lst ys):=let⟨ys,e⟩:=hpl;⟨ys,s6 _ _ (s5 _ _ e)⟩;have ntp:t3≠p:=λe=>by obtain⟨ys,e'⟩:=hpl6;rw[←e,ht3]at e';cases e'
   exact hk _ _ ((s5.trans s6).trans s7) ⟨⟨q1,t3,r,stV z.2.st⟩,rfl,cr hpl6 hq1,ntp,⟨ac,s7 _ _ ht3⟩,rfl,hpz⟩
  ·obtain⟨bs,e1,e2,e3⟩:=cC (val:=λc:Cv=>V.ref c.a) (S:=λ(z:Addr×Nd) (c:Cv)=>nT H4 c∧c.v=stV z.2.st∧TW.PathTo (nds zs) z.2.num (pk++c.p)) hys (λz y _ ⟨c,e,_,_,h1,h2,h3⟩=>⟨c,e,h1,h2,h3⟩);have hbm:∀b∈bs,b.1∈bel zs k:=λb hb=>by rw[←e1];exact mem_map.mpr ⟨b,hb,rfl⟩
   have hbn:(bs.map λb=>b.1.2.num).Pairwise λa b:Int=>a<b:=by
    have:=ja tr.tr (isB zs k);rw[show zs.filter (isB zs k)=bs.map (·.1)from e1.symm]at this;unfold nums at this;rw[map_map]at this;exact this
   have hpn:((bs.map (·.2)).map (·.p)).Nodup:=by
    rw[map_map];unfold Nodup;rw[pairwise_map]at hbn⊢;refine hbn.imp_of_mem λ{a b} ha hb hab e=>?_;have h1:=(e3 a ha).2.2;have h2:=(e3 b hb).2.2;rw[show a.2.p=b.2.p from e]at h1;have:=h1.key tr.tr h2;omega
   have hbl2:(bs.map (·.2)).length≤30:=by rw[length_map];have:=congrArg length e1;rw[length_map]at this;omega
   have e2':ys=(bs.map (·.2)).map λc=>V.ref c.a:=by rw[e2,map_map];rfl
   rw[e2']at hp4;refine⟨p,bs.map (·.2),rfl,hp4,λc hc=>by obtain⟨b,hb,rfl⟩:=mem_map.mp hc;exact(e3 b hb).1,λc hc=>by obtain⟨b,hb,rfl⟩:=mem_map.mp hc;rw[(e3 b hb).2.1];exact mG _,hpn,by omega,λcs' hpm hup2 p2 hp2=>?_⟩;have s5:=af (o:=.lst (cs'.map λc=>V.ref c.a)) hp2;refine q p2 cs' _ ((((s1.trans s2).trans s3).trans s4).trans s5) ac ⟨λc hc=>?_,hup2,λpp v=>?_⟩
   ·obtain⟨b,hb,rfl⟩:=mem_map.mp (hpm.mem_iff.mp hc);exact⟨s5 _ _ (e3 b hb).1.1,s5 _ _ (e3 b hb).1.2⟩
   ·constructor
    ·rintro⟨c,hc,rfl,rfl⟩;obtain⟨b,hb,rfl⟩:=mem_map.mp (hpm.mem_iff.mp hc);exact⟨b.1,hbm b hb,(e3 b hb).2.1,(e3 b hb).2.2⟩
    ·rintro⟨z,hz,rfl,hpz⟩;have:z∈bs.map (·.1):=by rw[e1];exact hz
     obtain⟨b,hb,rfl⟩:=mem_map.mp this;refine⟨b.2,hpm.mem_iff.mpr (mem_map.mpr ⟨b,hb,rfl⟩),?_,(e3 b hb).2.1⟩;have:=(e3 b hb).2.2.uniq tr.tr hpz;exact List.append_cancel_left this
end
def kM:Str:=("deepest"++".<locals>.")++"<lambda>"
def pU(c:Addr):Sp:=λvs H Q _=>∃z:Cp,vs=[.ref z.a]∧dH H z∧H c=some (.ext (cdφ c kM))∧Q (.int (z.p.length:Int)) H
def ow(H:Hp)(v:V):Int:=match v with
 |.ref a=>match H a with
  |some (.tup [.ref t,_])=>match H t with
   |some (.tup xs)=>(xs.length:Int)
   |_=>0
  |_=>0
 |_=>0
theorem eX{H:Hp}{z:Cp}(h:dH H z):ow H (.ref z.a)=(z.p.length:Int):=by
 show(match H z.a with
  |some (.tup [.ref t,_])=>match H t with
   |some (.tup xs)=>(xs.length:Int)
   |_=>0
  | _=>0)=_
 rw[h.1];show(match H z.t with
   |some (.tup xs)=>(xs.length:Int)
   | _=>0)=_
 rw[h.2];show((z.p.map V.str).length:Int)=_;rw[length_map]
def qM(zs:ZN)(v:V):Prop:=(zs=[]∧v=.non)∨∃Hc cs i c,Wl Hc zs cs∧cs[i]?=some c∧v=.int c.n∧∀(j:Nat) c',cs[j]?=some c'→c'.p.length≤c.p.length∧(j<i→c'.p.length<c.p.length)
section
variable{P:Program}{w:World}{K:PySem.W.Frag}{mg:Str→Option Value}{base:Heap}{f c0 Pt:Addr}
def iz(Pt:Addr):Sp:=λvs H Q _=>∃t zs,vs=[.ref t]∧Tre H t zs∧dw H Pt kM∧∀v H',gH Pt H H'→dw H' Pt kM→qM zs v→Q v H'
theorem qO:FnScope ["tree"] ["tree"] (ag dq):=fsc
theorem pV{fd:FuncData}(F:Fun K "deepest" "deepest" dq f fd)(hc:fd.code=.ref c0)(T:Txt mg)(C0:CodeHd base c0 Pt)(Bm:BmB base mg)(CW:Has P w K mg base 2 "walked" ["tree"] mv):FnOk P w K mg base CX0 3 f fd ["tree"] (iz Pt):=by
 obtain⟨fW,fdW,GW,mW,kW,bW⟩:=CW;refine F.okT hc qO (λvs H Q E h=>?_) (λA outer s H vs Q E hr h=>?_)
 ·obtain⟨t,zs,rfl,_⟩:=h;rfl
 ·obtain⟨t,zs,rfl,tr,TQ,q⟩:=h;refine⟨_,ak (aP (aK aG (nR (k:=1) (y:="place") (qual:=kM) (spK:=λf c=>pU c) (key:=ow) C0 rfl Bm rfl rfl rfl rfl ?hK ?hbn hr rfl T.max (al GW hr rfl mW kW bW .nil aL (aa (pv 0) ae)) (aW (aa (aW ae) (aa bo ae)))) aj (λ_ _=>rfl))),?_⟩
  case hK =>
   intro base' f' c pm ctv sub ho;refine nQ (k:=0) (fs:=[]) (fv:=[]) ho (λvs H Q E h=>?_) ⟨rfl,rfl,rfl,by decide +kernel,λx hx=>?_,by decide +kernel,λx h=>?_,λx y c h=>by simp at h⟩ ⟨λx c h=>by simp at h,rfl,λi x v h=>by simp at h⟩ (λvs H Q E h=>?_) (λA outer s H vs Q E hr h=>?_)
   ·obtain⟨z,_,_,h,_⟩:=h;exact h
   ·have:x="place":=by simpa using hx
    subst this;rfl
   ·exact absurd rfl ((by decide +kernel:∀y∈_,y.2≠NameKind.free) _ (PySem.mem_of_lookup h))
   ·obtain⟨z,rfl,_⟩:=h;rfl
   ·obtain⟨z,rfl,hz,hc,q⟩:=h;refine⟨_,ap ao rfl T.len boot_len (aa (aK (r:=eu K) aG (pv 0) aj (λ_ _=>rfl)) ae),?_⟩;refine⟨_,rfl,z.a,_,_,_,rfl,rfl,SqT.of hz.1,bu (j:=0) rfl,z.t,_,rfl,.inr (SqT.of hz.2),?_⟩;rw[length_map];exact q
  case hbn=>exact λpm ctv c=>.all λus hl=>match us,hl with | [_],_=>rfl
  have hl:=tr.len;refine⟨_,rfl,t,zs,rfl,tr,λcs l H1 s1 wl hcl hl1=>?_⟩;refine⟨l,_,rfl,hl1,ca TQ s1,λf' c H2 off tq hc2=>?_⟩;have TQ1:=ca TQ s1;have hne:∀b u,H1 b=some u→(∀ps,u≠.tbl ps)→H2 b=some u:=λb u e n=>off b u (λz=>by
   obtain⟨ps,h1,_⟩:=TQ1;rw[z,h1]at e;exact n ps (Option.some.inj e).symm) e
  refine⟨zero_le _,λe1 he1=>?_⟩;have s3:=af (o:=.tup ([]:List V)) he1;refine⟨le2,λe2 he2=>?_⟩;have s4:=s3.trans (af (o:=.tup [.ref e1,.non]) he2);have g2:upd (upd H2 e1 (.tup [])) e2 (.tup [.ref e1,.non]) e2=some (.tup [.ref e1,.non]):=ac;generalize upd (upd H2 e1 (.tup [])) e2 (.tup [.ref e1,.non])=H3 at s4 g2⊢;have hl3:=s4 _ _ (hne _ _ hl1 λps e=>by cases e);have hcp:∀c∈cs,dH H3 c:=λc hc=>⟨s4 _ _ (hne _ _ (wl.at' c hc).1 λps e=>by cases e),s4 _ _ (hne _ _ (wl.at' c hc).2 λps e=>by cases e)⟩;have off3:gH Pt H H3:=λb u n e=>s4 _ _ (off b u n (s1 _ _ e));have tq3:=ca tq s4;refine⟨hl3,λx hx=>?_,λh0=>?_,λi x hx hb=>?_⟩
  ·obtain⟨c',hc',rfl⟩:=mem_map.mp hx;exact⟨c',rfl,hcp c' hc',s4 _ _ hc2,by rw[eX (hcp c' hc')],rfl⟩
  ·have hz:zs=[]:=by
    have:cs=[]:=List.map_eq_nil_iff.mp h0;rw[this]at hcl;exact length_eq_zero_iff.mp hcl.symm
   exact⟨e2,_,_,_,rfl,rfl,SqT.of g2,bu (j:=1) rfl,q _ H3 off3 tq3 (.inl ⟨hz,rfl⟩)⟩
  ·rw[getElem?_map]at hx;cases ec:cs[i]? with
   |none=>rw[ec]at hx;cases hx
   |some c' =>
    rw[ec]at hx;cases hx;have mc:=mem_of_getElem? ec;refine⟨c'.a,_,_,_,rfl,rfl,SqT.of (hcp c' mc).1,bu (j:=1) rfl,q _ H3 off3 tq3 (.inr ⟨H1,cs,i,c',wl,ec,rfl,λj c2 hj=>?_⟩)⟩;have hj':(cs.map λc=>V.ref c.a)[j]?=some (.ref c2.a):=by rw[getElem?_map,hj];rfl
    have hjl:j<(cs.map λc=>V.ref c.a).length:=(List.getElem?_eq_some_iff.mp hj').1;have:=hb j _ hjl hj';rw[eX (hcp c2 (mem_of_getElem? hj)),eX (hcp c' mc)]at this;exact⟨by omega,λh=>by have:=this.2 h;omega⟩
def jb(K:PySem.W.Frag):Sp:=λvs H Q _=>∃a k,vs=[.ref a,.int k]∧0≤k∧fH K H a∧∀r H',Same H H'→Q (.int r) H'
theorem pW:FnScope ["_law_script","_law_k"] ["_law_script","_law_k"] (ag lX):=fsc
theorem nV{f:Addr}{fd:FuncData}(F:Fun K "_law_cell" "_law_cell" lX f fd)(T:Txt mg):FnOk P w K mg base CX0 1 f fd ["_law_script","_law_k"] (jb K):=by
 refine F.ok pW (λvs H Q E h=>?_) (λcdv A outer s H vs Q E hr h=>?_)
 ·obtain⟨a,k,rfl,_⟩:=h;rfl
 ·obtain⟨a,k,rfl,hk,⟨ns,ea⟩,q⟩:=h;refine⟨_,ai (bM (az qm (pv 1) (ap ao rfl T.len boot_len (aa (pv 0) ae)) (aF _)) (ak (aP (aK cU (pv 0) (pv 1) (λ_ _=>rfl)))) aU)
   (ai (bM (az (iO hr.units0) (pv 0) (bc ae) (aF _)) (ak (aP aj)) aU)
   (ak (aP (aB aS (aB cb (aK cU (pv 0) (aB gg (pv 1) (ap ao rfl T.len boot_len (aa (pv 0) ae))) (λ_ _=>rfl)) aj) (pv 1))))),?_⟩
  refine⟨_,rfl,_,rfl,a,_,rfl,.inl (ea),_,_,rfl,rfl,_,rfl,?_⟩;rw[length_map]
  by_cases h:k<(ns.length:Int)
  ·rw[decide_eq_true h];obtain⟨j,ej⟩:=im hk h;exact ck ⟨_,rfl,_,rfl,a,_,_,_,rfl,rfl,ea,ej,q _ _ (Same.refl _)⟩
  ·rw[decide_eq_false h];refine bv ⟨_,rfl,zero_le _,λp hp=>⟨a,p,_,rfl,rfl,((af hp).seq ea),SqL.of ac,_,rfl,?_⟩⟩
   by_cases h0:ns=[]
   ·subst h0;exact ck (q _ _ (af hp))
   ·have hne:¬ns.map V.int=[]:=by simpa using h0
    rw[decide_eq_false hne];have hpos:0<ns.length:=List.length_pos_iff.mpr h0;have hm1:0≤k % (ns.length:Int):=Int.emod_nonneg _ (by omega);have hm2:k % (ns.length:Int)<ns.length:=Int.emod_lt_of_pos _ (by omega);obtain⟨j,ej⟩:=im hm1 hm2;have ej':atI (ns.map V.int) (k % ((ns.map V.int).length:Int))=some (.int j):=by rw[length_map];exact ej
    exact bv ⟨_,rfl,_,rfl,_,rfl,a,_,rfl,.inl (((af hp).seq ea)),_,_,rfl,rfl,by rw[length_map];omega,a,_,_,_,rfl,rfl,((af hp).seq ea),ej',_,_,rfl,rfl,.inr ⟨by decide,by decide⟩,_,rfl,_,_,rfl,rfl,q _ _ (af hp)⟩
def jc(K:PySem.W.Frag):Sp:=λvs H Q _=>∃a k m,vs=[.ref a,.int k,.int m]∧0≤k∧0<m∧fH K H a∧∀r H',0≤r→r<m→Same H H'→Q (.int r) H'
theorem mJ:FnScope ["_law_script","_law_k","_law_many","_law_drawn"] ["_law_script","_law_k","_law_many"] (ag lY):=fsc
theorem nW{f:Addr}{fd:FuncData}(F:Fun K "_law_pick" "_law_pick" lY f fd)(T:Txt mg)(C:Has P w K mg base 1 "_law_cell" ["_law_script","_law_k"] (jb K)):FnOk P w K mg base CX0 2 f fd ["_law_script","_law_k","_law_many"] (jc K):=by
 obtain⟨fC,fdC,GC,mC,kC,bC⟩:=C;refine F.ok mJ (λvs H Q E h=>?_) (λcdv A outer s H vs Q E hr h=>?_)
 ·obtain⟨a,k,m,rfl,_⟩:=h;rfl
 ·obtain⟨a,k,m,rfl,hk,hm,hS,q⟩:=h;refine⟨_,(ai (ax (i:=3) mJ.nd rfl (Or.inl rfl) (aB gg (aB cb (aB aS (al GC hr rfl mC kC bC .nil aL (aa (pv 0) (aa (pv 1) ae))) (aB cb aj (aB aS (pv 1) aj))) aj) aj))
   (ak (aP (aB gg (aB gg (aB aS (aB cb (pv 3) (pv 3)) (aB mX (pv 3) aj)) aj) (pv 2))))),?_⟩
  refine⟨_,rfl,_,rfl,a,k,rfl,hk,hS,λr H1 s1=>?_⟩;refine⟨_,rfl,_,_,rfl,rfl,_,_,rfl,rfl,.inl ⟨by decide,by decide⟩,_,_,rfl,rfl,_,_,rfl,rfl,.inr ⟨by decide,by decide⟩,_,_,rfl,rfl,(by decide:(0:Int)<2147483399),?_⟩;generalize hd:(r+6151*(k+1))*40692 % 2147483399=dr;have d0:0≤dr:=by rw[←hd];exact Int.emod_nonneg _ (by decide)
  have d1:dr<2147483399:=by rw[←hd];exact Int.emod_lt_of_pos _ (by decide)
  refine⟨_,rfl,_,rfl,_,_,rfl,rfl,.inl ⟨by omega,by omega⟩,_,rfl,_,_,rfl,rfl,⟨by decide,by decide⟩,_,_,rfl,rfl,_,_,rfl,rfl,(by decide:(0:Int)<2147483629),_,rfl,_,_,rfl,rfl,hm,?_⟩;exact q _ _ (Int.emod_nonneg _ (by omega)) (Int.emod_lt_of_pos _ hm) s1
def dR(K:PySem.W.Frag):Sp:=λvs H Q _=>∃a at' m,vs=[.ref a,.int at',.int m]∧0≤at'∧0≤m∧m≤9∧fH K H a∧∀t zs H',H' t=some (.tup (aX zs))→At H' zs→(zs.length:Int)≤m→TW.Tree (nds zs)→(∀z∈zs,pq z.2)→Same H H'→Q (.ref t) H'
theorem scB:FnScope ["_law_script","_law_at","_law_most","_law_left","_law_folders","_law_nodes","_law_k","_law_number","_law_parent","_law_name","_law_stamp"] ["_law_script","_law_at","_law_most"] (ag dt):=fsc
def buS(i:Nat):Stmt:=match (aY dt).getD 3 (.Pass ⟨0,0,0,0⟩)with
 |.For _ _ b _ _=>b.getD i (.Pass ⟨0,0,0,0⟩)
 |x=>x
abbrev BX(P:Program)(w:World)(K:PySem.W.Frag)(mg:Str→Option Value)(base:Heap)(f:Addr)(cdv:Value)(A:Around)(outer:List Env)(s:Shared)(H:Hp)(E:XK):Cx:=(dY CX0 P w K mg base ["_law_script","_law_at","_law_most","_law_left","_law_folders","_law_nodes","_law_k","_law_number","_law_parent","_law_name","_law_stamp"] "_law_tree" (ag dt) f cdv A outer s H E).nox
theorem qP{f:Addr}{cdv:Value}{A:Around}{outer:List Env}{s:Shared}{H0:Hp}{E:XK}(hr:Room 2 (A.deeper (PyProof.Rows.envOfC "_law_tree" (ag dt) s.heap.objs.size f cdv))):
  ∃t,PS (BX P w K mg base f cdv A outer s H0 E) (buS 5) t∧∀(D:Ends)(H H6:Hp)(pl pf pn:Addr)(x0 x1 x2 x6:Option V)(lf:List Int)(zs:ZN)(num par:Int)(nm:Str)(st:Option Int),Sta H pl pf pn H6 lf (0::TW.aq (nds zs)) zs→zs.length≤20 →
   (∀H',Sta H pl pf pn H' lf (0::TW.aq (nds zs)) zs→D.nx [x0,x1,x2,some (.ref pl),some (.ref pf),some (.ref pn),x6,some (.int num),some (.int par),some (.str nm),some (stV st)] H') →
   (∀q H',(∀z∈zs,¬(z.2.par=par∧z.2.nm=nm))→Sta H pl pf pn H' lf (0::TW.aq (nds (zs++[(q,⟨num,par,nm,st⟩)]))) (zs++[(q,⟨num,par,nm,st⟩)])→D.nx [x0,x1,x2,some (.ref pl),some (.ref pf),some (.ref pn),x6,some (.int num),some (.int par),some (.str nm),some (stV st)] H') →
   t D [x0,x1,x2,some (.ref pl),some (.ref pf),some (.ref pn),x6,some (.int num),some (.int par),some (.str nm),some (stV st)] H6:=by
 refine⟨_,bM (az (eZ (bQ hr)) (aW (aa (pv 8) (aa (pv 9) ae))) (dC (N:=["_law_node"]) (k:=1) (js:=[]) (g:=aQ 0) rfl (eJ rfl (by decide +kernel) (by decide +kernel) (by decide +kernel)) rfl (λi j x h=>by simp at h)
     (be (pv 5)) (λs H fp=>aD (i:=0) (show(["_law_node"]:List Str).Nodup by decide +kernel) rfl (Or.inl rfl) (Or.inr rfl))
     (λs H fp=>cT (r:=mZ K) gq (pv 0) (cS aj) (cS aj))) rfl) (ai (bt (dA plainAttrs_list PySem.F.slot_list_append PySem.F.type_list_append aO (pv 5) (aa (aW (aa (pv 7) (aa (pv 8) (aa (pv 9) (aa (pv 10) ae))))) ae))) (ak (bM (az gh (pv 10) bo (aF _)) (ak (bt (dA plainAttrs_list PySem.F.slot_list_append PySem.F.type_list_append aO (pv 4) (aa (pv 7) ae)))) aU))) aU,?_⟩
 intro D H H6 pl pf pn x0 x1 x2 x6 lf zs num par nm st A6 hzl qs qa;refine⟨_,rfl,_,rfl,le2,λq0 hq0=>?_⟩;have A7:=A6.grow (af (o:=.tup [.int par,.str nm]) hq0);have eq0:(upd H6 q0 (.tup [.int par,.str nm])) q0=some (.tup ([Sum.inl par,Sum.inr nm].map kV)):=ac;refine⟨_,rfl,pn,rfl,⟨_,SqL.of A7.n⟩,λp hp=>?_⟩;generalize upd H6 q0 (.tup [.int par,.str nm])=H7 at A7 eq0 hp⊢;refine oe (k:=1) (js:=[]) (J:=Itl K pn) (p:=p) zs.length (by omega) (λi ys σ' H'=>∃kss:List (Addr×List Key),ys=(kss.map (·.1)).map V.ref∧kss.map (·.2)=((nds zs).take i).map plK∧kss.length=i∧(∀z∈kss,H' z.1=some (.tup (z.2.map kV)))∧σ'.length=1∧Same H7 H'∧H' p=some (.lst ys))
  ⟨[],rfl,rfl,rfl,by simp,rfl,af hp,ac⟩ (λi ys σ' H' h=>?_) (λi ys σ' H' hi h=>?_) (λys σ' H' h=>?_) (λi ys σ' H' hi h v H2 hy=>?_) ?_ ?_
 ·obtain⟨kss,rfl,_,e,_⟩:=h;rw[length_map,length_map];omega
 ·obtain⟨_,_,_,_,_,_,s2,_⟩:=h;exact⟨_,_,SqL.of (s2 _ _ A7.n),eR (getElem?_eq_getElem hi)⟩
 ·obtain⟨kss,e1,e2,e3,e4,_,s2,e5⟩:=h;refine⟨⟨_,SqL.of (s2 _ _ A7.n),by rw[bj];exact le_refl _⟩,?_⟩;subst e1;refine⟨q0,p,_,kss,rfl,s2 _ _ eq0,rfl,SqL.of e5,e4,_,rfl,?_⟩;rw[List.take_of_length_le (by rw[aV];exact le_refl _)]at e2;have A8:=A7.grow s2;cases ea:(kss.any λz=>decide (z.2=[Sum.inl par,Sum.inr nm]))with
  |true=>exact bv (qs _ A8)
  |false =>
   have ho:∀z∈zs,¬(z.2.par=par∧z.2.nm=nm):=λz hz ⟨h1,h2⟩=>by
    have m1:plK z.2∈kss.map (·.2):=by rw[e2];exact mem_map.mpr ⟨z.2,mem_map.mpr ⟨z,hz,rfl⟩,rfl⟩
    obtain⟨y,hy,ey⟩:=mem_map.mp m1;have:(kss.any λz=>decide (z.2=[Sum.inl par,Sum.inr nm]))=true:=any_eq_true.mpr ⟨y,hy,by rw[decide_eq_true_eq,ey];unfold plK;rw[h1,h2]⟩;rw[ea]at this;cases this
   refine ck ⟨_,rfl,.inl ⟨rfl,_,SqL.of A8.n⟩,_,rfl,_,rfl,_,rfl,_,rfl,(show 4≤sizeLine from aR (by decide)),λq hq=>⟨pn,_,_,rfl,rfl,bi hq A8.n,aA (by rw[bj];omega),?_⟩⟩;have A9:=(A8.grow (af (o:=.tup (vals ⟨num,par,nm,st⟩)) hq)).node (n:=⟨num,par,nm,st⟩) ac;refine⟨_,rfl,rfl,_,rfl,?_⟩;cases st with
   |some i5 =>
    have ef:(0::TW.aq (nds zs))=(0:Int)::TW.aq (nds (zs++[(q,⟨num,par,nm,some i5⟩)])):=by simp[TW.aq,nds]
    rw[ef]at A9;exact bv (qa q _ ho A9)
   |none =>
    refine ck ⟨_,rfl,.inl ⟨rfl,_,SqL.of A9.f⟩,_,rfl,pf,_,_,rfl,rfl,A9.f,aA ?_,?_⟩
    ·have:=TW.bJ (nds zs);rw[aV]at this;rw[length_map,length_cons];omega
    ·have A10:=A9.fold num;have ef:(0::TW.aq (nds zs))++[num]=(0:Int)::TW.aq (nds (zs++[(q,⟨num,par,nm,none⟩)])):=by simp[TW.aq,nds]
     rw[ef]at A10;exact qa q _ ho A10
 ·obtain⟨kss,e1,e2,e3,e4,e0,s2,e5⟩:=h;obtain⟨o1,rfl⟩:=po e0;obtain⟨rfl,hx⟩:=hy;have gx:=hx _ (SqL.of (s2 _ _ A7.n));obtain⟨z1,g1,rfl⟩:=cw gx;have m1:=mem_of_getElem? g1;have ecut:gU (vals z1.2) (some 1) (some 3)=[.int z1.2.par,.str z1.2.nm]:=rfl;refine⟨_,rfl,_,rfl,_,rfl,z1.1,_,rfl,SqT.of (s2 _ _ (A7.nd z1 m1)),(λh=>by have h1:(1:Nat)=0:=h.1;cases h1),λq hq=>?_⟩;rw[ecut];refine⟨bi hq e5,kss++[(q,plK z1.2)],by rw[e1];simp,?_,by simp[e3],?_,rfl,aE hp (s2.trans (af hq)),ac⟩
  ·rw[map_append,e2,take_succ,show(nds zs)[i]?=some z1.2 by unfold nds;rw[getElem?_map,g1];rfl,map_append];rfl
  ·intro z hz;have hqp:q≠p:=λz=>by rw[z,e5]at hq;cases hq
   rcases mem_append.mp hz with hz|hz
   ·have:=bi (o:=.tup [.int z1.2.par,.str z1.2.nm]) hq (e4 z hz);rw[ah]
    ·exact this
    ·intro e;rw[e,ah (symm hqp),e5]at this;cases this
   ·have e:z=(q,plK z1.2):=by simpa using hz
    subst e;rw[ah hqp];exact ac
 ·rintro _ _ _ _ _ m h;exact m _ _ h
 ·rintro _ _ _ _ m ⟨v1,b0,i1,b1,i2,b2,a2,x2,c1,c2,c3,q⟩;exact⟨v1,b0,i1,b1,i2,b2,a2,x2,c1,c2,c3,λp hp=>m _ _ (q p hp)⟩
theorem mM{f:Addr}{fd:FuncData}(F:Fun K "_law_tree" "_law_tree" dt f fd)(T:Txt mg)(C:Has P w K mg base 2 "_law_pick" ["_law_script","_law_k","_law_many"] (jc K)):FnOk P w K mg base CX0 3 f fd ["_law_script","_law_at","_law_most"] (dR K):=by
 obtain⟨fP,fdP,GP,mP,kP,bP⟩:=C;refine F.ok scB (λvs H Q E h=>?_) (λcdv A outer s H vs Q E hr h=>?_)
 ·obtain⟨a,at',m,rfl,_⟩:=h;rfl
 ·obtain⟨a,at',m,rfl,ha0,hm0,hm9,hS,k⟩:=h;obtain⟨t5,p5,h5⟩:=qP (P:=P) (w:=w) (mg:=mg) (base:=base) (f:=f) (cdv:=cdv) (A:=A) (outer:=outer) (s:=s) (H0:=H) (E:=E) hr;refine⟨_,(ai (ax (i:=3) scB.nd rfl (Or.inl rfl) (bw (fc rfl) rfl T.list rfl (aa (bw kd rfl T.range rfl (aa aj (aa (aB aS (pv 2) aj) ae))) ae)))
    (ai (ax (i:=4) scB.nd rfl (Or.inl rfl) (bc (aa aj ae)))
    (ai (ax (i:=5) scB.nd rfl (Or.inl rfl) (bc ae))
    (ai (dS PassesOwn.never rfl (jP rfl T.range (aa (al GP hr rfl mP kP bP .nil aL (aa (pv 0) (aa (pv 1) (aa (aB aS (pv 2) aj) ae)))) ae)) (aD (i:=6) scB.nd rfl (Or.inl rfl))
    (ai (ax (i:=7) scB.nd rfl (Or.inl rfl) (dA plainAttrs_list slot_list_pop type_list_pop lr (pv 3) (aa (al GP hr rfl mP kP bP .nil aL (aa (pv 0) (aa (aB aS (aB aS (pv 1) aj) (aB cb aj (pv 6))) (aa (ap ao rfl T.len boot_len (aa (pv 3) ae)) ae)))) ae)))
    (ai (ax (i:=8) scB.nd rfl (Or.inl rfl) (aK cU (pv 4) (al GP hr rfl mP kP bP .nil aL (aa (pv 0) (aa (aB aS (aB aS (pv 1) aj) (aB cb aj (pv 6))) (aa (ap ao rfl T.len boot_len (aa (pv 4) ae)) ae)))) (λ_ _=>rfl)))
    (ai (ax (i:=9) scB.nd rfl (Or.inl rfl) (aK cU (bc (aa fZ (aa fZ (aa fZ (aa fZ ae))))) (al GP hr rfl mP kP bP .nil aL (aa (pv 0) (aa (aB aS (aB aS (pv 1) aj) (aB cb aj (pv 6))) (aa aj ae)))) (λ_ _=>rfl)))
    (ai (ax (i:=10) scB.nd rfl (Or.inl rfl) bo)
    (ai (bM (az nY (al GP hr rfl mP kP bP .nil aL (aa (pv 0) (aa (aB aS (aB aS (pv 1) aj) (aB cb aj (pv 6))) (aa aj ae)))) aj (aF _)) (ak (ax (i:=10) scB.nd rfl (Or.inl rfl) (aK cU (bc (aa aj (aa aj (aa aj (aa aj ae))))) (al GP hr rfl mP kP bP .nil aL (aa (pv 0) (aa (aB aS (aB aS (pv 1) aj) (aB cb aj (pv 6))) (aa aj ae)))) (λ_ _=>rfl)))) aU)
    (ak p5)))))))
    (ak (aP (bw cG rfl T.tuple rfl (aa (ap dj rfl T.sorted boot_sorted (aa (pv 5) ae)) ae)))))))),?_⟩
  refine⟨_,rfl,_,_,rfl,rfl,_,_,rfl,λp1 hp1=>⟨p1,_,_,rfl,ac,⟨by decide,by decide,by omega,by omega⟩,by omega,λpl hpl=>?_⟩⟩;refine⟨aR (by decide),λpf hpf=>⟨zero_le _,λpn hpn=>?_⟩⟩;have s0:Same H (upd (upd (upd (upd H p1 (.rng 1 (m+4))) pl (.lst ((List.range (m+4-1:Int).toNat).map λk=>V.int (1+(k:Nat))))) pf (.lst [.int 0])) pn (.lst [])):=(((af hp1).trans (af hpl)).trans (af hpf)).trans (af hpn);have hfl:pl≠pf:=λe=>by rw[←e,ac]at hpf;cases hpf
  have hln:pl≠pn:=λe=>by rw[←e,ah hfl,ac]at hpn;cases hpn
  have hfn:pf≠pn:=λe=>by rw[←e,ac]at hpn;cases hpn
  have A0:Sta H pl pf pn (upd (upd (upd (upd H p1 (.rng 1 (m+4))) pl (.lst ((List.range (m+4-1:Int).toNat).map λk=>V.int (1+(k:Nat))))) pf (.lst [.int 0])) pn (.lst [])) (lf0 m) [0] [] :=
   ⟨s0,by rw[ah hln,ah hfl,ac,lf0,map_map];rfl,by rw[ah hfn,ac];rfl,ac,λz hz=>by simp at hz,(af hp1).free hpl,((af hp1).trans (af hpl)).free hpf,(((af hp1).trans (af hpl)).trans (af hpf)).free hpn,hfl,hln,hfn⟩
  have B0:Bd [] (lf0 m):=Bd.zero hm9;refine⟨_,rfl,_,rfl,_,rfl,_,_,rfl,rfl,a,_,_,rfl,ha0,by omega,hS.same s0,λr H1 r0 r1 s1=>⟨r,rfl,by omega,by omega,?_⟩⟩;refine jR (n:=r.toNat) (λi σ H'=>∃lf zs o6 o7 o8 o9 o10,σ=[some (.ref a),some (.int at'),some (.int m),some (.ref pl),some (.ref pf),some (.ref pn),o6,o7,o8,o9,o10]∧Sta H pl pf pn H' lf (0::TW.aq (nds zs)) zs∧Bd zs lf∧(lf.length:Int)+i=m+3∧zs.length≤i)
   ⟨_,[],_,_,_,_,_,rfl,A0.grow s1,B0,by rw[nI hm0];omega,le_refl _⟩ (λi σ H' hi h=>?_) (λσ H' h=>?_)
  ·obtain⟨lf,zs,o6,o7,o8,o9,o10,rfl,A1,B,hlf,hzl⟩:=h;have hi8:i<10:=by omega
   have z0:(0:Int)≤at'+1+6*(0+(i:Int)):=by omega
   refine⟨_,rfl,.inl ⟨rfl,_,SqL.of A1.l⟩,_,rfl,_,rfl,_,_,rfl,rfl,_,rfl,_,_,rfl,rfl,.inl ⟨by decide,by decide⟩,_,_,rfl,rfl,_,rfl,pl,_,rfl,.inl (SqL.of A1.l),a,_,_,rfl,by omega,by rw[length_map];omega,hS.same A1.same,λj H2 j0 j1 s2=>?_⟩;rw[length_map]at j1;have A2:=A1.grow s2;obtain⟨num,gnum⟩:∃num,lf[j.toNat]?=some num:=⟨_,getElem?_eq_getElem (by omega)⟩;refine⟨pl,_,j,j.toNat,.int num,rfl,rfl,A2.l,by omega,by omega,by rw[length_map];exact pr j0 j1,by rw[getElem?_map,gnum];rfl,?_⟩;rw[fJ];have A3:=A2.pop (lf.eraseIdx j.toNat);have elen:(lf.eraseIdx j.toNat).length=lf.length-1:=List.length_eraseIdx_of_lt (by omega);generalize upd H2 pl (.lst ((lf.eraseIdx j.toNat).map V.int))=H3 at A3⊢;refine⟨_,rfl,_,rfl,_,rfl,_,_,rfl,rfl,_,rfl,_,_,rfl,rfl,.inl ⟨by decide,by decide⟩,_,_,rfl,rfl,_,rfl,pf,_,rfl,.inl (SqL.of A3.f),a,_,_,rfl,by omega,by rw[length_map,length_cons];omega,hS.same A3.same,λj2 H4 j20 j21 s4=>?_⟩;rw[length_map]at j21;obtain⟨par,mpar,gpar⟩:=nF j20 j21;have A4:=A3.grow s4;refine⟨pf,_,_,_,rfl,rfl,SqL.of A4.f,gpar,?_⟩;refine⟨aR (by decide),λp3 hp3=>?_⟩;have A5:=A4.grow (af (o:=.lst [.str "a",.str "b",.str "c",.str "abcde"]) hp3);refine⟨_,rfl,_,rfl,_,_,rfl,rfl,_,rfl,_,_,rfl,rfl,.inl ⟨by decide,by decide⟩,_,_,rfl,rfl,a,_,_,rfl,by omega,by decide,hS.same A5.same,λj3 H5 j30 j31 s5=>?_⟩;obtain⟨nm,hnm,gnm⟩:=nG j30 j31;refine⟨p3,_,_,_,rfl,rfl,SqL.of (s5 _ _ ac),gnm,?_⟩;have A6:=A5.grow s5;refine⟨_,rfl,_,rfl,_,_,rfl,rfl,_,rfl,_,_,rfl,rfl,.inl ⟨by decide,by decide⟩,_,_,rfl,rfl,a,_,_,rfl,by omega,by decide,hS.same A6.same,λj4 H6 j40 j41 s6=>⟨_,_,rfl,rfl,_,rfl,?_⟩⟩;have A6':=A6.grow s6;refine rk (λhgt=>?_) (λhgt=>?_)
   ·refine⟨aR (by decide),λp5 hp5=>?_⟩;have A65:=A6'.grow (af (o:=.lst [.int 0,.int 1,.int 2,.int 999]) hp5);refine⟨_,rfl,_,rfl,_,_,rfl,rfl,_,rfl,_,_,rfl,rfl,.inl ⟨by decide,by decide⟩,_,_,rfl,rfl,a,_,_,rfl,by omega,by decide,hS.same A65.same,λj5 H65 j50 j51 s65=>?_⟩;obtain⟨i5,hst5,gst⟩:=nH j50 j51;refine⟨p5,_,_,_,rfl,rfl,SqL.of (s65 _ _ ac),gst,?_⟩;have A66:=A65.grow s65;exact h5 _ H H65 pl pf pn _ _ _ _ (lf.eraseIdx j.toNat) zs num par nm (some i5) A66 (by omega) (λH' A8=>⟨_,zs,_,_,_,_,_,rfl,A8,B.skip _,by rw[elen];omega,by omega⟩)
     (λq H' ho A9=>⟨_,_,_,_,_,_,_,rfl,A9,B.add (q:=q) (n:=⟨num,par,nm,(some i5)⟩) gnum mpar ho hnm hst5,by rw[elen];omega,by rw[length_append,length_singleton];omega⟩)
   ·exact h5 _ H H6 pl pf pn _ _ _ _ (lf.eraseIdx j.toNat) zs num par nm none A6' (by omega) (λH' A8=>⟨_,zs,_,_,_,_,_,rfl,A8,B.skip _,by rw[elen];omega,by omega⟩)
     (λq H' ho A9=>⟨_,_,_,_,_,_,_,rfl,A9,B.add (q:=q) (n:=⟨num,par,nm,none⟩) gnum mpar ho hnm (.inl rfl),by rw[elen];omega,by rw[length_append,length_singleton];omega⟩)
  ·obtain⟨lf,zs,o6,o7,o8,o9,o10,rfl,A1,B,hlf,hzl⟩:=h;have hzl8:(zs.length:Int)≤m:=by omega
   have hnum:(zs.map tp).map (·.2.1)=(nds zs).map (·.num):=by
    unfold nds;simp only[map_map];rfl
   have hnd:((nds zs).map (·.num)).Nodup:=(List.nodup_append.mp B.nd).1;refine⟨_,rfl,pn,zs.map tp,rfl,SqL.of (by rw[A1.n,jw]),λz hz=>?_,by rw[hnum];exact hnd,by rw[length_map];omega,λts pm up p hp=>?_⟩
   ·obtain⟨y,hy,rfl⟩:=mem_map.mp hz;exact A1.nd y hy
   ·obtain⟨pm2,eb⟩:=back pm;have er:(ts.map (·.1)).map V.ref=aX (ts.map un):=by rw[←jw,eb]
    rw[er];refine⟨p,_,rfl,.inl ⟨SqL.of ac,λl hl=>?_⟩⟩;have mem:∀z,z∈ts.map un→z∈zs:=λz hz=>pm2.mem_iff.mp hz;refine k l (ts.map un) _ ac ?_ (by rw[pm2.length_eq];exact hzl8) ?_ (λz hz=>B.ok z (mem z hz)) ((A1.same.trans (af hp)).trans (af hl))
    ·intro z hz;exact((af hp).trans (af hl)) _ _ (A1.nd z (mem z hz))
    ·refine TW.nC B.built (pm2.map _) ?_ hnd B.own;unfold nds;rw[pairwise_map];have up2:((ts.map un).map tp).Pairwise (λa b=>a.2.1<b.2.1):=by rw[eb];exact up
     rw[pairwise_map]at up2;exact up2.imp λh=>Int.le_of_lt h
end
def UN:List Str:=["_law_script","_law_tree_here","_law_book_here","_law_folder","_law_one","_law_some","_law_stamps","_law_ahead","_law_due","_law_path_here","_law_longest"]
theorem scU:FnScope UN ["_law_script"] (ag bH):=fsc
abbrev UX(P:Program)(w:World)(K:PySem.W.Frag)(mg:Str→Option Value)(base:Heap)(f:Addr)(cdv:Value)(A:Around)(outer:List Env)(s:Shared)(H:Hp)(E:XK):Cx:=(dY CX0 P w K mg base UN "law" (ag bH) f cdv A outer s H E).nox
def uS(i:Nat):Stmt:=(aY bH).getD i (.Pass ⟨0,0,0,0⟩)
def ubS(i:Nat):Stmt:=match uS 2 with
 |.For _ _ b _ _=>b.getD i (.Pass ⟨0,0,0,0⟩)
 |_=>.Pass ⟨0,0,0,0⟩
abbrev uσ(a t d:Addr)(x3 x4 x5 x6 x7 x8 x9 x10:Option V):St:=[some (.ref a),some (.ref t),some (.ref d),x3,x4,x5,x6,x7,x8,x9,x10]
theorem gL{Pt:Addr}{q:Str}{H H':Hp}(T:dw H Pt q)(o:gH Pt H H'){b:Addr}{u:HO}(e:H b=some u)(n:∀ps,u≠.tbl ps):H' b=some u:=o b u (λz=>by
 obtain⟨ps,h1,_⟩:=T;rw[z,h1]at e;exact n ps (Option.some.inj e).symm) e
structure UF(H:Hp)(PD t d:Addr)(zs:ZN)(as:List (Addr×(Addr×Nd))):Prop where
 tr:Tre H t zs
 bk:Book H d as zs
 dz:∃o,H d=some (.frz o (.dK (bn as)))
 tab:dw H PD kM
 gd:∀z∈zs,pq z.2
section
variable{H H':Hp}{PD t d:Addr}{zs:ZN}{as:List (Addr×(Addr×Nd))}
theorem UF.same(h:UF H PD t d zs as)(s:Same H H'):UF H' PD t d zs as:=⟨h.tr.same s,h.bk.same s,let⟨o,e⟩:=h.dz;⟨o,s _ _ e⟩,ca h.tab s,h.gd⟩
theorem UF.nd(h:UF H PD t d zs as):((nds zs).map (·.num)).Nodup:=bb h.tr.tr
theorem UF.keys(h:UF H PD t d zs as):(bn as).map (λp=>kV p.1)=zs.map λz=>V.int z.2.num:=by
 rw[nL,iW,←h.bk.of];simp only[map_map];rfl
end
section
variable{P:Program}{w:World}{K:PySem.W.Frag}{mg:Str→Option Value}{base:Heap}{f PD:Addr}{cdv:Value}{A:Around}{outer:List Env}{s:Shared}{H0:Hp}{E:XK}
theorem ub0(hr:Room 4 (A.deeper (PyProof.Rows.envOfC "law" (ag bH) s.heap.objs.size f cdv)))(CU:Has P w K mg base 1 "_law_under" ["_law_book_here","_law_number","_law_goal"] fV):
  ∃rd,PS (UX P w K mg base f cdv A outer s H0 E) (ubS 0) rd∧∀(D:Ends)(H:Hp)(a t d:Addr)(zs:ZN)(as:List (Addr×(Addr×Nd)))(k:Int)(x4 x5 x6 x7 x8 x9 x10:Option V),UF H PD t d zs as→ix zs k →
   (∀l H',Same H H'→H' l=some (.lst ((nums (bel zs k)).map V.int))→D.nx (uσ a t d (some (.int k)) x4 (some (.ref l)) x6 x7 x8 x9 x10) H')→rd D (uσ a t d (some (.int k)) x4 x5 x6 x7 x8 x9 x10) H:=by
 obtain⟨fU,fdU,GU,mU,kU,bU⟩:=CU;have hr1:Room 1 _:=hr.mono (by decide);refine⟨_,dm (ii:=5) (N:=["_law_one","_law_book_here","_law_folder"]) (cl:=[("_law_folder",s.heap.objs.size+2),("_law_book_here",s.heap.objs.size+1)]) (k:=1) (js:=[2,3]) (g:=aQ 0) scU.nd rfl (Or.inl rfl) rfl (LcOk.mk' ["_law_folder","_law_book_here"] rfl rfl (by decide +kernel) (by decide +kernel) ?hcl rfl (by decide +kernel)) rfl ?hj (lH (pv 2)) (λs H fp=>aD (i:=0) (show(["_law_one","_law_book_here","_law_folder"]:List Str).Nodup by decide +kernel) rfl (Or.inl rfl) (Or.inr rfl))
    (λs H fp=>PW.pt (pw_and (az cQ (pv 0) (pv 2) (aF _)) (pw_and1 (oD (al (X:=aT _ _ _ _ _ _ _) GU hr1 rfl mU kU bU .nil aL (aa (pv 1) (aa (pv 0) (aa (pv 2) ae)))) (λ_=>rfl))))) (λs H fp=>pv 0),?_⟩
 case hcl =>
  intro y hy;rcases mem_cons.mp hy with e|hy
  ·rw[e];rfl
  ·skip
   rcases mem_cons.mp hy with e|hy
   ·rw[e];rfl
   ·skip
    cases hy
 case hj =>
  intro i j x h1 h2
  match i,h1,h2 with
  |0,h1,h2 =>
   cases h1;cases h2;exact⟨rfl,Or.inr (Or.inl rfl),(show((ag bH).names.lookup ("_law_book_here":Str)≠some NameKind.local)by decide +kernel),by first|exact Or.inl rfl|exact Or.inr rfl⟩
  |1,h1,h2 =>
   cases h1;cases h2;exact⟨rfl,Or.inr (Or.inl rfl),(show((ag bH).names.lookup ("_law_folder":Str)≠some NameKind.local)by decide +kernel),by first|exact Or.inl rfl|exact Or.inr rfl⟩
  |i+2,h1,h2=>simp at h1
 intro D H a t d zs as k x4 x5 x6 x7 x8 x9 x10 L hk q;have hl:=L.tr.len;have hge:=gK L.tr.tr hk;obtain⟨o,ho⟩:=L.dz;refine⟨_,rfl,d,o,_,rfl,ho,λp hp=>?_⟩;rw[L.keys];refine gD (fr:=[some (.ref d),some (.int k)]) zs (λz=>V.int z.2.num) (by omega) hp (by have:=il (ks:=zs.map λz=>V.int z.2.num) ho;exact this) rfl (isB zs k) (λz y _=>y=.int z.2.num) (λ_ _ _ _ h _=>h) (λz H' kk mz s1 _ hk'=>?_) (λz H' kk mz _ s1 _ hk'=>?_) (λys H1 s1 hp1 hys=>?_)
 ·have hri:=TW.fX L.tr.tr hge (bg mz);refine⟨_,rfl,_,rfl,rfl,_,rfl,?_⟩
  by_cases e:z.2.num=k
  ·rw[show(!decide (V.int z.2.num=V.int k))=false by simp[e]];have hb:isB zs k z=false:=by
    cases hb:isB zs k z with
    |false=>rfl
    |true=>exact absurd e (hri.mp (cE.mp hb)).1
   rw[hb]at hk';exact bv (hk' H' (Same.refl _))
  ·rw[show(!decide (V.int z.2.num=V.int k))=true by simp[e]];obtain⟨pz,hpz⟩:=TW.PathTo.ex L.tr.tr (bg mz);refine ck ⟨_,rfl,_,rfl,_,rfl,d,z.2.num,k,as,zs,pz,rfl,L.bk.same s1,L.tr.tr,hpz,λb hb=>⟨b,rfl,?_⟩⟩;have eb:b=isB zs k z:=by
    rw[Bool.eq_iff_iff,hb,cE,hri];exact⟨λh=>⟨e,h⟩,λh=>h.2⟩
   rw[eb];exact hk' H' (Same.refl _)
 ·exact⟨_,rfl,hk' _ H' (Same.refl _) rfl⟩
 ·have ey:=bG (f:=λz:Addr×Nd=>V.int z.2.num) hys (λz y _ h=>h);exact q p H1 s1 (by rw[hp1,ey];exact congrArg (λx=>some (HO.lst x)) (bd _))
theorem ub1(hr:Room 4 (A.deeper (PyProof.Rows.envOfC "law" (ag bH) s.heap.objs.size f cdv))):
  ∃rd,PS (UX P w K mg base f cdv A outer s H0 E) (ubS 1) rd∧∀(D:Ends)(H:Hp)(a t d l:Addr)(zs:ZN)(as:List (Addr×(Addr×Nd)))(k:Int)(x4 x6 x7 x8 x9 x10:Option V),UF H PD t d zs as→H l=some (.lst ((nums (bel zs k)).map V.int)) →
   (∀sl H',Same H H'→H' sl=some (.lst ((sts zs k).map V.int))→D.nx (uσ a t d (some (.int k)) x4 (some (.ref l)) (some (.ref sl)) x7 x8 x9 x10) H')→rd D (uσ a t d (some (.int k)) x4 (some (.ref l)) x6 x7 x8 x9 x10) H:=by
 refine⟨_,dm (ii:=6) (N:=["_law_one","_law_book_here"]) (cl:=[("_law_book_here",s.heap.objs.size+1)]) (k:=1) (js:=[2]) (g:=aQ 0) scU.nd rfl (Or.inl rfl) rfl (LcOk.mk' ["_law_book_here"] rfl rfl (by decide +kernel) (by decide +kernel) ?hcl rfl (by decide +kernel)) rfl ?hj (be (pv 5)) (λs H fp=>aD (i:=0) (show(["_law_one","_law_book_here"]:List Str).Nodup by decide +kernel) rfl (Or.inl rfl) (Or.inr rfl))
    (λs H fp=>az dJ (aK (r:=eu K) aG (aZ (bQ hr) (pv 1) (pv 0) (λ_ _=>rfl)) aj (λ_ _=>rfl)) bo (aF _)) (λs H fp=>(aK (r:=eu K) aG (aZ (bQ hr) (pv 1) (pv 0) (λ_ _=>rfl)) aj (λ_ _=>rfl))),?_⟩
 case hcl =>
  intro y hy;rcases mem_cons.mp hy with e|hy
  ·rw[e];rfl
  ·skip
   cases hy
 case hj =>
  intro i j x h1 h2
  match i,h1,h2 with
  |0,h1,h2 =>
   cases h1;cases h2;exact⟨rfl,Or.inr (Or.inl rfl),(show((ag bH).names.lookup ("_law_book_here":Str)≠some NameKind.local)by decide +kernel),by first|exact Or.inl rfl|exact Or.inr rfl⟩
  |i+1,h1,h2=>simp at h1
 intro D H a t d l zs as k x4 x6 x7 x8 x9 x10 L hl q;have hlen:=L.tr.len;have hbl:=dQ zs k;refine⟨_,rfl,l,rfl,⟨_,SqL.of hl⟩,λp hp=>?_⟩;refine gD (fr:=[some (.ref d)]) (bel zs k) (λz=>V.int z.2.num) (by omega) hp (cB (by rw[show((bel zs k).map λz=>V.int z.2.num)=(nums (bel zs k)).map V.int from bd _];exact SqL.of hl)) rfl isF (λz y _=>y=.int (z.2.st.getD 0)) (λ_ _ _ _ h _=>h) (λz H' kk mz s1 _ hk=>?_) (λz H' kk mz hf s1 _ hk=>?_) (λys H1 s1 hp1 hys=>?_)
 ·obtain⟨b,hb1,hb2⟩:=(L.bk.same s1).get L.nd (bh mz);refine⟨_,rfl,_,rfl,d,_,rfl,hb1,b,_,_,_,rfl,rfl,SqT.of hb2,px z.2,rfl,_,rfl,?_⟩;have e:(!decide (stV z.2.st=V.non))=isF z:=by
   unfold isF;cases z.2.st<;>simp[stV]
  rw[e];exact hk H' (Same.refl _)
 ·obtain⟨b,hb1,hb2⟩:=(L.bk.same s1).get L.nd (bh mz);obtain⟨i,ei⟩:=mw hf;refine⟨_,rfl,_,rfl,d,_,rfl,hb1,b,_,_,_,rfl,rfl,SqT.of hb2,px z.2,hk _ H' (Same.refl _) ?_⟩;rw[ei];rfl
 ·have ey:=bG (f:=λz:Addr×Nd=>V.int (z.2.st.getD 0)) hys (λz y _ h=>h);exact q p H1 s1 (by rw[hp1,ey];unfold sts;rw[map_map];rfl)
theorem iA(zs:ZN)(k:Int):(iw zs k).all cF=true:=rfl
theorem ub2(T:Txt mg)(hr:Room 4 (A.deeper (PyProof.Rows.envOfC "law" (ag bH) s.heap.objs.size f cdv)))(CT:Has P w K mg base 3 "total" ["tree","number"] eW):
  ∃rd,PS (UX P w K mg base f cdv A outer s H0 E) (ubS 2) rd∧∀(D:Ends)(H:Hp)(a t d l sl:Addr)(zs:ZN)(as:List (Addr×(Addr×Nd)))(k:Int)(x4 x7 x8 x9 x10:Option V),UF H PD t d zs as→H l=some (.lst ((nums (bel zs k)).map V.int))→H sl=some (.lst ((sts zs k).map V.int))→0≤k→k≤60→ix zs k →
   (∀H',Same H H'→D.nx (uσ a t d (some (.int k)) x4 (some (.ref l)) (some (.ref sl)) x7 x8 x9 x10) H')→rd D (uσ a t d (some (.int k)) x4 (some (.ref l)) (some (.ref sl)) x7 x8 x9 x10) H:=by
 obtain⟨fT,fdT,GT,mT,kT,bT⟩:=CT;have hr3:Room 3 _:=hr.mono (by decide);have hu4:=iT hr;refine⟨_,bM (az (lN hu4) (al GT hr3 rfl mT kT bT .nil aL (aa (pv 1) (aa (pv 3) ae))) (aW (aa (aB la (ap ao rfl T.len boot_len (aa (pv 5) ae)) (ap ao rfl T.len boot_len (aa (pv 6) ae))) (aa (ap ao rfl T.len boot_len (aa (pv 6) ae)) (aa (ap (cH rfl) rfl T.sum boot_sum (aa (pv 6) ae)) ae)))) (aF _)) cy aU,?_⟩;intro D H a t d l sl zs as k x4 x7 x8 x9 x10 L hl hsl k0 k1 hk q;refine⟨_,rfl,_,rfl,t,k,zs,rfl,L.tr,k0,k1,hk,λt' H1 s1 ht'=>?_⟩;refine⟨_,rfl,l,_,rfl,.inl (SqL.of (s1 _ _ hl)),_,rfl,sl,_,rfl,.inl (SqL.of (s1 _ _ hsl)),_,_,rfl,rfl,?_⟩;refine⟨_,rfl,sl,_,rfl,.inl (SqL.of (s1 _ _ hsl)),_,rfl,sl,_,rfl,s1 _ _ hsl,(show 3≤sizeLine from aR (by decide)),λt2 ht2=>?_⟩;refine .inr ⟨t',t2,iw zs k,iw zs k,rfl,rfl,eV (iA _ _),.inr ⟨bi ht2 ht',?_⟩,_,rfl,bv (q _ (s1.trans (af ht2)))⟩;rw[ac];unfold iw;simp only[length_map,iu]
theorem ub3(T:Txt mg)(hr:Room 4 (A.deeper (PyProof.Rows.envOfC "law" (ag bH) s.heap.objs.size f cdv)))(CL:Has P w K mg base 1 "_law_path" ["_law_book_here","_law_number"] ir):
  ∃rd,PS (UX P w K mg base f cdv A outer s H0 E) (ubS 3) rd∧∀(D:Ends)(H:Hp)(a t d:Addr)(zs:ZN)(as:List (Addr×(Addr×Nd)))(k:Int)(pk:List Str)(x4 x5 x6 x7 x8 x9 x10:Option V),UF H PD t d zs as→TW.PathTo (nds zs) k pk →
   (∀H',Same H H'→D.nx (uσ a t d (some (.int k)) x4 x5 x6 (some (.int (pk.length:Int))) x8 x9 x10) H')→rd D (uσ a t d (some (.int k)) x4 x5 x6 x7 x8 x9 x10) H:=by
 obtain⟨fL,fdL,GL,mL,kL,bL⟩:=CL;have hr1:Room 1 _:=hr.mono (by decide);refine⟨_,ax (i:=7) scU.nd rfl (Or.inr rfl) (ap ao rfl T.len boot_len (aa (al GL hr1 rfl mL kL bL .nil aL (aa (pv 2) (aa (pv 3) ae))) ae)),?_⟩;intro D H a t d zs as k pk x4 x5 x6 x7 x8 x9 x10 L hpk q;refine⟨_,rfl,_,rfl,d,k,as,zs,pk,rfl,L.bk,L.tr.tr,L.tr.len,hpk,λt1 H1 s1 ht1=>⟨t1,_,rfl,.inr (SqT.of ht1),?_⟩⟩;rw[length_map];exact q H1 s1
structure DuAt(H:Hp)(zs:ZN)(k:Int)(pk:List Str)(cs:List Cp):Prop where
 at':∀c∈cs,dH H c
 up:cs.Pairwise λa b=>HT.ba a.p b.p=true
 mem:∀p n,(∃c∈cs,c.p=p∧c.n=n)↔∃z∈bel zs k,z.2.num=n∧TW.PathTo (nds zs) n (pk++p)
 len:cs.length≤30
theorem ub4(T:Txt mg)(hr:Room 4 (A.deeper (PyProof.Rows.envOfC "law" (ag bH) s.heap.objs.size f cdv)))(CL:Has P w K mg base 1 "_law_path" ["_law_book_here","_law_number"] ir):
  ∃rd,PS (UX P w K mg base f cdv A outer s H0 E) (ubS 4) rd∧∀(D:Ends)(H:Hp)(a t d l:Addr)(zs:ZN)(as:List (Addr×(Addr×Nd)))(k:Int)(pk:List Str)(x4 x6 x8 x9 x10:Option V),UF H PD t d zs as→ix zs k→TW.PathTo (nds zs) k pk→H l=some (.lst ((nums (bel zs k)).map V.int)) →
   (∀dl cs H',Same H H'→H' dl=some (.lst (cs.map λc=>V.ref c.a))→DuAt H' zs k pk cs→D.nx (uσ a t d (some (.int k)) x4 (some (.ref l)) x6 (some (.int (pk.length:Int))) (some (.ref dl)) x9 x10) H')→rd D (uσ a t d (some (.int k)) x4 (some (.ref l)) x6 (some (.int (pk.length:Int))) x8 x9 x10) H:=by
 obtain⟨fL,fdL,GL,mL,kL,bL⟩:=CL;have hr1:Room 1 _:=hr.mono (by decide);refine⟨_,ax (i:=8) scU.nd rfl (Or.inl rfl) (ap (bp (gJ hr)) rfl T.sorted boot_sorted (aa (dC (N:=["_law_one","_law_ahead","_law_book_here"]) (cl:=[("_law_book_here",s.heap.objs.size+1),("_law_ahead",s.heap.objs.size+3)]) (k:=1) (js:=[7,2]) (g:=aQ 0) rfl (LcOk.mk' ["_law_book_here","_law_ahead"] rfl rfl (by decide +kernel) (by decide +kernel) ?hcl rfl (by decide +kernel)) rfl ?hj (be (pv 5)) (λs H fp=>aD (i:=0) (show(["_law_one","_law_ahead","_law_book_here"]:List Str).Nodup by decide +kernel) rfl (Or.inl rfl) (Or.inr rfl))
    (λs H fp=>aW (aa (cT (r:=pS K) (gq.or eI) (al (X:=aT _ _ _ _ _ _ _) GL hr1 rfl mL kL bL .nil aL (aa (pv 2) (aa (pv 0) ae))) (cS (pv 1)) gp) (aa (pv 0) ae)))) ae)),?_⟩
 case hcl =>
  intro y hy;rcases mem_cons.mp hy with e|hy
  ·rw[e];rfl
  ·skip
   rcases mem_cons.mp hy with e|hy
   ·rw[e];rfl
   ·skip
    cases hy
 case hj =>
  intro i j x h1 h2
  match i,h1,h2 with
  |0,h1,h2 =>
   cases h1;cases h2;exact⟨rfl,Or.inr (Or.inl rfl),(show((ag bH).names.lookup ("_law_ahead":Str)≠some NameKind.local)by decide +kernel),by first|exact Or.inl rfl|exact Or.inr rfl⟩
  |1,h1,h2 =>
   cases h1;cases h2;exact⟨rfl,Or.inr (Or.inl rfl),(show((ag bH).names.lookup ("_law_book_here":Str)≠some NameKind.local)by decide +kernel),by first|exact Or.inl rfl|exact Or.inr rfl⟩
  |i+2,h1,h2=>simp at h1
 intro D H a t d l zs as k pk x4 x6 x8 x9 x10 L hk hpk hl q;have hlen:=L.tr.len;have hbl:=dQ zs k;have hge:=gK L.tr.tr hk;refine⟨_,rfl,l,rfl,⟨_,SqL.of hl⟩,λp hp=>?_⟩;refine dN (fr:=[some (.int (pk.length:Int)),some (.ref d)]) (bel zs k) (λz=>V.int z.2.num) (by omega) hp (cB (by rw[show((bel zs k).map λz=>V.int z.2.num)=(nums (bel zs k)).map V.int from bd _];exact SqL.of hl)) rfl (λz y H'=>∃c:Cp,y=.ref c.a∧c.a≠p∧c.t≠p∧dH H' c∧c.n=z.2.num∧TW.PathTo (nds zs) z.2.num (pk++c.p)) (λz y H H' h ex=>?_) (λz H' kk mz s4 hpl hk=>?_) (λys H4 s4 hp4 hys=>?_)
 ·obtain⟨c,e,n1,n2,⟨h1,h2⟩,h3,h4⟩:=h;exact⟨c,e,n1,n2,⟨ex _ _ n1 h1,ex _ _ n2 h2⟩,h3,h4⟩
 ·have hz:=bh mz;obtain⟨pz,hpz⟩:=TW.PathTo.ex L.tr.tr (bg hz);obtain⟨r,er⟩:=iy L.tr.tr hge hpk mz hpz;subst er;refine⟨_,rfl,_,rfl,d,z.2.num,as,zs,pk++r,rfl,L.bk.same s4,L.tr.tr,L.tr.len,hpz,λt2 H5 s5 ht2=>?_⟩;refine⟨_,rfl,_,rfl,jH ht2 λt3 H6 s6 ht3=>?_⟩;refine⟨_,rfl,le2,λq1 hq1=>?_⟩;have s7:=af (o:=.tup [.ref t3,.int z.2.num]) hq1;have hpl6:∃ys,H6 p=some (.lst ys):=let⟨ys,e⟩:=hpl;⟨ys,s6 _ _ (s5 _ _ e)⟩;have ntp:t3≠p:=λe=>by obtain⟨ys,e'⟩:=hpl6;rw[←e,ht3]at e';cases e'
  exact hk _ _ ((s5.trans s6).trans s7) ⟨⟨q1,t3,r,z.2.num⟩,rfl,cr hpl6 hq1,ntp,⟨ac,s7 _ _ ht3⟩,rfl,hpz⟩
 ·obtain⟨bs,e1,e2,e3⟩:=cC (val:=λc:Cp=>V.ref c.a) (S:=λ(z:Addr×Nd) (c:Cp)=>dH H4 c∧c.n=z.2.num∧TW.PathTo (nds zs) z.2.num (pk++c.p)) hys (λz y _ ⟨c,e,_,_,h1,h2,h3⟩=>⟨c,e,h1,h2,h3⟩);have hbm:∀b∈bs,b.1∈bel zs k:=λb hb=>by rw[←e1];exact mem_map.mpr ⟨b,hb,rfl⟩
  have hbn:(bs.map λb=>b.1.2.num).Pairwise λa b:Int=>a<b:=by
   have:=ja L.tr.tr (isB zs k);rw[show zs.filter (isB zs k)=bs.map (·.1)from e1.symm]at this;unfold nums at this;rw[map_map]at this;exact this
  have hpn:((bs.map (·.2)).map (·.p)).Nodup:=by
   rw[map_map];unfold Nodup;rw[pairwise_map]at hbn⊢;refine hbn.imp_of_mem λ{a b} ha hb hab e=>?_;have h1:=(e3 a ha).2.2;have h2:=(e3 b hb).2.2;rw[show a.2.p=b.2.p from e]at h1;have:=h1.key L.tr.tr h2;omega
  have hbl2:(bs.map (·.2)).length≤30:=by rw[length_map];have:=congrArg length e1;rw[length_map]at this;omega
  have e2':ys=(bs.map (·.2)).map λc=>V.ref c.a:=by rw[e2,map_map];rfl
  rw[e2']at hp4;refine⟨p,bs.map (·.2),rfl,hp4,λc hc=>by obtain⟨b,hb,rfl⟩:=mem_map.mp hc;exact(e3 b hb).1,hpn,by omega,λcs' hpm hup2 p2 hp2=>?_⟩;have s5:=af (o:=.lst (cs'.map λc=>V.ref c.a)) hp2;refine q p2 cs' _ (s4.trans s5) ac ⟨λc hc=>?_,hup2,λpp n=>?_,by rw[hpm.length_eq];exact hbl2⟩
  ·obtain⟨b,hb,rfl⟩:=mem_map.mp (hpm.mem_iff.mp hc);exact⟨s5 _ _ (e3 b hb).1.1,s5 _ _ (e3 b hb).1.2⟩
  ·constructor
   ·rintro⟨c,hc,rfl,rfl⟩;obtain⟨b,hb,rfl⟩:=mem_map.mp (hpm.mem_iff.mp hc);have h3:=e3 b hb;exact⟨b.1,hbm b hb,h3.2.1.symm,by rw[h3.2.1];exact h3.2.2⟩
   ·rintro⟨z,hz,rfl,hpz⟩;have:z∈bs.map (·.1):=by rw[e1];exact hz
    obtain⟨b,hb,rfl⟩:=mem_map.mp this;refine⟨b.2,hpm.mem_iff.mpr (mem_map.mpr ⟨b,hb,rfl⟩),?_,(e3 b hb).2.1⟩;have:=(e3 b hb).2.2.uniq L.tr.tr hpz;exact List.append_cancel_left this
end
theorem jI{zs:ZN}(h:((nds zs).map (·.num)).Nodup){u z:Addr×Nd}(hu:u∈zs)(hz:z∈zs)(e:u.2.num=z.2.num):u=z:=fR (g:=λz:Addr×Nd=>z.2.num) (by unfold nds at h;rw[map_map]at h;exact h) hu hz e
theorem jJ{α:Type}{l m:List (List Str×α)}(hl:l.Pairwise λa b=>HT.ba a.1 b.1=true)(hm:m.Pairwise λa b=>HT.ba a.1 b.1=true)(h:∀x,x∈l↔x∈m):l=m :=
 cL (R:=λa b:List Str×α=>HT.ba a.1 b.1=true) (λa=>by rw[HT.bE];simp) (λa b h1 h2=>by
  have:=HT.dM h1 h2;rw[HT.bE]at this;cases this) hl hm h
theorem Wl.pn{H H':Hp}{zs:ZN}{cs cs':List Cp}(w:Wl H zs cs)(w':Wl H' zs cs'):cs.map (λc=>(c.p,c.n))=cs'.map (λc=>(c.p,c.n)):=by
 refine jJ (pairwise_map.mpr w.up) (pairwise_map.mpr w'.up) λx=>?_;have m:∀{H:Hp}{ds:List Cp},Wl H zs ds→(x∈ds.map (λc=>(c.p,c.n))↔∃z∈zs,z.2.num=x.2∧TW.PathTo (nds zs) x.2 x.1):=λ{H ds} v=>by
  rw[←v.mem x.1 x.2,mem_map];constructor
  ·rintro⟨c,hc,rfl⟩;exact⟨c,hc,rfl,rfl⟩
  ·rintro⟨c,hc,e1,e2⟩;exact⟨c,hc,by rw[e1,e2]⟩
 rw[m w,m w']
def fj(cs:List Cp)(n i:Nat)(c:Cp):Prop:=cs[i]?=some c∧∀(j:Nat) c',j<n→cs[j]?=some c'→c'.p.length≤c.p.length∧(j<i→c'.p.length<c.p.length)
theorem fj.one{cs:List Cp}{i j:Nat}{c c':Cp}(h:fj cs cs.length i c)(h':fj cs cs.length j c'):c=c':=by
 have li:=(List.getElem?_eq_some_iff.mp h.1).1;have lj:=(List.getElem?_eq_some_iff.mp h'.1).1;have h1:=h.2 j c' lj h'.1;have h2:=h'.2 i c li h.1;have:i=j:=by
  rcases Nat.lt_trichotomy i j with z|z|z
  ·have:=h2.2 z;omega
  ·exact z
  ·have:=h1.2 z;omega
 subst this;have:=h.1.symm.trans h'.1;exact Option.some.inj this
section
variable{P:Program}{w:World}{K:PySem.W.Frag}{mg:Str→Option Value}{base:Heap}{f PD:Addr}{cdv:Value}{A:Around}{outer:List Env}{s:Shared}{H0:Hp}{E:XK}
theorem ub5(hr:Room 4 (A.deeper (PyProof.Rows.envOfC "law" (ag bH) s.heap.objs.size f cdv)))(CS:Has P w K mg base 3 "shape" ["tree","number"] fY):
  ∃rd,PS (UX P w K mg base f cdv A outer s H0 E) (ubS 5) rd∧∀(D:Ends)(H:Hp)(a t d dl:Addr)(zs:ZN)(as:List (Addr×(Addr×Nd)))(k:Int)(pk:List Str)(cs:List Cp)(x4 x5 x6 x7 x9 x10:Option V),UF H PD t d zs as→0≤k→k≤60→ix zs k→TW.PathTo (nds zs) k pk→H dl=some (.lst (cs.map λc=>V.ref c.a))→DuAt H zs k pk cs →
   (∀H',Same H H'→D.nx (uσ a t d (some (.int k)) x4 x5 x6 x7 (some (.ref dl)) x9 x10) H')→rd D (uσ a t d (some (.int k)) x4 x5 x6 x7 (some (.ref dl)) x9 x10) H:=by
 obtain⟨fS,fdS,GS,mS,kS,bS⟩:=CS;have hr3:Room 3 _:=hr.mono (by decide);have hu4:=iT hr;refine⟨_,bM (az (lN hu4) (al GS hr3 rfl mS kS bS .nil aL (aa (pv 1) (aa (pv 3) ae))) (dC (N:=["_law_path_here","_law_one","_law_book_here"]) (cl:=[("_law_book_here",s.heap.objs.size+1)]) (k:=2) (js:=[2]) (g:=qg K 2 (kR (aQ 0) (kR (aQ 1) qf))) rfl (LcOk.mk' ["_law_book_here"] rfl rfl (by decide +kernel) (by decide +kernel) ?hcl rfl (by decide +kernel)) rfl ?hj (be (pv 8)) (λs H fp=>kX (n:=2) rfl (cN (aD (i:=0) (show(["_law_path_here","_law_one","_law_book_here"]:List Str).Nodup by decide +kernel) rfl (Or.inl rfl) (Or.inr rfl)) (cN (aD (i:=1) (show(["_law_path_here","_law_one","_law_book_here"]:List Str).Nodup by decide +kernel) rfl (Or.inl rfl) (Or.inr rfl)) jd)))
    (λs H fp=>aW (aa (pv 0) (aa (aK (r:=eu K) aG (aZ (bQ hr) (pv 2) (pv 1) (λ_ _=>rfl)) aj (λ_ _=>rfl)) ae)))) (aF _)) cy aU,?_⟩
 case hcl =>
  intro y hy;rcases mem_cons.mp hy with e|hy
  ·rw[e];rfl
  ·skip
   cases hy
 case hj =>
  intro i j x h1 h2
  match i,h1,h2 with
  |0,h1,h2 =>
   cases h1;cases h2;exact⟨rfl,Or.inr (Or.inl rfl),(show((ag bH).names.lookup ("_law_book_here":Str)≠some NameKind.local)by decide +kernel),by first|exact Or.inl rfl|exact Or.inr rfl⟩
  |i+1,h1,h2=>simp at h1
 intro D H a t d dl zs as k pk cs x4 x5 x6 x7 x9 x10 L k0 k1 hk hpk hdl du q;have hnd:=L.nd;have hcl:=du.len;refine⟨_,rfl,_,rfl,t,k,zs,pk,rfl,L.tr,k0,k1,hk,hpk,λl vs H1 s1 hl1 sh=>?_⟩;have hdl1:=s1 _ _ hdl;refine⟨_,rfl,dl,rfl,⟨_,SqL.of hdl1⟩,λp hp=>?_⟩;refine md (fr:=[some (.ref d)]) cs (λc=>V.ref c.a) (by omega) hp (cB (SqL.of hdl1)) ⟨[none,none],rfl,rfl⟩ (λc y H'=>∃q z,y=.ref q∧q≠p∧z∈bel zs k∧z.2.num=c.n∧H' q=some (.tup [.ref c.t,stV z.2.st])) (λc y H H' h ex=>?_) (λc σ0 H' kk hσ mc s2 hpl hk'=>?_) (λys H2 s2 hp2 hys=>?_)
 ·obtain⟨q,z,e1,ne,h1,h2,h3⟩:=h;exact⟨q,z,e1,ne,h1,h2,ex q _ ne h3⟩
 ·obtain⟨x0,x1,rfl⟩:=ph hσ;have h1:=(du.at' c mc).1;obtain⟨z,hz,ez,_⟩:=(du.mem c.p c.n).mp ⟨c,mc,rfl,rfl⟩;refine⟨c.a,_,rfl,SqT.of (s2 _ _ (s1 _ _ h1)),rfl,_,_,rfl,_,_,rfl,rfl,?_⟩;obtain⟨b,hb1,hb2⟩:=((L.bk.same s1).same s2).get hnd (bh hz);rw[ez]at hb1;refine⟨_,rfl,_,rfl,_,rfl,d,_,rfl,hb1,b,_,_,_,rfl,rfl,SqT.of hb2,px z.2,le2,λq1 hq1=>?_⟩;exact hk' _ _ _ ⟨[some (.ref c.t),some (.int c.n)],rfl,rfl⟩ (af hq1) ⟨q1,z,rfl,cr hpl hq1,hz,ez,ac⟩
 ·obtain⟨bs,e1,e2,e3⟩:=cC (val:=λx:Addr×V=>V.ref x.1) (S:=λ(c:Cp) (x:Addr×V)=>H2 x.1=some (.tup [.ref c.t,x.2])∧∃z∈bel zs k,z.2.num=c.n∧x.2=stV z.2.st) hys (λc y _ ⟨q,z,e,_,hz,ez,h⟩=>⟨(q,stV z.2.st),e,h,z,hz,ez,rfl⟩);have hbc:∀b∈bs,b.1∈cs:=λb hb=>by rw[←e1];exact mem_map.mpr ⟨b,hb,rfl⟩
  have eP:vs.map (λc=>(c.p,c.v))=bs.map (λb=>(b.1.p,b.2.2)):=by
   refine jJ (pairwise_map.mpr sh.up) ?_ λx=>?_
   ·have:=du.up;rw[←e1,pairwise_map]at this;exact pairwise_map.mpr this
   ·have m1:x∈vs.map (λc=>(c.p,c.v))↔∃z∈bel zs k,x.2=stV z.2.st∧TW.PathTo (nds zs) z.2.num (pk++x.1):=by
     rw[←sh.mem x.1 x.2,mem_map];constructor
     ·rintro⟨c,hc,rfl⟩;exact⟨c,hc,rfl,rfl⟩
     ·rintro⟨c,hc,h1,h2⟩;exact⟨c,hc,by rw[h1,h2]⟩
    rw[m1,mem_map];constructor
    ·rintro⟨z,hz,ev,hpz⟩;obtain⟨c,hc,ep,en⟩:=(du.mem x.1 z.2.num).mpr ⟨z,hz,rfl,hpz⟩;have:c∈bs.map (·.1):=by rw[e1];exact hc
     obtain⟨b,hb,rfl⟩:=mem_map.mp this;obtain⟨_,z',hz',ez',ev'⟩:=e3 b hb;have:=jI hnd (bh hz') (bh hz) (ez'.trans en);subst this;exact⟨b,hb,by rw[ep,ev',←ev]⟩
    ·rintro⟨b,hb,rfl⟩;obtain⟨_,z',hz',ez',ev'⟩:=e3 b hb;obtain⟨z,hz,ez,hpz⟩:=(du.mem b.1.p b.1.n).mp ⟨b.1,hbc b hb,rfl,rfl⟩;have:=jI hnd (bh hz') (bh hz) (ez'.trans ez.symm);subst this;exact⟨z',hz',ev',by rw[ez'];exact hpz⟩
  have hlen:vs.length=bs.length:=by
   have:=congrArg length eP
   rwa [length_map,length_map]at this
  refine .inr ⟨l,p,vs.map λc=>V.ref c.a,ys,rfl,rfl,⟨by rw[e2,length_map,length_map,hlen],λi x y hx hy=>?_⟩,.inl ⟨s2 _ _ hl1,hp2⟩,_,rfl,bv (q _ (s1.trans s2))⟩;rw[e2,getElem?_map]at hy;rw[getElem?_map]at hx;cases ec:vs[i]? with
  |none=>rw[ec]at hx;cases hx
  |some c =>
   cases eb:bs[i]? with
   |none=>rw[eb]at hy;cases hy
   |some b =>
    rw[ec]at hx;rw[eb]at hy;cases hx;cases hy;have ek:(c.p,c.v)=(b.1.p,b.2.2):=by
     have h1:(vs.map (λc=>(c.p,c.v)))[i]?=some (c.p,c.v):=by rw[getElem?_map,ec];rfl
     have h2:(bs.map (λb=>(b.1.p,b.2.2)))[i]?=some (b.1.p,b.2.2):=by rw[getElem?_map,eb];rfl
     rw[eP,h2]at h1;exact(Option.some.inj h1).symm
    injection ek with ek1 ek2
    obtain⟨h3,h4⟩:=sh.at' c (mem_of_getElem? ec);obtain⟨h1,z,hz,ez,ev⟩:=e3 b (mem_of_getElem? eb);have h5:=(du.at' b.1 (hbc b (mem_of_getElem? eb))).2;refine .inr ⟨c.a,b.2.1,_,_,rfl,rfl,s2 _ _ h3,h1,rfl,λj x' y' hx' hy'=>?_⟩
    match j,hx',hy' with
    |0,hx',hy' =>
     cases hx';cases hy';refine .inr ⟨c.t,b.1.t,_,_,rfl,rfl,s2 _ _ h4,s2 _ _ (s1 _ _ h5),by rw[ek1],λj x' y' hx' hy'=>?_⟩;rw[ek1,hy']at hx';cases hx';obtain⟨u,_,rfl⟩:=mem_map.mp (mem_of_getElem? hy');exact cJ ⟨rfl,rfl⟩
    |1,hx',hy' =>
     cases hx';cases hy';refine cJ ⟨ek2,?_⟩;rw[ek2,ev];exact(mG _).1
    |j+2,hx',hy'=>simp at hx'
end
def isD(z:Addr×Nd):Bool:=!isF z
theorem nX{zs:ZN}(T:TW.Tree1 (nds zs)):bel zs 0=zs:=List.filter_eq_self.mpr λz hz=>cE.mpr (T.down z.2 (bg hz))
theorem fj.move{cs cs':List Cp}{i:Nat}{c':Cp}(e:cs'.map (λc=>(c.p,c.n))=cs.map (λc=>(c.p,c.n)))(h:fj cs' cs'.length i c'):∃c2,fj cs cs.length i c2∧c2.n=c'.n:=by
 have hl:cs'.length=cs.length:=by have:=congrArg length e;rwa [length_map,length_map]at this
 have get:∀(j:Nat) c,cs[j]?=some c→∃d,cs'[j]?=some d∧d.p=c.p∧d.n=c.n:=λj c hj=>by
  have h1:(cs.map (λc=>(c.p,c.n)))[j]?=some (c.p,c.n):=by rw[getElem?_map,hj];rfl
  rw[←e,getElem?_map]at h1;cases hd:cs'[j]? with
  |none=>rw[hd]at h1;cases h1
  |some d =>
   rw[hd]at h1;have:=Option.some.inj h1;injection this with a b
   exact⟨d,rfl,a,b⟩
 have li:=(List.getElem?_eq_some_iff.mp h.1).1;have hc:cs[i]?=some (cs[i]'(by omega)):=getElem?_eq_getElem (by omega);obtain⟨d,hd,dp,dn⟩:=get i _ hc;have ed:d=c':=Option.some.inj (hd.symm.trans h.1);subst ed;refine⟨_,⟨hc,λj c2 hj hc2=>?_⟩,dn.symm⟩;obtain⟨d2,hd2,dp2,_⟩:=get j c2 hc2;have:=h.2 j d2 (by omega) hd2;rw[dp2,dp]at this;exact this
section
variable{P:Program}{w:World}{K:PySem.W.Frag}{mg:Str→Option Value}{base:Heap}{f PD:Addr}{cdv:Value}{A:Around}{outer:List Env}{s:Shared}{H0:Hp}{E:XK}
theorem us2(T:Txt mg)(hr:Room 4 (A.deeper (PyProof.Rows.envOfC "law" (ag bH) s.heap.objs.size f cdv)))(CU:Has P w K mg base 1 "_law_under" ["_law_book_here","_law_number","_law_goal"] fV)(CT:Has P w K mg base 3 "total" ["tree","number"] eW)(CL:Has P w K mg base 1 "_law_path" ["_law_book_here","_law_number"] ir)(CS:Has P w K mg base 3 "shape" ["tree","number"] fY):
  ∃rd,PS (UX P w K mg base f cdv A outer s H0 E) (uS 2) rd∧∀(D:Ends)(H:Hp)(a t d:Addr)(zs:ZN)(as:List (Addr×(Addr×Nd)))(x3 x4 x5 x6 x7 x8 x9 x10:Option V),UF H PD t d zs as →
   (∀x3 x5 x6 x7 x8 H',Same H H'→D.nx (uσ a t d x3 x4 x5 x6 x7 x8 x9 x10) H')→rd D (uσ a t d x3 x4 x5 x6 x7 x8 x9 x10) H:=by
 obtain⟨r0,p0,h0⟩:=ub0 (PD:=PD) (outer:=outer) (H0:=H0) (E:=E) hr CU;obtain⟨r1,p1,h1⟩:=ub1 (P:=P) (w:=w) (K:=K) (mg:=mg) (base:=base) (PD:=PD) (outer:=outer) (H0:=H0) (E:=E) hr;obtain⟨r2,p2,h2⟩:=ub2 (PD:=PD) (outer:=outer) (H0:=H0) (E:=E) T hr CT;obtain⟨r3,p3,h3⟩:=ub3 (PD:=PD) (outer:=outer) (H0:=H0) (E:=E) T hr CL;obtain⟨r4,p4,h4⟩:=ub4 (PD:=PD) (outer:=outer) (H0:=H0) (E:=E) T hr CL;obtain⟨r5,p5,h5⟩:=ub5 (PD:=PD) (outer:=outer) (H0:=H0) (E:=E) hr CS;refine⟨_,dS PassesOwn.never rfl (be (aB ls (bc (aa aj ae)) (oY (N:=["_law_node"]) (cl:=[]) (k:=1) (js:=[]) (g:=aQ 0) rfl (eJ rfl (by decide +kernel) (by decide +kernel) (by decide +kernel)) rfl (λi j x h=>by simp at h) (gc (pv 1)) (λs H fp=>aD (i:=0) (show(["_law_node"]:List Str).Nodup by decide +kernel) rfl (Or.inl rfl) (Or.inr rfl))
    (λs H fp=>az gh (aK (r:=eu K) aG (pv 0) aj (λ_ _=>rfl)) bo (aF _)) (λs H fp=>aK (r:=eu K) aG (pv 0) aj (λ_ _=>rfl))))) (aD (i:=3) scU.nd rfl (Or.inr rfl)) (ai p0 (ai p1 (ai p2 (ai p3 (ai p4 (ak p5)))))),?_⟩
 intro D H a t d zs as x3 x4 x5 x6 x7 x8 x9 x10 L q;have hl:=L.tr.len;refine⟨aR (show 1≤1000 by decide),λc1 hc1=>?_⟩;have s1:=af (o:=.lst [.int 0]) hc1;have g1:upd H c1 (.lst [.int 0]) c1=some (.lst [.int 0]):=ac;generalize upd H c1 (.lst [.int 0])=H1 at s1 g1⊢;have L1:=L.same s1;refine⟨_,rfl,t,rfl,⟨_,SqT.of L1.tr.tup⟩,λp hp=>?_⟩;refine gD (fr:=[]) zs (λz=>V.ref z.1) (by omega) hp (nB (by rw[lV];exact SqT.of L1.tr.tup)) rfl isD (λz y _=>y=.int z.2.num) (λ_ _ _ _ h _=>h) (λz H' k mz s2 _ hk=>?_) (λz H' k mz _ s2 _ hk=>?_) (λys H2 s2 hp2 hys=>?_)
 ·refine⟨_,rfl,z.1,_,_,_,rfl,rfl,SqT.of (s2 _ _ (L1.tr.nod z mz)),at3 z.2,rfl,_,rfl,?_⟩;have e:decide (stV z.2.st=V.non)=isD z:=by
   unfold isD isF;cases z.2.st<;>simp[stV]
  rw[e];exact hk H' (Same.refl _)
 ·exact⟨_,rfl,z.1,_,_,_,rfl,rfl,SqT.of (s2 _ _ (L1.tr.nod z mz)),at0 z.2,hk _ H' (Same.refl _) rfl⟩
 have ey:=bG (f:=λz:Addr×Nd=>V.int z.2.num) hys (λz y _ h=>h);have e2:ys=(nums (zs.filter isD)).map V.int:=by rw[ey];exact bd _
 rw[e2]at hp2;have hfl:=length_filter_le isD zs;refine⟨c1,p,_,_,rfl,rfl,s2 _ _ g1,hp2,aR (by rw[length_map,iu];show 1+_≤1000;omega),λl hl0=>?_⟩;have s3:=(s1.trans s2).trans (af (o:=.lst ([.int 0]++(nums (zs.filter isD)).map V.int)) hl0);have gl:upd H2 l (.lst ([.int 0]++(nums (zs.filter isD)).map V.int)) l=some (.lst ((0::nums (zs.filter isD)).map V.int)):=ac;generalize upd H2 l (.lst ([.int 0]++(nums (zs.filter isD)).map V.int))=H3 at s3 gl⊢;have L3:=L.same s3;refine⟨l,rfl,⟨_,SqL.of gl⟩,dU (xs:=(0::nums (zs.filter isD)).map V.int) (λi σ H'=>∃x3 x5 x6 x7 x8,σ=uσ a t d x3 x4 x5 x6 x7 x8 x9 x10∧Same H3 H') ⟨_,_,_,_,_,rfl,Same.refl _⟩ (λi σ H' _ h=>?_) (λi x σ H' hx h=>?_) (λσ H' h=>?_)⟩
 ·obtain⟨_,_,_,_,_,_,s4⟩:=h;exact SqL.of (s4 _ _ gl)
 ·obtain⟨x3,x5,x6,x7,x8,rfl,s4⟩:=h;obtain⟨k,hk,rfl⟩:=mem_map.mp (mem_of_getElem? hx);have L4:=L3.same s4;have hk':ix zs k:=by
   rcases mem_cons.mp hk with e|hk
   ·exact .inl e
   ·obtain⟨z,hz,e⟩:=mem_map.mp hk;have:=mem_filter.mp hz;refine .inr ⟨z,this.1,e,?_⟩;have h2:=this.2;unfold isD isF at h2;cases es:z.2.st with
    |none=>rfl
    |some i=>rw[es]at h2;cases h2
  have kb:0≤k∧k≤60:=by
   rcases hk' with e|⟨z,hz,e,_⟩
   ·omega
   ·have g:=L.gd z hz;have g1:=g.1;have g2:=g.2.1;omega
  obtain⟨pk,hpk⟩:∃pk,TW.PathTo (nds zs) k pk:=by
   rcases hk' with e|⟨z,hz,e,_⟩
   ·subst e;exact⟨[],.top⟩
   ·obtain⟨pz,hpz⟩:=TW.PathTo.ex L.tr.tr (bg hz);exact⟨pz,by rw[←e];exact hpz⟩
  refine h0 _ H' a t d zs as k x4 x5 x6 x7 x8 x9 x10 L4 hk' λl5 H5 s5 hl5=>?_;have L5:=L4.same s5;refine h1 _ H5 a t d l5 zs as k x4 x6 x7 x8 x9 x10 L5 hl5 λsl H6 s6 hsl=>?_;have L6:=L5.same s6;refine h2 _ H6 a t d l5 sl zs as k x4 x7 x8 x9 x10 L6 (s6 _ _ hl5) hsl kb.1 kb.2 hk' λH7 s7=>?_;have L7:=L6.same s7;refine h3 _ H7 a t d zs as k pk x4 _ _ x7 x8 x9 x10 L7 hpk λH8 s8=>?_;have L8:=L7.same s8;refine h4 _ H8 a t d l5 zs as k pk x4 _ x8 x9 x10 L8 hk' hpk (s8 _ _ (s7 _ _ (s6 _ _ hl5))) λdl cs H9 s9 hdl du=>?_;refine h5 _ H9 a t d dl zs as k pk cs x4 _ _ _ x9 x10 (L8.same s9) kb.1 kb.2 hk' hpk hdl du λH10 s10=>?_;exact⟨_,_,_,_,_,rfl,((((((s4.trans s5).trans s6).trans s7).trans s8).trans s9).trans s10)⟩
 ·obtain⟨x3,x5,x6,x7,x8,rfl,s4⟩:=h;exact q x3 x5 x6 x7 x8 H' (s3.trans s4)
def Lng(H:Hp)(cs:List Cp)(n:Nat)(x:Option V):Prop:=(n=0∧x=some .non)∨∃j c lg,fj cs n j c∧j<n∧x=some (.ref lg)∧H lg=some (.tup [.int (c.p.length:Int),.int c.n])
theorem us4(T:Txt mg)(hr:Room 4 (A.deeper (PyProof.Rows.envOfC "law" (ag bH) s.heap.objs.size f cdv)))(CL:Has P w K mg base 1 "_law_path" ["_law_book_here","_law_number"] ir):
  ∃rd,PS (UX P w K mg base f cdv A outer s H0 E) (uS 4) rd∧∀(D:Ends)(H:Hp)(a t d:Addr)(zs:ZN)(as:List (Addr×(Addr×Nd)))(x3 x4 x5 x6 x7 x8 x9:Option V),UF H PD t d zs as →
   (∀x4 x9 x10 Hc cs H',Same H H'→Wl Hc zs cs→cs.length=zs.length→Lng H' cs cs.length x10→D.nx (uσ a t d x3 x4 x5 x6 x7 x8 x9 x10) H')→rd D (uσ a t d x3 x4 x5 x6 x7 x8 x9 (some .non)) H:=by
 obtain⟨fL,fdL,GL,mL,kL,bL⟩:=CL;have hr1:Room 1 _:=hr.mono (by decide);refine⟨_,dS PassesOwn.never rfl (be (ap (bp (gJ hr)) rfl T.sorted boot_sorted (aa (dC (N:=["_law_one","_law_book_here"]) (cl:=[("_law_book_here",s.heap.objs.size+1)]) (k:=1) (js:=[2]) (g:=aQ 0) rfl (LcOk.mk' ["_law_book_here"] rfl rfl (by decide +kernel) (by decide +kernel) ?hcl rfl (by decide +kernel)) rfl ?hj (lH (pv 2)) (λs H fp=>aD (i:=0) (show(["_law_one","_law_book_here"]:List Str).Nodup by decide +kernel) rfl (Or.inl rfl) (Or.inr rfl))
    (λs H fp=>aW (aa (al (X:=aT _ _ _ _ _ _ _) GL hr1 rfl mL kL bL .nil aL (aa (pv 1) (aa (pv 0) ae))) (aa (pv 0) ae)))) ae)))
  (kX (n:=2) rfl (cN (aD (i:=9) scU.nd rfl (Or.inl rfl)) (cN (aD (i:=4) scU.nd rfl (Or.inl rfl)) jd)))
  (ak (bM (PW.pt (pw_or (az gh (pv 10) bo (aF _)) (pw_or1 (az nY (ap ao rfl T.len boot_len (aa (pv 9) ae)) (aK aG (pv 10) aj (λ_ _=>rfl)) (aF _)))))
   (ak (ax (i:=10) scU.nd rfl (Or.inl rfl) (aW (aa (ap ao rfl T.len boot_len (aa (pv 9) ae)) (aa (pv 4) ae))))) aU)),?_⟩
 case hcl =>
  intro y hy;rcases mem_cons.mp hy with e|hy
  ·rw[e];rfl
  ·skip
   cases hy
 case hj =>
  intro i j x h1 h2
  match i,h1,h2 with
  |0,h1,h2 =>
   cases h1;cases h2;exact⟨rfl,Or.inr (Or.inl rfl),(show((ag bH).names.lookup ("_law_book_here":Str)≠some NameKind.local)by decide +kernel),by first|exact Or.inl rfl|exact Or.inr rfl⟩
  |i+1,h1,h2=>simp at h1
 intro D H a t d zs as x3 x4 x5 x6 x7 x8 x9 L q;have hl:=L.tr.len;obtain⟨o,ho⟩:=L.dz;refine⟨_,rfl,d,o,_,rfl,ho,λp hp=>?_⟩;rw[L.keys];refine dN (fr:=[some (.ref d)]) zs (λz=>V.int z.2.num) (by omega) hp (by have:=il (ks:=zs.map λz=>V.int z.2.num) ho;exact this) rfl (λz y H'=>∃c:Cp,y=.ref c.a∧c.a≠p∧c.t≠p∧dH H' c∧c.n=z.2.num∧TW.PathTo (nds zs) c.n c.p) (λz y H H' h ex=>?_) (λz H' kk mz s1 hpl hk=>?_) (λys H1 s1 hp1 hys=>?_)
 ·obtain⟨c,e,n1,n2,⟨h1,h2⟩,h3,h4⟩:=h;exact⟨c,e,n1,n2,⟨ex _ _ n1 h1,ex _ _ n2 h2⟩,h3,h4⟩
 ·obtain⟨pz,hpz⟩:=TW.PathTo.ex L.tr.tr (bg mz);refine⟨_,rfl,_,rfl,d,z.2.num,as,zs,pz,rfl,L.bk.same s1,L.tr.tr,L.tr.len,hpz,λt1 H2 s2 ht1=>?_⟩;have hpl2:∃ys,H2 p=some (.lst ys):=let⟨ys,e⟩:=hpl;⟨ys,s2 _ _ e⟩;have ntp:t1≠p:=λe=>by obtain⟨ys,e'⟩:=hpl2;rw[←e,ht1]at e';cases e'
  refine⟨_,rfl,le2,λq1 hq1=>?_⟩;have s3:=af (o:=.tup [.ref t1,.int z.2.num]) hq1;exact hk _ _ (s2.trans s3) ⟨⟨q1,t1,pz,z.2.num⟩,rfl,cr hpl2 hq1,ntp,⟨ac,s3 _ _ ht1⟩,rfl,hpz⟩
 ·obtain⟨bs,e1,e2,e3⟩:=cC (val:=λc:Cp=>V.ref c.a) (S:=λ(z:Addr×Nd) (c:Cp)=>dH H1 c∧c.n=z.2.num∧TW.PathTo (nds zs) c.n c.p) hys (λz y _ ⟨c,e,_,_,h1,h2,h3⟩=>⟨c,e,h1,h2,h3⟩);have C:Cps H1 zs (bs.map (·.2)):=⟨λc hc=>by obtain⟨b,hb,rfl⟩:=mem_map.mp hc;exact(e3 b hb).1,by
    rw[←e1];unfold nds;rw[map_map,map_map,map_map];exact map_congr_left λb hb=>(e3 b hb).2.1,λc hc=>by obtain⟨b,hb,rfl⟩:=mem_map.mp hc;exact(e3 b hb).2.2⟩
  have hbl:(bs.map (·.2)).length=zs.length:=by rw[length_map,←e1,length_map]
  have e2':ys=(bs.map (·.2)).map λc=>V.ref c.a:=by rw[e2,map_map];rfl
  rw[e2']at hp1;refine⟨p,_,rfl,hp1,C.at',C.paths_nd L.tr.tr,by omega,λcs hpm hup p2 hp2=>?_⟩;have s2:=af (o:=.lst (cs.map λc=>V.ref c.a)) hp2;have wl:=C.wl L.tr.tr hpm hup;have hcl:cs.length=zs.length:=hpm.length_eq.trans hbl;have g2:upd H1 p2 (.lst (cs.map λc=>V.ref c.a)) p2=some (.lst (cs.map λc=>V.ref c.a)):=ac;generalize upd H1 p2 (.lst (cs.map λc=>V.ref c.a))=H2 at s2 g2⊢;refine⟨p2,rfl,⟨_,SqL.of g2⟩,dU (xs:=cs.map λc=>V.ref c.a) (λi σ H'=>∃x4 x9 x10,σ=uσ a t d x3 x4 x5 x6 x7 x8 x9 x10∧Same H2 H'∧Lng H' cs i x10) ⟨_,_,_,rfl,Same.refl _,.inl ⟨rfl,rfl⟩⟩ (λi σ H' _ h=>?_) (λi x σ H' hx h=>?_) (λσ H' h=>?_)⟩
  ·obtain⟨_,_,_,_,s3,_⟩:=h;exact SqL.of (s3 _ _ g2)
  ·obtain⟨x4,x9,x10,rfl,s3,lg⟩:=h;rw[getElem?_map]at hx;cases ec:cs[i]? with
   |none=>rw[ec]at hx;cases hx
   |some c =>
    rw[ec]at hx;cases hx;obtain⟨h1,h2⟩:=wl.at' c (mem_of_getElem? ec);have g1:=s3 _ _ (s2 _ _ h1);have gt:=s3 _ _ (s2 _ _ h2);refine⟨c.a,_,rfl,SqT.of g1,rfl,_,_,rfl,_,_,rfl,rfl,?_⟩;have put:fj cs (i+1) i c→∀(Q:VK),(∀lg H3,Same H' H3→H3 lg=some (.tup [.int (c.p.length:Int),.int c.n])→Q (.ref lg) H3)→∀lg,H' lg=none→Q (.ref lg) (upd H' lg (.tup [.int ((c.p.map V.str).length:Int),.int c.n])):=λ_ Q hq lg hlg=>hq lg _ (af hlg) (by rw[ac,length_map]);rcases lg with⟨rfl,rfl⟩|⟨j,cj,lg,hF,hj,rfl,hlg⟩
    ·have hF:fj cs 1 0 c:=⟨ec,λj c' hj hc'=>by
      have:j=0:=by omega
      subst this;rw[ec]at hc';cases hc';exact⟨le_refl _,λh=>absurd h (lt_irrefl _)⟩⟩
     refine⟨_,rfl,rfl,_,rfl,ck (ck ?_)⟩;refine⟨_,rfl,c.t,_,rfl,.inr (SqT.of gt),_,rfl,le2,λl2 hl2=>?_⟩;exact⟨_,_,_,rfl,s3.trans (af hl2),.inr ⟨0,c,l2,hF,Nat.lt_succ_self _,rfl,by rw[ac,length_map]⟩⟩
    ·refine⟨_,rfl,rfl,_,rfl,bv ?_⟩;refine⟨_,rfl,c.t,_,rfl,.inr (SqT.of gt),_,rfl,lg,_,_,_,rfl,rfl,SqT.of hlg,bu (j:=0) rfl,_,_,rfl,rfl,_,rfl,?_⟩;rw[length_map]
     by_cases hgt:cj.p.length<c.p.length
     ·rw[show decide ((cj.p.length:Int)<(c.p.length:Int))=true from decide_eq_true (by omega)];refine ck ⟨_,rfl,c.t,_,rfl,.inr (SqT.of gt),_,rfl,le2,λl2 hl2=>?_⟩;refine⟨_,_,_,rfl,s3.trans (af hl2),.inr ⟨i,c,l2,⟨ec,λj' c' hj' hc'=>?_⟩,Nat.lt_succ_self _,rfl,by rw[ac,length_map]⟩⟩
      by_cases e:j'=i
      ·subst e;rw[ec]at hc';cases hc';exact⟨le_refl _,λh=>absurd h (lt_irrefl _)⟩
      ·have:=(hF.2 j' c' (by omega) hc').1;exact⟨by omega,λ_=>by omega⟩
     ·rw[show decide ((cj.p.length:Int)<(c.p.length:Int))=false from decide_eq_false (by omega)];refine bv ⟨_,_,_,rfl,s3,.inr ⟨j,cj,lg,⟨hF.1,λj' c' hj' hc'=>?_⟩,by omega,rfl,hlg⟩⟩
      by_cases e:j'=i
      ·subst e;rw[ec]at hc';cases hc';exact⟨by omega,λh=>absurd h (by omega)⟩
      ·exact hF.2 j' c' (by omega) hc'
  ·obtain⟨x4,x9,x10,rfl,s3,lg⟩:=h;rw[length_map]at lg;exact q x4 x9 x10 H1 cs H' ((s1.trans s2).trans s3) wl hcl lg
theorem us5(hr:Room 4 (A.deeper (PyProof.Rows.envOfC "law" (ag bH) s.heap.objs.size f cdv)))(CD:Has P w K mg base 3 "deepest" ["tree"] (iz PD)):
  ∃rd,PS (UX P w K mg base f cdv A outer s H0 E) (uS 5) rd∧∀(D:Ends)(H Hc:Hp)(a t d:Addr)(zs:ZN)(as:List (Addr×(Addr×Nd)))(cs:List Cp)(x3 x4 x5 x6 x7 x8 x9 x10:Option V),UF H PD t d zs as→Wl Hc zs cs→cs.length=zs.length→Lng H cs cs.length x10 →
   (∀H',Tre H' t zs→D.nx (uσ a t d x3 x4 x5 x6 x7 x8 x9 x10) H')→rd D (uσ a t d x3 x4 x5 x6 x7 x8 x9 x10) H:=by
 obtain⟨fD,fdD,GD,mD,kD,bD⟩:=CD;have hr3:Room 3 _:=hr.mono (by decide);refine⟨_,bM (az cQ (al GD hr3 rfl mD kD bD .nil aL (aa (pv 1) ae)) (kQ (az dJ (pv 10) bo (aF _)) (aK aG (pv 10) aj (λ_ _=>rfl)) bo) (aF _)) cy aU,?_⟩;intro D H Hc a t d zs as cs x3 x4 x5 x6 x7 x8 x9 x10 L wl hcl lg q;refine⟨_,rfl,t,zs,rfl,L.tr,L.tab,λv H1 off tq dv=>?_⟩;have tr1:Tre H1 t zs:=⟨gL L.tab off L.tr.tup λps e=>(by cases e),λz hz=>gL L.tab off (L.tr.nod z hz) λps e=>(by cases e),L.tr.tr,L.tr.len⟩;rcases lg with⟨h0,rfl⟩|⟨j,c,lg,hF,hj,rfl,hlg⟩
 ·have ev:v=.non:=by
   rcases dv with⟨_,e⟩|⟨Hd,cs',i,c',w',hi,_,_⟩
   ·exact e
   ·exfalso
    have hl:=congrArg length (w'.pn wl);rw[length_map,length_map,h0]at hl;have:=(List.getElem?_eq_some_iff.mp hi).1;omega
  subst ev;refine⟨_,rfl,rfl,_,rfl,bv ⟨rfl,_,rfl,?_⟩⟩;exact bv (q H1 tr1)
 ·have hlg1:=gL L.tab off hlg λps e=>(by cases e);have ev:v=.int c.n:=by
   rcases dv with⟨e,_⟩|⟨Hd,cs',i,c',w',hi,e,hb⟩
   ·rw[e]at hcl;have:=(List.getElem?_eq_some_iff.mp hF.1).1;rw[hcl]at this;exact absurd this (Nat.not_lt_zero _)
   ·obtain⟨c2,h2,en⟩:=fj.move (w'.pn wl) (i:=i) (c':=c') ⟨hi,λj' d' _ hd'=>hb j' d' hd'⟩;have:=h2.one hF;subst this;rw[e,en]
  subst ev;refine⟨_,rfl,rfl,_,rfl,ck ⟨_,rfl,lg,_,_,_,rfl,rfl,SqT.of hlg1,bu (j:=1) rfl,rfl,_,rfl,?_⟩⟩;rw[show(!decide (V.int c.n=V.int c.n))=false by simp];exact bv (q H1 tr1)
theorem us6(T:Txt mg)(hr:Room 4 (A.deeper (PyProof.Rows.envOfC "law" (ag bH) s.heap.objs.size f cdv)))(CT:Has P w K mg base 3 "total" ["tree","number"] eW):
  ∃rd,PS (UX P w K mg base f cdv A outer s H0 E) (uS 6) rd∧∀(D:Ends)(H:Hp)(a t d:Addr)(zs:ZN)(x3 x4 x5 x6 x7 x8 x9 x10:Option V),Tre H t zs →
   (∀H',D.rt (.bl true) H')→rd D (uσ a t d x3 x4 x5 x6 x7 x8 x9 x10) H:=by
 obtain⟨fT,fdT,GT,mT,kT,bT⟩:=CT;have hr3:Room 3 _:=hr.mono (by decide);have hu4:=iT hr;refine⟨_,aP (oF (gk lh (aB aS (aK aG (al GT hr3 rfl mT kT bT .nil aL (aa (pv 1) (aa aj ae))) aj (λ_ _=>rfl)) (aK aG (al GT hr3 rfl mT kT bT .nil aL (aa (pv 1) (aa aj ae))) aj (λ_ _=>rfl))) (ap ao rfl T.len boot_len (aa (pv 1) ae)) (aF _))
  (oE (gk (pg hu4) (al GT hr3 rfl mT kT bT .nil aL (aa (aW ae) (aa aj ae))) (aW (aa aj (aa aj (aa aj ae)))) (aF _)))),?_⟩
 intro D H a t d zs x3 x4 x5 x6 x7 x8 x9 x10 tr q;refine⟨_,rfl,t,0,zs,rfl,tr,by decide,by decide,.inl rfl,λt1 H1 s1 ht1=>?_⟩;refine⟨t1,_,_,_,rfl,rfl,SqT.of ht1,bu (j:=0) rfl,?_⟩;have tr1:=tr.same s1;refine⟨_,rfl,t,0,zs,rfl,tr1,by decide,by decide,.inl rfl,λt2 H2 s2 ht2=>?_⟩;refine⟨t2,_,_,_,rfl,rfl,SqT.of ht2,bu (j:=1) rfl,_,_,rfl,rfl,?_⟩;refine⟨_,rfl,t,_,rfl,.inr (SqT.of (tr1.same s2).tup),rfl,_,rfl,?_⟩;rw[bj,nX tr.tr,show decide (V.int (((zs.length:Int)-((sts zs 0).length:Int))+((sts zs 0).length:Int))=V.int (zs.length:Int))=true from decide_eq_true (by congr 1;omega)];refine ck ⟨zero_le _,λe1 he1=>?_⟩;have tr0:Tre (upd H2 e1 (.tup [])) e1 []:=⟨ac,λz hz=>(nomatch hz),⟨⟨.nil,.nil,λn hn=>(nomatch hn)⟩,λn hn=>(nomatch hn)⟩,zero_le _⟩;refine⟨e1,0,[],rfl,tr0,by decide,by decide,.inl rfl,λt3 H3 s3 ht3=>?_⟩;refine⟨(show 3≤sizeLine from aR (by decide)),λt4 ht4=>?_⟩;refine .inr ⟨t3,t4,iw [] 0,iw [] 0,rfl,rfl,eV (iA _ _),.inr ⟨bi ht4 ht3,?_⟩,q _⟩;rw[ac];rfl
end
def jK(PD:Addr)(K:PySem.W.Frag):Sp:=λvs H Q _=>∃(a:Addr) (ns:List Int),vs=[.ref a]∧SqL K H a (ns.map V.int)∧ns.length≤63∧H PD=some (.tbl #[])∧∀H',Q (.bl true) H'
section
variable{P:Program}{w:World}{K:PySem.W.Frag}{mg:Str→Option Value}{base:Heap}{f PD:Addr}{fd:FuncData}
theorem pX(F:Fun K "law" "law" bH f fd)(T:Txt mg)(CT:Has P w K mg base 3 "_law_tree" ["_law_script","_law_at","_law_most"] (dR K))(CBk:Has P w K mg base 1 "_law_book" ["_law_tree_here"] gG)(CU:Has P w K mg base 1 "_law_under" ["_law_book_here","_law_number","_law_goal"] fV)(CTo:Has P w K mg base 3 "total" ["tree","number"] eW)(CL:Has P w K mg base 1 "_law_path" ["_law_book_here","_law_number"] ir)(CS:Has P w K mg base 3 "shape" ["tree","number"] fY)(CD:Has P w K mg base 3 "deepest" ["tree"] (iz PD)):
  FnOk P w K mg base CX0 5 f fd ["_law_script"] (jK PD K):=by
 obtain⟨fT,fdT,GT,mT,kT,bT⟩:=CT;obtain⟨fK,fdK,GK,mK,kK,bK⟩:=CBk;refine F.ok scU (λvs H Q E h=>?_) (λcdv A outer s H vs Q E hr h=>?_)
 ·obtain⟨a,ns,rfl,_⟩:=h;rfl
 ·obtain⟨a,ns,rfl,hS,hn,hPD,q⟩:=h;have hr3:Room 3 _:=hr.mono (by decide);have hr1:Room 1 _:=hr.mono (by decide);obtain⟨r2,p2,h2⟩:=us2 (PD:=PD) (outer:=outer) (H0:=H) (E:=E) T hr CU CTo CL CS;obtain⟨r4,p4,h4⟩:=us4 (PD:=PD) (outer:=outer) (H0:=H) (E:=E) T hr CL;obtain⟨r5,p5,h5⟩:=us5 (outer:=outer) (H0:=H) (E:=E) hr CD;obtain⟨r6,p6,h6⟩:=us6 (outer:=outer) (H0:=H) (E:=E) T hr CTo;refine⟨_,ai (ax (i:=1) scU.nd rfl (Or.inl rfl) (al GT hr3 rfl mT kT bT .nil aL (aa (pv 0) (aa aj (aa aj ae)))))
   (ai (ax (i:=2) scU.nd rfl (Or.inr rfl) (al GK hr1 rfl mK kK bK .nil aL (aa (pv 1) ae)))
   (ai (kH p2) (ai (ax (i:=10) scU.nd rfl (Or.inl rfl) bo) (ai p4 (ai p5 (ak p6)))))),?_⟩
  have TC0:dw H PD kM:=.start hPD;refine⟨_,rfl,a,0,9,rfl,by decide,by decide,by decide,⟨ns,hS⟩,λt zs H1 ht1 hA1 hl1 hT1 hG1 s1=>?_⟩;have tr1:TW.Tree1 (nds zs):=⟨hT1,λn hn=>by obtain⟨z,hz,rfl⟩:=lW hn;exact(hG1 z hz).1⟩;have Tr1:Tre H1 t zs:=⟨ht1,hA1,tr1,by omega⟩;refine⟨_,rfl,t,zs,rfl,Tr1,λd as H2 s2 hd0 bk hd=>?_⟩;refine⟨d,_,hd,λo=>?_⟩;have s02:=s1.trans s2;have hd00:H d=none:=s1.free hd0;have s03:Same H (upd H2 d (.frz o (.dK (bn as)))):=λb u e=>by
   rw[ah λz=>by rw[z,hd00]at e;cases e];exact s02 _ _ e
  have s13:Same H1 (upd H2 d (.frz o (.dK (bn as)))):=λb u e=>by
   rw[ah λz=>by rw[z,hd0]at e;cases e];exact s2 _ _ e
  have bk3:Book (upd H2 d (.frz o (.dK (bn as)))) d as zs:=⟨.inr ⟨o,ac⟩,bk.of,λx hx=>by
   have:=bk.at' x hx;rw[ah λz=>by rw[z,hd]at this;cases this];exact this⟩
  have L:UF (upd H2 d (.frz o (.dK (bn as)))) PD t d zs as:=⟨Tr1.same s13,bk3,⟨o,ac⟩,ca TC0 s03,hG1⟩;generalize upd H2 d (.frz o (.dK (bn as)))=H3 at L⊢;refine h2 _ H3 a t d zs as none none none none none none none none L λx3 x5 x6 x7 x8 H4 s4=>?_;have L4:=L.same s4;refine h4 _ H4 a t d zs as x3 none x5 x6 x7 x8 none L4 λx4 x9 x10 Hc cs H5 s5 wl hcl lg=>?_;refine h5 _ H5 Hc a t d zs as cs x3 x4 x5 x6 x7 x8 x9 x10 (L4.same s5) wl hcl lg λH6 tr6=>?_;exact h6 _ H6 a t d zs x3 x4 x5 x6 x7 x8 x9 x10 tr6 q
end
end TK
namespace TK
open PySem PySem.W PyProof.Rows L2
theorem pY{K:PySem.W.Frag}{h:Heap}{mg:Str→Option Value}{x:Str}{C:Addr}{bB:List Value}{nid:String}(X:K.In h)(hb:mg x=some (.ref C))(q:excIn K C bB nid=true):OwnCls x C bB nid mg h:=by
 have hobj:∃bm N nm q' bs hdct sn sub ab col dd k0 k1 k2 k3 k5 mN,h.get? C=some (excClassObj nm q' C N bs bm hdct sn sub ab col dd k0 k1 k2 k3 k5 nid)∧h.Ns N mN∧mN "__init__"=none∧OwnTail h bB bm:=by
  unfold excIn at q
  split at q
  case h_2=>exact absurd q (by simp)
  case h_1 d0 c0 s0 hK =>
   split at q
   case h_2=>exact absurd q (by simp)
   case h_1 C1 b1 u0 u1 u2 u3 u4 u5 e1 e2 =>
    rw[and_eq_true,and_eq_true,and_eq_true,and_eq_true,and_eq_true]at q;obtain⟨⟨⟨⟨⟨y1,y2⟩,y3⟩,g4⟩,g5⟩,y6⟩:=q;have g1:C1=C:=beq_iff_eq.mp y1;have g2:u4=nid:=beq_iff_eq.mp y2;have g3:c0.hasDel=false:=by simpa using y3
    have g6:nsIn K c0.ns "__init__"=some none:=beq_iff_eq.mp y6;clear y1 y2 y3 y6;cases c0;cases s0;dsimp only at e1 e2 g3 g5 g6;subst g1 g2 g3 e1 e2;exact⟨_,_,_,_,_,_,_,_,_,_,_,_,_,_,_,_,_,X _ _ hK,Heap.Ns.of_isNs (PySem.W.isNs_of_in X g5),PySem.W.nsMap_none_of_in X g5 g6,PySem.W.tail_of_in X g4⟩
 exact⟨hb,hobj⟩
theorem rn{α:Type}{P:List α→Prop}{us:List α}(hl:us.length=0)(h:P []):P us:=by cases us with|nil=>exact h|cons a r=>cases hl
theorem qQ{α:Type}{P:List α→Prop}{us:List α}(hl:us.length=1)(h:∀a0,P [a0]):P us:=by cases us with|nil=>cases hl|cons a r=>exact rn (P:=λr=>P (a::r)) (Nat.succ.inj hl) (h a)
theorem qR{α:Type}{P:List α→Prop}{us:List α}(hl:us.length=2)(h:∀a0 a1,P [a0,a1]):P us:=by cases us with|nil=>cases hl|cons a r=>exact qQ (P:=λr=>P (a::r)) (Nat.succ.inj hl) (h a)
theorem ro{α:Type}{P:List α→Prop}{us:List α}(hl:us.length=3)(h:∀a0 a1 a2,P [a0,a1,a2]):P us:=by cases us with|nil=>cases hl|cons a r=>exact qR (P:=λr=>P (a::r)) (Nat.succ.inj hl) (h a)
abbrev gA(K:PySem.W.Frag)(x:Str)(f:Addr):Prop:=nsIn K mainGlobals x=some (some (.ref f))
abbrev gN(K:PySem.W.Frag)(x:Str):Prop:=nsIn K mainGlobals x=some none
theorem fh{P:Program}{w:World}{K:PySem.W.Frag}{mg:Str→Option Value}{base h:Heap}{k:Nat}{x q:Str}{st:Stmt}{f:Addr}{fd:FuncData}{ps:List Str}{sp:Sp}(X:K.In h)(G:h.Ns mainGlobals mg)(F:Fun K x q st f fd)(a:gA K x f)(b:bA K fd ps [])(O:FnOk P w K mg base CX0 k f fd ps sp):Has P w K mg base k x ps sp:=⟨f,fd,O,mg_of X G a,F.kp,b⟩
theorem fhX{P:Program}{w:World}{K:PySem.W.Frag}{mg:Str→Option Value}{base h:Heap}{k:Nat}{x q:Str}{st:Stmt}{f:Addr}{fd:FuncData}{ps:List Str}{sp:Sp}(X:K.In h)(G:h.Ns mainGlobals mg)(F:Fun K x q st f fd)(a:gA K x f)(b:bA K fd ps [])(O:FnOk P w K mg base (CX1 P w) k f fd ps sp):kE P w K mg base k x ps sp:=⟨f,fd,O,mg_of X G a,F.kp,b⟩
theorem fb1{K:PySem.W.Frag}{x q a0:Str}{st:Stmt}{f:Addr}{fd:FuncData}(F:Fun K x q st f fd)(h:∀(kV doc pm:Value) (an:Option Addr) (cdv ct v0:Value),bindArgs (fnOf x q (ce st) (aY st) (ag st) .none kV doc pm an cdv ct) ⟨[v0],[]⟩=pure (List.zip [a0] [v0]):=by intros;rfl):bA K fd [a0] []:=F.binds λkV doc pm an cdv ct us hl=>qQ (P:=λus=>bindArgs _ ⟨us,[]⟩=pure (List.zip _ us)) hl (h kV doc pm an cdv ct)
theorem fb2{K:PySem.W.Frag}{x q a0 a1:Str}{st:Stmt}{f:Addr}{fd:FuncData}(F:Fun K x q st f fd)(h:∀(kV doc pm:Value) (an:Option Addr) (cdv ct v0 v1:Value),bindArgs (fnOf x q (ce st) (aY st) (ag st) .none kV doc pm an cdv ct) ⟨[v0,v1],[]⟩=pure (List.zip [a0,a1] [v0,v1]):=by intros;rfl):bA K fd [a0,a1] []:=F.binds λkV doc pm an cdv ct us hl=>qR (P:=λus=>bindArgs _ ⟨us,[]⟩=pure (List.zip _ us)) hl (h kV doc pm an cdv ct)
theorem fb3{K:PySem.W.Frag}{x q a0 a1 a2:Str}{st:Stmt}{f:Addr}{fd:FuncData}(F:Fun K x q st f fd)(h:∀(kV doc pm:Value) (an:Option Addr) (cdv ct v0 v1 v2:Value),bindArgs (fnOf x q (ce st) (aY st) (ag st) .none kV doc pm an cdv ct) ⟨[v0,v1,v2],[]⟩=pure (List.zip [a0,a1,a2] [v0,v1,v2]):=by intros;rfl):bA K fd [a0,a1,a2] []:=F.binds λkV doc pm an cdv ct us hl=>ro (P:=λus=>bindArgs _ ⟨us,[]⟩=pure (List.zip _ us)) hl (h kV doc pm an cdv ct)
theorem pZ{l:PySem.W.OpenLaw}{w:World}{K:PySem.W.Frag}{h:Heap}{mg:Str→Option Value}{fa f1 f2 f3 f4 f5 f6 f7 f8 f9 f10 f11 f12 f13 f14 f15 f16 f17:Addr}(X:K.In h)(G:h.Ns mainGlobals mg)(hfa:mg "law"=some (.ref fa)){d1 d2 d3 d4 d5 d6 d7 d8 d9 d10 d11 d12 d13 d14 d15 d16 d17:FuncData}{t1:Tok}(a1:gA K "numbers_inside" f1)(F1:Fun K "numbers_inside" "numbers_inside" pA f1 d1)(a2:gA K "by_number" f2)(F2:Fun K "by_number" "by_number" pB f2 d2)(a3:gA K "node_of" f3)(F3:Fun K "node_of" "node_of" pC f3 d3)(a4:gA K "check_folder" f4)(F4:Fun K "check_folder" "check_folder" pD f4 d4)(a5:gA K "path_up" f5)(F5:Fun K "path_up" "path_up" pE f5 d5)(a6:gA K "below" f6)(F6:Fun K "below" "below" pF f6 d6)(a7:gA K "walked" f7)(F7:Fun K "walked" "walked" nM f7 d7)(a8:gA K "total" f8)(F8:Fun K "total" "total" dP f8 d8)(a9:gA K "shape" f9)(F9:Fun K "shape" "shape" dc f9 d9)(a10:gA K "deepest" f10)(F10:Fun K "deepest" "deepest" dq f10 d10)(a11:gA K "_law_cell" f11)(F11:Fun K "_law_cell" "_law_cell" lX f11 d11)(a12:gA K "_law_pick" f12)(F12:Fun K "_law_pick" "_law_pick" lY f12 d12)(a13:gA K "_law_tree" f13)(F13:Fun K "_law_tree" "_law_tree" dt f13 d13)(a14:gA K "_law_book" f14)(F14:Fun K "_law_book" "_law_book" lZ f14 d14)(a15:gA K "_law_path" f15)(F15:Fun K "_law_path" "_law_path" iX f15 d15)(a16:gA K "_law_under" f16)(F16:Fun K "_law_under" "_law_under" iY f16 d16)(a17:gA K "law" f17)(F17:Fun K "law" "law" bH f17 d17)(z1:gN K "isinstance")(z2:gN K "dict")(z3:gN K "len")(z4:gN K "tuple")(z5:gN K "list")(z6:gN K "range")(z7:gN K "sorted")(z8:gN K "reversed")(z9:gN K "ValueError")(z10:gN K "str")(z11:gN K "set")(z12:gN K "max")(z13:gN K "min")(z14:gN K "sum")(z15:gN K "zip")(z16:gN K "enumerate")(z17:gN K "all")(z18:gN K "int")(z19:gN K "bool")(v1t:nsIn K mainGlobals "TOP"=some (some (.int 0 t1))){cD PD:Addr}(kD:d10.code=.ref cD)(eD:codeHdIn K cD PD=true){CN:Addr}(xN:nsIn K mainGlobals "NoNode"=some (some (.ref CN)))(qN:excIn K CN bmV "ValueError.__new__"=true):
  ∃fd:FuncData,(∀(s:Shared)(v:Value),BindsTo s fd ⟨[v],[]⟩ [("_law_script",v)])∧∀base:Heap,K.In base→base.Ns mainGlobals mg→BmB base mg→FnOk l.prog w K mg base CX0 5 fa fd ["_law_script"] (jK PD K):=by
 have e:=hfa.symm.trans (mg_of X G a17);cases e;have T:Txt mg:=⟨mg_none_of X G z1,mg_none_of X G z2,mg_none_of X G z3,mg_none_of X G z4,mg_none_of X G z5,mg_none_of X G z6,mg_none_of X G z7,mg_none_of X G z8,mg_none_of X G z9,mg_none_of X G z10,mg_none_of X G z11,mg_none_of X G z12,mg_none_of X G z13,mg_none_of X G z14,mg_none_of X G z15,mg_none_of X G z16,mg_none_of X G z17,mg_none_of X G z18,mg_none_of X G z19,⟨_,mg_of X G v1t⟩⟩;have MN:mg "NoNode"=some (.ref CN):=mg_of X G xN;have hb:∀(s:Shared)(v:Value),BindsTo s d17 ⟨[v],[]⟩ [("_law_script",v)]:=by
  obtain⟨_,_,_,_,_,_,_,_,_,e,_,_⟩:=F17.ex;subst e;exact λs v=>.of_eq rfl
 have all:∀base:Heap,K.In base→BmB base mg→(Has l.prog w K mg base 3 "_law_tree" ["_law_script","_law_at","_law_most"] (dR K))∧(Has l.prog w K mg base 1 "_law_book" ["_law_tree_here"] gG)∧(Has l.prog w K mg base 1 "_law_under" ["_law_book_here","_law_number","_law_goal"] fV)∧(Has l.prog w K mg base 3 "total" ["tree","number"] eW)∧(Has l.prog w K mg base 1 "_law_path" ["_law_book_here","_law_number"] ir)∧(Has l.prog w K mg base 3 "shape" ["tree","number"] fY)∧(Has l.prog w K mg base 3 "deepest" ["tree"] (iz PD)):=λbase KB Bm=>by
  let H:=Has l.prog w K mg base
  let HX:=kE l.prog w K mg base
  have ON:qF "NoNode" mg base CN:=pY KB MN qN;have C_numbers_inside:H 1 "numbers_inside" ["nodes","folder"] jy:=fh X G F1 a1 (fb2 F1) (pG F1 T);have C_by_number:H 1 "by_number" ["tree"] fM:=fh X G F2 a2 (fb1 F2) (pH F2 T);have C_node_of:HX 1 "node_of" ["nodes","number"] (jz CN):=fhX X G F3 a3 (fb2 F3) (pI F3 ON);have C_check_folder:H 2 "check_folder" ["nodes","number"] jE:=fh X G F4 a4 (fb2 F4) (pM F4 T C_node_of);have C_path_up:H 1 "path_up" ["nodes","number"] jC:=fh X G F5 a5 (fb2 F5) (pL F5 T);have C_below:HX 2 "below" ["tree","number"] (jA CN):=fhX X G F6 a6 (fb2 F6) (pJ F6 T C_by_number C_node_of C_numbers_inside);have C_walked:H 2 "walked" ["tree"] mv:=fh X G F7 a7 (fb1 F7) (pP F7 T C_by_number C_path_up);have C_total:H 3 "total" ["tree","number"] eW:=fh X G F8 a8 (fb2 F8) (pR F8 T C_by_number C_check_folder C_below);have C_shape:H 3 "shape" ["tree","number"] fY:=fh X G F9 a9 (fb2 F9) (pT F9 T C_by_number C_check_folder C_path_up C_below);have C_deepest:H 3 "deepest" ["tree"] (iz PD):=fh X G F10 a10 (fb1 F10) (pV F10 kD T (codeHd_of_K KB eD) Bm C_walked);have C__law_cell:H 1 "_law_cell" ["_law_script","_law_k"] (jb K):=fh X G F11 a11 (fb2 F11) (nV F11 T);have C__law_pick:H 2 "_law_pick" ["_law_script","_law_k","_law_many"] (jc K):=fh X G F12 a12 (fb3 F12) (nW F12 T C__law_cell);have C__law_tree:H 3 "_law_tree" ["_law_script","_law_at","_law_most"] (dR K):=fh X G F13 a13 (fb3 F13) (mM F13 T C__law_pick);have C__law_book:H 1 "_law_book" ["_law_tree_here"] gG:=fh X G F14 a14 (fb1 F14) (nN F14 T);have C__law_path:H 1 "_law_path" ["_law_book_here","_law_number"] ir:=fh X G F15 a15 (fb2 F15) (qK F15 T);have C__law_under:H 1 "_law_under" ["_law_book_here","_law_number","_law_goal"] fV:=fh X G F16 a16 (fb3 F16) (pN F16);exact⟨C__law_tree,C__law_book,C__law_under,C_total,C__law_path,C_shape,C_deepest⟩
 refine⟨d17,hb,λbase KB _ Bm=>?_⟩;obtain⟨C__law_tree,C__law_book,C__law_under,C_total,C__law_path,C_shape,C_deepest⟩:=all base KB Bm;exact pX F17 T C__law_tree C__law_book C__law_under C_total C__law_path C_shape C_deepest
theorem walk{l:PySem.W.OpenLaw}{q:Program}{loose:List Str}{XP:(Str→Option Value)→Heap→Prop}{YP:World→Heap→Prop}{d:DefRec}{K:Params→PySem.W.Frag}(PD:Addr)(hn:l.most=some 63)(hdf:d.params.defaults=[])(hY:∀(w:World) (h:Heap),YP w h→(K w.params).In h){ts:List Addr}(hT:∀(w:World) (h:Heap),YP w h→∀t∈ts,h.get? t=some (tabObj #[]))(mD:PD∈ts)(cD:Addr)(eD:∀w:World,codeHdIn (K w.params) cD PD=true)(nD:∀w:World,(K w.params).lookup PD=none)(F:∀(w:World) (mg:Str→Option Value) (fa:Addr) (h:Heap),(K w.params).In h→h.Ns mainGlobals mg→mg d.name=some (.ref fa) →
   ∃fd:FuncData,(∀(s:Shared) (u:Value),BindsTo s fd ⟨[u],[]⟩ [("_law_script",u)])∧∀base:Heap,(K w.params).In base→base.Ns mainGlobals mg→BmB base mg→FnOk l.prog w (K w.params) mg base CX0 5 fa fd ["_law_script"] (jK PD (K w.params))):
  PySem.W.WalkO q loose XP YP l.row.toRowW d [] (λf vs=>PySem.call f vs) :=
 L2.my (tabs:=[PD]) (n:=63) (k:=5) (x:="_law_script") (sp:=λw=>jK PD (K w.params)) hn (by decide) hdf ⟨rfl,by decide,by decide⟩ hY
  (λw h Y=>List.forall_mem_cons.mpr ⟨hT w h Y _ mD,λ_ h=>nomatch h⟩)
  (λw=>List.forall_mem_cons.mpr ⟨⟨⟨cD,eD w⟩,nD w⟩,λ_ h=>nomatch h⟩)
  F (λw H a ns hl hS hT=>⟨a,ns,rfl,hS,hl,hT PD (by simp),λ_=>rfl⟩)
end TK
end
open PySem PySem.W PyProof.Rows
def PySem.W.Fast.tw13167127937367652879:Unit:=()
def PySem.W.Fast.tw16424556261426323288:Unit:=()
def PySem.W.Fast.tw9535005830039976485:Unit:=()
def PySem.W.Fast.tw5694337964959998996:Unit:=()
def PySem.W.Fast.tw5430144335885437397:Unit:=()
def PySem.W.Fast.tw5202163356658501479:Unit:=()
def PySem.W.Fast.tw6963324464720978114:Unit:=()
def PySem.W.Fast.tw16872045812967117199:Unit:=()
set_option maxRecDepth 100000 in
set_option maxHeartbeats 0 in
theorem PySem.Challenge.cw_treewatch_k81_whole_totals_holds : PySem.Challenge.rw_treewatch_k81_whole_totals.Holds := by
 w_on; o_law; k_head; (case hw=>w_witness2)
 k_fill
 refine TK.walk (l:=PySem.Challenge.rw_treewatch_k81_whole_totals) 108 rfl rfl (λw h Y=>PySem.W.km_in_of Y) (λw h Y=>PySem.W.km_tabs_of Y) (by decide) 112 (λw=>by kernel_rfl) (λw=>by kernel_rfl) ?F
 case F =>
  intro w mg fa h KX G hmg
  refine' TK.pZ KX G hmg ?a1 ?F1 ?a2 ?F2 ?a3 ?F3 ?a4 ?F4 ?a5 ?F5 ?a6 ?F6 ?a7 ?F7 ?a8 ?F8 ?a9 ?F9 ?a10 ?F10 ?a11 ?F11 ?a12 ?F12 ?a13 ?F13 ?a14 ?F14 ?a15 ?F15 ?a16 ?F16 ?a17 ?F17 ?z1 ?z2 ?z3 ?z4 ?z5 ?z6 ?z7 ?z8 ?z9 ?z10 ?z11 ?z12 ?z13 ?z14 ?z15 ?z16 ?z17 ?z18 ?z19 ?v1t ?kD ?eD ?xN ?qN
  (case a1|a2|a3|a4|a5|a6|a7|a8|a9|a10|a11|a12|a13|a14|a15|a16|a17=>unfold TK.gA; k_is)
  (case F1|F2|F3|F4|F5|F6|F7|F8|F9|F10|F11|F12|F13|F14|F15|F16|F17=>apply L2.oX <;> k_is)
  (case z1|z2|z3|z4|z5|z6|z7|z8|z9|z10|z11|z12|z13|z14|z15|z16|z17|z18|z19=>unfold TK.gN; k_is)
  (case v1t=>k_is)
  (case kD=>exact rfl)
  (case eD=>kernel_rfl)
  (case xN=>k_is)
  (case qN=>k_exc)
