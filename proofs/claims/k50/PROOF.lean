import PyProof.Rows.All
import Wide.All
import OpenK.AllK
import Wide.FinOn
import Lean
import PyProof.EqAt
import PyProof.EqKinds
import PyProof.TupleCall
import PyProof.CompFree
import PySem.SetTable
import PyProof.SetScanFacts
import PyProof.TupleKey
import PyProof.SetKind
import PyProof.IsRules
import PyProof.SetRoads
import PyProof.InstSpecial
import PyProof.Rows.SetFrom
import KE.KSortTup
import PyProof.StrWalks
import PyProof.EnumMake
import PyProof.ConsumeWalk
import PyProof.ListRange
import PyProof.NeKinds
import PyProof.ZipIter
import KE.KTryDeep
import OpenK.KOwn
import PyProof.RulesAs
import PyProof.NsDelKeeps
import PyProof.ExcArgsOwn
import PyProof.ExcAttrAll.ValueError
import KE.KIsAll
import OpenK.KNot
import PyProof.IsiH_list
import PyProof.Rows.FStr
import KE.KDictOf
import PyProof.AttrMissHeap
import PyProof.DictIter
import PyProof.DictWalks
import PyProof.Rows.DictUnroll
import KE.KRevIter
import KE.KDictList
import PyProof.CollectIter
import PyProof.TupleOfGen
import KE.KSortKey
import PyProof.FactsAll.NoneType_1
import PyProof.CompUse
import PyProof.Rows.FStrParts
import PySem.Challenge.RW_treewatch_k50_whole_seen
set_option Elab.async false
set_option linter.all false
set_option maxRecDepth 100000
set_option maxHeartbeats 8000000
namespace L2
open PySem PySem.Spec PyProof.Rows
noncomputable abbrev Key:=Sum Int Str
noncomputable def ig:Key→Value→Bool
 | .inl k,v=>Value.isInt k v
 | .inr x,v=>Value.isStrOf x v
noncomputable def xW (w:World):Key→Int
 | .inl k=>hashInt k
 | .inr x=>hashStr w x
theorem aV:∀ {k:Key} {v:Value},ig k v=true→(∃ i t,k=Sum.inl i∧v=Value.int i t)∨(∃ x t,k=Sum.inr x∧v=Value.str x t)
 | .inl i,v,h=>by
  obtain ⟨t,e⟩:=Value.isInt_shape (k:=i) (v:=v) h
  exact .inl ⟨i,t,rfl,e⟩
 | .inr x,v,h=>by
  obtain ⟨t,e⟩:=Value.isStrOf_shape (x:=x) (v:=v) h
  exact .inr ⟨x,t,rfl,e⟩
theorem pL (i:Int) (t:Tok):ig (.inl i) (.int i t)=true:=by simp [ig,Value.isInt]
theorem pN (x:Str) (t:Tok):ig (.inr x) (.str x t)=true:=by simp [ig,Value.isStrOf]
theorem vC (a b:Int):decide ((Sum.inl a:Key)=Sum.inl b)=(a == b):=by
 by_cases e:a=b
 ·subst e; simp
 ·have h:¬ (Sum.inl a:Key)=Sum.inl b:=λq=>e (Sum.inl.inj q)
  rw [decide_eq_false h]
  exact (beq_eq_false_iff_ne.mpr e).symm
theorem vD (a b:Str):decide ((Sum.inr a:Key)=Sum.inr b)=decide (a=b):=by
 by_cases e:a=b
 ·subst e; simp
 ·have h:¬ (Sum.inr a:Key)=Sum.inr b:=λq=>e (Sum.inr.inj q)
  rw [decide_eq_false h,decide_eq_false e]
theorem vE (a:Int) (b:Str):decide ((Sum.inl a:Key)=Sum.inr b)=false:=decide_eq_false (λq=>nomatch q)
theorem vF (a:Str) (b:Int):decide ((Sum.inr a:Key)=Sum.inl b)=false:=decide_eq_false (λq=>nomatch q)
noncomputable def aD (prog:Program) (w:World):PySem.KeyKind prog w Key where
 is:=ig
 hash:=xW w
 inj:=λv a b ha hb=>by
  rcases aV ha with ⟨i,t,rfl,rfl⟩ | ⟨x,t,rfl,rfl⟩
  ·rcases aV hb with ⟨j,u,rfl,e⟩ | ⟨y,u,rfl,e⟩
   ·injection e with e1 _; rw [e1]
   ·exact nomatch e
  ·rcases aV hb with ⟨j,u,rfl,e⟩ | ⟨y,u,rfl,e⟩
   ·exact nomatch e
   ·injection e with e1 _; rw [e1]
 byValue:=λk v h=>by
  rcases aV h with ⟨i,t,rfl,rfl⟩ | ⟨x,t,rfl,rfl⟩ <;> rfl
 pyHash:=λhv h=>by
  rcases aV hv with ⟨i,t,rfl,rfl⟩ | ⟨x,t,rfl,rfl⟩
  ·exact wpAny_pyHash_int h
  ·exact wpAny_pyHash_str h
 eqBool:=λhu hv h=>by
  rcases aV hu with ⟨i,t,rfl,rfl⟩ | ⟨x,t,rfl,rfl⟩
  ·rcases aV hv with ⟨j,u,rfl,rfl⟩ | ⟨y,u,rfl,rfl⟩
   ·rw [vC] at h; exact wpAny_eqBool_int h
   ·rw [vE] at h; exact SeqAt.EqAt.int_str i t y u _ _ _ _ h
  ·rcases aV hv with ⟨j,u,rfl,rfl⟩ | ⟨y,u,rfl,rfl⟩
   ·rw [vF] at h; exact SeqAt.EqAt.str_int x t j u _ _ _ _ h
   ·rw [vD] at h; exact wpAny_eqBool_str h
 «strs»:=λk x t v h=>by
  rcases aV h with ⟨i,u,rfl,e⟩ | ⟨y,u,rfl,e⟩
  ·exact nomatch e
  ·injection e with e1 _
   subst e1
   cases v <;> rfl
theorem lF (prog:Program) (w:World) (i:Int) (t:Tok):(aD prog w).is (.inl i) (.int i t)=true:=pL i t
theorem lG (prog:Program) (w:World) (x:Str) (t:Tok):(aD prog w).is (.inr x) (.str x t)=true:=pN x t
inductive V where
 | non | bl (b:Bool) | int (i:Int) | str (x:Str) | byt (b:Array UInt8) | flt (b:UInt64) | ref (a:Addr) | ty (n:String)
 deriving DecidableEq
noncomputable def aL:V→Value→Prop
 | .non,u=>u=Value.none
 | .bl b,u=>u=Value.bool b
 | .int i,u=>∃ t,u=Value.int i t
 | .str x,u=>∃ t,u=Value.str x t
 | .byt b,u=>∃ t,u=Value.bytes b t
 | .flt b,u=>∃ t,u=Value.float b t
 | .ref a,u=>u=Value.ref a
 | .ty n,u=>u=Value.type n
noncomputable abbrev aE:List V→List Value→Prop:=Paired aL
theorem aE.length {xs:List V} {us:List Value} (r:aE xs us):xs.length=us.length:=Paired.length r
theorem aE.get:∀ {xs:List V} {us:List Value} {i:Nat} {x:V},aE xs us→xs[i]? = some x→∃ u,us[i]? = some u∧aL x u
 | _,_,_,_,.nil,e=>by simp at e
 | _,_,0,_,.cons r _,e=>by simp at e; subst e; exact ⟨_,rfl,r⟩
 | _,_,i+1,x,.cons _ t,e=>by
  obtain ⟨u,h1,h2⟩:=aE.get (i:=i) (x:=x) t (by simpa using e)
  exact ⟨u,by simpa using h1,h2⟩
theorem aE.append:∀ {xs ys:List V} {us ws:List Value},aE xs us→aE ys ws→aE (xs++ys) (us++ws)
 | _,_,_,_,.nil,s=>s
 | _,_,_,_,.cons r t,s=>.cons r (aE.append t s)
theorem aE.take:∀ {xs:List V} {us:List Value} (n:Nat),aE xs us→aE (xs.take n) (us.take n)
 | _,_,0,_=>.nil
 | _,_,_+1,.nil=>.nil
 | _,_,n+1,.cons r t=>.cons r (aE.take n t)
theorem aE.drop:∀ {xs:List V} {us:List Value} (n:Nat),aE xs us→aE (xs.drop n) (us.drop n)
 | _,_,0,r=>r
 | _,_,_+1,.nil=>.nil
 | _,_,n+1,.cons _ t=>aE.drop n t
noncomputable def eu:Option V→Option Value→Prop
 | some v,some u=>aL v u
 | none,none=>True
 | _,_=>False
noncomputable def KV {κ:Type}:List (κ×V)→List (κ×Value)→Prop:=Paired λ(p:κ×V) (q:κ×Value)=>p.1=q.1∧aL p.2 q.2
noncomputable def kV:Key→V
 | .inl i=>.int i
 | .inr x=>.str x
inductive HO where
 | lst (xs:List V)
 | tup (xs:List V)
 | dK (kvs:List (Key×V)) | dT (kvs:List (List Key×V))
 | set (S:Int→Bool) (n:Nat)
 | ins (C dx:Addr) (fs:List (Str×V))
 | own (x:Addr)
 | xd (fs:List (Str×V))
 | met (f x:Addr)
 | rng (lo hi:Int)
 | frz (o:Obj) (u:HO)
 | tbl (ps:Array Value)
 | ext (φ:Heap→Prop)
noncomputable abbrev Hp:=Addr→Option HO
noncomputable def upd (H:Hp) (a:Addr) (o:HO):Hp:=λb=>if b=a then some o else H b
theorem ac {H:Hp} {a:Addr} {o:HO}:upd H a o a=some o:=by unfold upd; rw [if_pos rfl]
theorem aj {H:Hp} {a b:Addr} {o:HO} (h:b≠a):upd H a o b=H b:=by unfold upd; rw [if_neg h]
theorem xj {H:Hp} {a b:Addr} {o u:HO} (h:H a=some o) (h':H b=some u) (d:o≠u):a≠b:=by
 intro e; subst e; rw [h] at h'; exact d (Option.some.inj h')
theorem ce {H:Hp} {a b:Addr} {o:HO} (h:H a=some o) (h':H b=none):a≠b:=by
 intro e; subst e; rw [h] at h'; cases h'
section
variable (P:Program) (w:World)
noncomputable def bv (H:Hp) (h:Heap) (a:Addr):HO→Prop
 | .lst xs=>xs.length≤sizeLine∧∃ (its:List Value) (n:Nat),aE xs its∧h.get? a=some { cls:=.type "list",data:=.seq its.toArray n }
 | .tup xs=>xs.length≤sizeLine∧∃ its:List Value,aE xs its∧IsTup h a its.toArray
 | .dK kvs=>kvs.length≤sizeLine∧(a == sysModules)=false∧∃ vs,KV kvs vs∧h.DictOf (aD P w) a vs
 | .dT kvs=>kvs.length≤sizeLine∧(a == sysModules)=false∧∃ xs:List (List Key×Addr×Value),
   Paired (λ(p:List Key×V) (q:List Key×Addr×Value)=>p.1=q.1∧H q.2.1=some (.tup (p.1.map kV))∧aL p.2 q.2.2) kvs xs ∧
   ∃ o es ep,h.get? a=some o∧o.ExactDict∧o.data = .dict es ep∧es.toList=xs.map (entryOfKey (tupleKind (aD P w)))∧(xs.map (·.1)).Nodup
 | .set S n=>h.SetOf (intKind P w) a S n
 | .ins C dx fs=>H dx=some (.own a)∧fs.length≤1000∧dx≠a∧h.get? a=some (PySem.W.instObj C dx) ∧
   ∃ mA,h.Ns1 dx mA∧(∀ f,eu (fs.lookup f) (mA f))∧PySem.Within mA (fs.map (·.1))
 | .own _=>∃ o,h.get? a=some o
 | .xd fs=>∃ mA,h.Ns1 a mA∧∀ f,eu (fs.lookup f) (mA f)
 | .rng lo hi=>∃ t u v,h.get? a=some { cls:=.type "range",data:=.fields #[.int lo t,.int hi u,.int 1 v] }
 | .frz o u=>h.get? a=some o∧bv H h a u
 | .tbl ps=>h.get? a=some { cls:=.none,data:=.fields ps }
 | .met f x=>h.get? a=some (PySem.W.methodObj (.ref f) (.ref x))
 | .ext φ=>φ h∧(∃ o,h.get? a=some o)∧∀ h1 h2:Heap,φ h1→(∀ o,h1.get? a=some o→h2.get? a=some o)→φ h2
noncomputable def HOk (H:Hp) (h:Heap):Prop:=∀ a o,H a=some o→bv P w H h a o
end
section
variable {P:Program} {w:World} {H H':Hp} {h h':Heap} {a:Addr} {o:HO}
theorem bv.lt (x:bv P w H h a o):a<h.objs.size:=by
 cases o with
 | lst xs=>obtain ⟨_,_,_,_,e⟩:=x; exact Heap.lt_size e
 | tup xs=>obtain ⟨_,_,_,p⟩:=x; exact p.lt
 | dK kvs=>obtain ⟨_,_,_,_,o,_,_,e,_⟩:=x; exact Heap.lt_size e
 | dT kvs=>obtain ⟨_,_,_,_,o,_,_,e,_⟩:=x; exact Heap.lt_size e
 | set S n=>obtain ⟨o,_,_,_,e,_⟩:=x; exact Heap.lt_size e
 | ins C dx fs=>obtain ⟨_,_,_,e,_⟩:=x; exact Heap.lt_size e
 | own y=>obtain ⟨_,e⟩:=x; exact Heap.lt_size e
 | xd fs=>obtain ⟨_,⟨_,_,_,e,_⟩,_⟩:=x; exact Heap.lt_size e
 | rng lo hi=>obtain ⟨_,_,_,e⟩:=x; exact Heap.lt_size e
 | frz ob u=>obtain ⟨e,_⟩:=x; exact Heap.lt_size e
 | tbl ps=>exact Heap.lt_size (show h.get? a=some _ from x)
 | met f y=>exact Heap.lt_size (show h.get? a=some _ from x)
 | ext φ=>obtain ⟨_,⟨_,e⟩,_⟩:=x; exact Heap.lt_size e
theorem Paired.mapP {α β:Type} {F G:α→β→Prop}:∀ {l₁:List α} {l₂:List β},Paired F l₁ l₂→(∀ a b,F a b→G a b)→Paired G l₁ l₂
 | _,_,.nil,_=>.nil
 | _,_,.cons r t,f=>.cons (f _ _ r) (Paired.mapP t f)
theorem bv.stay (x:bv P w H h a o) (k:∀ b u,(b=a∨H b=some (.own a))→h.get? b=some u→h'.get? b=some u)
  (ho:∀ b,H b=some (.own a)→H' b=some (.own a)) (ht:∀ b xs,H b=some (.tup xs)→H' b=some (.tup xs)):bv P w H' h' a o:=by
 induction o with
 | lst xs=>obtain ⟨z,its,n,r,e⟩:=x; exact ⟨z,its,n,r,k _ _ (.inl rfl) e⟩
 | tup xs=>obtain ⟨z,its,r,ob,e,c⟩:=x; exact ⟨z,its,r,ob,k _ _ (.inl rfl) e,c⟩
 | dK kvs=>obtain ⟨z,y,vs,r,ob,es,ep,e,c⟩:=x; exact ⟨z,y,vs,r,ob,es,ep,k _ _ (.inl rfl) e,c⟩
 | dT kvs =>
  obtain ⟨z,y,xs,r,ob,es,ep,e,c⟩:=x
  exact ⟨z,y,xs,Paired.mapP r λp q z=>⟨z.1,ht _ _ z.2.1,z.2.2⟩,ob,es,ep,k _ _ (.inl rfl) e,c⟩
 | set S n=>obtain ⟨ob,es,ep,t,e,c⟩:=x; exact ⟨ob,es,ep,t,k _ _ (.inl rfl) e,c⟩
 | ins C dx fs =>
  obtain ⟨d,z,ne,e,mA,⟨od,es,ep,e2,c⟩,r⟩:=x
  exact ⟨ho _ d,z,ne,k _ _ (.inl rfl) e,mA,⟨od,es,ep,k _ _ (.inr d) e2,c⟩,r⟩
 | own y=>obtain ⟨ob,e⟩:=x; exact ⟨ob,k _ _ (.inl rfl) e⟩
 | xd fs=>obtain ⟨mA,⟨od,es,ep,e,c⟩,r⟩:=x; exact ⟨mA,⟨od,es,ep,k _ _ (.inl rfl) e,c⟩,r⟩
 | rng lo hi=>obtain ⟨t,u,v,e⟩:=x; exact ⟨t,u,v,k _ _ (.inl rfl) e⟩
 | frz ob u ih=>obtain ⟨e,q⟩:=x; exact ⟨k _ _ (.inl rfl) e,ih q⟩
 | tbl ps =>
  have e:h.get? a=some { cls:=.none,data:=.fields ps }:=x
  show h'.get? a=some { cls:=.none,data:=.fields ps }
  exact k a _ (.inl rfl) e
 | met f y =>
  have e:h.get? a=some (PySem.W.methodObj (.ref f) (.ref y)):=x
  show h'.get? a=some (PySem.W.methodObj (.ref f) (.ref y))
  exact k a _ (.inl rfl) e
 | ext φ=>obtain ⟨p,⟨o,e⟩,st⟩:=x; exact ⟨st _ _ p λo q=>k _ _ (.inl rfl) q,⟨o,k _ _ (.inl rfl) e⟩,st⟩
theorem HOk.lt (x:HOk P w H h) (e:H a=some o):a<h.objs.size:=(x a o e).lt
theorem HOk.fresh (x:HOk P w H h) (e:h.objs.size≤a):H a=none:=by
 cases q:H a with
 | none=>rfl
 | some u=>exact absurd (Nat.lt_of_lt_of_le (x.lt q) e) (Nat.lt_irrefl _)
theorem HOk.kept (x:HOk P w H h) (k:∀ b u,h.get? b=some u→h'.get? b=some u):HOk P w H h':=λa o e =>
 (x a o e).stay (λb u _ q=>k b u q) (λ_ q=>q) λ_ _ q=>q
theorem HOk.laid (x:HOk P w H h) (k:∀ b u,h.get? b=some u→h'.get? b=some u) (hp:h.objs.size≤a) (new:bv P w (upd H a o) h' a o):HOk P w (upd H a o) h':=λb u e=>by
 have hn:=x.fresh hp
 by_cases hb:b=a
 ·subst hb; rw [ac] at e; cases e; exact new
 ·rw [aj hb] at e
  exact (x b u e).stay (λc v _ q=>k c v q) (λc q=>by rw [aj (ce q hn)]; exact q) λc xs q=>by rw [aj (ce q hn)]; exact q
end
noncomputable def Rd (H:Hp) (a:Addr) (u:HO):Prop:=H a=some u∨∃ o,H a=some (.frz o u)
theorem Rd.of {H:Hp} {a:Addr} {u:HO} (h:H a=some u):Rd H a u:=.inl h
theorem Rd.ok {P:Program} {w:World} {H:Hp} {h:Heap} {a:Addr} {u:HO} (r:Rd H a u) (x:HOk P w H h):bv P w H h a u:=by
 rcases r with r | ⟨o,r⟩
 ·exact x a u r
 ·obtain ⟨_,q⟩:=x a _ r
  exact q
noncomputable def Mut:Option HO→Prop
 | some (.lst _)=>True
 | some (.dK _)=>True
 | some (.dT _)=>True
 | some (.set _ _)=>True
 | some (.ins _ _ _)=>True
 | some (.ext _)=>True
 | _=>False
section
variable {P:Program} {w:World} {H:Hp} {h h':Heap} {x e:Addr} {o':HO}
theorem HOk.write (ok:HOk P w H h) (mu:Mut (H x)) (he:e=x∨H e=some (.own x)) (k:∀ b u,b≠e→h.get? b=some u→h'.get? b=some u) (heo:∃ u,h'.get? e=some u)
  (new:bv P w (upd H x o') h' x o'):HOk P w (upd H x o') h':=λb u q=>by
 have nown:∀ c y,H c=some (.own y)→c≠x:=λc y r z=>by subst z; rw [r] at mu; exact mu
 have ntup:∀ c xs,H c=some (.tup xs)→c≠x:=λc xs r z=>by subst z; rw [r] at mu; exact mu
 by_cases hb:b=x
 ·subst hb; rw [ac] at q; cases q; exact new
 ·rw [aj hb] at q
  by_cases hbe:b=e
  ·have q':H b=some (.own x):=by
    rcases he with z | z
    ·exact absurd (hbe.trans z) hb
    ·rw [hbe]; exact z
   rw [q] at q'; cases q'
   obtain ⟨v,hv⟩:=heo
   exact ⟨v,by rw [hbe]; exact hv⟩
  ·refine (ok b u q).stay (λc v hc r=>k c v ?_ r) (λc r=>by rw [aj (nown c b r)]; exact r) λc xs r=>by rw [aj (ntup c xs r)]; exact r
   rcases hc with rfl | hc
   ·exact hbe
   ·rintro rfl
    rcases he with z | z
    ·exact nown c b hc z
    ·rw [hc] at z; cases z; exact hb rfl
end
structure Un (fs ex:List Addr) (H H':Hp) (h h':Heap):Prop where
 keep:∀ b o,h.get? b=some o→H b=none→b∉fs→b∉ex→h'.get? b=some o
 slot:∀ b o,h.get? b=some o→H b=none→b∈fs→b∉ex→∃ sl,h'.get? b=some { o with slots:=sl }
 free:∀ b o,h.get? b=some o→H b=none→b∉ex→H' b=none
 there:∀ b o,h.get? b=some o→b∉ex→∃ o',h'.get? b=some o'
 tups:∀ b xs,H b=some (.tup xs)→H' b=some (.tup xs)
 frzs:∀ b o u,H b=some (.frz o u)→H' b=some (.frz o u)
 tbls:∀ b ps,H b=some (.tbl ps)→∃ more,H' b=some (.tbl (ps++more))
section
variable {fs fs' ex ex':List Addr} {H H1 H2:Hp} {h h1 h2 h':Heap} {a x e:Addr} {o:HO}
theorem Un.any (u:Un fs ex H H1 h h1) {b:Addr} {ob:Obj} (q:h.get? b=some ob) (n:H b=none) (hx:b∉ex):∃ sl,h1.get? b=some { ob with slots:=sl }:=by
 by_cases hb:b∈fs
 ·exact u.slot b ob q n hb hx
 ·exact ⟨ob.slots,u.keep b ob q n hb hx⟩
theorem Un.kept (k:∀ b u,h.get? b=some u→h'.get? b=some u):Un fs ex H H h h' :=
 ⟨λb ob q _ _ _=>k b ob q,λb ob q _ _ _=>⟨ob.slots,k b ob q⟩,λ_ _ _ n _=>n,λb ob q _=>⟨ob,k b ob q⟩,λ_ _ q=>q,λ_ _ _ q=>q,λ_ ps q=>⟨#[],by rw [q]; simp⟩⟩
theorem Un.refl:Un fs ex H H h h:=Un.kept λ_ _ q=>q
theorem Un.laid (k:∀ b u,h.get? b=some u→h'.get? b=some u) (hp:h.objs.size≤a) (hn:H a=none):Un fs ex H (upd H a o) h h' where
 keep:=λb u q _ _ _=>k b u q
 slot:=λb u q _ _ _=>⟨u.slots,k b u q⟩
 free:=λb u q n _=>by rw [aj (Nat.ne_of_lt (Nat.lt_of_lt_of_le (Heap.lt_size q) hp))]; exact n
 there:=λb u q _=>⟨u,k b u q⟩
 tups:=λb xs q=>by rw [aj (ce q hn)]; exact q
 frzs:=λb u xs q=>by rw [aj (ce q hn)]; exact q
 tbls:=λb ps q=>⟨#[],by rw [aj (ce q hn),q]; simp⟩
theorem Un.write (mu:Mut (H x)) (he:e=x∨H e=some (.own x)) (k:∀ b u,b≠e→h.get? b=some u→h'.get? b=some u) (heo:∃ u,h'.get? e=some u):Un fs ex H (upd H x o) h h':=by
 have hx:∀ b,H b=none→b≠x:=λb n z=>by subst z; rw [n] at mu; exact mu
 have hb:∀ b,H b=none→b≠e:=λb n z=>by
  subst z
  rcases he with r | r
  ·exact hx b n r
  ·rw [n] at r; cases r
 have hm:∀ b u,H b=some u→¬ Mut (some u)→b≠x:=λb u q nm z=>by subst z; rw [q] at mu; exact nm mu
 refine ⟨λb u q n _ _=>k b u (hb b n) q,λb u q n _ _=>⟨u.slots,k b u (hb b n) q⟩,λb u q n _=>by rw [aj (hx b n)]; exact n,λb u q _=>?_,
  λb xs q=>by rw [aj (hm b _ q λz=>z)]; exact q,λb u xs q=>by rw [aj (hm b _ q λz=>z)]; exact q,λb ps q=>⟨#[],by rw [aj (hm b _ q λz=>z),q]; simp⟩⟩
 by_cases hbe:b=e
 ·subst hbe; exact heo
 ·exact ⟨u,k b u hbe q⟩
end
noncomputable def trk (h:Heap) (H:Hp):List Addr:=(List.range h.objs.size).filter λa=>(H a).isSome
noncomputable def km (h:Heap) (H:Hp):Heap:=PySem.W.hideAll h (trk h H)
theorem pO (h:Heap) (H:Hp):(km h H).objs.size=h.objs.size:=PySem.W.hideAll_size _ _
theorem qR {h:Heap} {H:Hp} {b:Addr} {o:Obj} (e:h.get? b=some o) (n:H b=none):(km h H).get? b=some o :=
 PySem.W.hideAll_get _ e λhm=>by
  have q:(H b).isSome=true:=(List.mem_filter.mp hm).2
  rw [n] at q; simp at q
theorem tN {h:Heap} {H:Hp} {b:Addr} {o:Obj} (e:(km h H).get? b=some o):h.get? b=some o∧H b=none:=by
 have e':h.get? b=some o:=PySem.W.of_hideAll (trk h H) e
 refine ⟨e',?_⟩
 cases q:H b with
 | none=>rfl
 | some x =>
  have hm:b∈trk h H:=List.mem_filter.mpr ⟨List.mem_range.mpr (Heap.lt_size e'),by simp [q]⟩
  have z:(km h H).get? b=none:=PySem.W.hideAll_none (trk h H) hm
  rw [z] at e; cases e
structure Mod (K:PySem.W.Frag) (mg:Str→Option Value) (base:Heap):Prop where
 kin:K.In base
 glob:base.Ns mainGlobals mg
 blt:∃ mb,base.Ns builtinsNs mb∧∀ x:Str,x≠"__name__"→mb x=bootBuiltins x
 nolimit:base.NoLimit
structure Cx where
 prog:Program
 w:World
 K:PySem.W.Frag
 mg:Str→Option Value
 base:Heap
 A:Around
 N:List Str
 s₀:Shared
 H₀:Hp
 env:Env
 outer:List Env
 stack:List Env
 ex:List Addr
 fn:Str→Bool
 calm:Bool
 pn:List (Addr×Obj)
 xe:Value→Shared→Prop
noncomputable def frs (l:List Env):List Addr:=l.filterMap (·.frame)
noncomputable abbrev Cx.fs (X:Cx):List Addr:=frs X.outer
noncomputable def Vis (sc:Scope) (x:Str):Prop:=sc.names.lookup x=some .local∨sc.names.lookup x=some .cell∨sc.names.lookup x=some .free
noncomputable def Loc (sc:Scope) (x:Str):Prop:=sc.names.lookup x=some .local∨sc.names.lookup x=some .cell
noncomputable def xX (env:Env) (h:Heap) (m:Str→Option Value) (x:Str) (u:Value):Prop :=
 (env.kindOf x=some .local∧m x=some u)∨((env.kindOf x=some .cell∨env.kindOf x=some .free)∧∃ c,env.cells.lookup x=some c∧h.IsCell c (some u))
structure Cx.Ok (X:Cx):Prop where
 mod:Mod X.K X.mg X.base
 kind:X.env.scope.kind = .function
 glob:X.env.globals=mainGlobals
 blt:X.env.builtins=builtinsNs
 above:X.s₀.heap.objs.size≤X.env.locals
 inj:∀ x y c,X.env.cells.lookup x=some c→X.env.cells.lookup y=some c→x=y
 has:∀ x,(X.env.kindOf x=some .cell∨X.env.kindOf x=some .free)→∃ c,X.env.cells.lookup x=some c
 cab:∀ x c,X.fn x=true→X.env.cells.lookup x=some c→X.s₀.heap.objs.size≤c
 hd:X.calm=true→X.A.handled=none
 frames:X.A.frames=some X.stack
 stk:X.stack=X.outer∨(X.stack=X.env :: X.outer∧X.env.frame=some X.env.locals)
 exf:∀ b∈X.ex,b≠X.env.locals∧∀ x c,X.env.cells.lookup x=some c→c≠b
 bs:∀ b o,X.base.get? b=some o→X.s₀.heap.get? b=some o∧X.H₀ b=none
 bsz:X.base.objs.size≤X.s₀.heap.objs.size
 noex:∀ b o,X.base.get? b=some o→b∉X.ex
 exfs:∀ b∈X.ex,b∉X.fs
 funs:X.s₀.heap.FunFrames X.base X.outer
 frf:∀ b∈X.fs,X.H₀ b=none
structure Inv (X:Cx) (pins:List (Addr×Obj)) (σ:List (Option V)) (H:Hp) (s:Shared):Prop where
 ok:X.Ok
 os:s.os=X.s₀.os
 bare:AllBare s.gens
 base:Un X.fs X.ex X.H₀ H X.s₀.heap s.heap
 loc:∃ m,s.heap.Ns X.env.locals m∧∀ (i:Nat) (x:Str) (v:V),X.N[i]? = some x→σ[i]? = some (some v)→Vis X.env.scope x→∃ u,aL v u∧xX X.env s.heap m x u
 cell:∀ x c,X.env.cells.lookup x=some c→∃ v,s.heap.IsCell c v
 free:H X.env.locals=none
 freeC:∀ x c,X.env.cells.lookup x=some c→H c=none
 pin:∀ p∈X.pn++pins,s.heap.get? p.1=some p.2∧H p.1=none∧p.1≠X.env.locals∧p.1∉X.fs∧∀ v,p.2.data ≠ .cell v
 hok:HOk X.prog X.w H s.heap
 len:σ.length=X.N.length
section
variable {X:Cx} {pins:List (Addr×Obj)} {σ:List (Option V)} {H H':Hp} {s:Shared} {h':Heap}
theorem Cx.Ok.nofr (ok:X.Ok) {b:Addr} {o:Obj} (e:X.base.get? b=some o):b∉X.fs:=λhb=>by
 have:=(ok.funs.mem hb).1
 rw [e] at this; cases this
theorem Inv.bs (I:Inv X pins σ H s):∀ b o,X.base.get? b=some o→s.heap.get? b=some o∧H b=none:=λb o e =>
 ⟨I.base.keep b o (I.ok.bs b o e).1 (I.ok.bs b o e).2 (I.ok.nofr e) (I.ok.noex b o e),I.base.free b o (I.ok.bs b o e).1 (I.ok.bs b o e).2 (I.ok.noex b o e)⟩
theorem Inv.bk (I:Inv X pins σ H s):∀ b o,X.base.get? b=some o→s.heap.get? b=some o:=λb o e=>(I.bs b o e).1
theorem Inv.mod (I:Inv X pins σ H s):Mod X.K X.mg X.base:=I.ok.mod
theorem Inv.kIn (I:Inv X pins σ H s):X.K.In s.heap:=I.ok.mod.kin.keeps I.bk
theorem Inv.lt (I:Inv X pins σ H s):X.env.locals<s.heap.objs.size:=let ⟨_,hn,_⟩:=I.loc; hn.lt
theorem Inv.sz (I:Inv X pins σ H s):X.s₀.heap.objs.size≤s.heap.objs.size:=Nat.le_trans I.ok.above (Nat.le_of_lt I.lt)
theorem Inv.nofs (I:Inv X pins σ H s) {a:Addr} (h:s.heap.objs.size≤a):a∉X.fs:=λhb=>by
 obtain ⟨_,o,ho,_⟩:=I.ok.funs.mem hb
 exact absurd (Nat.lt_of_lt_of_le (Heap.lt_size ho) (Nat.le_trans I.sz h)) (Nat.lt_irrefl _)
theorem Inv.cne (I:Inv X pins σ H s):∀ x c,X.env.cells.lookup x=some c→c≠X.env.locals:=λx c e z=>by
 obtain ⟨v,o,ho,hd⟩:=I.cell x c e
 obtain ⟨m,⟨o',es,ep,ho',hd',_⟩,_⟩:=I.loc
 rw [z,ho'] at ho; cases ho; rw [hd'] at hd; cases hd
theorem Inv.funs (I:Inv X pins σ H s):s.heap.FunFrames X.base X.outer:=by
 have all:∀ (l:List Env),(∀ b∈frs l,b∈X.fs)→X.s₀.heap.FunFrames X.base l→s.heap.FunFrames X.base l:=by
  intro l
  induction l with
  | nil=>intro _ _; trivial
  | cons env r ih =>
   intro hs hl
   obtain ⟨hk,⟨L,o,hf,hn,ho,hd⟩,hr⟩:=hl
   have hL:L∈X.fs:=hs L (by unfold frs; rw [List.filterMap_cons,hf]; exact List.mem_cons_self)
   obtain ⟨sl,e⟩:=I.base.slot L o ho (I.ok.frf L hL) hL λz=>I.ok.exfs L z hL
   exact ⟨hk,⟨L,_,hf,hn,e,hd⟩,ih (λb hb=>hs b (by unfold frs; rw [List.filterMap_cons,hf]; exact List.mem_cons_of_mem _ hb)) hr⟩
 exact all X.outer (λ_ hb=>hb) I.ok.funs
theorem Inv.stack (I:Inv X pins σ H s):s.heap.FunFrames X.base X.stack:=by
 rcases I.ok.stk with e | ⟨e,hf⟩
 ·rw [e]; exact I.funs
 ·rw [e]
  obtain ⟨m,hn,_⟩:=I.loc
  refine .cons (by rw [I.ok.kind]; decide) hf hn ?_ I.funs
  exact Heap.get?_none_of_le (Nat.le_trans I.ok.bsz I.ok.above)
theorem Inv.stkSub (I:Inv X pins σ H s):∀ b∈frs X.stack,b∈X.env.locals :: X.fs:=λb hb=>by
 rcases I.ok.stk with e | ⟨e,hf⟩
 ·rw [e] at hb; exact List.mem_cons_of_mem _ hb
 ·rw [e] at hb
  unfold frs at hb
  rw [List.filterMap_cons,hf] at hb
  exact hb
theorem Inv.stkFree (I:Inv X pins σ H s):∀ b∈frs X.stack,H b=none:=λb hb=>by
 rcases List.mem_cons.mp (I.stkSub b hb) with e | hb
 ·rw [e]; exact I.free
 ·obtain ⟨_,o,ho,_⟩:=I.ok.funs.mem hb
  exact I.base.free b o ho (I.ok.frf b hb) λz=>I.ok.exfs b z hb
theorem Inv.step {g':Array GenState} {t':Nat} {d':Drawn} {ch:List Addr} (I:Inv X pins σ H s)
  (hch:∀ b∈ch,(b∈X.ex∨X.s₀.heap.objs.size≤b)∧b≠X.env.locals∧(∀ x c,X.env.cells.lookup x=some c→c≠b)∧∀ p∈X.pn++pins,p.1≠b)
  (keep:∀ b o,b≠X.env.locals→b∉X.fs→b∉ch→s.heap.get? b=some o→H b=none→h'.get? b=some o)
  (slot:∀ b o,b≠X.env.locals→b∈X.fs→b∉ch→s.heap.get? b=some o→H b=none→∃ sl,h'.get? b=some { o with slots:=sl }) (free:∀ b o,b∉ch→s.heap.get? b=some o→H b=none→H' b=none)
  (there:∀ b o,b∉ch→s.heap.get? b=some o→∃ o',h'.get? b=some o')
  (tups:∀ b xs,H b=some (.tup xs)→H' b=some (.tup xs)) (frzs:∀ b o u,H b=some (.frz o u)→H' b=some (.frz o u)) (tbls:∀ b ps,H b=some (.tbl ps)→∃ more,H' b=some (.tbl (ps++more)))
  (ns:∀ m,s.heap.Ns X.env.locals m→h'.Ns X.env.locals m) (hok:HOk X.prog X.w H' h') (hg:AllBare g') :
  Inv X pins σ H' { s with heap:=h',gens:=g',drawn:=d',toks:=t' }:=by
 have neL:∀ b o,X.s₀.heap.get? b=some o→b≠X.env.locals:=λb o e=>Nat.ne_of_lt (Nat.lt_of_lt_of_le (Heap.lt_size e) I.ok.above)
 have neC:∀ b o,X.s₀.heap.get? b=some o→b∉X.ex→b∉ch:=λb o e hx hb=>by
  rcases (hch b hb).1 with z | z
  ·exact hx z
  ·exact absurd (Nat.lt_of_lt_of_le (Heap.lt_size e) z) (Nat.lt_irrefl _)
 have cellK:∀ x c,X.env.cells.lookup x=some c→∀ v,s.heap.IsCell c v→h'.IsCell c v:=λx c e v ⟨o,ho,hd⟩=>by
  have nch:c∉ch:=λz=>(hch c z).2.2.1 x c e rfl
  by_cases hc:c∈X.fs
  ·obtain ⟨sl,q⟩:=slot c o (I.cne x c e) hc nch ho (I.freeC x c e)
   exact ⟨_,q,hd⟩
  ·exact ⟨o,keep c o (I.cne x c e) hc nch ho (I.freeC x c e),hd⟩
 refine ⟨I.ok,I.os,hg,⟨λb o e n hb hx=>?_,λb o e n hb hx=>?_,λb o e n hx=>?_,λb o e hx=>?_,λb xs e=>tups b xs (I.base.tups b xs e),λb o xs e=>frzs b o xs (I.base.frzs b o xs e),λb ps e=>?_⟩,?_,λx c e=>?_,?_,λx c e=>?_,λp hp=>?_,hok,I.len⟩
 ·exact keep b o (neL b o e) hb (neC b o e hx) (I.base.keep b o e n hb hx) (I.base.free b o e n hx)
 ·obtain ⟨sl,e1⟩:=I.base.slot b o e n hb hx
  obtain ⟨sl',e2⟩:=slot b _ (neL b o e) hb (neC b o e hx) e1 (I.base.free b o e n hx)
  exact ⟨sl',e2⟩
 ·obtain ⟨o',e1⟩:=I.base.there b o e hx
  exact free b o' (neC b o e hx) e1 (I.base.free b o e n hx)
 ·obtain ⟨o',e1⟩:=I.base.there b o e hx
  exact there b o' (neC b o e hx) e1
 ·obtain ⟨m1,e1⟩:=I.base.tbls b ps e
  obtain ⟨m2,e2⟩:=tbls b _ e1
  exact ⟨m1++m2,by rw [e2,Array.append_assoc]⟩
 ·obtain ⟨m,hn,hl⟩:=I.loc
  refine ⟨m,ns m hn,λi x v e1 e2 e3=>?_⟩
  obtain ⟨u,r,l⟩:=hl i x v e1 e2 e3
  refine ⟨u,r,?_⟩
  rcases l with l | ⟨k,c,e,z⟩
  ·exact .inl l
  ·exact .inr ⟨k,c,e,cellK x c e _ z⟩
 ·obtain ⟨v,z⟩:=I.cell x c e
  exact ⟨v,cellK x c e v z⟩
 ·obtain ⟨m,⟨o,_,_,ho,_⟩,_⟩:=I.loc
  exact free _ o (λz=>(hch _ z).2.1 rfl) ho I.free
 ·obtain ⟨v,o,ho,hd⟩:=I.cell x c e
  exact free c o (λz=>(hch c z).2.2.1 x c e rfl) ho (I.freeC x c e)
 ·obtain ⟨e,n,ne,nf,d⟩:=I.pin p hp
  have nch:p.1∉ch:=λz=>(hch p.1 z).2.2.2 p hp rfl
  exact ⟨keep p.1 p.2 ne nf nch e n,free p.1 p.2 nch e n,ne,nf,d⟩
theorem Inv.un {t':Nat} (I:Inv X pins σ H s) (u:Un X.fs [] H H' s.heap h') (hok:HOk X.prog X.w H' h'):Inv X pins σ H' { s with heap:=h',toks:=t' }:=by
 obtain ⟨m,⟨o,es,ep,ho,r⟩,_⟩:=id I.loc
 obtain ⟨sl,hL⟩:=u.any ho I.free (by simp)
 exact I.step (g':=s.gens) (d':=s.drawn) (ch:=[]) (λ_ z=>nomatch z) (λb o _ hb _ e n=>u.keep b o e n hb (by simp)) (λb o _ hb _ e n=>u.slot b o e n hb (by simp)) (λb o _ e n=>u.free b o e n (by simp)) (λb o _ e=>u.there b o e (by simp)) u.tups u.frzs u.tbls (λm' hm=>by
  obtain ⟨o',es',ep',ho',r'⟩:=hm
  rw [ho] at ho'; cases ho'
  exact ⟨_,es',ep',hL,r'⟩) hok I.bare
theorem Inv.call {g':Array GenState} {t':Nat} {d':Drawn} {ch:List Addr} (I:Inv X pins σ H s) (u:Un (frs X.stack) ch H H' s.heap h') (hok:HOk X.prog X.w H' h') (hg:AllBare g')
  (hch:∀ b∈ch,(b∈X.ex∨X.s₀.heap.objs.size≤b)∧b≠X.env.locals∧(∀ x c,X.env.cells.lookup x=some c→c≠b)∧∀ p∈X.pn++pins,p.1≠b) :
  Inv X pins σ H' { s with heap:=h',gens:=g',drawn:=d',toks:=t' }:=by
 obtain ⟨m,⟨o,es,ep,ho,r⟩,_⟩:=id I.loc
 obtain ⟨sl,hL⟩:=u.any ho I.free λz=>(hch _ z).2.1 rfl
 exact I.step (ch:=ch) hch (λb o hL hb hc e n=>u.keep b o e n (λz=>(List.mem_cons.mp (I.stkSub b z)).elim hL hb) hc) (λb o _ _ hc e n=>u.any e n hc) (λb o hc e n=>u.free b o e n hc) (λb o hc e=>u.there b o e hc) u.tups u.frzs u.tbls (λm' hm=>by
  obtain ⟨o',es',ep',ho',r'⟩:=hm
  rw [ho] at ho'; cases ho'
  exact ⟨_,es',ep',hL,r'⟩) hok hg
theorem Inv.turned {t':Nat} {it:Addr} (I:Inv X pins σ H s) (k:∀ b o,b≠it→s.heap.get? b=some o→h'.get? b=some o) (hn:H it=none) (hL:it≠X.env.locals)
  (h1:it∈X.ex∨X.s₀.heap.objs.size≤it) (h2:∀ x c,X.env.cells.lookup x=some c→c≠it) (h3:∀ p∈X.pn++pins,p.1≠it):Inv X pins σ H { s with heap:=h',toks:=t' }:=by
 have nit:∀ b u,H b=some u→b≠it:=λb u e z=>by rw [z,hn] at e; cases e
 refine I.step (g':=s.gens) (d':=s.drawn) (ch:=[it]) (λb hb=>?_) (λb o _ _ hc e _=>k b o (λz=>hc (by simp [z])) e) (λb o _ _ hc e _=>⟨o.slots,k b o (λz=>hc (by simp [z])) e⟩) (λ_ _ _ _ n=>n)
  (λb o hc e=>⟨o,k b o (λz=>hc (by simp [z])) e⟩) (λ_ _ e=>e) (λ_ _ _ e=>e) (λb ps e=>⟨#[],by rw [e]; simp⟩) (λm hm=>?_) (λb u e=>?_) I.bare
 ·have e:b=it:=by simpa using hb
  subst e
  exact ⟨h1,hL,h2,h3⟩
 ·obtain ⟨o,es,ep,ho,r⟩:=hm
  exact ⟨o,es,ep,k _ o (Ne.symm hL) ho,r⟩
 ·refine (I.hok b u e).stay (λc v hc q=>k c v ?_ q) (λ_ q=>q) λ_ _ q=>q
  rcases hc with z | z
  ·rw [z]; exact nit b u e
  ·exact nit c _ z
theorem Inv.tok (I:Inv X pins σ H s) (t:Nat):Inv X pins σ H { s with toks:=t }:=I.un (h':=s.heap) (t':=t) Un.refl I.hok
theorem Inv.kept {t':Nat} (I:Inv X pins σ H s) (k:∀ b u,s.heap.get? b=some u→h'.get? b=some u):Inv X pins σ H { s with heap:=h',toks:=t' }:=I.un (Un.kept k) (I.hok.kept k)
theorem Inv.laid {a:Addr} {o:HO} {t':Nat} (I:Inv X pins σ H s) (k:∀ b u,s.heap.get? b=some u→h'.get? b=some u) (hp:s.heap.objs.size≤a) (new:bv X.prog X.w (upd H a o) h' a o) :
  Inv X pins σ (upd H a o) { s with heap:=h',toks:=t' }:=I.un (Un.laid k hp (I.hok.fresh hp)) (I.hok.laid k hp new)
theorem Inv.write {x e:Addr} {o:HO} {t':Nat} (I:Inv X pins σ H s) (mu:Mut (H x)) (he:e=x∨H e=some (.own x)) (k:∀ b u,b≠e→s.heap.get? b=some u→h'.get? b=some u) (heo:∃ u,h'.get? e=some u)
  (new:bv X.prog X.w (upd H x o) h' x o):Inv X pins σ (upd H x o) { s with heap:=h',toks:=t' }:=I.un (Un.write mu he k heo) (I.hok.write mu he k heo new)
theorem Inv.pins_of {pins':List (Addr×Obj)} (I:Inv X pins σ H s) (h:∀ p∈pins',s.heap.get? p.1=some p.2∧H p.1=none∧p.1≠X.env.locals∧p.1∉X.fs∧∀ v,p.2.data ≠ .cell v):Inv X pins' σ H s :=
 ⟨I.ok,I.os,I.bare,I.base,I.loc,I.cell,I.free,I.freeC,λp hp=>(List.mem_append.mp hp).elim (λz=>I.pin p (List.mem_append_left _ z)) (h p),I.hok,I.len⟩
theorem lH {N:List Str} (hN:N.Nodup) {i j:Nat} {x:Str} (a:N[i]? = some x) (b:N[j]? = some x):i=j:=by
 obtain ⟨h1,e1⟩:=List.getElem?_eq_some_iff.mp a
 obtain ⟨h2,e2⟩:=List.getElem?_eq_some_iff.mp b
 exact (List.getElem_inj hN).mp (e1.trans e2.symm)
theorem gv {M:Model} {A:Around} {E:Value→Shared→Prop} {i:Nat} {x:Str} {v:V} {u:Value} {Q:Unit→Shared→Prop} (I:Inv X pins σ H s) (hN:X.N.Nodup) (hi:X.N[i]? = some x) (hx:Loc X.env.scope x) (r:aL v u)
  (h:∀ s',Inv X pins (σ.set i (some v)) H s'→(∃ a,Heap.SameBut a s.heap s'.heap∧(a=X.env.locals∨X.env.cells.lookup x=some a))→Q () s') (hf:X.fn x=true∨X.env.scope.names.lookup x=some .local:=by first | exact .inl rfl | exact .inr rfl | assumption):wpAny M A (storeName X.env x u) Q E s:=by
 obtain ⟨m,hn,hl⟩:=id I.loc
 have hcls:(X.env.scope.kind == .class || (X.env.scope.kind == .module && X.env.locals != X.env.globals))=false:=by rw [I.ok.kind]; rfl
 have hiσ:i<σ.length:=by rw [I.len]; exact (List.getElem?_eq_some_iff.mp hi).1
 have cne:=I.cne
 have tracked:∀ {a:Addr} {h':Heap},(∃ o,s.heap.get? a=some o∧H a=none)→Heap.SameBut a s.heap h'→HOk X.prog X.w H h':=λ{a h'} ha hs b ob e=>by
  obtain ⟨_,_,hfree⟩:=ha
  refine (I.hok b ob e).stay (λc w' hc q=>(hs.2 c ?_).trans q) (λ_ q=>q) λ_ _ q=>q
  rintro rfl
  rcases hc with rfl | hc
  ·rw [hfree] at e; cases e
  ·rw [hfree] at hc; cases hc
 rcases hx with hk | hk
 ·refine wpAny_storeName_local hk hn (λh' hn' hs=>?_) hcls
  obtain ⟨oL,_,_,hoL,_⟩:=id hn
  refine h _ ⟨I.ok,I.os,I.bare,⟨λb o e n hb hx=>?_,λb o e n hb hx=>?_,I.base.free,λb o e hx=>?_,I.base.tups,I.base.frzs,I.base.tbls⟩,⟨_,hn',λj y v' e1 e2 e3=>?_⟩,λy c e=>?_,I.free,I.freeC,λp hp=>?_,tracked ⟨oL,hoL,I.free⟩ hs,by simpa using I.len⟩ ⟨_,hs,.inl rfl⟩
  ·exact (hs.2 b (Nat.ne_of_lt (Nat.lt_of_lt_of_le (Heap.lt_size e) I.ok.above))).trans (I.base.keep b o e n hb hx)
  ·obtain ⟨sl,e1⟩:=I.base.slot b o e n hb hx
   exact ⟨sl,(hs.2 b (Nat.ne_of_lt (Nat.lt_of_lt_of_le (Heap.lt_size e) I.ok.above))).trans e1⟩
  ·obtain ⟨o',e1⟩:=I.base.there b o e hx
   exact ⟨o',(hs.2 b (Nat.ne_of_lt (Nat.lt_of_lt_of_le (Heap.lt_size e) I.ok.above))).trans e1⟩
  ·by_cases hj:j=i
   ·subst hj
    rw [hi] at e1; cases e1
    rw [List.getElem?_set_self hiσ] at e2
    cases e2
    exact ⟨u,r,.inl ⟨hk,by simp⟩⟩
   ·rw [List.getElem?_set_ne (Ne.symm hj)] at e2
    obtain ⟨u',r',q⟩:=hl j y v' e1 e2 e3
    refine ⟨u',r',?_⟩
    rcases q with ⟨k,e⟩ | ⟨k,c,e,z⟩
    ·refine .inl ⟨k,?_⟩
     have:y≠x:=λe=>hj (lH hN e1 (e ▸ hi))
     simp [this,e]
    ·exact .inr ⟨k,c,e,z.sameBut hs (cne y c e)⟩
  ·obtain ⟨w',z⟩:=I.cell y c e
   exact ⟨w',z.sameBut hs (cne y c e)⟩
  ·obtain ⟨e,n,ne,nf,d⟩:=I.pin p hp
   exact ⟨(hs.2 p.1 ne).trans e,n,ne,nf,d⟩
 ·have hfn:X.fn x=true:=by
   rcases hf with z | z
   ·exact z
   ·rw [z] at hk; cases hk
  obtain ⟨c,hc⟩:=I.ok.has x (.inl hk)
  obtain ⟨w',z⟩:=I.cell x c hc
  refine wpAny_storeName_cell I.ok.kind hk hc z (λh' hc' hs=>?_)
  obtain ⟨oc,hoc,hocd⟩:=id z
  refine h { s with heap:=h' } ⟨I.ok,I.os,I.bare,⟨λb o e n hb hx=>?_,λb o e n hb hx=>?_,I.base.free,λb o e hx=>?_,I.base.tups,I.base.frzs,I.base.tbls⟩,⟨m,hn.sameBut hs (Ne.symm (cne x c hc)),λj y v' e1 e2 e3=>?_⟩,λy c' e=>?_,I.free,I.freeC,λp hp=>?_,tracked ⟨oc,hoc,I.freeC x c hc⟩ hs,by simpa using I.len⟩ ⟨c,hs,.inr hc⟩
  ·exact (hs.2 b (Nat.ne_of_lt (Nat.lt_of_lt_of_le (Heap.lt_size e) (I.ok.cab x c hfn hc)))).trans (I.base.keep b o e n hb hx)
  ·obtain ⟨sl,e1⟩:=I.base.slot b o e n hb hx
   exact ⟨sl,(hs.2 b (Nat.ne_of_lt (Nat.lt_of_lt_of_le (Heap.lt_size e) (I.ok.cab x c hfn hc)))).trans e1⟩
  ·obtain ⟨o',e1⟩:=I.base.there b o e hx
   exact ⟨o',(hs.2 b (Nat.ne_of_lt (Nat.lt_of_lt_of_le (Heap.lt_size e) (I.ok.cab x c hfn hc)))).trans e1⟩
  ·by_cases hj:j=i
   ·subst hj
    rw [hi] at e1; cases e1
    rw [List.getElem?_set_self hiσ] at e2
    cases e2
    exact ⟨u,r,.inr ⟨.inl hk,c,hc,hc'⟩⟩
   ·rw [List.getElem?_set_ne (Ne.symm hj)] at e2
    obtain ⟨u',r',q⟩:=hl j y v' e1 e2 e3
    refine ⟨u',r',?_⟩
    rcases q with q | ⟨k,c',e,z'⟩
    ·exact .inl q
    ·refine .inr ⟨k,c',e,z'.sameBut hs ?_⟩
     rintro rfl
     exact hj (lH hN e1 (I.ok.inj _ _ _ e hc ▸ hi))
  ·by_cases hcc:c'=c
   ·subst hcc; exact ⟨_,hc'⟩
   ·obtain ⟨w2,z2⟩:=I.cell y c' e
    exact ⟨w2,z2.sameBut hs hcc⟩
  ·obtain ⟨e,n,ne,nf,d⟩:=I.pin p hp
   refine ⟨(hs.2 p.1 ?_).trans e,n,ne,nf,d⟩
   intro q
   rw [q,hoc] at e
   have q':oc=p.2:=Option.some.inj e
   exact d w' (by rw [← q']; exact hocd)
theorem lI {M:Model} {A:Around} {E:Value→Shared→Prop} {i:Nat} {x:Str} {v:V} {u:Value} {Q:Unit→Shared→Prop} (I:Inv X pins σ H s) (hN:X.N.Nodup) (hi:X.N[i]? = some x) (hx:Loc X.env.scope x) (r:aL v u)
  (h:∀ s',Inv X pins (σ.set i (some v)) H s'→Q () s') (hf:X.fn x=true∨X.env.scope.names.lookup x=some .local:=by first | exact .inl rfl | exact .inr rfl | assumption):wpAny M A (storeName X.env x u) Q E s :=
 gv I hN hi hx r (λs' I' _=>h s' I') hf
theorem Inv.call' {s':Shared} {ch:List Addr} (I:Inv X pins σ H s) (ho:s'.os=s.os) (u:Un (frs X.stack) ch H H' s.heap s'.heap) (hok:HOk X.prog X.w H' s'.heap) (hg:AllBare s'.gens)
  (hch:∀ b∈ch,(b∈X.ex∨X.s₀.heap.objs.size≤b)∧b≠X.env.locals∧(∀ x c,X.env.cells.lookup x=some c→c≠b)∧∀ p∈X.pn++pins,p.1≠b):Inv X pins σ H' s':=by
 obtain ⟨h',g',d',t',o'⟩:=s'
 have e:o'=s.os:=ho
 subst e
 exact I.call (g':=g') (t':=t') (d':=d') u hok hg hch
end
noncomputable abbrev XK:=Value→Option Addr→Hp→Prop
noncomputable abbrev St:=List (Option V)
noncomputable abbrev VK:=V→Hp→Prop
noncomputable abbrev TE:=St→Hp→VK→Prop
noncomputable abbrev TT:=St→Hp→(Bool→Hp→Prop)→Prop
noncomputable abbrev TA:=St→Hp→(List V→Hp→Prop)→Prop
structure Ends where
 nx:St→Hp→Prop
 rt:VK
 bk:St→Hp→Prop:=λ_ _=>False
 ct:St→Hp→Prop:=λ_ _=>False
noncomputable abbrev TS:=Ends→St→Hp→Prop
noncomputable def EP (X:Cx) (pins:List (Addr×Obj)) (σ:St) (Q:VK) (u:Value) (s':Shared):Prop:=∃ v H',Inv X pins σ H' s'∧aL v u∧Q v H'
noncomputable def TP (X:Cx) (pins:List (Addr×Obj)) (σ:St) (Q:Bool→Hp→Prop) (b:Bool) (s':Shared):Prop:=∃ H',Inv X pins σ H' s'∧Q b H'
noncomputable def AP (X:Cx) (pins:List (Addr×Obj)) (σ:St) (Q:List V→Hp→Prop) (us:List Value) (s':Shared):Prop:=∃ vs H',Inv X pins σ H' s'∧aE vs us∧Q vs H'
noncomputable def SP (X:Cx) (pins:List (Addr×Obj)) (D:Ends) (f:Flow) (s':Shared):Prop :=
 match f with
 | .next=>∃ σ' H',Inv X pins σ' H' s'∧D.nx σ' H'
 | .brk=>∃ σ' H',Inv X pins σ' H' s'∧D.bk σ' H'
 | .cont=>∃ σ' H',Inv X pins σ' H' s'∧D.ct σ' H'
 | .ret u=>∃ v σ' H',Inv X pins σ' H' s'∧aL v u∧D.rt v H'
noncomputable def PE (X:Cx) (e:Expr) (t:TE):Prop :=
 ∀ (pins:List (Addr×Obj)) (s:Shared) (σ:St) (H:Hp) (Q:VK),Inv X pins σ H s→t σ H Q→wpAny (model X.prog X.w) X.A (eval e X.env) (EP X pins σ Q) X.xe s
noncomputable def PT (X:Cx) (e:Expr) (t:TT):Prop :=
 ∀ (pins:List (Addr×Obj)) (s:Shared) (σ:St) (H:Hp) (Q:Bool→Hp→Prop),Inv X pins σ H s→t σ H Q→wpAny (model X.prog X.w) X.A (isTrue e X.env (eval e X.env)) (TP X pins σ Q) X.xe s
noncomputable def PW (X:Cx) (e:Expr) (t:TT):Prop :=
 ∀ (whole:Sem Value) (pins:List (Addr×Obj)) (s:Shared) (σ:St) (H:Hp) (Q:Bool→Hp→Prop),Inv X pins σ H s→t σ H Q→wpAny (model X.prog X.w) X.A (isTrue e X.env whole) (TP X pins σ Q) X.xe s
theorem PW.pt {X:Cx} {e:Expr} {t:TT} (h:PW X e t):PT X e t:=h _
noncomputable def PA (X:Cx) (es:List Expr) (t:TA):Prop :=
 ∀ (pos:Pos) (pins:List (Addr×Obj)) (s:Shared) (σ:St) (H:Hp) (Q:List V→Hp→Prop),Inv X pins σ H s→t σ H Q→wpAny (model X.prog X.w) X.A (spliced (backTo pos (starEach es X.env))) (AP X pins σ Q) X.xe s
noncomputable def PS (X:Cx) (st:Stmt) (t:TS):Prop :=
 ∀ (pins:List (Addr×Obj)) (s:Shared) (σ:St) (H:Hp) (D:Ends),Inv X pins σ H s→t D σ H→wpAny (model X.prog X.w) X.A (exec st X.env) (SP X pins D) X.xe s
noncomputable def PSs (X:Cx) (st:List Stmt) (t:TS):Prop :=
 ∀ (pins:List (Addr×Obj)) (s:Shared) (σ:St) (H:Hp) (D:Ends),Inv X pins σ H s→t D σ H→wpAny (model X.prog X.w) X.A (execs st X.env) (SP X pins D) X.xe s
theorem thn {α:Type} {t:Sem α} {Q Q':α→Shared→Prop} {M:Model} {A:Around} {E:Value→Shared→Prop} {s:Shared} (h:wpAny M A t Q E s) (hQ:∀ a s,Q a s→Q' a s):wpAny M A t Q' E s:=wpAny_mono h hQ λ_ _ x=>x
section
variable {X:Cx}
noncomputable def jl (i:Nat):TE:=λσ H Q=>∃ v,σ[i]? = some (some v)∧Q v H
noncomputable def tC (v:V):TE:=λ_ H Q=>Q v H
theorem vG {i:Nat} {x:Str} {pos:Pos} (hN:X.N[i]? = some x) (hv:Vis X.env.scope x) (hd:(x == ("__debug__":Str))=false:=by decide) (hcd:(x == ("__classdict__":Str))=false:=by decide):PE X (.Name x pos) (jl i):=by
 intro pins s σ H Q I h
 obtain ⟨v,e,h⟩:=h
 obtain ⟨m,hn,hl⟩:=I.loc
 obtain ⟨u,r,l⟩:=hl i x v hN e hv
 have fin:EP X pins σ Q u s:=⟨v,H,I,r,h⟩
 rcases l with ⟨hk,hm⟩ | ⟨hk,c,hc,hcell⟩
 ·exact wpAny_Name (wpAny_loadName_local I.ok.kind hk hn hm fin) hd
 ·rcases hk with hk | hk
  ·exact wpAny_Name (wpAny_loadName_cell I.ok.kind hk hc hcell fin) hd
  ·exact wpAny_Name (wpAny_loadName_free I.ok.kind hk hc hcell fin hcd) hd
theorem ah {i j pos}:PE X (.Constant (.int i) j pos) (tC (.int i)):=λ_ _ _ H _ I h=>wpAny_Constant_int ⟨.int i,H,I.tok _,⟨_,rfl⟩,h⟩
theorem dw {b j pos}:PE X (.Constant (.bool b) j pos) (tC (.bl b)):=λ_ _ _ H _ I h=>Constant_bool ⟨.bl b,H,I,rfl,h⟩
theorem dm {j pos}:PE X (.Constant .none j pos) (tC .non):=λ_ _ _ H _ I h=>Constant_none ⟨.non,H,I,rfl,h⟩
theorem aU {x j pos}:PE X (.Constant (.str x) j pos) (tC (.str x)):=λ_ _ _ H _ I h=>Calls.Constant_str ⟨.str x,H,I.tok _,⟨_,rfl⟩,h⟩
noncomputable def Gl (X:Cx) (x:Str):Prop:=X.env.kindOf x=some .globalImplicit
theorem kn {E:Value→Shared→Prop} {pins:List (Addr×Obj)} {s:Shared} {σ:St} {H:Hp} {x:Str} {u:Value} {pos:Pos} {Q:Value→Shared→Prop} (I:Inv X pins σ H s) (hg:Gl X x) (hm:X.mg x=some u) (h:Q u s)
  (hd:(x == ("__debug__":Str))=false:=by decide):wpAny (model X.prog X.w) X.A (eval (.Name x pos) X.env) Q E s :=
 Calls.Name_function_global I.ok.kind hg (Calls.loadGlobal_global (by rw [I.ok.glob]; exact I.mod.glob.keeps I.bk) hm h) hd
theorem ik {E:Value→Shared→Prop} {pins:List (Addr×Obj)} {s:Shared} {σ:St} {H:Hp} {x:Str} {u:Value} {pos:Pos} {Q:Value→Shared→Prop} (I:Inv X pins σ H s) (hg:Gl X x) (hm:X.mg x=none) (hv:bootBuiltins x=some u) (h:Q u s)
  (hn:x≠"__name__":=by decide) (hd:(x == ("__debug__":Str))=false:=by decide):wpAny (model X.prog X.w) X.A (eval (.Name x pos) X.env) Q E s:=by
 obtain ⟨mb,h1,h2⟩:=I.mod.blt
 exact Calls.Name_function_global I.ok.kind hg (Calls.loadGlobal_builtin (by rw [I.ok.glob]; exact I.mod.glob.keeps I.bk) hm (by rw [I.ok.blt]; exact h1.keeps I.bk) ((h2 x hn).trans hv) h) hd
theorem fq {x:Str} {v:V} {u:Value} {pos:Pos} (hg:Gl X x) (hm:X.mg x=some u) (r:aL v u) (hd:(x == ("__debug__":Str))=false:=by decide):PE X (.Name x pos) (tC v) :=
 λ_ _ _ H _ I h=>kn I hg hm ⟨v,H,I,r,h⟩ hd
theorem dG {x:Str} {v:V} {u:Value} {pos:Pos} (hg:Gl X x) (hm:X.mg x=none) (hv:bootBuiltins x=some u) (r:aL v u) (hn:x≠"__name__":=by decide) (hd:(x == ("__debug__":Str))=false:=by decide):PE X (.Name x pos) (tC v) :=
 λ_ _ _ H _ I h=>ik I hg hm hv ⟨v,H,I,r,h⟩ hn hd
variable {a b:Expr} {ta tb:TE} {pos:Pos}
noncomputable def PC (X:Cx) (op:CmpOp) (a b:Expr) (t:TE):Prop :=
 ∀ (pins:List (Addr×Obj)) (s:Shared) (σ:St) (H:Hp) (Q:VK),Inv X pins σ H s→t σ H Q →
  wpAny (model X.prog X.w) X.A (eval a X.env) (λv s₁=>wpAny (model X.prog X.w) X.A (eval b X.env) (λu s₂=>wpAny (model X.prog X.w) X.A (compareOp op v u) (EP X pins σ Q) X.xe s₂) X.xe s₁) X.xe s
noncomputable def tB (t:TE):TT:=λσ H Q=>t σ H λx H1=>∃ c,x = .bl c∧Q c H1
theorem ko {op:CmpOp} {t:TE} (h:PC X op a b t) (h1:behindInMarks op b=false:=by first | exact nobehind _ (by decide) (by decide) | rfl):PT X (.Compare a [op] [b] pos) (tB t):=by
 intro pins s σ H Q I hw
 refine wpAny_isTrue_Compare1 (thn (h pins s σ H _ I hw) λv s1 h1=>thn h1 λu s2 h2=>thn h2 λc s3 ⟨x,H1,I1,r1,q1⟩=>?_) h1
 obtain ⟨d,rfl,q⟩:=q1
 cases r1
 exact wpAny_truthy_bool ⟨H1,I1,q⟩
theorem cB {e:Expr} {t:TE} (h:PE X e t) (he:∀ whole,isTrue e X.env whole=(do let v ← whole; standAt e.pos; holding [v] (truthy v)):=by intro _; rfl):PT X e (tB t):=by
 intro pins s σ H Q I hw
 refine isTrue_plain (thn (h pins s σ H _ I hw) λv s1 ⟨x,H1,I1,r1,q1⟩=>?_) (he _)
 obtain ⟨d,rfl,q⟩:=q1
 cases r1
 exact wpAny_truthy_bool ⟨H1,I1,q⟩
variable {tA tB':TT} {rest:List Expr}
noncomputable def xY (t u:TT):TT:=λσ H Q=>t σ H λc H1=>if c=true then u σ H1 Q else Q false H1
noncomputable def tOr (t u:TT):TT:=λσ H Q=>t σ H λc H1=>if c=true then Q true H1 else u σ H1 Q
noncomputable def xZ (t:TT):TT:=λσ H Q=>t σ H λc H1=>Q (!c) H1
theorem pw_and1 (ha:PT X a tA):PW X (.BoolOp .And [a] pos) tA:=by
 intro wh pins s σ H Q I h
 refine isTrue_and (thn (ha pins s σ H Q I h) λc s1 e=>?_)
 cases c with
 | true=>exact isTrue_and_nil e
 | false=>exact e
theorem pw_or1 (ha:PT X a tA):PW X (.BoolOp .Or [a] pos) tA:=by
 intro wh pins s σ H Q I h
 refine isTrue_or (thn (ha pins s σ H Q I h) λc s1 e=>?_)
 cases c with
 | false=>exact isTrue_or_nil e
 | true=>exact e
theorem pw_and (ha:PT X a tA) (hb:PW X (.BoolOp .And (b :: rest) pos) tB'):PW X (.BoolOp .And (a :: b :: rest) pos) (xY tA tB'):=by
 intro wh pins s σ H Q I h
 refine isTrue_and (thn (ha pins s σ H _ I h) λc s1 hpt=>?_)
 obtain ⟨H1,I1,q1⟩:=hpt
 cases c with
 | true=>exact hb wh pins s1 σ H1 Q I1 q1
 | false=>exact ⟨H1,I1,q1⟩
theorem pw_or (ha:PT X a tA) (hb:PW X (.BoolOp .Or (b :: rest) pos) tB'):PW X (.BoolOp .Or (a :: b :: rest) pos) (tOr tA tB'):=by
 intro wh pins s σ H Q I h
 refine isTrue_or (thn (ha pins s σ H _ I h) λc s1 hpt=>?_)
 obtain ⟨H1,I1,q1⟩:=hpt
 cases c with
 | true=>exact ⟨H1,I1,q1⟩
 | false=>exact hb wh pins s1 σ H1 Q I1 q1
theorem cL (ha:PT X a tA):PT X (.UnaryOp .Not a pos) (xZ tA):=by
 intro pins s σ H Q I h
 exact isTrue_not (ha pins s σ H (λc H1=>Q (!c) H1) I h)
noncomputable def xk (ta tb:TE):TE:=λσ H Q=>ta σ H λx H1=>∃ c,x = .bl c∧if c=true then tb σ H1 Q else Q (.bl false) H1
noncomputable def ya (ta tb:TE):TE:=λσ H Q=>ta σ H λx H1=>∃ c,x = .bl c∧if c=true then Q (.bl true) H1 else tb σ H1 Q
noncomputable def xl (ta:TE):TE:=λσ H Q=>ta σ H λx H1=>∃ c,x = .bl c∧Q (.bl (!c)) H1
theorem il {op} {t:TE} (h:PE X a t):PE X (.BoolOp op [a] pos) t:=λpins s σ H Q I hw=>BoolOp_one (h pins s σ H Q I hw)
theorem kq (ha:PE X a ta) (hb:PE X (.BoolOp .And (b :: rest) pos) tb):PE X (.BoolOp .And (a :: b :: rest) pos) (xk ta tb):=by
 intro pins s σ H Q I h
 refine BoolOp_and (thn (ha pins s σ H _ I h) λv s1 hpt=>?_)
 obtain ⟨x,H1,I1,r1,q1⟩:=hpt
 obtain ⟨c,rfl,q1⟩:=q1
 cases r1
 refine wpAny_truthy_bool ?_
 cases c with
 | true=>exact hb pins s1 σ H1 Q I1 q1
 | false=>exact ⟨.bl false,H1,I1,rfl,q1⟩
theorem vj (ha:PE X a ta) (hb:PE X (.BoolOp .Or (b :: rest) pos) tb):PE X (.BoolOp .Or (a :: b :: rest) pos) (ya ta tb):=by
 intro pins s σ H Q I h
 refine BoolOp_or (thn (ha pins s σ H _ I h) λv s1 hpt=>?_)
 obtain ⟨x,H1,I1,r1,q1⟩:=hpt
 obtain ⟨c,rfl,q1⟩:=q1
 cases r1
 refine wpAny_truthy_bool ?_
 cases c with
 | false=>exact hb pins s1 σ H1 Q I1 q1
 | true=>exact ⟨.bl true,H1,I1,rfl,q1⟩
theorem vH (ha:PE X a ta):PE X (.UnaryOp .Not a pos) (xl ta):=by
 intro pins s σ H Q I h
 refine UnaryOp_ (thn (ha pins s σ H _ I h) λv s1 hpt=>?_)
 obtain ⟨x,H1,I1,r1,q1⟩:=hpt
 obtain ⟨c,rfl,q1⟩:=q1
 cases r1
 exact not_of (wpAny_truthy_bool ⟨.bl (!c),H1,I1,rfl,q1⟩)
noncomputable def tIf (t:TT) (ta tb:TE):TE:=λσ H Q=>t σ H λc H1=>if c=true then ta σ H1 Q else tb σ H1 Q
theorem qS {c:Expr} (hc:PT X c tA) (ha:PE X a ta) (hb:PE X b tb):PE X (.IfExp c a b pos) (tIf tA ta tb):=by
 intro pins s σ H Q I h
 refine wpAny_IfExp (thn (hc pins s σ H _ I h) λd s1 hpt=>?_)
 obtain ⟨H1,I1,q1⟩:=hpt
 cases d with
 | true=>exact ha pins s1 σ H1 Q I1 q1
 | false=>exact hb pins s1 σ H1 Q I1 q1
end
noncomputable def SqL (K:PySem.W.Frag) (H:Hp) (a:Addr) (xs:List V):Prop :=
 Rd H a (.lst xs) ∨
  ∃ (o:Obj) (its:Array Value) (n:Nat),K.lookup a=some o∧o.cls = .type "list"∧o.dict=none∧o.data = .seq its n∧its.size≤sizeLine∧aE xs its.toList
noncomputable def SqT (K:PySem.W.Frag) (H:Hp) (a:Addr) (xs:List V):Prop :=
 Rd H a (.tup xs) ∨
  ∃ (o:Obj) (its:Array Value) (n:Nat),K.lookup a=some o∧o.cls = .type "tuple"∧o.data = .seq its n∧its.size≤sizeLine∧aE xs its.toList
noncomputable def yb:Value→Option V
 | .none=>some .non
 | .bool b=>some (.bl b)
 | .int i _=>some (.int i)
 | .str x _=>some (.str x)
 | .bytes b _=>some (.byt b)
 | .float b _=>some (.flt b)
 | .ref a=>some (.ref a)
 | .type n=>some (.ty n)
 | _=>none
theorem aL.abs {x:V} {u:Value} (r:aL x u):yb u=some x:=by
 cases x with
 | non=>cases r; rfl
 | bl _=>cases r; rfl
 | int _=>obtain ⟨t,rfl⟩:=r; rfl
 | str _=>obtain ⟨t,rfl⟩:=r; rfl
 | byt _=>obtain ⟨t,rfl⟩:=r; rfl
 | flt _=>obtain ⟨t,rfl⟩:=r; rfl
 | ref _=>cases r; rfl
 | ty _=>cases r; rfl
theorem aL.inj {x y:V} {u:Value} (r:aL x u) (q:aL y u):x=y:=Option.some.inj (r.abs.symm.trans q.abs)
theorem aE.inj:∀ {xs ys:List V} {us:List Value},aE xs us→aE ys us→xs=ys
 | _,_,_,.nil,.nil=>rfl
 | _,_,_,.cons r t,.cons r' t'=>by rw [r.inj r',aE.inj t t']
section
variable {X:Cx} {pins:List (Addr×Obj)} {σ:St} {H:Hp} {s:Shared} {a:Addr} {xs ys:List V}
theorem SqL.of {K:PySem.W.Frag} (h:H a=some (.lst xs)):SqL K H a xs:=.inl (.inl h)
theorem SqT.of {K:PySem.W.Frag} (h:H a=some (.tup xs)):SqT K H a xs:=.inl (.inl h)
theorem Inv.list (I:Inv X pins σ H s) (h:SqL X.K H a xs):∃ its:List Value,aE xs its∧PlainL s.heap a its.toArray∧xs.length≤sizeLine:=by
 rcases h with h | ⟨o,its,n,hk,hc,hd,hs,hz,r⟩
 ·obtain ⟨z,its,n,r,e⟩:=h.ok I.hok
  exact ⟨its,r,⟨_,n,e,rfl,rfl,rfl⟩,z⟩
 ·refine ⟨its.toList,r,⟨o,n,I.kIn a o hk,hc,hd,by simpa using hs⟩,?_⟩
  have e:=r.length
  simp only [Array.length_toList] at e
  omega
theorem Inv.tuple (I:Inv X pins σ H s) (h:SqT X.K H a xs):∃ its:List Value,aE xs its∧IsTup s.heap a its.toArray∧xs.length≤sizeLine:=by
 rcases h with h | ⟨o,its,n,hk,hc,hs,hz,r⟩
 ·obtain ⟨z,its,r,p⟩:=h.ok I.hok
  exact ⟨its,r,p,z⟩
 ·refine ⟨its.toList,r,⟨o,I.kIn a o hk,hc,n,by simpa using hs⟩,?_⟩
  have e:=r.length
  simp only [Array.length_toList] at e
  omega
theorem Inv.list_inj (I:Inv X pins σ H s) (h:SqL X.K H a xs) (h':SqL X.K H a ys):xs=ys:=by
 obtain ⟨its,r,⟨o,n,e,_,_,d⟩,_⟩:=I.list h
 obtain ⟨its',r',⟨o',n',e',_,_,d'⟩,_⟩:=I.list h'
 rw [e] at e'; cases e'
 rw [d] at d'
 injection d' with d1 _
 have:its=its':=by simpa using congrArg Array.toList d1
 subst this
 exact r.inj r'
theorem Inv.tuple_inj (I:Inv X pins σ H s) (h:SqT X.K H a xs) (h':SqT X.K H a ys):xs=ys:=by
 obtain ⟨its,r,⟨o,e,_,n,d⟩,_⟩:=I.tuple h
 obtain ⟨its',r',⟨o',e',_,n',d'⟩,_⟩:=I.tuple h'
 rw [e] at e'; cases e'
 rw [d] at d'
 injection d' with d1 _
 have:its=its':=by simpa using congrArg Array.toList d1
 subst this
 exact r.inj r'
end
noncomputable abbrev Cx.wish (X:Cx) (E:Value→Shared→Prop):Cx:={ X with xe:=E }
noncomputable abbrev Cx.nox (X:Cx):Cx:=X.wish λ_ _=>False
theorem Cx.Ok.wish {X:Cx} (ok:X.Ok) (E:Value→Shared→Prop):(X.wish E).Ok :=
 ⟨ok.mod,ok.kind,ok.glob,ok.blt,ok.above,ok.inj,ok.has,ok.cab,ok.hd,ok.frames,ok.stk,ok.exf,ok.bs,ok.bsz,ok.noex,ok.exfs,ok.funs,ok.frf⟩
theorem Cx.Ok.unwish {X:Cx} {E:Value→Shared→Prop} (ok:(X.wish E).Ok):X.Ok :=
 ⟨ok.mod,ok.kind,ok.glob,ok.blt,ok.above,ok.inj,ok.has,ok.cab,ok.hd,ok.frames,ok.stk,ok.exf,ok.bs,ok.bsz,ok.noex,ok.exfs,ok.funs,ok.frf⟩
section
variable {X:Cx} {pins:List (Addr×Obj)} {σ:St} {H:Hp} {s:Shared} {E:Value→Shared→Prop}
theorem Inv.wish (I:Inv X pins σ H s) (E:Value→Shared→Prop):Inv (X.wish E) pins σ H s:=⟨I.ok.wish E,I.os,I.bare,I.base,I.loc,I.cell,I.free,I.freeC,I.pin,I.hok,I.len⟩
theorem Inv.unwish (I:Inv (X.wish E) pins σ H s):Inv X pins σ H s:=⟨I.ok.unwish,I.os,I.bare,I.base,I.loc,I.cell,I.free,I.freeC,I.pin,I.hok,I.len⟩
theorem SP.unwish {D:Ends} {f:Flow} {s':Shared} (h:SP (X.wish E) pins D f s'):SP X pins D f s':=by
 cases f with
 | next=>obtain ⟨σ',H',I,q⟩:=h; exact ⟨σ',H',I.unwish,q⟩
 | brk=>obtain ⟨σ',H',I,q⟩:=h; exact ⟨σ',H',I.unwish,q⟩
 | cont=>obtain ⟨σ',H',I,q⟩:=h; exact ⟨σ',H',I.unwish,q⟩
 | ret u=>obtain ⟨v,σ',H',I,r,q⟩:=h; exact ⟨v,σ',H',I.unwish,r,q⟩
theorem PSs.nox {st:List Stmt} {t:TS} (h:PSs X.nox st t):PSs X st t:=λpins s σ H D I hw =>
 wpAny_mono (h pins s σ H D (I.wish _) hw) (λ_ _ q=>q.unwish) λ_ _ z=>False.elim z
end
section
variable {X:Cx} {st:Stmt} {rest:List Stmt} {t u:TS} {e:Expr} {te:TE} {pos:Pos}
noncomputable def xm:TS:=λD σ H=>D.nx σ H
noncomputable def qT (t u:TS):TS:=λD σ H=>t { D with nx:=u D } σ H
theorem aJ:PSs X [] xm:=λ_ _ σ H _ I h=>wpAny_execs_nil ⟨σ,H,I,h⟩
theorem ai (h1:PS X st t) (h2:PSs X rest u):PSs X (st :: rest) (qT t u):=by
 intro pins s σ H D I h
 refine wpAny_execs_cons (thn (h1 pins s σ H { D with nx:=u D } I h) λf s1 q=>?_)
 cases f with
 | next =>
  obtain ⟨σ',H',I',q⟩:=q
  exact h2 pins s1 σ' H' D I' q
 | ret v=>exact q
 | brk=>exact q
 | cont=>exact q
theorem ak (h1:PS X st t):PSs X [st] t:=by
 intro pins s σ H D I h
 refine wpAny_execs_cons (thn (h1 pins s σ H D I h) λf s1 q=>?_)
 cases f with
 | next=>exact wpAny_execs_nil q
 | ret v=>exact q
 | brk=>exact q
 | cont=>exact q
theorem Inv.quiet {pins:List (Addr×Obj)} {σ:St} {H:Hp} {s:Shared} (I:Inv X pins σ H s):interactive X.env=false:=by simp [interactive,I.ok.kind]
noncomputable def xn (te:TE):TS:=λD σ H=>te σ H λ_ H1=>D.nx σ H1
theorem ft (he:PE X e te) (hs:swapsWith e none pos.line X.env=pure false:=by rfl):PS X (.Expr e pos) (xn te):=by
 intro pins s σ H D I h
 exact wpAny_Expr_any (thn (he pins s σ H _ I h) λv s1 ⟨x,H1,I1,r1,q1⟩=>⟨σ,H1,I1,q1⟩) I.quiet hs
noncomputable def yc (te:TE):TS:=λD σ H=>te σ H D.rt
theorem aq (he:PE X e te):PS X (.Return (some e) pos) (yc te):=by
 intro pins s σ H D I h
 exact wpAny_Return_some (thn (he pins s σ H _ I h) λv s1 ⟨x,H1,I1,r1,q1⟩=>⟨x,σ,H1,I1,r1,q1⟩)
noncomputable def yd (c:TT) (t u:TS):TS:=λD σ H=>c σ H λb H1=>if b=true then t D σ H1 else u D σ H1
theorem bw {c:Expr} {a b:List Stmt} {tc:TT} (hc:PT X c tc) (ha:PSs X a t) (hb:PSs X b u):PS X (.If c a b pos) (yd tc t u):=by
 intro pins s σ H D I h
 refine wpAny_If (thn (hc pins s σ H _ I h) λd s1 hpt=>?_)
 obtain ⟨H1,I1,q1⟩:=hpt
 cases d with
 | true=>exact ha pins s1 σ H1 D I1 q1
 | false=>exact hb pins s1 σ H1 D I1 q1
end
noncomputable abbrev TG:=V→St→Hp→(St→Hp→Prop)→Prop
noncomputable abbrev TGs:=List V→St→Hp→(St→Hp→Prop)→Prop
noncomputable def PG (X:Cx) (target:Expr) (t:TG):Prop :=
 ∀ (pins:List (Addr×Obj)) (s:Shared) (σ:St) (H:Hp) (v:V) (u:Value) (Q:St→Hp→Prop),Inv X pins σ H s→aL v u→t v σ H Q →
  wpAny (model X.prog X.w) X.A (assign target X.env u) (λ_ s'=>∃ σ' H',Inv X pins σ' H' s'∧Q σ' H') X.xe s
noncomputable def PGs (X:Cx) (ts:List Expr) (t:TGs):Prop :=
 ∀ (pins:List (Addr×Obj)) (s:Shared) (σ:St) (H:Hp) (vs:List V) (us:List Value) (Q:St→Hp→Prop),Inv X pins σ H s→aE vs us→t vs σ H Q →
  wpAny (model X.prog X.w) X.A (assignInOrder ((assignEach ts X.env).map (·.2)) us) (λ_ s'=>∃ σ' H',Inv X pins σ' H' s'∧Q σ' H') X.xe s
section
variable {X:Cx} {pos:Pos}
noncomputable def bc (i:Nat):TG:=λv σ H Q=>Q (σ.set i (some v)) H
theorem aK {i:Nat} {x:Str} (hN:X.N.Nodup) (hi:X.N[i]? = some x) (hx:Loc X.env.scope x) (hf:X.fn x=true∨X.env.scope.names.lookup x=some .local:=by first | exact .inl rfl | exact .inr rfl | assumption):PG X (.Name x pos) (bc i):=by
 intro pins s σ H v u Q I r h
 exact wpAny_assign_Name (lI I hN hi hx r (λs' I'=>⟨_,H,I',h⟩) hf)
noncomputable def vI:TGs:=λvs σ H Q=>vs=[]∧Q σ H
noncomputable def lJ (t:TG) (u:TGs):TGs:=λvs σ H Q=>∃ v r,vs=v :: r∧t v σ H λσ' H'=>u r σ' H' Q
theorem oz:PGs X [] vI:=by
 intro pins s σ H vs us Q I r h
 obtain ⟨e,h⟩:=h
 subst e
 cases r
 exact assignInOrder_nil ⟨σ,H,I,h⟩
theorem eA {e:Expr} {es:List Expr} {t:TG} {u:TGs} (h1:PG X e t) (h2:PGs X es u)
  (hs:(assignEach (e :: es) X.env).map (·.2)=assign e X.env :: (assignEach es X.env).map (·.2):=by rfl):PGs X (e :: es) (lJ t u):=by
 intro pins s σ H vs us Q I r h
 obtain ⟨v,vr,e1,h⟩:=h
 subst e1
 cases r with
 | cons r rr =>
  rw [hs]
  refine assignInOrder_cons (thn (h1 pins s σ H _ _ _ I r h) λ_ s1 hpt=>?_)
  obtain ⟨σ1,H1,I1,q1⟩:=hpt
  exact h2 pins s1 σ1 H1 _ _ Q I1 rr q1
noncomputable def vJ (K:PySem.W.Frag) (n:Nat) (t:TGs):TG:=λv σ H Q=>∃ a xs,v = .ref a∧SqT K H a xs∧xs.length=n∧t xs σ H Q
theorem qU {es:List Expr} {k:Nat} {t:TGs} {n:Nat} (hc:X.calm=true) (h:PGs X es t)
  (hn:(assignEach es X.env).length=n:=by rfl) (hst:(assignEach es X.env).findIdx? (·.1)=none:=by rfl):PG X (.Tuple es k pos) (vJ X.K n t):=by
 intro pins s σ H v u Q I r hw
 obtain ⟨a,xs,e1,hq,hl,hw⟩:=hw
 subst e1
 cases r
 obtain ⟨its,rv,ht,hz⟩:=I.tuple hq
 refine assign_Tuple_tuple (I.ok.hd hc) ht (by simp [hn,← hl,rv.length]) hst λh' hx=>?_
 have I1:Inv X pins σ H { s with heap:=h' }:=I.kept (t':=s.toks) λb o e=>hx b o (Nat.ne_of_lt (Heap.lt_size e)) e
 exact h pins _ σ H xs _ Q I1 (by simpa using rv) hw
noncomputable def vK (te:TE) (g:TG):TS:=λD σ H=>te σ H λx H1=>g x σ H1 D.nx
theorem ax {i:Nat} {x:Str} {e:Expr} {te:TE} {pos':Pos} (hN:X.N.Nodup) (hi:X.N[i]? = some x) (hx:Loc X.env.scope x) (he:PE X e te) (hs:swapsWith e (some (.Name x pos')) pos.line X.env=pure false:=by rfl) (hf:X.fn x=true∨X.env.scope.names.lookup x=some .local:=by first | exact .inl rfl | exact .inr rfl | assumption) :
  PS X (.Assign [.Name x pos'] e pos) (vK te (bc i)):=by
 intro pins s σ H D I h
 refine wpAny_Assign_Name (thn (he pins s σ H _ I h) λv s1 ⟨y,H1,I1,r1,q1⟩=>?_) hs
 exact lI I1 hN hi hx r1 (λs2 I2=>⟨_,H1,I2,q1⟩) hf
noncomputable def qV (c:TT) (tb:TS):TS:=λD σ H=>∃ W:Nat→St→Hp→Prop,(∃ m,W m σ H)∧∀ m σ H,W m σ H →
 c σ H λb H1=>if b=true then ∃ N:St→Hp→Prop,(∀ σ' H',N σ' H'→∃ m',m'<m∧W m' σ' H')∧tb { D with nx:=N,ct:=N,bk:=D.nx } σ H1 else D.nx σ H1
theorem im {c:Expr} {body:List Stmt} {tc:TT} {tb:TS} (hp:PassesOwn (model X.prog X.w) X.A X.env X.xe) (hc:PT X c tc) (hb:PSs X body tb):PS X (.While c body [] pos) (qV tc tb):=by
 intro pins s σ H D I h
 obtain ⟨W,⟨m0,w0⟩,turn⟩:=h
 refine wpAny_While (codeAny_whileLoop (λn s'=>∃ σ' H',Inv X pins σ' H' s'∧W n σ' H') ?_ m0 ⟨σ,H,I,w0⟩)
 rintro n s1 ⟨σ1,H1,I1,w1⟩
 refine wpAny_passesOwn hp (thn (hc pins s1 σ1 H1 _ I1 (turn n σ1 H1 w1)) λb s2 hpt=>?_)
 obtain ⟨H2,I2,q2⟩:=hpt
 cases b with
 | true =>
  obtain ⟨N,hN,q2⟩:=q2
  rw [if_pos rfl]
  refine wpAny_passesOwn hp (thn (hb pins s2 σ1 H2 _ I2 q2) λf s3 q3=>?_)
  cases f with
  | next =>
   obtain ⟨σ3,H3,I3,n3⟩:=q3
   obtain ⟨m',hm,w3⟩:=hN σ3 H3 n3
   exact ⟨m',hm,σ3,H3,I3,w3⟩
  | cont =>
   obtain ⟨σ3,H3,I3,n3⟩:=q3
   obtain ⟨m',hm,w3⟩:=hN σ3 H3 n3
   exact ⟨m',hm,σ3,H3,I3,w3⟩
  | brk=>exact q3
  | ret v=>exact q3
 | false =>
  rw [if_neg Bool.false_ne_true]
  exact wpAny_execs_nil ⟨σ1,H2,I2,q2⟩
end
structure It where
 go:Nat→Hp→Prop
 yld:Nat→Hp→V→Hp→Prop
 stop:Nat→Hp→Prop
noncomputable def dY (X:Cx) (pins:List (Addr×Obj)) (H:Hp) (b:Addr):Prop :=
 H b=none∧b≠X.env.locals∧b∉X.fs∧(b∈X.ex∨X.s₀.heap.objs.size≤b)∧(∀ x c,X.env.cells.lookup x=some c→c≠b)∧∀ p∈X.pn++pins,p.1≠b
theorem Inv.fpOk {X:Cx} {pins:List (Addr×Obj)} {σ:St} {H H':Hp} {s:Shared} {b:Addr} (I:Inv X pins σ H s) (hb:s.heap.objs.size≤b) (hn:H' b=none):dY X pins H' b:=by
 refine ⟨hn,Nat.ne_of_gt (Nat.lt_of_lt_of_le I.lt hb),I.nofs hb,.inr (Nat.le_trans I.sz hb),λx c e z=>?_,λp hp z=>?_⟩
 ·obtain ⟨v,q⟩:=I.cell x c e
  exact absurd (Nat.lt_of_lt_of_le q.lt (by rw [z]; exact hb)) (Nat.lt_irrefl _)
 ·exact absurd (Nat.lt_of_lt_of_le (Heap.lt_size (I.pin p hp).1) (by rw [z]; exact hb)) (Nat.lt_irrefl _)
structure Turn (P:Program) (w:World) (K:PySem.W.Frag) (tg:Expr) (J:It) (fp:List Addr) (it:Addr) (tn:Nat→Heap→Prop):Prop where
 mem:it∈fp
 obj:∀ i h,tn i h→∀ b∈fp,∃ o,h.get? b=some o∧∀ v,o.data ≠ .cell v
 keep:∀ i h h',tn i h→(∀ b∈fp,∀ o,h.get? b=some o→h'.get? b=some o)→tn i h'
 item:∀ (X:Cx),X.prog=P→X.w=w→X.K=K→X.calm=true→∀ (i:Nat) (pins:List (Addr×Obj)) (s:Shared) (σ:St) (H:Hp) (E:Value→Shared→Prop),Inv X pins σ H s→(∀ b∈fp,dY X pins H b)→tn i s.heap→J.go i H →
  wpAny (model P w) X.A (pyNext (.ref it)) (λr s1=>∃ u,r=some u ∧
   wpAny (model P w) X.A (letOwnedTupleGo tg (.ref it) u) (λ_ s2=>∃ x H',Inv X pins σ H' s2∧aL x u∧J.yld i H x H'∧tn (i+1) s2.heap∧∀ b∈fp,H' b=none) E s1) E s
 done:∀ (X:Cx),X.prog=P→X.w=w→X.K=K→X.calm=true→∀ (i:Nat) (pins:List (Addr×Obj)) (s:Shared) (σ:St) (H:Hp) (E:Value→Shared→Prop),Inv X pins σ H s→(∀ b∈fp,dY X pins H b)→tn i s.heap→J.stop i H →
  wpAny (model P w) X.A (pyNext (.ref it)) (λr s1=>r=none∧Inv X pins σ H s1) E s
 self:∀ (A:Around) (i:Nat) (s:Shared) (Q:Value→Shared→Prop) (E:Value→Shared→Prop),tn i s.heap→Q (.ref it) s→wpAny (model P w) A (pyIter (.ref it)) Q E s
noncomputable abbrev TI:=St→Hp→(It→Hp→Prop)→Prop
noncomputable def PIE (X:Cx) (pins:List (Addr×Obj)) (σ:St) (tg:Expr) (R:It→Hp→Prop) (itv:Value) (s2:Shared):Prop :=
 ∃ (it:Addr) (fp:List Addr) (tn:Nat→Heap→Prop) (J:It) (H':Hp),itv = .ref it∧Inv X pins σ H' s2∧Turn X.prog X.w X.K tg J fp it tn∧tn 0 s2.heap∧(∀ b∈fp,dY X pins H' b)∧R J H'
noncomputable def PI (X:Cx) (tg iter:Expr) (wi:TI):Prop :=
 ∀ (pins:List (Addr×Obj)) (s:Shared) (σ:St) (H:Hp) (R:It→Hp→Prop),Inv X pins σ H s→wi σ H R →
  wpAny (model X.prog X.w) X.A (eval iter X.env) (λv s1=>wpAny (model X.prog X.w) X.A (pyIter v) (PIE X pins σ tg R) X.xe s1) X.xe s
theorem lK {M:Model} {A:Around} {E:Value→Shared→Prop} {s:Shared} {tg:Expr} {it:Addr} {u:Value} {o:Obj} {n:String} {vs:Array Value} {Q:Unit→Shared→Prop} (ho:s.heap.get? it=some o) (hc:o.cls = .type n) (hd:o.data = .fields vs)
  (hn:["enumerate","zip","dict_itemiterator","dict_reverseitemiterator","odict_iterator","itertools.zip_longest","itertools.pairwise"].contains n=false) (hQ:Q () s):wpAny M A (letOwnedTupleGo tg (.ref it) u) Q E s:=by
 unfold letOwnedTupleGo
 cases tg <;> first
  | exact wpAny_pure hQ
  | (cases u <;> first
    | exact wpAny_pure hQ
    | (refine wpAny_bind (wpAny_load ho ?_)
       rw [hc,hd]
       show wpAny M A (if (["enumerate","zip","dict_itemiterator","dict_reverseitemiterator","odict_iterator","itertools.zip_longest","itertools.pairwise"].contains n && vs[0]? == some (rawInt _))=true then _ else _) Q E s
       rw [if_neg (by intro h; rw [hn,Bool.false_and] at h; cases h)]
       exact wpAny_pure hQ))
noncomputable def Itl (K:PySem.W.Frag) (a:Addr):It :=
 ⟨λi H=>∃ xs x,SqL K H a xs∧xs[i]? = some x,λi H x H'=>H'=H∧∀ xs,SqL K H a xs→xs[i]? = some x,λi H=>∃ xs,SqL K H a xs∧xs.length≤i⟩
noncomputable def Itt (K:PySem.W.Frag) (a:Addr):It :=
 ⟨λi H=>∃ xs x,SqT K H a xs∧xs[i]? = some x,λi H x H'=>H'=H∧∀ xs,SqT K H a xs→xs[i]? = some x,λi H=>∃ xs,SqT K H a xs∧xs.length≤i⟩
noncomputable def Itr (lo:Int) (n:Nat):It:=⟨λi _=>i<n,λi H x H'=>H'=H∧x = .int (lo+i),λi _=>n≤i⟩
theorem jw {P:Program} {w:World} {K:PySem.W.Frag} {tg:Expr} (a it:Addr):Turn P w K tg (Itl K a) [it] it (λi h=>h.IsListIter it a i) where
 mem:=by simp
 obj:=λi h st b hb=>by
  have e:b=it:=by simpa using hb
  subst e
  obtain ⟨o,e,c,d⟩:=st
  exact ⟨o,e,λv z=>by rw [d] at z; cases z⟩
 keep:=λi h h' st k=>st.at λo e=>k it (by simp) o e
 item:=by
  intro X hP hw hK hc i pins s σ H E I hf st hg
  subst hP hw hK
  obtain ⟨xs,x,hq,hx⟩:=hg
  obtain ⟨its,rv,p,hz⟩:=I.list hq
  obtain ⟨u,hu,ru⟩:=rv.get hx
  obtain ⟨f0,f1,f2,f3,f4,f5⟩:=hf it (by simp)
  refine wpAny_pyNext_list_item st p.isList (x:=u) (by simpa using hu) λh' st' sb=>?_
  have I1:Inv X pins σ H { s with heap:=h' }:=I.turned (t':=s.toks) (λb o hb e=>(sb.2 b hb).trans e) f0 f1 f3 f4 f5
  obtain ⟨o,e,c,d⟩:=id st'
  exact ⟨u,rfl,lK (s:={ s with heap:=h' }) e c d (by decide) ⟨x,H,I1,ru,⟨rfl,λys hy=>by rw [I.list_inj hy hq]; exact hx⟩,st',λb hb=>(hf b hb).1⟩⟩
 done:=by
  intro X hP hw hK hc i pins s σ H E I hf st hg
  subst hP hw hK
  obtain ⟨xs,hq,hx⟩:=hg
  obtain ⟨its,rv,p,hz⟩:=I.list hq
  obtain ⟨f0,f1,f2,f3,f4,f5⟩:=hf it (by simp)
  have hl:=rv.length
  exact wpAny_pyNext_list_end (I.ok.hd hc) st p.isList (by simp; omega) λh' eb=>⟨rfl,I.turned (t':=s.toks) (λb o hb e=>eb b o hb e) f0 f1 f3 f4 f5⟩
 self:=λ_ _ _ _ _ st h=>wpAny_pyIter_listiter st h
theorem io {P:Program} {w:World} {K:PySem.W.Frag} {tg:Expr} (a it:Addr):Turn P w K tg (Itt K a) [it] it (λi h=>h.IsTupleIter it a i) where
 mem:=by simp
 obj:=λi h st b hb=>by
  have e:b=it:=by simpa using hb
  subst e
  obtain ⟨o,e,c,d⟩:=st
  exact ⟨o,e,λv z=>by rw [d] at z; cases z⟩
 keep:=λi h h' st k=>st.at λo e=>k it (by simp) o e
 item:=by
  intro X hP hw hK hc i pins s σ H E I hf st hg
  subst hP hw hK
  obtain ⟨xs,x,hq,hx⟩:=hg
  obtain ⟨its,rv,p,hz⟩:=I.tuple hq
  obtain ⟨u,hu,ru⟩:=rv.get hx
  obtain ⟨f0,f1,f2,f3,f4,f5⟩:=hf it (by simp)
  refine wpAny_pyNext_tuple_item st (show s.heap.IsTuple a its.toArray from p) (x:=u) (by simpa using hu) λh' st' sb=>?_
  have I1:Inv X pins σ H { s with heap:=h' }:=I.turned (t':=s.toks) (λb o hb e=>(sb.2 b hb).trans e) f0 f1 f3 f4 f5
  obtain ⟨o,e,c,d⟩:=id st'
  exact ⟨u,rfl,lK (s:={ s with heap:=h' }) e c d (by decide) ⟨x,H,I1,ru,⟨rfl,λys hy=>by rw [I.tuple_inj hy hq]; exact hx⟩,st',λb hb=>(hf b hb).1⟩⟩
 done:=by
  intro X hP hw hK hc i pins s σ H E I hf st hg
  subst hP hw hK
  obtain ⟨xs,hq,hx⟩:=hg
  obtain ⟨its,rv,p,hz⟩:=I.tuple hq
  obtain ⟨f0,f1,f2,f3,f4,f5⟩:=hf it (by simp)
  have hl:=rv.length
  exact wpAny_pyNext_tuple_end (I.ok.hd hc) st (show s.heap.IsTuple a its.toArray from p) (by simp; omega) λh' eb=>⟨rfl,I.turned (t':=s.toks) (λb o hb e=>eb b o hb e) f0 f1 f3 f4 f5⟩
 self:=λ_ _ _ _ _ st h=>wpAny_pyIter_tupleiter st h
theorem nH {P:Program} {w:World} {K:PySem.W.Frag} {tg:Expr} (it:Addr) (lo:Int) (n:Nat):Turn P w K tg (Itr lo n) [it] it (λi h=>IsRangeIter h it (lo+(i:Nat) * 1) ((n:Int) - (i:Nat)) 1) where
 mem:=by simp
 obj:=λi h st b hb=>by
  have e:b=it:=by simpa using hb
  subst e
  exact ⟨_,st,λv z=>by
   have z':Data.fields _=Data.cell v:=z
   cases z'⟩
 keep:=λi h h' st k=>k it (by simp) _ st
 item:=by
  intro X hP hw hK hc i pins s σ H E I hf st hg
  subst hP hw hK
  obtain ⟨f0,f1,f2,f3,f4,f5⟩:=hf it (by simp)
  have W:=Walks.range (prog:=X.prog) (w:=X.w) (I.ok.hd hc) it lo 1 n
  refine W.item i s _ _ hg st λv h' tk hv st' kk=>?_
  obtain ⟨t,rfl⟩:=hv
  have I1:Inv X pins σ H { s with heap:=h',toks:=tk }:=I.turned (λb o hb e=>kk b o (by simpa using hb) e) f0 f1 f3 f4 f5
  refine ⟨_,rfl,lK (s:={ s with heap:=h',toks:=tk }) (n:="range_iterator") st' rfl rfl (by decide) ⟨.int (lo+i),H,I1,⟨t,?_⟩,⟨rfl,rfl⟩,st',λb hb=>(hf b hb).1⟩⟩
  rw [Int.mul_one]
 done:=by
  intro X hP hw hK hc i pins s σ H E I hf st hg
  subst hP hw hK
  obtain ⟨f0,f1,f2,f3,f4,f5⟩:=hf it (by simp)
  exact wpAny_pyNext_range_end (I.ok.hd hc) st (by have:n≤i:=hg; omega) λh' eb=>⟨rfl,I.turned (t':=s.toks) (λb o hb e=>eb b o hb e) f0 f1 f3 f4 f5⟩
 self:=λ_ _ _ _ _ st h=>wpAny_pyIter_rangeiter st h
section
variable {X:Cx} {tg:Expr}
noncomputable def xo (K:PySem.W.Frag) (tl:TE):TI:=λσ H R=>tl σ H λx H1=>∃ a,x = .ref a∧(∃ xs,SqL K H1 a xs)∧R (Itl K a) H1
noncomputable def xp (K:PySem.W.Frag) (tl:TE):TI:=λσ H R=>tl σ H λx H1=>∃ a,x = .ref a∧(∃ xs,SqT K H1 a xs)∧R (Itt K a) H1
theorem dH {l:Expr} {tl:TE} (hl:PE X l tl):PI X tg l (xo X.K tl):=by
 intro pins s σ H R I h
 refine thn (hl pins s σ H _ I h) λv s1 hpt=>?_
 obtain ⟨x,H1,I1,r1,q1⟩:=hpt
 obtain ⟨a,e,⟨xs,hq⟩,q⟩:=q1
 subst e
 cases r1
 obtain ⟨its,rv,p,hz⟩:=I1.list hq
 refine wpAny_pyIter_list p.isList ?_
 refine ⟨s1.heap.objs.size,[s1.heap.objs.size],_,_,H1,rfl,I1.kept (t':=s1.toks) λb o e=>Heap.get?_push_of_some _ e,jw a _,⟨_,Heap.get?_push_size _ rfl,rfl,rfl⟩,λb hb=>?_,q⟩
 have e:b=s1.heap.objs.size:=by simpa using hb
 subst e
 exact I1.fpOk (Nat.le_refl _) (I1.hok.fresh (Nat.le_refl _))
theorem cM {l:Expr} {tl:TE} (hl:PE X l tl):PI X tg l (xp X.K tl):=by
 intro pins s σ H R I h
 refine thn (hl pins s σ H _ I h) λv s1 hpt=>?_
 obtain ⟨x,H1,I1,r1,q1⟩:=hpt
 obtain ⟨a,e,⟨xs,hq⟩,q⟩:=q1
 subst e
 cases r1
 obtain ⟨its,rv,p,hz⟩:=I1.tuple hq
 refine wpAny_pyIter_tuple (show s1.heap.IsTuple a its.toArray from p) ?_
 refine ⟨s1.heap.objs.size,[s1.heap.objs.size],_,_,H1,rfl,I1.kept (t':=s1.toks) λb o e=>Heap.get?_push_of_some _ e,io a _,⟨_,Heap.get?_push_size _ rfl,rfl,rfl⟩,λb hb=>?_,q⟩
 have e:b=s1.heap.objs.size:=by simpa using hb
 subst e
 exact I1.fpOk (Nat.le_refl _) (I1.hok.fresh (Nat.le_refl _))
theorem qW {pins:List (Addr×Obj)} {σ:St} {H:Hp} {s:Shared} {R:It→Hp→Prop} {E:Value→Shared→Prop} {lo hi:Int} {t u v:Tok} {tk:Nat} (I:Inv X pins σ H s) (h1:-(2 ^ 62)≤lo) (h2:lo<2 ^ 62) (h3:-(2 ^ 62)≤hi) (h4:hi<2 ^ 62)
  (q:R (Itr lo (hi - lo).toNat) H):wpAny (model X.prog X.w) X.A (pyIter (.ref s.heap.objs.size)) (PIE X pins σ tg R) E { s with heap:=s.heap.push { cls:=.type "range",data:=.fields #[.int lo t,.int hi u,.int 1 v] },toks:=tk }:=by
 refine wpAny_pyIter_range (IsRange.new ..) (small_one h1 h2 h3 h4) ?_
 have I1:Inv X pins σ H { s with heap:=s.heap.push { cls:=.type "range",data:=.fields #[.int lo t,.int hi u,.int 1 v] },toks:=tk }:=I.kept λb o e=>Heap.get?_push_of_some _ e
 refine ⟨(s.heap.push { cls:=.type "range",data:=.fields #[.int lo t,.int hi u,.int 1 v] }).objs.size,[(s.heap.push { cls:=.type "range",data:=.fields #[.int lo t,.int hi u,.int 1 v] }).objs.size],_,_,H,rfl,
  I1.kept (t':=tk) λb o e=>Heap.get?_push_of_some _ e,nH _ lo (hi - lo).toNat,?_,λb hb=>?_,q⟩
 ·have e1:lo+((0:Nat):Int) * 1=lo:=by simp
  have e2:(((hi - lo).toNat:Nat):Int) - ((0:Nat):Int)=Builtin.Range.rangeSize lo hi 1:=by rw [rangeSize_one]; split <;> omega
  show IsRangeIter _ _ (lo+((0:Nat):Int) * 1) ((((hi - lo).toNat:Nat):Int) - ((0:Nat):Int)) 1
  rw [e1,e2]
  exact Heap.get?_push_size _ rfl
 ·have e:b=(s.heap.push { cls:=.type "range",data:=.fields #[.int lo t,.int hi u,.int 1 v] }).objs.size:=by simpa using hb
  subst e
  exact I1.fpOk (Nat.le_refl _) (I1.hok.fresh (Nat.le_refl _))
noncomputable def xq (ta:TA):TI:=λσ H R=>ta σ H λvs H1=>∃ j:Int,vs=[.int j]∧-(2 ^ 62)≤j∧j<2 ^ 62∧R (Itr 0 j.toNat) H1
theorem gw {a:Expr} {ta:TA} {p pos:Pos} (hg:Gl X "range") (hm:X.mg "range" = none) (ha:PA X [a] ta) (hs:starEach [a] X.env=[(false,eval a X.env)]:=by rfl):PI X tg (.Call (.Name "range" p) [a] [] pos) (xq ta):=by
 intro pins s σ H R I h
 refine Call_ (ik I hg hm boot_range (PyProof.Rows.callWith_type1 (thn (ha pos pins s σ H _ I h) λus s1 ⟨vs,H1,I1,r1,q1⟩=>?_) hs rfl))
 obtain ⟨j,e,q1,q2,q⟩:=q1
 subst e
 cases r1 with
 | cons r rr =>
  cases rr
  obtain ⟨t,rfl⟩:=r
  exact call_range_1 (qW I1 (by omega) (by omega) q1 q2 (by simpa using q))
noncomputable def ye (wi:TI) (g:TG) (tb:TS):TS:=λD σ H=>wi σ H λJ H1=>∃ W:Nat→Nat→St→Hp→Prop,(∃ m,W 0 m σ H1)∧∀ i m σ H,W i m σ H →
 (J.stop i H∧D.nx σ H)∨(J.go i H∧∃ N:St→Hp→Prop,(∀ σ' H',N σ' H'→∃ m',m'<m∧W (i+1) m' σ' H')∧∀ x H',J.yld i H x H'→g x σ H' λσ2 H2=>tb { D with nx:=N,ct:=N,bk:=D.nx } σ2 H2)
noncomputable def kr (fp:List Addr) (h:Heap):List (Addr×Obj):=fp.filterMap λb=>(h.get? b).map λo=>(b,o)
theorem aW {fp:List Addr} {h:Heap} {b:Addr} {o:Obj} (hb:b∈fp) (e:h.get? b=some o):(b,o)∈kr fp h:=List.mem_filterMap.mpr ⟨b,hb,by rw [e]; rfl⟩
theorem pP {fp:List Addr} {h:Heap} {p:Addr×Obj} (hp:p∈kr fp h):p.1∈fp∧h.get? p.1=some p.2:=by
 obtain ⟨b,hb,e⟩:=List.mem_filterMap.mp hp
 cases q:h.get? b with
 | none=>rw [q] at e; cases e
 | some o =>
  rw [q] at e
  have e':(b,o)=p:=Option.some.inj e
  subst e'
  exact ⟨hb,q⟩
theorem Inv.pinned {pins:List (Addr×Obj)} {σ:St} {H:Hp} {s:Shared} {fp:List Addr} (I:Inv X pins σ H s) (hf:∀ b∈fp,dY X pins H b) (ho:∀ b∈fp,∃ o,s.heap.get? b=some o∧∀ v,o.data ≠ .cell v):Inv X (pins++kr fp s.heap) σ H s :=
 I.pins_of λp hp=>(List.mem_append.mp hp).elim (λz=>I.pin p (List.mem_append_right _ z)) λz=>by
  obtain ⟨hb,e⟩:=pP z
  obtain ⟨f0,f1,f2,_⟩:=hf p.1 hb
  obtain ⟨o,e',d⟩:=ho p.1 hb
  rw [e] at e'; cases e'
  exact ⟨e,f0,f1,f2,d⟩
theorem Inv.unpinned {pins pl:List (Addr×Obj)} {σ:St} {H:Hp} {s:Shared} (I:Inv X (pins++pl) σ H s):Inv X pins σ H s:=I.pins_of λp hp=>I.pin p (List.mem_append_right _ (List.mem_append_left _ hp))
theorem ip {iter:Expr} {body:List Stmt} {wi:TI} {g:TG} {tb:TS} {pos:Pos} (hp:PassesOwn (model X.prog X.w) X.A X.env X.xe) (hc:X.calm=true) (hi:PI X tg iter wi) (hg:PG X tg g) (hb:PSs X body tb)
  (hs:∀ x,foldedSetIterable iter X.env x=pure x:=by intro _; rfl):PS X (.For tg iter body [] pos) (ye wi g tb):=by
 intro pins s σ H D I h
 refine wpAny_For (thn (hi pins s σ H _ I h) λv s1 h1=>thn h1 λitv s2 h2=>?_) hs
 obtain ⟨it,fp,tn,J,H2,e,I2,T,st2,f2,W,⟨m0,w0⟩,turn⟩:=h2
 subst e
 have stat:∀ {H':Hp},(∀ b∈fp,H' b=none)→∀ b∈fp,dY X pins H' b:=λhn b hb=>⟨hn b hb,(f2 b hb).2⟩
 refine codeAny_forLoop_any (λn s'=>∃ i σ' H',Inv X pins σ' H' s'∧tn i s'.heap∧(∀ b∈fp,H' b=none)∧W i n σ' H') ?_ m0 ⟨0,σ,H2,I2,st2,λb hb=>(f2 b hb).1,w0⟩
 rintro n s3 ⟨i,σ3,H3,I3,st3,fr3,w3⟩
 rcases turn i n σ3 H3 w3 with ⟨stop,qn⟩ | ⟨go,N,hN,step⟩
 ·refine wpAny_passesOwn hp (thn (T.done X rfl rfl rfl hc i pins s3 σ3 H3 X.xe I3 (stat fr3) st3 stop) λr s4 hpt=>?_)
  obtain ⟨hr,I4⟩:=hpt
  subst hr
  exact wpAny_execs_nil ⟨σ3,H3,I4,qn⟩
 ·refine wpAny_passesOwn hp (thn (T.item X rfl rfl rfl hc i pins s3 σ3 H3 X.xe I3 (stat fr3) st3 go) λr s4 hpt=>?_)
  obtain ⟨u,hr,h4⟩:=hpt
  subst hr
  refine wpAny_passesOwn hp (thn h4 λ_ s5 hpt=>?_)
  obtain ⟨x,H5,I5,r5,y5,st5,fr5⟩:=hpt
  have I5':=I5.pinned (stat fr5) (T.obj _ _ st5)
  refine wpAny_passesOwn hp (thn (hg _ s5 σ3 H5 x u _ I5' r5 (step x H5 y5)) λ_ s6 hpt=>?_)
  obtain ⟨σ6,H6,I6,q6⟩:=hpt
  refine wpAny_passesOwn hp (thn (hb _ s6 σ6 H6 _ I6 q6) λf s7 q7=>?_)
  have again:∀ {σ7:St} {H7:Hp},Inv X (pins++kr fp s5.heap) σ7 H7 s7→N σ7 H7→∃ m,m<n∧∃ i σ' H',Inv X pins σ' H' s7∧tn i s7.heap∧(∀ b∈fp,H' b=none)∧W i m σ' H':=λ{σ7 H7} I7 n7=>by
   obtain ⟨m',hm,w7⟩:=hN σ7 H7 n7
   refine ⟨m',hm,i+1,σ7,H7,I7.unpinned,T.keep _ _ _ st5 λb hb o e=>(I7.pin (b,o) (List.mem_append_right _ (List.mem_append_right _ (aW hb e)))).1,λb hb=>?_,w7⟩
   obtain ⟨o,e,d⟩:=T.obj _ _ st5 b hb
   exact (I7.pin (b,o) (List.mem_append_right _ (List.mem_append_right _ (aW hb e)))).2.1
  cases f with
  | next=>obtain ⟨σ7,H7,I7,n7⟩:=q7; exact again I7 n7
  | cont=>obtain ⟨σ7,H7,I7,n7⟩:=q7; exact again I7 n7
  | brk=>obtain ⟨σ7,H7,I7,q7⟩:=q7; exact ⟨σ7,H7,I7.unpinned,q7⟩
  | ret v=>obtain ⟨x7,σ7,H7,I7,r7,q7⟩:=q7; exact ⟨x7,σ7,H7,I7.unpinned,r7,q7⟩
end
theorem lL {K:PySem.W.Frag} {a:Addr} {xs:List V} {g:TG} {tb:TS} {D:Ends} {σ:St} {H:Hp} (Pv:Nat→St→Hp→Prop) (h0:Pv 0 σ H) (hl:∀ i σ H,i≤xs.length→Pv i σ H→SqL K H a xs)
  (hs:∀ i x σ H,xs[i]? = some x→Pv i σ H→g x σ H λσ2 H2=>tb { D with nx:=Pv (i+1),ct:=Pv (i+1),bk:=D.nx } σ2 H2) (hd:∀ σ H,Pv xs.length σ H→D.nx σ H) :
  ∃ W:Nat→Nat→St→Hp→Prop,(∃ m,W 0 m σ H)∧∀ i m σ H,W i m σ H →
   ((Itl K a).stop i H∧D.nx σ H)∨((Itl K a).go i H∧∃ N:St→Hp→Prop,(∀ σ' H',N σ' H'→∃ m',m'<m∧W (i+1) m' σ' H')∧∀ x H',(Itl K a).yld i H x H'→g x σ H' λσ2 H2=>tb { D with nx:=N,ct:=N,bk:=D.nx } σ2 H2):=by
 refine ⟨λi m σ H=>m=xs.length - i∧i≤xs.length∧Pv i σ H,⟨xs.length,by simp,Nat.zero_le _,h0⟩,?_⟩
 rintro i m σ H ⟨rfl,hi,p⟩
 have q:=hl i σ H hi p
 by_cases hlt:i<xs.length
 ·refine .inr ⟨⟨xs,xs[i],q,by simp [hlt]⟩,Pv (i+1),λσ' H' p'=>⟨xs.length - (i+1),by omega,rfl,hlt,p'⟩,λx H' y=>?_⟩
  obtain ⟨e,y⟩:=y
  subst e
  exact hs i x σ _ (y xs q) p
 ·have e:i=xs.length:=by omega
  subst e
  exact .inl ⟨⟨xs,q,Nat.le_refl _⟩,hd σ H p⟩
theorem oA {K:PySem.W.Frag} {a:Addr} {xs:List V} {g:TG} {tb:TS} {D:Ends} {σ:St} {H:Hp} (Pv:Nat→St→Hp→Prop) (h0:Pv 0 σ H) (hl:∀ i σ H,i≤xs.length→Pv i σ H→SqT K H a xs)
  (hs:∀ i x σ H,xs[i]? = some x→Pv i σ H→g x σ H λσ2 H2=>tb { D with nx:=Pv (i+1),ct:=Pv (i+1),bk:=D.nx } σ2 H2) (hd:∀ σ H,Pv xs.length σ H→D.nx σ H) :
  ∃ W:Nat→Nat→St→Hp→Prop,(∃ m,W 0 m σ H)∧∀ i m σ H,W i m σ H →
   ((Itt K a).stop i H∧D.nx σ H)∨((Itt K a).go i H∧∃ N:St→Hp→Prop,(∀ σ' H',N σ' H'→∃ m',m'<m∧W (i+1) m' σ' H')∧∀ x H',(Itt K a).yld i H x H'→g x σ H' λσ2 H2=>tb { D with nx:=N,ct:=N,bk:=D.nx } σ2 H2):=by
 refine ⟨λi m σ H=>m=xs.length - i∧i≤xs.length∧Pv i σ H,⟨xs.length,by simp,Nat.zero_le _,h0⟩,?_⟩
 rintro i m σ H ⟨rfl,hi,p⟩
 have q:=hl i σ H hi p
 by_cases hlt:i<xs.length
 ·refine .inr ⟨⟨xs,xs[i],q,by simp [hlt]⟩,Pv (i+1),λσ' H' p'=>⟨xs.length - (i+1),by omega,rfl,hlt,p'⟩,λx H' y=>?_⟩
  obtain ⟨e,y⟩:=y
  subst e
  exact hs i x σ _ (y xs q) p
 ·have e:i=xs.length:=by omega
  subst e
  exact .inl ⟨⟨xs,q,Nat.le_refl _⟩,hd σ H p⟩
theorem jx {lo:Int} {n:Nat} {g:TG} {tb:TS} {D:Ends} {σ:St} {H:Hp} (Pv:Nat→St→Hp→Prop) (h0:Pv 0 σ H)
  (hs:∀ i σ H,i<n→Pv i σ H→g (.int (lo+i)) σ H λσ2 H2=>tb { D with nx:=Pv (i+1),ct:=Pv (i+1),bk:=D.nx } σ2 H2) (hd:∀ σ H,Pv n σ H→D.nx σ H) :
  ∃ W:Nat→Nat→St→Hp→Prop,(∃ m,W 0 m σ H)∧∀ i m σ H,W i m σ H →
   ((Itr lo n).stop i H∧D.nx σ H)∨((Itr lo n).go i H∧∃ N:St→Hp→Prop,(∀ σ' H',N σ' H'→∃ m',m'<m∧W (i+1) m' σ' H')∧∀ x H',(Itr lo n).yld i H x H'→g x σ H' λσ2 H2=>tb { D with nx:=N,ct:=N,bk:=D.nx } σ2 H2):=by
 refine ⟨λi m σ H=>m=n - i∧i≤n∧Pv i σ H,⟨n,by simp,Nat.zero_le _,h0⟩,?_⟩
 rintro i m σ H ⟨rfl,hi,p⟩
 by_cases hlt:i<n
 ·refine .inr ⟨hlt,Pv (i+1),λσ' H' p'=>⟨n - (i+1),by omega,rfl,hlt,p'⟩,λx H' y=>?_⟩
  obtain ⟨e,y⟩:=y
  subst e y
  exact hs i σ _ hlt p
 ·have e:i=n:=by omega
  subst e
  exact .inl ⟨Nat.le_refl _,hd σ H p⟩
theorem iq {c:TT} {tb:TS} {D:Ends} {σ:St} {H:Hp} (Pv:St→Hp→Prop) (μ:St→Hp→Nat) (h0:Pv σ H)
  (hs:∀ σ H,Pv σ H→c σ H λb H1=>if b=true then tb { D with nx:=λσ' H'=>Pv σ' H'∧μ σ' H'<μ σ H,ct:=λσ' H'=>Pv σ' H'∧μ σ' H'<μ σ H,bk:=D.nx } σ H1 else D.nx σ H1)
  (mono:∀ σ H Q Q',(∀ b H1,Q b H1→Q' b H1)→c σ H Q→c σ H Q'):qV c tb D σ H:=by
 refine ⟨λm σ H=>m=μ σ H∧Pv σ H,⟨_,rfl,h0⟩,?_⟩
 rintro m σ H ⟨rfl,p⟩
 refine mono σ H _ _ (λb H1 q=>?_) (hs σ H p)
 cases b with
 | true=>exact ⟨_,λσ' H' ⟨p',l⟩=>⟨_,l,rfl,p'⟩,q⟩
 | false=>exact q
noncomputable abbrev R2:=V→V→Hp→VK→Prop
noncomputable def OpR (X:Cx) (f:Value→Value→Sem Value) (r:R2):Prop :=
 ∀ (pins:List (Addr×Obj)) (s:Shared) (σ:St) (H:Hp) (x y:V) (v u:Value) (Q:VK),Inv X pins σ H s→aL x v→aL y u→r x y H Q →
  wpAny (model X.prog X.w) X.A (f v u) (EP X pins σ Q) X.xe s
noncomputable def cA (X:Cx) (f:Value) (r:List V→Hp→VK→Prop):Prop :=
 ∀ (pins:List (Addr×Obj)) (s:Shared) (σ:St) (H:Hp) (xs:List V) (us:List Value) (Q:VK),Inv X pins σ H s→aE xs us→r xs H Q →
  wpAny (model X.prog X.w) X.A (call f us) (EP X pins σ Q) X.xe s
noncomputable def yf (X:Cx) (r:V→Hp→(Bool→Hp→Prop)→Prop):Prop :=
 ∀ (pins:List (Addr×Obj)) (s:Shared) (σ:St) (H:Hp) (x:V) (v:Value) (Q:Bool→Hp→Prop),Inv X pins σ H s→aL x v→r x H Q →
  wpAny (model X.prog X.w) X.A (truthy v) (TP X pins σ Q) X.xe s
noncomputable def tOp (r:R2) (ta tb:TE):TE:=λσ H Q=>ta σ H λx H1=>tb σ H1 λy H2=>r x y H2 Q
noncomputable def rI (C:Int→Int→Prop) (g:Int→Int→V):R2:=λx y H Q=>∃ i j,x = .int i∧y = .int j∧C i j∧Q (g i j) H
noncomputable def rI0 (g:Int→Int→V):R2:=λx y H Q=>∃ i j,x = .int i∧y = .int j∧Q (g i j) H
section
variable {X:Cx} {a b c:Expr} {ta tb tc:TE} {pos:Pos}
theorem vL (ha:PE X a ta) (hb:PE X b tb) {pins:List (Addr×Obj)} {s:Shared} {σ:St} {H:Hp} {R:V→V→Hp→Prop} (I:Inv X pins σ H s)
  (h:ta σ H λx H1=>tb σ H1 λy H2=>R x y H2) {Q:Value→Shared→Prop} {f:Value→Value→Sem Value}
  (hf:∀ v u s2 x y H2,Inv X pins σ H2 s2→aL x v→aL y u→R x y H2→wpAny (model X.prog X.w) X.A (f v u) Q X.xe s2) :
  wpAny (model X.prog X.w) X.A (eval a X.env) (λv s₁=>wpAny (model X.prog X.w) X.A (eval b X.env) (λu s₂=>wpAny (model X.prog X.w) X.A (f v u) Q X.xe s₂) X.xe s₁) X.xe s:=by
 refine thn (ha pins s σ H _ I h) λv s1 hpt=>?_
 obtain ⟨x,H1,I1,r1,q1⟩:=hpt
 refine thn (hb pins s1 σ H1 _ I1 q1) λu s2 hpt=>?_
 obtain ⟨y,H2,I2,r2,q2⟩:=hpt
 exact hf v u s2 x y H2 I2 r1 r2 q2
theorem aB {op:Operator} {r:R2} (ho:OpR X (binaryOp op) r) (ha:PE X a ta) (hb:PE X b tb):PE X (.BinOp a op b pos) (tOp r ta tb):=by
 intro pins s σ H Q I h
 exact wpAny_BinOp (vL ha hb I h λv u s2 x y H2 I2 rx ry q=>ho pins s2 σ H2 x y v u Q I2 rx ry q)
theorem opI {f:Value→Value→Sem Value} {C:Int→Int→Prop} {g:Int→Int→Int}
  (rule:∀ (i j:Int) (t u:Tok) (s:Shared) (Q:Value→Shared→Prop) (E:Value→Shared→Prop),C i j→Q (.int (g i j) s.toks) { s with toks:=s.toks+1 }→wpAny (model X.prog X.w) X.A (f (.int i t) (.int j u)) Q E s) :
  OpR X f (rI C λi j=>.int (g i j)):=by
 intro pins s σ H x y v u Q I rx ry h
 obtain ⟨i,j,rfl,rfl,hc,q⟩:=h
 obtain ⟨t,rfl⟩:=rx
 obtain ⟨t',rfl⟩:=ry
 exact rule i j t t' s _ _ hc ⟨.int (g i j),H,I.tok _,⟨_,rfl⟩,q⟩
theorem yg {f:Value→Value→Sem Value} {g:Int→Int→Int}
  (rule:∀ (i j:Int) (t u:Tok) (s:Shared) (Q:Value→Shared→Prop) (E:Value→Shared→Prop),Q (.int (g i j) s.toks) { s with toks:=s.toks+1 }→wpAny (model X.prog X.w) X.A (f (.int i t) (.int j u)) Q E s) :
  OpR X f (rI0 λi j=>.int (g i j)):=by
 intro pins s σ H x y v u Q I rx ry h
 obtain ⟨i,j,rfl,rfl,q⟩:=h
 obtain ⟨t,rfl⟩:=rx
 obtain ⟨t',rfl⟩:=ry
 exact rule i j t t' s _ _ ⟨.int (g i j),H,I.tok _,⟨_,rfl⟩,q⟩
theorem vM {f:Value→Value→Sem Value} {g:Int→Int→Bool}
  (rule:∀ (i j:Int) (t u:Tok) (s:Shared) (Q:Value→Shared→Prop) (E:Value→Shared→Prop),Q (.bool (g i j)) s→wpAny (model X.prog X.w) X.A (f (.int i t) (.int j u)) Q E s) :
  OpR X f (rI0 λi j=>.bl (g i j)):=by
 intro pins s σ H x y v u Q I rx ry h
 obtain ⟨i,j,rfl,rfl,q⟩:=h
 obtain ⟨t,rfl⟩:=rx
 obtain ⟨t',rfl⟩:=ry
 exact rule i j t t' s _ _ ⟨.bl (g i j),H,I,rfl,q⟩
noncomputable def yh (i j:Int):Prop:=0<j∧j<1073741824
noncomputable def vN (i j:Int):Prop:=(-(2 ^ 64)<i∧i<2 ^ 64)∨(-(2 ^ 64)<j∧j<2 ^ 64)
theorem vN.ok {i j:Int} (h:vN i j):IntMulOk i j:=by
 rcases h with ⟨h1,h2⟩ | ⟨h1,h2⟩
 ·exact .of_left (intBits_le_64 h1 h2)
 ·exact .of_right (intBits_le_64 h1 h2)
theorem ba:OpR X (binaryOp .Add) (rI0 λi j=>.int (i+j)):=yg λ_ _ _ _ _ _ _ q=>add_int q
theorem db:OpR X (binaryOp .Mult) (rI vN λi j=>.int (i * j)):=opI λ_ _ _ _ _ _ _ hc q=>mul_int q hc.ok
theorem oB:OpR X (binaryOp .FloorDiv) (rI yh λi j=>.int (i / j)):=opI λi j _ _ _ _ _ hc q=>by
 have h1:(0:Int)<j:=hc.1
 have h2:j<1073741824:=hc.2
 exact floordiv_int (by omega) (by rw [Int.fdiv_eq_ediv_of_nonneg i (by omega)]; exact q) (.inl (PyProof.noPylong_small (by omega)))
theorem ku:OpR X (binaryOp .Mod) (rI (λ_ j=>0<j) λi j=>.int (i % j)):=opI λi j _ _ _ _ _ hc q=>by
 have h1:(0:Int)<j:=hc
 exact mod_int' (by omega) (by rw [Int.fmod_eq_emod_of_nonneg i (by omega)]; exact q)
end
noncomputable def xr:V→V→Bool
 | .non,.non=>true | .non,.int _=>true | .int _,.non=>true | .non,.bl _=>true | .bl _,.non=>true | .non,.str _=>true | .str _,.non=>true
 | .int _,.int _=>true | .bl _,.bl _=>true | .str _,.str _=>true | .byt _,.byt _=>true
 | .int _,.str _=>true | .str _,.int _=>true | .bl _,.str _=>true | .str _,.bl _=>true
 | _,_=>false
noncomputable def rEq:R2:=λx y H Q=>xr x y=true∧Q (.bl (decide (x=y))) H
noncomputable def rNe:R2:=λx y H Q=>xr x y=true∧Q (.bl (!decide (x=y))) H
theorem oC {i j:Int}:decide (V.int i=V.int j)=(i == j):=by
 rw [Bool.eq_iff_iff]
 simp
theorem qX {i j:Bool}:decide (V.bl i=V.bl j)=(i == j):=by
 rw [Bool.eq_iff_iff]
 simp
theorem oD {i j:Str}:decide (V.str i=V.str j)=(i == j):=by
 rw [Bool.eq_iff_iff]
 simp
theorem oE {i j:Array UInt8}:decide (V.byt i=V.byt j)=(i.toList == j.toList):=by
 rw [Bool.eq_iff_iff]
 cases i
 cases j
 simp
section
variable {X:Cx} {a b c:Expr} {ta tb tc:TE} {pos:Pos}
theorem aQ {pins:List (Addr×Obj)} {σ:St} {H:Hp} {s:Shared} {Q:VK} {k k':Bool} (I:Inv X pins σ H s) (q:Q (.bl k) H) (e:k=k'):EP X pins σ Q (.bool k') s:=by
 subst e
 exact ⟨.bl k,H,I,rfl,q⟩
theorem fu:OpR X (compareOp .Eq) rEq:=by
 intro pins s σ H x y v u Q I rx ry h
 obtain ⟨hs,q⟩:=h
 cases x with
 | non =>
  cases rx
  cases y with
  | non=>cases ry; exact PySem.EqNone.eq_none_none (aQ I q (by simp))
  | bl j=>cases ry; exact PySem.EqNone.eq_none_bool (aQ I q (by simp))
  | int j=>obtain ⟨t',rfl⟩:=ry; exact PySem.EqNone.eq_none_int (aQ I q (by simp))
  | str j=>obtain ⟨t',rfl⟩:=ry; exact PySem.EqNone.eq_none_str (aQ I q (by simp))
  | _=>exact absurd (show false=true from hs) Bool.false_ne_true
 | bl i =>
  cases rx
  cases y with
  | non=>cases ry; exact PySem.EqNone.eq_bool_none (aQ I q (by simp))
  | bl j=>cases ry; exact eq_bool (aQ I q qX)
  | str j=>obtain ⟨t',rfl⟩:=ry; exact PySem.EqMixed.eq_bool_str (aQ I q (by simp))
  | _=>exact absurd (show false=true from hs) Bool.false_ne_true
 | int i =>
  obtain ⟨t,rfl⟩:=rx
  cases y with
  | non=>cases ry; exact PySem.EqNone.eq_int_none (aQ I q (by simp))
  | int j=>obtain ⟨t',rfl⟩:=ry; exact eq_int (aQ I q oC)
  | str j=>obtain ⟨t',rfl⟩:=ry; exact PySem.EqMixed.eq_int_str (aQ I q (by simp))
  | _=>exact absurd (show false=true from hs) Bool.false_ne_true
 | str i =>
  obtain ⟨t,rfl⟩:=rx
  cases y with
  | non=>cases ry; exact PySem.EqNone.eq_str_none (aQ I q (by simp))
  | bl j=>cases ry; exact PySem.EqMixed.eq_str_bool (aQ I q (by simp))
  | int j=>obtain ⟨t',rfl⟩:=ry; exact PySem.EqMixed.eq_str_int (aQ I q (by simp))
  | str j=>obtain ⟨t',rfl⟩:=ry; exact eq_str (aQ I q oD)
  | _=>exact absurd (show false=true from hs) Bool.false_ne_true
 | byt i =>
  obtain ⟨t,rfl⟩:=rx
  cases y with
  | byt j=>obtain ⟨t',rfl⟩:=ry; exact PySem.W.eq_bytes (aQ I q oE)
  | _=>exact absurd (show false=true from hs) Bool.false_ne_true
 | _=>cases y <;> exact absurd (show false=true from hs) Bool.false_ne_true
theorem eB:OpR X (compareOp .NotEq) rNe:=by
 intro pins s σ H x y v u Q I rx ry h
 obtain ⟨hs,q⟩:=h
 cases x with
 | non =>
  cases rx
  cases y with
  | non=>cases ry; exact PySem.EqNone.ne_none_none (aQ I q (by simp))
  | bl j=>cases ry; exact PySem.EqNone.ne_none_bool (aQ I q (by simp))
  | int j=>obtain ⟨t',rfl⟩:=ry; exact PySem.EqNone.ne_none_int (aQ I q (by simp))
  | str j=>obtain ⟨t',rfl⟩:=ry; exact PySem.EqNone.ne_none_str (aQ I q (by simp))
  | _=>exact absurd (show false=true from hs) Bool.false_ne_true
 | bl i =>
  cases rx
  cases y with
  | non=>cases ry; exact PySem.EqNone.ne_bool_none (aQ I q (by simp))
  | bl j=>cases ry; exact ne_bool (aQ I q (congrArg not qX))
  | str j=>obtain ⟨t',rfl⟩:=ry; exact PySem.EqMixed.ne_bool_str (aQ I q (by simp))
  | _=>exact absurd (show false=true from hs) Bool.false_ne_true
 | int i =>
  obtain ⟨t,rfl⟩:=rx
  cases y with
  | non=>cases ry; exact PySem.EqNone.ne_int_none (aQ I q (by simp))
  | int j=>obtain ⟨t',rfl⟩:=ry; exact ne_int (aQ I q (congrArg not oC))
  | str j=>obtain ⟨t',rfl⟩:=ry; exact PySem.EqMixed.ne_int_str (aQ I q (by simp))
  | _=>exact absurd (show false=true from hs) Bool.false_ne_true
 | str i =>
  obtain ⟨t,rfl⟩:=rx
  cases y with
  | non=>cases ry; exact PySem.EqNone.ne_str_none (aQ I q (by simp))
  | bl j=>cases ry; exact PySem.EqMixed.ne_str_bool (aQ I q (by simp))
  | int j=>obtain ⟨t',rfl⟩:=ry; exact PySem.EqMixed.ne_str_int (aQ I q (by simp))
  | str j=>obtain ⟨t',rfl⟩:=ry; exact ne_str (aQ I q (congrArg not oD))
  | _=>exact absurd (show false=true from hs) Bool.false_ne_true
 | byt i =>
  obtain ⟨t,rfl⟩:=rx
  cases y with
  | byt j=>obtain ⟨t',rfl⟩:=ry; exact PySem.W.ne_bytes (aQ I q (congrArg not oE))
  | _=>exact absurd (show false=true from hs) Bool.false_ne_true
 | _=>cases y <;> exact absurd (show false=true from hs) Bool.false_ne_true
theorem lM:OpR X (compareOp .Lt) (rI0 λi j=>.bl (decide (i<j))):=vM λ_ _ _ _ _ _ _ q=>lt_int q
theorem oF:OpR X (compareOp .LtE) (rI0 λi j=>.bl (decide (i≤j))):=vM λ_ _ _ _ _ _ _ q=>le_int q
theorem xt:OpR X (compareOp .Gt) (rI0 λi j=>.bl (decide (j<i))):=vM λ_ _ _ _ _ _ _ q=>gt_int q
theorem pQ:OpR X (compareOp .In) (λx y H Q=>∃ i j,x = .str i∧y = .str j∧Q (.bl (!(Builtin.Str.occurrences j i 0 j.length 1).isEmpty)) H):=by
 intro pins s σ H x y v u Q I rx ry h
 obtain ⟨i,j,rfl,rfl,q⟩:=h
 obtain ⟨t,rfl⟩:=rx
 obtain ⟨t',rfl⟩:=ry
 exact in_str (aQ I q rfl)
theorem ir:OpR X (compareOp .Is) (λx y H Q=>y = .non∧Q (.bl (decide (x = .non))) H):=by
 intro pins s σ H x y v u Q I rx ry h
 obtain ⟨rfl,q⟩:=h
 cases ry
 refine is_none_gen (aQ I q ?_)
 cases x <;> first
  | (cases rx; rfl)
  | (obtain ⟨t,rfl⟩:=rx; rfl)
theorem oG:OpR X (compareOp .IsNot) (λx y H Q=>y = .non∧Q (.bl (!decide (x = .non))) H):=by
 intro pins s σ H x y v u Q I rx ry h
 obtain ⟨rfl,q⟩:=h
 cases ry
 refine isnot_none_gen (aQ I q ?_)
 cases x <;> first
  | (cases rx; rfl)
  | (obtain ⟨t,rfl⟩:=rx; rfl)
theorem OpR.or {f:Value→Value→Sem Value} {r r':R2} (h:OpR X f r) (h':OpR X f r'):OpR X f (λx y H Q=>r x y H Q∨r' x y H Q):=by
 intro pins s σ H x y v u Q I rx ry q
 rcases q with q | q
 ·exact h pins s σ H x y v u Q I rx ry q
 ·exact h' pins s σ H x y v u Q I rx ry q
theorem ar (b:Expr) {op:CmpOp} (h:op ≠ .In:=by decide) (h2:op ≠ .NotIn:=by decide):behindInMarks op b=false:=by
 have e1:(op == CmpOp.In)=false:=by cases op <;> first | rfl | exact absurd rfl h
 have e2:(op == CmpOp.NotIn)=false:=by cases op <;> first | rfl | exact absurd rfl h2
 cases b <;> simp [behindInMarks,e1,e2]
theorem cG {op:CmpOp} {r:R2} (ho:OpR X (compareOp op) r) (ha:PE X a ta) (hb:PE X b tb) (hm:behindInMarks op b=false):PE X (.Compare a [op] [b] pos) (tOp r ta tb):=by
 intro pins s σ H Q I h
 exact wpAny_Compare1 (vL ha hb I h λv u s2 x y H2 I2 rx ry q=>ho pins s2 σ H2 x y v u Q I2 rx ry q) hm
noncomputable def oH (t:TE):TT:=λσ H Q=>t σ H λx H'=>∃ k,x = .bl k∧Q k H'
theorem am {op:CmpOp} {r:R2} (ho:OpR X (compareOp op) r) (ha:PE X a ta) (hb:PE X b tb) (hm:behindInMarks op b=false):PT X (.Compare a [op] [b] pos) (oH (tOp r ta tb)):=by
 intro pins s σ H Q I h
 refine wpAny_isTrue_Compare1 (thn (ha pins s σ H _ I h) λv s1 ⟨x,H1,I1,r1,q1⟩=>thn (hb pins s1 σ H1 _ I1 q1) λu s2 ⟨y,H2,I2,r2,q2⟩ =>
  thn (ho pins s2 σ H2 x y v u _ I2 r1 r2 q2) λc s3 ⟨z,H3,I3,r3,k,e,q3⟩=>?_) hm
 subst e
 cases r3
 exact wpAny_truthy_bool ⟨H3,I3,q3⟩
noncomputable def qY (r r':R2) (ta tb tc:TE):TE:=λσ H Q=>ta σ H λx H1=>tb σ H1 λy H2=>r x y H2 λz H3=>∃ k,z = .bl k ∧
 (if k=true then tc σ H3 λw' H4=>r' y w' H4 Q else Q (.bl false) H3)
theorem qZ {op op':CmpOp} {r r':R2} (ho:OpR X (compareOp op) r) (ho':OpR X (compareOp op') r') (ha:PE X a ta) (hb:PE X b tb) (hc:PE X c tc)
  (hm:lastMarks [op,op'] [b,c]=false:=by with_unfolding_all rfl):PE X (.Compare a [op,op'] [b,c] pos) (qY r r' ta tb tc):=by
 intro pins s σ H Q I h
 refine Compare_chain (thn (ha pins s σ H _ I h) λv s1 ⟨x,H1,I1,r1,q1⟩=>chain_link (thn (hb pins s1 σ H1 _ I1 q1) λu s2 ⟨y,H2,I2,r2,q2⟩ =>
  thn (ho pins s2 σ H2 x y v u _ I2 r1 r2 q2) λd s3 ⟨z,H3,I3,r3,k,e,q3⟩=>?_)) hm
 subst e
 cases r3
 refine wpAny_truthy_bool ?_
 cases k with
 | false=>exact ite_ff ⟨.bl false,H3,I3,rfl,q3⟩
 | true=>exact ite_tt (chain_last (thn (hc pins s3 σ H3 _ I3 q3) λw' s4 ⟨z',H4,I4,r4,q4⟩=>ho' pins s4 σ H4 y z' u w' Q I4 r2 r4 q4))
theorem rb {op op':CmpOp} {r r':R2} (ho:OpR X (compareOp op) r) (ho':OpR X (compareOp op') r') (ha:PE X a ta) (hb:PE X b tb) (hc:PE X c tc)
  (hm:lastMarks [op,op'] [b,c]=false:=by with_unfolding_all rfl):PT X (.Compare a [op,op'] [b,c] pos) (oH (qY r r' ta tb tc)):=by
 intro pins s σ H Q I h
 refine isTrue_chain (thn (ha pins s σ H _ I h) λv s1 ⟨x,H1,I1,r1,q1⟩=>test_link (thn (hb pins s1 σ H1 _ I1 q1) λu s2 ⟨y,H2,I2,r2,q2⟩ =>
  thn (ho pins s2 σ H2 x y v u _ I2 r1 r2 q2) λd s3 ⟨z,H3,I3,r3,k,e,q3⟩=>?_)) hm
 subst e
 cases r3
 refine wpAny_truthy_bool ?_
 cases k with
 | false =>
  obtain ⟨k',e',q'⟩:=q3
  cases e'
  exact ite_ff ⟨H3,I3,q'⟩
 | true =>
  refine ite_tt (test_last (thn (hc pins s3 σ H3 _ I3 q3) λw' s4 ⟨z',H4,I4,r4,q4⟩=>thn (ho' pins s4 σ H4 y z' u w' _ I4 r2 r4 q4) λd' s5 hpt=>?_))
  obtain ⟨z2,H5,I5,r5,k2,e2,q5⟩:=hpt
  subst e2
  cases r5
  exact wpAny_truthy_bool ⟨H5,I5,q5⟩
noncomputable def xu (K:PySem.W.Frag) (x:V) (H:Hp) (k:Bool):Prop :=
 match x with
 | .non=>k=false
 | .bl b=>k=b
 | .int i=>k=(i != 0)
 | .str y=>y.length≤sizeLine∧k=((y.length:Int) != 0)
 | .byt y=>y.size≤sizeLine∧k=((y.size:Int) != 0)
 | .ref p=>(∃ xs,SqL K H p xs∧k = !xs.isEmpty)∨(∃ xs,SqT K H p xs∧k = !xs.isEmpty)∨∃ kvs,H p=some (.dK kvs)∧k = !kvs.isEmpty
 | _=>False
theorem nI {κ:Type} {kvs:List (κ×V)} {vs:List (κ×Value)} (r:KV kvs vs):(!vs.isEmpty) = !kvs.isEmpty:=by
 cases r <;> rfl
theorem iu {xs:List V} {its:List Value} (r:aE xs its):(!its.toArray.isEmpty) = !xs.isEmpty:=by
 cases r <;> simp
theorem iw:(sizeLine:Nat)<2 ^ 63:=by rw [sizeLine_eq]; decide
theorem vO:yf X (λx H Q=>∃ k,xu X.K x H k∧Q k H):=by
 intro pins s σ H x v Q I rx h
 obtain ⟨k,e,q⟩:=h
 have hl:=iw
 have hs:sizeLine=16777216:=sizeLine_eq
 cases x with
 | non =>
  cases rx
  have e':k=false:=e
  subst e'
  exact truthy_none ⟨H,I,q⟩
 | bl b =>
  cases rx
  have e':k=b:=e
  subst e'
  exact wpAny_truthy_bool ⟨H,I,q⟩
 | int i =>
  obtain ⟨t,rfl⟩:=rx
  have e':k=(i != 0):=e
  subst e'
  exact PySem.P.truthy_int ⟨H,I,q⟩
 | str y =>
  obtain ⟨t,rfl⟩:=rx
  obtain ⟨hy,e'⟩:y.length≤sizeLine∧k=((y.length:Int) != 0):=e
  subst e'
  exact PySem.P.truthy_str (by omega) ⟨H,I.tok _,q⟩
 | byt y =>
  obtain ⟨t,rfl⟩:=rx
  obtain ⟨hy,e'⟩:y.size≤sizeLine∧k=((y.size:Int) != 0):=e
  subst e'
  exact PySem.W.truthy_bytes (by omega) ⟨H,I.tok _,q⟩
 | ref p =>
  cases rx
  have e':(∃ xs,SqL X.K H p xs∧k = !xs.isEmpty)∨(∃ xs,SqT X.K H p xs∧k = !xs.isEmpty)∨∃ kvs,H p=some (.dK kvs)∧k = !kvs.isEmpty:=e
  rcases e' with ⟨xs,hx,e'⟩ | ⟨xs,hx,e'⟩ | ⟨kvs,hx,e'⟩
  ·subst e'
   obtain ⟨its,r,pl,hz⟩:=I.list hx
   have hlen:=r.length
   exact wpAny_truthy_list pl.isList (by simp only [List.size_toArray]; omega) ⟨H,I.tok _,by rw [iu r]; exact q⟩
  ·subst e'
   obtain ⟨its,r,pl,hz⟩:=I.tuple hx
   have hlen:=r.length
   exact truthy_tuple pl (by simp only [List.size_toArray]; omega) ⟨H,I.tok _,by rw [iu r]; exact q⟩
  ·subst e'
   obtain ⟨hz,hS,vs,r,m⟩:kvs.length≤sizeLine∧(p == sysModules)=false∧∃ vs,KV kvs vs∧s.heap.DictOf (aD X.prog X.w) p vs:=I.hok p _ hx
   have hlen:kvs.length=vs.length:=Paired.length r
   exact wpAny_truthy_dict hS m (by omega) ⟨H,I.tok _,by rw [nI r]; exact q⟩
 | _=>exact (show False from e).elim
theorem rc (ha:PE X a ta) (he:∀ whole,isTrue a X.env whole=(do let v ← whole; standAt a.pos; holding [v] (truthy v))) :
  PT X a (λσ H Q=>ta σ H λx H'=>∃ k,xu X.K x H' k∧Q k H'):=by
 intro pins s σ H Q I h
 exact isTrue_plain (thn (ha pins s σ H _ I h) λv s1 ⟨x,H1,I1,r1,q1⟩=>vO pins s1 σ H1 x v Q I1 r1 q1) (he _)
theorem dW {x:V} {us:List Value} (r:aE [x] us):∃ u,us=[u]∧aL x u:=by
 cases r with
 | cons r1 r2=>cases r2; exact ⟨_,rfl,r1⟩
theorem re {x y:V} {us:List Value} (r:aE [x,y] us):∃ u w',us=[u,w']∧aL x u∧aL y w':=by
 cases r with
 | cons r1 r2 =>
  cases r2 with
  | cons r3 r4=>cases r4; exact ⟨_,_,rfl,r1,r3⟩
end
structure ObjM (h:Heap) (x dx C:Addr) (mA:Str→Option Value):Prop where
 obj:h.get? x=some (PySem.W.instObj C dx)
 ns:h.Ns1 dx mA
 ne:dx≠x
theorem pR {h:Heap} {dx:Addr} {mA:Str→Option Value} (n:h.Ns1 dx mA):∃ od,h.get? dx=some od∧∀ name,PySem.W.lookIn name od=some (mA name):=by
 obtain ⟨o,es,ep,ho,hd,hk,_,hm⟩:=n
 refine ⟨o,ho,λname=>?_⟩
 have e:=hm name
 unfold nsFind findBy at e
 rw [← Array.find?_toList] at e
 unfold PySem.W.lookIn
 rw [hd]
 dsimp only
 split
 ·rename_i y q
  rw [q] at e
  exact congrArg some e
 ·rename_i q
  rw [q] at e
  have a:es.toList.any (·.refKey)=false:=by
   rw [List.any_eq_false]
   intro y hy
   obtain ⟨z,t,hkey⟩:=hk y (Array.mem_toList_iff.mp hy)
   simp [DictEntry.refKey,hkey]
  have a':¬ es.toList.any (·.refKey)=true:=by rw [a]; exact Bool.false_ne_true
  rw [if_neg a']
  exact congrArg some e
theorem ObjM.look {h:Heap} {x dx C:Addr} {mA:Str→Option Value} (I:ObjM h x dx C mA):∃ od,PySem.W.InstAt h x (PySem.W.instObj C dx) C (some od)∧∀ name,PySem.W.lookIn name od=some (mA name) :=
 let ⟨od,ho,hl⟩:=pR I.ns
 ⟨od,⟨I.obj,rfl,rfl,ho⟩,hl⟩
section
variable {prog:Program} {w:World} {A:Around} {E:Value→Shared→Prop} {s:Shared} {K:PySem.W.Frag} {x dx C f:Addr} {mA:Str→Option Value} {name:Str} {v:Value}
end
theorem eu.some_of {v:V} {o:Option Value} (r:eu (some v) o):∃ u,o=some u∧aL v u:=by
 cases o with
 | none=>exact (show False from r).elim
 | some u=>exact ⟨u,rfl,r⟩
theorem eu.none_of {o:Option Value} (r:eu none o):o=none:=by
 cases o with
 | none=>rfl
 | some u=>exact (show False from r).elim
section
variable {P:Program} {w:World} {H H':Hp} {h h':Heap} {a C dx:Addr} {fs fs':List (Str×V)}
theorem tO (hok:HOk P w H h) (e:H a=some (.ins C dx fs)):∃ mA,ObjM h a dx C mA∧(∀ f,eu (fs.lookup f) (mA f))∧PySem.Within mA (fs.map (·.1))∧fs.length≤1000∧H dx=some (.own a):=by
 obtain ⟨d,z,ne,ob,mA,n,r,q⟩:=(show bv P w H h a (.ins C dx fs) from hok a _ e)
 exact ⟨mA,⟨ob,n,ne⟩,r,q,z,d⟩
end
structure Cls (K:PySem.W.Frag) (C:Addr):Prop where
 pg:PySem.W.plainGet K C Str.empty=true
 hd:PySem.W.hasDictIn K C=true
 po:PySem.W.plainOver K C=true
 sa:PySem.W.findIn K (.ref C) "__setattr__" = some (some (.builtin "object.__setattr__"))
theorem Cls.get {K:PySem.W.Frag} {C:Addr} (c:Cls K C) (f:Str):PySem.W.plainGet K C f=true:=c.pg
section
variable {X:Cx} {pins:List (Addr×Obj)} {σ:St} {H:Hp} {s:Shared} {a C dx:Addr} {fs:List (Str×V)} {f:Str} {v:V} {A:Around} {E:Value→Shared→Prop}
end
section
variable {X:Cx} {o e value:Expr} {f:Str} {pos pos' tpos:Pos} {ta tv:TE}
end
section
variable {X:Cx} {pins:List (Addr×Obj)} {σ:St} {H:Hp} {s:Shared} {A:Around} {E:Value→Shared→Prop} {Q:Value→Shared→Prop} {c:Value} {b:Bool}
inductive TyOf (K:PySem.W.Frag) (H:Hp):V→Value→Prop where
 | non:TyOf K H .non (.type "NoneType")
 | bl (x:Bool):TyOf K H (.bl x) (.type "bool")
 | int (i:Int):TyOf K H (.int i) (.type "int")
 | str (x:Str):TyOf K H (.str x) (.type "str")
 | flt (x:UInt64):TyOf K H (.flt x) (.type "float")
 | lst {a:Addr} {xs:List V} (e:H a=some (.lst xs)):TyOf K H (.ref a) (.type "list")
 | frz {a:Addr} {o:Obj} {xs:List V} (e:H a=some (.frz o (.lst xs))):TyOf K H (.ref a) (.type "list")
 | tup {a:Addr} {xs:List V} (e:H a=some (.tup xs)):TyOf K H (.ref a) (.type "tuple")
 | dK {a:Addr} {kvs:List (Key×V)} (e:H a=some (.dK kvs)):TyOf K H (.ref a) (.type "dict")
 | dT {a:Addr} {kvs:List (List Key×V)} (e:H a=some (.dT kvs)):TyOf K H (.ref a) (.type "dict")
 | ins {a C dx:Addr} {fs:List (Str×V)} (e:H a=some (.ins C dx fs)) (cl:Cls K C) (ha:PySem.W.findIn K (.ref C) "__class__" = some (some (.builtin "object.__class__")))
   (hn:PySem.W.specialIn K (.builtin "object.__class__") "__get__" = some (some (.builtin "getset_descriptor.__get__"))) (htk:PySem.W.takesIn K (.builtin "object.__class__")=some true)
   (hm:PySem.W.mroIn K C (.type "object")=some true):TyOf K H (.ref a) (.ref C)
theorem pS {x:V} {u t:Value} (I:Inv X pins σ H s) (rx:aL x u) (ty:TyOf X.K H x t) (e:PySem.W.kitOne X.K t c=some b) (h:∀ tk,Q (.bool b) { s with toks:=tk }) :
  wpAny (model X.prog X.w) A (call (.builtin "isinstance") [u,c]) Q E s:=by
 cases ty with
 | non=>cases (show u=Value.none from rx); exact PySem.W.kia_one PySem.W.kitx_none I.kIn True.intro e (λz=>nomatch z) h
 | bl y=>cases (show u=Value.bool y from rx); exact PySem.W.kia_one PySem.W.kitx_bool I.kIn True.intro e (λz=>nomatch z) h
 | int i=>obtain ⟨t,q⟩:=(show ∃ t,u=Value.int i t from rx); cases q; exact PySem.W.kia_one PySem.W.kitx_int I.kIn True.intro e (λz=>nomatch z) h
 | str y=>obtain ⟨t,q⟩:=(show ∃ t,u=Value.str y t from rx); cases q; exact PySem.W.kia_one PySem.W.kitx_str I.kIn True.intro e (λz=>nomatch z) h
 | flt y=>obtain ⟨t,q⟩:=(show ∃ t,u=Value.float y t from rx); cases q; exact PySem.W.kia_one PySem.W.kitx_float I.kIn True.intro e (λz=>nomatch z) h
 | @lst a xs ea =>
  cases (show u=Value.ref a from rx)
  obtain ⟨_,_,n,_,h1⟩:=(show bv X.prog X.w H s.heap a (.lst xs) from I.hok a _ ea)
  exact PySem.W.kia_one PySem.W.kitx_list I.kIn ⟨_,h1,rfl⟩ e (λz=>nomatch z) h
 | @frz a ob xs ea =>
  cases (show u=Value.ref a from rx)
  obtain ⟨_,_,_,n,_,h1⟩:=(show bv X.prog X.w H s.heap a (.frz ob (.lst xs)) from I.hok a _ ea)
  exact PySem.W.kia_one PySem.W.kitx_list I.kIn ⟨_,h1,rfl⟩ e (λz=>nomatch z) h
 | @tup a xs ea =>
  cases (show u=Value.ref a from rx)
  obtain ⟨_,_,_,p⟩:=(show bv X.prog X.w H s.heap a (.tup xs) from I.hok a _ ea)
  obtain ⟨o,h1,h2,_⟩:=p
  exact PySem.W.kia_one PySem.W.kitx_tuple I.kIn ⟨o,h1,h2⟩ e (λz=>nomatch z) h
 | @dK a kvs ea =>
  cases (show u=Value.ref a from rx)
  obtain ⟨_,_,vs,_,p⟩:=(show bv X.prog X.w H s.heap a (.dK kvs) from I.hok a _ ea)
  obtain ⟨o,es,ep,h1,h2,_⟩:=p
  exact PySem.W.kia_one PySem.W.kitx_dict I.kIn ⟨o,h1,h2.1⟩ e (λz=>nomatch z) h
 | @dT a kvs ea =>
  cases (show u=Value.ref a from rx)
  obtain ⟨_,_,xs,_,o,es,ep,h1,h2,_⟩:=(show bv X.prog X.w H s.heap a (.dT kvs) from I.hok a _ ea)
  exact PySem.W.kia_one PySem.W.kitx_dict I.kIn ⟨o,h1,h2.1⟩ e (λz=>nomatch z) h
 | @ins a C dx fs ea cl ha hn htk hm =>
  cases (show u=Value.ref a from rx)
  obtain ⟨mA,O,_⟩:=tO I.hok ea
  obtain ⟨od,J,_⟩:=O.look
  exact PySem.W.kia_one (PySem.W.kitx_own (cl.get _) cl.hd ha hn htk hm) I.kIn J e (λz=>nomatch z) h
end
structure Room (k:Nat) (A:Around):Prop where
 hd:A.handled=none
 dp:A.depth+3 * k+5<recursionLimit
 un:A.units+16 * k+200<cLine
theorem Room.mono {j k:Nat} {A:Around} (r:Room k A) (h:j≤k):Room j A:=⟨r.hd,by have:=r.dp; omega,by have:=r.un; omega⟩
theorem Room.deeper {k:Nat} {A:Around} (r:Room (k+1) A) (env:Env):Room k (A.deeper env) :=
 ⟨r.hd,by have:=r.dp; show A.depth+1+3 * k+5<_; omega,by have:=r.un; show A.units+3+16 * k+200<_; omega⟩
theorem Room.depth {k:Nat} {A:Around} (r:Room k A):A.depth<recursionLimit:=by have:=r.dp; omega
theorem Room.units {k:Nat} {A:Around} (r:Room k A):A.units+64<cLine:=by have:=r.un; omega
theorem Room.units0 {k:Nat} {A:Around} (r:Room k A):A.units<cLine:=by have:=r.un; omega
noncomputable def rf:TA:=λ_ H Q=>Q [] H
noncomputable def lN (ta:TE) (tr:TA):TA:=λσ H Q=>ta σ H λx H1=>tr σ H1 λxs H2=>Q (x :: xs) H2
section
variable {X:Cx} {e:Expr} {es:List Expr} {te:TE} {t:TA} {pos:Pos}
theorem ag:PA X [] rf:=λ_ _ _ _ H Q I h=>Calls.spliced_nil ⟨[],H,I,.nil,h⟩
theorem aa (ha:PE X e te) (hr:PA X es t) (hs:starEach (e :: es) X.env=(false,eval e X.env) :: starEach es X.env:=by rfl):PA X (e :: es) (lN te t):=by
 intro pos pins s σ H Q I h
 rw [hs]
 show wpAny _ _ (spliced ((false,eval e X.env) :: backTo pos (starEach es X.env))) _ _ s
 refine Calls.spliced_cons (thn (ha pins s σ H _ I h) λu s1 hpt=>?_)
 obtain ⟨x,H1,I1,r1,q1⟩:=hpt
 exact thn (hr pos pins s1 σ H1 _ I1 q1) λus s2 ⟨xs,H2,I2,r2,q2⟩=>⟨x :: xs,H2,I2,.cons r1 r2,q2⟩
noncomputable def yi (t:TA):TE:=λσ H Q=>t σ H λxs H1=>xs.length≤sizeLine∧∀ p,H1 p=none→Q (.ref p) (upd H1 p (.tup xs))
noncomputable def xv (t:TA):TE:=λσ H Q=>t σ H λxs H1=>xs.length≤sizeLine∧∀ p,H1 p=none→Q (.ref p) (upd H1 p (.lst xs))
theorem cm {x1} (h:PA X es t):PE X (.Tuple es x1 pos) (yi t):=by
 intro pins s σ H Q I hq
 refine wpAny_Tuple_spliced (thn (h pos pins s σ H _ I hq) λus s1 ⟨xs,H1,I1,r,z,q⟩=>⟨by rw [← r.length]; exact z,?_⟩)
 have hf:H1 s1.heap.objs.size=none:=I1.hok.fresh (Nat.le_refl _)
 refine ⟨.ref s1.heap.objs.size,upd H1 s1.heap.objs.size (.tup xs),I1.laid (t':=s1.toks) (λb u e=>Heap.get?_push_of_some _ e) (Nat.le_refl _) ?_,rfl,q _ hf⟩
 exact ⟨z,us,r,⟨_,Heap.get?_push_size _ rfl,rfl,_,rfl⟩⟩
theorem bJ (h:PA X es t):PE X (.List es pos) (xv t):=by
 intro pins s σ H Q I hq
 refine wpAny_List_spliced (thn (h pos pins s σ H _ I hq) λus s1 ⟨xs,H1,I1,r,z,q⟩=>⟨by rw [← r.length]; exact z,?_⟩)
 have hf:H1 s1.heap.objs.size=none:=I1.hok.fresh (Nat.le_refl _)
 refine ⟨.ref s1.heap.objs.size,upd H1 s1.heap.objs.size (.lst xs),I1.laid (t':=s1.toks) (λb u e=>Heap.get?_push_of_some _ e) (Nat.le_refl _) ?_,rfl,q _ hf⟩
 exact ⟨z,us,0,r,Heap.get?_push_size _ rfl⟩
end
noncomputable abbrev Sp:=List V→Hp→VK→XK→Prop
noncomputable abbrev CXT:=List Env→Hp→Shared→XK→Value→Shared→Prop
structure Env0 (P:Program) (w:World) (K:PySem.W.Frag) (mg:Str→Option Value) (base:Heap) (A:Around) (outer:List Env) (s:Shared) (H:Hp):Prop where
 frames:A.frames=some outer
 mod:Mod K mg base
 bs:∀ b o,base.get? b=some o→s.heap.get? b=some o∧H b=none
 bsz:base.objs.size≤s.heap.objs.size
 funs:s.heap.FunFrames base outer
 frf:∀ b∈frs outer,H b=none
 hok:HOk P w H s.heap
 bare:AllBare s.gens
noncomputable def CE (outer:List Env) (P:Program) (w:World) (H:Hp) (s:Shared) (Q:VK) (u:Value) (s':Shared):Prop :=
 ∃ v H',s'.os=s.os∧AllBare s'.gens∧Un (frs outer) [] H H' s.heap s'.heap∧HOk P w H' s'.heap∧aL v u∧Q v H'
noncomputable def CR (CX:CXT) (outer:List Env) (P:Program) (w:World) (H:Hp) (s:Shared) (Q:VK) (E:XK) (r:Result) (s':Shared):Prop :=
 match r with
 | .ok (.ret u)=>CE outer P w H s Q u s'
 | .ok _=>False
 | .error e=>CX outer H s E e s'
structure FnOk (P:Program) (w:World) (K:PySem.W.Frag) (mg:Str→Option Value) (base:Heap) (CX:CXT) (k:Nat) (f:Addr) (fd:FuncData) (ps:List Str) (sp:Sp):Prop where
 len:∀ vs H Q E,sp vs H Q E→vs.length=ps.length
 run:∀ (A:Around) (outer:List Env) (s:Shared) (H:Hp) (args:Args) (us:List Value) (vs:List V) (Q:VK) (E:XK),Room k A→Env0 P w K mg base A outer s H→BindsTo s fd args (ps.zip us)→aE vs us→sp vs H Q E →
  codeAny (model P w) A (.call (.ref f) args) (CR CX outer P w H s Q E) s
theorem FnOk.imp {P:Program} {w:World} {K:PySem.W.Frag} {mg:Str→Option Value} {base:Heap} {CX:CXT} {k:Nat} {f:Addr} {fd:FuncData} {ps:List Str} {sp sp':Sp} (F:FnOk P w K mg base CX k f fd ps sp)
  (h:∀ vs H Q E,sp' vs H Q E→sp vs H Q E):FnOk P w K mg base CX k f fd ps sp' :=
 ⟨λvs H Q E q=>F.len vs H Q E (h _ _ _ _ q),λA outer s H args us vs Q E hr he hb hv hs=>F.run A outer s H args us vs Q E hr he hb hv (h _ _ _ _ hs)⟩
section
variable {X:Cx} {pins:List (Addr×Obj)} {σ:St} {H:Hp} {s s':Shared}
theorem Inv.env0 (I:Inv X pins σ H s):Env0 X.prog X.w X.K X.mg X.base X.A X.stack s H :=
 ⟨I.ok.frames,I.ok.mod,I.bs,Nat.le_trans I.ok.bsz I.sz,I.stack,I.stkFree,I.hok,I.bare⟩
theorem Inv.after {Q:VK} {u:Value} (I:Inv X pins σ H s) (h:CE X.stack X.prog X.w H s Q u s'):EP X pins σ Q u s':=by
 obtain ⟨v,H',os,bare,un,hok,r,q⟩:=h
 obtain ⟨hh,g,d,t,os'⟩:=s'
 obtain rfl:os'=s.os:=os
 exact ⟨v,H',I.call (h':=hh) (g':=g) (d':=d) (t':=t) (ch:=[]) un hok bare (λb z=>absurd z (by simp)),r,q⟩
end
noncomputable def vk (sp:Sp) (dvs:List V) (E:XK) (t:TA):TE:=λσ H Q=>t σ H λvs H1=>sp (vs++dvs) H1 Q E
noncomputable def ix (K:PySem.W.Frag) (fd:FuncData) (ps:List Str) (ds:List Value):Prop :=
 ∀ (s:Shared) (us:List Value),K.In s.heap→(us++ds).length=ps.length→BindsTo s fd ⟨us,[]⟩ (ps.zip (us++ds))
theorem ix.all {K:PySem.W.Frag} {fd:FuncData} {ps:List Str} (h:∀ us:List Value,us.length=ps.length→bindArgs fd ⟨us,[]⟩=pure (ps.zip us)):ix K fd ps []:=λs us _ hl=>by
 rw [List.append_nil] at hl ⊢
 exact .of_eq (h us hl)
noncomputable def kw (CX:CXT) (X:Cx) (E:XK):Prop:=∀ (pins:List (Addr×Obj)) (σ:St) (H:Hp) (s:Shared) (e:Value) (s':Shared),Inv X pins σ H s→CX X.stack H s E e s'→X.xe e s'
section
variable {X:Cx} {CX:CXT} {k:Nat} {f C:Addr} {fd:FuncData} {ps:List Str} {sp:Sp} {dvs:List V} {ds:List Value} {E:XK} {x m:Str} {p pos apos:Pos} {e o:Expr} {es:List Expr} {ta:TE} {t:TA}
theorem vP {pins:List (Addr×Obj)} {σ:St} {H:Hp} {s:Shared} {Q:VK} {us:List Value} {vs:List V} (F:FnOk X.prog X.w X.K X.mg X.base CX k f fd ps sp) (hr:Room k X.A) (hb:ix X.K fd ps ds) (hd:aE dvs ds) (hx:kw CX X E)
  (I:Inv X pins σ H s) (r:aE vs us) (h:sp (vs++dvs) H Q E):wpAny (model X.prog X.w) X.A (call (.ref f) us) (EP X pins σ Q) X.xe s:=by
 have r2:aE (vs++dvs) (us++ds):=r.append hd
 have hl:(us++ds).length=ps.length:=by rw [← r2.length]; exact F.len _ _ _ _ h
 refine wpAny_call (codeAny_mono (F.run X.A X.stack s H ⟨us,[]⟩ (us++ds) (vs++dvs) Q E hr I.env0 (hb s us I.kIn hl) r2 h) λr s' hq=>?_)
 cases r with
 | error e=>exact hx pins σ H s e s' I hq
 | ok fl =>
  cases fl with
  | ret u=>exact I.after hq
  | next=>exact False.elim hq
  | brk=>exact False.elim hq
  | cont=>exact False.elim hq
theorem al (F:FnOk X.prog X.w X.K X.mg X.base CX k f fd ps sp) (hr:Room k X.A) (hg:Gl X x) (hm:X.mg x=some (.ref f)) (hk:PySem.W.keepIn X.K (.ref f)=true) (hb:ix X.K fd ps ds) (hd:aE dvs ds) (hx:kw CX X E)
  (ha:PA X (e :: es) t) (hdb:(x == ("__debug__":Str))=false:=by decide) (he:starEach (e :: es) X.env=(false,eval e X.env) :: starEach es X.env:=by rfl) (hpl:(backTo pos (starEach es X.env)).any (·.1)=false:=by rfl) :
  PE X (.Call (.Name x p) (e :: es) [] pos) (vk sp dvs E t):=by
 intro pins s σ H Q I h
 refine wpAny_Call_Name_kw (kn I hg hm ?_ hdb)
 refine PySem.W.callWith_K (h₀:=X.base) I.ok.mod.kin hk (thn (ha pos pins s σ H _ I h) λus s1 ⟨vs,H1,I1,r,q⟩=>⟨I1.kIn,?_⟩) he hpl
 exact vP F hr hb hd hx I1 r q
end
section
variable {X:Cx} {CX:CXT} {k:Nat} {f C:Addr} {fd:FuncData} {ps ks:List Str} {sp:Sp} {E:XK} {x m:Str} {p pos apos kpos:Pos} {e o:Expr} {es:List Expr} {kws:List Keyword} {te ta:TE} {t tk:TA} {nm:Option Str}
variable {g:List Value→List Value→List Value} {gV:List V→List V→List V}
end
structure FnScope (N P:List Str) (sc:Scope):Prop where
 kind:sc.kind = .function
 co:sc.isCoroutine=false
 gen:sc.isGenerator=false
 nd:N.Nodup
 pre:N.take P.length=P
 par:∀ x∈P,sc.names.lookup x=some .local∨sc.names.lookup x=some .cell
 nofree:∀ y∈sc.names,y.2 ≠ .free
theorem jy {kindOf:Str→Option NameKind} {x:Str}:∀ {binds:List (Str×Value)} {m:Str→Option Value},(∀ v,(x,v)∉binds)→bindL kindOf binds m x=m x
 | [],_,_=>rfl
 | (n,v) :: r,m,h=>by
  unfold bindL
  rw [jy λw hw=>h w (List.mem_cons_of_mem _ hw)]
  split
  ·have:x≠n:=by rintro rfl; exact h v List.mem_cons_self
   simp [this]
  ·rfl
theorem jz {kindOf:Str→Option NameKind} {x:Str}:∀ {binds:List (Str×Value)} {m:Str→Option Value},(∀ v,(x,v)∉binds)→bindC kindOf binds m x=m x
 | [],_,_=>rfl
 | (n,v) :: r,m,h=>by
  unfold bindC
  rw [jz λw hw=>h w (List.mem_cons_of_mem _ hw)]
  split
  ·rfl
  ·have:x≠n:=by rintro rfl; exact h v List.mem_cons_self
   simp [this]
theorem jA {kindOf:Str→Option NameKind} {x:Str} {v:Value}:∀ {P:List Str} {vs:List Value} {i:Nat} {m:Str→Option Value},P.Nodup→P[i]? = some x→vs[i]? = some v→kindOf x=some .local →
  bindL kindOf (P.zip vs) m x=some v
 | [],_,_,_,_,h,_,_=>by simp at h
 | _ :: _,[],_,_,_,_,h,_=>by simp at h
 | p :: P,w :: vs,0,m,nd,h1,h2,hk=>by
  simp at h1 h2; subst h1; subst h2
  show bindL kindOf ((p,w) :: P.zip vs) m p=_
  unfold bindL
  rw [jy λv hv=>(List.nodup_cons.mp nd).1 (List.of_mem_zip hv).1,if_pos hk]
  simp
 | p :: P,w :: vs,i+1,m,nd,h1,h2,hk=>by
  show bindL kindOf ((p,w) :: P.zip vs) m x=_
  unfold bindL
  exact jA (i:=i) (List.nodup_cons.mp nd).2 (by simpa using h1) (by simpa using h2) hk
theorem jB {kindOf:Str→Option NameKind} {x:Str} {v:Value}:∀ {P:List Str} {vs:List Value} {i:Nat} {m:Str→Option Value},P.Nodup→P[i]? = some x→vs[i]? = some v→kindOf x≠some .local →
  bindC kindOf (P.zip vs) m x=some v
 | [],_,_,_,_,h,_,_=>by simp at h
 | _ :: _,[],_,_,_,_,h,_=>by simp at h
 | p :: P,w :: vs,0,m,nd,h1,h2,hk=>by
  simp at h1 h2; subst h1; subst h2
  show bindC kindOf ((p,w) :: P.zip vs) m p=_
  unfold bindC
  rw [jz λv hv=>(List.nodup_cons.mp nd).1 (List.of_mem_zip hv).1,if_neg hk]
  simp
 | p :: P,w :: vs,i+1,m,nd,h1,h2,hk=>by
  show bindC kindOf ((p,w) :: P.zip vs) m x=_
  unfold bindC
  exact jB (i:=i) (List.nodup_cons.mp nd).2 (by simpa using h1) (by simpa using h2) hk
noncomputable def start (N:List Str) (vs:List V):St:=vs.map some++List.replicate (N.length - vs.length) none
noncomputable def eR (CX:CXT) (P:Program) (w:World) (K:PySem.W.Frag) (mg:Str→Option Value) (base:Heap) (N:List Str) (qual:Str) (scope:Scope) (f:Addr) (cd:Value) (A:Around) (outer:List Env) (s:Shared) (H:Hp) (E:XK):Cx where
 prog:=P
 w:=w
 K:=K
 mg:=mg
 base:=base
 A:=A.deeper (envOfC qual scope s.heap.objs.size f cd)
 N:=N
 s₀:=s
 H₀:=H
 env:=envOfC qual scope s.heap.objs.size f cd
 outer:=outer
 stack:=envOfC qual scope s.heap.objs.size f cd :: outer
 ex:=[]
 calm:=true
 fn:=λ_=>true
 pn:=[]
 xe:=λe s'=>wpAny (model P w) (A.deeper (envOfC qual scope s.heap.objs.size f cd)) (leaving (envOfC qual scope s.heap.objs.size f cd) e) (λ_ s''=>CX outer H s E e s'') (λe' s''=>CX outer H s E e' s'') s'
theorem lO {sc:Scope} {n:Nat} {x:Str} (h:sc.names.lookup x=some .cell):∃ c,(cellsFrom n sc.names []).lookup x=some c:=by
 have q:=PySem.W.cellsFrom_some sc.names n [] (.inl h)
 exact Option.isSome_iff_exists.mp q
theorem pT {CX:CXT} {P:Program} {w:World} {K:PySem.W.Frag} {mg:Str→Option Value} {base:Heap} {N ps:List Str} {qual:Str} {scope:Scope} {f:Addr} {cd:Value} {A:Around} {outer:List Env} {s s1:Shared} {H:Hp} {E:XK} {us:List Value} {vs:List V}
  (S:FnScope N ps scope) (hd:A.handled=none) (e0:Env0 P w K mg base A outer s H) (hl:vs.length=ps.length) (r:aE vs us)
  (x:InCallC s s.heap.objs.size (bindL (envOfC qual scope s.heap.objs.size f cd).kindOf (ps.zip us) λ_=>none) (cellsFrom (s.heap.objs.size+1) scope.names []) (bindC (envOfC qual scope s.heap.objs.size f cd).kindOf (ps.zip us) λ_=>none) s1) :
  Inv (eR CX P w K mg base N qual scope f cd A outer s H E) [] (start N vs) H s1:=by
 have hpl:ps.length≤N.length:=by have:=congrArg List.length S.pre; rw [List.length_take] at this; omega
 obtain ⟨h1,tk,rfl,hk⟩:=x.done
 have noA:∀ b:Addr,b∉(eR CX P w K mg base N qual scope f cd A outer s H E).ex:=λb z=>absurd (show b∈([]:List Addr) from z) (by simp)
 refine ⟨⟨e0.mod,S.kind,rfl,rfl,Nat.le_refl _,λy z c h1 h2=>?_,λy hy=>?_,λy c _ h=>?_,λ_=>hd,Around.frames_deeper e0.frames,.inr ⟨rfl,rfl⟩,λb z=>absurd z (noA b),e0.bs,e0.bsz,λb _ _=>noA b,λb z=>absurd z (noA b),e0.funs,e0.frf⟩,
  rfl,e0.bare,Un.kept hk,⟨_,x.toInCall.ns,λi y v h1 h2 h3=>?_⟩,λy c h=>⟨_,x.cell y c h⟩,e0.hok.fresh (Nat.le_refl _),λy c h=>?_,λp hp=>absurd (show p∈([]:List (Addr×Obj)) from hp) (by simp),e0.hok.kept hk,?_⟩
 ·exact name_of_addr x.apart (PySem.mem_of_lookup h1) (PySem.mem_of_lookup h2)
 ·have hy:scope.names.lookup y=some .cell∨scope.names.lookup y=some .free:=hy
  rcases hy with hy | hy
  ·exact lO hy
  ·exact absurd rfl (S.nofree _ (PySem.mem_of_lookup hy))
 ·exact Nat.le_of_lt (x.above y c (PySem.mem_of_lookup h))
 ·have hi:i<vs.length:=by
   unfold start at h2
   by_cases hi:i<vs.length
   ·exact hi
   ·rw [List.getElem?_append_right (by simpa using hi)] at h2
    rw [List.getElem?_replicate] at h2
    split at h2 <;> cases h2
  have ha:vs[i]? = some v:=by
   unfold start at h2
   rw [List.getElem?_append_left (by simpa using hi),List.getElem?_map] at h2
   cases e:vs[i]? with
   | none=>rw [e] at h2; cases h2
   | some a=>rw [e] at h2; cases h2; rfl
  obtain ⟨u,hu,rv⟩:=r.get ha
  have hp:ps[i]? = some y:=by
   rw [← S.pre,List.getElem?_take_of_lt (by omega)]; exact h1
  have ndP:ps.Nodup:=by rw [← S.pre]; exact S.nd.sublist (List.take_sublist _ _)
  refine ⟨u,rv,?_⟩
  rcases S.par y (List.mem_of_getElem? hp) with k | k
  ·exact .inl ⟨k,jA ndP hp hu k⟩
  ·obtain ⟨c,e⟩:=lO (n:=s.heap.objs.size+1) k
   refine .inr ⟨.inl k,c,e,?_⟩
   have q:=x.cell y c e
   rw [jB ndP hp hu (by show scope.names.lookup y≠_; rw [k]; decide)] at q
   exact q
 ·exact e0.hok.fresh (Nat.le_of_lt (x.above y c (PySem.mem_of_lookup h)))
 ·unfold start
  show _=N.length
  rw [List.length_append,List.length_map,List.length_replicate]
  omega
theorem vm {CX:CXT} {P:Program} {w:World} {K:PySem.W.Frag} {mg:Str→Option Value} {base:Heap} {k:Nat} {f:Addr} {name qual:Str} {params:Arguments} {body:List Stmt} {scope:Scope} {dV kV doc pm cdv ct oc:Value} {an od:Option Addr}
  {osl:Array (Option Value)} {N ps:List Str} {sp:Sp} (lk:K.lookup f=some ⟨oc,od,.func (PySem.W.fnOf name qual params body scope dV kV doc pm an cdv ct),osl⟩) (hcd:PySem.W.codeIn K cdv qual=true) (S:FnScope N ps scope)
  (len:∀ vs H Q E,sp vs H Q E→vs.length=ps.length)
  (hbody:∀ (A:Around) (outer:List Env) (s:Shared) (H:Hp) (vs:List V) (Q:VK) (E:XK),Room k (A.deeper (envOfC qual scope s.heap.objs.size f cdv))→sp vs H Q E →
   ∃ t,PSs (eR CX P w K mg base N qual scope f cdv A outer s H E) body t∧t { nx:=λ_ H'=>Q .non H',rt:=Q } (start N vs) H) :
  FnOk P w K mg base CX (k+1) f (PySem.W.fnOf name qual params body scope dV kV doc pm an cdv ct) ps sp:=by
 refine ⟨len,λA outer s H args us vs Q E hr e0 hb r hsp=>?_⟩
 have hl:=len _ _ _ _ hsp
 have KX:K.In s.heap:=e0.mod.kin.keeps λb o e=>(e0.bs b o e).1
 have lim:s.heap.NoLimit:=e0.mod.nolimit.keeps λb o e=>(e0.bs b o e).1
 have hkind:∀ y∈ps.zip us,scope.names.lookup y.1=some .local∨(scope.names.lookup y.1=some .cell∧((cellsFrom (s.heap.objs.size+1) scope.names []).lookup y.1).isSome=true):=λ⟨n,v⟩ hy=>by
  rcases S.par n (List.of_mem_zip hy).1 with q | q
  ·exact .inl q
  ·exact .inr ⟨q,PySem.W.cellsFrom_some _ _ _ (.inl q)⟩
 refine codeAny_call_function hr.depth (KX _ _ lk) rfl S.co S.gen rfl (PySem.W.codeRec_of KX hcd) (hb _ _ _ _ ?_)
 refine wpAny_newFunctionEnv_cells S.kind hkind λenv he s1 x=>?_
 subst he
 refine ⟨lim.keeps x.toInCall.keep,codeAny_func ?_⟩
 obtain ⟨t,ht,hq⟩:=hbody A outer s H vs Q E (hr.deeper _) hsp
 have I:Inv (eR CX P w K mg base N qual scope f cdv A outer s H E) [] (start N vs) H s1:=pT S hr.hd e0 hl r x
 refine wpAny_mono (ht [] s1 (start N vs) H _ I hq) (λfl s' hs=>?_) λe s' hs=>hs
 have fin:∀ {σ':St} {H':Hp} {v:V} {u:Value},Inv (eR CX P w K mg base N qual scope f cdv A outer s H E) [] σ' H' s'→aL v u→Q v H'→CE outer P w H s Q u s' :=
  λ{σ' H' v u} J rv q=>⟨v,H',J.os,J.bare,J.base,J.hok,rv,q⟩
 cases fl with
 | ret u =>
  obtain ⟨v,σ',H',J,rv,q⟩:=hs
  exact fin J rv q
 | next =>
  obtain ⟨σ',H',J,q⟩:=hs
  exact fin (v:=V.non) (u:=Value.none) J rfl q
 | brk =>
  obtain ⟨_,_,_,q⟩:=hs
  exact False.elim q
 | cont =>
  obtain ⟨_,_,_,q⟩:=hs
  exact False.elim q
section
variable {X:Cx} {x:Str} {p pos:Pos} {e:Expr} {es:List Expr} {t:TA} {id T:String} {r:List V→Hp→VK→Prop}
noncomputable def tCB (r:List V→Hp→VK→Prop) (t:TA):TE:=λσ H Q=>t σ H λvs H1=>r vs H1 Q
theorem aF (hc:cA X (.builtin id) r) (hg:Gl X x) (hm:X.mg x=none) (hv:bootBuiltins x=some (.builtin id)) (ha:PA X (e :: es) t) (hn:x≠"__name__":=by decide) (hdb:(x == ("__debug__":Str))=false:=by decide)
  (he:starEach (e :: es) X.env=(false,eval e X.env) :: starEach es X.env:=by rfl) (hpl:(backTo pos (starEach es X.env)).any (·.1)=false:=by rfl):PE X (.Call (.Name x p) (e :: es) [] pos) (tCB r t):=by
 intro pins s σ H Q I h
 refine wpAny_Call_Name_kw (ik I hg hm hv ?_ hn hdb)
 exact PyProof.Rows.callWith_builtin1 (thn (ha pos pins s σ H _ I h) λus s1 ⟨vs,H1,I1,r1,q1⟩=>hc pins s1 σ H1 vs us Q I1 r1 q1) he hpl
theorem aZ (hc:cA X (.type T) r) (hg:Gl X x) (hm:X.mg x=none) (hv:bootBuiltins x=some (.type T)) (ha:PA X (e :: es) t) (hn:x≠"__name__":=by decide) (hdb:(x == ("__debug__":Str))=false:=by decide)
  (he:starEach (e :: es) X.env=(false,eval e X.env) :: starEach es X.env:=by rfl) (hpl:(backTo pos (starEach es X.env)).any (·.1)=false:=by rfl):PE X (.Call (.Name x p) (e :: es) [] pos) (tCB r t):=by
 intro pins s σ H Q I h
 refine wpAny_Call_Name_kw (ik I hg hm hv ?_ hn hdb)
 exact PyProof.Rows.callWith_type1 (thn (ha pos pins s σ H _ I h) λus s1 ⟨vs,H1,I1,r1,q1⟩=>hc pins s1 σ H1 vs us Q I1 r1 q1) he hpl
end
end L2
namespace HT
open PySem PyProof.Rows
section
open PySem.SeqAt
open PySem.AutoSeq1 (wpAny_loadPart')
open PySem.MeetsSeq PySem.MeetsSeq2 PySem.MeetsSeq3
end
section
variable {prog:Program} {w:World} {A:Around} {E:Value→Shared→Prop} {s:Shared}
theorem tP {t b:Addr} {vs ws:List Value} {Q:Value→Shared→Prop} (ht:IsTup s.heap t vs.toArray) (hb:IsTup s.heap b ws.toArray) (hv:vs≠[])
  (h1:ws=[]→Q (.ref t) s) (h2:ws≠[]→Q (.ref s.heap.objs.size) { s with heap:=s.heap.push { cls:=.type "tuple",data:=.seq (vs++ws).toArray } })
  (hsz:vs.length+ws.length≤sizeLine):wpAny (model prog w) A (binaryOp .Add (.ref t) (.ref b)) Q E s:=by
 obtain ⟨⟨cls,dd,data,sl⟩,ho,hc,n,hd⟩:=id ht
 obtain ⟨⟨cls2,dd2,data2,sl2⟩,ho2,hc2,n2,hd2⟩:=id hb
 simp only at hc hd hc2 hd2
 subst hc hd hc2 hd2
 have e:vs.toArray++ws.toArray=(vs++ws).toArray:=by simp
 by_cases hw:ws=[]
 ·exact concat_meets ⟨_,ho,rfl⟩ ⟨_,ho2,rfl⟩ noFill_tuple_add seq_tuple_add PySem.F.slot_tuple_add PySem.F.entry_tuple_add (PySem.F.args_tuple_add_2 _ _)
   (tuple_addW1 t b vs.toArray ws.toArray n n2 dd dd2 sl sl2 (by simpa using hv) (by simp [hw])) ⟨ho,ho2,h1 hw⟩
 ·refine concat_meets ⟨_,ho,rfl⟩ ⟨_,ho2,rfl⟩ noFill_tuple_add seq_tuple_add PySem.F.slot_tuple_add PySem.F.entry_tuple_add (PySem.F.args_tuple_add_2 _ _)
   (tuple_addW2 t b vs.toArray ws.toArray n n2 dd dd2 sl sl2 (by simpa using hv) (by simpa using hw) (by rw [List.size_toArray,List.size_toArray]; exact hsz)) ⟨ho,ho2,?_⟩
  rw [e]
  exact h2 hw
noncomputable def sIx (n d:Nat):Option Int→Nat
 | none=>d
 | some v=>if v<0 then (v+(n:Int)).toNat else min v.toNat n
theorem iy (n d:Nat):sIx n d none=d:=rfl
theorem gZ (n d k:Nat):sIx n d (some (k:Int))=min k n:=by
 show (if (k:Int)<0 then ((k:Int)+(n:Int)).toNat else min (k:Int).toNat n)=min k n
 rw [if_neg (by omega),Int.toNat_natCast]
theorem vQ (n d:Nat) (hd:d≤n) (o:Option Int):sIx n d o≤n:=by
 cases o with
 | none=>exact hd
 | some v =>
  show (if v<0 then (v+(n:Int)).toNat else min v.toNat n)≤n
  by_cases hv:v<0
  ·rw [if_pos hv]; omega
  ·rw [if_neg hv]; exact Nat.min_le_right _ _
theorem oI (v:Int) (n d:Nat):(if v<0 then max (v+(n:Int)) 0 else min v (n:Int))=((sIx n d (some v):Nat):Int):=by
 show (if v<0 then max (v+(n:Int)) 0 else min v (n:Int))=(((if v<0 then (v+(n:Int)).toNat else min v.toNat n):Nat):Int)
 by_cases hv:v<0
 ·simp only [if_pos hv]; omega
 ·simp only [if_neg hv]; omega
theorem nJ (lo hi:Option Int) (n:Nat):Builtin.Slice.sliceAdjust lo hi 1 (n:Int)=(((sIx n 0 lo:Nat):Int),((sIx n n hi:Nat):Int)):=by
 have h1:¬ ((1:Int)<0):=by omega
 unfold Builtin.Slice.sliceAdjust
 simp only [h1,if_false]
 refine Prod.ext ?_ ?_
 ·cases lo with
  | none=>rfl
  | some v=>exact oI v n 0
 ·cases hi with
  | none=>rfl
  | some v=>exact oI v n n
theorem nK (i j:Nat):Builtin.Slice.slicePlaces (i:Int) (j:Int) 1=j - i:=by
 unfold Builtin.Slice.slicePlaces
 have h1:(1:Int) > 0:=by omega
 simp only [h1,if_true,Int.ediv_one]
 split <;> omega
theorem iz {v:Value} {o:Option Int} {Q:Option Int→Shared→Prop} (p:IsPart v o) (h:Q o s):wpAny (model prog w) A (Builtin.Slice.slicePartIndex v) Q E s:=by
 cases p with
 | none=>exact slicePart_none h
 | int i t=>exact slicePart_int h
theorem dy {sl:Addr} {vl vu:Value} {lo hi:Option Int} {n:Nat} {Q:Int×Int×Nat→Shared→Prop} (hs:s.heap.IsSliceOf sl vl vu .none) (pl:IsPart vl lo) (pu:IsPart vu hi)
  (h:Q (((sIx n 0 lo:Nat):Int),1,sIx n n hi - sIx n 0 lo) s):wpAny (model prog w) A (Builtin.Slice.sliceApplied (.ref sl) (pure (n:Int))) Q E s:=by
 obtain ⟨os,hos,hcs,hds⟩:=id hs
 unfold Builtin.Slice.sliceApplied Builtin.Slice.sliceFields
 refine wpAny_bind (wpAny_bind (wpAny_field hos hds (x:=vl) rfl (wpAny_bind (wpAny_field hos hds (x:=vu) rfl (wpAny_bind (wpAny_field hos hds (x:=.none) rfl (wpAny_pure ?_)))))))
 refine wpAny_bind (slicePart_none ?_)
 show wpAny _ _ (if ((1:Int) == 0)=true then _ else _) _ _ s
 rw [if_neg (by decide)]
 refine wpAny_bind (iz pl (wpAny_bind (iz pu (wpAny_bind (wpAny_pure ?_)))))
 show wpAny _ _ (match Builtin.Slice.sliceAdjust lo hi 1 (n:Int) with | (lo,hi)=>pure (lo,(1:Int),Builtin.Slice.slicePlaces lo hi 1)) _ _ s
 rw [nJ lo hi n]
 show wpAny _ _ (pure (((sIx n 0 lo:Nat):Int),(1:Int),Builtin.Slice.slicePlaces ((sIx n 0 lo:Nat):Int) ((sIx n n hi:Nat):Int) 1)) _ _ s
 rw [nK]
 exact wpAny_pure h
theorem rg (xs:Array Value) (i k:Nat):((List.range k).filterMap λ(m:Nat)=>xs[((i:Int)+(m:Int) * 1).toNat]?).toArray=((xs.toList.drop i).take k).toArray:=by
 have e:(λ(m:Nat)=>xs[((i:Int)+(m:Int) * 1).toNat]?)=λm=>xs[i+m]?:=by
  funext m
  have:((i:Int)+(m:Int) * 1).toNat=i+m:=by omega
  rw [this]
 rw [e]
 have:=pick_run xs i k
 rw [List.filterMap_map] at this
 have e2:((λx=>xs[x]?) ∘ λx=>i+x)=λm=>xs[i+m]?:=rfl
 rw [e2] at this
 rw [this]
theorem fw {t sl:Addr} {items:Array Value} {vl vu:Value} {lo hi:Option Int} {Q:Value→Shared→Prop} (ht:IsTup s.heap t items) (hs:s.heap.IsSliceOf sl vl vu .none) (pl:IsPart vl lo) (pu:IsPart vu hi)
  (hw:¬ (sIx items.size 0 lo=0∧sIx items.size items.size hi=items.size))
  (h:Q (.ref s.heap.objs.size) { s with heap:=s.heap.push { cls:=.type "tuple",data:=.seq ((items.toList.drop (sIx items.size 0 lo)).take (sIx items.size items.size hi - sIx items.size 0 lo)).toArray } })
  (hsz:items.size≤sizeLine):wpAny (model prog w) A (getItem (.ref t) (.ref sl)) Q E s:=by
 have htake:sizeOk (.seq ((items.toList.drop (sIx items.size 0 lo)).take (sIx items.size items.size hi - sIx items.size 0 lo)).toArray):=by
  show ((items.toList.drop (sIx items.size 0 lo)).take (sIx items.size items.size hi - sIx items.size 0 lo)).toArray.size≤sizeLine
  rw [List.size_toArray,List.length_take,List.length_drop,Array.length_toList]
  omega
 have hj:sIx items.size items.size hi≤items.size:=vQ _ _ (Nat.le_refl _) hi
 obtain ⟨os,hos,hcs,hds⟩:=id hs
 have hTs:s.TypeIs (.ref sl) "slice":=⟨os,hos,hcs⟩
 unfold getItem
 try with_reducible refine wpAny_holding ?_
 first | refine wpAny_bind (wpAny_pure ?_) | skip
 refine wpAny_bind (wpAny_sequenceKey ht.typeIs (by decide) ?_)
 refine wpAny_bind (wpAny_callSpecial?_slot (name:=Str.ofString "__getitem__") ht.typeIs PyProof.Rows.slot_tuple_getitem
  (wpAny_call_entry PyProof.Rows.slot_tuple_getitem ht.typeIs entry_tuple_getitem ?_ (args_tuple_getitem _ _)))
 show wpAny _ _ (Builtin.Tuple.tupleItemsOf (.ref t) >>= _) _ _ s
 refine wpAny_bind (tupleItemsOf_ ht ?_)
 refine wpAny_bind (wpAny_typeOf hTs ?_)
 rw [if_pos (by decide)]
 refine wpAny_bind (dy hs pl pu ?_)
 have hno:¬ ((((sIx items.size 0 lo:Nat):Int) == 0 && (1:Int) == 1 && (sIx items.size items.size hi - sIx items.size 0 lo) == items.size)=true):=by
  intro q
  rw [Bool.and_eq_true,Bool.and_eq_true] at q
  have q1:((sIx items.size 0 lo:Nat):Int)=0:=eq_of_beq q.1.1
  have q2:sIx items.size items.size hi - sIx items.size 0 lo=items.size:=eq_of_beq q.2
  exact hw ⟨by omega,by omega⟩
 show wpAny _ _ (if (((sIx items.size 0 lo:Nat):Int) == 0 && (1:Int) == 1 && (sIx items.size items.size hi - sIx items.size 0 lo) == items.size)=true then _ else _) _ _ s
 rw [if_neg hno,rg]
 first
  | exact wpAny_bind (m:=Builtin.Tuple.tupleExact _) (wpAny_newObj_type (wpAny_pure ⟨_,rfl,wpAny_pure h⟩) htake)
  | exact wpAny_bind (m:=Builtin.Tuple.tupleExact _) (wpAny_newObj_type (wpAny_bind (wpAny_pure (wpAny_pure ⟨_,rfl,wpAny_pure h⟩))) htake)
  | exact wpAny_bind (wpAny_bind (m:=Builtin.Tuple.tupleExact _) (wpAny_newObj_type (wpAny_pure (wpAny_pure ⟨_,rfl,wpAny_pure h⟩)) htake))
  | exact wpAny_bind (wpAny_bind (m:=Builtin.Tuple.tupleExact _) (wpAny_newObj_type (wpAny_pure ⟨_,rfl,wpAny_pure h⟩) htake))
end
end HT
namespace L2
open PySem PySem.Spec PyProof.Rows
noncomputable abbrev TO:=St→Hp→(Option Int→Hp→Prop)→Prop
noncomputable def PO (X:Cx) (e:Option Expr) (t:TO):Prop :=
 ∀ (pins:List (Addr×Obj)) (s:Shared) (σ:St) (H:Hp) (Q:Option Int→Hp→Prop),Inv X pins σ H s→t σ H Q →
  wpAny (model X.prog X.w) X.A (evalPart e X.env) (λu s'=>∃ o H',Inv X pins σ H' s'∧IsPart u o∧Q o H') X.xe s
noncomputable def tQ:TO:=λ_ H Q=>Q none H
noncomputable def xw (t:TE):TO:=λσ H Q=>t σ H λx H1=>∃ i,x = .int i∧Q (some i) H1
theorem nL {ns:List Int}:∀ {us:List Value},aE (ns.map V.int) us→IntsAre us ns:=by
 induction ns with
 | nil=>intro us r; rw [List.map_nil] at r; cases r; exact .nil
 | cons n ns ih =>
  intro us r
  rw [List.map_cons] at r
  cases r with
  | cons r1 r2 =>
   obtain ⟨t,e⟩:=r1
   subst e
   exact .cons n t (ih r2)
section
variable {X:Cx} {e:Expr} {te:TE} {lo hi:Option Expr} {tl th:TO} {pos p2:Pos}
theorem dI:PO X none tQ:=by
 intro pins s σ H Q I h
 rw [evalPart_none]
 exact wpAny_pure ⟨none,H,I,.none,h⟩
theorem ci (h:PE X e te):PO X (some e) (xw te):=by
 intro pins s σ H Q I hw
 rw [evalPart_some]
 refine thn (h pins s σ H _ I hw) λu s1 hpt=>?_
 obtain ⟨x,H1,I1,r1,q1⟩:=hpt
 obtain ⟨i,rfl,q⟩:=q1
 obtain ⟨t,rfl⟩:=r1
 exact ⟨some i,H1,I1,.int i t,q⟩
noncomputable def SlR (X:Cx) (r:V→Option Int→Option Int→Hp→VK→Prop):Prop :=
 ∀ (pins:List (Addr×Obj)) (s:Shared) (σ:St) (H:Hp) (x:V) (v vl vu:Value) (lo hi:Option Int) (sl:Addr) (Q:VK),Inv X pins σ H s→aL x v→s.heap.IsSliceOf sl vl vu .none→IsPart vl lo→IsPart vu hi→r x lo hi H Q →
  ∃ T id,typeLookup (.type T) "__getitem__" = pure (some (.builtin id))∧s.TypeIs v T∧wpAny (model X.prog X.w) X.A (getItem v (.ref sl)) (EP X pins σ Q) X.xe s
theorem SlR.or {r r':V→Option Int→Option Int→Hp→VK→Prop} (h:SlR X r) (h':SlR X r'):SlR X (λx lo hi H Q=>r x lo hi H Q∨r' x lo hi H Q):=by
 intro pins s σ H x v vl vu lo hi sl Q I rx hs pl pu q
 rcases q with q | q
 ·exact h pins s σ H x v vl vu lo hi sl Q I rx hs pl pu q
 ·exact h' pins s σ H x v vl vu lo hi sl Q I rx hs pl pu q
noncomputable def tSl (r:V→Option Int→Option Int→Hp→VK→Prop) (te:TE) (tl th:TO):TE:=λσ H Q=>te σ H λx H1=>tl σ H1 λl H2=>th σ H2 λu H3=>r x l u H3 Q
theorem cn {r:V→Option Int→Option Int→Hp→VK→Prop} (hr:SlR X r) (he:PE X e te) (hl:PO X lo tl) (hu:PO X hi th):PE X (.Subscript e (.Slice lo hi none p2) pos) (tSl r te tl th):=by
 intro pins s σ H Q I h
 refine Subscript_ (thn (he pins s σ H _ I h) λv s1 hpt=>?_)
 obtain ⟨x,H1,I1,r1,q1⟩:=hpt
 refine wpAny_Slice (thn (hl pins s1 σ H1 _ I1 q1) λvl s2 ⟨l,H2,I2,pl,q2⟩=>thn (hu pins s2 σ H2 _ I2 q2) λvu s3 hpt=>?_)
 obtain ⟨u,H3,I3,pu,q3⟩:=hpt
 rw [evalPart_none]
 refine wpAny_pure ?_
 have I4:Inv X pins σ H3 { s3 with heap:=s3.heap.push { cls:=.type "slice",data:=.fields #[vl,vu,.none] } }:=I3.kept (t':=s3.toks) λb ob q=>Heap.get?_push_of_some _ q
 obtain ⟨T,id,hT,ht,hg⟩:=hr pins { s3 with heap:=s3.heap.push { cls:=.type "slice",data:=.fields #[vl,vu,.none] } } σ H3 x v vl vu l u s3.heap.objs.size Q I4 r1 (Heap.IsSliceOf.new ..) pl pu q3
 show wpAny (model X.prog X.w) X.A (subscriptTail e (.Slice lo hi none p2) v (.ref s3.heap.objs.size)) (EP X pins σ Q) X.xe { s3 with heap:=s3.heap.push { cls:=.type "slice",data:=.fields #[vl,vu,.none] } }
 exact tail_any (ops:=[.ref s3.heap.objs.size,v]) ht hT hg (by with_unfolding_all rfl)
noncomputable def cv (xs:List V) (lo hi:Option Int):List V:=(xs.drop (HT.sIx xs.length 0 lo)).take (HT.sIx xs.length xs.length hi - HT.sIx xs.length 0 lo)
theorem gQ (xs:List V) (lo hi:Option Int):(cv xs lo hi).length≤xs.length:=by
 unfold cv
 rw [List.length_take,List.length_drop]
 omega
noncomputable def rh (K:PySem.W.Frag):V→Option Int→Option Int→Hp→VK→Prop:=λx lo hi H Q=>∃ a xs,x = .ref a∧SqT K H a xs ∧
 ¬ (HT.sIx xs.length 0 lo=0∧HT.sIx xs.length xs.length hi=xs.length)∧∀ p,H p=none→Q (.ref p) (upd H p (.tup (cv xs lo hi)))
theorem eC:SlR X (rh X.K):=by
 intro pins s σ H x v vl vu lo hi sl Q I rx hs pl pu h
 obtain ⟨a,xs,rfl,hx,hw,q⟩:=h
 cases rx
 obtain ⟨its,r,ht,hz⟩:=I.tuple hx
 have hlen:its.toArray.size=xs.length:=by rw [List.size_toArray]; exact r.length.symm
 refine ⟨"tuple",_,PyProof.Rows.slot_tuple_getitem.lookup,ht.typeIs,?_⟩
 refine HT.fw ht hs pl pu (by rw [hlen]; exact hw) ?_ (by rw [hlen]; exact hz)
 rw [hlen]
 refine ⟨.ref s.heap.objs.size,_,I.laid (t':=s.toks) (o:=.tup (cv xs lo hi)) (λb ob q=>Heap.get?_push_of_some _ q) (Nat.le_refl _) ?_,rfl,q _ (I.hok.fresh (Nat.le_refl _))⟩
 exact ⟨Nat.le_trans (gQ xs lo hi) hz,_,(r.drop (HT.sIx xs.length 0 lo)).take (HT.sIx xs.length xs.length hi - HT.sIx xs.length 0 lo),IsTup.new _ _⟩
noncomputable def ri (K:PySem.W.Frag):R2:=λx y H Q=>∃ a b xs ys,x = .ref a∧y = .ref b∧SqT K H a xs∧SqT K H b ys∧xs≠[]∧xs.length+ys.length≤sizeLine ∧
 (ys=[]→Q (.ref a) H)∧(ys≠[]→∀ p,H p=none→Q (.ref p) (upd H p (.tup (xs++ys))))
theorem aE.nil_iff {xs:List V} {us:List Value} (r:aE xs us):us=[]↔xs=[]:=by
 cases r with
 | nil=>simp
 | cons _ _=>simp
theorem fz:OpR X (binaryOp .Add) (ri X.K):=by
 intro pins s σ H x y v u Q I rx ry h
 obtain ⟨a,b,xs,ys,rfl,rfl,ha,hb,hx,hz,q1,q2⟩:=h
 cases rx
 cases ry
 obtain ⟨its,r1,p1,_⟩:=I.tuple ha
 obtain ⟨its2,r2,p2,_⟩:=I.tuple hb
 refine HT.tP p1 p2 (λz=>hx (r1.nil_iff.mp z)) (λz=>⟨.ref a,H,I,rfl,q1 (r2.nil_iff.mp z)⟩) (λz=>?_) (by rw [← r1.length,← r2.length]; exact hz)
 refine ⟨.ref s.heap.objs.size,_,I.laid (t':=s.toks) (o:=.tup (xs++ys)) (λb ob q=>Heap.get?_push_of_some _ q) (Nat.le_refl _) ?_,rfl,q2 (λw=>z (r2.nil_iff.mpr w)) _ (I.hok.fresh (Nat.le_refl _))⟩
 exact ⟨by rw [List.length_append]; exact hz,_,r1.append r2,IsTup.new _ _⟩
end
noncomputable def ixN (n:Nat) (i:Int):Option Nat:=if 0≤i then (if i<n then some i.toNat else none) else if -(n:Int)≤i then some (i+n).toNat else none
noncomputable def atI {α:Type} (xs:List α) (i:Int):Option α:=(ixN xs.length i).bind λj=>xs[j]?
theorem oJ {n:Nat} {i:Int} {j:Nat} (h:ixN n i=some j):seqIndex? i n=some j∧j<n∧-(n:Int)≤i∧i<n:=by
 unfold ixN at h
 by_cases h0:0≤i
 ·rw [if_pos h0] at h
  by_cases h1:i<n
  ·rw [if_pos h1] at h
   have e:i.toNat=j:=Option.some.inj h
   exact ⟨by rw [seqIndex_of h0 h1,e],by omega,by omega,h1⟩
  ·rw [if_neg h1] at h; cases h
 ·rw [if_neg h0] at h
  by_cases h1:-(n:Int)≤i
  ·rw [if_pos h1] at h
   have e:(i+n).toNat=j:=Option.some.inj h
   exact ⟨by rw [seqIndex_neg (by omega) h1,e],by omega,h1,by omega⟩
  ·rw [if_neg h1] at h; cases h
theorem oK {α:Type} {xs:List α} {i:Int} {v:α} (h:atI xs i=some v):∃ j,seqIndex? i xs.length=some j∧xs[j]? = some v∧j<xs.length∧-(xs.length:Int)≤i∧i<xs.length:=by
 unfold atI at h
 cases e:ixN xs.length i with
 | none=>rw [e] at h; cases h
 | some j =>
  rw [e] at h
  obtain ⟨h1,h2,h3,h4⟩:=oJ e
  exact ⟨j,h1,h,h2,h3,h4⟩
theorem oM {α:Type} {xs:List α} {j:Nat} {v:α} (h:xs[j]? = some v):atI xs (j:Int)=some v:=by
 have hj:j<xs.length:=(List.getElem?_eq_some_iff.mp h).1
 have e:ixN xs.length (j:Int)=some j:=by
  unfold ixN
  rw [if_pos (by omega),if_pos (by omega)]; simp
 unfold atI; rw [e]; exact h
noncomputable def tR (b:Expr):Prop:=∀ o i,subscripted b false o i=operate [o,i] (getItem o i)
noncomputable def IxR (X:Cx) (r:R2):Prop :=
 ∀ (value slice:Expr) (pins:List (Addr×Obj)) (s:Shared) (σ:St) (H:Hp) (x y:V) (v u:Value) (Q:VK),Inv X pins σ H s→aL x v→aL y u→r x y H Q →
  subscripted slice false v u=operate [v,u] (getItem v u)→wpAny (model X.prog X.w) X.A (subscriptTail value slice v u) (EP X pins σ Q) X.xe s
noncomputable def MtR (X:Cx) (id:String) (r:V→List V→Hp→VK→Prop):Prop :=
 ∀ (pins:List (Addr×Obj)) (s:Shared) (σ:St) (H:Hp) (x:V) (xs:List V) (v:Value) (us:List Value) (Q:VK),Inv X pins σ H s→aL x v→aE xs us→r x xs H Q →
  wpAny (model X.prog X.w) X.A (call (.builtin id) (v :: us)) (EP X pins σ Q) X.xe s
section
variable {X:Cx} {a b:Expr} {ta tb:TE} {pos:Pos}
theorem aH {r:R2} (hr:IxR X r) (ha:PE X a ta) (hb:PE X b tb) (hs:tR b):PE X (.Subscript a b pos) (tOp r ta tb):=by
 intro pins s σ H Q I h
 exact Subscript_ (vL ha hb I h λv u s2 x y H2 I2 rx ry q=>hr a b pins s2 σ H2 x y v u Q I2 rx ry q (hs _ _))
noncomputable def xy (K:PySem.W.Frag):R2:=λx y H Q=>∃ p xs i v,x = .ref p∧y = .int i∧SqL K H p xs∧atI xs i=some v∧Q v H
noncomputable def dq (K:PySem.W.Frag):R2:=λx y H Q=>∃ p xs i v,x = .ref p∧y = .int i∧SqT K H p xs∧atI xs i=some v∧Q v H
theorem cq:IxR X (xy X.K):=by
 intro value slice pins s σ H x y v u Q I rx ry h hs
 obtain ⟨p,xs,i,z,rfl,rfl,hq,he,q⟩:=h
 cases rx
 obtain ⟨t,rfl⟩:=ry
 obtain ⟨its,r,pl,hz⟩:=I.list hq
 obtain ⟨j,h1,h2,h3,h4,h5⟩:=oK he
 obtain ⟨w,ew,rw'⟩:=r.get h2
 have hl:=r.length
 have hn:=iw
 have fin:EP X pins σ Q w s:=⟨z,H,I,rw',q⟩
 by_cases h0:0≤i
 ·have hj:i.toNat=j:=by
   rw [seqIndex_of h0 h5] at h1
   exact Option.some.inj h1
  exact item_listR pl.isList h0 (by omega) (by rw [hj]; simpa using ew) fin hs
 ·have hj:(i+(its.toArray.size:Int)).toNat=j:=by
   rw [seqIndex_neg (by omega) h4] at h1
   rw [List.size_toArray,← hl]
   exact Option.some.inj h1
  exact subscriptTail_builtinR (x:=w) pl.isList.typeIs slot_list_getitem.lookup
   (wpAny_getItem_list_neg (Q:=λr s'=>r=w∧EP X pins σ Q r s') pl.isList (by omega) (by rw [List.size_toArray] <;> omega) (by omega) (by rw [hj]; simpa using ew) ⟨rfl,fin⟩) hs
theorem aC:IxR X (dq X.K):=by
 intro value slice pins s σ H x y v u Q I rx ry h hs
 obtain ⟨p,xs,i,z,rfl,rfl,hq,he,q⟩:=h
 cases rx
 obtain ⟨t,rfl⟩:=ry
 obtain ⟨its,r,pl,hz⟩:=I.tuple hq
 obtain ⟨j,h1,h2,h3,h4,h5⟩:=oK he
 obtain ⟨w,ew,rw'⟩:=r.get h2
 have hl:=r.length
 have hn:=iw
 have fin:EP X pins σ Q w s:=⟨z,H,I,rw',q⟩
 exact subscriptTail_builtinR (x:=w) pl.typeIs slot_tuple_getitem.lookup
  (getItem_tuple (j:=j) (Q:=λr s'=>r=w∧EP X pins σ Q r s') pl (by omega) (by omega) (by rw [List.size_toArray,← hl]; exact h1) (by simpa using ew) ⟨rfl,fin⟩) hs
theorem kx (lo hi:Option Int) (n:Nat):(sliceBounds lo hi none n).1=((HT.sIx n 0 lo:Nat):Int)∧(sliceBounds lo hi none n).2.1=((HT.sIx n n hi:Nat):Int)∧(sliceBounds lo hi none n).2.2=1:=by
 refine ⟨?_,?_,rfl⟩
 ·cases lo with
  | none=>simp [sliceBounds,HT.sIx]
  | some i =>
   simp only [sliceBounds,HT.sIx,Option.getD_none,show (1:Int) > 0 by decide,if_true]
   by_cases h:i<0
   ·simp only [h,if_true] <;> omega
   ·simp only [h,if_false] <;> omega
 ·cases hi with
  | none=>simp [sliceBounds,HT.sIx]
  | some i =>
   simp only [sliceBounds,HT.sIx,Option.getD_none,show (1:Int) > 0 by decide,if_true]
   by_cases h:i<0
   ·simp only [h,if_true] <;> omega
   ·simp only [h,if_false] <;> omega
theorem jm (its:List Value) (lo hi:Option Int):slicePick its.toArray lo hi none=((its.drop (HT.sIx its.length 0 lo)).take (HT.sIx its.length its.length hi - HT.sIx its.length 0 lo)).toArray:=by
 obtain ⟨h1,h2,h3⟩:=kx lo hi its.toArray.size
 unfold slicePick
 rw [h1,h2,h3]
 simp only [sliceRange_one,pick_run,List.size_toArray] <;> rfl
noncomputable def yj (K:PySem.W.Frag):V→Option Int→Option Int→Hp→VK→Prop:=λx lo hi H Q=>∃ a xs,x = .ref a∧SqL K H a xs∧∀ p,H p=none→Q (.ref p) (upd H p (.lst (cv xs lo hi)))
theorem oN:SlR X (yj X.K):=by
 intro pins s σ H x v vl vu lo hi sl Q I rx hs pl pu h
 obtain ⟨a,xs,rfl,hx,q⟩:=h
 cases rx
 obtain ⟨its,r,ht,hz⟩:=I.list hx
 have hlen:=r.length
 refine ⟨"list",_,slot_list_getitem.lookup,ht.isList.typeIs,?_⟩
 refine wpAny_getItem_list_slice ht.isList hs pl pu .none (by simp) ?_ (by rw [List.size_toArray] <;> omega)
 rw [jm,← hlen]
 refine ⟨.ref s.heap.objs.size,_,I.laid (t':=s.toks) (o:=.lst (cv xs lo hi)) (λb ob q=>Heap.get?_push_of_some _ q) (Nat.le_refl _) ?_,rfl,q _ (I.hok.fresh (Nat.le_refl _))⟩
 exact ⟨Nat.le_trans (gQ xs lo hi) hz,_,0,(r.drop (HT.sIx xs.length 0 lo)).take (HT.sIx xs.length xs.length hi - HT.sIx xs.length 0 lo),Heap.get?_push_size _ rfl⟩
noncomputable def cP:V→Bool
 | .non=>true
 | .bl _=>true
 | .int _=>true
 | .str _=>true
 | _=>false
noncomputable def eqV:V→V→Bool
 | .non,.non=>true
 | .bl a,.bl b=>a == b
 | .bl a,.int b=>(if a then 1 else 0) == b
 | .int a,.bl b=>a == (if b then 1 else 0)
 | .int a,.int b=>a == b
 | .str a,.str b=>a == b
 | _,_=>false
theorem iA {A:Around} {s:Shared} {y x:V} {u v:Value} (ry:aL y u) (rx:aL x v) (fy:cP y=true) (fx:cP x=true):SeqAt.EqAt A s u v (eqV y x):=by
 cases y with
 | non =>
  cases ry
  cases x with
  | non=>cases rx; exact SeqAt.EqAt.same _
  | bl b=>cases rx; exact SeqAt.EqAt.none_bool b
  | int b=>obtain ⟨t,rfl⟩:=rx; exact SeqAt.EqAt.none_int b t
  | str b=>obtain ⟨t,rfl⟩:=rx; exact SeqAt.EqAt.none_str b t
  | _=>exact absurd (show false=true from fx) Bool.false_ne_true
 | bl a =>
  cases ry
  cases x with
  | non=>cases rx; exact SeqAt.EqAt.bool_none a
  | bl b=>cases rx; exact SeqAt.EqAt.bool_bool a b
  | int b=>obtain ⟨t,rfl⟩:=rx; exact SeqAt.EqAt.bool_int a b t
  | str b=>obtain ⟨t,rfl⟩:=rx; exact SeqAt.EqAt.bool_str a b t
  | _=>exact absurd (show false=true from fx) Bool.false_ne_true
 | int a =>
  obtain ⟨t',rfl⟩:=ry
  cases x with
  | non=>cases rx; exact SeqAt.EqAt.int_none a t'
  | bl b=>cases rx; exact SeqAt.EqAt.int_bool a t' b
  | int b=>obtain ⟨t,rfl⟩:=rx; exact SeqAt.EqAt.int_int a t' b t
  | str b=>obtain ⟨t,rfl⟩:=rx; exact SeqAt.EqAt.int_str a t' b t
  | _=>exact absurd (show false=true from fx) Bool.false_ne_true
 | str a =>
  obtain ⟨t',rfl⟩:=ry
  cases x with
  | non=>cases rx; exact SeqAt.EqAt.str_none a t'
  | bl b=>cases rx; exact SeqAt.EqAt.str_bool a t' b
  | int b=>obtain ⟨t,rfl⟩:=rx; exact SeqAt.EqAt.str_int a t' b t
  | str b=>obtain ⟨t,rfl⟩:=rx; exact SeqAt.EqAt.str_str a t' b t
  | _=>exact absurd (show false=true from fx) Bool.false_ne_true
 | _=>exact absurd (show false=true from fy) Bool.false_ne_true
noncomputable def eqU (x:V) (u:Value):Bool:=match u with
 | .none=>eqV .non x
 | .bool b=>eqV (.bl b) x
 | .int i _=>eqV (.int i) x
 | .str z _=>eqV (.str z) x
 | _=>false
theorem rj {x y:V} {u:Value} (r:aL y u) (f:cP y=true):eqU x u=eqV y x:=by
 cases y with
 | non=>cases r; rfl
 | bl b=>cases r; rfl
 | int i=>obtain ⟨t,rfl⟩:=r; rfl
 | str z=>obtain ⟨t,rfl⟩:=r; rfl
 | _=>exact absurd (show false=true from f) Bool.false_ne_true
theorem fG {x:V}:∀ {xs:List V} {us:List Value},aE xs us→xs.all cP=true→us.any (eqU x)=xs.any λy=>eqV y x
 | _,_,.nil,_=>rfl
 | y :: xs,u :: us,.cons r t,f=>by
  rw [List.all_cons,Bool.and_eq_true] at f
  rw [List.any_cons,List.any_cons,rj r f.1,fG t f.2]
theorem eD {A:Around} {s:Shared} {x:V} {v:Value} (rx:aL x v) (fx:cP x=true):∀ {xs:List V} {us:List Value},aE xs us→xs.all cP=true→∀ u∈us,SeqAt.EqAt A s u v (eqU x u)
 | _,_,.nil,_=>λu hu=>by cases hu
 | y :: xs,u :: us,.cons r t,f=>λu' hu=>by
  rw [List.all_cons,Bool.and_eq_true] at f
  rcases List.mem_cons.mp hu with rfl | hu
  ·rw [rj r f.1]; exact iA r rx f.1 fx
  ·exact eD rx fx t f.2 u' hu
noncomputable def inV (x:V) (xs:List V):Bool:=xs.any λy=>eqV y x
noncomputable def rIn (K:PySem.W.Frag) (neg:Bool):R2:=λx y H Q=>∃ p xs,y = .ref p∧(SqL K H p xs∨SqT K H p xs)∧cP x=true∧xs.all cP=true∧Q (.bl (if neg then !inV x xs else inV x xs)) H
theorem jC:OpR X (compareOp .In) (rIn X.K false):=by
 intro pins s σ H x y v u Q I rx ry h
 obtain ⟨p,xs,rfl,hq,fx,fs,q⟩:=h
 cases ry
 rcases hq with hq | hq
 ·obtain ⟨its,r,pl,hz⟩:=I.list hq
  refine SeqAt.in_listAt (eqU x) pl.isList (λw hw=>eD rx fx r fs w (by simpa using hw)) ⟨.bl _,H,I,rfl,?_⟩
  rw [show its.toArray.any (eqU x)=its.any (eqU x) by simp,fG r fs]
  exact q
 ·obtain ⟨its,r,pl,hz⟩:=I.tuple hq
  refine SeqAt.in_tupleAt (eqU x) pl (λw hw=>eD rx fx r fs w (by simpa using hw)) ⟨.bl _,H,I,rfl,?_⟩
  rw [show its.toArray.any (eqU x)=its.any (eqU x) by simp,fG r fs]
  exact q
theorem ky:OpR X (compareOp .NotIn) (rIn X.K true):=by
 intro pins s σ H x y v u Q I rx ry h
 obtain ⟨p,xs,rfl,hq,fx,fs,q⟩:=h
 cases ry
 rcases hq with hq | hq
 ·obtain ⟨its,r,pl,hz⟩:=I.list hq
  refine SeqAt.notIn_listAt (eqU x) pl.isList (λw hw=>eD rx fx r fs w (by simpa using hw)) ⟨.bl _,H,I,rfl,?_⟩
  rw [show its.toArray.any (eqU x)=its.any (eqU x) by simp,fG r fs]
  exact q
 ·obtain ⟨its,r,pl,hz⟩:=I.tuple hq
  refine SeqAt.notIn_tupleAt (eqU x) pl (λw hw=>eD rx fx r fs w (by simpa using hw)) ⟨.bl _,H,I,rfl,?_⟩
  rw [show its.toArray.any (eqU x)=its.any (eqU x) by simp,fG r fs]
  exact q
theorem aX:cA X (.builtin "len") (λxs H Q=>∃ p ys,xs=[.ref p]∧(SqL X.K H p ys∨SqT X.K H p ys)∧Q (.int ys.length) H):=by
 intro pins s σ H xs us Q I r h
 obtain ⟨p,ys,rfl,hq,q⟩:=h
 obtain ⟨u,rfl,rx⟩:=dW r
 cases rx
 have hn:=iw
 rcases hq with hq | hq
 ·obtain ⟨its,r',pl,hz⟩:=I.list hq
  have hlen:=r'.length
  exact Calls.call_len_list pl.isList (by simp only [List.size_toArray] <;> omega) ⟨.int ys.length,H,I.tok _,⟨s.toks+1,by rw [List.size_toArray,hlen]⟩,q⟩
 ·obtain ⟨its,r',pl,hz⟩:=I.tuple hq
  have hlen:=r'.length
  exact len_tuple pl (by simp only [List.size_toArray] <;> omega) ⟨.int ys.length,H,I.tok _,⟨s.toks+1,by rw [List.size_toArray,hlen]⟩,q⟩
theorem kG:cA X (.builtin "len") (λxs H Q=>∃ z,xs=[.str z]∧z.length≤sizeLine∧Q (.int z.length) H):=by
 intro pins s σ H xs us Q I r h
 obtain ⟨z,rfl,hz,q⟩:=h
 obtain ⟨u,rfl,t,rfl⟩:=dW r
 have hn:=iw
 exact len_str (by omega) ⟨.int z.length,H,I.tok _,⟨_,rfl⟩,q⟩
theorem bq:cA X (.type "tuple") (λxs H Q=>∃ p ys,xs=[.ref p]∧((SqL X.K H p ys∧∀ l,H l=none→Q (.ref l) (upd H l (.tup ys)))∨(SqT X.K H p ys∧Q (.ref p) H))):=by
 intro pins s σ H xs us Q I r h
 obtain ⟨p,ys,rfl,h⟩:=h
 obtain ⟨u,rfl,rx⟩:=dW r
 cases rx
 rcases h with ⟨hq,q⟩ | ⟨hq,q⟩
 ·obtain ⟨its,r',pl,hz⟩:=I.list hq
  have hlen:=r'.length
  refine call_tuple_list pl.isList (λh' kp=>?_) (by simp only [List.size_toArray] <;> omega)
  have I1:Inv X pins σ H { s with heap:=h' }:=I.kept (t':=s.toks) kp
  have I2:Inv X pins σ (upd H h'.objs.size (.tup ys)) { s with heap:=h'.push { cls:=.type "tuple",data:=.seq its.toArray } } :=
   I1.laid (t':=s.toks) (λb o e=>Heap.get?_push_of_some _ e) (Nat.le_refl _) (show bv X.prog X.w _ _ _ (.tup ys) from ⟨hz,its,r',IsTup.new _ _⟩)
  exact ⟨.ref h'.objs.size,_,I2,rfl,q _ (I1.hok.fresh (Nat.le_refl _))⟩
 ·obtain ⟨its,r',pl,hz⟩:=I.tuple hq
  exact call_tuple_same pl ⟨.ref p,H,I,rfl,q⟩
noncomputable def tyV (K:PySem.W.Frag) (T:String) (x:V) (H:Hp):Prop:=match x with
 | .str _=>T="str"
 | .int _=>T="int"
 | .ref p=>(T="list"∧∃ xs,SqL K H p xs)∨(T="tuple"∧∃ o,K.lookup p=some o∧o.cls = .type "tuple"∧o.dict=none) ∨
   (T="dict"∧((∃ kvs,H p=some (.dK kvs))∨∃ kvs,H p=some (.dT kvs)))∨(T="set"∧∃ S n,H p=some (.set S n))
 | _=>False
theorem rk {pins:List (Addr×Obj)} {σ:St} {H:Hp} {s:Shared} {T:String} {x:V} {v:Value} (I:Inv X pins σ H s) (r:aL x v) (ty:tyV X.K T x H) :
  s.TypeIs v T∧∀ a,v = .ref a→∃ ob,s.heap.get? a=some ob∧ob.dict=none:=by
 cases x with
 | str z =>
  obtain ⟨t,rfl⟩:=r
  cases (show T="str" from ty)
  exact ⟨typeIs_str s z t,λ_ e=>nomatch e⟩
 | int i =>
  obtain ⟨t,rfl⟩:=r
  cases (show T="int" from ty)
  exact ⟨typeIs_int s i t,λ_ e=>nomatch e⟩
 | ref p =>
  cases r
  rcases ty with ⟨rfl,xs,hq⟩ | ⟨rfl,o,hk,hc,hd⟩ | ⟨rfl,hk⟩ | ⟨rfl,S,n,hk⟩
  ·obtain ⟨its,_,pl,_⟩:=I.list hq
   refine ⟨pl.isList.typeIs,λa e=>?_⟩
   cases e
   obtain ⟨o,n,e,c,hd,_⟩:=pl
   exact ⟨o,e,hd⟩
  ·refine ⟨⟨o,I.kIn p o hk,hc⟩,λa e=>?_⟩
   cases e
   exact ⟨o,I.kIn _ o hk,hd⟩
  ·have z:∃ o,s.heap.get? p=some o∧o.ExactDict:=by
    rcases hk with ⟨kvs,hk⟩ | ⟨kvs,hk⟩
    ·obtain ⟨_,_,_,_,o,_,_,e,ex,_⟩:=I.hok p _ hk
     exact ⟨o,e,ex⟩
    ·obtain ⟨_,_,_,_,o,_,_,e,ex,_⟩:=I.hok p _ hk
     exact ⟨o,e,ex⟩
   obtain ⟨o,e,ex⟩:=z
   refine ⟨⟨o,e,ex.1⟩,λa e2=>?_⟩
   cases e2
   exact ⟨o,e,ex.2.1⟩
  ·obtain ⟨o,_,_,_,e,ex,_⟩:=I.hok p _ hk
   refine ⟨⟨o,e,ex.1⟩,λa e2=>?_⟩
   cases e2
   exact ⟨o,e,ex.2.1⟩
 | _=>exact False.elim ty
noncomputable def yk (K:PySem.W.Frag) (T:String) (r:V→List V→Hp→VK→Prop) (to:TE):TE:=λσ H Q=>to σ H λx H1=>tyV K T x H1∧r x [] H1 Q
noncomputable def tBM (K:PySem.W.Frag) (T:String) (r:V→List V→Hp→VK→Prop) (to:TE) (t:TA):TE:=λσ H Q=>to σ H λx H1=>tyV K T x H1∧t σ H1 λxs H2=>r x xs H2 Q
variable {o e:Expr} {es:List Expr} {to:TE} {t:TA} {name:Str} {apos cpos:Pos} {T id:String} {r:V→List V→Hp→VK→Prop}
theorem vR (pa:PlainAttrs T) (slot:Slot T name id) (hty:typeOf (.builtin id)=pure (.type "method_descriptor")) (hm:MtR X id r) (ho:PE X o to)
  (hbase:attributeBase o name X.env (eval o X.env)=eval o X.env:=by rfl) (hline:(apos.endLine == cpos.line)=true:=by rfl):PE X (.Call (.Attribute o name apos) [] [] cpos) (yk X.K T r to):=by
 intro pins s σ H Q I h
 refine wpAny_Call_method0_late hbase hline (thn (ho pins s σ H _ I h) λv s1 hpt=>?_)
 obtain ⟨x,H1,I1,r1,ty,q1⟩:=hpt
 obtain ⟨h1,h2⟩:=rk I1 r1 ty
 exact ⟨T,id,pa,slot,hty,h1,h2,Calls.callWith_builtin rfl (PySem.evalArgs_none (hm pins s1 σ H1 x [] v [] Q I1 r1 .nil q1))⟩
theorem iB (pa:PlainAttrs T) (slot:Slot T name id) (hty:typeOf (.builtin id)=pure (.type "method_descriptor")) (hm:MtR X id r) (ho:PE X o to) (ha:PA X (e :: es) t)
  (hbase:attributeBase o name X.env (eval o X.env)=eval o X.env:=by rfl)
  (hfew:((backTo cpos (starEach (e :: es) X.env)).all (λx=>!x.1) && (backToKw cpos (keywordEach [] X.env)).all (λx=>x.1.isSome)
   && decide ((e :: es).length+([]:List Keyword).length+(if ([]:List Keyword).isEmpty then 0 else 1)<30))=true:=by rfl)
  (hline:(apos.endLine == cpos.line)=true:=by rfl) (hs:starEach (e :: es) X.env=(false,eval e X.env) :: starEach es X.env:=by rfl) (hplain:(backTo cpos (starEach es X.env)).any (·.1)=false:=by rfl) :
  PE X (.Call (.Attribute o name apos) (e :: es) [] cpos) (tBM X.K T r to t):=by
 intro pins s σ H Q I h
 refine wpAny_Call_method_late hbase hfew hline rfl (thn (ho pins s σ H _ I h) λv s1 hpt=>?_)
 obtain ⟨x,H1,I1,r1,ty,q1⟩:=hpt
 obtain ⟨h1,h2⟩:=rk I1 r1 ty
 refine ⟨T,id,pa,slot,hty,h1,h2,?_⟩
 have hA:=ha cpos pins s1 σ H1 _ I1 q1
 rw [hs] at hA ⊢
 refine Calls.callWith_builtin (by show (false || (backTo cpos (starEach es X.env)).any (·.1))=false; rw [hplain] <;> rfl) (Calls.evalArgs_plain ?_)
 exact thn hA λus s2 ⟨vs,H2,I2,r2,q2⟩=>hm pins s2 σ H2 x vs v us Q I2 r1 r2 q2
end
noncomputable def MtM (X:Cx) (id:String) (r:V→List V→Hp→VK→Prop):Prop :=
 ∀ (pins:List (Addr×Obj)) (s:Shared) (σ:St) (H:Hp) (x:V) (xs:List V) (v:Value) (us:List Value) (Q:VK),Inv X pins σ H s→aL x v→aE xs us→r x xs H Q →
  wpAny (model X.prog X.w) X.A (call (.builtin id) (v :: us)) (EP X pins σ Q) X.xe s
theorem aE.one:∀ {x:V} {us:List Value},aE [x] us→∃ u,us=[u]∧aL x u
 | _,_,.cons r .nil=>⟨_,rfl,r⟩
theorem aE.two:∀ {x y:V} {us:List Value},aE [x,y] us→∃ u v,us=[u,v]∧aL x u∧aL y v
 | _,_,_,.cons r (.cons q .nil)=>⟨_,_,rfl,r,q⟩
theorem aE.zero:∀ {us:List Value},aE [] us→us=[]
 | _,.nil=>rfl
theorem aE.dropLast {xs:List V} {us:List Value} (h:aE xs us):aE xs.dropLast us.dropLast:=by
 induction h with
 | nil=>exact .nil
 | cons r t ih =>
  cases t with
  | nil=>exact .nil
  | cons q t'=>exact .cons r ih
theorem aE.eraseIdx:∀ {xs:List V} {us:List Value} (i:Nat),aE xs us→aE (xs.eraseIdx i) (us.eraseIdx i)
 | _,_,_,.nil=>.nil
 | _,_,0,.cons _ t=>t
 | _,_,i+1,.cons r t=>.cons r (aE.eraseIdx i t)
theorem nM {α:Type} (l:List α):l.eraseIdx (l.length - 1)=l.dropLast:=by
 induction l with
 | nil=>rfl
 | cons a r ih =>
  cases r with
  | nil=>rfl
  | cons b r =>
   have e:(a :: b :: r).length - 1=((b :: r).length - 1)+1:=by
    have h1:(a :: b :: r).length=r.length+2:=rfl
    have h2:(b :: r).length=r.length+1:=rfl
    omega
   rw [e,List.eraseIdx_cons_succ,ih]
   all_goals rfl
theorem jD {α:Type}:∀ (l:List α) (i:Nat),(l.eraseIdx i).length≤l.length
 | [],_=>Nat.le_refl _
 | _ :: _,0=>Nat.le_succ _
 | _ :: r,i+1=>Nat.succ_le_succ (jD r i)
section
variable {X:Cx} {pins:List (Addr×Obj)} {σ:St} {H:Hp} {s:Shared} {l b:Addr} {xs ys zs:List V}
theorem Inv.lset {its its':List Value} {n:Nat} {f:Array Value→Array Value} {t':Nat} (I:Inv X pins σ H s) (hH:H l=some (.lst xs))
  (e:s.heap.get? l=some { cls:=.type "list",data:=.seq its.toArray n }) (hf:f its.toArray=its'.toArray) (hv:aE ys its') (hz:ys.length≤sizeLine) :
  Inv X pins σ (upd H l (.lst ys)) { s with heap:=s.heap.update l (Obj.mapSeq f),toks:=t' }:=by
 have q:=PySem.IsL.update e f
 rw [hf] at q
 refine I.write (x:=l) (e:=l) (by rw [hH]; exact trivial) (.inl rfl) (λb' u hb hu=>(Heap.get?_update_other s.heap (Obj.mapSeq f) (Ne.symm hb)).trans hu) ⟨_,q⟩ ?_
 exact ⟨hz,its',_,hv,q⟩
theorem Inv.lnew {its:List Value} {t':Nat} (I:Inv X pins σ H s) (hv:aE ys its) (hz:ys.length≤sizeLine) :
  Inv X pins σ (upd H s.heap.objs.size (.lst ys)) { s with heap:=s.heap.push { cls:=.type "list",data:=.seq its.toArray },toks:=t' } :=
 I.laid (λ_ _ q=>Heap.get?_push_of_some _ q) (Nat.le_refl _) ⟨hz,its,0,hv,Heap.get?_push_size _ rfl⟩
theorem Inv.fresh (I:Inv X pins σ H s):H s.heap.objs.size=none:=I.hok.fresh (Nat.le_refl _)
theorem Inv.lstM (I:Inv X pins σ H s) (hH:H l=some (.lst xs)):xs.length≤sizeLine∧∃ (its:List Value) (n:Nat),aE xs its∧xs.length=its.length∧s.heap.get? l=some { cls:=.type "list",data:=.seq its.toArray n }:=by
 obtain ⟨z,its,n,r,e⟩:=I.hok l _ hH
 exact ⟨z,its,n,r,r.length,e⟩
end
section
variable {X:Cx}
noncomputable def tS:V→List V→Hp→VK→Prop:=λx vs H Q=>∃ l xs y,x = .ref l∧vs=[y]∧H l=some (.lst xs)∧xs.length<sizeLine∧Q .non (upd H l (.lst (xs++[y])))
theorem cj:MtM X "list.append" tS:=by
 intro pins s σ H x vs v us Q I rx rv h
 obtain ⟨l,xs,y,rfl,rfl,hH,hz,q⟩:=h
 cases rx
 obtain ⟨u,rfl,ru⟩:=rv.one
 obtain ⟨z,its,n,r,hl,e⟩:=I.lstM hH
 refine call_meets F.slot_list_append ⟨_,e,rfl⟩ F.entry_list_append (F.args_list_append_2 _ _) (PySem.list_append l its.toArray n u (by rw [List.size_toArray]; omega)) ⟨e,?_⟩
 refine ⟨.non,_,I.lset (its':=its++[u]) hH e (by simp) (r.append (.cons ru .nil)) ?_,rfl,q⟩
 rw [List.length_append,List.length_singleton]
 omega
noncomputable def ym:V→List V→Hp→VK→Prop:=λx vs H Q=>∃ l xs y,x = .ref l∧vs=[]∧H l=some (.lst xs)∧xs[xs.length - 1]? = some y∧Q y (upd H l (.lst xs.dropLast))
theorem vS:MtM X "list.pop" ym:=by
 intro pins s σ H x vs v us Q I rx rv h
 obtain ⟨l,xs,y,rfl,rfl,hH,hy,q⟩:=h
 cases rx
 have hus:=rv.zero
 subst hus
 obtain ⟨z,its,n,r,hl,e⟩:=I.lstM hH
 obtain ⟨u,hu,ru⟩:=r.get hy
 have hy':its.toArray[its.toArray.size - 1]? = some u:=by
  show its.toArray[its.length - 1]? = some u
  rw [← Array.getElem?_toList,← hl]
  exact hu
 refine call_meets F.slot_list_pop ⟨_,e,rfl⟩ F.entry_list_pop (F.args_list_pop_1 _) (MeetsSeq.list_pop_last l its.toArray n u hy' (by rw [List.size_toArray]; omega)) ⟨e,?_⟩
 refine ⟨y,_,I.lset (its':=its.dropLast) hH e ?_ r.dropLast ?_,ru,q⟩
 ·show its.toArray.eraseIdxIfInBounds (its.toArray.size - 1)=its.dropLast.toArray
  rw [List.size_toArray,List.eraseIdxIfInBounds_toArray,nM]
 ·rw [List.length_dropLast]
  omega
noncomputable def vT:V→List V→Hp→VK→Prop:=λx vs H Q=>∃ l xs i k y,x = .ref l∧vs=[.int i]∧H l=some (.lst xs)∧-(2 ^ 63)≤i∧i<2 ^ 63∧seqIndex? i xs.length=some k∧xs[k]? = some y∧Q y (upd H l (.lst (xs.eraseIdx k)))
theorem rl:MtM X "list.pop" vT:=by
 intro pins s σ H x vs v us Q I rx rv h
 obtain ⟨l,xs,i,k,y,rfl,rfl,hH,h1,h2,hk,hy,q⟩:=h
 cases rx
 obtain ⟨u,rfl,ru⟩:=rv.one
 obtain ⟨t,rfl⟩:=ru
 obtain ⟨z,its,n,r,hl,e⟩:=I.lstM hH
 obtain ⟨w,hw,rw'⟩:=r.get hy
 refine call_meets F.slot_list_pop ⟨_,e,rfl⟩ F.entry_list_pop (F.args_list_pop_2 _ _)
  (MeetsSeq.list_pop_at l its.toArray n i t k w (fitsIndex_both h1 h2) (by rw [List.size_toArray,← hl]; exact hk) (by rw [← Array.getElem?_toList]; exact hw) (by rw [List.size_toArray]; omega)) ⟨e,?_⟩
 refine ⟨y,_,I.lset (its':=its.eraseIdx k) hH e ?_ (r.eraseIdx k) ?_,rw',q⟩
 ·show its.toArray.eraseIdxIfInBounds k=(its.eraseIdx k).toArray
  rw [List.eraseIdxIfInBounds_toArray]
 ·have:=jD xs k
  omega
noncomputable def yn:R2:=λx y H Q=>∃ l b xs zs,x = .ref l∧y = .ref b∧H l=some (.lst xs)∧H b=some (.lst zs)∧xs.length+zs.length≤sizeLine∧∀ p,H p=none→Q (.ref p) (upd H p (.lst (xs++zs)))
theorem eZ:OpR X (binaryOp .Add) yn:=by
 intro pins s σ H x y v u Q I rx ry h
 obtain ⟨l,b,xs,zs,rfl,rfl,hH,hB,hz,q⟩:=h
 cases rx
 cases ry
 obtain ⟨z,its,n,r,hl,e⟩:=I.lstM hH
 obtain ⟨z2,its2,n2,r2,hl2,e2⟩:=I.lstM hB
 refine PySem.P.add_list e e2 ?_ (by rw [List.size_toArray,List.size_toArray]; omega)
 have ea:its.toArray++its2.toArray=(its++its2).toArray:=by simp
 rw [ea]
 exact ⟨.ref _,_,I.lnew (t':=s.toks) (r.append r2) (by rw [List.length_append]; omega),rfl,q _ I.fresh⟩
end
section
variable {prog:Program} {w:World} {A:Around} {E:Value→Shared→Prop} {s:Shared}
end
section
variable {X:Cx}
end
section
variable {κ:Type} [DecidableEq κ]
noncomputable def bg (kvs:List (κ×V)) (k:κ):Option V:=(kvs.find? λkv=>decide (kv.1=k)).map (·.2)
noncomputable def cu (kvs:List (κ×V)) (k:κ) (v:V):List (κ×V) :=
 if (kvs.any λkv=>decide (kv.1=k))=true then kvs.map (λkv=>if kv.1=k then (kv.1,v) else kv) else kvs++[(k,v)]
noncomputable def cQ (kvs:List (κ×V)) (k:κ):List (κ×V):=kvs.filter λkv=>decide (kv.1≠k)
theorem bG {p:κ×V} {r:List (κ×V)} {k:κ} (e:p.1=k):bg (p :: r) k=some p.2:=by simp [bg,List.find?_cons,e]
theorem bo {p:κ×V} {r:List (κ×V)} {k:κ} (e:¬ p.1=k):bg (p :: r) k=bg r k:=by simp [bg,List.find?_cons,e]
theorem cH (k:κ):∀ kvs:List (κ×V),(kvs.any λkv=>decide (kv.1=k))=(bg kvs k).isSome
 | []=>rfl
 | p :: r=>by
  rw [List.any_cons]
  by_cases e:p.1=k
  ·simp only [bG e,decide_eq_true e,Bool.true_or,Option.isSome_some]
  ·rw [bo e,decide_eq_false e,Bool.false_or]; exact cH k r
theorem lP (k j:κ) (y:V):∀ kvs:List (κ×V),bg (kvs.map λkv=>if kv.1=k then (kv.1,y) else kv) j=(bg kvs j).map λx=>if j=k then y else x
 | []=>rfl
 | p :: r=>by
  have ih:=lP k j y r
  rw [List.map_cons]
  by_cases h:p.1=k
  ·rw [if_pos h]
   by_cases e:p.1=j
   ·rw [bG (p:=(p.1,y)) e,bG e,Option.map_some,if_pos (e.symm.trans h)]
   ·rw [bo (p:=(p.1,y)) e,bo e,ih]
  ·rw [if_neg h]
   by_cases e:p.1=j
   ·rw [bG (p:=p) e,bG e,Option.map_some,if_neg (λz=>h (e.trans z))]
   ·rw [bo (p:=p) e,bo e,ih]
theorem jE (k j:κ) (y:V):∀ kvs:List (κ×V),bg kvs k=none→bg (kvs++[(k,y)]) j=if j=k then some y else bg kvs j
 | [],_=>by
  by_cases e:k=j
  ·rw [if_pos e.symm]; exact bG (p:=(k,y)) e
  ·rw [if_neg (λz=>e z.symm)]; exact bo (p:=(k,y)) e
 | p :: r,hn=>by
  rw [List.cons_append]
  have hk:¬ p.1=k:=λz=>by rw [bG z] at hn; cases hn
  rw [bo hk] at hn
  have ih:=jE k j y r hn
  by_cases e:p.1=j
  ·rw [bG e,bG e,if_neg (λz=>hk (e.trans z))]
  ·rw [bo e,bo e,ih]
theorem lQ (kvs:List (κ×V)) (k j:κ) (y:V):bg (cu kvs k y) j=if j=k then some y else bg kvs j:=by
 unfold cu
 by_cases a:(kvs.any λkv=>decide (kv.1=k))=true
 ·rw [if_pos a,lP]
  rw [cH] at a
  by_cases e:j=k
  ·obtain ⟨x,hx⟩:=Option.isSome_iff_exists.mp a
   rw [if_pos e,e,hx,Option.map_some,if_pos rfl]
  ·rw [if_neg e]
   cases bg kvs j with
   | none=>rfl
   | some x=>rw [Option.map_some,if_neg e]
 ·rw [if_neg a]
  refine jE k j y kvs ?_
  rw [cH] at a
  cases q:bg kvs k with
  | none=>rfl
  | some x=>rw [q] at a; exact (a rfl).elim
theorem di (kvs:List (κ×V)) (k:κ) (v:V):(cu kvs k v).length≤kvs.length+1:=by
 unfold cu
 split
 ·rw [List.length_map]; omega
 ·rw [List.length_append,List.length_cons,List.length_nil]; omega
theorem ro {kvs:List (κ×V)} {k:κ} (v:V) (h:bg kvs k=none):cu kvs k v=kvs++[(k,v)]:=by
 unfold cu
 rw [cH,h]
 exact if_neg (by decide)
theorem eu.isSome_eq {o:Option V} {u:Option Value} (r:eu o u):o.isSome=u.isSome:=by
 cases o with
 | none=>cases u with
  | none=>rfl
  | some _=>exact (show False from r).elim
 | some _=>cases u with
  | none=>exact (show False from r).elim
  | some _=>rfl
theorem eu.getD {o:Option V} {u:Option Value} {d:V} {d':Value} (r:eu o u) (rd:aL d d'):aL (o.getD d) (u.getD d'):=by
 cases o with
 | none=>cases u with
  | none=>exact rd
  | some _=>exact (show False from r).elim
 | some _=>cases u with
  | none=>exact (show False from r).elim
  | some _=>exact r
theorem KV.val {kvs:List (κ×V)} {vs:List (κ×Value)} (r:KV kvs vs) (k:κ):eu (bg kvs k) (valueAt vs k):=by
 unfold KV at r
 induction r with
 | nil=>exact True.intro
 | @cons p q ps qs h t ih =>
  obtain ⟨h1,h2⟩:=h
  by_cases e:p.1=k
  ·have e':q.1=k:=h1.symm.trans e
   have b:valueAt (q :: qs) k=some q.2:=by simp [valueAt,List.find?_cons,e']
   rw [bG e,b]; exact h2
  ·have e':¬ q.1=k:=λz=>e (h1.trans z)
   have b:valueAt (q :: qs) k=valueAt qs k:=by simp [valueAt,List.find?_cons,e']
   rw [bo e,b]; exact ih
theorem KV.any {kvs:List (κ×V)} {vs:List (κ×Value)} (r:KV kvs vs) (k:κ):(kvs.any λkv=>decide (kv.1=k))=vs.any λkv=>decide (kv.1=k):=by
 unfold KV at r
 induction r with
 | nil=>rfl
 | cons h t ih=>rw [List.any_cons,List.any_cons,ih,h.1]
theorem KV.repl {kvs:List (κ×V)} {vs:List (κ×Value)} (r:KV kvs vs) (k:κ) {y:V} {u:Value} (ry:aL y u) :
  KV (kvs.map λkv=>if kv.1=k then (kv.1,y) else kv) (vs.map λkv=>if kv.1=k then (kv.1,u) else kv):=by
 unfold KV at r ⊢
 induction r with
 | nil=>exact .nil
 | @cons p q ps qs h t ih =>
  rw [List.map_cons,List.map_cons]
  refine .cons ?_ ih
  obtain ⟨h1,h2⟩:=h
  by_cases e:p.1=k
  ·rw [if_pos e,if_pos (h1.symm.trans e)]; exact ⟨h1,ry⟩
  ·rw [if_neg e,if_neg (λz=>e (h1.trans z))]; exact ⟨h1,h2⟩
theorem KV.put {kvs:List (κ×V)} {vs:List (κ×Value)} (r:KV kvs vs) (k:κ) {y:V} {u:Value} (ry:aL y u):KV (cu kvs k y) (stored vs k u):=by
 unfold cu stored
 rw [r.any k]
 by_cases e:(vs.any λkv=>decide (kv.1=k))=true
 ·rw [if_pos e,if_pos e]; exact r.repl k ry
 ·rw [if_neg e,if_neg e]; exact Paired.snoc r ⟨rfl,ry⟩
theorem KV.drop {kvs:List (κ×V)} {vs:List (κ×Value)} (r:KV kvs vs) (k:κ):KV (cQ kvs k) (without vs k):=by
 unfold KV at r ⊢
 unfold cQ without
 induction r with
 | nil=>exact .nil
 | @cons p q ps qs h t ih =>
  obtain ⟨h1,h2⟩:=h
  rw [List.filter_cons,List.filter_cons]
  by_cases e:p.1=k
  ·have a:¬ decide (p.1≠k)=true:=by simp [e]
   have b:¬ decide (q.1≠k)=true:=by simp [h1.symm.trans e]
   rw [if_neg a,if_neg b]; exact ih
  ·have e':¬ q.1=k:=λz=>e (h1.trans z)
   have a:decide (p.1≠k)=true:=by simp [e]
   have b:decide (q.1≠k)=true:=by simp [e']
   rw [if_pos a,if_pos b]; exact .cons ⟨h1,h2⟩ ih
theorem KV.length {kvs:List (κ×V)} {vs:List (κ×Value)} (r:KV kvs vs):kvs.length=vs.length:=Paired.length r
theorem lR (kvs:List (κ×V)) (k:κ):(cQ kvs k).length≤kvs.length:=List.length_filter_le _ _
end
theorem eS {P:Program} {w:World} {k:Key} {u:Value} (r:aL (kV k) u):(aD P w).is k u=true:=by
 cases k with
 | inl i=>obtain ⟨t,e⟩:=(show ∃ t,u=Value.int i t from r); subst e; exact lF P w i t
 | inr x=>obtain ⟨t,e⟩:=(show ∃ t,u=Value.str x t from r); subst e; exact lG P w x t
theorem vU {a b:Key} (e:kV a=kV b):a=b:=by
 cases a with
 | inl i=>cases b with
  | inl j=>have e':V.int i=V.int j:=e; injection e' with e'; rw [e']
  | inr y=>exact nomatch (show V.int i=V.str y from e)
 | inr x=>cases b with
  | inl j=>exact nomatch (show V.str x=V.int j from e)
  | inr y=>have e':V.str x=V.str y:=e; injection e' with e'; rw [e']
theorem kJ:∀ {a b:List Key},a.map kV=b.map kV→a=b
 | [],[],_=>rfl
 | [],_ :: _,e=>by simp at e
 | _ :: _,[],e=>by simp at e
 | x :: xs,y :: ys,e=>by
  rw [List.map_cons,List.map_cons] at e
  injection e with e1 e2
  rw [vU e1,kJ e2]
theorem gA {P:Program} {w:World}:∀ {ks:List Key} {us:List Value},aE (ks.map kV) us→ItemsAre (aD P w) ks us
 | [],_,r=>by rw [List.map_nil] at r; cases r; exact .nil
 | k :: ks,_,r=>by
  rw [List.map_cons] at r
  cases r with
  | cons h t=>exact .cons (eS h) (gA t)
noncomputable abbrev KT (H:Hp):List (List Key×V)→List (List Key×Addr×Value)→Prop:=Paired λp q=>p.1=q.1∧H q.2.1=some (.tup (p.1.map kV))∧aL p.2 q.2.2
theorem KT.val {H:Hp} {kvs:List (List Key×V)} {xs:List (List Key×Addr×Value)} (r:KT H kvs xs) (k:List Key):eu (bg kvs k) ((atKey xs k).map (·.2)):=by
 induction r with
 | nil=>exact True.intro
 | @cons p q ps qs h t ih =>
  obtain ⟨h1,_,h2⟩:=h
  by_cases e:p.1=k
  ·have e':q.1=k:=h1.symm.trans e
   have b:atKey (q :: qs) k=some q.2:=by simp [atKey,List.find?_cons,e']
   rw [bG e,b]; exact h2
  ·have e':¬ q.1=k:=λz=>e (h1.trans z)
   have b:atKey (q :: qs) k=atKey qs k:=by simp [atKey,List.find?_cons,e']
   rw [bo e,b]; exact ih
theorem KT.repl {H:Hp} {kvs:List (List Key×V)} {xs:List (List Key×Addr×Value)} (r:KT H kvs xs) (k:List Key) {y:V} {u:Value} (ry:aL y u) :
  KT H (kvs.map λkv=>if kv.1=k then (kv.1,y) else kv) (xs.map (putAt k u)):=by
 induction r with
 | nil=>exact .nil
 | @cons p q ps qs h t ih =>
  rw [List.map_cons,List.map_cons]
  refine .cons ?_ ih
  obtain ⟨h1,h2,h3⟩:=h
  unfold putAt
  by_cases e:p.1=k
  ·rw [if_pos e,if_pos (h1.symm.trans e)]; exact ⟨h1,h2,ry⟩
  ·rw [if_neg e,if_neg (λz=>e (h1.trans z))]; exact ⟨h1,h2,h3⟩
theorem KT.put {H:Hp} {kvs:List (List Key×V)} {xs:List (List Key×Addr×Value)} (r:KT H kvs xs) (k:List Key) {b:Addr} {y:V} {u:Value} (hb:H b=some (.tup (k.map kV))) (ry:aL y u) :
  KT H (cu kvs k y) (storedH xs k b u):=by
 have e:(kvs.any λkv=>decide (kv.1=k))=(atKey xs k).isSome:=by
  rw [cH,(r.val k).isSome_eq,Option.isSome_map]
 unfold cu storedH
 rw [e]
 by_cases q:(atKey xs k).isSome=true
 ·rw [if_pos q,if_pos q]; exact r.repl k ry
 ·rw [if_neg q,if_neg q]; exact Paired.snoc r ⟨rfl,hb,ry⟩
theorem KT.keeps {H H':Hp} {kvs:List (List Key×V)} {xs:List (List Key×Addr×Value)} (r:KT H kvs xs) (ht:∀ b ys,H b=some (.tup ys)→H' b=some (.tup ys)):KT H' kvs xs :=
 Paired.mapP r λ_ _ z=>⟨z.1,ht _ _ z.2.1,z.2.2⟩
section
variable {P:Program} {w:World} {H:Hp} {h:Heap} {a:Addr}
theorem vp {u:HO} (ok:HOk P w H h) (e:Rd H a u):bv P w H h a u:=e.ok ok
theorem iC {kvs:List (Key×V)} (ok:HOk P w H h) (e:Rd H a (.dK kvs)):kvs.length≤sizeLine∧(a == sysModules)=false∧∃ vs,KV kvs vs∧h.DictOf (aD P w) a vs :=
 show bv P w H h a (.dK kvs) from vp ok e
theorem oO {kvs:List (Key×V)} (ok:HOk P w H h) (e:H a=some (.dK kvs)):kvs.length≤sizeLine∧(a == sysModules)=false∧∃ vs,KV kvs vs∧h.DictOf (aD P w) a vs:=iC ok (.inl e)
theorem gB {ks:List Key} (ok:HOk P w H h) (e:H a=some (.tup (ks.map kV))):(tupleKind (aD P w)).is h ks a:=by
 obtain ⟨_,its,r,o,h1,h2,n,h3⟩:=(show bv P w H h a (.tup (ks.map kV)) from ok a _ e)
 exact ⟨o,its.toArray,n,h1,h2,h3,by simpa using gA r⟩
theorem iD {kvs:List (List Key×V)} (ok:HOk P w H h) (e:Rd H a (.dT kvs)):kvs.length≤sizeLine∧(a == sysModules)=false ∧
  ∃ xs,KT H kvs xs∧h.DictOfH (tupleKind (aD P w)) a xs:=by
 obtain ⟨z,y,xs,r,o,es,ep,h1,h2,h3,h4,h5⟩:=(show bv P w H h a (.dT kvs) from vp ok e)
 refine ⟨z,y,xs,r,o,es,ep,h1,h2,h3,h4,λx hx=>?_,h5⟩
 have all:∀ {l:List (List Key×V)} {m:List (List Key×Addr×Value)},KT H l m→∀ x∈m,(tupleKind (aD P w)).is h x.1 x.2.1:=by
  intro l m q
  induction q with
  | nil=>intro x hx; exact nomatch hx
  | @cons p q ps qs hq t ih =>
   intro x hx
   rcases List.mem_cons.mp hx with e | hx
   ·subst e
    exact gB ok (by rw [← hq.1]; exact hq.2.1)
   ·exact ih x hx
 exact all r x hx
theorem xz {kvs:List (List Key×V)} (ok:HOk P w H h) (e:H a=some (.dT kvs)):kvs.length≤sizeLine∧(a == sysModules)=false ∧
  ∃ xs,KT H kvs xs∧h.DictOfH (tupleKind (aD P w)) a xs:=iD ok (.inl e)
end
noncomputable def dt (H:Hp) (a:Addr) (y:V) (r:Option V):Prop :=
 (∃ kvs k,Rd H a (.dK kvs)∧y=kV k∧r=bg kvs k)∨∃ kvs k b,Rd H a (.dT kvs)∧y = .ref b∧H b=some (.tup (k.map kV))∧r=bg kvs k
noncomputable def lS (H:Hp) (a:Addr) (y v:V) (H':Hp):Prop :=
 (∃ kvs k,H a=some (.dK kvs)∧y=kV k∧kvs.length<sizeLine∧H'=upd H a (.dK (cu kvs k v))) ∨
 ∃ kvs k b,H a=some (.dT kvs)∧y = .ref b∧H b=some (.tup (k.map kV))∧kvs.length<sizeLine∧H'=upd H a (.dT (cu kvs k v))
theorem dt.k {H:Hp} {a:Addr} {kvs:List (Key×V)} {k:Key} (e:H a=some (.dK kvs)):dt H a (kV k) (bg kvs k):=.inl ⟨kvs,k,.inl e,rfl,rfl⟩
theorem lS.k {H:Hp} {a:Addr} {kvs:List (Key×V)} {k:Key} {v:V} (e:H a=some (.dK kvs)) (hl:kvs.length<sizeLine):lS H a (kV k) v (upd H a (.dK (cu kvs k v))):=.inl ⟨kvs,k,e,rfl,hl,rfl⟩
section
variable {X:Cx} {pins:List (Addr×Obj)} {σ:St} {H:Hp} {s:Shared} {a:Addr} {y v:V} {u r:Value} {o:Option V} {A:Around} {E:Value→Shared→Prop}
theorem Inv.big (I:Inv X pins σ H s):sysModules<s.heap.objs.size:=by
 have h:mainGlobals<s.heap.objs.size:=(I.mod.glob.keeps I.bk).lt
 exact Nat.lt_trans (by decide) h
theorem pU {Q:Value→Shared→Prop} (hu:A.units+1<cLine) (I:Inv X pins σ H s) (g:dt H a y (some v)) (ry:aL y u) (h:∀ w' s',Inv X pins σ H s'→aL v w'→Q w' s') :
  wpAny (model X.prog X.w) A (getItem (.ref a) u) Q E s:=by
 rcases g with ⟨kvs,k,e,ey,l⟩ | ⟨kvs,k,b,e,ey,eb,l⟩
 ·subst ey
  obtain ⟨z,hd,vs,rel,dd⟩:=iC I.hok e
  obtain ⟨w',hw,rw'⟩:=eu.some_of (v:=v) (o:=valueAt vs k) (by rw [l]; exact rel.val k)
  exact wpAny_getItem_of (eS ry) dd.mapOf hw (h w' _ (I.tok _) rw')
 ·subst ey
  cases (show u=Value.ref b from ry)
  obtain ⟨z,hd,xs,rel,dd⟩:=iD I.hok e
  obtain ⟨w',hw,rw'⟩:=eu.some_of (v:=v) (o:=(atKey xs k).map (·.2)) (by rw [l]; exact rel.val k)
  obtain ⟨p,hp,hp2⟩:=Option.map_eq_some_iff.mp hw
  refine wpAny_getItem_heap (tupleKind_room_in1 hu) (gB I.hok eb) dd hp ?_
  rw [hp2]
  exact h w' _ (I.tok _) rw'
theorem yo {Q:Value→Shared→Prop} (hu:A.units+1<cLine) (I:Inv X pins σ H s) (g:dt H a y o) (ry:aL y u) (h:∀ s',Inv X pins σ H s'→Q (.bool o.isSome) s') :
  wpAny (model X.prog X.w) A (compareOp .In u (.ref a)) Q E s:=by
 rcases g with ⟨kvs,k,e,ey,l⟩ | ⟨kvs,k,b,e,ey,eb,l⟩
 ·subst ey
  obtain ⟨z,hd,vs,rel,dd⟩:=iC I.hok e
  refine wpAny_in_of (eS ry) hd dd.mapOf ?_
  rw [← (rel.val k).isSome_eq,← l]
  exact h _ (I.tok _)
 ·subst ey
  cases (show u=Value.ref b from ry)
  obtain ⟨z,hd,xs,rel,dd⟩:=iD I.hok e
  refine wpAny_in_heap (tupleKind_room_in1 hu) (gB I.hok eb) hd dd ?_
  have q:=(rel.val k).isSome_eq
  rw [Option.isSome_map] at q
  rw [← q,← l]
  exact h _ (I.tok _)
theorem tT {Q:Value→Shared→Prop} (hu:A.units+1<cLine) (I:Inv X pins σ H s) (g:dt H a y o) (ry:aL y u) (h:∀ s',Inv X pins σ H s'→Q (.bool (!o.isSome)) s') :
  wpAny (model X.prog X.w) A (compareOp .NotIn u (.ref a)) Q E s:=by
 rcases g with ⟨kvs,k,e,ey,l⟩ | ⟨kvs,k,b,e,ey,eb,l⟩
 ·subst ey
  obtain ⟨z,hd,vs,rel,dd⟩:=iC I.hok e
  refine wpAny_notIn_of (eS ry) hd dd.mapOf ?_
  rw [← (rel.val k).isSome_eq,← l]
  exact h _ (I.tok _)
 ·subst ey
  cases (show u=Value.ref b from ry)
  obtain ⟨z,hd,xs,rel,dd⟩:=iD I.hok e
  refine wpAny_notIn_heap (tupleKind_room_in1 hu) (gB I.hok eb) hd dd ?_
  have q:=(rel.val k).isSome_eq
  rw [Option.isSome_map] at q
  rw [← q,← l]
  exact h _ (I.tok _)
theorem hJ {h':Heap} {t':Nat} {ob:HO} (I:Inv X pins σ H s) (mu:Mut (H a)) (hs:Heap.SameBut a s.heap h') (he:∃ q,h'.get? a=some q) (new:bv X.prog X.w (upd H a ob) h' a ob) :
  Inv X pins σ (upd H a ob) { s with heap:=h',toks:=t' } :=
 I.write (x:=a) (e:=a) mu (.inl rfl) (λb q hb z=>(hs.2 b hb).trans z) he new
theorem kM {P:Program} {w:World} {H':Hp} {h':Heap} {kvs:List (Key×V)} {vs:List (Key×Value)} (z:kvs.length≤sizeLine) (hd:(a == sysModules)=false) (rel:KV kvs vs) (dd:h'.DictOf (aD P w) a vs) :
  bv P w H' h' a (.dK kvs):=⟨z,hd,vs,rel,dd⟩
theorem pV {H':Hp} {Q:Unit→Shared→Prop} (hu:A.units+1<cLine) (I:Inv X pins σ H s) (g:lS H a y v H') (ry:aL y u) (rv:aL v r) (h:∀ s',Inv X pins σ H' s'→Q () s') :
  wpAny (model X.prog X.w) A (setItem (.ref a) u r) Q E s:=by
 rcases g with ⟨kvs,k,e,ey,l,eH⟩ | ⟨kvs,k,b,e,ey,eb,l,eH⟩
 ·subst ey eH
  obtain ⟨z,hd,vs,rel,dd⟩:=oO I.hok e
  have hz:vs.length≤sizeLine:=by rw [← rel.length]; exact z
  have hl:(cu kvs k v).length≤sizeLine:=by have:=di kvs k v; omega
  refine wpAny_setItem_pairs (hsz:=hz) (eS ry) dd λh' dd' hs=>h _ ?_
  have he:∃ q,h'.get? a=some q:=let ⟨q,_,_,hq,_⟩:=dd'; ⟨q,hq⟩
  exact hJ I (by rw [e]; exact True.intro) hs he (kM hl hd (rel.put k rv) dd')
 ·subst ey eH
  cases (show u=Value.ref b from ry)
  obtain ⟨z,hd,xs,rel,dd⟩:=xz I.hok e
  have hz:xs.length≤sizeLine:=by rw [← Paired.length rel]; exact z
  have hl:(cu kvs k v).length≤sizeLine:=by have:=di kvs k v; omega
  refine wpAny_setItem_heap (hsz:=hz) (tupleKind_room_in1 hu) (gB I.hok eb) dd λh' dd' hs=>h _ ?_
  obtain ⟨q,es,ep,hq,h2,h3,h4,_,h5⟩:=dd'
  refine hJ I (by rw [e]; exact True.intro) hs ⟨q,hq⟩ ⟨hl,hd,_,(rel.put k eb rv).keeps λc ys ec=>?_,q,es,ep,hq,h2,h3,h4,h5⟩
  rw [aj (xj ec e (λz=>nomatch z))]
  exact ec
end
section
variable {X:Cx} {pins:List (Addr×Obj)} {σ:St} {H:Hp} {s:Shared} {a:Addr} {kvs:List (Key×V)} {k:Key} {u:Value} {A:Around} {E:Value→Shared→Prop}
theorem xA {v:V} {more:List Value} {Q:Value→Shared→Prop} (I:Inv X pins σ H s) (e:H a=some (.dK kvs)) (ry:aL (kV k) u) (l:bg kvs k=some v) (hm:more=[]∨∃ x,more=[x])
  (h:∀ w' s',Inv X pins σ (upd H a (.dK (cQ kvs k))) s'→aL v w'→Q w' s'):wpAny (model X.prog X.w) A (call (.builtin "dict.pop") (.ref a :: u :: more)) Q E s:=by
 obtain ⟨z,hd,vs,rel,dd⟩:=oO I.hok e
 obtain ⟨w',hw,rw'⟩:=eu.some_of (v:=v) (o:=valueAt vs k) (by rw [← l]; exact rel.val k)
 have hp:(keyPart u).isSome=true:=by
  cases k with
  | inl i=>obtain ⟨t,q⟩:=(show ∃ t,u=Value.int i t from ry); subst q; rfl
  | inr x=>obtain ⟨t,q⟩:=(show ∃ t,u=Value.str x t from ry); subst q; rfl
 have ha:argsOk "dict.pop" ⟨.ref a :: u :: more,[]⟩:=by
  rcases hm with q | ⟨x,q⟩
  ·subst q; exact PySem.F.args_dict_pop_2 _ _
  ·subst q; exact PySem.F.args_dict_pop_3 _ _ _
 refine call_meetsIn PySem.F.slot_dict_pop dd.typeIs PySem.F.entry_dict_pop ha (meets_dict_pop_there (aD X.prog X.w) a (eS ry) more hm hp)
  ⟨vs,w',dd,by rw [← rel.length]; exact z,hw,λh' dd' hs=>h w' _ ?_ rw'⟩
 have he:∃ q,h'.get? a=some q:=let ⟨q,_,_,hq,_⟩:=dd'; ⟨q,hq⟩
 exact hJ I (by rw [e]; exact True.intro) hs he (kM (Nat.le_trans (lR kvs k) z) hd (rel.drop k) dd')
theorem vV {r:Value} {Q:Value→Shared→Prop} (I:Inv X pins σ H s) (e:H a=some (.dK kvs)) (ry:aL (kV k) u) (l:bg kvs k=none) (h:∀ s',Inv X pins σ H s'→Q r s') :
  wpAny (model X.prog X.w) A (call (.builtin "dict.pop") [.ref a,u,r]) Q E s:=by
 obtain ⟨z,hd,vs,rel,dd⟩:=oO I.hok e
 have hn:valueAt vs k=none:=eu.none_of (by rw [← l]; exact rel.val k)
 have hp:(keyPart u).isSome=true:=by
  cases k with
  | inl i=>obtain ⟨t,q⟩:=(show ∃ t,u=Value.int i t from ry); subst q; rfl
  | inr x=>obtain ⟨t,q⟩:=(show ∃ t,u=Value.str x t from ry); subst q; rfl
 exact call_meetsIn PySem.F.slot_dict_pop dd.typeIs PySem.F.entry_dict_pop (PySem.F.args_dict_pop_3 _ _ _) (meets_dict_pop_default (aD X.prog X.w) a (eS ry) hd hp r) ⟨vs,dd,hn,h _ (I.tok _)⟩
end
noncomputable def xB (i:Expr):Prop:=∀ ov iv,subscripted i false ov iv=operate [ov,iv] (getItem ov iv)
theorem tU {prog:Program} {w:World} {A:Around} {E:Value→Shared→Prop} {s:Shared} {env:Env} {value slice:Expr} {pos:Pos} {T id:String} {Q:Value→Shared→Prop}
  (hl:typeLookup (.type T) "__getitem__" = pure (some (.builtin id))) (hs:xB slice)
  (h:wpAny (model prog w) A (eval value env) (λo s₁=>wpAny (model prog w) A (eval slice env) (λi s₂=>s₂.TypeIs o T∧wpAny (model prog w) A (getItem o i) Q E s₂) E s₁) E s) :
  wpAny (model prog w) A (eval (.Subscript value slice pos) env) Q E s:=by
 refine Subscript_ (wpAny_mono h (λo s₁ h₁=>wpAny_mono h₁ (λi s₂ h₂=>?_) λ_ _ x=>x) λ_ _ x=>x)
 obtain ⟨hT,h₂⟩:=h₂
 unfold subscriptTail
 refine wpAny_bind ?_
 rw [getitemInPython_of_ne hT.not_modules]
 refine wpAny_bind (wpAny_specialOf hT hl ?_)
 have fin:wpAny (model prog w) A (subscripted slice false o i) (λr s₃=>wpAny (model prog w) A (letTemporaryGo value o r >>= λ_=>pure r) Q E s₃) E s₂:=by
  rw [hs o i]
  exact wpAny_operating (wpAny_mono h₂ (λr s₃ h₃=>wpAny_bind (wpAny_letTemporaryGo (wpAny_pure h₃))) λ_ _ x=>x)
 first
  | exact wpAny_pure (wpAny_bind fin)
  | exact wpAny_bind (wpAny_pure (wpAny_bind fin))
  | exact wpAny_bind fin
theorem lT {X:Cx} {pins:List (Addr×Obj)} {σ:St} {H:Hp} {s:Shared} {a:Addr} {y:V} {o:Option V} (I:Inv X pins σ H s) (g:dt H a y o):s.TypeIs (.ref a) "dict":=by
 rcases g with ⟨kvs,k,e,_,_⟩ | ⟨kvs,k,b,e,_,_,_⟩
 ·obtain ⟨_,_,vs,_,dd⟩:=iC I.hok e
  exact dd.typeIs
 ·obtain ⟨_,_,xs,_,dd⟩:=iD I.hok e
  exact dd.typeIs
noncomputable def xC (td ty:TE):TE:=λσ H Q=>td σ H λx H1=>ty σ H1 λy H2=>∃ a v,x = .ref a∧dt H2 a y (some v)∧Q v H2
noncomputable def yp (ty td:TE):TE:=λσ H Q=>ty σ H λy H1=>td σ H1 λx H2=>∃ a o,x = .ref a∧dt H2 a y o∧Q (.bl o.isSome) H2
noncomputable def tV (ty td:TE):TE:=λσ H Q=>ty σ H λy H1=>td σ H1 λx H2=>∃ a o,x = .ref a∧dt H2 a y o∧Q (.bl (!o.isSome)) H2
noncomputable def xD (td ty tv:TE):TS:=λD σ H=>tv σ H λv H1=>td σ H1 λx H2=>ty σ H2 λy H3=>∃ a H4,x = .ref a∧lS H3 a y v H4∧D.nx σ H4
section
variable {X:Cx} {o i e value:Expr} {pos pos' tpos:Pos} {td ty tv:TE}
theorem cw (hu:X.A.units+1<cLine) (ho:PE X o td) (hi:PE X i ty) (hs:xB i):PE X (.Subscript o i pos) (xC td ty):=by
 intro pins s σ H Q I h
 refine tU PySem.F.slot_dict_getitem.lookup hs (thn (ho pins s σ H _ I h) λu s1 ⟨x,H1,I1,rx,q1⟩=>thn (hi pins s1 σ H1 _ I1 q1) λiv s2 hpt=>?_)
 obtain ⟨y,H2,I2,ry,a,v,ex,g,q2⟩:=hpt
 subst ex
 obtain rfl:u=Value.ref a:=rx
 exact ⟨lT I2 g,pU hu I2 g ry λw' s3 I3 rw'=>⟨v,H2,I3,rw',q2⟩⟩
theorem rp (hu:X.A.units+1<cLine) (hi:PE X i ty) (ho:PE X o td):PC X .In i o (yp ty td):=by
 intro pins s σ H Q I h
 refine thn (hi pins s σ H _ I h) λiv s1 ⟨y,H1,I1,ry,q1⟩=>thn (ho pins s1 σ H1 _ I1 q1) λu s2 hpt=>?_
 obtain ⟨x,H2,I2,rx,a,ov,ex,g,q2⟩:=hpt
 subst ex
 obtain rfl:u=Value.ref a:=rx
 exact yo hu I2 g ry λs3 I3=>⟨.bl ov.isSome,H2,I3,rfl,q2⟩
theorem jF (hu:X.A.units+1<cLine) (hi:PE X i ty) (ho:PE X o td):PC X .NotIn i o (tV ty td):=by
 intro pins s σ H Q I h
 refine thn (hi pins s σ H _ I h) λiv s1 ⟨y,H1,I1,ry,q1⟩=>thn (ho pins s1 σ H1 _ I1 q1) λu s2 hpt=>?_
 obtain ⟨x,H2,I2,rx,a,ov,ex,g,q2⟩:=hpt
 subst ex
 obtain rfl:u=Value.ref a:=rx
 exact tT hu I2 g ry λs3 I3=>⟨.bl (!ov.isSome),H2,I3,rfl,q2⟩
theorem kX (hu:X.A.units+1<cLine) (ho:PE X o td) (hi:PE X i ty) (hv:PE X value tv) (hs:swapsWith value (some (.Subscript o i pos')) pos.line X.env=pure false) :
  PS X (.Assign [.Subscript o i pos'] value pos) (xD td ty tv):=by
 intro pins s σ H D I h
 refine wpAny_Assign_Subscript (thn (hv pins s σ H _ I h) λr s1 ⟨v,H1,I1,rv,q1⟩=>thn (ho pins s1 σ H1 _ I1 q1) λu s2 ⟨x,H2,I2,rx,q2⟩=>thn (hi pins s2 σ H2 _ I2 q2) λiv s3 ⟨y,H3,I3,ry,a,H4,ex,g,q3⟩=>?_) hs
 subst ex
 obtain rfl:u=Value.ref a:=rx
 exact pV hu I3 g ry rv λs4 I4=>⟨σ,H4,I4,q3⟩
end
theorem rq {P:Program} {w:World} {H:Hp} (h:Heap) (hb:sysModules<h.objs.size):bv P w H (h.push { cls:=.type "dict",data:=.dict #[] }) h.objs.size (.dK []) :=
 ⟨Nat.zero_le _,beq_eq_false_iff_ne.mpr (Ne.symm (Nat.ne_of_lt hb)),[],.nil,Heap.DictOf.new h⟩
noncomputable def vW:TE:=λ_ H Q=>∀ p,H p=none→Q (.ref p) (upd H p (.dK []))
section
variable {X:Cx} {pos:Pos}
theorem rA:PE X (.Dict [] [] pos) vW:=λpins s σ H Q I h =>
 wpAny_Dict_empty ⟨.ref s.heap.objs.size,_,I.laid (a:=s.heap.objs.size) (o:=.dK []) (t':=s.toks) (λ_ _ q=>Heap.get?_push_of_some _ q) (Nat.le_refl _) (rq s.heap I.big),rfl,h _ (I.hok.fresh (Nat.le_refl _))⟩
end
structure M1 (X:Cx) (o:Expr) (m:Str) (apos:Pos) (e:Expr) (cpos:Pos):Prop where
 base:attributeBase o m X.env (eval o X.env)=eval o X.env
 few:((backTo cpos (starEach [e] X.env)).all (λx=>!x.1) && (backToKw cpos (keywordEach [] X.env)).all (λx=>x.1.isSome)
  && decide (([e]:List Expr).length+([]:List Keyword).length+(if ([]:List Keyword).isEmpty then 0 else 1)<30))=true
 line:(apos.endLine == cpos.line)=true
 trees:backTo cpos (starEach [e] X.env)=[(false,eval e X.env)]
structure M2 (X:Cx) (o:Expr) (m:Str) (apos:Pos) (e f:Expr) (cpos:Pos):Prop where
 base:attributeBase o m X.env (eval o X.env)=eval o X.env
 few:((backTo cpos (starEach [e,f] X.env)).all (λx=>!x.1) && (backToKw cpos (keywordEach [] X.env)).all (λx=>x.1.isSome)
  && decide (([e,f]:List Expr).length+([]:List Keyword).length+(if ([]:List Keyword).isEmpty then 0 else 1)<30))=true
 line:(apos.endLine == cpos.line)=true
 trees:backTo cpos (starEach [e,f] X.env)=[(false,eval e X.env),(false,eval f X.env)]
noncomputable def IsD (H:Hp) (a:Addr):Prop:=(∃ kvs,Rd H a (.dK kvs))∨∃ kvs,Rd H a (.dT kvs)
theorem rB {X:Cx} {pins:List (Addr×Obj)} {σ:St} {H:Hp} {s:Shared} {a:Addr} (I:Inv X pins σ H s) (d:IsD H a) :
  s.TypeIs (.ref a) "dict"∧(∀ b,Value.ref a = .ref b→∃ ob,s.heap.get? b=some ob∧ob.dict=none)∧(a == sysModules)=false:=by
 rcases d with ⟨kvs,e⟩ | ⟨kvs,e⟩
 ·obtain ⟨_,hd,vs,_,dd⟩:=iC I.hok e
  refine ⟨dd.typeIs,λb q=>?_,hd⟩
  cases q
  obtain ⟨ob,_,_,h1,h2,_⟩:=dd
  exact ⟨ob,h1,h2.2.1⟩
 ·obtain ⟨_,hd,xs,_,dd⟩:=iD I.hok e
  refine ⟨dd.typeIs,λb q=>?_,hd⟩
  cases q
  obtain ⟨ob,_,_,h1,h2,_⟩:=dd
  exact ⟨ob,h1,h2.2.1⟩
section
variable {X:Cx} {pins:List (Addr×Obj)} {σ:St} {H:Hp} {s:Shared} {a:Addr} {y d:V} {u r:Value} {o:Option V} {A:Around} {E:Value→Shared→Prop}
theorem vX {Q:Value→Shared→Prop} (hu:A.units+1<cLine) (I:Inv X pins σ H s) (g:dt H a y o) (ry:aL y u) (h:∀ w' s',Inv X pins σ H s'→aL (o.getD .non) w'→Q w' s') :
  wpAny (model X.prog X.w) A (call (.builtin "dict.get") [.ref a,u]) Q E s:=by
 rcases g with ⟨kvs,k,e,ey,l⟩ | ⟨kvs,k,b,e,ey,eb,l⟩
 ·subst ey
  obtain ⟨z,hd,vs,rel,dd⟩:=iC I.hok e
  refine call_meetsIn PySem.F.slot_dict_get dd.typeIs PySem.F.entry_dict_get (PySem.F.args_dict_get_2 _ _) (meets_dict_get (aD X.prog X.w) a (eS ry) hd) ⟨_,dd.mapOf,h _ _ (I.tok _) ?_⟩
  rw [l]
  exact (rel.val k).getD rfl
 ·subst ey
  cases (show u=Value.ref b from ry)
  obtain ⟨z,hd,xs,rel,dd⟩:=iD I.hok e
  refine call_meetsIn PySem.F.slot_dict_get dd.typeIs PySem.F.entry_dict_get (PySem.F.args_dict_get_2 _ _) (meetsH_dict_get (tupleKind (aD X.prog X.w)) a b hd) ⟨tupleKind_room_in1 hu,k,xs,gB I.hok eb,dd,h _ _ (I.tok _) ?_⟩
  rw [l]
  exact (rel.val k).getD rfl
end
noncomputable def vY (td ty:TE):TE:=λσ H Q=>td σ H λx H1=>∃ a,x = .ref a∧IsD H1 a∧ty σ H1 λy H2=>∃ o,dt H2 a y o∧Q (o.getD .non) H2
noncomputable def vZ (td ty tx:TE):TE:=λσ H Q=>td σ H λx H1=>∃ a,x = .ref a∧IsD H1 a∧ty σ H1 λy H2=>tx σ H2 λz H3=>∃ kvs k,H3 a=some (.dK kvs)∧y=kV k ∧
 (∀ v,bg kvs k=some v→Q v (upd H3 a (.dK (cQ kvs k))))∧(bg kvs k=none→Q z H3)
section
variable {X:Cx} {o e f:Expr} {apos cpos:Pos} {td ty tx:TE}
theorem iE (hu:X.A.units+1<cLine) (ho:PE X o td) (he:PE X e ty) (m:M1 X o "get" apos e cpos):PE X (.Call (.Attribute o "get" apos) [e] [] cpos) (vY td ty):=by
 intro pins s σ H Q I h
 refine wpAny_Call_method m.base m.few m.line PySem.F.plainAttrs_dict PySem.F.slot_dict_get PySem.F.type_dict_get (thn (ho pins s σ H _ I h) λu s1 hpt=>?_)
 obtain ⟨x,H1,I1,rx,a,ex,d,q1⟩:=hpt
 subst ex
 obtain rfl:u=Value.ref a:=rx
 obtain ⟨t1,t2,_⟩:=rB I1 d
 refine ⟨t1,t2,?_⟩
 rw [m.trees]
 refine Calls.callWith_builtin rfl (Calls.evalArgs_plain (Calls.spliced_cons (thn (he pins s1 σ H1 _ I1 q1) λiv s2 ⟨y,H2,I2,ry,ov,g,q2⟩=>Calls.spliced_nil ?_)))
 exact vX hu I2 g ry λw' s3 I3 rw'=>⟨_,H2,I3,rw',q2⟩
theorem rC (ho:PE X o td) (he:PE X e ty) (hf:PE X f tx) (m:M2 X o "pop" apos e f cpos):PE X (.Call (.Attribute o "pop" apos) [e,f] [] cpos) (vZ td ty tx):=by
 intro pins s σ H Q I h
 refine wpAny_Call_method m.base m.few m.line PySem.F.plainAttrs_dict PySem.F.slot_dict_pop PySem.F.type_dict_pop (thn (ho pins s σ H _ I h) λu s1 hpt=>?_)
 obtain ⟨x,H1,I1,rx,a,ex,d,q1⟩:=hpt
 subst ex
 obtain rfl:u=Value.ref a:=rx
 obtain ⟨t1,t2,_⟩:=rB I1 d
 refine ⟨t1,t2,?_⟩
 rw [m.trees]
 refine Calls.callWith_builtin rfl (Calls.evalArgs_plain (Calls.spliced_cons (thn (he pins s1 σ H1 _ I1 q1) λiv s2 ⟨y,H2,I2,ry,q2⟩ =>
  Calls.spliced_cons (thn (hf pins s2 σ H2 _ I2 q2) λfv s3 ⟨z,H3,I3,rz,kvs,k,ea,ey,q3,q4⟩=>Calls.spliced_nil ?_))))
 subst ey
 cases l:bg kvs k with
 | some v=>exact xA I3 ea ry l (.inr ⟨fv,rfl⟩) λw' s4 I4 rw'=>⟨v,_,I4,rw',q3 v l⟩
 | none=>exact vV I3 ea ry l λs4 I4=>⟨z,H3,I4,rz,q4 l⟩
end
section
variable {X:Cx} {pins:List (Addr×Obj)} {σ:St} {H:Hp} {s:Shared} {a:Addr} {kvs:List (Key×V)} {A:Around} {E:Value→Shared→Prop}
end
section
variable {X:Cx} {pins:List (Addr×Obj)} {σ:St} {H:Hp} {s:Shared} {a:Addr} {y:V} {u:Value} {A:Around} {E:Value→Shared→Prop}
end
end L2
namespace Att
open PySem PySem.W PySem.Calls PyProof.Rows
theorem gU {P:Params} {h:Heap}:∀ (ns:List Int) (vs:List Value),WellAll P h vs (ns.map WData.int)→IntsAre vs ns:=by
 intro ns
 induction ns with
 | nil =>
  intro vs w
  rw [List.map_nil] at w
  cases w
  exact .nil
 | cons n ns ih =>
  intro vs w
  rw [List.map_cons] at w
  cases w with
  | cons a b =>
   cases a
   exact .cons _ _ (ih _ b)
theorem pW {l:OpenLaw} {n:Nat} (hn:l.most=some n) {P:Params} {h:Heap} {args:List WData} {vals:List Value}
  (hpre:l.row.toRowW.claim.pre args=true) (hwl:WellAll P h vals args) :
  ∃ a vs ns,vals=[Value.ref a]∧args=[WData.list (ns.map WData.int)]∧h.get? a=some { cls:=.type "list",data:=.seq vs.toArray }∧IntsAre vs ns∧ns.length≤n:=by
 have hsh:WShape.hasAll [] args [.list .int]=true:=(pre_splitW hpre).1
 have hc:l.pre.holds [] { args:=args }=true:=(pre_splitW hpre).2
 obtain ⟨d,r,rfl,h1,h2⟩:=hasAllW_cons hsh
 obtain rfl:=hasAllW_nil h2
 obtain ⟨xs,rfl,h3⟩:=hasW_list h1
 obtain ⟨ns,rfl⟩:=items_int h3
 have hlen:ns.length≤n:=by
  unfold OpenLaw.pre at hc
  have h4:(WTm.not (.lt (.lit (.int (n:Int))) (.len (.arg 0)))).holds [] { args:=[.list (ns.map .int)] }=true:=by
   have h4:=(holds_andW hc).1
   rw [hn] at h4
   exact h4
  have h5:=condW_of h4 (w_not (w_lt w_lit (w_len_list (w_arg rfl))))
  rw [List.length_map] at h5
  refine Nat.le_of_not_lt λq=>?_
  have q':(n:Int)<((ns.length:Nat):Int):=by omega
  first
   | (rw [decide_eq_true q'] at h5; exact absurd h5 (by decide))
   | (simp at h5; omega)
 cases hwl with
 | cons w1 w2 =>
  cases w2
  cases w1 with
  | list ho hall=>exact ⟨_,_,ns,rfl,rfl,ho,gU ns _ hall,hlen⟩
theorem pX (l:OpenLaw) (args:List WData):l.row.toRowW.claim.post args (.bool true) args=true :=
 postW_of (r:=l.row.toRowW) (X:=(true == true))
  (show WShape.has [] (.bool true) .bool=true by first | rfl | decide | simp [WShape.has,WShape.arms,WShape.armsAll])
  (show (WTm.eq .res (.lit (.bool true))).value [] { args:=args,res:=some (.bool true),after:=args }=some (.bool (true == true)) from w_eq_bool (w_res rfl) w_lit) rfl
theorem lU {l:OpenLaw} {n:Nat} {q:Program} {loose:List Str} {XP:(Str→Option Value)→Heap→Prop} {YP:World→Heap→Prop} {d:DefRec}
  (hn:l.most=some n) (hdf:d.params.defaults=[])
  (call:∀ (w:World) (s₀ s₁:Shared) (mg mb:Str→Option Value) (fa:Addr) (o:Obj) (pm cd doc:Value) (a:Addr) (vs:List Value) (ns:List Int),
   Ground q loose [] XP w s₀ mg mb s₁.heap→YP w s₁.heap →
   s₁.heap.get? fa=some o→o.data = .func (docDef d.name d.params d.body d.scope pm cd doc)→s₁.heap.CodeRec cd d.name→mg d.name=some (.ref fa) →
   s₁.heap.get? a=some { cls:=.type "list",data:=.seq vs.toArray }→IntsAre vs ns→ns.length≤n→s₁.gens = #[] →
   codeAny (model l.prog w) callerA (.call (.ref fa) ⟨[.ref a],[]⟩) (λr s'=>r = .ok (.ret (.bool true))∧OldK s₁.heap s'.heap∧s'.os=s₁.os∧AllBare s'.gens) s₁) :
  WalkO q loose XP YP l.row.toRowW d [] (λf vs=>PySem.call f vs):=by
 intro w s₀ s₁ mg mb G Y fa o pm cd doc dV kV ho hd hcd hD hmg hg args vals as hpre hlay hrd hwl hlo
 obtain rfl:dV = .none:=Dflts.none hD hdf
 obtain rfl:kV = .none:=Dflts.noKw hD
 obtain ⟨a,vs,ns,rfl,rfl,hobj,hints,hlen⟩:=pW hn hpre hwl
 refine enter_call (codeAny_mono (call w s₀ s₁ mg mb fa o pm cd doc a vs ns G Y ho (fd_plain hd) hcd hmg hobj hints hlen hg) λr s' hq=>?_)
 obtain ⟨rfl,h2,h3,h4⟩:=hq
 exact ⟨.inl ⟨.bool true,.bool true,[],rfl,λ_=>rfl,.bool true,pX l _,λ_=>⟨List.Pairwise.nil,λ_ hm=>(nomatch hm)⟩⟩,h2,h3,h4⟩
section
variable {prog:Program} {w:World} {A:Around} {E:Value→Shared→Prop} {s:Shared} {K:Frag}
end
end Att
namespace L2
open PySem PySem.Spec PyProof.Rows
theorem jG:∀ {vs:List Value} {ns:List Int},IntsAre vs ns→aE (ns.map V.int) vs
 | _,_,.nil=>.nil
 | _,_,.cons n t h=>.cons ⟨t,rfl⟩ (jG h)
noncomputable def wb (H:Hp):Prop:=∀ b,H b=none∨∃ o xs,H b=some (.frz o (.lst xs))
theorem rD {P:Program} {w:World} {K:PySem.W.Frag} {mg mb:Str→Option Value} {CX:CXT} {k:Nat} {fa a:Addr} {fd:FuncData} {x:Str} {sp:Sp} {s₁:Shared} {vs:List Value} {ns:List Int}
  (KX:K.In s₁.heap) (hns:s₁.heap.Ns mainGlobals mg) (hb:s₁.heap.Ns builtinsNs mb) (hbb:∀ x:Str,x≠"__name__"→mb x=bootBuiltins x) (hlim:s₁.heap.NoLimit) (hg:s₁.gens = #[])
  (ha:s₁.heap.get? a=some { cls:=.type "list",data:=.seq vs.toArray }) (hi:IntsAre vs ns) (hl:ns.length≤sizeLine) (hr:Room k callerA)
  (F:∀ base:Heap,K.In base→base.Ns mainGlobals mg→FnOk P w K mg base CX k fa fd [x] sp) (hbind:∀ (s:Shared) (u:Value),BindsTo s fd ⟨[u],[]⟩ [(x,u)])
  (hsp:∀ H:Hp,wb H→SqL K H a (ns.map V.int)→sp [.ref a] H (λv _=>v = .bl true) λ_ _ _=>False)
  (hCX:∀ H e s',CX [] H s₁ (λ_ _ _=>False) e s'→False) :
  codeAny (model P w) callerA (.call (.ref fa) ⟨[.ref a],[]⟩) (λr s'=>r = .ok (.ret (.bool true))∧OldK s₁.heap s'.heap∧s'.os=s₁.os∧AllBare s'.gens) s₁:=by
 have rv:=jG hi
 have lenV:=hi.length
 have core:∀ H:Hp,wb H→SqL K H a (ns.map V.int)→HOk P w H s₁.heap→(∀ b,H b≠none→b=a)→(H a≠none→K.lookup a=none) →
   codeAny (model P w) callerA (.call (.ref fa) ⟨[.ref a],[]⟩) (λr s'=>r = .ok (.ret (.bool true))∧OldK s₁.heap s'.heap∧s'.os=s₁.os∧AllBare s'.gens) s₁:=by
  intro H hO hS hok hA hK
  have base_of:∀ {b:Addr} {o:Obj},s₁.heap.get? b=some o→H b=none→(km s₁.heap H).get? b=some o:=λe n=>qR e n
  have noA:∀ {b:Addr} {o:Obj} {es:Array DictEntry} {ep:Nat},s₁.heap.get? b=some o→o.data = .dict es ep→H b=none:=λ{b o es ep} e d=>by
   cases q:H b with
   | none=>rfl
   | some u =>
    have e':b=a:=hA b (by rw [q]; simp)
    subst e'
    rw [ha] at e; cases e
    have d':Data.seq vs.toArray _=Data.dict es ep:=d
    cases d'
  have nsK:∀ {b:Addr} {m:Str→Option Value},s₁.heap.Ns b m→(km s₁.heap H).Ns b m:=λ{b m} ⟨o,es,ep,e,d,r⟩=>⟨o,es,ep,base_of e (noA e d),d,r⟩
  have hKb:K.In (km s₁.heap H):=λb o e=>base_of (KX b o e) (by
   cases q:H b with
   | none=>rfl
   | some u =>
    have e':b=a:=hA b (by rw [q]; simp)
    subst e'
    rw [hK (by rw [q]; simp)] at e; cases e)
  have hM:Mod K mg (km s₁.heap H):=⟨hKb,nsK hns,⟨mb,nsK hb,hbb⟩,let ⟨mc,h1,h2⟩:=hlim; ⟨mc,nsK h1,h2⟩⟩
  have e0:Env0 P w K mg (km s₁.heap H) callerA [] s₁ H:=⟨rfl,hM,λb o e=>tN e,Nat.le_of_eq (pO _ _),trivial,λb hb=>absurd (show b∈([]:List Addr) from hb) (by simp),hok,.of_eq hg⟩
  refine codeAny_mono ((F _ hKb (nsK hns)).run callerA [] s₁ H ⟨[.ref a],[]⟩ [.ref a] [.ref a] _ _ hr e0 (hbind s₁ (.ref a)) (.cons rfl .nil) (hsp H hO hS)) λr s' h=>?_
  cases r with
  | error e=>exact (hCX H e s' h).elim
  | ok fl =>
   cases fl with
   | next=>exact False.elim h
   | brk=>exact False.elim h
   | cont=>exact False.elim h
   | ret u =>
    obtain ⟨v,H',os,bare,un,hok',r',q⟩:=h
    have q':v = .bl true:=q
    subst q'
    obtain rfl:u=Value.bool true:=r'
    refine ⟨rfl,OldK.of_keep λb o e=>?_,os,bare⟩
    cases q:H b with
    | none=>exact un.keep b o e q (by intro z; exact absurd (show b∈([]:List Addr) from z) (by simp)) (by simp)
    | some u =>
     rcases hO b with z | ⟨ob,xs,z⟩
     ·rw [q] at z; cases z
     ·have z2:=un.frzs b ob _ z
      obtain ⟨e1,_⟩:=hok b _ z
      obtain ⟨e2,_⟩:=hok' b _ z2
      rw [e] at e1; cases e1
      exact e2
 cases hk:K.lookup a with
 | some o =>
  have e:=KX a o hk
  rw [ha] at e
  cases e
  refine core (λ_=>none) (λ_=>.inl rfl) (.inr ⟨_,vs.toArray,_,hk,rfl,rfl,rfl,by rw [List.size_toArray,lenV]; exact hl,by simpa using rv⟩) (λb u z=>by have z':(none:Option HO)=some u:=z; cases z') (λb z=>absurd rfl z) λz=>absurd rfl z
 | none =>
  refine core (λb=>if b=a then some (.frz { cls:=.type "list",data:=.seq vs.toArray } (.lst (ns.map V.int))) else none) (λb=>?_) (.inl (.inr ⟨{ cls:=.type "list",data:=.seq vs.toArray },if_pos rfl⟩)) (λb u z=>?_) (λb z=>?_) λ_=>hk
  ·by_cases hb:b=a
   ·exact .inr ⟨_,_,if_pos hb⟩
   ·exact .inl (if_neg hb)
  ·by_cases hb:b=a
   ·have z':=(if_pos hb).symm.trans z
    cases z'
    subst hb
    exact ⟨ha,by rw [List.length_map]; exact hl,vs,_,rv,ha⟩
   ·have z':=(if_neg hb).symm.trans z
    cases z'
  ·by_cases hb:b=a
   ·exact hb
   ·exact absurd (if_neg hb) z
theorem tW {l:PySem.W.OpenLaw} {n k:Nat} {q:Program} {loose:List Str} {XP:(Str→Option Value)→Heap→Prop} {YP:World→Heap→Prop} {d:DefRec} {K:Params→PySem.W.Frag} {CX:World→CXT} {sp:World→Sp} {x:Str}
  (hn:l.most=some n) (hn2:n≤sizeLine) (hdf:d.params.defaults=[]) (hr:Room k callerA)
  (hY:∀ (w:World) (h:Heap),YP w h→(K w.params).In h)
  (F:∀ (w:World) (mg:Str→Option Value) (fa:Addr) (h:Heap),(K w.params).In h→h.Ns mainGlobals mg→mg d.name=some (.ref fa) →
   ∃ fd:FuncData,(∀ (s:Shared) (u:Value),BindsTo s fd ⟨[u],[]⟩ [(x,u)]) ∧
    ∀ base:Heap,(K w.params).In base→base.Ns mainGlobals mg→FnOk l.prog w (K w.params) mg base (CX w) k fa fd [x] (sp w))
  (hsp:∀ (w:World) (H:Hp) (a:Addr) (ns:List Int),ns.length≤n→wb H→SqL (K w.params) H a (ns.map V.int)→sp w [.ref a] H (λv _=>v = .bl true) λ_ _ _=>False)
  (hCX:∀ (w:World) (H:Hp) (s:Shared) (e:Value) (s':Shared),CX w [] H s (λ_ _ _=>False) e s'→False) :
  PySem.W.WalkO q loose XP YP l.row.toRowW d [] (λf vs=>PySem.call f vs):=by
 refine Att.lU hn hdf λw s₀ s₁ mg mb fa o pm cd doc a vs ns G Y ho hd hcd hmg hobj hints hlen hg=>?_
 have KX:=hY w _ Y
 obtain ⟨fd,hb,hF⟩:=F w mg fa _ KX G.T.g hmg
 exact rD KX G.T.g G.T.b G.T.builtins G.T.nolimit hg hobj hints (Nat.le_trans hlen hn2) hr hF hb (λH hO hS=>hsp w H a ns hlen hO hS) λH e s'=>hCX w H s₁ e s'
noncomputable def aI (s:Stmt):Arguments:=match s with
 | .FunctionDef _ a _ _ _ _ _ _ _ _=>a
 | _=>{ posonlyargs:=[],args:=[],vararg:=none,kwonlyargs:=[],kw_defaults:=[],kwarg:=none,defaults:=[] }
noncomputable def ao (s:Stmt):List Stmt:=match s with
 | .FunctionDef _ _ b _ _ _ _ _ _ _=>b
 | _=>[]
noncomputable def ae (s:Stmt):Scope:=match s with
 | .FunctionDef _ _ _ _ _ _ sc _ _ _=>sc
 | _=>{ kind:=.function,names:=[],isGenerator:=false,isCoroutine:=false }
noncomputable abbrev CX0:CXT:=λ_ _ _ _ _ _=>False
noncomputable abbrev E0:XK:=λ_ _ _=>False
theorem au {X:Cx}:kw CX0 X E0:=λ_ _ _ _ _ _ _ h=>h.elim
structure Fun (K:PySem.W.Frag) (x qual:Str) (st:Stmt) (f:Addr) (fd:FuncData):Prop where
 ex:∃ (oc:Value) (od:Option Addr) (kV doc pm:Value) (an:Option Addr) (cdv ct:Value) (osl:Array (Option Value)),
  fd=PySem.W.fnOf x qual (aI st) (ao st) (ae st) .none kV doc pm an cdv ct∧K.lookup f=some ⟨oc,od,.func fd,osl⟩∧PySem.W.codeIn K cdv qual=true
 kp:PySem.W.keepIn K (.ref f)=true
section
variable {P:Program} {w:World} {K:PySem.W.Frag} {mg:Str→Option Value} {base:Heap}
theorem Fun.ok {x qual:Str} {st:Stmt} {f:Addr} {fd:FuncData} {N ps:List Str} {k:Nat} {sp:Sp} (F:Fun K x qual st f fd) (S:FnScope N ps (ae st)) (len:∀ vs H Q E,sp vs H Q E→vs.length=ps.length)
  (hbody:∀ (cdv:Value) (A:Around) (outer:List Env) (s:Shared) (H:Hp) (vs:List V) (Q:VK) (E:XK),Room k (A.deeper (envOfC qual (ae st) s.heap.objs.size f cdv))→sp vs H Q E →
   ∃ t,PSs (eR CX0 P w K mg base N qual (ae st) f cdv A outer s H E).nox (ao st) t∧t { nx:=λ_ H'=>Q .non H',rt:=Q } (start N vs) H):FnOk P w K mg base CX0 (k+1) f fd ps sp:=by
 obtain ⟨oc,od,kV,doc,pm,an,cdv,ct,osl,rfl,lk,hcd⟩:=F.ex
 refine vm lk hcd S len λA outer s H vs Q E hr hsp=>?_
 obtain ⟨t,h,q⟩:=hbody cdv A outer s H vs Q E hr hsp
 exact ⟨t,h.nox,q⟩
theorem Fun.binds {x qual:Str} {st:Stmt} {f:Addr} {fd:FuncData} {ps:List Str} (F:Fun K x qual st f fd)
  (h:∀ (kV doc pm:Value) (an:Option Addr) (cdv ct:Value) (us:List Value),us.length=ps.length→bindArgs (PySem.W.fnOf x qual (aI st) (ao st) (ae st) .none kV doc pm an cdv ct) ⟨us,[]⟩=pure (ps.zip us)):ix K fd ps []:=by
 obtain ⟨oc,od,kV,doc,pm,an,cdv,ct,osl,rfl,lk,hcd⟩:=F.ex
 exact .all (h kV doc pm an cdv ct)
theorem be {x qual:Str} {st:Stmt} {f:Addr} {oc:Value} {od an:Option Addr} {osl:Array (Option Value)} {kV doc pm cdv ct:Value} (l:K.lookup f=some ⟨oc,od,.func (PySem.W.fnOf x qual (aI st) (ao st) (ae st) .none kV doc pm an cdv ct),osl⟩)
  (c:PySem.W.codeIn K cdv qual=true) (k:PySem.W.keepIn K (.ref f)=true):Fun K x qual st f (PySem.W.fnOf x qual (aI st) (ao st) (ae st) .none kV doc pm an cdv ct):=⟨⟨oc,od,kV,doc,pm,an,cdv,ct,osl,rfl,l,c⟩,k⟩
end
theorem ca {A:Around} {k:Nat} (hr:Room k A):A.units+1<cLine:=Nat.lt_of_le_of_lt (Nat.add_le_add_left (by decide:1≤64) _) hr.units
theorem aS {n:Nat} (h:n≤1000):n<sizeLine:=Nat.lt_of_le_of_lt h (by decide)
section
variable {X:Cx}
theorem pv (i:Nat) {x:Str} {pos:Pos} (hN:X.N[i]? = some x:=by rfl) (hv:Vis X.env.scope x:=by first | exact Or.inl rfl | exact Or.inr (Or.inl rfl) | exact Or.inr (Or.inr rfl)) (hd:(x == ("__debug__":Str))=false:=by decide)
  (hcd:(x == ("__classdict__":Str))=false:=by decide):PE X (.Name x pos) (jl i):=vG hN hv hd hcd
end
theorem aR {A B:Prop} (h:B):if false=true then A else B:=by
 rw [if_neg Bool.false_ne_true]
 exact h
theorem bx {A B:Prop} (h:A):if true=true then A else B:=by
 rw [if_pos rfl]
 exact h
theorem rE {c A B:Prop} [Decidable c] (h1:c→A) (h2:¬ c→B):if c then A else B:=by
 by_cases h:c
 ·rw [if_pos h]
  exact h1 h
 ·rw [if_neg h]
  exact h2 h
theorem xE {c A B:Prop} [Decidable c] (hc:c) (h:B):if (!decide c)=true then A else B:=by
 rw [decide_eq_true hc]
 exact aR h
noncomputable def Same (H H':Hp):Prop:=∀ b o,H b=some o→H' b=some o
theorem Same.refl (H:Hp):Same H H:=λ_ _ h=>h
theorem Same.trans {H H1 H2:Hp} (a:Same H H1) (b:Same H1 H2):Same H H2:=λc o h=>b c o (a c o h)
theorem Same.free {H H':Hp} (e:Same H H') {l:Addr} (h:H' l=Option.none):H l=Option.none:=by
 cases q:H l with
 | none=>rfl
 | some o =>
  rw [e l o q] at h
  cases h
theorem Same.seq {K:PySem.W.Frag} {H H':Hp} {a:Addr} {xs:List V} (e:Same H H') (h:SqL K H a xs):SqL K H' a xs:=by
 rcases h with (h | ⟨o,h⟩) | h
 ·exact .inl (.inl (e _ _ h))
 ·exact .inl (.inr ⟨o,e _ _ h⟩)
 ·exact .inr h
section
variable {κ:Type} [DecidableEq κ]
theorem rF {kvs:List (κ×V)} {k:κ} (h:bg kvs k=none):¬ k∈kvs.map (·.1):=by
 intro m
 obtain ⟨p,hp,e⟩:=List.mem_map.mp m
 have q:(kvs.any λkv=>decide (kv.1=k))=true:=List.any_eq_true.mpr ⟨p,hp,decide_eq_true e⟩
 rw [cH,h] at q
 exact absurd q (by simp)
theorem oP {kvs:List (κ×V)} {k:κ} {v:V} (h:bg kvs k=some v):k∈kvs.map (·.1):=by
 have q:(kvs.any λkv=>decide (kv.1=k))=true:=by
  rw [cH,h]
  all_goals rfl
 obtain ⟨p,hp,e⟩:=List.any_eq_true.mp q
 exact List.mem_map.mpr ⟨p,hp,of_decide_eq_true e⟩
theorem pY {p:κ×V} {r:List (κ×V)} {k:κ} (e:p.1=k):cQ (p :: r) k=cQ r k:=by
 unfold cQ
 rw [List.filter_cons,if_neg (by simp [e])]
theorem pZ {p:κ×V} {r:List (κ×V)} {k:κ} (e:¬ p.1=k):cQ (p :: r) k=p :: cQ r k:=by
 unfold cQ
 rw [List.filter_cons,if_pos (by simp [e])]
end
structure LcOk (X:Cx) (scope:Scope) (cl:List (Str×Addr)):Prop where
 kind:scope.kind = .function
 clos:closureFor scope X.env=pure cl
 names:∀ x∈scope.names,x.2 = .local→scope.names.lookup x.1=some .local
 nocell:∀ x∈scope.names,x.2 ≠ .cell
 cells:∀ x c,cl.lookup x=some c→X.env.cells.lookup x=some c
 has:∀ x,((relabel scope X.env).names.lookup x=some .cell∨(relabel scope X.env).names.lookup x=some .free)→∃ c,cl.lookup x=some c
noncomputable abbrev cf (X:Cx) (N:List Str) (scope:Scope) (cl:List (Str×Addr)) (s:Shared) (H:Hp) (ex:List Addr):Cx :=
 { X with N:=N,s₀:=s,H₀:=H,env:=compEnvC scope cl s.heap.objs.size X.env,outer:=X.stack,stack:=X.stack,ex:=ex,fn:=λ_=>false,pn:=[],xe:=λ_ _=>False }
section
variable {X:Cx} {pins:List (Addr×Obj)} {σ:St} {H:Hp} {s:Shared} {N:List Str} {scope:Scope} {cl:List (Str×Addr)} {fp:List Addr}
theorem lV (I:Inv X pins σ H s) (L:LcOk X scope cl) (hf:∀ b∈fp,dY X pins H b) (ho:∀ b∈fp,b<s.heap.objs.size):(cf X N scope cl s H fp).Ok where
 mod:=I.ok.mod
 kind:=L.kind
 glob:=I.ok.glob
 blt:=I.ok.blt
 above:=Nat.le_refl _
 inj:=λx y c h1 h2=>I.ok.inj x y c (L.cells x c h1) (L.cells y c h2)
 has:=λx hx=>L.has x hx
 cab:=λx c h _=>absurd h (by simp)
 hd:=I.ok.hd
 frames:=I.ok.frames
 stk:=.inl rfl
 exf:=λb hb=>⟨Nat.ne_of_lt (ho b hb),λx c h=>(hf b hb).2.2.2.2.1 x c (L.cells x c h)⟩
 bs:=I.bs
 bsz:=Nat.le_trans I.ok.bsz I.sz
 noex:=λb o e hb=>by
  rcases (hf b hb).2.2.2.1 with z | z
  ·exact I.ok.noex b o e z
  ·exact absurd (Nat.lt_of_lt_of_le (Heap.lt_size e) (Nat.le_trans I.ok.bsz z)) (Nat.lt_irrefl _)
 exfs:=λb hb hs=>by
  rcases List.mem_cons.mp (I.stkSub b hs) with z | z
  ·exact (hf b hb).2.1 z
  ·exact (hf b hb).2.2.1 z
 funs:=I.stack
 frf:=I.stkFree
noncomputable def cS (k:Nat) (js:List Nat) (σ:St):St:=List.replicate k none++js.map λj=>(σ[j]?).getD none
theorem fJ {h₁:Heap} {tk:Nat} {k:Nat} {js:List Nat} (I:Inv X pins σ H s) (L:LcOk X scope cl) (hf:∀ b∈fp,dY X pins H b) (ho:∀ b∈fp,b<s.heap.objs.size)
  (hns:∃ m,h₁.Ns s.heap.objs.size m) (hk:∀ b o,s.heap.get? b=some o→h₁.get? b=some o)
  (hN:N.length=k+js.length) (hj:∀ (i j:Nat) x,js[i]? = some j→N[k+i]? = some x→X.N[j]? = some x∧Vis X.env.scope x∧X.env.scope.names.lookup x≠some .local∧((relabel scope X.env).names.lookup x=some .cell∨(relabel scope X.env).names.lookup x=some .free)) :
  Inv (cf X N scope cl s H fp) [] (cS k js σ) H { s with heap:=h₁,toks:=tk }:=by
 obtain ⟨m,hm⟩:=hns
 have cellK:∀ c v,s.heap.IsCell c v→h₁.IsCell c v:=λc v ⟨o,e,d⟩=>⟨o,hk c o e,d⟩
 refine ⟨lV I L hf ho,rfl,I.bare,Un.kept hk,⟨m,hm,λi x v e1 e2 e3=>?_⟩,λx c e=>?_,I.hok.fresh (Nat.le_refl _),λx c e=>I.freeC x c (L.cells x c e),λp hp=>absurd (show p∈([]:List (Addr×Obj)) from hp) (by simp),I.hok.kept hk,?_⟩
 ·unfold cS at e2
  by_cases hi:i<k
  ·rw [List.getElem?_append_left (by simpa using hi),List.getElem?_replicate] at e2
   split at e2 <;> cases e2
  ·obtain ⟨i',rfl⟩:∃ i',i=k+i':=⟨i - k,by omega⟩
   rw [List.getElem?_append_right (by simp),List.length_replicate,Nat.add_sub_cancel_left,List.getElem?_map] at e2
   cases ej:js[i']? with
   | none=>rw [ej] at e2; cases e2
   | some j =>
    rw [ej] at e2
    have e2':(σ[j]?).getD none=some v:=Option.some.inj e2
    obtain ⟨h1,h2,h3,h4⟩:=hj i' j x ej e1
    have e4:σ[j]? = some (some v):=by
     cases q:σ[j]? with
     | none=>rw [q] at e2'; cases e2'
     | some y=>rw [q] at e2'; exact congrArg some e2'
    obtain ⟨m0,_,hl⟩:=I.loc
    obtain ⟨u,r,lk⟩:=hl j x v h1 e4 h2
    refine ⟨u,r,.inr ⟨h4,?_⟩⟩
    rcases lk with ⟨q,_⟩ | ⟨_,c,e5,e6⟩
    ·exact absurd q h3
    ·obtain ⟨c',e7⟩:=L.has x h4
     have:c'=c:=Option.some.inj ((L.cells x c' e7).symm.trans e5)
     subst this
     exact ⟨c',e7,cellK c' _ e6⟩
 ·obtain ⟨v,e1⟩:=I.cell x c (L.cells x c e)
  exact ⟨v,cellK c v e1⟩
 ·unfold cS
  rw [List.length_append,List.length_replicate,List.length_map]
  exact hN.symm
theorem kY {H':Hp} {σ':St} {s':Shared} {h':Heap} (I:Inv X pins σ H s) (hf:∀ b∈fp,dY X pins H b) (J:Inv (cf X N scope cl s H fp) [] σ' H' s') (hs:Heap.SameBut s.heap.objs.size s'.heap h'):Inv X pins σ H' { s' with heap:=h' }:=by
 have ne:∀ b o,s.heap.get? b=some o→b≠s.heap.objs.size:=λb o e=>Nat.ne_of_lt (Heap.lt_size e)
 have u:=J.base
 have u':Un (frs X.stack) fp H H' s.heap h' :=
  ⟨λb o e n hb hx=>(hs.2 b (ne b o e)).trans (u.keep b o e n hb hx),λb o e n hb hx=>by
   obtain ⟨sl,q⟩:=u.slot b o e n hb hx
   exact ⟨sl,(hs.2 b (ne b o e)).trans q⟩,u.free,λb o e hx=>by
   obtain ⟨o',q⟩:=u.there b o e hx
   exact ⟨o',(hs.2 b (ne b o e)).trans q⟩,u.tups,u.frzs,u.tbls⟩
 have nt:∀ b o,H' b=some o→b≠s.heap.objs.size:=λb o e z=>by
  have:=J.free
  rw [show (cf X N scope cl s H fp).env.locals=s.heap.objs.size from rfl,← z,e] at this
  cases this
 refine I.call' (s':={ s' with heap:=h' }) J.os u' (λb o e=>?_) J.bare λb hb=>?_
 ·refine (J.hok b o e).stay (λc v hc q=>(hs.2 c ?_).trans q) (λ_ q=>q) λ_ _ q=>q
  rcases hc with z | z
  ·rw [z]; exact nt b o e
  ·exact nt c _ z
 ·obtain ⟨f0,f1,f2,f3,f4,f5⟩:=hf b hb
  exact ⟨f3,f1,f4,f5⟩
end
section
variable {prog:Program} {w:World} {A:Around} {R:Result→Shared→Prop} {s:Shared}
theorem oQ {elt target iter:Expr} {scope:Scope} {pos:Pos} {it acc:Value} {env:Env} (I:Nat→Shared→Prop)
  (turn:∀ n s,I n s→wpAny (model prog w) A (pyNext it) (λr s₁=>match r with
   | none=>R (.ok .next) s₁
   | some v=>wpAny (model prog w) A (letOwnedTupleGo target it v) (λ_ s₂=>wpAny (model prog w) A (assign target env v) (λ_ s₃=>wpAny (model prog w) A (eval elt env) (λx s₄ =>
     wpAny (model prog w) A (call (.builtin "list.append") [acc,x]) (λ_ s₅=>∃ m,m<n∧I m s₅) (λ_ _=>False) s₄) (λ_ _=>False) s₃) (λ_ _=>False) s₂) (λ_ _=>False) s₁) (λ_ _=>False) s)
  (n:Nat) (h:I n s):codeAny (model prog w) A (.compLoop (.ListComp elt [⟨target,iter,[],0⟩] scope pos) 0 it acc env) R s:=by
 refine codeAny_loop rfl I (λn s hI=>?_) n h
 show wpAny _ _ ((compTurn (.ListComp elt [⟨target,iter,[],0⟩] scope pos) 0 it acc env).onRaise (λx=>do noteFrame x env; theTreesLotGoes x)) _ _ s
 refine wpAny_noted ?_
 rw [compTurn_list1]
 refine wpAny_bind (wpAny_standAt (wpAny_bind (wpAny_mono (turn n s hI) (λr s₁ h₁=>?_) λ_ _ h'=>h'.elim)))
 cases r with
 | none=>exact wpAny_pure h₁
 | some v =>
  refine wpAny_bind (wpAny_mono h₁ (λ_ s₂ h₂=>?_) λ_ _ h'=>h'.elim)
  exact wpAny_bind (wpAny_mono h₂ (λ_ s₂ h₂=>wpAny_bind (wpAny_bind (wpAny_mono h₂ (λx s₃ h₃=>wpAny_bind (wpAny_mono h₃
   (λ_ s₄ h₄=>wpAny_pure (wpAny_pure ⟨rfl,h₄⟩)) λ_ _ h'=>h'.elim)) λ_ _ h'=>h'.elim))) λ_ _ h'=>h'.elim)
theorem iF (elt target iter c:Expr) (scope:Scope) (pos:Pos) (it acc:Value) (env:Env) :
  compTurn (.ListComp elt [⟨target,iter,[c],0⟩] scope pos) 0 it acc env=(standAt iter.pos >>= λ_=>pyNext it >>= λr=>match r with
   | none=>pure (.done .next)
   | some v=>letOwnedTupleGo target it v >>= λ_=>assign target env v >>= λ_ =>
    (forIn [c] true λc r=>if r=true then do let ok ← isTrue c env (eval c env); pure (ForInStep.yield ok) else pure (ForInStep.yield r)) >>= λok =>
    if ok=true then (eval elt env >>= λx=>call (.builtin "list.append") [acc,x] >>= λ_=>pure ()) >>= λ_ =>
     again (.compLoop (.ListComp elt [⟨target,iter,[c],0⟩] scope pos) 0 it acc env)
    else again (.compLoop (.ListComp elt [⟨target,iter,[c],0⟩] scope pos) 0 it acc env)):=by rfl
theorem lW {elt target iter c:Expr} {scope:Scope} {pos:Pos} {it acc:Value} {env:Env} (I:Nat→Shared→Prop)
  (turn:∀ n s,I n s→wpAny (model prog w) A (pyNext it) (λr s₁=>match r with
   | none=>R (.ok .next) s₁
   | some v=>wpAny (model prog w) A (letOwnedTupleGo target it v) (λ_ s₂=>wpAny (model prog w) A (assign target env v) (λ_ s₃=>wpAny (model prog w) A (isTrue c env (eval c env)) (λok s₃ =>
     if ok=true then wpAny (model prog w) A (eval elt env) (λx s₄ =>
      wpAny (model prog w) A (call (.builtin "list.append") [acc,x]) (λ_ s₅=>∃ m,m<n∧I m s₅) (λ_ _=>False) s₄) (λ_ _=>False) s₃
     else ∃ m,m<n∧I m s₃) (λ_ _=>False) s₃) (λ_ _=>False) s₂) (λ_ _=>False) s₁) (λ_ _=>False) s)
  (n:Nat) (h:I n s):codeAny (model prog w) A (.compLoop (.ListComp elt [⟨target,iter,[c],0⟩] scope pos) 0 it acc env) R s:=by
 refine codeAny_loop rfl I (λn s hI=>?_) n h
 show wpAny _ _ ((compTurn (.ListComp elt [⟨target,iter,[c],0⟩] scope pos) 0 it acc env).onRaise (λx=>do noteFrame x env; theTreesLotGoes x)) _ _ s
 refine wpAny_noted ?_
 rw [iF]
 refine wpAny_bind (wpAny_standAt (wpAny_bind (wpAny_mono (turn n s hI) (λr s₁ h₁=>?_) λ_ _ h'=>h'.elim)))
 cases r with
 | none=>exact wpAny_pure h₁
 | some v =>
  refine wpAny_bind (wpAny_mono h₁ (λ_ s₂ h₂=>?_) λ_ _ h'=>h'.elim)
  refine wpAny_bind (wpAny_mono h₂ (λ_ s₃ h₃=>?_) λ_ _ h'=>h'.elim)
  rw [List.forIn_cons]
  simp only [if_true]
  refine wpAny_bind (wpAny_bind (wpAny_bind (wpAny_mono h₃ (λok s₄ h₄=>wpAny_pure ?_) λ_ _ h'=>h'.elim)))
  simp only [List.forIn_nil]
  refine wpAny_pure ?_
  cases ok with
  | true =>
   rw [if_pos rfl] at h₄ ⊢
   exact wpAny_bind (wpAny_bind (wpAny_mono h₄ (λx s₃ h₃=>wpAny_bind (wpAny_mono h₃ (λ_ s₄ h₄=>wpAny_pure (wpAny_pure ⟨rfl,h₄⟩)) λ_ _ h'=>h'.elim)) λ_ _ h'=>h'.elim))
  | false =>
   rw [if_neg (by simp)] at h₄ ⊢
   exact wpAny_pure ⟨rfl,h₄⟩
end
noncomputable def LcW (k:Nat) (js:List Nat) (g:TG) (te:TE) (σ:St) (Q:VK) (J:It) (H1:Hp) (p:Addr):Prop:=∃ W:Nat→Nat→List V→St→Hp→Prop,
 (∃ m,W 0 m [] (cS k js σ) (upd H1 p (.lst [])))∧∀ i m ys σ' H',W i m ys σ' H'→(J.stop i H'∧Q (.ref p) H') ∨
  (J.go i H'∧ys.length<sizeLine∧∀ x H2,J.yld i H' x H2→g x σ' H2 λσ2 H3=>te σ2 H3 λy H4=>H4 p=some (.lst ys)∧∃ m',m'<m∧W (i+1) m' (ys++[y]) σ2 (upd H4 p (.lst (ys++[y]))))
noncomputable def tLc (k:Nat) (js:List Nat) (wi:TI) (g:TG) (te:TE):TE:=λσ H Q=>wi σ H λJ H1=>∀ p,H1 p=none→LcW k js g te σ Q J H1 p
noncomputable def xF (k:Nat) (js:List Nat) (g:TG) (tc:TT) (te:TE) (σ:St) (Q:VK) (J:It) (H1:Hp) (p:Addr):Prop:=∃ W:Nat→Nat→List V→St→Hp→Prop,
 (∃ m,W 0 m [] (cS k js σ) (upd H1 p (.lst [])))∧∀ i m ys σ' H',W i m ys σ' H'→(J.stop i H'∧Q (.ref p) H') ∨
  (J.go i H'∧ys.length<sizeLine∧∀ x H2,J.yld i H' x H2→g x σ' H2 λσ2 H3=>tc σ2 H3 λb H4=>if b=true then te σ2 H4 λy H5=>H5 p=some (.lst ys)∧∃ m',m'<m∧W (i+1) m' (ys++[y]) σ2 (upd H5 p (.lst (ys++[y])))
   else ∃ m',m'<m∧W (i+1) m' ys σ2 H4)
noncomputable def wc (k:Nat) (js:List Nat) (wi:TI) (g:TG) (tc:TT) (te:TE):TE:=λσ H Q=>wi σ H λJ H1=>∀ p,H1 p=none→xF k js g tc te σ Q J H1 p
section
variable {X:Cx} {N:List Str} {scope:Scope} {cl:List (Str×Addr)} {k:Nat} {js:List Nat}
theorem eT {elt tg iter:Expr} {pos:Pos} {wi:TI} {g:TG} {te:TE} (hc:X.calm=true) (L:LcOk X scope cl) (hN:N.length=k+js.length)
  (hj:∀ (i j:Nat) x,js[i]? = some j→N[k+i]? = some x→X.N[j]? = some x∧Vis X.env.scope x∧X.env.scope.names.lookup x≠some .local∧((relabel scope X.env).names.lookup x=some .cell∨(relabel scope X.env).names.lookup x=some .free))
  (hi:PI X tg iter wi) (hg:∀ s H fp,PG (cf X N scope cl s H fp) tg g) (he:∀ s H fp,PE (cf X N scope cl s H fp) elt te)
  (hs:∀ x,foldedSetIterable iter X.env x=pure x:=by intro _; rfl):PE X (.ListComp elt [⟨tg,iter,[],0⟩] scope pos) (tLc k js wi g te):=by
 intro pins s σ H Q I h
 rw [eval_ListComp]
 refine wpAny_comprehension_free (use:=none) rfl hs L.clos L.kind L.names ?_
 refine thn (hi pins s σ H _ I h) λv s1 h1=>thn h1 λitv s2 h2=>?_
 obtain ⟨it,fp,tn,J,H2,e,I2,T,st2,f2,hW⟩:=h2
 subst e
 have hfp:∀ b∈fp,b<s2.heap.objs.size:=λb hb=>by
  obtain ⟨o,e,_⟩:=T.obj _ _ st2 b hb
  exact Heap.lt_size e
 refine wpAny_newObj_type (wpAny_newFunctionEnv L.nocell (by intro y hy; simp at hy) (λh₁ hns hsb=>?_) L.kind)
 dsimp only at hns hsb ⊢
 obtain ⟨W,⟨m0,w0⟩,turn⟩:=hW s2.heap.objs.size (I2.hok.fresh (Nat.le_refl _))
 have I3:Inv X pins σ (upd H2 s2.heap.objs.size (.lst [])) { s2 with heap:=s2.heap.push { cls:=.type "list",dict:=none,data:=.seq ([]:List Value).toArray } }:=I2.lnew (t':=s2.toks) .nil (Nat.zero_le _)
 generalize hA:s2.heap.push { cls:=.type "list",dict:=none,data:=.seq ([]:List Value).toArray }=hpA at hns hsb I3 ⊢
 have hszA:hpA.objs.size=s2.heap.objs.size+1:=by rw [← hA,Heap.size_push]
 have keepA:∀ b o,s2.heap.get? b=some o→hpA.get? b=some o:=λb o e=>by rw [← hA]; exact Heap.get?_push_of_some _ e
 have f3:∀ b∈fp,dY X pins (upd H2 s2.heap.objs.size (.lst [])) b:=λb hb=>⟨by rw [aj (Nat.ne_of_lt (hfp b hb))]; exact (f2 b hb).1,(f2 b hb).2⟩
 have hfp3:∀ b∈fp,b<hpA.objs.size:=λb hb=>by rw [hszA]; exact Nat.lt_succ_of_lt (hfp b hb)
 have keep1:∀ b o,hpA.get? b=some o→h₁.get? b=some o:=λb o e=>hsb.extBut b o (Nat.ne_of_lt (Heap.lt_size e)) (Heap.get?_push_of_some _ e)
 have J0:=fJ (N:=N) (k:=k) (js:=js) (tk:=s2.toks+([]:List (Str×Value)).length) I3 L f3 hfp3 ⟨_,hns⟩ keep1 hN hj
 have st1:tn 0 h₁:=T.keep _ _ _ st2 λb hb o e=>keep1 b o (keepA b o e)
 have stat:∀ {H':Hp},(∀ b∈fp,H' b=none)→∀ b∈fp,dY (cf X N scope cl { s2 with heap:=hpA } (upd H2 s2.heap.objs.size (.lst [])) fp) [] H' b:=λhn b hb =>
  ⟨hn b hb,Nat.ne_of_lt (hfp3 b hb),(lV (N:=N) I3 L f3 hfp3).exfs b hb,.inl hb,λx c h=>(f3 b hb).2.2.2.2.1 x c (L.cells x c h),λp hp=>absurd (show p∈([]:List (Addr×Obj)) from hp) (by simp)⟩
 have loop:codeAny (model X.prog X.w) X.A (.compLoop (.ListComp elt [⟨tg,iter,[],0⟩] scope pos) 0 (.ref it) (.ref s2.heap.objs.size) (compEnvC scope cl hpA.objs.size X.env))
   (compPost (model X.prog X.w) X.A X.xe none (EP X pins σ Q) (.ref s2.heap.objs.size) hpA.objs.size) { s2 with heap:=h₁,toks:=s2.toks+([]:List (Str×Value)).length }:=by
  refine oQ (λn s'=>∃ i ys σ' H',Inv (cf X N scope cl { s2 with heap:=hpA } (upd H2 s2.heap.objs.size (.lst [])) fp) [] σ' H' s'∧tn i s'.heap∧(∀ b∈fp,H' b=none)∧W i n ys σ' H') ?_ m0 ⟨0,[],_,_,J0,st1,λb hb=>(f3 b hb).1,w0⟩
  rintro n s3 ⟨i,ys,σ3,H3,J3,st3,fr3,w3⟩
  rcases turn i n ys σ3 H3 w3 with ⟨stop,qn⟩ | ⟨go,hlen,step⟩
  ·refine thn (T.done (cf X N scope cl { s2 with heap:=hpA } (upd H2 s2.heap.objs.size (.lst [])) fp) rfl rfl rfl hc i [] s3 σ3 H3 (λ_ _=>False) J3 (stat fr3) st3 stop) λr s4 hpt=>?_
   obtain ⟨hr,J4⟩:=hpt
   subst hr
   obtain ⟨m,hm,_⟩:=J4.loc
   exact ⟨m,hm,λh' hs'=>⟨.ref s2.heap.objs.size,H3,kY I3 f3 J4 hs',rfl,qn⟩⟩
  ·refine thn (T.item (cf X N scope cl { s2 with heap:=hpA } (upd H2 s2.heap.objs.size (.lst [])) fp) rfl rfl rfl hc i [] s3 σ3 H3 (λ_ _=>False) J3 (stat fr3) st3 go) λr s4 hpt=>?_
   obtain ⟨u,hr,h4⟩:=hpt
   subst hr
   refine thn h4 λ_ s5 hpt=>?_
   obtain ⟨x,H5,J5,r5,y5,st5,fr5⟩:=hpt
   have J5':=J5.pinned (stat fr5) (T.obj _ _ st5)
   refine thn (hg _ _ _ _ s5 σ3 H5 x u _ J5' r5 (step x H5 y5)) λ_ s6 hpt=>?_
   obtain ⟨σ6,H6,J6,q6⟩:=hpt
   refine thn (he _ _ _ _ s6 σ6 H6 _ J6 q6) λy s7 hpt=>?_
   obtain ⟨vy,H7,J7,r7,q7,m',hm',w7⟩:=hpt
   refine thn (cj _ s7 σ6 H7 (.ref s2.heap.objs.size) [vy] _ _ (λ_ H8=>H8=upd H7 s2.heap.objs.size (.lst (ys++[vy]))) J7 rfl (.cons r7 .nil) ⟨_,ys,vy,rfl,rfl,q7,hlen,rfl⟩) λ_ s8 hpt=>?_
   obtain ⟨_,H8,J8,_,e8⟩:=hpt
   subst e8
   refine ⟨m',hm',i+1,ys++[vy],σ6,_,J8.unpinned,T.keep _ _ _ st5 λb hb o e=>(J8.pin (b,o) (List.mem_append_right _ (List.mem_append_right _ (aW hb e)))).1,λb hb=>?_,w7⟩
   obtain ⟨o,e,d⟩:=T.obj _ _ st5 b hb
   exact (J8.pin (b,o) (List.mem_append_right _ (List.mem_append_right _ (aW hb e)))).2.1
 exact codeAny_compStart_list loop (T.self _ 0 _ _ _ st1 loop)
theorem eE {elt tg iter c:Expr} {pos:Pos} {wi:TI} {g:TG} {tc:TT} {te:TE} (hc:X.calm=true) (L:LcOk X scope cl) (hN:N.length=k+js.length)
  (hj:∀ (i j:Nat) x,js[i]? = some j→N[k+i]? = some x→X.N[j]? = some x∧Vis X.env.scope x∧X.env.scope.names.lookup x≠some .local∧((relabel scope X.env).names.lookup x=some .cell∨(relabel scope X.env).names.lookup x=some .free))
  (hi:PI X tg iter wi) (hg:∀ s H fp,PG (cf X N scope cl s H fp) tg g) (ht:∀ s H fp,PT (cf X N scope cl s H fp) c tc) (he:∀ s H fp,PE (cf X N scope cl s H fp) elt te)
  (hs:∀ x,foldedSetIterable iter X.env x=pure x:=by intro _; rfl):PE X (.ListComp elt [⟨tg,iter,[c],0⟩] scope pos) (wc k js wi g tc te):=by
 intro pins s σ H Q I h
 rw [eval_ListComp]
 refine wpAny_comprehension_free (use:=none) rfl hs L.clos L.kind L.names ?_
 refine thn (hi pins s σ H _ I h) λv s1 h1=>thn h1 λitv s2 h2=>?_
 obtain ⟨it,fp,tn,J,H2,e,I2,T,st2,f2,hW⟩:=h2
 subst e
 have hfp:∀ b∈fp,b<s2.heap.objs.size:=λb hb=>by
  obtain ⟨o,e,_⟩:=T.obj _ _ st2 b hb
  exact Heap.lt_size e
 refine wpAny_newObj_type (wpAny_newFunctionEnv L.nocell (by intro y hy; simp at hy) (λh₁ hns hsb=>?_) L.kind)
 dsimp only at hns hsb ⊢
 obtain ⟨W,⟨m0,w0⟩,turn⟩:=hW s2.heap.objs.size (I2.hok.fresh (Nat.le_refl _))
 have I3:Inv X pins σ (upd H2 s2.heap.objs.size (.lst [])) { s2 with heap:=s2.heap.push { cls:=.type "list",dict:=none,data:=.seq ([]:List Value).toArray } }:=I2.lnew (t':=s2.toks) .nil (Nat.zero_le _)
 generalize hA:s2.heap.push { cls:=.type "list",dict:=none,data:=.seq ([]:List Value).toArray }=hpA at hns hsb I3 ⊢
 have hszA:hpA.objs.size=s2.heap.objs.size+1:=by rw [← hA,Heap.size_push]
 have keepA:∀ b o,s2.heap.get? b=some o→hpA.get? b=some o:=λb o e=>by rw [← hA]; exact Heap.get?_push_of_some _ e
 have f3:∀ b∈fp,dY X pins (upd H2 s2.heap.objs.size (.lst [])) b:=λb hb=>⟨by rw [aj (Nat.ne_of_lt (hfp b hb))]; exact (f2 b hb).1,(f2 b hb).2⟩
 have hfp3:∀ b∈fp,b<hpA.objs.size:=λb hb=>by rw [hszA]; exact Nat.lt_succ_of_lt (hfp b hb)
 have keep1:∀ b o,hpA.get? b=some o→h₁.get? b=some o:=λb o e=>hsb.extBut b o (Nat.ne_of_lt (Heap.lt_size e)) (Heap.get?_push_of_some _ e)
 have J0:=fJ (N:=N) (k:=k) (js:=js) (tk:=s2.toks+([]:List (Str×Value)).length) I3 L f3 hfp3 ⟨_,hns⟩ keep1 hN hj
 have st1:tn 0 h₁:=T.keep _ _ _ st2 λb hb o e=>keep1 b o (keepA b o e)
 have stat:∀ {H':Hp},(∀ b∈fp,H' b=none)→∀ b∈fp,dY (cf X N scope cl { s2 with heap:=hpA } (upd H2 s2.heap.objs.size (.lst [])) fp) [] H' b:=λhn b hb =>
  ⟨hn b hb,Nat.ne_of_lt (hfp3 b hb),(lV (N:=N) I3 L f3 hfp3).exfs b hb,.inl hb,λx c h=>(f3 b hb).2.2.2.2.1 x c (L.cells x c h),λp hp=>absurd (show p∈([]:List (Addr×Obj)) from hp) (by simp)⟩
 have loop:codeAny (model X.prog X.w) X.A (.compLoop (.ListComp elt [⟨tg,iter,[c],0⟩] scope pos) 0 (.ref it) (.ref s2.heap.objs.size) (compEnvC scope cl hpA.objs.size X.env))
   (compPost (model X.prog X.w) X.A X.xe none (EP X pins σ Q) (.ref s2.heap.objs.size) hpA.objs.size) { s2 with heap:=h₁,toks:=s2.toks+([]:List (Str×Value)).length }:=by
  refine lW (λn s'=>∃ i ys σ' H',Inv (cf X N scope cl { s2 with heap:=hpA } (upd H2 s2.heap.objs.size (.lst [])) fp) [] σ' H' s'∧tn i s'.heap∧(∀ b∈fp,H' b=none)∧W i n ys σ' H') ?_ m0 ⟨0,[],_,_,J0,st1,λb hb=>(f3 b hb).1,w0⟩
  rintro n s3 ⟨i,ys,σ3,H3,J3,st3,fr3,w3⟩
  rcases turn i n ys σ3 H3 w3 with ⟨stop,qn⟩ | ⟨go,hlen,step⟩
  ·refine thn (T.done (cf X N scope cl { s2 with heap:=hpA } (upd H2 s2.heap.objs.size (.lst [])) fp) rfl rfl rfl hc i [] s3 σ3 H3 (λ_ _=>False) J3 (stat fr3) st3 stop) λr s4 hpt=>?_
   obtain ⟨hr,J4⟩:=hpt
   subst hr
   obtain ⟨m,hm,_⟩:=J4.loc
   exact ⟨m,hm,λh' hs'=>⟨.ref s2.heap.objs.size,H3,kY I3 f3 J4 hs',rfl,qn⟩⟩
  ·refine thn (T.item (cf X N scope cl { s2 with heap:=hpA } (upd H2 s2.heap.objs.size (.lst [])) fp) rfl rfl rfl hc i [] s3 σ3 H3 (λ_ _=>False) J3 (stat fr3) st3 go) λr s4 hpt=>?_
   obtain ⟨u,hr,h4⟩:=hpt
   subst hr
   refine thn h4 λ_ s5 hpt=>?_
   obtain ⟨x,H5,J5,r5,y5,st5,fr5⟩:=hpt
   have J5':=J5.pinned (stat fr5) (T.obj _ _ st5)
   refine thn (hg _ _ _ _ s5 σ3 H5 x u _ J5' r5 (step x H5 y5)) λ_ s6 hpt=>?_
   obtain ⟨σ6,H6,J6,q6⟩:=hpt
   refine thn (ht _ _ _ _ s6 σ6 H6 _ J6 q6) λb s6 hpt=>?_
   obtain ⟨H6,J6,q6⟩:=hpt
   cases b with
   | true =>
    rw [if_pos rfl] at q6 ⊢
    refine thn (he _ _ _ _ s6 σ6 H6 _ J6 q6) λy s7 hpt=>?_
    obtain ⟨vy,H7,J7,r7,q7,m',hm',w7⟩:=hpt
    refine thn (cj _ s7 σ6 H7 (.ref s2.heap.objs.size) [vy] _ _ (λ_ H8=>H8=upd H7 s2.heap.objs.size (.lst (ys++[vy]))) J7 rfl (.cons r7 .nil) ⟨_,ys,vy,rfl,rfl,q7,hlen,rfl⟩) λ_ s8 hpt=>?_
    obtain ⟨_,H8,J8,_,e8⟩:=hpt
    subst e8
    refine ⟨m',hm',i+1,ys++[vy],σ6,_,J8.unpinned,T.keep _ _ _ st5 λb hb o e=>(J8.pin (b,o) (List.mem_append_right _ (List.mem_append_right _ (aW hb e)))).1,λb hb=>?_,w7⟩
    obtain ⟨o,e,d⟩:=T.obj _ _ st5 b hb
    exact (J8.pin (b,o) (List.mem_append_right _ (List.mem_append_right _ (aW hb e)))).2.1
   | false =>
    rw [if_neg (by simp)] at q6 ⊢
    obtain ⟨m',hm',w7⟩:=q6
    refine ⟨m',hm',i+1,ys,σ6,_,J6.unpinned,T.keep _ _ _ st5 λb hb o e=>(J6.pin (b,o) (List.mem_append_right _ (List.mem_append_right _ (aW hb e)))).1,λb hb=>?_,w7⟩
    obtain ⟨o,e,d⟩:=T.obj _ _ st5 b hb
    exact (J6.pin (b,o) (List.mem_append_right _ (List.mem_append_right _ (aW hb e)))).2.1
 exact codeAny_compStart_list loop (T.self _ 0 _ _ _ st1 loop)
end
end L2
namespace TB
open PySem PySem.SetTable
noncomputable def adv (mask:Nat) (p:Probe):Probe :=
 if p.more > 0 then { p with j:=p.j+1,more:=p.more - 1 } else
 { p with j:=(leap mask p.i p.perturb).1,more:=runEnd mask (leap mask p.i p.perturb).1 - (leap mask p.i p.perturb).1,i:=(leap mask p.i p.perturb).1,perturb:=(leap mask p.i p.perturb).2 }
theorem fb (t:SetTable) (p:Probe):advance t p=adv t.mask p:=rfl
noncomputable def lvP (mask:Nat) (x:Nat×Nat):Probe:={ j:=x.1,more:=runEnd mask x.1 - x.1,i:=x.1,perturb:=x.2,dummy:=none }
noncomputable def st (mask:Nat) (h:Int):Probe:=lvP mask (bits h % (mask+1),bits h)
noncomputable def nth (mask:Nat):Probe→Nat→Probe
 | p,0=>p
 | p,n+1=>nth mask (adv mask p) n
theorem dJ (mask:Nat):∀ (a b:Nat) (p:Probe),nth mask p (a+b)=nth mask (nth mask p a) b
 | 0,b,p=>by rw [Nat.zero_add]; rfl
 | a+1,b,p=>by
  rw [show a+1+b=(a+b)+1 by omega]
  show nth mask (adv mask p) (a+b)=nth mask (nth mask (adv mask p) a) b
  exact dJ mask a b _
theorem rG (mask:Nat) (p:Probe) (n:Nat):nth mask p (n+1)=adv mask (nth mask p n):=by
 rw [dJ]; rfl
noncomputable def pos (mask:Nat) (h:Int) (n:Nat):Nat:=(nth mask (st mask h) n).j
theorem jH (mask:Nat):∀ (m:Nat) (p:Probe),p.more=m→nth mask p m={ p with j:=p.j+m,more:=0 }
 | 0,p,h=>by
  show p=_
  cases p; simp at h; subst h; rfl
 | m+1,p,h=>by
  show nth mask (adv mask p) m=_
  have e:adv mask p={ p with j:=p.j+1,more:=m }:=by
   unfold adv
   rw [if_pos (by omega),h]; rfl
  rw [e,jH mask m _ rfl]
  simp only [Probe.mk.injEq,and_true]
  omega
theorem lX (mask:Nat):∀ (m:Nat) (p:Probe),m≤p.more→nth mask p m={ p with j:=p.j+m,more:=p.more - m }
 | 0,p,h=>by
  show p=_
  cases p; rfl
 | m+1,p,h=>by
  show nth mask (adv mask p) m=_
  have e:adv mask p={ p with j:=p.j+1,more:=p.more - 1 }:=by
   unfold adv
   rw [if_pos (by omega)]
  rw [e,lX mask m _ (by show m≤p.more - 1; omega)]
  simp only [Probe.mk.injEq,and_true]
  omega
theorem fc (mask:Nat) (x:Nat×Nat):nth mask (lvP mask x) (runEnd mask x.1 - x.1+1)=lvP mask (leap mask x.1 x.2):=by
 have e:=jH mask (runEnd mask x.1 - x.1) (lvP mask x) rfl
 rw [rG,e]
 unfold adv
 rw [if_neg (by simp)]
 rfl
theorem we (mask i:Nat):runEnd mask i - i≤9:=by unfold runEnd; split <;> omega
noncomputable def lv (mask:Nat):Nat→Nat×Nat→Nat×Nat
 | 0,x=>x
 | k+1,x=>lv mask k (leap mask x.1 x.2)
theorem nN (mask:Nat):∀ (a b:Nat) (x:Nat×Nat),lv mask (a+b) x=lv mask b (lv mask a x)
 | 0,b,x=>by rw [Nat.zero_add]; rfl
 | a+1,b,x=>by
  rw [show a+1+b=(a+b)+1 by omega]
  exact nN mask a b _
theorem lY (mask:Nat):∀ (k:Nat) (x:Nat×Nat),∃ n,n≤10 * k∧nth mask (lvP mask x) n=lvP mask (lv mask k x)
 | 0,x=>⟨0,by omega,rfl⟩
 | k+1,x=>by
  obtain ⟨n,hn,e⟩:=lY mask k (leap mask x.1 x.2)
  refine ⟨(runEnd mask x.1 - x.1+1)+n,?_,?_⟩
  ·have:=we mask x.1; omega
  ·rw [dJ,fc]; exact e
theorem fe (mask:Nat):∀ (k:Nat) (x:Nat×Nat),(lv mask k x).2=x.2 / 32 ^ k
 | 0,x=>by simp [lv]
 | k+1,x=>by
  show (lv mask k (leap mask x.1 x.2)).2=_
  rw [fe mask k]
  show x.2 / 32 / 32 ^ k=_
  rw [Nat.div_div_eq_div_mul,Nat.pow_succ,Nat.mul_comm 32]
theorem oR (mask:Nat):∀ (k:Nat) (x:Nat×Nat),x.1≤mask→(lv mask k x).1≤mask
 | 0,x,h=>h
 | k+1,x,h=>oR mask k _ (by show (x.1 * 5+1+x.2 / 32) % (mask+1)≤mask; have:=Nat.mod_lt (x.1 * 5+1+x.2 / 32) (show 0<mask+1 by omega); omega)
theorem oS (h:Int):bits h<2 ^ 64:=by
 unfold bits
 have h1:=Int.emod_nonneg h (b:=2 ^ 64) (by decide)
 have h2:=Int.emod_lt_of_pos h (b:=2 ^ 64) (by decide)
 omega
noncomputable def fM (mask:Nat):Nat→Nat→Nat
 | 0,i=>i
 | k+1,i=>fM mask k ((i * 5+1) % (mask+1))
theorem iG (mask:Nat):∀ (k i:Nat),lv mask k (i,0)=(fM mask k i,0)
 | 0,i=>rfl
 | k+1,i=>by
  show lv mask k ((i * 5+1+0 / 32) % (mask+1),0 / 32)=_
  simp only [Nat.zero_div,Nat.add_zero]
  exact iG mask k _
noncomputable def Cyc (mask:Nat):Prop:=∀ i,i≤mask→∀ j,j≤mask→∃ k,k≤mask∧fM mask k i=j
theorem eN (mask:Nat):∀ (a b i:Nat),fM mask (a+b) i=fM mask b (fM mask a i)
 | 0,b,i=>by rw [Nat.zero_add]; rfl
 | a+1,b,i=>by
  rw [show a+1+b=(a+b)+1 by omega]
  exact eN mask a b _
noncomputable def tX (mask:Nat):Nat→Nat→List Nat
 | 0,_=>[]
 | n+1,i=>i :: tX mask n ((i * 5+1) % (mask+1))
theorem lZ {mask j:Nat}:∀ {n i:Nat},j∈tX mask n i→∃ k,k<n∧fM mask k i=j
 | 0,_,h=>by simp [tX] at h
 | n+1,i,h=>by
  rcases List.mem_cons.mp h with e | e
  ·exact ⟨0,by omega,e.symm⟩
  ·obtain ⟨k,hk,e'⟩:=lZ e
   exact ⟨k+1,by omega,e'⟩
theorem rH {mask:Nat} (h0:fM mask (mask+1) 0=0) (h:(List.range (mask+1)).all (λj=>(tX mask (mask+1) 0).contains j)=true):Cyc mask:=by
 have all:∀ j,j≤mask→∃ k,k≤mask∧fM mask k 0=j:=λj hj=>by
  rw [List.all_eq_true] at h
  have h1:=h j (List.mem_range.mpr (by omega))
  rw [List.contains_iff_mem] at h1
  obtain ⟨k,hk,e⟩:=lZ h1
  exact ⟨k,by omega,e⟩
 intro i hi j hj
 obtain ⟨a,ha,ea⟩:=all i hi
 obtain ⟨b,hb,eb⟩:=all j hj
 by_cases hab:a≤b
 ·refine ⟨b - a,by omega,?_⟩
  rw [← ea,← eN,show a+(b - a)=b by omega]; exact eb
 ·refine ⟨mask+1 - a+b,by omega,?_⟩
  rw [← ea,← eN,show a+(mask+1 - a+b)=(mask+1)+b by omega,eN,h0]; exact eb
noncomputable def Mk (m:Nat):Prop:=m=7∨m=15∨m=31∨m=63∨m=127∨m=255
theorem Mk.cyc {m:Nat} (h:Mk m):Cyc m:=by
 rcases h with e | e | e | e | e | e <;> subst e <;> exact rH (by decide +kernel) (by decide +kernel)
theorem Mk.ge {m:Nat} (h:Mk m):7≤m∧m≤255:=by rcases h with e | e | e | e | e | e <;> subst e <;> omega
theorem Mk.odd {m:Nat} (h:Mk m):m % 2=1:=by rcases h with e | e | e | e | e | e <;> subst e <;> rfl
noncomputable def mkB (m:Nat):Bool:=m == 7 || m == 15 || m == 31 || m == 63 || m == 127 || m == 255
theorem wf:(List.range 256).all (λw=>mkB (sizeAbove w - 1) && decide (w≤sizeAbove w - 1) && decide (sizeAbove w≤256))=true:=by decide +kernel
theorem fV {w:Nat} (h:w≤255):Mk (sizeAbove w - 1)∧w≤sizeAbove w - 1∧sizeAbove w≤256:=by
 have h1:=(List.all_eq_true.mp wf) w (List.mem_range.mpr (by omega))
 rw [Bool.and_eq_true,Bool.and_eq_true,decide_eq_true_eq,decide_eq_true_eq] at h1
 refine ⟨?_,h1.1.2,h1.2⟩
 have h2:=h1.1.1
 unfold mkB at h2
 rw [Bool.or_eq_true,Bool.or_eq_true,Bool.or_eq_true,Bool.or_eq_true,Bool.or_eq_true,beq_iff_eq,beq_iff_eq,beq_iff_eq,beq_iff_eq,beq_iff_eq,beq_iff_eq] at h2
 rcases h2 with ((((h | h) | h) | h) | h) | h
 ·exact .inl h
 ·exact .inr (.inl h)
 ·exact .inr (.inr (.inl h))
 ·exact .inr (.inr (.inr (.inl h)))
 ·exact .inr (.inr (.inr (.inr (.inl h))))
 ·exact .inr (.inr (.inr (.inr (.inr h))))
theorem cover {mask:Nat} (c:Cyc mask) (h:Int) {j:Nat} (hj:j≤mask):∃ n,n<10 * turns mask∧pos mask h n=j:=by
 have h0:(lv mask 13 (bits h % (mask+1),bits h)).2=0:=by
  rw [fe]
  have:=oS h
  exact Nat.div_eq_of_lt (by have e:(32:Nat) ^ 13=36893488147419103232:=(by decide); rw [e]; show bits h<_; omega)
 have h1:(lv mask 13 (bits h % (mask+1),bits h)).1≤mask:=oR mask _ _ (by have:=Nat.mod_lt (bits h) (show 0<mask+1 by omega); show bits h % (mask+1)≤mask; omega)
 obtain ⟨k,hk,e⟩:=c _ h1 j hj
 obtain ⟨n,hn,en⟩:=lY mask (13+k) (bits h % (mask+1),bits h)
 refine ⟨n,by unfold turns; omega,?_⟩
 unfold pos st
 rw [en,nN]
 have ex:lv mask 13 (bits h % (mask+1),bits h)=((lv mask 13 (bits h % (mask+1),bits h)).1,0):=by rw [← h0]
 rw [ex,iG]
 exact e
noncomputable def InT (mask:Nat) (p:Probe):Prop:=p.j+p.more≤mask
theorem gC {mask i:Nat} (h:i≤mask):runEnd mask i≤mask∧i≤runEnd mask i:=by unfold runEnd; split <;> omega
theorem tY {mask:Nat} {p:Probe} (h:InT mask p):InT mask (adv mask p):=by
 unfold adv InT at *
 split
 ·show p.j+1+(p.more - 1)≤mask; omega
 ·have hl:(leap mask p.i p.perturb).1≤mask:=by
   show (p.i * 5+1+p.perturb / 32) % (mask+1)≤mask
   have:=Nat.mod_lt (p.i * 5+1+p.perturb / 32) (show 0<mask+1 by omega)
   omega
  have:=gC hl
  show (leap mask p.i p.perturb).1+(runEnd mask (leap mask p.i p.perturb).1 - (leap mask p.i p.perturb).1)≤mask
  omega
theorem oT {mask:Nat}:∀ (n:Nat) {p:Probe},InT mask p→InT mask (nth mask p n)
 | 0,_,h=>h
 | n+1,_,h=>oT n (tY h)
theorem wg {mask:Nat} {x:Nat×Nat} (h:x.1≤mask):InT mask (lvP mask x):=by
 have:=gC h
 show x.1+(runEnd mask x.1 - x.1)≤mask
 omega
theorem gD (mask:Nat) (h:Int) (n:Nat):pos mask h n≤mask:=by
 have:InT mask (nth mask (st mask h) n):=oT n (wg (by have:=Nat.mod_lt (bits h) (show 0<mask+1 by omega); show bits h % (mask+1)≤mask; omega))
 unfold InT at this
 unfold pos
 omega
theorem iH (E:Nat→Prop):∀ N,E N→∃ n,n≤N∧E n∧∀ m,m<n→¬ E m
 | N,h=>by
  induction N using Nat.strongRecOn with
  | _ N ih =>
   by_cases z:∃ m,m<N∧E m
   ·obtain ⟨m,hm,e⟩:=z
    obtain ⟨n,hn,e',no⟩:=ih m hm e
    exact ⟨n,by omega,e',no⟩
   ·exact ⟨N,Nat.le_refl _,h,λm hm e=>z ⟨m,hm,e⟩⟩
theorem gE (mask:Nat):∀ (n:Nat) (p:Probe),(nth mask p n).dummy=p.dummy
 | 0,_=>rfl
 | n+1,p=>by
  show (nth mask (adv mask p) n).dummy=_
  rw [gE mask n]
  unfold adv
  split <;> rfl
theorem iI (t:SetTable) (ha:Nat→Int) (h:Int):∀ (n:Nat) (p:Probe) (fuel:Nat),n<fuel →
  (∀ m,m<n→∃ i,t.slot (nth t.mask p m).j = .live i∧(ha i == h)=false)→t.slot (nth t.mask p n).j = .empty →
  probe.go t ha h fuel p=some (.empty (nth t.mask p n).j p.dummy)
 | 0,p,fuel+1,_,_,e=>by
  have e':t.slot p.j = .empty:=e
  unfold probe.go
  rw [e']; rfl
 | n+1,p,fuel+1,hf,hl,e=>by
  obtain ⟨i,h1,h2⟩:=hl 0 (by omega)
  have h1':t.slot p.j = .live i:=h1
  unfold probe.go
  rw [h1']
  simp only [h2,Bool.false_eq_true,if_false,fb]
  rw [iI t ha h n (adv t.mask p) fuel (by omega) (λm hm=>hl (m+1) (by omega)) e]
  congr 2
  exact gE t.mask 1 p
theorem oU (t:SetTable) (ha:Nat→Int) (h:Int) (i:Nat):∀ (n:Nat) (p:Probe) (fuel:Nat),n<fuel →
  (∀ m,m<n→∃ i,t.slot (nth t.mask p m).j = .live i∧(ha i == h)=false)→t.slot (nth t.mask p n).j = .live i→(ha i == h)=true →
  probe.go t ha h fuel p=some (.candidate (nth t.mask p n).j i (nth t.mask p (n+1)))
 | 0,p,fuel+1,_,_,e,hh=>by
  have e':t.slot p.j = .live i:=e
  unfold probe.go
  rw [e']
  simp only [hh,if_true,fb]
  rfl
 | n+1,p,fuel+1,hf,hl,e,hh=>by
  obtain ⟨i',h1,h2⟩:=hl 0 (by omega)
  have h1':t.slot p.j = .live i':=h1
  unfold probe.go
  rw [h1']
  simp only [h2,Bool.false_eq_true,if_false,fb]
  rw [oU t ha h i n (adv t.mask p) fuel (by omega) (λm hm=>hl (m+1) (by omega)) e hh]
  rfl
theorem iJ (xs:Array Nat) (j:Nat) (hs:∀ a b,a<b→b<xs.size→xs.getD a 0<xs.getD b 0):∀ (fuel lo hi:Nat),hi - lo≤fuel→lo≤hi→hi≤xs.size →
  (∀ k,k<lo→xs.getD k 0<j)→(∀ k,hi≤k→k<xs.size→j≤xs.getD k 0) →
  below.go xs j fuel lo hi≤xs.size∧(∀ k,k<below.go xs j fuel lo hi→xs.getD k 0<j)∧(∀ k,below.go xs j fuel lo hi≤k→k<xs.size→j≤xs.getD k 0)
 | 0,lo,hi,hf,hl,hh,h1,h2=>by
  have e:lo=hi:=by omega
  subst e
  exact ⟨hh,h1,h2⟩
 | fuel+1,lo,hi,hf,hl,hh,h1,h2=>by
  unfold below.go
  by_cases hlt:lo<hi
  ·rw [if_pos hlt]
   have hm:(lo+hi) / 2<hi:=by omega
   have hm2:lo≤(lo+hi) / 2:=by omega
   have eg:xs.getD ((lo+hi) / 2) j=xs.getD ((lo+hi) / 2) 0:=by
    rw [Array.getD_eq_getD_getElem?,Array.getD_eq_getD_getElem?,Array.getElem?_eq_getElem (by omega)]; rfl
   simp only [eg]
   split
   ·rename_i hc
    refine iJ xs j hs fuel _ hi (by omega) (by omega) hh (λk hk=>?_) h2
    by_cases e:k=(lo+hi) / 2
    ·rw [e]; exact hc
    ·have:=hs k ((lo+hi) / 2) (by omega) (by omega); omega
   ·rename_i hc
    refine iJ xs j hs fuel lo _ (by omega) (by omega) (by omega) h1 (λk hk hk2=>?_)
    by_cases e:k=(lo+hi) / 2
    ·rw [e]; omega
    ·have:=hs ((lo+hi) / 2) k (by omega) hk2; omega
  ·rw [if_neg hlt]
   have e:lo=hi:=by omega
   subst e
   exact ⟨hh,h1,h2⟩
noncomputable def Up (l:List Nat):Prop:=l.Pairwise (· < ·)
theorem wj {l:List Nat} (h:Up l) {a b:Nat} (hab:a<b) (hb:b<l.length):l.toArray.getD a 0<l.toArray.getD b 0:=by
 unfold Up at h
 have:=List.pairwise_iff_getElem.mp h a b (by omega) hb hab
 simp [Array.getD_eq_getD_getElem?,show a<l.length by omega,hb]
 exact this
theorem cC {l:List Nat} (h:Up l) (j:Nat):below l.toArray j≤l.length∧(∀ k (hk:k<l.length),k<below l.toArray j→l[k]<j)∧(∀ k (hk:k<l.length),below l.toArray j≤k→j≤l[k]):=by
 have:=iJ l.toArray j (λa b hab hb=>wj h hab (by simpa using hb)) l.toArray.size 0 l.toArray.size (by omega) (by omega) (Nat.le_refl _) (by intro k hk; omega) (by intro k hk hk2; omega)
 unfold below
 refine ⟨by simpa using this.1,λk hk h1=>?_,λk hk h1=>?_⟩
 ·have:=this.2.1 k h1
  simpa [Array.getD_eq_getD_getElem?,hk] using this
 ·have:=this.2.2 k h1 (by simpa using hk)
  simpa [Array.getD_eq_getD_getElem?,hk] using this
structure Tb (t:SetTable) (l:List Nat):Prop where
 pl:t.place=l.toArray
 nd:t.dummies = #[]
 up:Up l
 le:∀ j∈l,j≤t.mask
theorem oV (j:Nat):has #[] j=false:=by
 unfold has; simp
theorem hV {t:SetTable} {l:List Nat} (T:Tb t l) {i j:Nat} (h:l[i]? = some j):t.slot j = .live i:=by
 obtain ⟨hi,e⟩:=List.getElem?_eq_some_iff.mp h
 obtain ⟨b1,b2,b3⟩:=cC T.up j
 have eb:below l.toArray j=i:=by
  rcases Nat.lt_trichotomy (below l.toArray j) i with z | z | z
  ·have:=b3 (below l.toArray j) (by omega) (Nat.le_refl _)
   have:=List.pairwise_iff_getElem.mp T.up (below l.toArray j) i (by omega) hi z
   omega
  ·exact z
  ·have:=b2 i hi z; omega
 unfold SetTable.slot
 rw [T.pl,eb]
 simp [h]
theorem ma {t:SetTable} {l:List Nat} (T:Tb t l) {j:Nat} (h:j∉l):t.slot j = .empty:=by
 unfold SetTable.slot
 rw [T.pl,T.nd,oV]
 have:¬ (l.toArray[below l.toArray j]? == some j)=true:=by
  intro z
  have z':l[below l.toArray j]? = some j:=by simpa using z
  exact h (List.mem_of_getElem? z')
 simp only [this,Bool.false_eq_true,if_false]
theorem qb {l:List Nat} (h:Up l) {j:Nat} (hj:j∉l):Up (l.take (below l.toArray j)++j :: l.drop (below l.toArray j)):=by
 obtain ⟨b1,b2,b3⟩:=cC h j
 unfold Up
 rw [List.pairwise_append,List.pairwise_cons]
 have hsub1:(l.take (below l.toArray j)).Pairwise (· < ·):=List.Pairwise.sublist (List.take_sublist _ _) h
 have hsub2:(l.drop (below l.toArray j)).Pairwise (· < ·):=List.Pairwise.sublist (List.drop_sublist _ _) h
 have h1:∀ a∈l.take (below l.toArray j),a<j:=by
  intro a ha
  obtain ⟨k,hk,e⟩:=List.mem_iff_getElem.mp ha
  rw [List.length_take] at hk
  rw [List.getElem_take] at e
  rw [← e]
  exact b2 k (by omega) (by omega)
 have h2:∀ a∈l.drop (below l.toArray j),j<a:=by
  intro a ha
  have hne:a≠j:=λe=>hj (e ▸ List.mem_of_mem_drop ha)
  obtain ⟨k,hk,e⟩:=List.mem_iff_getElem.mp ha
  rw [List.length_drop] at hk
  rw [List.getElem_drop] at e
  have:=b3 (below l.toArray j+k) (by omega) (by omega)
  omega
 refine ⟨hsub1,⟨h2,hsub2⟩,λa ha b hb=>?_⟩
 rcases List.mem_cons.mp hb with rfl | hb
 ·exact h1 a ha
 ·have:=h1 a ha; have:=h2 b hb; omega
theorem rJ {t:SetTable} {l:List Nat} (T:Tb t l) {j:Nat} (hj:j∉l) (hm:j≤t.mask):Tb (t.put j).1 (l.take (below l.toArray j)++j :: l.drop (below l.toArray j))∧(t.put j).2=below l.toArray j∧(t.put j).1.mask=t.mask:=by
 refine ⟨⟨?_,?_,qb T.up hj,?_⟩,?_,rfl⟩
 ·show insertAt t.place (below t.place j) j=_
  rw [T.pl]
  apply Array.toList_inj.mp
  rw [SetTable.toList_insertAt]
 ·show (if has t.dummies j=true then _ else t.dummies) = #[]
  rw [T.nd,oV]; rfl
 ·intro a ha
  rcases List.mem_append.mp ha with h | h
  ·exact T.le a (List.mem_of_mem_take h)
  ·rcases List.mem_cons.mp h with rfl | h
   ·exact hm
   ·exact T.le a (List.mem_of_mem_drop h)
 ·show below t.place j=_
  rw [T.pl]
noncomputable def eU (mask:Nat) (zs:List (Nat×Int)):Prop:=∀ z∈zs,∃ n,pos mask z.2 n=z.1∧∀ m,m<n→pos mask z.2 m∈zs.map (·.1)
theorem eU.nil (mask:Nat):eU mask []:=by intro z hz; simp at hz
theorem eU.mono {mask:Nat} {zs ys:List (Nat×Int)} (h:eU mask zs) (new:Nat×Int) (hm:∀ z∈ys,z∈zs∨z=new) (hs:∀ z∈zs,z∈ys)
  (hn:∃ n,pos mask new.2 n=new.1∧∀ m,m<n→pos mask new.2 m∈zs.map (·.1)):eU mask ys:=by
 intro z hz
 have up:∀ j,j∈zs.map (·.1)→j∈ys.map (·.1):=λj hj=>by
  obtain ⟨y,hy,e⟩:=List.mem_map.mp hj
  exact List.mem_map.mpr ⟨y,hs y hy,e⟩
 rcases hm z hz with h1 | h1
 ·obtain ⟨n,e,p⟩:=h z h1
  exact ⟨n,e,λm hm=>up _ (p m hm)⟩
 ·subst h1
  obtain ⟨n,e,p⟩:=hn
  exact ⟨n,e,λm hm=>up _ (p m hm)⟩
noncomputable def emp (owner:Array (Option Nat)) (j:Nat):Bool:=(owner.getD j (some 0)).isNone
theorem jI (mask:Nat) (owner:Array (Option Nat)):∀ (fuel:Nat) (x:Nat×Nat),x.1≤mask→(∃ k,k<fuel∧emp owner (lv mask k x).1=true) →
  ∃ j n,layClean.free mask owner fuel x.1 x.2=some j∧(nth mask (lvP mask x) n).j=j∧emp owner j=true∧∀ m,m<n→emp owner (nth mask (lvP mask x) m).j=false
 | 0,x,_,h=>by obtain ⟨k,hk,_⟩:=h; omega
 | fuel+1,x,hx,h=>by
  unfold layClean.free
  have hr:=gC hx
  have hpart:∀ m,m≤runEnd mask x.1 - x.1→(nth mask (lvP mask x) m).j=x.1+m:=λm hm=>by
   rw [lX mask m (lvP mask x) hm]; rfl
  cases e:(List.range (runEnd mask x.1+1 - x.1)).find? (λk=>(owner.getD (x.1+k) (some 0)).isNone) with
  | some k =>
   rw [List.find?_range_eq_some] at e
   obtain ⟨e1,e2,e3⟩:=e
   have hk:k≤runEnd mask x.1 - x.1:=by have:=List.mem_range.mp e2; omega
   refine ⟨x.1+k,k,rfl,hpart k hk,e1,λm hm=>?_⟩
   rw [hpart m (by omega)]
   have:=e3 m hm
   simpa [emp] using this
  | none =>
   rw [List.find?_range_eq_none] at e
   obtain ⟨k,hk,h1⟩:=h
   have hk0:k≠0:=by
    rintro rfl
    have:=e 0 (by omega)
    have h1':(owner.getD x.1 (some 0)).isNone=true:=h1
    rw [Nat.add_zero,h1'] at this
    simp at this
   obtain ⟨k',rfl⟩:∃ k',k=k'+1:=⟨k - 1,by omega⟩
   have hl:(leap mask x.1 x.2).1≤mask:=oR mask 1 x hx
   obtain ⟨j,n,f1,f2,f3,f4⟩:=jI mask owner fuel (leap mask x.1 x.2) hl ⟨k',by omega,h1⟩
   refine ⟨j,(runEnd mask x.1 - x.1+1)+n,f1,?_,f3,λm hm=>?_⟩
   ·rw [dJ,fc]; exact f2
   ·by_cases hm2:m≤runEnd mask x.1 - x.1
    ·rw [hpart m hm2]
     have:=e m (by omega)
     simpa [emp] using this
    ·obtain ⟨m',rfl⟩:∃ m',m=(runEnd mask x.1 - x.1+1)+m':=⟨m - (runEnd mask x.1 - x.1+1),by omega⟩
     rw [dJ,fc]
     exact f4 m' (by omega)
theorem tZ {mask:Nat} (c:Cyc mask) (owner:Array (Option Nat)) (h:Int) {j₀:Nat} (hj:j₀≤mask) (he:emp owner j₀=true) :
  ∃ j n,layClean.free mask owner (turns mask) (bits h % (mask+1)) (bits h)=some j∧pos mask h n=j∧emp owner j=true∧∀ m,m<n→emp owner (pos mask h m)=false:=by
 have h0:(lv mask 13 (bits h % (mask+1),bits h)).2=0:=by
  rw [fe]
  have:=oS h
  exact Nat.div_eq_of_lt (by have e:(32:Nat) ^ 13=36893488147419103232:=(by decide); rw [e]; show bits h<_; omega)
 have hx:bits h % (mask+1)≤mask:=by have:=Nat.mod_lt (bits h) (show 0<mask+1 by omega); omega
 have h1:(lv mask 13 (bits h % (mask+1),bits h)).1≤mask:=oR mask _ _ hx
 obtain ⟨k,hk,e⟩:=c _ h1 j₀ hj
 refine jI mask owner (turns mask) (bits h % (mask+1),bits h) hx ⟨13+k,by unfold turns; omega,?_⟩
 rw [nN]
 have ex:lv mask 13 (bits h % (mask+1),bits h)=((lv mask 13 (bits h % (mask+1),bits h)).1,0):=by rw [← h0]
 rw [ex,iG,e]
 exact he
noncomputable def live (mask:Nat) (owner:Array (Option Nat)):List (Nat×Nat):=(List.range (mask+1)).filterMap λj=>(owner.getD j none).map (j,·)
theorem eF {α β:Type} {f g:α→Option β}:∀ {l:List α},(∀ x∈l,g x=f x)→l.filterMap g=l.filterMap f
 | [],_=>rfl
 | x :: l,h=>by
  have ih:=eF (l:=l) λy hy=>h y (List.mem_cons_of_mem _ hy)
  have hx:=h x List.mem_cons_self
  cases e:f x with
  | none=>rw [List.filterMap_cons_none e,List.filterMap_cons_none (hx.trans e),ih]
  | some b=>rw [List.filterMap_cons_some e,List.filterMap_cons_some (hx.trans e),ih]
theorem eV {α β:Type} (f g:α→Option β) (a:α) (v:β) (hf:f a=none) (hg:g a=some v) (hne:∀ x,x≠a→g x=f x):∀ (l:List α),l.Nodup→a∈l →
  (l.filterMap g).Perm (v :: l.filterMap f)
 | [],_,h=>by simp at h
 | x :: l,hn,h=>by
  obtain ⟨h1,h2⟩:=List.nodup_cons.mp hn
  by_cases e:x=a
  ·subst e
   rw [List.filterMap_cons_some hg,List.filterMap_cons_none hf]
   have:l.filterMap g=l.filterMap f:=eF λy hy=>hne y (λe=>h1 (e ▸ hy))
   rw [this]
  ·have ha:a∈l:=by
    rcases List.mem_cons.mp h with z | z
    ·exact absurd z.symm e
    ·exact z
   have ih:=eV f g a v hf hg hne l h2 ha
   cases ef:f x with
   | none =>
    rw [List.filterMap_cons_none ef,List.filterMap_cons_none (by rw [hne x e,ef])]
    exact ih
   | some b =>
    rw [List.filterMap_cons_some ef,List.filterMap_cons_some (by rw [hne x e,ef])]
    exact (ih.cons b).trans (List.Perm.swap _ _ _)
structure Lay (mask:Nat) (owner:Array (Option Nat)) (hs:List Int):Prop where
 size:owner.size=mask+1
 perm:((live mask owner).map (·.2)).Perm (List.range hs.length)
 path:∀ j i,owner.getD j none=some i→∃ h,hs[i]? = some h∧∃ n,pos mask h n=j∧∀ m,m<n→emp owner (pos mask h m)=false
theorem fX {mask:Nat} {owner:Array (Option Nat)} (hs:owner.size=mask+1) {j:Nat} (hj:j≤mask):emp owner j=(owner.getD j none).isNone:=by
 unfold emp
 rw [Array.getD_eq_getD_getElem?,Array.getD_eq_getD_getElem?,Array.getElem?_eq_getElem (by omega)]
 rfl
theorem ua (mask:Nat):Lay mask (Array.replicate (mask+1) none) []:=by
 have e:∀ j,(Array.replicate (mask+1) (none:Option Nat)).getD j none=none:=λj=>by
  rw [Array.getD_eq_getD_getElem?,Array.getElem?_replicate]
  split <;> rfl
 refine ⟨by simp,?_,λj i h=>?_⟩
 ·have:live mask (Array.replicate (mask+1) none)=[]:=by
   unfold live
   rw [List.filterMap_eq_nil_iff]
   intro j _
   rw [e]; rfl
  rw [this]; simp
 ·rw [e] at h; cases h
theorem rK {mask:Nat} {owner:Array (Option Nat)} {hs:List Int} (L:Lay mask owner hs) (hl:hs.length≤mask):∃ j,j≤mask∧emp owner j=true:=by
 by_cases h:∃ j,j≤mask∧emp owner j=true
 ·exact h
 ·exfalso
  have all:∀ j,j≤mask→∃ i,owner.getD j none=some i:=λj hj=>by
   cases e:owner.getD j none with
   | some i=>exact ⟨i,rfl⟩
   | none=>exact (h ⟨j,hj,by rw [fX L.size hj,e]; rfl⟩).elim
  have len:(live mask owner).length=mask+1:=by
   have key:∀ l:List Nat,(∀ j∈l,j≤mask)→(l.filterMap λj=>(owner.getD j none).map (j,·)).length=l.length:=by
    intro l
    induction l with
    | nil=>intro _; rfl
    | cons x l ih =>
     intro hl
     obtain ⟨i,e⟩:=all x (hl x (by simp))
     rw [List.filterMap_cons_some (by rw [e]; rfl),List.length_cons,List.length_cons,ih λj hj=>hl j (by simp [hj])]
   unfold live
   rw [key _ (λj hj=>by have:=List.mem_range.mp hj; omega),List.length_range]
  have:=L.perm.length_eq
  rw [List.length_map,List.length_range,len] at this
  omega
theorem fY {owner:Array (Option Nat)} {j k:Nat} {v:Option Nat} (hj:j<owner.size):(owner.setIfInBounds j v).getD k none=if k=j then v else owner.getD k none:=by
 rw [Array.getD_eq_getD_getElem?,Array.getD_eq_getD_getElem?,Array.getElem?_setIfInBounds]
 by_cases e:j=k
 ·subst e; simp [hj]
 ·rw [if_neg e,if_neg (λz=>e z.symm)]
theorem oW {mask:Nat} {owner:Array (Option Nat)} {j k i:Nat} (hs:owner.size=mask+1) (hj:j≤mask) (hk:k≤mask) (h:emp owner k=false):emp (owner.setIfInBounds j (some i)) k=false:=by
 rw [fX (by simpa using hs) hk,fY (by omega)]
 rw [fX hs hk] at h
 split
 ·rfl
 ·exact h
theorem rL {mask:Nat} (c:Cyc mask) {owner:Array (Option Nat)} {hs:List Int} (L:Lay mask owner hs) (hl:hs.length≤mask) (h:Int) :
  ∃ j,layClean.free mask owner (turns mask) (bits h % (mask+1)) (bits h)=some j∧Lay mask (owner.setIfInBounds j (some hs.length)) (hs++[h]):=by
 obtain ⟨j₀,hj₀,e₀⟩:=rK L hl
 obtain ⟨j,n,e1,e2,e3,e4⟩:=tZ c owner h hj₀ e₀
 have hj:j≤mask:=by rw [← e2]; exact gD mask h n
 have hjn:owner.getD j none=none:=by
  rw [fX L.size hj] at e3
  exact Option.isNone_iff_eq_none.mp e3
 refine ⟨j,e1,by simpa using L.size,?_,λk i hk=>?_⟩
 ·have p:=eV (λk=>(owner.getD k none).map (k,·)) (λk=>((owner.setIfInBounds j (some hs.length)).getD k none).map (k,·)) j (j,hs.length) (by simp [hjn])
   (by show ((owner.setIfInBounds j (some hs.length)).getD j none).map (j,·)=_; rw [fY (by rw [L.size]; omega),if_pos rfl]; rfl) (λx hx=>by show ((owner.setIfInBounds j (some hs.length)).getD x none).map (x,·)=(owner.getD x none).map (x,·); rw [fY (by rw [L.size]; omega),if_neg hx]) (List.range (mask+1)) List.nodup_range (List.mem_range.mpr (by omega))
  have p2:((live mask (owner.setIfInBounds j (some hs.length))).map (·.2)).Perm (hs.length :: (live mask owner).map (·.2)):=p.map (·.2)
  rw [List.length_append,List.length_singleton,List.range_succ]
  exact p2.trans ((L.perm.cons _).trans (List.perm_append_singleton _ _).symm)
 ·rw [fY (by rw [L.size]; omega)] at hk
  by_cases e:k=j
  ·subst e
   rw [if_pos rfl] at hk
   cases hk
   exact ⟨h,by simp,n,e2,λm hm=>oW L.size hj (gD _ _ _) (e4 m hm)⟩
  ·rw [if_neg e] at hk
   obtain ⟨h',a1,n',a2,a3⟩:=L.path k i hk
   have hi:i<hs.length:=(List.getElem?_eq_some_iff.mp a1).1
   exact ⟨h',by rw [List.getElem?_append_left hi]; exact a1,n',a2,λm hm=>oW L.size hj (gD _ _ _) (a3 m hm)⟩
theorem gR {mask:Nat} (c:Cyc mask) (hashes:Array Int) (hl:hashes.size≤mask+1):∃ owner,layClean mask hashes=some owner∧Lay mask owner hashes.toList:=by
 have key:∀ (r hs:List Int) (owner:Array (Option Nat)),Lay mask owner hs→hs.length+r.length≤mask+1 →
   ∃ owner',r.foldl (λacc h=>do
    let (owner,k) ← acc
    let j ← layClean.free mask owner (turns mask) (bits h % (mask+1)) (bits h)
    pure (owner.setIfInBounds j (some k),k+1)) (some (owner,hs.length))=some (owner',hs.length+r.length)∧Lay mask owner' (hs++r):=by
  intro r
  induction r with
  | nil=>intro hs owner L _; exact ⟨owner,rfl,by simpa using L⟩
  | cons h r ih =>
   intro hs owner L hle
   rw [List.length_cons] at hle
   obtain ⟨j,e,L'⟩:=rL c L (by omega) h
   obtain ⟨owner',e',L''⟩:=ih (hs++[h]) _ L' (by rw [List.length_append,List.length_singleton]; omega)
   refine ⟨owner',?_,by rw [List.append_assoc] at L''; exact L''⟩
   rw [List.foldl_cons]
   have eb:(do
    let (owner,k) ← some (owner,hs.length)
    let j ← layClean.free mask owner (turns mask) (bits h % (mask+1)) (bits h)
    pure (owner.setIfInBounds j (some k),k+1))=some (owner.setIfInBounds j (some hs.length),hs.length+1):=by
    show (layClean.free mask owner (turns mask) (bits h % (mask+1)) (bits h)).bind _=_
    rw [e]; rfl
   rw [eb]
   rw [List.length_append,List.length_singleton] at e'
   rw [e',List.length_cons]
   congr 2
   omega
 obtain ⟨owner',e,L⟩:=key hashes.toList [] _ (ua mask) (by simpa using hl)
 refine ⟨owner',?_,by simpa using L⟩
 unfold layClean
 rw [← Array.foldl_toList]
 have e2:(0:Nat)=([]:List Int).length:=rfl
 rw [e2,e]
 rfl
theorem gF {t:SetTable} {hashes:Array Int} {wanted:Nat} (c:Cyc (sizeAbove wanted - 1)) (hl:hashes.size≤sizeAbove wanted - 1+1) :
  ∃ (t':SetTable) (zs:List (Nat×Nat)),t.relaid hashes wanted=some (t',(zs.map (·.2)).toArray)∧t'.mask=sizeAbove wanted - 1∧t'.led=t.led∧t'.plain=t.plain ∧
   Tb t' (zs.map (·.1))∧(zs.map (·.2)).Perm (List.range hashes.size)∧eU t'.mask (zs.map λz=>(z.1,hashes.getD z.2 0)):=by
 obtain ⟨owner,e,L⟩:=gR c hashes hl
 refine ⟨{ mask:=sizeAbove wanted - 1,place:=((live (sizeAbove wanted - 1) owner).map (·.1)).toArray,dummies:=#[],finger:=t.finger,led:=t.led,moves:=t.movedTo (sizeAbove wanted - 1),plain:=t.plain },live (sizeAbove wanted - 1) owner,?_,rfl,rfl,rfl,⟨rfl,rfl,?_,?_⟩,?_,?_⟩
 ·unfold relaid laid
  rw [e]; rfl
 ·unfold Up live
  rw [List.map_filterMap]
  have e1:((List.range (sizeAbove wanted - 1+1)).filterMap λj=>((owner.getD j none).map (j,·)).map (·.1))=(List.range (sizeAbove wanted - 1+1)).filter λj=>(owner.getD j none).isSome:=by
   generalize List.range (sizeAbove wanted - 1+1)=l
   induction l with
   | nil=>rfl
   | cons x l ih =>
    cases ex:owner.getD x none with
    | none=>rw [List.filterMap_cons_none (by rw [ex]; rfl),List.filter_cons_of_neg (by simp [ex])]; exact ih
    | some i=>rw [List.filterMap_cons_some (b:=x) (by rw [ex]; rfl),List.filter_cons_of_pos (by simp [ex]),ih]
  rw [e1]
  exact List.Pairwise.sublist List.filter_sublist List.pairwise_lt_range
 ·intro j hj
  obtain ⟨z,hz,rfl⟩:=List.mem_map.mp hj
  unfold live at hz
  obtain ⟨k,hk,e1⟩:=List.mem_filterMap.mp hz
  cases ex:owner.getD k none with
  | none=>rw [ex] at e1; cases e1
  | some i =>
   rw [ex] at e1
   have e2:(k,i)=z:=Option.some.inj e1
   subst e2
   have:=List.mem_range.mp hk
   show k≤sizeAbove wanted - 1
   omega
 ·have:=L.perm
  rw [Array.length_toList] at this
  exact this
 ·intro y hy
  obtain ⟨z,hz,rfl⟩:=List.mem_map.mp hy
  have key:∀ z:Nat×Nat,z∈live (sizeAbove wanted - 1) owner↔z.1≤sizeAbove wanted - 1∧owner.getD z.1 none=some z.2:=by
   intro z
   unfold live
   rw [List.mem_filterMap]
   constructor
   ·rintro ⟨k,hk,e1⟩
    cases ex:owner.getD k none with
    | none=>rw [ex] at e1; cases e1
    | some i =>
     rw [ex] at e1
     have e2:(k,i)=z:=Option.some.inj e1
     subst e2
     have:=List.mem_range.mp hk
     exact ⟨by omega,ex⟩
   ·rintro ⟨h1,h2⟩
    exact ⟨z.1,List.mem_range.mpr (by omega),by rw [h2]; rfl⟩
  obtain ⟨z1,z2⟩:=(key z).mp hz
  obtain ⟨h,a1,n,a2,a3⟩:=L.path _ _ z2
  have eh:hashes.getD z.2 0=h:=by
   have a1':hashes[z.2]? = some h:=by simpa using a1
   rw [Array.getD_eq_getD_getElem?,a1']; rfl
  refine ⟨n,by rw [eh]; exact a2,λm hm=>?_⟩
  have:=a3 m hm
  have hle:=gD (sizeAbove wanted - 1) h m
  rw [fX L.size hle] at this
  cases ex:owner.getD (pos (sizeAbove wanted - 1) h m) none with
  | none=>rw [ex] at this; cases this
  | some i =>
   rw [List.map_map]
   show pos (sizeAbove wanted - 1) (hashes.getD z.2 0) m∈_
   rw [eh]
   exact List.mem_map.mpr ⟨(pos (sizeAbove wanted - 1) h m,i),(key _).mpr ⟨hle,ex⟩,rfl⟩
section
variable {prog:Program} {w:World} {K:Type} [DecidableEq K] {knd:KeyKind prog w K} {A:Around} {E:Value→Shared→Prop} {s:Shared}
theorem gW (n:Nat) {v:Value} (h:carriedByValue v=true):ofAClassStatement n v=pure false:=by
 cases v with
 | ref a=>simp [carriedByValue] at h
 | _=>cases n <;> rfl
theorem eW {ks:List K} {a:Addr} {Q:Bool→Shared→Prop} (hk:IsTupleKey knd s.heap ks a) (h:Q false s):wpAny (model prog w) A (ofAClassStatement 8 (.ref a)) Q E s:=by
 have hT:=hk.typeIs
 obtain ⟨o,items,n,ho,_,hd,hi⟩:=hk
 unfold ofAClassStatement
 refine wpAny_bind (wpAny_typeOf hT ?_)
 dsimp only
 rw [if_pos (by decide)]
 refine wpAny_bind (wpAny_pure ?_)
 simp only [Bool.not_true,Bool.false_eq_true,if_false]
 refine wpAny_bind (wpAny_seqItems ho hd ?_)
 dsimp only
 refine wpAny_bind ?_
 rw [← Array.forIn_toList]
 refine wpAny_forIn_list _ (λrest r s'=>r.1=none∧s'=s∧∀ v∈rest,carriedByValue v=true) _ ?_ ?_ _ _ ⟨rfl,rfl,hi.byValue⟩
 ·rintro v rest r s' ⟨hr,rfl,hall⟩
  rw [gW _ (hall v List.mem_cons_self)]
  refine wpAny_bind (wpAny_pure ?_)
  simp only [Bool.false_eq_true,if_false]
  exact wpAny_pure ⟨rfl,rfl,λu hu'=>hall u (List.mem_cons_of_mem _ hu')⟩
 ·rintro ⟨r1,r2⟩ s' ⟨hr,rfl,_⟩
  simp only at hr
  subst hr
  exact wpAny_pure h
theorem rM (n:Nat) {x:Value} (hx:x.scannable=true):∃ b,hashByValue n x=pure b:=⟨_,hashByValue_scannable n hx⟩
theorem qc {ks:List K} {a:Addr} {Q:Bool→Shared→Prop} (hk:IsTupleKey knd s.heap ks a) (hsc:∀ k v,knd.is k v=true→v.scannable=true) (h:∀ b,Q b s):wpAny (model prog w) A (hashByValue 8 (.ref a)) Q E s:=by
 have hT:=hk.typeIs
 obtain ⟨o,items,n,ho,_,hd,hi⟩:=hk
 have hall:∀ v∈items.toList,v.scannable=true:=by
  generalize items.toList=l at hi
  induction hi with
  | nil=>intro v hv; simp at hv
  | cons h1 _ ih =>
   intro v hv
   rcases List.mem_cons.mp hv with rfl | hv
   ·exact hsc _ _ h1
   ·exact ih v hv
 unfold hashByValue
 refine wpAny_bind (wpAny_specialOf hT F.slot_tuple_hash.lookup ?_)
 show wpAny _ _ (seqItems? (.ref a) >>= _) _ _ s
 refine wpAny_bind (wpAny_seqItems ho hd ?_)
 refine wpAny_bind ?_
 show wpAny _ _ (forIn items _ _) _ _ s
 rw [← Array.forIn_toList]
 refine wpAny_forIn_list _ (λrest r s'=>r.1=none∧s'=s∧∀ v∈rest,v.scannable=true) _ ?_ ?_ _ _ ⟨rfl,rfl,hall⟩
 ·rintro v rest r s' ⟨hr,rfl,hall⟩
  obtain ⟨b,e⟩:=rM 7 (hall v List.mem_cons_self)
  rw [e]
  refine wpAny_bind (wpAny_pure ?_)
  cases b with
  | true =>
   simp only [Bool.not_true,Bool.false_eq_true,if_false]
   exact wpAny_pure ⟨rfl,rfl,λu hu'=>hall u (List.mem_cons_of_mem _ hu')⟩
  | false =>
   simp only [Bool.not_false,if_true]
   exact wpAny_pure (wpAny_pure (h false))
 ·rintro ⟨r1,r2⟩ s' ⟨hr,rfl,_⟩
  simp only at hr
  subst hr
  exact wpAny_pure (h true)
theorem uc {k:List K} {b:Addr} (hb:IsTupleKey knd s.heap k b) (stored:List Value) (hs:∀ v∈stored,∃ k' b',v = .ref b'∧IsTupleKey knd s.heap k' b') {Q:Bool→Shared→Prop} (h:Q false s) :
  wpAny (model prog w) A (searchCouldBeSeen (.ref b) stored) Q E s:=by
 unfold searchCouldBeSeen
 refine wpAny_bind ?_
 refine wpAny_forIn_list _ (λrest r s'=>r.1=none∧s'=s∧∀ v∈rest,∃ k' b',v = .ref b'∧IsTupleKey knd s.heap k' b') _ ?_ ?_ _ _ ⟨rfl,rfl,hs⟩
 ·rintro v rest r s' ⟨hr,rfl,hall⟩
  obtain ⟨k',b',rfl,hb'⟩:=hall v List.mem_cons_self
  have hall':=λu hu'=>hall u (List.mem_cons_of_mem _ hu')
  by_cases hv:(b == b')=true
  ·simp only [hv,Bool.true_or,if_true]
   exact wpAny_pure ⟨rfl,rfl,hall'⟩
  ·have hv':(b == b')=false:=by simpa using hv
   have hc:carriedByValue (.ref b)=false:=rfl
   simp only [hv',hc,Bool.false_and,Bool.or_false,Bool.false_eq_true,if_false]
   refine wpAny_bind (wpAny_eqIsQuiet_tuple hb ?_)
   simp only [Bool.not_true,Bool.false_eq_true,if_false]
   refine wpAny_bind (wpAny_eqIsQuiet_tuple hb' ?_)
   simp only [Bool.not_true,Bool.false_eq_true,if_false]
   refine wpAny_bind (eW hb ?_)
   simp only [Bool.false_eq_true,if_false]
   refine wpAny_bind (eW hb' ?_)
   simp only [Bool.false_eq_true,if_false]
   exact wpAny_pure ⟨rfl,rfl,hall'⟩
 ·rintro ⟨r1,r2⟩ s' ⟨hr,rfl,_⟩
  simp only at hr
  subst hr
  exact wpAny_pure h
end
section
variable {prog:Program} {w:World} {K:Type} [DecidableEq K] (knd:KeyKind prog w K)
noncomputable abbrev Ent (K:Type):=Nat×Addr×List K
noncomputable def ent (z:Ent K):Int×Value:=(tupleKeyHash knd z.2.2,.ref z.2.1)
noncomputable def pth (z:Ent K):Nat×Int:=(z.1,tupleKeyHash knd z.2.2)
structure TS (h:Heap) (a:Addr) (zs:List (Ent K)):Prop where
 ob:∃ o es ep t,h.get? a=some o∧o.ExactSet∧o.data = .set es ep t∧es.toList=zs.map (ent knd)∧Tb t (zs.map (·.1))∧Mk t.mask∧zs.length * 5<t.mask * 3∧eU t.mask (zs.map (pth knd))
 keys:∀ z∈zs,IsTupleKey knd h z.2.2 z.2.1
 nd:(zs.map (·.2.2)).Nodup
variable {knd}
variable {A:Around} {E:Value→Shared→Prop} {s:Shared}
theorem eO {t:SetTable} {l:List Nat} (T:Tb t l):t.fill=l.length:=by
 unfold SetTable.fill
 rw [T.pl,T.nd]; simp
theorem eP {t:SetTable} {l:List Nat} (T:Tb t l) {n:Nat} (hn:l.length=n) (hf:n≤t.mask):t.fits n=true:=by
 unfold SetTable.fits
 rw [eO T,T.pl]
 simp [hn,hf]
theorem iK {mask:Nat} {h:Int} (n0 m:Nat):(nth mask (nth mask (st mask h) n0) m).j=pos mask h (n0+m):=by
 unfold pos; rw [dJ]
theorem md {a b:Addr} {o:Obj} {es:Array (Int×Value)} {ep:Nat} {t:SetTable} {zs:List (Ent K)} {k:List K} {Q:SetFound→Shared→Prop} (hu:A.units<cLine)
  (ho:s.heap.get? a=some o) (hd:o.data = .set es ep t) (hes:es.toList=zs.map (ent knd)) (T:Tb t (zs.map (·.1))) (hf:t.fits es.size=true) (hodd:t.gaveWay=false)
  (hk:∀ z∈zs,IsTupleKey knd s.heap z.2.2 z.2.1) (hb:IsTupleKey knd s.heap k b) {N:Nat} (hN:pos t.mask (tupleKeyHash knd k) N∉zs.map (·.1)) (hNb:N<10 * turns t.mask)
  (hN1:∀ m,m<N→pos t.mask (tupleKeyHash knd k) m∈zs.map (·.1))
  (q1:(∃ z∈zs,z.2.2=k)→Q (.there none) s) (q2:(∀ m,m<N→∀ z∈zs,z.1=pos t.mask (tupleKeyHash knd k) m→z.2.2≠k)→Q (.free (pos t.mask (tupleKeyHash knd k) N) false) s) :
  ∀ (d n0 fuel:Nat) (stand:Option SetTable.Probe),N - n0=d→n0≤N→d<fuel→stand.getD (t.probeStart (tupleKeyHash knd k))=nth t.mask (st t.mask (tupleKeyHash knd k)) n0 →
   (∀ m,m<n0→∀ z∈zs,z.1=pos t.mask (tupleKeyHash knd k) m→z.2.2≠k) →
   wpAny (model prog w) A (setSearchFrom a (.ref b) (tupleKeyHash knd k) true fuel stand) Q E s:=by
 intro d
 induction d using Nat.strongRecOn with
 | _ d ih =>
  intro n0 fuel stand hdd hn0 hfuel hst hpast
  obtain ⟨fuel,rfl⟩:∃ f,fuel=f+1:=⟨fuel - 1,by omega⟩
  unfold setSearchFrom
  refine wpAny_bind (wpAny_setState_of ho hd hf ?_)
  dsimp only
  rw [hodd]
  simp only [Bool.false_eq_true,if_false]
  rw [hst]
  have hget:∀ {i:Nat} {z:Ent K},zs[i]? = some z→es[i]? = some (ent knd z):=λ{i z} e=>by
   rw [← Array.getElem?_toList,hes,List.getElem?_map,e]; rfl
  obtain ⟨n,hn,hev,hno⟩:=iH (λm=>pos t.mask (tupleKeyHash knd k) (n0+m)∉zs.map (·.1)∨∃ z∈zs,z.1=pos t.mask (tupleKeyHash knd k) (n0+m)∧tupleKeyHash knd z.2.2=tupleKeyHash knd k) (N - n0)
   (.inl (by rw [show n0+(N - n0)=N by omega]; exact hN))
  have hlive:∀ m,pos t.mask (tupleKeyHash knd k) m∈zs.map (·.1)→∃ i z,t.slot (pos t.mask (tupleKeyHash knd k) m) = .live i∧zs[i]? = some z∧z.1=pos t.mask (tupleKeyHash knd k) m:=λm hm=>by
   obtain ⟨i,hi,e⟩:=List.mem_iff_getElem.mp hm
   have hi':i<zs.length:=by simpa using hi
   have e1:(zs.map (·.1))[i]? = some (pos t.mask (tupleKeyHash knd k) m):=by rw [List.getElem?_eq_getElem hi,e]
   refine ⟨i,zs[i],hV T e1,by simp [hi'],?_⟩
   rw [List.getElem_map] at e
   exact e
  have hskip:∀ m,m<n→∃ i,t.slot (nth t.mask (nth t.mask (st t.mask (tupleKeyHash knd k)) n0) m).j = .live i∧((es[i]?.map (·.1)).getD 0 == tupleKeyHash knd k)=false:=λm hm=>by
   have h1:pos t.mask (tupleKeyHash knd k) (n0+m)∈zs.map (·.1):=by
    by_cases z:pos t.mask (tupleKeyHash knd k) (n0+m)∈zs.map (·.1)
    ·exact z
    ·exact (hno m hm (.inl z)).elim
   obtain ⟨i,z,e1,e2,e3⟩:=hlive _ h1
   refine ⟨i,by rw [iK]; exact e1,?_⟩
   rw [hget e2]
   show (tupleKeyHash knd z.2.2 == tupleKeyHash knd k)=false
   rw [beq_eq_false_iff_ne]
   intro e4
   exact hno m hm (.inr ⟨z,List.mem_of_getElem? e2,e3,e4⟩)
  by_cases hmem:pos t.mask (tupleKeyHash knd k) (n0+n)∈zs.map (·.1)
  ·
   have hcand:∃ z∈zs,z.1=pos t.mask (tupleKeyHash knd k) (n0+n)∧tupleKeyHash knd z.2.2=tupleKeyHash knd k:=by
    rcases hev with e | e
    ·exact (e hmem).elim
    ·exact e
   obtain ⟨i,z,e1,e2,e3⟩:=hlive _ hmem
   have hz:z∈zs:=List.mem_of_getElem? e2
   have hzh:tupleKeyHash knd z.2.2=tupleKeyHash knd k:=by
    obtain ⟨z',hz',f1,f2⟩:=hcand
    have hinj:z'=z:=by
     obtain ⟨i',hi',ei'⟩:=List.mem_iff_getElem.mp hz'
     have g1:(zs.map (·.1))[i']? = some (pos t.mask (tupleKeyHash knd k) (n0+n)):=by rw [List.getElem?_map,List.getElem?_eq_getElem hi',ei',← f1]; rfl
     have g2:=hV T g1
     rw [e1] at g2
     cases g2
     rw [List.getElem?_eq_getElem hi',ei'] at e2
     exact Option.some.inj e2
    rw [← hinj]; exact f2
   have hnN:n0+n<N:=by
    rcases Nat.lt_or_ge (n0+n) N with z' | z'
    ·exact z'
    ·have:n0+n=N:=by omega
     rw [this] at hmem; exact (hN hmem).elim
   have hp:=oU t (λi=>(es[i]?.map (·.1)).getD 0) (tupleKeyHash knd k) i n (nth t.mask (st t.mask (tupleKeyHash knd k)) n0) (10 * turns t.mask) (by omega) hskip (by rw [iK]; exact e1)
    (by rw [hget e2]; show (tupleKeyHash knd z.2.2 == tupleKeyHash knd k)=true; rw [hzh]; simp)
   generalize hg:SetTable.probe t _ (tupleKeyHash knd k) (nth t.mask (st t.mask (tupleKeyHash knd k)) n0)=met
   have hmet:met=some (.candidate (nth t.mask (nth t.mask (st t.mask (tupleKeyHash knd k)) n0) n).j i (nth t.mask (nth t.mask (st t.mask (tupleKeyHash knd k)) n0) (n+1))):=hg.symm.trans hp
   subst hmet
   dsimp only
   have cont:wpAny (model prog w) A (match es[i]? with
      | some (_,y)=>do
       let equal ← holding [y] (eqBool y (.ref b))
       let (es',_,t') ← setState a
       if (true && equal)=true then return SetFound.there none
       let some same:=t'.sameMemory t.moves t.mask | unsupported "set.changed-during-lookup:is-the-new-block-at-the-old-address"
       let still ← match (if same then t'.slot (nth t.mask (nth t.mask (st t.mask (tupleKeyHash knd k)) n0) n).j else .empty) with
        | .live i'=>match es'[i']? with
         | some (_,y')=>do pure (if ← isSame y' y then some i' else none)
         | none=>pure none
        | _=>pure none
       match still with
       | none=>rule "set.search.anew"; setSearchFrom a (.ref b) (tupleKeyHash knd k) true fuel none
       | some i'=>if equal then return SetFound.there (some i') else setSearchFrom a (.ref b) (tupleKeyHash knd k) true fuel (some (nth t.mask (nth t.mask (st t.mask (tupleKeyHash knd k)) n0) (n+1)))
      | _=>unsupported "internal:set-entry") Q E s:=by
    rw [hget e2]
    show wpAny _ _ (holding [Value.ref z.2.1] (eqBool (.ref z.2.1) (.ref b)) >>= _) _ _ _
    refine wpAny_bind (wpAny_holding (wpAny_eqBool_tuple hu (hk z hz) hb ?_))
    refine wpAny_bind (wpAny_setState_of ho hd hf ?_)
    dsimp only
    by_cases hkk:z.2.2=k
    ·rw [decide_eq_true hkk]
     simp only [Bool.and_self,if_true]
     exact wpAny_pure (q1 ⟨z,hz,hkk⟩)
    ·rw [decide_eq_false hkk]
     simp only [Bool.and_false,Bool.false_eq_true,if_false]
     have hsm:t.sameMemory t.moves t.mask=some true:=by unfold SetTable.sameMemory; simp
     rw [hsm]
     simp only [if_true]
     rw [iK,e1]
     dsimp only
     rw [hget e2]
     dsimp only
     refine wpAny_bind (wpAny_isSame_ref_self ?_)
     simp only [if_true]
     refine wpAny_bind (wpAny_pure ?_)
     dsimp only
     refine ih (N - (n0+n+1)) (by omega) (n0+n+1) fuel _ rfl (by omega) (by omega) ?_ ?_
     ·show nth t.mask (nth t.mask (st t.mask (tupleKeyHash knd k)) n0) (n+1)=_
      rw [← dJ]; rfl
     ·intro m hm z' hz' e
      by_cases hlt:m<n0
      ·exact hpast m hlt z' hz' e
      ·intro hzk
       have hm2:pos t.mask (tupleKeyHash knd k) m∈zs.map (·.1):=List.mem_map.mpr ⟨z',hz',e⟩
       obtain ⟨m',rfl⟩:∃ m',m=n0+m':=⟨m - n0,by omega⟩
       rcases Nat.lt_or_ge m' n with hlt' | hge
       ·exact hno m' hlt' (.inr ⟨z',hz',e,by rw [hzk]⟩)
       ·have:m'=n:=by omega
        subst this
        obtain ⟨i',hi',ei'⟩:=List.mem_iff_getElem.mp hz'
        have g1:(zs.map (·.1))[i']? = some (pos t.mask (tupleKeyHash knd k) (n0+m')):=by rw [List.getElem?_map,List.getElem?_eq_getElem hi',ei',← e]; rfl
        have g2:=hV T g1
        rw [e1] at g2
        cases g2
        rw [List.getElem?_eq_getElem hi',ei'] at e2
        have:z'=z:=Option.some.inj e2
        exact hkk (this ▸ hzk)
   cases hl:t.led with
   | true =>
    simp only [Bool.not_true,Bool.false_eq_true,if_false]
    exact cont
   | false =>
    simp only [Bool.not_false,if_true]
    refine wpAny_bind (uc hb _ ?_ ?_)
    ·intro v hv
     obtain ⟨e,he,rfl⟩:=List.mem_map.mp hv
     rw [Array.toList_filter,hes] at he
     obtain ⟨he1,_⟩:=List.mem_filter.mp he
     obtain ⟨z',hz',rfl⟩:=List.mem_map.mp he1
     exact ⟨z'.2.2,z'.2.1,rfl,hk z' hz'⟩
    ·simp only [Bool.false_eq_true,if_false]
     exact cont
  ·
   have hnN:n0+n=N:=by
    rcases Nat.lt_or_ge (n0+n) N with z | z
    ·exact (hmem (hN1 _ z)).elim
    ·omega
   have hp:=iI t (λi=>(es[i]?.map (·.1)).getD 0) (tupleKeyHash knd k) n (nth t.mask (st t.mask (tupleKeyHash knd k)) n0) (10 * turns t.mask) (by omega) hskip (by rw [iK]; exact ma T hmem)
   generalize hg:SetTable.probe t _ (tupleKeyHash knd k) (nth t.mask (st t.mask (tupleKeyHash knd k)) n0)=met
   have hmet:met=some (.empty (nth t.mask (nth t.mask (st t.mask (tupleKeyHash knd k)) n0) n).j (nth t.mask (st t.mask (tupleKeyHash knd k)) n0).dummy):=hg.symm.trans hp
   subst hmet
   have hdm:(nth t.mask (st t.mask (tupleKeyHash knd k)) n0).dummy=none:=gE _ _ _
   rw [hdm]
   dsimp only
   rw [iK,hnN]
   refine wpAny_pure (q2 λm hm z hz e hzk=>?_)
   by_cases hlt:m<n0
   ·exact hpast m hlt z hz e hzk
   ·obtain ⟨m',rfl⟩:∃ m',m=n0+m':=⟨m - n0,by omega⟩
    exact hno m' (by omega) (.inr ⟨z,hz,e,by rw [hzk]⟩)
end
theorem oX:∀ (n:Nat) (l:List Nat),(∀ j,j<n→j∈l)→n≤l.length
 | 0,_,_=>Nat.zero_le _
 | n+1,l,h=>by
  have hn:=h n (by omega)
  have ih:=oX n (l.erase n) λj hj=>(List.mem_erase_of_ne (by omega)).mpr (h j (by omega))
  rw [List.length_erase_of_mem hn] at ih
  have:0<l.length:=List.length_pos_of_mem hn
  omega
theorem iL (n:Nat) (l:List Nat) (h:l.length≤n):∃ j,j≤n∧j∉l:=by
 by_cases z:∃ j,j≤n∧j∉l
 ·exact z
 ·exfalso
  have:=oX (n+1) l λj hj=>by
   by_cases e:j∈l
   ·exact e
   ·exact (z ⟨j,by omega,e⟩).elim
  omega
section
variable {prog:Program} {w:World} {K:Type} [DecidableEq K] {knd:KeyKind prog w K} {A:Around} {E:Value→Shared→Prop} {s:Shared}
theorem IsTupleKey.same {h h':Heap} {ks:List K} {a d:Addr} {o:Obj} {es ep t} (x:IsTupleKey knd h ks a) (ho:h.get? d=some o) (hd:o.data = .set es ep t) (hs:Heap.SameBut d h h'):IsTupleKey knd h' ks a:=by
 obtain ⟨o',items,n,ho',hc,hd',hi⟩:=x
 have hne:a≠d:=by
  rintro rfl
  obtain rfl:o'=o:=Option.some.inj (ho'.symm.trans ho)
  rw [hd] at hd'; exact nomatch hd'
 exact ⟨o',items,n,(hs.2 a hne).trans ho',hc,hd',hi⟩
theorem rN {t:SetTable} {l:List Nat} (T:Tb t l) (b:Bool):Tb { t with plain:=b } l:=⟨T.pl,T.nd,T.up,T.le⟩
theorem stored {a:Addr} {o:Obj} {es:Array (Int×Value)} {ep:Nat} {t:SetTable} (ho:s.heap.get? a=some o) (hd:o.data = .set es ep t) (es':Array (Int×Value)) (t':SetTable) :
  (s.heap.update a (Obj.putSet es' t')).get? a=some { o with data:=.set es' (ep+1) t' }:=by
 have:=Heap.get?_update_self (Obj.putSet es' t') ho (by rw [putSet_of es' t' hd]; rfl)
 rw [putSet_of es' t' hd] at this; exact this
theorem kZ {n:Nat} (h:n≤64):n≤sizeLine:=by rw [sizeLine_eq]; omega
theorem qd {a b:Addr} {zs:List (Ent K)} {k:List K} {Q:Bool→Shared→Prop} (hu:A.units<cLine) (hsc:∀ k v,knd.is k v=true→v.scannable=true) (hS:TS knd s.heap a zs) (hb:IsTupleKey knd s.heap k b) (hroom:zs.length<60)
  (h:∀ r h' zs',Heap.SameBut a s.heap h'→TS knd h' a zs'→((k∈zs.map (·.2.2)∧zs'=zs)∨(k∉zs.map (·.2.2)∧(zs'.map (·.2)).Perm ((b,k) :: zs.map (·.2))))→Q r { s with heap:=h' }) :
  wpAny (model prog w) A (setAddHashed a (.ref b) (tupleKeyHash knd k)) Q E s:=by
 obtain ⟨⟨o,es,ep,t,ho,hex,hd,hes,T,hmask,hfull,hpath⟩,hk,hnd⟩:=id hS
 have hlen:es.size=zs.length:=by rw [← Array.length_toList,hes,List.length_map]
 have hge:=hmask.ge
 have hle:zs.length≤t.mask:=by omega
 have hf:t.fits es.size=true:=eP T (by rw [List.length_map,hlen]) (by rw [hlen]; exact hle)
 have hodd:t.gaveWay=false:=by unfold SetTable.gaveWay; rw [hmask.odd]; rfl
 have cyc:=hmask.cyc
 obtain ⟨j₀,hj₀,hj₀'⟩:=iL t.mask (zs.map (·.1)) (by rw [List.length_map]; exact hle)
 obtain ⟨n₀,hn₀,en₀⟩:=cover cyc (tupleKeyHash knd k) hj₀
 obtain ⟨N,hNle,hN,hNno⟩:=iH (λm=>pos t.mask (tupleKeyHash knd k) m∉zs.map (·.1)) n₀ (by rw [en₀]; exact hj₀')
 have hN1:∀ m,m<N→pos t.mask (tupleKeyHash knd k) m∈zs.map (·.1):=λm hm=>by
  by_cases z:pos t.mask (tupleKeyHash knd k) m∈zs.map (·.1)
  ·exact z
  ·exact (hNno m hm z).elim
 have hturns:10 * turns t.mask<100000:=by unfold turns; omega
 unfold setAddHashed setAddHashedIn
 refine wpAny_holding (wpAny_bind (wpAny_setState_of ho hd hf ?_))
 dsimp only
 have hby:byScan (.ref b) es=false:=rfl
 rw [hby]
 simp only [Bool.false_eq_true,if_false]
 refine wpAny_bind ?_
 unfold setSearch
 refine md hu ho hd hes T hf hodd hk hb hN (by omega) hN1 ?_ ?_ N 0 100000 none rfl (by omega) (by omega) rfl (λm hm=>by omega)
 ·intro hex'
  dsimp only
  have e:s={ s with heap:=s.heap }:=by cases s; rfl
  have hq:=h false s.heap zs (Heap.SameBut.refl a s.heap) hS (.inl ⟨by
   obtain ⟨z,hz,e⟩:=hex'
   exact List.mem_map.mpr ⟨z,hz,e⟩,rfl⟩)
  rw [e]; exact wpAny_pure hq
 ·intro hnone
  have hknew:k∉zs.map (·.2.2):=by
   intro hm
   obtain ⟨z,hz,ez⟩:=List.mem_map.mp hm
   obtain ⟨n,e1,e2⟩:=hpath (pth knd z) (List.mem_map.mpr ⟨z,hz,rfl⟩)
   have e1':pos t.mask (tupleKeyHash knd k) n=z.1:=by rw [← ez]; exact e1
   have e2':∀ m,m<n→pos t.mask (tupleKeyHash knd k) m∈zs.map (·.1):=λm hm=>by
    have:=e2 m hm
    rw [List.map_map] at this
    rw [← ez]; exact this
   have hnN:n<N:=by
    rcases Nat.lt_or_ge n N with z' | z'
    ·exact z'
    ·exfalso
     rcases Nat.lt_or_ge N n with z'' | z''
     ·exact hN (e2' N z'')
     ·have:n=N:=by omega
      subst this
      exact hN (by rw [e1']; exact List.mem_map.mpr ⟨z,hz,rfl⟩)
   exact hnone n hnN z hz e1'.symm ez
  dsimp only
  refine wpAny_bind (wpAny_setState_of ho hd hf ?_)
  dsimp only
  have hpl:pos t.mask (tupleKeyHash knd k) N≤t.mask:=gD _ _ _
  obtain ⟨T1,hp1,hm1⟩:=rJ T hN hpl
  generalize hput:t.put (pos t.mask (tupleKeyHash knd k) N)=tp at T1 hp1 hm1 ⊢
  obtain ⟨t1,p⟩:=tp
  dsimp only at T1 hp1 hm1 ⊢
  obtain ⟨zs1,hzs1⟩:∃ zs1,zs1=zs.take p++(pos t.mask (tupleKeyHash knd k) N,b,k) :: zs.drop p:=⟨_,rfl⟩
  have hT1:zs1.map (·.1)=(zs.map (·.1)).take (below (zs.map (·.1)).toArray (pos t.mask (tupleKeyHash knd k) N))++(pos t.mask (tupleKeyHash knd k) N) :: (zs.map (·.1)).drop (below (zs.map (·.1)).toArray (pos t.mask (tupleKeyHash knd k) N)):=by
   rw [hzs1,← hp1]; simp [List.map_take,List.map_drop]
  rw [← hT1] at T1
  have hperm:zs1.Perm ((pos t.mask (tupleKeyHash knd k) N,b,k) :: zs):=by
   rw [hzs1]
   refine List.perm_middle.trans ?_
   rw [List.take_append_drop]
  have hlen1:zs1.length=zs.length+1:=by rw [hperm.length_eq,List.length_cons]
  have hes1:(insertAt es p (tupleKeyHash knd k,Value.ref b)).toList=zs1.map (ent knd):=by
   rw [SetTable.toList_insertAt,hes,hzs1]
   simp [List.map_take,List.map_drop,ent]
  have hpath1:eU t.mask (zs1.map (pth knd)):=by
   refine eU.mono hpath (pos t.mask (tupleKeyHash knd k) N,tupleKeyHash knd k) (λz hz=>?_) (λz hz=>?_) ⟨N,rfl,λm hm=>by rw [List.map_map]; exact hN1 m hm⟩
   ·obtain ⟨y,hy,rfl⟩:=List.mem_map.mp hz
    rcases List.mem_cons.mp (hperm.mem_iff.mp hy) with e | e
    ·right; rw [e]; rfl
    ·left; exact List.mem_map.mpr ⟨y,e,rfl⟩
   ·obtain ⟨y,hy,rfl⟩:=List.mem_map.mp hz
    exact List.mem_map.mpr ⟨y,hperm.mem_iff.mpr (List.mem_cons_of_mem _ hy),rfl⟩
  have hkeys1:∀ z∈zs1,IsTupleKey knd s.heap z.2.2 z.2.1:=λz hz=>by
   rcases List.mem_cons.mp (hperm.mem_iff.mp hz) with e | e
   ·rw [e]; exact hb
   ·exact hk z e
  have hkp1:(zs1.map (·.2.2)).Perm (k :: zs.map (·.2.2)):=hperm.map _
  have hkq1:(zs1.map (·.2)).Perm ((b,k) :: zs.map (·.2)):=hperm.map _
  have hnd1:(zs1.map (·.2.2)).Nodup:=hkp1.nodup_iff.mpr (List.nodup_cons.mpr ⟨hknew,hnd⟩)
  have hsz1:(insertAt es p (tupleKeyHash knd k,Value.ref b)).size=zs.length+1:=by rw [← Array.length_toList,hes1,List.length_map,hlen1]
  have tail:∀ t2:SetTable,Tb t2 (zs1.map (·.1))→t2.mask=t.mask→wpAny (model prog w) A (do
    storeSet a (insertAt es p (tupleKeyHash knd k,Value.ref b)) t2
    if (!false && t2.tooFull)=true then do
      setRelay a (SetTable.grown (es.size+1))
      pure true
     else pure true) Q E s:=by
   intro t2 T2 hm2
   refine wpAny_bind (wpAny_storeSet_of ho hd ?_ (by rw [hsz1]; exact kZ (by omega)))
   have ho1:=stored ho hd (insertAt es p (tupleKeyHash knd k,Value.ref b)) t2
   have hsb1:=Heap.SameBut.update s.heap a (Obj.putSet (insertAt es p (tupleKeyHash knd k,Value.ref b)) t2)
   have hfill:t2.fill=zs.length+1:=by rw [eO T2,List.length_map,hlen1]
   by_cases hfull2:t2.tooFull=true
   ·rw [hfull2]
    simp only [Bool.not_false,Bool.and_self,if_true]
    refine wpAny_bind ?_
    unfold setRelay
    have hf2:t2.fits (insertAt es p (tupleKeyHash knd k,Value.ref b)).size=true:=eP T2 (by rw [List.length_map,hlen1,hsz1]) (by rw [hsz1,hm2]; omega)
    refine wpAny_bind (wpAny_setState_of ho1 rfl hf2 ?_)
    dsimp only
    obtain ⟨nn,hnn⟩:∃ nn,nn=zs.length+1:=⟨_,rfl⟩
    have hw:SetTable.grown (es.size+1)=nn * 4:=by rw [hlen,hnn]; unfold SetTable.grown; rw [if_neg (by omega)]
    obtain ⟨hmk,hsz,hsz256⟩:=fV (w:=nn * 4) (by omega)
    rw [hw]
    rw [if_neg (by rw [sizeLine_eq]; omega)]
    have hhs:((insertAt es p (tupleKeyHash knd k,Value.ref b)).map (·.1)).size=nn:=by rw [Array.size_map,hsz1,hnn]
    obtain ⟨t3,zi,hrel,hm3,hl3,hp3,T3,hperm3,hpath3⟩:=gF (t:=t2) (hashes:=(insertAt es p (tupleKeyHash knd k,Value.ref b)).map (·.1)) (wanted:=nn * 4) hmk.cyc (by rw [hhs]; omega)
    rw [hhs] at hperm3
    have hidx:∀ z∈zi,z.2<nn:=λz hz=>List.mem_range.mp (hperm3.mem_iff.mp (List.mem_map.mpr ⟨z,hz,rfl⟩))
    have hlen5:zs1.length=nn:=by rw [hlen1,hnn]
    obtain ⟨zs2,hzs2⟩:∃ zs2:List (Ent K),zs2=zi.map λz=>(z.1,(zs1.getD z.2 (0,0,[])).2):=⟨_,rfl⟩
    have hgetE:∀ i,i<nn→(insertAt es p (tupleKeyHash knd k,Value.ref b))[i]? = some (ent knd (zs1.getD i (0,0,[]))):=λi hi=>by
     rw [← Array.getElem?_toList,hes1,List.getElem?_map,List.getD_eq_getElem?_getD,List.getElem?_eq_getElem (by omega)]; rfl
    have hes2:(((zi.map (·.2)).toArray).filterMap (λi=>(insertAt es p (tupleKeyHash knd k,Value.ref b))[i]?)).toList=zs2.map (ent knd):=by
     rw [Array.toList_filterMap,hzs2]
     show (zi.map (·.2)).filterMap _=_
     rw [List.filterMap_map,List.map_map]
     have:∀ l:List (Nat×Nat),(∀ z∈l,z.2<nn)→l.filterMap ((λi=>(insertAt es p (tupleKeyHash knd k,Value.ref b))[i]?) ∘ λx=>x.2)=l.map (ent knd ∘ λz=>(z.1,(zs1.getD z.2 (0,0,[])).2)):=by
      intro l
      induction l with
      | nil=>intro _; rfl
      | cons x l ih =>
       intro hl
       rw [List.filterMap_cons_some (b:=ent knd (zs1.getD x.2 (0,0,[]))) (by show (insertAt es p (tupleKeyHash knd k,Value.ref b))[x.2]? = _; exact hgetE _ (hl x (by simp))),List.map_cons,ih λz hz=>hl z (by simp [hz])]
       rfl
     exact this zi hidx
    have hsz2:(((zi.map (·.2)).toArray).filterMap (λi=>(insertAt es p (tupleKeyHash knd k,Value.ref b))[i]?)).size=nn:=by
     rw [← Array.length_toList,hes2,List.length_map,hzs2,List.length_map]
     have:=hperm3.length_eq
     rw [List.length_map,List.length_range] at this
     exact this
    refine wpAny_bind ?_
    rw [hrel]
    show wpAny _ _ (@ite _ _ _ _ _) _ _ _
    rw [if_neg (by rw [hsz2,hsz1,hnn]; simp)]
    refine wpAny_pure ?_
    dsimp only
    refine wpAny_storeSet_of ho1 rfl ?_ (by rw [hsz2]; exact kZ (by omega))
    have ho2:=stored (s:={ s with heap:=s.heap.update a (Obj.putSet (insertAt es p (tupleKeyHash knd k,Value.ref b)) t2) }) ho1 rfl (((zi.map (·.2)).toArray).filterMap (λi=>(insertAt es p (tupleKeyHash knd k,Value.ref b))[i]?)) t3
    have hsb2:=hsb1.trans (Heap.SameBut.update (s.heap.update a (Obj.putSet (insertAt es p (tupleKeyHash knd k,Value.ref b)) t2)) a (Obj.putSet (((zi.map (·.2)).toArray).filterMap (λi=>(insertAt es p (tupleKeyHash knd k,Value.ref b))[i]?)) t3))
    have hkq2:(zs2.map (·.2)).Perm (zs1.map (·.2)):=by
     rw [hzs2,List.map_map]
     have e1:zi.map ((λz:Ent K=>z.2) ∘ λz=>(z.1,(zs1.getD z.2 (0,0,[])).2))=(zi.map (·.2)).map λi=>(zs1.getD i (0,0,[])).2:=by rw [List.map_map]; rfl
     have e2:zs1.map (·.2)=(List.range nn).map λi=>(zs1.getD i (0,0,[])).2:=by
      apply List.ext_getElem?
      intro i
      rw [List.getElem?_map,List.getElem?_map]
      by_cases hi:i<nn
      ·rw [List.getElem?_eq_getElem (by omega),List.getElem?_range hi]
       have e3:zs1.getD i (0,0,[])=zs1[i]'(by omega):=by rw [List.getD_eq_getElem?_getD,List.getElem?_eq_getElem (by omega)]; rfl
       show some (zs1[i]'(by omega)).2=some (zs1.getD i (0,0,[])).2
       rw [e3]
      ·rw [List.getElem?_eq_none (by omega),List.getElem?_eq_none (by rw [List.length_range]; omega)]; rfl
     rw [e1,e2]
     exact hperm3.map _
    have hkp2:(zs2.map (·.2.2)).Perm (zs1.map (·.2.2)):=by
     have:=hkq2.map (·.2)
     rw [List.map_map,List.map_map] at this
     exact this
    have hmem2:∀ z∈zs2,∃ y∈zs1,y.2=z.2:=λz hz=>by
     rw [hzs2] at hz
     obtain ⟨y,hy,rfl⟩:=List.mem_map.mp hz
     have:=hidx y hy
     refine ⟨zs1[y.2]'(by omega),List.getElem_mem _,?_⟩
     rw [List.getD_eq_getElem?_getD,List.getElem?_eq_getElem (by omega)]; rfl
    refine wpAny_pure (h true _ zs2 hsb2 ⟨⟨_,_,_,t3,ho2,hex,rfl,hes2,?_,by rw [hm3]; exact hmk,?_,?_⟩,λz hz=>?_,hkp2.nodup_iff.mpr hnd1⟩ (.inr ⟨hknew,hkq2.trans hkq1⟩))
    ·have e1:zs2.map (·.1)=zi.map (·.1):=by rw [hzs2,List.map_map]; rfl
     rw [e1]; exact T3
    ·have:zs2.length=nn:=by
      have:=hkp2.length_eq
      rw [List.length_map,List.length_map,hlen5] at this
      exact this
     rw [this,hm3]; omega
    ·have e1:zs2.map (pth knd)=zi.map λz=>(z.1,((insertAt es p (tupleKeyHash knd k,Value.ref b)).map (·.1)).getD z.2 0):=by
      rw [hzs2,List.map_map]
      apply List.map_congr_left
      intro z hz
      show (z.1,tupleKeyHash knd (zs1.getD z.2 (0,0,[])).2.2)=_
      congr 1
      rw [Array.getD_eq_getD_getElem?,Array.getElem?_map,hgetE _ (hidx z hz)]; rfl
     rw [e1]; exact hpath3
    ·obtain ⟨y,hy,e⟩:=hmem2 z hz
     rw [← e]
     exact IsTupleKey.same (hkeys1 y hy) ho hd hsb2
   ·have hnf:t2.tooFull=false:=by simpa using hfull2
    rw [hnf]
    simp only [Bool.and_false,Bool.false_eq_true,if_false]
    refine wpAny_pure (h true _ zs1 hsb1 ⟨⟨_,_,_,t2,ho1,hex,rfl,hes1,T2,by rw [hm2]; exact hmask,?_,by rw [hm2]; exact hpath1⟩,λz hz=>IsTupleKey.same (hkeys1 z hz) ho hd hsb1,hnd1⟩ (.inr ⟨hknew,hkq1⟩))
    unfold SetTable.tooFull at hnf
    rw [decide_eq_false_iff_not,hfill] at hnf
    rw [hlen1]; omega
  cases hpl2:t1.plain with
  | true =>
   simp only [if_true]
   refine wpAny_bind (qc hb hsc λbb=>?_)
   cases bb with
   | true =>
    simp only [if_true]
    exact tail t1 T1 hm1
   | false =>
    simp only [Bool.false_eq_true,if_false]
    exact tail _ (rN T1 false) hm1
  | false =>
   simp only [Bool.false_eq_true,if_false]
   refine wpAny_bind (wpAny_pure ?_)
   simp only [if_true]
   exact tail t1 T1 hm1
end
theorem jJ {α:Type} [DecidableEq α]:∀ l:List α,¬ l.Nodup→∃ l':List α,l'.length+1=l.length∧∀ x∈l,x∈l'
 | [],h=>(h List.nodup_nil).elim
 | x :: r,h=>by
  by_cases hx:x∈r
  ·refine ⟨r,rfl,λy hy=>?_⟩
   rcases List.mem_cons.mp hy with e | e
   ·rw [e]; exact hx
   ·exact e
  ·have hr:¬ r.Nodup:=λz=>h (List.nodup_cons.mpr ⟨hx,z⟩)
   obtain ⟨r',e,s⟩:=jJ r hr
   refine ⟨x :: r',by simp [← e],λy hy=>?_⟩
   rcases List.mem_cons.mp hy with e' | e'
   ·rw [e']; simp
   ·exact List.mem_cons_of_mem _ (s y e')
theorem mf {α:Type} [DecidableEq α] {z l:List α} (hz:z.Nodup) (h:∀ x,x∈z↔x∈l):z.length=l.length↔l.Nodup:=by
 constructor
 ·intro e
  by_cases hl:l.Nodup
  ·exact hl
  ·obtain ⟨l',e',s⟩:=jJ l hl
   have:=List.Nodup.length_le_of_subset hz (λx hx=>s x ((h x).mp hx))
   omega
 ·intro hl
  exact ((List.perm_ext_iff_of_nodup hz hl).mpr h).length_eq
section
variable {prog:Program} {w:World} {K:Type} [DecidableEq K] {knd:KeyKind prog w K} {A:Around} {R:Result→Shared→Prop} {I:Addr} {fp wr:List Addr} {G:Array GenState→Array GenState→Prop} {n:Nat} {P:Nat→Value→Prop} {St:Nat→Shared→Prop}
theorem iM {wr:List Addr} {s s':Shared} {k:List K} {b:Addr} (m:Moved wr G s s') (hb:b∉wr) (h:IsTupleKey knd s.heap k b):IsTupleKey knd s'.heap k b:=by
 obtain ⟨o,items,n,ho,r⟩:=h
 exact ⟨o,items,n,m.heap b o hb ho,r⟩
theorem mh {wr:List Addr} {s s':Shared} {S:Addr} {zs:List (Ent K)} (m:Moved wr G s s') (hS:S∉wr) (hz:∀ z∈zs,z.2.1∉wr) (h:TS knd s.heap S zs):TS knd s'.heap S zs:=by
 obtain ⟨⟨o,es,ep,t,ho,r⟩,hk,hn⟩:=h
 exact ⟨⟨o,es,ep,t,m.heap S o hS ho,r⟩,λz hz'=>iM m (hz z hz') (hk z hz'),hn⟩
theorem du (W:WalksS prog w A.in1 I fp wr G n P St) (S:Addr) (hSf:S∉fp) (hu:A.in1.units<cLine) (hsc:∀ k v,knd.is k v=true→v.scannable=true) (key:Nat→List K) (ad:Nat→Addr)
  (hval:∀ i v,P i v→v = .ref (ad i)) (had:∀ i,i<n→ad i∉S :: fp) (hn:n≤60) :
  ∀ (k i:Nat) (s:Shared) (zs:List (Ent K)),n - i=k→i≤n→St i s→TS knd s.heap S zs→zs.length≤i→(∀ z∈zs,∃ j,j<n∧z.2.1=ad j)→(∀ k',k'∈zs.map (·.2.2)↔∃ j,j<i∧key j=k')→(∀ j,j<n→IsTupleKey knd s.heap (key j) (ad j)) →
   (∀ s' zs',Moved (S :: wr) G s s'→TS knd s'.heap S zs'→zs'.length≤n→(∀ k',k'∈zs'.map (·.2.2)↔∃ j,j<n∧key j=k')→R (.ok (.ret .none)) s') →
   codeAny (model prog w) A (.builtin "set.update.loop" ⟨[.ref S,.ref I],[]⟩) R s:=by
 have hSw:S∉wr:=λh=>hSf (W.sub _ h)
 have hsub:∀ b∈wr,b∈S :: wr:=λb hb=>List.mem_cons_of_mem _ hb
 have hadw:∀ i,i<n→ad i∉wr:=λi hi h=>had i hi (List.mem_cons_of_mem _ (W.sub _ h))
 have hadS:∀ i,i<n→ad i≠S:=λi hi h=>had i hi (by rw [h]; exact List.mem_cons_self)
 intro k
 induction k with
 | zero =>
  intro i s zs hk hi hst hS hl hza hmem hks hR
  have hin:i=n:=by omega
  subst hin
  refine codeAny_builtin PyProof.Rows.F.entry_set_update_loop ?_
  rw [Around.under_plainId PyProof.Rows.F.plain_set_update_loop _]
  show wpAny _ A.in1 (pyNext (.ref I) >>= _) _ _ s
  refine wpAny_bind (W.done s _ _ hst λs' hm=>?_)
  show wpAny _ A.in1 (ret Value.none) _ _ s'
  exact wpAny_pure (hR s' zs (hm.mono hsub) (mh hm hSw (λz hz=>by obtain ⟨j,hj,e⟩:=hza z hz; rw [e]; exact hadw j hj) hS) hl hmem)
 | succ k ih =>
  intro i s zs hk hi hst hS hl hza hmem hks hR
  have hlt:i<n:=by omega
  refine codeAny_builtin PyProof.Rows.F.entry_set_update_loop ?_
  rw [Around.under_plainId PyProof.Rows.F.plain_set_update_loop _]
  show wpAny _ A.in1 (pyNext (.ref I) >>= _) _ _ s
  refine wpAny_bind (W.item i s _ _ hlt hst λv s' hP hst' hm=>?_)
  have hv:=hval i v hP
  subst hv
  have hS':TS knd s'.heap S zs:=mh hm hSw (λz hz=>by obtain ⟨j,hj,e⟩:=hza z hz; rw [e]; exact hadw j hj) hS
  have hks':∀ j,j<n→IsTupleKey knd s'.heap (key j) (ad j):=λj hj=>iM hm (hadw j hj) (hks j hj)
  show wpAny _ A.in1 (holding [Value.ref (ad i)] (setAdd S (.ref (ad i))) >>= _) _ _ s'
  refine wpAny_bind (wpAny_holding ?_)
  unfold setAdd
  refine wpAny_holding ?_
  refine wpAny_bind (wpAny_pyHash_tuple hu (hks' i hlt) ?_)
  refine qd (s:={ s' with toks:=s'.toks+((key i).length+1) }) hu hsc hS' (hks' i hlt) (by omega) λr h' zs' hsb hS2 hor=>?_
  have hsb':Heap.SameBut S s'.heap h':=hsb
  have hlen':zs'.length≤i+1:=by
   rcases hor with ⟨_,e⟩ | ⟨_,e⟩
   ·rw [e]; omega
   ·have:=e.length_eq
    rw [List.length_map,List.length_cons,List.length_map] at this
    omega
  have hor2:(key i∈zs.map (·.2.2)∧zs'=zs)∨(zs'.map (·.2.2)).Perm (key i :: zs.map (·.2.2)):=by
   rcases hor with e | ⟨_,e⟩
   ·exact .inl e
   ·have:=e.map (·.2)
    rw [List.map_map,List.map_cons,List.map_map] at this
    exact .inr this
  have hmem':∀ k',k'∈zs'.map (·.2.2)↔∃ j,j<i+1∧key j=k':=λk'=>by
   rcases hor2 with ⟨hin,e⟩ | e
   ·rw [e,hmem k']
    constructor
    ·rintro ⟨j,hj,e'⟩; exact ⟨j,by omega,e'⟩
    ·rintro ⟨j,hj,e'⟩
     by_cases hji:j=i
     ·rw [← e',hji]; exact (hmem _).mp hin
     ·exact ⟨j,by omega,e'⟩
   ·rw [e.mem_iff,List.mem_cons,hmem k']
    constructor
    ·rintro (e' | ⟨j,hj,e'⟩)
     ·exact ⟨i,by omega,e'.symm⟩
     ·exact ⟨j,by omega,e'⟩
    ·rintro ⟨j,hj,e'⟩
     by_cases hji:j=i
     ·left; rw [← e',hji]
     ·exact .inr ⟨j,by omega,e'⟩
  have hkeep:∀ b o,b∉S :: wr→s'.heap.get? b=some o→h'.get? b=some o:=λb o hb e=>by
   rw [hsb'.2 b (λz:b=S=>hb (by rw [z]; exact List.mem_cons_self))]; exact e
  have hks2:∀ j,j<n→IsTupleKey knd h' (key j) (ad j):=λj hj=>by
   obtain ⟨o,items,m,ho,r⟩:=hks' j hj
   exact ⟨o,items,m,(hsb'.2 _ (hadS j hj)).trans ho,r⟩
  have hza2:∀ z∈zs',∃ j,j<n∧z.2.1=ad j:=by
   rcases hor with ⟨_,e⟩ | ⟨_,e⟩
   ·rw [e]; exact hza
   ·intro z hz
    have hz2:z.2∈zs'.map (·.2):=List.mem_map.mpr ⟨z,hz,rfl⟩
    rcases List.mem_cons.mp (e.mem_iff.mp hz2) with e' | e'
    ·exact ⟨i,hlt,by rw [e']⟩
    ·obtain ⟨y,hy,ey⟩:=List.mem_map.mp e'
     obtain ⟨j,hj,ej⟩:=hza y hy
     exact ⟨j,hj,by rw [← ey]; exact ej⟩
  refine wpAny_pure ⟨plainId_quiet PyProof.Rows.F.plain_set_update_loop _,ih (i+1) _ zs' (by omega) hlt (W.frame _ s' _ _ hst' (Nat.le_add_right _ _) λb hb o e=>?_) hS2 hlen' hza2 hmem' hks2 λs'' zs'' hm'' hS'' hl'' hmm''=>?_⟩
  ·rw [hsb'.2 b (λh:b=S=>hSf (by rw [← h]; exact hb))]; exact e
  ·refine hR s'' zs'' (Moved.trans W.gtrans ((hm.mono hsub).then_heap (Nat.le_add_right _ _) λb o hb e=>?_) hm'') hS'' hl'' hmm''
   rw [hsb'.2 b (λh:b=S=>hb (by rw [h]; exact List.mem_cons_self))]; exact e
end
section
variable {prog:Program} {w:World} {K:Type} [DecidableEq K] {knd:KeyKind prog w K} {A:Around} {E:Value→Shared→Prop} {s:Shared}
theorem rO {h:Heap} {a:Addr} (led:Bool) (ho:h.get? a=some { cls:=.type "set",dict:=none,data:=.set #[] 0 (.fresh 0 0 led) }):TS knd h a [] :=
 ⟨⟨_,#[],0,_,ho,⟨rfl,rfl,rfl⟩,rfl,rfl,⟨rfl,rfl,List.Pairwise.nil,λ_ h=>by simp at h⟩,Or.inl rfl,(by show 0<21; decide),eU.nil _⟩,λ_ h=>by simp at h,List.nodup_nil⟩
set_option maxRecDepth 100000 in
set_option maxHeartbeats 3200000 in
theorem gX {l:Addr} {items:Array Value} {key:Nat→List K} {ad:Nat→Addr} {Q:Value→Shared→Prop}
  (hh:A.handled=none) (hu:A.units+4<cLine) (hsc:∀ k v,knd.is k v=true→v.scannable=true) (hl:s.heap.IsList l items) (hi:∀ (i:Nat) (v:Value),items[i]? = some v→v=Value.ref (ad i)) (hk:∀ i,i<items.size→IsTupleKey knd s.heap (key i) (ad i)) (hb:items.size≤60)
  (h:∀ (h':Heap) (tk:Nat) (zs:List (Ent K)),TS knd h' s.heap.objs.size zs→zs.length≤items.size→(∀ k',k'∈zs.map (·.2.2)↔∃ j,j<items.size∧key j=k') →
   (∀ b o,b<s.heap.objs.size→s.heap.get? b=some o→h'.get? b=some o)→Q (.ref s.heap.objs.size) { s with heap:=h',toks:=tk }) :
  wpAny (model prog w) A (call (.type "set") [.ref l]) Q E s:=by
 obtain ⟨c,tl,hmro⟩:=F.called_set.mro
 have hmade:=F.called_set.made
 have hsub:=F.called_set.sub
 refine wpAny_call (codeAny_of_tree ?_)
 show wpAny _ _ (callAny (.type "set") _) _ _ _
 refine wpAny_pure ⟨Code.quiet_builtin _ (by decide +kernel),codeAny_builtin F.entry_type_call ?_⟩
 rw [Around.under_plain (weight_type_call_type "set" [.ref l] []) rfl]
 have h1:=F.called_set.notType
 have h2:=F.called_set.canCreate
 have hct:=F.typeCall_set_1 (.ref l)
 repeat (any_goals (first | assumption | wp_step))
 refine codeAny_mono (code_set_new_1 (.ref l) (E:=E) (Q₁:=λobj s₁=>∃ led:Bool,obj = .ref s.heap.objs.size∧s₁={ s with heap:=s.heap.push { cls:=.type "set",dict:=none,data:=.set #[] 0 (.fresh 0 0 led) } }) λled=>⟨led,rfl,rfl⟩) λr s₁ hr=>?_
 cases r with
 | error e=>exact hr
 | ok fl =>
  cases fl with
  | ret obj =>
   obtain ⟨led,rfl,rfl⟩:=hr
   have hS:(s.heap.push { cls:=.type "set",dict:=none,data:=.set #[] 0 (.fresh 0 0 led) }).get? s.heap.objs.size=some { cls:=.type "set",dict:=none,data:=.set #[] 0 (.fresh 0 0 led) }:=Heap.get?_push_size _ rfl
   have hT:Shared.TypeIs { s with heap:=s.heap.push { cls:=.type "set",dict:=none,data:=.set #[] 0 (.fresh 0 0 led) } } (.ref s.heap.objs.size) "set":=⟨_,hS,rfl⟩
   have hli:=F.called_set.init.lookup
   have hbi:=F.called_set.init.bind (.ref s.heap.objs.size)
   repeat (any_goals (first | assumption | wp_step))
   refine codeAny_mono (codeAny_call_builtin (R:=wants (λr s₂=>r = .none∧∃ h' tk zs,s₂={ s with heap:=h',toks:=tk }∧TS knd h' s.heap.objs.size zs∧zs.length≤items.size∧(∀ k',k'∈zs.map (·.2.2)↔∃ j,j<items.size∧key j=k') ∧
     (∀ b o,b<s.heap.objs.size→s.heap.get? b=some o→h'.get? b=some o)) E) F.called_set.init.plain F.entry_set_init (check_set_init_1 hT ?_)) λr₂ s₂ hr₂=>?_
   ·obtain ⟨ol,hol,hcl,nl,hdl⟩:=hl
    obtain ⟨ocls,odict,odata,oslots⟩:=ol
    simp only at hcl hdl
    subst hcl; subst hdl
    have hol':(s.heap.push { cls:=.type "set",dict:=none,data:=.set #[] 0 (.fresh 0 0 led) }).get? l=some { cls:=.type "list",dict:=odict,data:=.seq items nl,slots:=oslots }:=Heap.get?_push_of_some _ hol
    have hsls:=F.sub_list_set
    have hslf:=F.sub_list_frozenset
    have hne:(Value.type "list" == Value.type "dict")=false:=by decide
    have hl1:(s.heap.push { cls:=.type "set",dict:=none,data:=.set #[] 0 (.fresh 0 0 led) }).IsList l items:=⟨_,hol',rfl,nl,rfl⟩
    unfold Builtin.«set.__init__» noKeywords Builtin.Frozenset.updateFrom
    generalize hPI:pyIter=PI
    wp_walk
    subst hPI
    refine wpAny_pyIter_list hl1 ?_
    refine wpAny_bind (wpAny_runValue ?_)
    have hlS:l<s.heap.objs.size:=Heap.lt_size hol
    have hh3:A.in1.in1.in1.handled=none:=by simp [hh]
    have hneI:l≠(s.heap.push { cls:=.type "set",dict:=none,data:=.set #[] 0 (.fresh 0 0 led) }).objs.size:=by
     rw [Heap.size_push]; exact Nat.ne_of_lt (Nat.lt_succ_of_lt hlS)
    have hSf:s.heap.objs.size∉[(s.heap.push { cls:=.type "set",dict:=none,data:=.set #[] 0 (.fresh 0 0 led) }).objs.size,l]:=by
     rw [Heap.size_push]; simp only [List.mem_cons,List.mem_singleton,List.not_mem_nil,or_false,not_or]
     exact ⟨Nat.ne_of_lt (Nat.lt_succ_self _),Nat.ne_of_gt hlS⟩
    have hadlt:∀ i,i<items.size→ad i<s.heap.objs.size:=λi hi'=>by
     obtain ⟨o,_,_,ho,_⟩:=hk i hi'
     exact Heap.lt_size ho
    have hadl:∀ i,i<items.size→ad i≠l:=λi hi' e=>by
     obtain ⟨o,_,_,ho,hc,_⟩:=hk i hi'
     rw [e,hol] at ho
     cases ho
     have h':Value.type "list" = Value.type "tuple":=hc
     injection h' with h'
     exact absurd h' (by decide)
    have had:∀ i,i<items.size→ad i∉s.heap.objs.size :: [(s.heap.push { cls:=.type "set",dict:=none,data:=.set #[] 0 (.fresh 0 0 led) }).objs.size,l]:=λi hi'=>by
     rw [Heap.size_push]
     have q1:ad i<s.heap.objs.size:=hadlt i hi'
     have q2:=hadl i hi'
     simp only [List.mem_cons,List.mem_singleton,List.not_mem_nil,or_false,not_or]
     exact ⟨Nat.ne_of_lt q1,Nat.ne_of_lt (Nat.lt_succ_of_lt q1),q2⟩
    refine du (knd:=knd) ((Walks.list hh3 _ l hneI items).toS) s.heap.objs.size
     hSf (by simp [Around.in1_units]; omega) hsc key ad hi had hb (items.size - 0) 0 _ [] (by omega) (Nat.zero_le _)
     ⟨⟨_,Heap.get?_push_size _ rfl,rfl,rfl⟩,(hl1.push _)⟩ ?hS0 (Nat.zero_le _) (λ_ h=>by simp at h) (λk'=>⟨λh=>by simp at h,λ⟨j,hj,_⟩=>by omega⟩) ?hks ?hR
    case hS0 =>
     exact rO led (Heap.get?_push_of_some _ hS)
    case hks =>
     intro j hj
     obtain ⟨o,its,m,ho,r⟩:=hk j hj
     exact ⟨o,its,m,Heap.get?_push_of_some _ (Heap.get?_push_of_some _ ho),r⟩
    case hR =>
     intro s' zs hm hS' hl' hm'
     obtain ⟨h',g',d',tk',os'⟩:=s'
     have eg:g'=s.gens:=hm.gens
     have ed:d'=s.drawn:=hm.drawn
     have eo:os'=s.os:=hm.os
     subst eg; subst ed; subst eo
     show wpAny _ _ _ _ _ _
     refine wpAny_pure ?_
     show wpAny _ _ (ret Value.none) _ _ _
     refine wpAny_pure ⟨rfl,h',tk',zs,rfl,hS',hl',hm',λb o hb e=>?_⟩
     have hb1:b≠s.heap.objs.size:=Nat.ne_of_lt hb
     have hb2:b≠(s.heap.push { cls:=.type "set",dict:=none,data:=.set #[] 0 (.fresh 0 0 led) }).objs.size:=by
      rw [Heap.size_push]; exact Nat.ne_of_lt (Nat.lt_succ_of_lt hb)
     exact hm.heap b o (by simp only [List.mem_cons,List.mem_singleton,List.not_mem_nil,or_false,not_or]; exact ⟨hb1,hb2⟩) (Heap.get?_push_of_some _ (Heap.get?_push_of_some _ e))
   ·cases r₂ with
    | error e=>exact hr₂
    | ok fl₂ =>
     cases fl₂ with
     | ret r =>
      obtain ⟨rfl,h',tk,zs,rfl,hS',hl',hm',hk'⟩:=hr₂
      repeat (any_goals (first | assumption | wp_step))
      exact h _ _ zs hS' hl' hm' hk'
     | _=>exact hr₂.elim
  | _=>exact hr.elim
end
end TB
namespace SRT
open PySem PySem.W PyProof.Rows
noncomputable def run {α:Type} (f:Nat→Nat→Bool):KasT α→α
 | .ret a=>a
 | .ask i j k=>run f (k (f i j))
theorem dz {α β:Type} (f:Nat→Nat→Bool) (g:α→KasT β):∀ t:KasT α,run f (t.bind g)=run f (g (run f t))
 | .ret a=>rfl
 | .ask i j k=>dz f g (k (f i j))
noncomputable def path {α:Type} (f:Nat→Nat→Bool) (n:Nat):KasT α→Prop
 | .ret _=>True
 | .ask i j k=>i<n∧j<n∧path f n (k (f i j))
theorem cV {α β:Type} {f:Nat→Nat→Bool} {n:Nat} {g:α→KasT β}:∀ {t:KasT α},path f n t→path f n (g (run f t))→path f n (t.bind g)
 | .ret a,_,h=>h
 | .ask i j k,h,h'=>⟨h.1,h.2.1,cV (t:=k (f i j)) h.2.2 h'⟩
theorem oY {α:Type} {f:Nat→Nat→Bool} {n:Nat} {cmp:Nat→Nat→(Bool→Shared→Prop)→Shared→Prop} {s:Shared} (hc:∀ i j C,i<n→j<n→C (f i j) s→cmp i j C s) (Q:α→Shared→Prop):∀ t:KasT α,path f n t→Q (run f t) s→t.kasWp cmp Q s
 | .ret a,_,h=>h
 | .ask i j k,p,h=>hc i j _ p.1 p.2.1 (oY hc Q (k (f i j)) p.2.2 h)
structure Ord (f:Nat→Nat→Bool) (n:Nat):Prop where
 irr:∀ i,i<n→f i i=false
 tr:∀ i j k,i<n→j<n→k<n→f i j=true→f j k=true→f i k=true
 tot:∀ i j,i<n→j<n→i≠j→f i j=true∨f j i=true
section
variable {f:Nat→Nat→Bool} {n:Nat}
structure Row (n:Nat) (p:Array Nat):Prop where
 perm:p.toList.Perm (List.range n)
theorem Row.size {p:Array Nat} (r:Row n p):p.size=n:=by have:=r.perm.length_eq; simpa using this
theorem Row.lt {p:Array Nat} (r:Row n p) {i:Nat} (hi:i<n):p.getD i 0<n:=by
 have hs:=r.size
 have:p.getD i 0∈p.toList:=by
  rw [Array.getD_eq_getD_getElem?,Array.getElem?_eq_getElem (by omega)]
  exact Array.getElem_mem_toList (by omega)
 exact List.mem_range.mp (r.perm.mem_iff.mp this)
theorem Row.ne {p:Array Nat} (r:Row n p) {i j:Nat} (hi:i<n) (hj:j<n) (hij:i≠j):p.getD i 0≠p.getD j 0:=by
 have hs:=r.size
 have nd:p.toList.Nodup:=r.perm.nodup_iff.mpr List.nodup_range
 rw [Array.getD_eq_getD_getElem?,Array.getD_eq_getD_getElem?,Array.getElem?_eq_getElem (by omega),Array.getElem?_eq_getElem (by omega)]
 intro e
 have e':p.toList[i]'(by simpa using (by omega:i<p.size))=p.toList[j]'(by simpa using (by omega:j<p.size)):=by simpa using e
 exact hij ((List.getElem_inj nd).mp e')
theorem Row.rev {p:Array Nat} (r:Row n p) (i j:Nat):Row n (kas_rev p i j):=⟨(Array.perm_iff_toList_perm.mp (mirror_perm p i j _)).trans r.perm⟩
theorem Row.bub {p:Array Nat} (r:Row n p) (i j:Nat):Row n (bubble p i j):=⟨(Array.perm_iff_toList_perm.mp (bubble_perm p i j)).trans r.perm⟩
noncomputable def Up (f:Nat→Nat→Bool) (p:Array Nat) (m:Nat):Prop:=∀ i j,i<j→j<m→f (p.getD i 0) (p.getD j 0)=true
theorem ud (O:Ord f n) {p:Array Nat} (r:Row n p) {m:Nat} (hm:m<n) (h1:1≤m) (u:Up f p m) (h:f (p.getD m 0) (p.getD (m - 1) 0)=false):Up f p (m+1):=by
 have hl:f (p.getD (m - 1) 0) (p.getD m 0)=true:=by
  rcases O.tot _ _ (r.lt (i:=m) hm) (r.lt (i:=m - 1) (by omega)) (r.ne hm (by omega) (by omega)) with z | z
  ·rw [h] at z; cases z
  ·exact z
 intro i j hij hj
 by_cases e:j=m
 ·subst e
  by_cases e2:i=j - 1
  ·rw [e2]; exact hl
  ·exact O.tr _ _ _ (r.lt (by omega)) (r.lt (by omega)) (r.lt hm) (u i (j - 1) (by omega) (by omega)) hl
 ·exact u i j hij (by omega)
theorem la (O:Ord f n) {p:Array Nat} (r:Row n p):∀ (fuel m:Nat),1≤m→m+fuel≤n→Up f p m →
  m≤run f (kas_asc p fuel m)∧run f (kas_asc p fuel m)≤m+fuel∧Up f p (run f (kas_asc p fuel m))∧(run f (kas_asc p fuel m)<m+fuel→f (p.getD (run f (kas_asc p fuel m)) 0) (p.getD (run f (kas_asc p fuel m) - 1) 0)=true)
 | 0,m,_,_,u=>⟨Nat.le_refl _,Nat.le_refl _,u,λh=>absurd h (by simp [kas_asc,run])⟩
 | fuel+1,m,h1,hm,u=>by
  cases e:f (p.getD m 0) (p.getD (m - 1) 0) with
  | true =>
   have er:run f (kas_asc p (fuel+1) m)=m:=by
    show run f (if f (p.getD m 0) (p.getD (m - 1) 0)=true then KasT.ret m else kas_asc p fuel (m+1))=m
    rw [e,if_pos rfl]; rfl
   rw [er]
   exact ⟨Nat.le_refl _,by omega,u,λ_=>e⟩
  | false =>
   have er:run f (kas_asc p (fuel+1) m)=run f (kas_asc p fuel (m+1)):=by
    show run f (if f (p.getD m 0) (p.getD (m - 1) 0)=true then KasT.ret m else kas_asc p fuel (m+1))=_
    rw [e,if_neg (by simp)]
   rw [er]
   obtain ⟨a1,a2,a3,a4⟩:=la O r fuel (m+1) (by omega) (by omega) (ud O r (by omega) h1 u e)
   exact ⟨by omega,by omega,a3,λh=>a4 (by omega)⟩
noncomputable def wl (f:Nat→Nat→Bool) (p:Array Nat) (m:Nat):Prop:=∀ i j,i<j→j<m→f (p.getD j 0) (p.getD i 0)=true
theorem lc (O:Ord f n) {p:Array Nat} (r:Row n p):∀ (fuel m:Nat),1≤m→m+fuel≤n→wl f p m →
  ∃ m',run f (kas_desc fuel p m 0)=(p,m',0)∧m≤m'∧m'≤m+fuel∧wl f p m'
 | 0,m,_,_,u=>⟨m,rfl,Nat.le_refl _,Nat.le_refl _,u⟩
 | fuel+1,m,h1,hm,u=>by
  cases e:f (p.getD m 0) (p.getD (m - 1) 0) with
  | true =>
   have er:run f (kas_desc (fuel+1) p m 0)=run f (kas_desc fuel p (m+1) 0):=by
    show run f (if f (p.getD m 0) (p.getD (m - 1) 0)=true then (if 0 > 0 then _ else kas_desc fuel p (m+1) 0) else _)=_
    rw [e,if_pos rfl,if_neg (by omega)]
   rw [er]
   obtain ⟨m',a1,a2,a3,a4⟩:=lc O r fuel (m+1) (by omega) (by omega) (by
    intro i j hij hj
    by_cases ej:j=m
    ·subst ej
     by_cases e2:i=j - 1
     ·rw [e2]; exact e
     ·exact O.tr _ _ _ (r.lt (by omega)) (r.lt (i:=j - 1) (by omega)) (r.lt (by omega)) e (u i (j - 1) (by omega) (by omega))
    ·exact u i j hij (by omega))
   exact ⟨m',a1,by omega,by omega,a4⟩
  | false =>
   have e2:f (p.getD (m - 1) 0) (p.getD m 0)=true:=by
    rcases O.tot _ _ (r.lt (i:=m) (by omega)) (r.lt (i:=m - 1) (by omega)) (r.ne (by omega) (by omega) (by omega)) with z | z
    ·rw [e] at z; cases z
    ·exact z
   have er:run f (kas_desc (fuel+1) p m 0)=(p,m,0):=by
    show run f (if f (p.getD m 0) (p.getD (m - 1) 0)=true then _ else KasT.ask (p.getD (m - 1) 0) (p.getD m 0) λd=>if d=true then .ret (p,m,0) else kas_desc fuel p (m+1) (0+1))=_
    rw [e,if_neg (by simp)]
    show run f (if f (p.getD (m - 1) 0) (p.getD m 0)=true then KasT.ret (p,m,0) else kas_desc fuel p (m+1) (0+1))=_
    rw [e2,if_pos rfl]; rfl
   exact ⟨m,er,Nat.le_refl _,by omega,u⟩
theorem oZ {p:Array Nat} {m:Nat} (hm:m≤p.size) (k:Nat) (hk:k<m):(kas_rev p 0 m).getD k 0=p.getD (m - 1 - k) 0:=by
 unfold kas_rev
 rw [Array.getD_eq_getD_getElem?,getElem?_mirror_all hm k,if_pos ⟨by omega,hk⟩,Array.getD_eq_getD_getElem?]
 congr 2
 omega
theorem wm {p:Array Nat} {m:Nat} (hm:m≤p.size) (d:wl f p m):Up f (kas_rev p 0 m) m:=by
 intro i j hij hj
 rw [oZ hm i (by omega),oZ hm j hj]
 exact d _ _ (by omega) (by omega)
theorem ml (O:Ord f n) {p:Array Nat} (r:Row n p) (h2:1≤n):∃ m p',run f (kas_count n p)=(m,p')∧1≤m∧m≤n∧Row n p'∧Up f p' m:=by
 obtain ⟨a1,a2,a3,a4⟩:=la O r (n - 1) 1 (by omega) (by omega) (by intro i j hij hj; omega)
 have er:run f (kas_count n p)=run f (if (run f (kas_asc p (n - 1) 1) == n)=true then KasT.ret (run f (kas_asc p (n - 1) 1),p) else if run f (kas_asc p (n - 1) 1) > 1 then .ask (p.getD 0 0) (p.getD (run f (kas_asc p (n - 1) 1) - 1) 0) λc=>if c=true then .ret (run f (kas_asc p (n - 1) 1),p) else kas_descPart (run f (kas_asc p (n - 1) 1)) n (kas_rev p 0 (run f (kas_asc p (n - 1) 1)))
  else kas_descPart (run f (kas_asc p (n - 1) 1)) n p):=by
  unfold kas_count
  rw [dz]
 rw [er]
 generalize run f (kas_asc p (n - 1) 1)=m at a1 a2 a3 a4 ⊢
 by_cases e:m=n
 ·rw [if_pos (by simp [e])]
  exact ⟨m,p,rfl,a1,by omega,r,a3⟩
 ·rw [if_neg (by simpa using e)]
  by_cases e1:m > 1
  ·rw [if_pos e1]
   refine ⟨m,p,?_,a1,by omega,r,a3⟩
   show run f (if f (p.getD 0 0) (p.getD (m - 1) 0)=true then KasT.ret (m,p) else _)=_
   rw [a3 0 (m - 1) (by omega) (by omega),if_pos rfl]; rfl
  ·rw [if_neg e1]
   have em:m=1:=by omega
   subst em
   have hd:=a4 (by omega)
   unfold kas_descPart
   obtain ⟨m',b1,b2,b3,b4⟩:=lc O r (n - (1+1)) (1+1) (by omega) (by omega) (by
    intro i j hij hj
    have:i=0∧j=1:=by omega
    rw [this.1,this.2]; exact hd)
   rw [dz,b1]
   dsimp only
   rw [if_neg (by omega)]
   unfold kas_tail3
   have hs:=r.size
   have ur:=wm (f:=f) (by omega:m'≤p.size) b4
   obtain ⟨c1,c2,c3,c4⟩:=la O (r.rev 0 m') (n - m') m' (by omega) (by omega) ur
   rw [dz]
   exact ⟨_,_,rfl,by omega,by omega,r.rev 0 m',c3⟩
theorem fZ (O:Ord f n) {p:Array Nat} (r:Row n p) {k:Nat} (hk:k<n) (u:Up f p k):∀ (fuel l r':Nat),r' - l≤fuel→l≤r'→r'≤k →
  (∀ i,i<l→f (p.getD i 0) (p.getD k 0)=true)→(∀ i,r'≤i→i<k→f (p.getD k 0) (p.getD i 0)=true) →
  run f (kas_place p k fuel l r')≤k∧(∀ i,i<run f (kas_place p k fuel l r')→f (p.getD i 0) (p.getD k 0)=true)∧(∀ i,run f (kas_place p k fuel l r')≤i→i<k→f (p.getD k 0) (p.getD i 0)=true)
 | 0,l,r',h1,h2,h3,h4,h5=>by
  have:l=r':=by omega
  subst this
  exact ⟨h3,h4,h5⟩
 | fuel+1,l,r',h1,h2,h3,h4,h5=>by
  unfold kas_place
  by_cases e:l ≥ r'
  ·rw [if_pos e]
   have:l=r':=by omega
   subst this
   exact ⟨h3,h4,h5⟩
  ·rw [if_neg e]
   have hmid:(l+r') / 2<k:=by omega
   cases c:f (p.getD k 0) (p.getD ((l+r') / 2) 0) with
   | true =>
    have er:run f (KasT.ask (p.getD k 0) (p.getD ((l+r') / 2) 0) λc=>if c=true then kas_place p k fuel l ((l+r') / 2) else kas_place p k fuel ((l+r') / 2+1) r')=run f (kas_place p k fuel l ((l+r') / 2)):=by
     show run f (if f (p.getD k 0) (p.getD ((l+r') / 2) 0)=true then _ else _)=_
     rw [c,if_pos rfl]
    rw [er]
    refine fZ O r hk u fuel l _ (by omega) (by omega) (by omega) h4 (λi hi hik=>?_)
    by_cases ei:i=(l+r') / 2
    ·rw [ei]; exact c
    ·exact O.tr _ _ _ (r.lt hk) (r.lt (i:=(l+r') / 2) (by omega)) (r.lt (by omega)) c (u _ _ (by omega) hik)
   | false =>
    have er:run f (KasT.ask (p.getD k 0) (p.getD ((l+r') / 2) 0) λc=>if c=true then kas_place p k fuel l ((l+r') / 2) else kas_place p k fuel ((l+r') / 2+1) r')=run f (kas_place p k fuel ((l+r') / 2+1) r'):=by
     show run f (if f (p.getD k 0) (p.getD ((l+r') / 2) 0)=true then _ else _)=_
     rw [c,if_neg (by simp)]
    rw [er]
    have c':f (p.getD ((l+r') / 2) 0) (p.getD k 0)=true:=by
     rcases O.tot _ _ (r.lt (i:=k) hk) (r.lt (i:=(l+r') / 2) (by omega)) (r.ne hk (by omega) (by omega)) with z | z
     ·rw [c] at z; cases z
     ·exact z
    refine fZ O r hk u fuel _ r' (by omega) (by omega) h3 (λi hi=>?_) h5
    by_cases ei:i=(l+r') / 2
    ·rw [ei]; exact c'
    ·exact O.tr _ _ _ (r.lt (by omega)) (r.lt (i:=(l+r') / 2) (by omega)) (r.lt hk) (u i _ (by omega) (by omega)) c'
theorem hX {p:Array Nat} {k l:Nat} (hk:k<p.size) (hl:l≤k) (i:Nat):(bubble p k (k - l)).getD i 0=if i=l then p.getD k 0 else if l<i∧i≤k then p.getD (i - 1) 0 else p.getD i 0:=by
 simp only [Array.getD_eq_getD_getElem?]
 rw [getElem?_bubble hk (k - l) (by omega) i]
 have e:k - (k - l)=l:=by omega
 rw [e]
 by_cases h1:i=l
 ·rw [if_pos h1,if_pos h1]
 ·rw [if_neg h1,if_neg h1]
  by_cases h2:l<i∧i≤k
  ·rw [if_pos h2,if_pos h2]
  ·rw [if_neg h2,if_neg h2]
theorem rP (O:Ord f n):∀ (fuel:Nat) (p:Array Nat) (k:Nat),Row n p→k+fuel=n→Up f p k→Row n (run f (kas_bin fuel p k))∧Up f (run f (kas_bin fuel p k)) n
 | 0,p,k,r,hk,u=>by
  have:k=n:=by omega
  subst this
  exact ⟨r,u⟩
 | fuel+1,p,k,r,hk,u=>by
  have hkn:k<n:=by omega
  obtain ⟨a1,a2,a3⟩:=fZ O r hkn u k 0 k (by omega) (by omega) (Nat.le_refl _) (λi hi=>by omega) (λi h1 h2=>by omega)
  have er:run f (kas_bin (fuel+1) p k)=run f (kas_bin fuel (bubble p k (k - run f (kas_place p k k 0 k))) (k+1)):=by
   show run f ((kas_place p k k 0 k).bind λl=>kas_bin fuel (bubble p k (k - l)) (k+1))=_
   rw [dz]
  rw [er]
  generalize run f (kas_place p k k 0 k)=l at a1 a2 a3 ⊢
  have hs:=r.size
  refine rP O fuel _ (k+1) (r.bub _ _) (by omega) ?_
  intro i j hij hj
  rw [hX (by omega) a1 i,hX (by omega) a1 j]
  by_cases ei:i=l
  ·rw [if_pos ei,if_neg (by omega),if_pos ⟨by omega,by omega⟩]
   exact a3 (j - 1) (by omega) (by omega)
  ·rw [if_neg ei]
   by_cases ej:j=l
   ·rw [if_pos ej,if_neg (by omega)]
    exact a2 i (by omega)
   ·rw [if_neg ej]
    by_cases hi2:l<i∧i≤k
    ·rw [if_pos hi2,if_pos ⟨by omega,by omega⟩]
     exact u _ _ (by omega) (by omega)
    ·rw [if_neg hi2]
     by_cases hj2:l<j∧j≤k
     ·rw [if_pos hj2]
      by_cases e3:i=j - 1
      ·omega
      ·exact u i (j - 1) (by omega) (by omega)
     ·rw [if_neg hj2]
      exact u i j hij (by omega)
theorem iN {p:Array Nat} (r:Row n p):∀ (fuel m:Nat),1≤m→m+fuel≤n→path f n (kas_asc p fuel m)
 | 0,m,_,_=>trivial
 | fuel+1,m,h1,hm=>by
  refine ⟨r.lt (by omega),r.lt (by omega),?_⟩
  show path f n (if f (p.getD m 0) (p.getD (m - 1) 0)=true then KasT.ret m else kas_asc p fuel (m+1))
  split
  ·exact trivial
  ·exact iN r fuel (m+1) (by omega) (by omega)
theorem jK (O:Ord f n) {p:Array Nat} (r:Row n p):∀ (fuel m:Nat),1≤m→m+fuel≤n→path f n (kas_desc fuel p m 0)
 | 0,m,_,_=>trivial
 | fuel+1,m,h1,hm=>by
  refine ⟨r.lt (by omega),r.lt (by omega),?_⟩
  show path f n (if f (p.getD m 0) (p.getD (m - 1) 0)=true then (if 0 > 0 then _ else kas_desc fuel p (m+1) 0) else KasT.ask (p.getD (m - 1) 0) (p.getD m 0) λd=>if d=true then .ret (p,m,0) else kas_desc fuel p (m+1) (0+1))
  cases e:f (p.getD m 0) (p.getD (m - 1) 0) with
  | true =>
   rw [if_pos rfl,if_neg (by omega)]
   exact jK O r fuel (m+1) (by omega) (by omega)
  | false =>
   rw [if_neg (by simp)]
   have e2:f (p.getD (m - 1) 0) (p.getD m 0)=true:=by
    rcases O.tot _ _ (r.lt (i:=m) (by omega)) (r.lt (i:=m - 1) (by omega)) (r.ne (by omega) (by omega) (by omega)) with z | z
    ·rw [e] at z; cases z
    ·exact z
   refine ⟨r.lt (by omega),r.lt (by omega),?_⟩
   dsimp only
   rw [e2,if_pos rfl]
   exact trivial
theorem nO (O:Ord f n) {p:Array Nat} (r:Row n p) (h2:1≤n):path f n (kas_count n p):=by
 obtain ⟨a1,a2,a3,a4⟩:=la O r (n - 1) 1 (by omega) (by omega) (by intro i j hij hj; omega)
 unfold kas_count
 refine cV (iN r _ _ (by omega) (by omega)) ?_
 generalize run f (kas_asc p (n - 1) 1)=m at a1 a2 a3 a4 ⊢
 by_cases e:m=n
 ·rw [if_pos (by simp [e])]; exact trivial
 ·rw [if_neg (by simpa using e)]
  by_cases e1:m > 1
  ·rw [if_pos e1]
   refine ⟨r.lt (by omega),r.lt (by omega),?_⟩
   dsimp only
   rw [a3 0 (m - 1) (by omega) (by omega),if_pos rfl]; exact trivial
  ·rw [if_neg e1]
   have em:m=1:=by omega
   subst em
   have hd:=a4 (by omega)
   unfold kas_descPart
   refine cV (jK O r _ _ (by omega) (by omega)) ?_
   obtain ⟨m',b1,b2,b3,b4⟩:=lc O r (n - (1+1)) (1+1) (by omega) (by omega) (by
    intro i j hij hj
    have:i=0∧j=1:=by omega
    rw [this.1,this.2]; exact hd)
   rw [b1]
   dsimp only
   rw [if_neg (by omega)]
   unfold kas_tail3
   exact cV (iN (r.rev 0 m') _ _ (by omega) (by omega)) trivial
theorem ff {p:Array Nat} (r:Row n p) {k:Nat} (hk:k<n):∀ (fuel l r':Nat),r'≤k→path f n (kas_place p k fuel l r')
 | 0,l,r',_=>trivial
 | fuel+1,l,r',h=>by
  unfold kas_place
  by_cases e:l ≥ r'
  ·rw [if_pos e]; exact trivial
  ·rw [if_neg e]
   refine ⟨r.lt hk,r.lt (by omega),?_⟩
   dsimp only
   split
   ·exact ff r hk fuel _ _ (by omega)
   ·exact ff r hk fuel _ _ h
theorem mn (O:Ord f n):∀ (fuel:Nat) (p:Array Nat) (k:Nat),Row n p→k+fuel=n→Up f p k→path f n (kas_bin fuel p k)
 | 0,p,k,r,hk,u=>trivial
 | fuel+1,p,k,r,hk,u=>by
  have hkn:k<n:=by omega
  show path f n ((kas_place p k k 0 k).bind λl=>kas_bin fuel (bubble p k (k - l)) (k+1))
  refine cV (ff r hkn _ _ _ (Nat.le_refl _)) ?_
  obtain ⟨a1,a2,a3⟩:=fZ O r hkn u k 0 k (by omega) (by omega) (Nat.le_refl _) (λi hi=>by omega) (λi h1 h2=>by omega)
  generalize run f (kas_place p k k 0 k)=l at a1 a2 a3 ⊢
  have hs:=r.size
  refine mn O fuel _ (k+1) (r.bub _ _) (by omega) ?_
  intro i j hij hj
  rw [hX (by omega) a1 i,hX (by omega) a1 j]
  by_cases ei:i=l
  ·rw [if_pos ei,if_neg (by omega),if_pos ⟨by omega,by omega⟩]
   exact a3 (j - 1) (by omega) (by omega)
  ·rw [if_neg ei]
   by_cases ej:j=l
   ·rw [if_pos ej,if_neg (by omega)]
    exact a2 i (by omega)
   ·rw [if_neg ej]
    by_cases hi2:l<i∧i≤k
    ·rw [if_pos hi2,if_pos ⟨by omega,by omega⟩]
     exact u _ _ (by omega) (by omega)
    ·rw [if_neg hi2]
     by_cases hj2:l<j∧j≤k
     ·rw [if_pos hj2]
      by_cases e3:i=j - 1
      ·omega
      ·exact u i (j - 1) (by omega) (by omega)
     ·rw [if_neg hj2]
      exact u i j hij (by omega)
theorem qe (O:Ord f n) (h:1≤n):path f n (kas_sort n):=by
 have r0:Row n (List.toArray (List.range n)):=⟨by simp⟩
 obtain ⟨m,p',e,h1,h2,r,u⟩:=ml O r0 h
 unfold kas_sort
 refine cV (nO O r0 h) ?_
 rw [e]
 dsimp only
 by_cases hm:m<n
 ·rw [if_pos hm]
  have:max m 1=m:=by omega
  rw [this]
  exact mn O (n - m) p' m r (by omega) u
 ·rw [if_neg hm]; exact trivial
theorem ue (O:Ord f n) (h:1≤n):Row n (run f (kas_sort n))∧Up f (run f (kas_sort n)) n:=by
 have r0:Row n (List.toArray (List.range n)):=⟨by simp⟩
 obtain ⟨m,p',e,h1,h2,r,u⟩:=ml O r0 h
 unfold kas_sort
 rw [dz,e]
 dsimp only
 by_cases hm:m<n
 ·rw [if_pos hm]
  have:max m 1=m:=by omega
  rw [this]
  exact rP O (n - m) p' m r (by omega) u
 ·rw [if_neg hm]
  have:m=n:=by omega
  subst this
  exact ⟨r,u⟩
end
section
variable {prog:Program} {w:World} {A:Around} {E:Value→Shared→Prop} {s:Shared}
theorem uf {vs:List Value} (h:vs.length<2):((vs.toArray.zip vs.toArray).map (·.2)).toList=(List.toArray ((List.toArray (List.range vs.length)).toList.map λi=>vs.getD i Value.none)).toList:=by
 cases vs with
 | nil=>simp
 | cons v r =>
  cases r with
  | nil=>simp
  | cons u r=>exact absurd h (by simp)
theorem gc {f:Nat→Nat→Bool} {a:Addr} {vs:List Value} {n:Nat} {κ:SortKind} {P:PySem.Fin→Shared→Prop} (O:Ord f vs.length) (ho:s.heap.get? a=some (seqObj "list" vs.toArray n)) (h64:vs.length<64)
  (hk:∀ s':Shared,(∀ b o,b≠a→s.heap.get? b=some o→s'.heap.get? b=some o)→∀ Q:SortKind→Shared→Prop,2≤vs.length→Q κ s'→wpAny (model prog w) A (keyKind' vs.toArray) Q (λ_ _=>False) s')
  (hlt:∀ s':Shared,(∀ b o,b≠a→s.heap.get? b=some o→s'.heap.get? b=some o)→∀ (i j:Nat) (C:Bool→Shared→Prop),i<vs.length→j<vs.length→C (f i j) s'→wpAny (model prog w) A (keyLt' κ (vs.getD i Value.none) (vs.getD j Value.none)) C (λ_ _=>False) s')
  (h:∀ p:Array Nat,Row vs.length p→Up f p vs.length→P (.done (.ret .none)) { s with heap:=sortedHeap s.heap a vs (List.toArray (p.toList.map λi=>vs.getD i Value.none)) }) :
  wpAny (model prog w) A (Builtin.«list.sort» ⟨[.ref a],[]⟩) P E s:=by
 have ha:a<s.heap.objs.size:=Heap.lt_size ho
 have s1:=Heap.SameBut.update s.heap a (Obj.mapSeq λ_=>(#[]:Array Value))
 obtain ⟨e1,ho1⟩:∃ e1,(s.heap.update a (Obj.mapSeq λ_=>(#[]:Array Value))).get? a=some (seqObj "list" #[] e1):=⟨_,get?_update_seq ho λ_=>#[]⟩
 rw [list_sort_plain]
 refine wpAny_bind (listItems_at ho rfl ?_)
 refine wpAny_bind (listUpdate_at ho rfl ?_ (by rw [List.size_toArray,sizeLine_eq]; omega) (Nat.zero_le _))
 refine wpAny_bind (seqEpoch_at ho1 rfl ?_)
 refine wpAny_bind (wpAny_newTuple ?_ (by show vs.length≤_; rw [sizeLine_eq]; omega))
 refine wpAny_bind (wpAny_newList ?_ (Nat.zero_le _))
 refine wpAny_holding ?_
 have ho6:(((s.heap.update a (Obj.mapSeq λ_=>(#[]:Array Value))).push (seqObj "tuple" vs.toArray 0)).push (seqObj "list" #[] 0)).get? a=some (seqObj "list" #[] e1):=Heap.get?_push_of_some _ (Heap.get?_push_of_some _ ho1)
 have keep:∀ b o,b≠a→s.heap.get? b=some o→(((s.heap.update a (Obj.mapSeq λ_=>(#[]:Array Value))).push (seqObj "tuple" vs.toArray 0)).push (seqObj "list" #[] 0)).get? b=some o:=λb o hb e =>
  Heap.get?_push_of_some _ (Heap.get?_push_of_some _ ((s1.2 b hb).trans e))
 show wpAny (model prog w) A _ P E { s with heap:=((s.heap.update a (Obj.mapSeq λ_=>(#[]:Array Value))).push (seqObj "tuple" vs.toArray 0)).push (seqObj "list" #[] 0) }
 dsimp only
 by_cases hn2:vs.toArray.size<2
 ·rw [if_pos hn2,if_pos hn2]
  refine wpAny_bind (wpAny_pure ?_)
  rw [StateT.run_pure]
  refine wpAny_bind (wpAny_pure ?_)
  dsimp only
  have hn2':vs.length<2:=by simpa using hn2
  have hr:Row vs.length (List.toArray (List.range vs.length)):=⟨by simp⟩
  have hu:Up f (List.toArray (List.range vs.length)) vs.length:=λi j hij hj=>by omega
  have e2:(arrOf (SortSt.mk' general' (vs.toArray.zip vs.toArray) #[] 7 none)).map (·.2)=List.toArray ((List.toArray (List.range vs.length)).toList.map λi=>vs.getD i Value.none):=by
   show (vs.toArray.zip vs.toArray).map (·.2)=_
   apply Array.toList_inj.mp
   exact uf hn2'
  refine wpAny_bind (seqEpoch_at ho6 rfl ?_)
  rw [e2]
  refine wpAny_bind (listUpdate_at ho6 rfl ?_ (Nat.zero_le _) (by rw [List.size_toArray,List.length_map,Array.length_toList,hr.size,sizeLine_eq]; omega))
  show wpAny _ _ (if (e1 != e1)=true then _ else _) _ _ _
  simp only [bne_self_eq_false,Bool.false_eq_true,if_false]
  exact wpAny_pure (h _ hr hu)
 ·have hn2':2≤vs.length:=by rw [List.size_toArray] at hn2; omega
  rw [if_neg hn2,if_neg hn2]
  refine wpAny_bind (wpAny_mono (hk { s with heap:=((s.heap.update a (Obj.mapSeq λ_=>(#[]:Array Value))).push (seqObj "tuple" vs.toArray 0)).push (seqObj "list" #[] 0) } keep (λk' s'=>k'=κ∧s'={ s with heap:=((s.heap.update a (Obj.mapSeq λ_=>(#[]:Array Value))).push (seqObj "tuple" vs.toArray 0)).push (seqObj "list" #[] 0) }) hn2' ⟨rfl,rfl⟩) (λκ' s0 hes=>?_) λ_ _ x=>x.elim)
  obtain ⟨ek,es⟩:=hes
  subst ek es
  obtain ⟨hrow,hup⟩:=ue O (by omega:1≤vs.length)
  refine wpAny_bind (wpAny_mono (kat_run (Q:=λst' s'=>∃ p:Array Nat,p.size=vs.length∧arrOf st'=p.map (kas_item (vs.toArray.zip vs.toArray))∧failedOf st'=none∧p=run f (kas_sort vs.length)∧s'={ s with heap:=((s.heap.update a (Obj.mapSeq λ_=>(#[]:Array Value))).push (seqObj "tuple" vs.toArray 0)).push (seqObj "list" #[] 0) })
   rfl hn2' h64 (λp' st' s' a1 a2 a3 a4=>⟨p',a1,a2,a3,a4⟩) (oY (n:=vs.length) (λi j C hi hj hC=>hlt _ keep i j C hi hj hC) (λp s'=>p=run f (kas_sort vs.length)∧s'={ s with heap:=((s.heap.update a (Obj.mapSeq λ_=>(#[]:Array Value))).push (seqObj "tuple" vs.toArray 0)).push (seqObj "list" #[] 0) }) _ (qe O (by omega)) ⟨rfl,rfl⟩)) ?_ λ_ _ e=>e)
  rintro ⟨⟨⟩,st'⟩ s' ⟨p,hp,har,hf,ep,es⟩
  subst es
  dsimp only
  have hout:=kat_snds (ks:=vs) rfl har
  refine wpAny_bind (seqEpoch_at ho6 rfl ?_)
  rw [hout]
  refine wpAny_bind (listUpdate_at ho6 rfl ?_ (Nat.zero_le _) (by rw [List.size_toArray,List.length_map,Array.length_toList,hp,sizeLine_eq]; omega))
  rw [hf]
  simp only [bne_self_eq_false,Bool.false_eq_true,if_false]
  rw [ep]
  exact wpAny_pure (h _ hrow hup)
theorem mq {l:Addr} {vs:List Value} {Q:List Value→Shared→Prop} (hl:IsTup s.heap l vs.toArray)
  (h:Q vs { s with heap:=(s.heap.push (seqObj "list" #[] 0)).update s.heap.objs.size (Obj.mapSeq (· ++ vs.toArray)) }) (hsz:vs.length≤sizeLine) :
  wpAny (model prog w) A (collect (.ref l)) Q E s:=by
 obtain ⟨o,ho,hc,n,hd⟩:=id hl
 unfold collect
 refine wpAny_bind (wpAny_runValue (codeAny_builtin entry_proto_collect' ?_))
 show wpAny _ _ (do again (.builtin "list.__iadd__" ⟨[← newList [],.ref l],[]⟩)) _ _ s
 refine wpAny_bind (wpAny_newList (wpAny_pure ⟨Code.quiet_builtin _ (by decide +kernel),codeAny_builtin entry_list_iadd' ?_⟩))
 show wpAny _ _ (Builtin.List.listExtendWith (.ref s.heap.objs.size) (.ref l) (.ref s.heap.objs.size)) _ _ { s with heap:=s.heap.push (seqObj "list" #[] 0) }
 unfold Builtin.List.listExtendWith
 have ho':(s.heap.push (seqObj "list" #[] 0)).get? l=some o:=Heap.get?_push_of_some _ ho
 refine wpAny_bind (wpAny_typeOf (T:="tuple") ⟨o,ho',hc⟩ ?_)
 have ht:(Value.type "tuple" == Value.type "tuple")=true:=by rfl
 rw [if_pos (by rw [ht]; simp)]
 refine wpAny_bind (listItems_at ho' hd ?_)
 refine wpAny_bind (listItems_at (xs:=#[]) (n:=0) (Heap.get?_push_size _ rfl) rfl ?_)
 rw [if_neg (by simp)]
 refine wpAny_bind (listUpdate_at (xs:=#[]) (n:=0) (Heap.get?_push_size _ rfl) rfl ?_ (Nat.zero_le _) (by show (#[]++vs.toArray).size≤sizeLine+1; simp only [Array.size_append,List.size_toArray,List.length_nil]; omega))
 refine wpAny_pure ?_
 show wpAny (model prog w) A (do
   let o ← load s.heap.objs.size
   match o.data with
   | .seq xs _=>pure xs.toList
   | _=>unsupported "internal:collect") Q E { s with heap:=(s.heap.push (seqObj "list" #[] 0)).update s.heap.objs.size (Obj.mapSeq (· ++ vs.toArray)) }
 refine wpAny_bind (wpAny_load (get?_update_seq (Heap.get?_push_size _ rfl) _) ?_)
 show wpAny _ _ (pure ((#[]:Array Value)++vs.toArray).toList) Q E _
 rw [show ((#[]:Array Value)++vs.toArray).toList=vs by simp]
 exact wpAny_pure h
theorem mr {l:Addr} {vs:List Value} {Q:List Value→Shared→Prop} (hl:s.heap.IsList l vs.toArray∨IsTup s.heap l vs.toArray)
  (h:Q vs { s with heap:=(s.heap.push (seqObj "list" #[] 0)).update s.heap.objs.size (Obj.mapSeq (· ++ vs.toArray)) }) (hsz:vs.length≤sizeLine) :
  wpAny (model prog w) A (collect (.ref l)) Q E s:=by
 rcases hl with hl | hl
 ·exact collect_list hl h hsz
 ·exact mq hl h hsz
theorem nP {f:Nat→Nat→Bool} {l:Addr} {vs:List Value} {κ:SortKind} {Q:Value→Shared→Prop} (O:Ord f vs.length) (hl:s.heap.IsList l vs.toArray∨IsTup s.heap l vs.toArray) (h64:vs.length<64)
  (hk:∀ (A':Around) (s':Shared),A'.units≤A.units+2→(∀ b o,s.heap.get? b=some o→s'.heap.get? b=some o)→∀ Q:SortKind→Shared→Prop,2≤vs.length→Q κ s'→wpAny (model prog w) A' (keyKind' vs.toArray) Q (λ_ _=>False) s')
  (hlt:∀ (A':Around) (s':Shared),A'.units≤A.units+2→(∀ b o,s.heap.get? b=some o→s'.heap.get? b=some o)→∀ (i j:Nat) (C:Bool→Shared→Prop),i<vs.length→j<vs.length→C (f i j) s'→wpAny (model prog w) A' (keyLt' κ (vs.getD i Value.none) (vs.getD j Value.none)) C (λ_ _=>False) s')
  (h:∀ (p:Array Nat) (h':Heap),Row vs.length p→Up f p vs.length→(∀ b o,s.heap.get? b=some o→h'.get? b=some o)→s.heap.objs.size≤s.heap.objs.size+1→(∃ k,h'.get? (s.heap.objs.size+1)=some (seqObj "list" (List.toArray (p.toList.map λi=>vs.getD i Value.none)) k))→Q (.ref (s.heap.objs.size+1)) { s with heap:=h' }) :
  wpAny (model prog w) A (call (.builtin "sorted") [.ref l]) Q E s:=by
 refine Calls.call_function_entry kind_sorted plain_sorted entry_sorted (args_sorted1 _) ?_
 unfold Builtin.«sorted»
 refine wpAny_bind (m:=checkCount "sorted" 1 1 _) (wpAny_pure ?_)
 refine wpAny_bind (mr hl ?_ (by rw [sizeLine_eq]; omega))
 refine wpAny_bind (wpAny_newList ?_ (by rw [sizeLine_eq]; omega))
 have hsz:((s.heap.push (seqObj "list" #[] 0)).update s.heap.objs.size (Obj.mapSeq (· ++ vs.toArray))).objs.size=s.heap.objs.size+1:=by
  rw [Heap.size_update,size_push']
 have hoL:(((s.heap.push (seqObj "list" #[] 0)).update s.heap.objs.size (Obj.mapSeq (· ++ vs.toArray))).push (seqObj "list" vs.toArray 0)).get? (s.heap.objs.size+1)=some (seqObj "list" vs.toArray 0):=by
  rw [← hsz]; exact Heap.get?_push_size _ rfl
 have keep:∀ b o,s.heap.get? b=some o→(((s.heap.push (seqObj "list" #[] 0)).update s.heap.objs.size (Obj.mapSeq (· ++ vs.toArray))).push (seqObj "list" vs.toArray 0)).get? b=some o:=λb o q=>by
  have hlt:b<s.heap.objs.size:=Heap.lt_size q
  rw [Heap.get?_push_ne _ _ _ (by rw [hsz]; exact Nat.ne_of_lt (Nat.lt_succ_of_lt hlt)),Heap.get?_update_ne _ _ _ _ (Nat.ne_of_lt hlt),Heap.get?_push_ne _ _ _ (Nat.ne_of_lt hlt)]
  exact q
 have neD:∀ b o,s.heap.get? b=some o→b≠s.heap.objs.size+1:=λb o q=>Nat.ne_of_lt (Nat.lt_succ_of_lt (Heap.lt_size q))
 show wpAny _ _ _ _ _ { s with heap:=((s.heap.push (seqObj "list" #[] 0)).update s.heap.objs.size (Obj.mapSeq (· ++ vs.toArray))).push (seqObj "list" vs.toArray 0) }
 rw [hsz]
 refine wpAny_bind (wpAny_holding (wpAny_call_entry slot_list_sort ⟨_,hoL,rfl⟩ entry_list_sort (gc (κ:=κ) (s:={ s with heap:=((s.heap.push (seqObj "list" #[] 0)).update s.heap.objs.size (Obj.mapSeq (· ++ vs.toArray))).push (seqObj "list" vs.toArray 0) }) O hoL h64 ?_ ?_ λp hr hu=>⟨_,rfl,?_⟩) (args_list_sort _)))
 ·intro s' hs' Q' h2 hq
  exact hk _ s' (by simp [Around.in1_units]) (λb o e=>hs' b o (neD b o e) (keep b o e)) Q' h2 hq
 ·intro s' hs' i j C hi hj hC
  exact hlt _ s' (by simp [Around.in1_units]) (λb o e=>hs' b o (neD b o e) (keep b o e)) i j C hi hj hC
 ·refine wpAny_pure ⟨_,rfl,h p _ hr hu (λb o e=>?_) (Nat.le_succ _) ?_⟩
  ·unfold sortedHeap
   rw [Heap.get?_update_ne _ _ _ _ (neD b o e)]
   refine Heap.get?_push_of_some _ (Heap.get?_push_of_some _ ?_)
   rw [Heap.get?_update_ne _ _ _ _ (neD b o e)]
   exact keep b o e
  ·unfold sortedHeap
   obtain ⟨e1,ho1⟩:∃ e1,((((s.heap.push (seqObj "list" #[] 0)).update s.heap.objs.size (Obj.mapSeq (· ++ vs.toArray))).push (seqObj "list" vs.toArray 0)).update (s.heap.objs.size+1) (Obj.mapSeq λ_=>(#[]:Array Value))).get? (s.heap.objs.size+1)=some (seqObj "list" #[] e1):=⟨_,get?_update_seq hoL λ_=>#[]⟩
   exact ⟨_,get?_update_seq (Heap.get?_push_of_some _ (Heap.get?_push_of_some _ ho1)) _⟩
end
end SRT
namespace L2
open PySem PySem.Spec PyProof.Rows
section
variable {X:Cx} {tg:Expr}
theorem pb:∀ {bs:List Bool} {us:List Value},aE (bs.map V.bl) us→us=bs.map Value.bool
 | [],_,.nil=>rfl
 | b :: bs,_,.cons r t=>by
  have e:_=Value.bool b:=r
  rw [e,pb t]; rfl
theorem iO (hc:X.calm=true):cA X (.builtin "all") (λxs H Q=>∃ a,∃ bs:List Bool,xs=[.ref a]∧SqL X.K H a (bs.map V.bl)∧Q (.bl (bs.all id)) H):=by
 intro pins s σ H xs us Q I r h
 obtain ⟨a,bs,rfl,hq,q⟩:=h
 obtain ⟨u,rfl,ru⟩:=dW r
 cases ru
 obtain ⟨its,rv,pl,hz⟩:=I.list hq
 have e:=pb rv
 subst e
 refine call_all_walk (wpAny_pyIter_list pl.isList ?_)
 have hlt:a<s.heap.objs.size:=by obtain ⟨o,e,_⟩:=pl.isList; exact Heap.lt_size e
 have hne:a≠s.heap.objs.size:=Nat.ne_of_lt hlt
 refine ⟨s.heap.objs.size,_,_,_,_,_,λi=>bs.getD i false,rfl,Walks.list (by simp [I.ok.hd hc]) s.heap.objs.size a hne (bs.map Value.bool).toArray,⟨⟨_,Heap.get?_push_size _ rfl,rfl,rfl⟩,pl.isList.push _⟩,?_,?_⟩
 ·intro i v s' Q' E' hP hQ
  have hP':(bs.map Value.bool)[i]? = some v:=by simpa using hP
  rw [List.getElem?_map] at hP'
  cases eb:bs[i]? with
  | none=>rw [eb] at hP'; cases hP'
  | some b =>
   rw [eb] at hP'
   have ev:Value.bool b=v:=Option.some.inj hP'
   subst ev
   refine wpAny_truthy_bool ?_
   have hQ':Q' (bs.getD i false) s':=hQ
   rw [List.getD_eq_getElem?_getD,eb] at hQ'
   exact hQ'
 ·intro h' tk hk
  refine ⟨.bl (bs.all id),H,I.kept (t':=tk) (λb o e=>hk b o (by simp only [List.mem_singleton]; exact Nat.ne_of_lt (Heap.lt_size e)) (Heap.get?_push_of_some _ e)),?_,q⟩
  have e1:((List.range (bs.map Value.bool).toArray.size).all λi=>bs.getD i false)=bs.all id:=by
   rw [List.size_toArray,List.length_map]
   rw [Bool.eq_iff_iff,List.all_eq_true,List.all_eq_true]
   constructor
   ·intro hh x hx
    obtain ⟨i,hi,e⟩:=List.mem_iff_getElem.mp hx
    have:=hh i (List.mem_range.mpr hi)
    rw [List.getD_eq_getElem?_getD,List.getElem?_eq_getElem hi,e] at this
    exact this
   ·intro hh i hi
    have hi':=List.mem_range.mp hi
    rw [List.getD_eq_getElem?_getD,List.getElem?_eq_getElem hi']
    exact hh _ (List.getElem_mem hi')
  show _=Value.bool _
  rw [e1]
theorem rQ:OpR X (compareOp .Is) (λx y H Q=>∃ a b,x = .bl a∧y = .bl b∧Q (.bl (decide (a=b))) H):=by
 intro pins s σ H x y v u Q I rx ry h
 obtain ⟨a,b,rfl,rfl,q⟩:=h
 cases (show v=Value.bool a from rx)
 cases (show u=Value.bool b from ry)
 show wpAny _ _ (do let r ← isSame (.bool a) (.bool b); pure (Value.bool r)) _ _ s
 refine wpAny_bind (wpAny_isSame_plain (by rfl) (wpAny_pure ⟨.bl (decide (a=b)),H,I,?_,q⟩))
 show _=Value.bool _
 cases a <;> cases b <;> rfl
theorem mt:OpR X (compareOp .IsNot) (λx y H Q=>∃ a b,x = .bl a∧y = .bl b∧Q (.bl (!decide (a=b))) H):=by
 intro pins s σ H x y v u Q I rx ry h
 obtain ⟨a,b,rfl,rfl,q⟩:=h
 cases (show v=Value.bool a from rx)
 cases (show u=Value.bool b from ry)
 show wpAny _ _ (do let r ← isSame (.bool a) (.bool b); pure (Value.bool (!r))) _ _ s
 refine wpAny_bind (wpAny_isSame_plain (by rfl) (wpAny_pure ⟨.bl (!decide (a=b)),H,I,?_,q⟩))
 show _=Value.bool _
 cases a <;> cases b <;> rfl
theorem cg:cA X (.builtin "isinstance") (λxs H Q=>∃ x n t b,xs=[x,.ty n]∧TyOf X.K H x t∧PySem.W.kitOne X.K t (.type n)=some b∧Q (.bl b) H):=by
 intro pins s σ H xs us Q I r h
 obtain ⟨x,n,t,b,rfl,ty,e,q⟩:=h
 obtain ⟨u,u',rfl,ru,ru'⟩:=re r
 cases (show u'=Value.type n from ru')
 exact pS I ru ty e λtk=>⟨.bl b,H,I.tok tk,rfl,q⟩
noncomputable def Its (x:Str):It:=⟨λi _=>i<x.cps.size,λi H v H'=>H'=H∧∃ c,x.cps[i]? = some c∧v = .str ⟨#[c]⟩,λi _=>x.cps.size≤i⟩
theorem rR {P:Program} {w:World} {K:PySem.W.Frag} (x:Str) (t:Tok) (it:Addr):Turn P w K tg (Its x) [it] it (λi h=>h.IsStrIter it (strIterType x) x t i) where
 mem:=by simp
 obj:=λi h st b hb=>by
  have e:b=it:=by simpa using hb
  subst e
  obtain ⟨o,e,c,d⟩:=st
  exact ⟨o,e,λv z=>by rw [d] at z; cases z⟩
 keep:=λi h h' st k=>by
  obtain ⟨o,e,r⟩:=st
  exact ⟨o,k it (by simp) o e,r⟩
 item:=by
  intro X hP hw hK hc i pins s σ H E I hf st hg
  subst hP hw hK
  obtain ⟨f0,f1,f2,f3,f4,f5⟩:=hf it (by simp)
  have hg':i<x.cps.size:=hg
  have fin:∀ (h':Heap) (tk:Nat),h'.IsStrIter it (strIterType x) x t (i+1)→Heap.SameBut it s.heap h'→∃ u',some (Value.str ⟨#[x.cps[i]]⟩ s.toks)=some u'∧wpAny (model X.prog X.w) X.A (letOwnedTupleGo tg (.ref it) u') (λ_ s2=>∃ y H',Inv X pins σ H' s2∧aL y u'∧(Its x).yld i H y H'∧s2.heap.IsStrIter it (strIterType x) x t (i+1)∧∀ b∈[it],H' b=none) E { s with heap:=h',toks:=tk }:=λh' tk st' sb=>by
   have I1:Inv X pins σ H { s with heap:=h',toks:=tk }:=I.turned (t':=tk) (λb o hb e=>(sb.2 b hb).trans e) f0 f1 f3 f4 f5
   obtain ⟨o,e,c,d⟩:=id st'
   refine ⟨_,rfl,lK (s:={ s with heap:=h',toks:=tk }) e c d ?_ ⟨.str ⟨#[x.cps[i]]⟩,H,I1,⟨_,rfl⟩,⟨rfl,x.cps[i],by simp [hg'],rfl⟩,st',λb hb=>(hf b hb).1⟩⟩
   unfold strIterType
   split <;> decide
  cases ha:x.cps.all (· < 128) with
  | true =>
   have et:strIterType x="str_ascii_iterator":=by simp [strIterType,ha]
   rw [et] at st fin ⊢
   exact wpAny_pyNext_ascii_item st (c:=x.cps[i]) (by simp [hg']) λh' st' sb=>fin h' _ st' sb
  | false =>
   have et:strIterType x="str_iterator":=by simp [strIterType,ha]
   rw [et] at st fin ⊢
   exact wpAny_pyNext_wide_item st (c:=x.cps[i]) (by simp [hg']) λh' st' sb=>fin h' _ st' sb
 done:=by
  intro X hP hw hK hc i pins s σ H E I hf st hg
  subst hP hw hK
  obtain ⟨f0,f1,f2,f3,f4,f5⟩:=hf it (by simp)
  have hg':x.cps.size≤i:=hg
  cases ha:x.cps.all (· < 128) with
  | true =>
   have et:strIterType x="str_ascii_iterator":=by simp [strIterType,ha]
   rw [et] at st
   exact wpAny_pyNext_ascii_end (I.ok.hd hc) st (by simp [hg']) λh' eb=>⟨rfl,I.turned (t':=s.toks) (λb o hb e=>eb b o hb e) f0 f1 f3 f4 f5⟩
  | false =>
   have et:strIterType x="str_iterator":=by simp [strIterType,ha]
   rw [et] at st
   exact wpAny_pyNext_wide_end (I.ok.hd hc) st (by simp [hg']) λh' eb=>⟨rfl,I.turned (t':=s.toks) (λb o hb e=>eb b o hb e) f0 f1 f3 f4 f5⟩
 self:=λA i s Q E st h=>by
  cases ha:x.cps.all (· < 128) with
  | true =>
   have et:strIterType x="str_ascii_iterator":=by simp [strIterType,ha]
   rw [et] at st
   exact wpAny_pyIter_striter_ascii st h
  | false =>
   have et:strIterType x="str_iterator":=by simp [strIterType,ha]
   rw [et] at st
   exact wpAny_pyIter_striter_wide st h
noncomputable def yq (tl:TE):TI:=λσ H R=>tl σ H λv H1=>∃ x,v = .str x∧R (Its x) H1
theorem wp {l:Expr} {tl:TE} (hl:PE X l tl):PI X tg l (yq tl):=by
 intro pins s σ H R I h
 refine thn (hl pins s σ H _ I h) λv s1 hpt=>?_
 obtain ⟨y,H1,I1,r1,q1⟩:=hpt
 obtain ⟨x,e,q⟩:=q1
 subst e
 obtain ⟨t,rfl⟩:=r1
 refine wpAny_pyIter_strU ?_
 refine ⟨s1.heap.objs.size,[s1.heap.objs.size],_,_,H1,rfl,I1.kept (t':=s1.toks) λb o e=>Heap.get?_push_of_some _ e,rR x t _,⟨_,Heap.get?_push_size _ rfl,rfl,rfl⟩,λb hb=>?_,q⟩
 have e:b=s1.heap.objs.size:=by simpa using hb
 subst e
 exact I1.fpOk (Nat.le_refl _) (I1.hok.fresh (Nat.le_refl _))
theorem rS {pins:List (Addr×Obj)} {σ:St} {H:Hp} {s:Shared} {a:Addr} {ks:List Key} (I:Inv X pins σ H s) (h:H a=some (.tup (ks.map kV))) (P:Program) (w:World):IsTupleKey (aD P w) s.heap ks a:=by
 obtain ⟨_,its,r,o,e,c,n,d⟩:=I.hok a _ h
 exact ⟨o,its.toArray,n,e,c,d,by simpa using gA r⟩
theorem cW:∀ {as:List Addr} {us:List Value},aE (as.map V.ref) us→us=as.map Value.ref
 | [],_,.nil=>rfl
 | b :: bs,_,.cons r t=>by
  have e:_=Value.ref b:=r
  rw [e,cW t]; rfl
theorem jn (hu:X.A.units+1<cLine):OpR X (compareOp .NotIn) (λx y H Q=>∃ a p ks,∃ kss:List (Addr×List Key),x = .ref a∧H a=some (.tup (ks.map kV))∧y = .ref p∧SqL X.K H p ((kss.map (·.1)).map V.ref) ∧
  (∀ z∈kss,H z.1=some (.tup (z.2.map kV)))∧Q (.bl (!(kss.any λz=>decide (z.2=ks)))) H):=by
 intro pins s σ H x y v u Q I rx ry h
 obtain ⟨a,p,ks,kss,rfl,ha,rfl,hq,hk,q⟩:=h
 cases rx
 cases ry
 obtain ⟨its,rv,pl,hz⟩:=I.list hq
 have e:=cW rv
 subst e
 let e:Value→Bool:=λv=>match v with | .ref b=>((kss.find? λz=>z.1 == b).map λz=>decide (z.2=ks)).getD false | _=>false
 have he:∀ z∈kss,e (.ref z.1)=decide (z.2=ks):=λz hz'=>by
  show ((kss.find? λy=>y.1 == z.1).map λz=>decide (z.2=ks)).getD false=_
  cases ef:kss.find? λy=>y.1 == z.1 with
  | none=>have:=List.find?_eq_none.mp ef z hz'; simp at this
  | some y =>
   have h1:=List.find?_some ef
   have h2:=List.mem_of_find?_eq_some ef
   have e1:y.1=z.1:=by simpa using h1
   have e2:=hk y h2
   rw [e1,hk z hz'] at e2
   have e3:z.2.map kV=y.2.map kV:=by injection (Option.some.inj e2)
   rw [kJ e3]; rfl
 refine SeqAt.notIn_listAt e pl.isList (λy hy=>?_) ⟨.bl _,H,I,rfl,?_⟩
 ·have hy':y∈(kss.map (·.1)).map Value.ref:=by simpa using hy
  obtain ⟨b,hb,rfl⟩:=List.mem_map.mp hy'
  obtain ⟨z,hz',rfl⟩:=List.mem_map.mp hb
  rw [he z hz']
  intro prog w E' Q' hQ
  exact wpAny_eqBool_tuple (knd:=aD prog w) (by simp; exact hu) (rS I (hk z hz') prog w) (rS I ha prog w) hQ
 ·have e1:(((kss.map (·.1)).map Value.ref).toArray.any e)=kss.any λz=>decide (z.2=ks):=by
   rw [List.any_toArray,List.any_map,List.any_map]
   apply Bool.eq_iff_iff.mpr
   rw [List.any_eq_true,List.any_eq_true]
   constructor
   ·rintro ⟨z,hz',h1⟩; exact ⟨z,hz',by rw [← he z hz']; exact h1⟩
   ·rintro ⟨z,hz',h1⟩; exact ⟨z,hz',by show e (.ref z.1)=true; rw [he z hz']; exact h1⟩
  rw [e1]
  exact q
noncomputable def lg (a:Addr) (n:Nat) (h:Heap):Prop:=∃ o es ep t,h.get? a=some o∧o.ExactSet∧o.data = .set es ep t∧t.fits es.size=true∧es.size=n
theorem rT (P:Program) (w:World):∀ k v,(aD P w).is k v=true→v.scannable=true:=λk v h=>by
 rcases aV h with ⟨i,t,_,rfl⟩ | ⟨x,t,_,rfl⟩ <;> rfl
theorem jo (hc:X.calm=true) (hu:X.A.units+4<cLine):cA X (.type "set") (λxs H Q=>∃ p,∃ kss:List (Addr×List Key),xs=[.ref p]∧SqL X.K H p ((kss.map (·.1)).map V.ref)∧(∀ z∈kss,H z.1=some (.tup (z.2.map kV)))∧kss.length≤60 ∧
  ∀ n,n≤kss.length→(n=kss.length↔(kss.map (·.2)).Nodup)→∀ q,H q=none→Q (.ref q) (upd H q (.ext (lg q n)))):=by
 intro pins s σ H xs us Q I r h
 obtain ⟨p,kss,rfl,hq,hk,hl,q⟩:=h
 obtain ⟨u,rfl,ru⟩:=dW r
 cases ru
 obtain ⟨its,rv,pl,hz⟩:=I.list hq
 have e:=cW rv
 subst e
 have hsz:(((kss.map (·.1)).map Value.ref).toArray).size=kss.length:=by simp
 have hget:∀ i,i<kss.length→kss.getD i (0,[])∈kss:=λi hi=>by
  rw [List.getD_eq_getElem?_getD,List.getElem?_eq_getElem hi]; exact List.getElem_mem hi
 refine TB.gX (knd:=aD X.prog X.w) (key:=λi=>(kss.getD i (0,[])).2) (ad:=λi=>(kss.getD i (0,[])).1) (I.ok.hd hc) hu (rT _ _) pl.isList (λi v hv=>?_) (λi hi=>?_) (by rw [hsz]; exact hl) λh' tk zs hS hzl hm hkeep=>?_
 ·have hv':((kss.map (·.1)).map Value.ref)[i]? = some v:=by simpa using hv
  rw [List.getElem?_map,List.getElem?_map] at hv'
  rw [List.getD_eq_getElem?_getD]
  cases ei:kss[i]? with
  | none=>rw [ei] at hv'; cases hv'
  | some z=>rw [ei] at hv'; exact (Option.some.inj hv').symm
 ·exact rS I (hk _ (hget i (by omega))) _ _
 ·rw [hsz] at hm hzl
  have hcount:zs.length=kss.length↔(kss.map (·.2)).Nodup:=by
   have:=TB.mf (z:=zs.map (·.2.2)) (l:=kss.map (·.2)) hS.nd λk'=>by
    rw [hm k']
    constructor
    ·rintro ⟨j,hj,e⟩
     rw [← e]
     exact List.mem_map.mpr ⟨_,hget j hj,rfl⟩
    ·intro h1
     obtain ⟨z,hz',e⟩:=List.mem_map.mp h1
     obtain ⟨j,hj,e2⟩:=List.mem_iff_getElem.mp hz'
     exact ⟨j,hj,by rw [List.getD_eq_getElem?_getD,List.getElem?_eq_getElem hj,e2]; exact e⟩
   rw [List.length_map,List.length_map] at this
   exact this
  obtain ⟨⟨o,es,ep,t,ho,hex,hd,hes,T,hmask,hfull,hpath⟩,_,_⟩:=hS
  have hlen:es.size=zs.length:=by rw [← Array.length_toList,hes,List.length_map]
  have hf:t.fits es.size=true:=TB.eP T (by rw [List.length_map,hlen]) (by rw [hlen]; omega)
  refine ⟨.ref s.heap.objs.size,_,I.laid (t':=tk) (o:=.ext (lg s.heap.objs.size zs.length)) (λb o e=>hkeep b o (Heap.lt_size e) e) (Nat.le_refl _) ⟨⟨o,es,ep,t,ho,hex,hd,hf,hlen⟩,⟨o,ho⟩,?_⟩,rfl,q zs.length hzl hcount _ (I.hok.fresh (Nat.le_refl _))⟩
  rintro h1 h2 ⟨o,es,ep,t,a1,a2⟩ hh
  exact ⟨o,es,ep,t,hh o a1,a2⟩
theorem mv:cA X (.builtin "len") (λxs H Q=>∃ p n,xs=[.ref p]∧H p=some (.ext (lg p n))∧n≤60∧Q (.int n) H):=by
 intro pins s σ H xs us Q I r h
 obtain ⟨p,n,rfl,hp,hn,q⟩:=h
 obtain ⟨u,rfl,ru⟩:=dW r
 cases ru
 obtain ⟨⟨o,es,ep,t,ho,hex,hd,hf,hlen⟩,_,_⟩:=I.hok p _ hp
 refine call_len_set ho hex hd hf (by rw [hlen]; omega) ⟨.int n,H,I.tok _,?_,q⟩
 rw [hlen]
 exact ⟨_,rfl⟩
noncomputable def ug:V→List V→Hp→VK→Prop:=λx vs H Q=>∃ d kvs k y,x = .ref d∧vs=[kV k,y]∧H d=some (.dK kvs)∧kvs.length<sizeLine∧(∀ v,bg kvs k=some v→Q v H)∧(bg kvs k=none→Q y (upd H d (.dK (cu kvs k y))))
theorem jp:MtM X "dict.setdefault" ug:=by
 intro pins s σ H x vs v us Q I rx rv h
 obtain ⟨d,kvs,k,y,rfl,rfl,hd,hz,q1,q2⟩:=h
 cases rx
 obtain ⟨u,u',rfl,ru,ru'⟩:=rv.two
 obtain ⟨z,hs,ws,rel,dd⟩:=oO I.hok hd
 have hzw:ws.length≤sizeLine:=by rw [← rel.length]; exact z
 refine call_meetsIn F.slot_dict_setdefault dd.typeIs F.entry_dict_setdefault (F.args_dict_setdefault_3 _ _ _) (kt_meets_setdefault (aD X.prog X.w) d (eS ru) hs u') ⟨ws,dd,hzw,λw' hw=>?_,λhw h' dd' sb=>?_⟩
 ·have:=rel.val k
  rw [hw] at this
  cases e:bg kvs k with
  | none=>rw [e] at this; cases this
  | some v =>
   rw [e] at this
   exact ⟨v,H,I.tok _,this,q1 v e⟩
 ·have:=rel.val k
  rw [hw] at this
  cases e:bg kvs k with
  | some v=>rw [e] at this; cases this
  | none =>
   have he:∃ q,h'.get? d=some q:=let ⟨q,_,_,hq,_⟩:=dd'; ⟨q,hq⟩
   have hl:(cu kvs k y).length≤sizeLine:=by have:=di kvs k y; omega
   exact ⟨y,_,hJ I (by rw [hd]; exact True.intro) sb he (kM hl hs (rel.put k ru') dd'),ru',q2 e⟩
theorem qf:cA X (.type "range") (λxs H Q=>∃ i j,xs=[.int i,.int j]∧∀ p,H p=none→Q (.ref p) (upd H p (.rng i j))):=by
 intro pins s σ H xs us Q I r h
 obtain ⟨i,j,rfl,q⟩:=h
 obtain ⟨u,u',rfl,⟨t,rfl⟩,⟨t',rfl⟩⟩:=re r
 refine call_range_2 ⟨.ref s.heap.objs.size,_,I.laid (t':=s.toks+1) (o:=.rng i j) (λb ob q=>Heap.get?_push_of_some _ q) (Nat.le_refl _) ?_,rfl,q _ (I.hok.fresh (Nat.le_refl _))⟩
 exact ⟨t,t',_,Heap.get?_push_size _ rfl⟩
theorem nQ {lo:Int} {n:Nat} {acc:Array Value} (h:ItemsOf (λi v=>∃ t,v = .int (lo+i * 1) t) acc n):aE ((List.range n).map λk=>V.int (lo+(k:Nat))) acc.toList:=by
 obtain ⟨h1,h2⟩:=h
 have key:∀ (l:List Value) (k:Nat),(∀ (i:Nat) (v:Value),l[i]? = some v→∃ t,v=Value.int (lo+(k+i:Nat)) t)→aE ((List.range' k l.length).map λk=>V.int (lo+(k:Nat))) l:=by
  intro l
  induction l with
  | nil=>intro k _; exact .nil
  | cons v l ih =>
   intro k hv
   rw [List.length_cons,List.range'_succ,List.map_cons]
   refine .cons ?_ (ih (k+1) λi w hw=>?_)
   ·obtain ⟨t,e⟩:=hv 0 v rfl
    exact ⟨t,e⟩
   ·obtain ⟨t,e⟩:=hv (i+1) w hw
    exact ⟨t,by rw [e,show k+(i+1)=k+1+i by omega]⟩
 have hl:acc.toList.length=n:=by simpa using h1
 have:=key acc.toList 0 λi v hv=>by
  have hv':acc[i]? = some v:=by simpa using hv
  obtain ⟨t,e⟩:=h2 i v hv'
  exact ⟨t,by rw [e,Int.mul_one,Nat.zero_add]⟩
 rw [hl] at this
 rw [List.range_eq_range']
 exact this
theorem jq (hc:X.calm=true):cA X (.type "list") (λxs H Q=>∃ p i j,xs=[.ref p]∧H p=some (.rng i j)∧(-(2 ^ 62)≤i∧i<2 ^ 62∧-(2 ^ 62)≤j∧j<2 ^ 62)∧(j - i).toNat≤1000 ∧
  ∀ l,H l=none→Q (.ref l) (upd H l (.lst ((List.range (j - i).toNat).map λk=>V.int (i+(k:Nat)))))):=by
 intro pins s σ H xs us Q I r h
 obtain ⟨p,i,j,rfl,hp,⟨b1,b2,b3,b4⟩,hn,q⟩:=h
 obtain ⟨u,rfl,rx⟩:=dW r
 cases rx
 obtain ⟨t,t',t'',e⟩:=(show bv X.prog X.w H s.heap p (.rng i j) from I.hok p _ hp)
 have hsz:Builtin.Range.rangeSize i j 1=((j - i).toNat:Nat):=by rw [rangeSize_one]; split <;> omega
 refine call_list_range (n:=(j - i).toNat) (I.ok.hd hc) e (small_one b1 b2 b3 b4) hsz (by omega) λh' tk acc c' kp hg hi=>?_
 refine ⟨.ref s.heap.objs.size,_,I.laid (t':=tk) kp (Nat.le_refl _) (show bv X.prog X.w _ h' _ (.lst _) from ⟨?_,acc.toList,c',nQ hi,by simpa using hg⟩),rfl,q _ (I.hok.fresh (Nat.le_refl _))⟩
 rw [List.length_map,List.length_range,sizeLine_eq]; omega
theorem rU:OpR X (binaryOp .Add) (λx y H Q=>∃ a b ys,x = .ref a∧y = .ref b∧SqT X.K H a []∧SqT X.K H b ys∧Q (.ref b) H):=by
 intro pins s σ H x y v u Q I rx ry h
 obtain ⟨a,b,ys,rfl,rfl,ha,hb,q⟩:=h
 cases rx
 cases ry
 obtain ⟨its,r1,ht,_⟩:=I.tuple ha
 obtain ⟨its2,r2,hb',_⟩:=I.tuple hb
 cases r1
 obtain ⟨⟨cls,dd,data,sl⟩,ho,hc,n,hd⟩:=id ht
 obtain ⟨⟨cls2,dd2,data2,sl2⟩,ho2,hc2,n2,hd2⟩:=id hb'
 simp only at hc hd hc2 hd2
 subst hc hd hc2 hd2
 exact concat_meets ⟨_,ho,rfl⟩ ⟨_,ho2,rfl⟩ noFill_tuple_add seq_tuple_add PySem.F.slot_tuple_add PySem.F.entry_tuple_add (PySem.F.args_tuple_add_2 _ _)
  (tuple_addW0 a b _ its2.toArray n n2 dd dd2 sl sl2 (by rfl)) ⟨ho,ho2,⟨.ref b,H,I,rfl,q⟩⟩
theorem gf {prog:Program} {w:World} {A:Around} {E:Value→Shared→Prop} {s:Shared} {t sl:Addr} {items:Array Value} {vl vu:Value} {lo hi:Option Int} {Q:Value→Shared→Prop} (ht:IsTup s.heap t items) (hs:s.heap.IsSliceOf sl vl vu .none) (pl:IsPart vl lo) (pu:IsPart vu hi)
  (hw:HT.sIx items.size 0 lo=0∧HT.sIx items.size items.size hi=items.size) (h:Q (.ref t) s):wpAny (model prog w) A (getItem (.ref t) (.ref sl)) Q E s:=by
 obtain ⟨os,hos,hcs,hds⟩:=id hs
 have hTs:s.TypeIs (.ref sl) "slice":=⟨os,hos,hcs⟩
 unfold getItem
 try with_reducible refine wpAny_holding ?_
 first | refine wpAny_bind (wpAny_pure ?_) | skip
 refine wpAny_bind (wpAny_sequenceKey ht.typeIs (by decide) ?_)
 refine wpAny_bind (wpAny_callSpecial?_slot (name:=Str.ofString "__getitem__") ht.typeIs PyProof.Rows.slot_tuple_getitem
  (wpAny_call_entry PyProof.Rows.slot_tuple_getitem ht.typeIs entry_tuple_getitem ?_ (args_tuple_getitem _ _)))
 show wpAny _ _ (Builtin.Tuple.tupleItemsOf (.ref t) >>= _) _ _ s
 refine wpAny_bind (tupleItemsOf_ ht ?_)
 refine wpAny_bind (wpAny_typeOf hTs ?_)
 rw [if_pos (by decide)]
 refine wpAny_bind (HT.dy hs pl pu ?_)
 have hyes:((((HT.sIx items.size 0 lo:Nat):Int) == 0 && (1:Int) == 1 && (HT.sIx items.size items.size hi - HT.sIx items.size 0 lo) == items.size)=true):=by
  rw [hw.1,hw.2]; simp
 show wpAny _ _ (if (((HT.sIx items.size 0 lo:Nat):Int) == 0 && (1:Int) == 1 && (HT.sIx items.size items.size hi - HT.sIx items.size 0 lo) == items.size)=true then _ else _) _ _ s
 rw [if_pos hyes]
 refine wpAny_bind ?_
 unfold Builtin.Tuple.tupleIsExact
 refine wpAny_bind (wpAny_typeOf ht.typeIs (wpAny_pure ?_))
 rw [if_pos (by decide)]
 exact wpAny_bind (wpAny_rule (wpAny_pure ⟨_,rfl,wpAny_pure h⟩))
theorem nR:SlR X (λx lo hi H Q=>∃ a xs,x = .ref a∧SqT X.K H a xs∧HT.sIx xs.length 0 lo=0∧HT.sIx xs.length xs.length hi=xs.length∧Q (.ref a) H):=by
 intro pins s σ H x v vl vu lo hi sl Q I rx hs pl pu h
 obtain ⟨a,xs,rfl,hx,h1,h2,q⟩:=h
 cases rx
 obtain ⟨its,r,ht,hz⟩:=I.tuple hx
 have hlen:its.toArray.size=xs.length:=by rw [List.size_toArray]; exact r.length.symm
 exact ⟨"tuple",_,PyProof.Rows.slot_tuple_getitem.lookup,ht.typeIs,gf ht hs pl pu (by rw [hlen]; exact ⟨h1,h2⟩) ⟨.ref a,H,I,rfl,q⟩⟩
theorem nS (hu:X.A.units<cLine):OpR X (compareOp .Eq) (λx y H Q=>∃ a b xs,x = .ref a∧y = .ref b∧SqT X.K H a xs∧SqT X.K H b []∧Q (.bl (decide (xs=[]))) H):=by
 intro pins s σ H x y v u Q I rx ry h
 obtain ⟨a,b,xs,rfl,rfl,ha,hb,q⟩:=h
 cases rx
 cases ry
 obtain ⟨its,r1,ht,_⟩:=I.tuple ha
 obtain ⟨its2,r2,hb',_⟩:=I.tuple hb
 cases r2
 refine SeqAt.eq_tupleAt (e:=λ_=>true) ht hb' hu (λj h1 h2=>absurd h2 (by simp)) ⟨.bl _,H,I,?_,q⟩
 show _=Value.bool _
 congr 1
 have:=r1.nil_iff
 by_cases e:xs=[]
 ·have e2:=this.mpr e
  subst e2
  simp [e]
 ·have e2:its≠[]:=λz=>e (this.mp z)
  have e3:its.length≠0:=λz=>e2 (List.length_eq_zero_iff.mp z)
  simp [e,e3]
theorem fg (hu:X.A.units<cLine):OpR X (compareOp .Eq) (λx y H Q=>∃ a b xs,x = .ref a∧y = .ref b∧SqL X.K H a xs∧SqL X.K H b []∧Q (.bl (decide (xs=[]))) H):=by
 intro pins s σ H x y v u Q I rx ry h
 obtain ⟨a,b,xs,rfl,rfl,ha,hb,q⟩:=h
 cases rx
 cases ry
 obtain ⟨its,r1,ht,_⟩:=I.list ha
 obtain ⟨its2,r2,hb',_⟩:=I.list hb
 cases r2
 by_cases e:xs=[]
 ·subst e
  cases r1
  refine SeqAt.eq_listAt (e:=λ_=>true) ht.isList hb'.isList rfl hu (λj h1 h2=>absurd h2 (by simp)) ⟨.bl _,H,I,?_,q⟩
  rfl
 ·have e2:its≠[]:=λz=>e (r1.nil_iff.mp z)
  have e3:its.length≠0:=λz=>e2 (List.length_eq_zero_iff.mp z)
  refine SeqAt.eq_list_lengthsAt ht.isList hb'.isList (by simp [e3]) hu ⟨.bl _,H,I,?_,q⟩
  show _=Value.bool _
  simp [e]
end
end L2
namespace ZT
open PySem PySem.SeqAt
section
variable {prog:Program} {w:World} {A:Around} {E:Value→Shared→Prop} {s:Shared}
theorem fh {it t:Addr} {i:Nat} {items:Array Value} {x:Value} {Q:Value→Shared→Prop} (hi:s.heap.IsTupleIter it t i) (ht:s.heap.IsTuple t items) (hx:items[i]? = some x)
  (q:∀ g,g.IsTupleIter it t (i+1)→Heap.SameBut it s.heap g→Q x { s with heap:=g }):wpAny (model prog w) A (Builtin.SmallTypes.nextOf (.ref it)) Q E s:=by
 obtain ⟨oi,e1,e2,e3⟩:=id hi
 obtain ⟨ot,e4,_,k,e5⟩:=ht
 unfold Builtin.SmallTypes.nextOf
 refine wpAny_bind (wpAny_callSpecial?_slot (name:=Str.ofString "__next__") hi.typeIs F.slot_tuple_iterator_next (wpAny_call_entry F.slot_tuple_iterator_next hi.typeIs F.entry_tuple_iterator_next ?body (F.args_tuple_iterator_next_1 _)))
 case body =>
  refine wpAny_bind (m:=field (.ref it) 0) (wpAny_field e1 e3 (x:=.ref t) rfl ?_)
  rw [if_neg (show ¬ ((Value.ref t == Value.none)=true) by simp)]
  refine wpAny_bind (m:=field (.ref it) 1) (wpAny_field e1 e3 (x:=.int i 0) rfl ?_)
  refine wpAny_bind (m:=seqItems? (.ref t)) (wpAny_seqItems e4 e5 ?_)
  simp only [Int.toNat_natCast,hx]
  have up:(Obj.mapFields (·.setIfInBounds 1 (rawInt ((i:Int)+1))) oi).data = .fields #[.ref t,.int ((i+1:Nat):Int) 0]:=by rw [Obj.data_mapFields e3]; simp [rawInt]
  exact wpAny_bind (wpAny_setField e1 e3 (by simp) (wpAny_pure ⟨x,rfl,wpAny_pure (q _ ⟨_,Heap.get?_update_self _ e1 (Obj.isFreed_of_fields (Obj.data_mapFields e3 _)),(Obj.cls_mapFields ..).trans e2,up⟩ (Heap.SameBut.update ..))⟩))
theorem jL {it t:Addr} {i:Nat} {items:Array Value} {Q:Value→Shared→Prop} (hh:A.handled=none) (hi:s.heap.IsTupleIter it t i) (ht:s.heap.IsTuple t items) (hx:items[i]? = none)
  (q:∀ g e,Heap.ExtBut it s.heap g→(∃ o,g.get? e=some o∧o.cls = .type "StopIteration")→E (.ref e) { s with heap:=g }):wpAny (model prog w) A (Builtin.SmallTypes.nextOf (.ref it)) Q E s:=by
 obtain ⟨oi,e1,e2,e3⟩:=id hi
 obtain ⟨ot,e4,_,k,e5⟩:=ht
 unfold Builtin.SmallTypes.nextOf
 refine wpAny_bind (wpAny_callSpecial?_slot (name:=Str.ofString "__next__") hi.typeIs F.slot_tuple_iterator_next (wpAny_call_entry F.slot_tuple_iterator_next hi.typeIs F.entry_tuple_iterator_next ?body (F.args_tuple_iterator_next_1 _)))
 case body =>
  refine wpAny_bind (m:=field (.ref it) 0) (wpAny_field e1 e3 (x:=.ref t) rfl ?_)
  rw [if_neg (show ¬ ((Value.ref t == Value.none)=true) by simp)]
  refine wpAny_bind (m:=field (.ref it) 1) (wpAny_field e1 e3 (x:=.int i 0) rfl ?_)
  refine wpAny_bind (m:=seqItems? (.ref t)) (wpAny_seqItems e4 e5 ?_)
  simp only [Int.toNat_natCast,hx]
  refine wpAny_bind (wpAny_rule (wpAny_bind (wpAny_setField e1 e3 (by simp) ?_)))
  refine wpAny_bind (m:=newExc (.type "StopIteration") []) ?_
  unfold newExc newTuple
  refine wpAny_bind (wpAny_newObj_type (hd:=by size_fits) ?_)
  refine wpAny_bind (m:=firstArgMember _ _) (wpAny_of_eq (a:=Value.none) (by first | rfl | (unfold firstArgMember; rfl)) (wpAny_newObj_type (hd:=by size_fits) ?_))
  unfold raiseNew
  refine wpAny_bind (wpAny_handled ?_)
  first | rw [show A.in1.handled=none from hh] | rw [hh]
  exact wpAny_bind (wpAny_pure (wpAny_throw (q _ _ (((Heap.SameBut.update ..).extBut.push _).push _) ⟨_,Heap.get?_push_size _ rfl,rfl⟩)))
structure Rec (h:Heap) (z a b i1 i2 t1 t2:Addr) (out:Value) (k:Nat):Prop where
 zz:IsZip h z a b out
 ti:IsPair h a (.ref i1) (.ref i2)
 to:∃ u v,IsPair h b u v
 n1:h.IsTupleIter i1 t1 k
 n2:h.IsTupleIter i2 t2 k
structure Apart (z a b i1 i2 t1 t2:Nat):Prop where
 az:a≠z
 bz:b≠z
 z1:i1≠z
 z2:i2≠z
 ab:a≠b
 a1:a≠i1
 a2:a≠i2
 b1:b≠i1
 b2:b≠i2
 d12:i1≠i2
 tz:t1≠z∧t2≠z
 tb:t1≠b∧t2≠b
 t1n:t1≠i1∧t2≠i1
 t2n:t1≠i2∧t2≠i2
theorem rV (n t1 t2:Nat) (h1:t1<n) (h2:t2<n):Apart (n+4) (n+2) (n+3) n (n+1) t1 t2 :=
 ⟨by omega,by omega,by omega,by omega,by omega,by omega,by omega,by omega,by omega,by omega,⟨by omega,by omega⟩,⟨by omega,by omega⟩,⟨by omega,by omega⟩,⟨by omega,by omega⟩⟩
theorem qg {z a b i1 i2 t1 t2:Addr} {k:Nat} {xs ys:Array Value} {x y:Value} {Q:Value→Shared→Prop} (D:Apart z a b i1 i2 t1 t2) (R:Rec s.heap z a b i1 i2 t1 t2 .none k) (h1:s.heap.IsTuple t1 xs) (h2:s.heap.IsTuple t2 ys)
  (hx:xs[k]? = some x) (hy:ys[k]? = some y)
  (q:∀ g,Rec g z a b i1 i2 t1 t2 (rawInt s.heap.objs.size) (k+1)→IsPair g s.heap.objs.size x y→(∀ c o,c≠z→c≠b→c≠i1→c≠i2→s.heap.get? c=some o→g.get? c=some o)→Q (.ref s.heap.objs.size) { s with heap:=g }) :
  wpAny (model prog w) A (Builtin.«zip.__next__» ⟨[.ref z],[]⟩) (λfin s'=>∃ v,fin = .done (.ret v)∧Q v s') E s:=by
 obtain ⟨hz,hti,⟨u,v,hto⟩,n1,n2⟩:=R
 refine wpAny_bind (m:=field (.ref z) 2) (wpAny_field hz rfl (x:=.bool false) rfl ?_)
 refine wpAny_bind (m:=field (.ref z) 3) (wpAny_field hz rfl (x:=.ref a) rfl ?_)
 refine wpAny_bind (m:=seqItems? (.ref a)) (wpAny_seqItems hti rfl ?_)
 refine wpAny_bind (m:=Builtin.SmallTypes.ownedTupleIsFree (.ref z)) ?_
 unfold Builtin.SmallTypes.ownedTupleIsFree
 refine wpAny_bind (wpAny_field hz rfl (x:=.none) rfl (wpAny_pure ?_))
 simp only [if_true]
 refine wpAny_bind (wpAny_rule (wpAny_bind (wpAny_field hz rfl (x:=.ref b) rfl (wpAny_bind (wpAny_setField_rec hz (by simp) λg1 z1 s1=>?_)))))
 have z1':IsZip g1 z a b .ellipsis:=z1
 refine wpAny_bind ?_
 simp only [List.zipIdx_cons,List.zipIdx_nil,List.forIn_cons,List.forIn_nil]
 refine wpAny_bind (wpAny_bind (wpAny_onRaise (wpAny_bind (m:=Builtin.SmallTypes.nextOf (.ref i1)) (fh (n1.extBut s1.extBut D.z1) (h1.extBut s1.extBut D.tz.1) hx λg2 m1 s2=>wpAny_pure ?_))))
 have to2:IsPair g2 b u v:=s2.extBut _ _ D.b1 (s1.extBut _ _ D.bz hto)
 refine wpAny_bind (wpAny_seqItems to2 rfl (wpAny_bind (wpAny_updateSeq_pair to2 λg3 to3 s3=>wpAny_bind (wpAny_letGo (wpAny_pure ?_)))))
 have to3':IsPair g3 b x v:=to3
 refine wpAny_bind (wpAny_bind (wpAny_onRaise (wpAny_bind (m:=Builtin.SmallTypes.nextOf (.ref i2)) (fh (((n2.extBut s1.extBut D.z2).extBut s2.extBut D.d12.symm).extBut s3.extBut D.b2.symm)
  (((h2.extBut s1.extBut D.tz.2).extBut s2.extBut D.t1n.2).extBut s3.extBut D.tb.2) hy λg4 m2 s4=>wpAny_pure ?_))))
 have to4:IsPair g4 b x v:=s4.extBut _ _ D.b2 to3'
 refine wpAny_bind (wpAny_seqItems to4 rfl (wpAny_bind (wpAny_updateSeq_pair to4 λg5 to5 s5=>wpAny_bind (wpAny_letGo (wpAny_pure (wpAny_pure ?_))))))
 have to5':IsPair g5 b x y:=to5
 refine wpAny_bind (wpAny_seqItems to5' rfl (wpAny_bind (wpAny_newTuple ?_)))
 have size5:g5.objs.size=s.heap.objs.size:=by rw [s5.1,s4.1,s3.1,s2.1,s1.1]
 have keep5:∀ c o,c≠z→c≠b→c≠i1→c≠i2→s.heap.get? c=some o→g5.get? c=some o:=λc o c1 c2 c3 c4 e=>s5.extBut _ _ c2 (s4.extBut _ _ c4 (s3.extBut _ _ c2 (s2.extBut _ _ c3 (s1.extBut _ _ c1 e))))
 have z5:IsZip g5 z a b .ellipsis:=s5.extBut _ _ D.bz.symm (s4.extBut _ _ D.z2.symm (s3.extBut _ _ D.bz.symm (s2.extBut _ _ D.z1.symm z1')))
 have m15:g5.IsTupleIter i1 t1 (k+1):=((m1.extBut s3.extBut D.b1.symm).extBut s4.extBut D.d12).extBut s5.extBut D.b1.symm
 have m25:g5.IsTupleIter i2 t2 (k+1):=m2.extBut s5.extBut D.b2.symm
 have ti5:IsPair g5 a (.ref i1) (.ref i2):=keep5 _ _ D.az D.ab D.a1 D.a2 hti
 refine wpAny_bind (m:=Builtin.SmallTypes.ownedTupleHandOut (.ref z) (.ref g5.objs.size)) ?_
 unfold Builtin.SmallTypes.ownedTupleHandOut
 have z6:IsZip (g5.push { cls:=.type "tuple",data:=.seq #[x,y] }) z a b .ellipsis:=Heap.get?_push_of_some _ z5
 refine wpAny_bind (wpAny_setField_rec z6 (by simp) λg7 z7 s7=>?_)
 have z7':IsZip g7 z a b (rawInt g5.objs.size):=z7
 refine wpAny_setField_rec z7' (by simp) λg8 z8 s8=>?_
 have z8':IsZip g8 z a b (rawInt g5.objs.size):=z8
 have up:∀ c o,c≠z→g5.get? c=some o→g8.get? c=some o:=λc o c1 e=>s8.extBut _ _ c1 (s7.extBut _ _ c1 (Heap.get?_push_of_some _ e))
 have nz:g5.objs.size≠z:=Nat.ne_of_gt (Heap.lt_size z5)
 have new8:IsPair g8 g5.objs.size x y:=s8.extBut _ _ nz (s7.extBut _ _ nz (Heap.get?_push_size _ rfl))
 rw [size5] at z8' new8
 refine wpAny_pure ⟨_,rfl,?_⟩
 show Q (.ref g5.objs.size) _
 rw [size5]
 exact q g8 ⟨z8',up _ _ D.az ti5,⟨_,_,up _ _ D.bz to5'⟩,(let ⟨o,e,r⟩:=m15; ⟨o,up _ o D.z1 e,r⟩),(let ⟨o,e,r⟩:=m25; ⟨o,up _ o D.z2 e,r⟩)⟩ new8 λc o c1 c2 c3 c4 e=>up c o c1 (keep5 c o c1 c2 c3 c4 e)
theorem rW {z a b i1 i2 t1 t2:Addr} {k:Nat} {xs ys:Array Value} {Q:PySem.Fin→Shared→Prop} (hh:A.handled=none) (D:Apart z a b i1 i2 t1 t2) (R:Rec s.heap z a b i1 i2 t1 t2 .none k) (h1:s.heap.IsTuple t1 xs) (h2:s.heap.IsTuple t2 ys)
  (hend:xs[k]? = none∨ys[k]? = none)
  (q:∀ g e,(∀ c o,c≠z→c≠b→c≠i1→c≠i2→s.heap.get? c=some o→g.get? c=some o)→(∃ o,g.get? e=some o∧o.cls = .type "StopIteration")→E (.ref e) { s with heap:=g }) :
  wpAny (model prog w) A (Builtin.«zip.__next__» ⟨[.ref z],[]⟩) Q E s:=by
 obtain ⟨hz,hti,⟨u,v,hto⟩,n1,n2⟩:=R
 refine wpAny_bind (m:=field (.ref z) 2) (wpAny_field hz rfl (x:=.bool false) rfl ?_)
 refine wpAny_bind (m:=field (.ref z) 3) (wpAny_field hz rfl (x:=.ref a) rfl ?_)
 refine wpAny_bind (m:=seqItems? (.ref a)) (wpAny_seqItems hti rfl ?_)
 refine wpAny_bind (m:=Builtin.SmallTypes.ownedTupleIsFree (.ref z)) ?_
 unfold Builtin.SmallTypes.ownedTupleIsFree
 refine wpAny_bind (wpAny_field hz rfl (x:=.none) rfl (wpAny_pure ?_))
 simp only [if_true]
 refine wpAny_bind (wpAny_rule (wpAny_bind (wpAny_field hz rfl (x:=.ref b) rfl (wpAny_bind (wpAny_setField_rec hz (by simp) λg1 z1 s1=>?_)))))
 have z1':IsZip g1 z a b .ellipsis:=z1
 refine wpAny_bind ?_
 simp only [List.zipIdx_cons,List.zipIdx_nil,List.forIn_cons,List.forIn_nil]
 refine wpAny_bind (wpAny_bind (wpAny_onRaise ?_))
 refine wpAny_bind (m:=Builtin.SmallTypes.nextOf (.ref i1)) ?_
 cases hx:xs[k]? with
 | none =>
  refine jL hh (n1.extBut s1.extBut D.z1) (h1.extBut s1.extBut D.tz.1) hx λg2 e s2 he=>?_
  obtain ⟨oe,e1,e2⟩:=he
  have z2':IsZip g2 z a b .ellipsis:=s2 _ _ D.z1.symm z1'
  have ne:e≠z:=λc=>by rw [c,z2'] at e1; cases e1; simp at e2
  exact wpAny_setField_rec z2' (by simp) λg3 _ s3=>q g3 e (λc o c1 _ c3 _ h=>s3.extBut _ _ c1 (s2 _ _ c3 (s1.extBut _ _ c1 h))) ⟨oe,s3.extBut _ _ ne e1,e2⟩
 | some x =>
  have hy:ys[k]? = none:=hend.resolve_left (by rw [hx]; simp)
  refine fh (n1.extBut s1.extBut D.z1) (h1.extBut s1.extBut D.tz.1) hx λg2 m1 s2=>wpAny_pure ?_
  have to2:IsPair g2 b u v:=s2.extBut _ _ D.b1 (s1.extBut _ _ D.bz hto)
  refine wpAny_bind (wpAny_seqItems to2 rfl (wpAny_bind (wpAny_updateSeq_pair to2 λg3 to3 s3=>wpAny_bind (wpAny_letGo (wpAny_pure ?_)))))
  refine wpAny_bind (wpAny_bind (wpAny_onRaise (wpAny_bind (m:=Builtin.SmallTypes.nextOf (.ref i2)) (jL hh (((n2.extBut s1.extBut D.z2).extBut s2.extBut D.d12.symm).extBut s3.extBut D.b2.symm)
   (((h2.extBut s1.extBut D.tz.2).extBut s2.extBut D.t1n.2).extBut s3.extBut D.tb.2) hy λg4 e s4 he=>?_))))
  obtain ⟨oe,e1,e2⟩:=he
  have z4':IsZip g4 z a b .ellipsis:=s4 _ _ D.z2.symm (s3.extBut _ _ D.bz.symm (s2.extBut _ _ D.z1.symm z1'))
  have ne:e≠z:=λc=>by rw [c,z4'] at e1; cases e1; simp at e2
  exact wpAny_setField_rec z4' (by simp) λg5 _ s5=>q g5 e (λc o c1 c2 c3 c4 h=>s5.extBut _ _ c1 (s4 _ _ c4 (s3.extBut _ _ c2 (s2.extBut _ _ c3 (s1.extBut _ _ c1 h))))) ⟨oe,s5.extBut _ _ ne e1,e2⟩
theorem nT {z a b i1 i2 t1 t2:Addr} {k:Nat} {xs ys:Array Value} {x y:Value} {Q:Option Value→Shared→Prop} (D:Apart z a b i1 i2 t1 t2) (R:Rec s.heap z a b i1 i2 t1 t2 .none k) (h1:s.heap.IsTuple t1 xs) (h2:s.heap.IsTuple t2 ys)
  (hx:xs[k]? = some x) (hy:ys[k]? = some y)
  (q:∀ g,Rec g z a b i1 i2 t1 t2 (rawInt s.heap.objs.size) (k+1)→IsPair g s.heap.objs.size x y→(∀ c o,c≠z→c≠b→c≠i1→c≠i2→s.heap.get? c=some o→g.get? c=some o)→Q (some (.ref s.heap.objs.size)) { s with heap:=g }) :
  wpAny (model prog w) A (pyNext (.ref z)) Q E s:=by
 have hT:s.TypeIs (.ref z) "zip":=⟨_,R.zz,rfl⟩
 unfold pyNext
 exact wpAny_bind (wpAny_attempt (wpAny_callSpecial?_slot (name:=Str.ofString "__next__") hT F.slot_zip_next (wpAny_call_entry F.slot_zip_next hT F.entry_zip_next (qg D R h1 h2 hx hy λg r n k=>wpAny_pure (q g r n k)) (F.args_zip_next_1 _))))
theorem qh {z a b i1 i2 t1 t2:Addr} {k:Nat} {xs ys:Array Value} {Q:Option Value→Shared→Prop} (hh:A.handled=none) (D:Apart z a b i1 i2 t1 t2) (R:Rec s.heap z a b i1 i2 t1 t2 .none k) (h1:s.heap.IsTuple t1 xs) (h2:s.heap.IsTuple t2 ys)
  (hend:xs[k]? = none∨ys[k]? = none) (q:∀ g,(∀ c o,c≠z→c≠b→c≠i1→c≠i2→s.heap.get? c=some o→g.get? c=some o)→Q none { s with heap:=g }):wpAny (model prog w) A (pyNext (.ref z)) Q E s:=by
 have hT:s.TypeIs (.ref z) "zip":=⟨_,R.zz,rfl⟩
 unfold pyNext
 refine wpAny_bind (wpAny_attempt (wpAny_callSpecial?_slot (name:=Str.ofString "__next__") hT F.slot_zip_next (wpAny_call_entry F.slot_zip_next hT F.entry_zip_next (rW hh D R h1 h2 hend λg e k he=>?_) (F.args_zip_next_1 _))))
 obtain ⟨o,e1,e2⟩:=he
 exact wpAny_bind (wpAny_isInstance (T:="StopIteration") (b:=true) ⟨o,e1,e2⟩ isSubtype_stop (wpAny_pure (q g k)))
noncomputable def made (h:Heap) (t1 t2:Addr):Heap :=
 ((((h.push { cls:=.type "tuple_iterator",data:=.fields #[.ref t1,.int 0 0] }).push { cls:=.type "tuple_iterator",data:=.fields #[.ref t2,.int 0 0] }).push { cls:=.type "tuple",data:=.seq #[.ref h.objs.size,.ref (h.objs.size+1)] }).push
  { cls:=.type "tuple",data:=.seq #[.none,.none] }).push { cls:=.type "zip",data:=.fields #[.none,.bool false,.bool false,.ref (h.objs.size+2),.ref (h.objs.size+3)] }
theorem uh (t1 t2:Addr) (xs ys:Array Value):Meets (Builtin.«zip.__new__» ⟨[.type "zip",.ref t1,.ref t2],[]⟩) (λ_ R s=>s.heap.IsTuple t1 xs∧s.heap.IsTuple t2 ys∧R (.ok (.ret (.ref (s.heap.objs.size+4)))) { s with heap:=made s.heap t1 t2 }) :=
 .of_wp λprog w A R s h=>by
  obtain ⟨hp,g,d,tk,os⟩:=s
  obtain ⟨k1,k2,h⟩:=h
  have hsub:=sub_zip
  have u1:Heap.IsTuple (Shared.heap ⟨hp,g,d,tk,os⟩) t1 xs:=k1
  have u2:Heap.IsTuple (Shared.heap ⟨hp.push { cls:=.type "tuple_iterator",data:=.fields #[.ref t1,.int 0 0] },g,d,tk,os⟩) t2 ys:=Heap.IsTuple.push k2 _
  wp_walk using wpAny_pyIter_tuple u1,wpAny_pyIter_tuple u2
  refine ⟨_,rfl,?_⟩
  unfold made at h
  simp only [Heap.size_push]
  exact h
theorem rX {t1 t2:Addr} {xs ys:Array Value} {Q:Value→Shared→Prop} (h1:s.heap.IsTuple t1 xs) (h2:s.heap.IsTuple t2 ys)
  (q:Q (.ref (s.heap.objs.size+4)) { s with heap:=made s.heap t1 t2 }):wpAny (model prog w) A (call (.type "zip") [.ref t1,.ref t2]) Q E s:=by
 refine callType_new F.called_zip (by decide) (F.typeCall_zip_2 _ _) (F.newCall_zip_2 _ _) (λobj=>F.args_object_init_3 obj _ _) F.entry_zip_new (uh t1 t2 xs ys) ⟨h1,h2,?_⟩
 have e:(made s.heap t1 t2).get? (s.heap.objs.size+4)=some { cls:=.type "zip",data:=.fields #[.none,.bool false,.bool false,.ref (s.heap.objs.size+2),.ref (s.heap.objs.size+3)] }:=by
  unfold made
  have:=Heap.get?_push_size ((((s.heap.push { cls:=.type "tuple_iterator",data:=.fields #[.ref t1,.int 0 0] }).push { cls:=.type "tuple_iterator",data:=.fields #[.ref t2,.int 0 0] }).push { cls:=.type "tuple",data:=.seq #[.ref s.heap.objs.size,.ref (s.heap.objs.size+1)] }).push { cls:=.type "tuple",data:=.seq #[.none,.none] })
   (o:={ cls:=.type "zip",data:=.fields #[.none,.bool false,.bool false,.ref (s.heap.objs.size+2),.ref (s.heap.objs.size+3)] }) rfl
  simpa only [Heap.size_push] using this
 exact ⟨⟨_,e,rfl⟩,q⟩
end
end ZT
namespace L2
open PySem PySem.Spec PyProof.Rows
section
variable {X:Cx} {tg:Expr}
noncomputable def Itz (K:PySem.W.Frag) (t1 t2:Addr):It :=
 ⟨λi H=>∃ xs ys x y,SqT K H t1 xs∧SqT K H t2 ys∧xs[i]? = some x∧ys[i]? = some y,λi H v H'=>∃ p x y,H p=none∧v = .ref p∧(∀ xs,SqT K H t1 xs→xs[i]? = some x)∧(∀ ys,SqT K H t2 ys→ys[i]? = some y)∧H'=upd H p (.tup [x,y]),
  λi H=>∃ xs ys,SqT K H t1 xs∧SqT K H t2 ys∧(xs.length≤i∨ys.length≤i)⟩
theorem rY {P:Program} {w:World} {K:PySem.W.Frag} {es:List Expr} {k:Nat} {p0:Pos} (z a b i1 i2 t1 t2:Addr) (D:ZT.Apart z a b i1 i2 t1 t2) :
  Turn P w K (.Tuple es k p0) (Itz K t1 t2) [z,a,b,i1,i2] z (λi h=>ZT.Rec h z a b i1 i2 t1 t2 .none i) where
 mem:=by simp
 obj:=λi h R c hc=>by
  obtain ⟨z1,z2,⟨u,v,z3⟩,⟨o4,z4,_,z4'⟩,⟨o5,z5,_,z5'⟩⟩:=R
  simp only [List.mem_cons,List.not_mem_nil,or_false] at hc
  rcases hc with rfl | rfl | rfl | rfl | rfl
  ·exact ⟨_,z1,λv z=>nomatch z⟩
  ·exact ⟨_,z2,λv z=>nomatch z⟩
  ·exact ⟨_,z3,λv z=>nomatch z⟩
  ·exact ⟨_,z4,λv z=>by rw [z4'] at z; cases z⟩
  ·exact ⟨_,z5,λv z=>by rw [z5'] at z; cases z⟩
 keep:=λi h h' R kp=>by
  obtain ⟨z1,z2,⟨u,v,z3⟩,⟨o4,z4,r4⟩,⟨o5,z5,r5⟩⟩:=R
  exact ⟨kp _ (by simp) _ z1,kp _ (by simp) _ z2,⟨u,v,kp _ (by simp) _ z3⟩,⟨o4,kp _ (by simp) _ z4,r4⟩,⟨o5,kp _ (by simp) _ z5,r5⟩⟩
 item:=by
  intro X hP hw hK hc i pins s σ H E I hf st hg
  subst hP hw hK
  obtain ⟨xs,ys,x,y,hq1,hq2,hx,hy⟩:=hg
  obtain ⟨its1,rv1,k1,_⟩:=I.tuple hq1
  obtain ⟨its2,rv2,k2,_⟩:=I.tuple hq2
  obtain ⟨u1,hu1,ru1⟩:=rv1.get hx
  obtain ⟨u2,hu2,ru2⟩:=rv2.get hy
  refine ZT.nT D st k1 k2 (x:=u1) (y:=u2) (by simpa using hu1) (by simpa using hu2) λg R' new kp=>⟨_,rfl,?_⟩
  refine wpAny_letOwnedTupleGo_zip R'.zz λg' z' sb=>?_
  have nz:s.heap.objs.size≠z:=Nat.ne_of_gt (Heap.lt_size st.zz)
  have kp':∀ c o,c≠z→c≠b→c≠i1→c≠i2→s.heap.get? c=some o→g'.get? c=some o:=λc o c1 c2 c3 c4 e=>(sb.2 c c1).trans (kp c o c1 c2 c3 c4 e)
  have kpO:∀ c o,c∉[z,a,b,i1,i2]→s.heap.get? c=some o→g'.get? c=some o:=λc o hn e=>kp' c o (λq=>hn (by simp [q])) (λq=>hn (by simp [q])) (λq=>hn (by simp [q])) (λq=>hn (by simp [q])) e
  have hnot:∀ c o,H c=some o→c∉[z,a,b,i1,i2]:=λc o e hm=>by rw [(hf c hm).1] at e; cases e
  have nsz:∀ c o,s.heap.get? c=some o→c≠s.heap.objs.size:=λc o e=>Nat.ne_of_lt (Heap.lt_size e)
  have trk:∀ c o,H c=some o→c≠s.heap.objs.size:=λc o e=>Nat.ne_of_lt (I.hok.lt e)
  have new':g'.get? s.heap.objs.size=some { cls:=.type "tuple",data:=.seq #[u1,u2] }:=(sb.2 _ nz).trans new
  have R2:ZT.Rec g' z a b i1 i2 t1 t2 .none (i+1):=by
   obtain ⟨_,z2,⟨u,v,z3⟩,⟨o4,z4,r4⟩,⟨o5,z5,r5⟩⟩:=R'
   exact ⟨z',(sb.2 _ D.az).trans z2,⟨u,v,(sb.2 _ D.bz).trans z3⟩,⟨o4,(sb.2 _ D.z1).trans z4,r4⟩,⟨o5,(sb.2 _ D.z2).trans z5,r5⟩⟩
  have okH:HOk X.prog X.w (upd H s.heap.objs.size (.tup [x,y])) g':=λc o e=>by
   by_cases ec:c=s.heap.objs.size
   ·subst ec
    rw [ac] at e
    cases e
    exact ⟨by show 2≤sizeLine; rw [sizeLine_eq]; decide,[u1,u2],.cons ru1 (.cons ru2 .nil),⟨_,new',rfl,0,rfl⟩⟩
   ·rw [aj ec] at e
    refine (I.hok c o e).stay (λd v hd q=>kpO d v ?_ q) (λd q=>by rw [aj (trk d _ q)]; exact q) λd zs q=>by rw [aj (trk d _ q)]; exact q
    rcases hd with rfl | hd
    ·exact hnot _ _ e
    ·exact hnot _ _ hd
  have I2:Inv X pins σ (upd H s.heap.objs.size (.tup [x,y])) { s with heap:=g' }:=by
   refine I.step (g':=s.gens) (t':=s.toks) (d':=s.drawn) (ch:=[z,a,b,i1,i2]) (λc hc'=>?_) (λc o _ _ hn e _=>kpO c o hn e) (λc o _ _ hn e _=>⟨o.slots,kpO c o hn e⟩) (λc o _ e n=>by rw [aj (nsz c o e)]; exact n) (λc o hn e=>⟨o,kpO c o hn e⟩)
    (λc zs q=>by rw [aj (trk c _ q)]; exact q) (λc o u q=>by rw [aj (trk c _ q)]; exact q) (λc ps q=>⟨#[],by rw [aj (trk c _ q),q]; simp⟩) (λm hm=>?_) okH I.bare
   ·obtain ⟨f0,f1,f2,f3,f4,f5⟩:=hf c hc'
    exact ⟨f3,f1,f4,f5⟩
   ·obtain ⟨o,es',ep,ho,r⟩:=hm
    exact ⟨o,es',ep,kpO _ o (λhm'=>(hf _ hm').2.1 rfl) ho,r⟩
  refine ⟨.ref s.heap.objs.size,_,I2,rfl,⟨s.heap.objs.size,x,y,I.hok.fresh (Nat.le_refl _),rfl,λzs hz=>?_,λzs hz=>?_,rfl⟩,R2,λc hc'=>?_⟩
  ·rw [I.tuple_inj hz hq1]; exact hx
  ·rw [I.tuple_inj hz hq2]; exact hy
  ·obtain ⟨o,e,_⟩:∃ o,s.heap.get? c=some o∧True:=by
    obtain ⟨z1,z2,⟨u,v,z3⟩,⟨o4,z4,_⟩,⟨o5,z5,_⟩⟩:=st
    simp only [List.mem_cons,List.not_mem_nil,or_false] at hc'
    rcases hc' with rfl | rfl | rfl | rfl | rfl
    ·exact ⟨_,z1,trivial⟩
    ·exact ⟨_,z2,trivial⟩
    ·exact ⟨_,z3,trivial⟩
    ·exact ⟨_,z4,trivial⟩
    ·exact ⟨_,z5,trivial⟩
   rw [aj (nsz c o e)]
   exact (hf c hc').1
 done:=by
  intro X hP hw hK hc i pins s σ H E I hf st hg
  subst hP hw hK
  obtain ⟨xs,ys,hq1,hq2,hle⟩:=hg
  obtain ⟨its1,rv1,k1,_⟩:=I.tuple hq1
  obtain ⟨its2,rv2,k2,_⟩:=I.tuple hq2
  have e1:=rv1.length
  have e2:=rv2.length
  refine ZT.qh (I.ok.hd hc) D st k1 k2 (by rcases hle with h | h; left; simp; omega; right; simp; omega) λg kp=>⟨rfl,?_⟩
  have kpO:∀ c o,c∉[z,a,b,i1,i2]→s.heap.get? c=some o→g.get? c=some o:=λc o hn e=>kp c o (λq=>hn (by simp [q])) (λq=>hn (by simp [q])) (λq=>hn (by simp [q])) (λq=>hn (by simp [q])) e
  have hnot:∀ c o,H c=some o→c∉[z,a,b,i1,i2]:=λc o e hm=>by rw [(hf c hm).1] at e; cases e
  refine I.step (g':=s.gens) (t':=s.toks) (d':=s.drawn) (ch:=[z,a,b,i1,i2]) (λc hc'=>?_) (λc o _ _ hn e _=>kpO c o hn e) (λc o _ _ hn e _=>⟨o.slots,kpO c o hn e⟩) (λc o _ e n=>n) (λc o hn e=>⟨o,kpO c o hn e⟩)
   (λc zs q=>q) (λc o u q=>q) (λc ps q=>⟨#[],by rw [q]; simp⟩) (λm hm=>?_) (λc o e=>?_) I.bare
  ·obtain ⟨f0,f1,f2,f3,f4,f5⟩:=hf c hc'
   exact ⟨f3,f1,f4,f5⟩
  ·obtain ⟨o,es',ep,ho,r⟩:=hm
   exact ⟨o,es',ep,kpO _ o (λhm'=>(hf _ hm').2.1 rfl) ho,r⟩
  ·refine (I.hok c o e).stay (λd v hd q=>kpO d v ?_ q) (λd q=>q) λd zs q=>q
   rcases hd with rfl | hd
   ·exact hnot _ _ e
   ·exact hnot _ _ hd
 self:=λA i s Q E st hq=>wpAny_pyIter_zip st.zz hq
theorem wq {es:List Expr} {k:Nat} {p0:Pos} {a b:Expr} {ta:TA} {p pos:Pos} (hg:Gl X "zip") (hm:X.mg "zip" = none) (ha:PA X [a,b] ta) (hs:starEach [a,b] X.env=[(false,eval a X.env),(false,eval b X.env)]:=by rfl) (hs2:starEach [b] X.env=[(false,eval b X.env)]:=by rfl) :
  PI X (.Tuple es k p0) (.Call (.Name "zip" p) [a,b] [] pos) (λσ H R=>ta σ H λvs H1=>∃ t1 t2 xs ys,vs=[.ref t1,.ref t2]∧H1 t1=some (.tup xs)∧H1 t2=some (.tup ys)∧R (Itz X.K t1 t2) H1):=by
 intro pins s σ H R I h
 refine Call_ (ik I hg hm boot_zip (PyProof.Rows.callWith_type1 (thn (ha pos pins s σ H _ I h) λus s1 ⟨vs,H1,I1,r1,q1⟩=>?_) (by rw [hs,hs2]) (by rw [hs2]; rfl)))
 obtain ⟨t1,t2,xs,ys,e,ht1,ht2,q⟩:=q1
 subst e
 obtain ⟨u1,u2,rfl,ru1,ru2⟩:=re r1
 cases ru1
 cases ru2
 obtain ⟨its1,rv1,k1,hz1⟩:=I1.tuple (SqT.of ht1)
 obtain ⟨its2,rv2,k2,hz2⟩:=I1.tuple (SqT.of ht2)
 refine ZT.rX k1 k2 ?_
 generalize hn:s1.heap.objs.size=n
 have keep:∀ c o,s1.heap.get? c=some o→(ZT.made s1.heap t1 t2).get? c=some o:=λc o e=>by
  unfold ZT.made
  exact Heap.get?_push_of_some _ (Heap.get?_push_of_some _ (Heap.get?_push_of_some _ (Heap.get?_push_of_some _ (Heap.get?_push_of_some _ e))))
 have rec0:ZT.Rec (ZT.made s1.heap t1 t2) (n+4) (n+2) (n+3) n (n+1) t1 t2 .none 0:=by
  subst hn
  unfold ZT.made
  refine ⟨?_,?_,⟨.none,.none,?_⟩,⟨{ cls:=.type "tuple_iterator",data:=.fields #[.ref t1,.int 0 0] },?_,rfl,rfl⟩,⟨{ cls:=.type "tuple_iterator",data:=.fields #[.ref t2,.int 0 0] },?_,rfl,rfl⟩⟩
  ·have:=Heap.get?_push_size ((((s1.heap.push { cls:=.type "tuple_iterator",data:=.fields #[.ref t1,.int 0 0] }).push { cls:=.type "tuple_iterator",data:=.fields #[.ref t2,.int 0 0] }).push { cls:=.type "tuple",data:=.seq #[.ref s1.heap.objs.size,.ref (s1.heap.objs.size+1)] }).push { cls:=.type "tuple",data:=.seq #[.none,.none] })
    (o:={ cls:=.type "zip",data:=.fields #[.none,.bool false,.bool false,.ref (s1.heap.objs.size+2),.ref (s1.heap.objs.size+3)] }) rfl
   simpa only [Heap.size_push] using this
  ·refine Heap.get?_push_of_some _ (Heap.get?_push_of_some _ ?_)
   have:=Heap.get?_push_size ((s1.heap.push { cls:=.type "tuple_iterator",data:=.fields #[.ref t1,.int 0 0] }).push { cls:=.type "tuple_iterator",data:=.fields #[.ref t2,.int 0 0] }) (o:={ cls:=.type "tuple",data:=.seq #[.ref s1.heap.objs.size,.ref (s1.heap.objs.size+1)] }) rfl
   simpa only [Heap.size_push] using this
  ·refine Heap.get?_push_of_some _ ?_
   have:=Heap.get?_push_size (((s1.heap.push { cls:=.type "tuple_iterator",data:=.fields #[.ref t1,.int 0 0] }).push { cls:=.type "tuple_iterator",data:=.fields #[.ref t2,.int 0 0] }).push { cls:=.type "tuple",data:=.seq #[.ref s1.heap.objs.size,.ref (s1.heap.objs.size+1)] }) (o:={ cls:=.type "tuple",data:=.seq #[.none,.none] }) rfl
   simpa only [Heap.size_push] using this
  ·exact Heap.get?_push_of_some _ (Heap.get?_push_of_some _ (Heap.get?_push_of_some _ (Heap.get?_push_of_some _ (Heap.get?_push_size _ rfl))))
  ·refine Heap.get?_push_of_some _ (Heap.get?_push_of_some _ (Heap.get?_push_of_some _ ?_))
   have:=Heap.get?_push_size (s1.heap.push { cls:=.type "tuple_iterator",data:=.fields #[.ref t1,.int 0 0] }) (o:={ cls:=.type "tuple_iterator",data:=.fields #[.ref t2,.int 0 0] }) rfl
   simpa only [Heap.size_push] using this
 have l1:t1<n:=by rw [← hn]; exact I1.hok.lt ht1
 have l2:t2<n:=by rw [← hn]; exact I1.hok.lt ht2
 have D:=ZT.rV n t1 t2 l1 l2
 refine wpAny_pyIter_zip rec0.zz ?_
 refine ⟨n+4,[n+4,n+2,n+3,n,n+1],_,Itz X.K t1 t2,H1,rfl,I1.kept (t':=s1.toks) keep,rY _ _ _ _ _ _ _ D,rec0,λc hc=>?_,q⟩
 have hle:s1.heap.objs.size≤c:=by
  rw [hn]
  simp only [List.mem_cons,List.not_mem_nil,or_false] at hc
  rcases hc with rfl | rfl | rfl | rfl | rfl
  ·exact Nat.le_add_right _ _
  ·exact Nat.le_add_right _ _
  ·exact Nat.le_add_right _ _
  ·exact Nat.le_refl _
  ·exact Nat.le_add_right _ _
 exact I1.fpOk hle (I1.hok.fresh hle)
end
section
variable {X:Cx}
noncomputable abbrev gY:=Addr×Int×List V
noncomputable def eX (zs:List gY) (i:Nat):Int:=(zs.getD i (0,0,[])).2.1
theorem rZ {zs:List gY} (h:(zs.map (·.2.1)).Nodup):SRT.Ord (λi j=>decide (eX zs i<eX zs j)) zs.length:=by
 refine ⟨λi _=>by simp,λi j k _ _ _ h1 h2=>?_,λi j hi hj hij=>?_⟩
 ·simp only [decide_eq_true_eq] at *; omega
 ·simp only [decide_eq_true_eq]
  have:eX zs i≠eX zs j:=by
   unfold eX
   rw [List.getD_eq_getElem?_getD,List.getD_eq_getElem?_getD,List.getElem?_eq_getElem hi,List.getElem?_eq_getElem hj]
   intro e
   have e':(zs.map (·.2.1))[i]'(by simpa using hi)=(zs.map (·.2.1))[j]'(by simpa using hj):=by simpa using e
   exact hij ((List.getElem_inj h).mp e')
  omega
theorem mw {prog:Program} {w:World} {A:Around} {s:Shared} {b:Bool} {Q:Bool→Shared→Prop} (h:Q false s):∀ (l:List Value) (i:Nat),PySem.W.KatLex prog w A b false Q (l.zip l) i s
 | [],i=>h
 | v :: l,i=>PySem.W.kat_cons (SeqAt.EqAt.same v prog w _ _ (PySem.W.kat_yes (mw h l (i+1))))
theorem dj:cA X (.builtin "sorted") (λxs H Q=>∃ l,∃ zs:List gY,xs=[.ref l]∧(SqL X.K H l ((zs.map (·.1)).map V.ref)∨SqT X.K H l ((zs.map (·.1)).map V.ref))∧(∀ z∈zs,H z.1=some (.tup (.int z.2.1 :: z.2.2)))∧(zs.map (·.2.1)).Nodup∧zs.length<64 ∧
  ∀ zs':List gY,zs'.Perm zs→zs'.Pairwise (λa b=>a.2.1<b.2.1)→∀ p,H p=none→Q (.ref p) (upd H p (.lst ((zs'.map (·.1)).map V.ref)))):=by
 intro pins s σ H xs us Q I r h
 obtain ⟨l,zs,rfl,hq,hk,hnd,h64,q⟩:=h
 obtain ⟨u,rfl,ru⟩:=dW r
 cases ru
 obtain ⟨its,rv,pl⟩:∃ its,aE ((zs.map (·.1)).map V.ref) its∧(s.heap.IsList l its.toArray∨IsTup s.heap l its.toArray):=by
  rcases hq with hq | hq
  ·obtain ⟨its,rv,pl,hz⟩:=I.list hq
   exact ⟨its,rv,.inl pl.isList⟩
  ·obtain ⟨its,rv,pl,hz⟩:=I.tuple hq
   exact ⟨its,rv,.inr pl⟩
 have e:=cW rv
 subst e
 have hlen:((zs.map (·.1)).map Value.ref).length=zs.length:=by simp
 have hobj:∀ z∈zs,∃ o its n t,s.heap.get? z.1=some o∧o.cls = .type "tuple"∧o.data = .seq its n∧its.toList = .int z.2.1 t :: its.toList.drop 1:=λz hz'=>by
  obtain ⟨_,its,rr,o,e1,e2,n,e3⟩:=I.hok z.1 _ (hk z hz')
  cases rr with
  | cons r1 r2 =>
   obtain ⟨t,rfl⟩:=r1
   exact ⟨o,_,n,t,e1,e2,e3,by simp⟩
 have hget:∀ i,i<zs.length→((zs.map (·.1)).map Value.ref).getD i Value.none = .ref (zs.getD i (0,0,[])).1∧zs.getD i (0,0,[])∈zs:=λi hi=>by
  rw [List.getD_eq_getElem?_getD,List.getD_eq_getElem?_getD,List.getElem?_map,List.getElem?_map,List.getElem?_eq_getElem hi]
  exact ⟨rfl,List.getElem_mem hi⟩
 refine SRT.nP (κ:=tuples' true) (f:=λi j=>decide (eX zs i<eX zs j)) (by rw [hlen]; exact rZ hnd) pl (by rw [hlen]; exact h64) ?kind ?less ?fin
 case kind =>
  intro A' s' _ kp Q' h2 hQ'
  have key:∀ ys:List gY,(∀ z∈ys,z∈zs)→∃ fs:List Value,PySem.W.KatTups s'.heap ((ys.map (·.1)).map Value.ref) fs∧fs.length=ys.length∧∀ v∈fs,∃ i t,v=Value.int i t:=by
   intro ys
   induction ys with
   | nil=>intro _; exact ⟨[],PySem.W.KatTups.nil,rfl,λv hv=>by simp at hv⟩
   | cons z ys ih =>
    intro hm
    obtain ⟨fs,h1,h2',h3⟩:=ih λy hy=>hm y (by simp [hy])
    obtain ⟨o,its,n,t,e1,e2,e3,e4⟩:=hobj z (hm z (by simp))
    refine ⟨.int z.2.1 t :: fs,PySem.W.KatTups.cons (kp _ _ e1) e2 e3 ?_ h1,by simp [h2'],λv hv=>?_⟩
    ·rw [← Array.getElem?_toList,e4]; rfl
    ·rcases List.mem_cons.mp hv with rfl | hv
     ·exact ⟨_,_,rfl⟩
     ·exact h3 v hv
  obtain ⟨fs,h1,h2',h3⟩:=key zs λz hz'=>hz'
  refine PySem.W.kat_kind (T:=.type "int") h1 (by rw [h2']; rw [hlen] at h2; omega) (λv hv=>?_) (by rfl) hQ'
  obtain ⟨i,t,rfl⟩:=h3 v hv
  exact .now
 case less =>
  intro A' s' _ kp i j C hi hj hC
  rw [hlen] at hi hj
  obtain ⟨gi,mi⟩:=hget i hi
  obtain ⟨gj,mj⟩:=hget j hj
  rw [gi,gj]
  obtain ⟨oi,ii,ni,ti,a1,a2,a3,a4⟩:=hobj _ mi
  obtain ⟨oj,ij,nj,tj,b1,b2,b3,b4⟩:=hobj _ mj
  refine PySem.W.kat_lt (kp _ _ a1) a3 (kp _ _ b1) b3 ?_
  by_cases hij:i=j
  ·subst hij
   rw [a1] at b1
   cases b1
   rw [a3] at b3
   cases b3
   have:C false s':=by simpa using hC
   have e2:decide (ii.size<ii.size)=false:=by simp
   rw [e2]
   exact mw this _ _
  ·have hne:eX zs i≠eX zs j:=by
    rcases (rZ hnd).tot i j hi hj hij with h1 | h1 <;> simp only [decide_eq_true_eq] at h1 <;> omega
   rw [a4,b4]
   refine PySem.W.kat_cons (wpAny_eqBool_int ?_)
   have e2:((zs.getD i (0,0,[])).2.1 == (zs.getD j (0,0,[])).2.1)=false:=beq_eq_false_iff_ne.mpr hne
   rw [e2]
   refine PySem.W.kat_no ?_
   exact PySem.W.kat_lt_int hC
 case fin =>
  intro p h' hrow hup kp _ hg
  obtain ⟨c,hg⟩:=hg
  rw [hlen] at hrow hup
  obtain ⟨zs',hzs'⟩:∃ zs',zs'=p.toList.map λi=>zs.getD i (0,0,[]):=⟨_,rfl⟩
  have hperm:zs'.Perm zs:=by
   rw [hzs']
   refine (hrow.perm.map _).trans ?_
   have:(List.range zs.length).map (λi=>zs.getD i (0,0,[]))=zs:=by
    apply List.ext_getElem?
    intro i
    rw [List.getElem?_map]
    by_cases hi:i<zs.length
    ·rw [List.getElem?_range hi,List.getElem?_eq_getElem hi]
     show some (zs.getD i (0,0,[]))=_
     rw [List.getD_eq_getElem?_getD,List.getElem?_eq_getElem hi]; rfl
    ·rw [List.getElem?_eq_none (by rw [List.length_range]; omega),List.getElem?_eq_none (by omega)]; rfl
   rw [this]
  have hpl:p.size=zs.length:=hrow.size
  have hpw:zs'.Pairwise (λa b=>a.2.1<b.2.1):=by
   rw [List.pairwise_iff_getElem]
   intro i j hi hj hij
   have hi':i<p.size:=by rw [hzs',List.length_map,Array.length_toList] at hi; exact hi
   have hj':j<p.size:=by rw [hzs',List.length_map,Array.length_toList] at hj; exact hj
   have:=hup i j hij (by omega)
   simp only [decide_eq_true_eq,eX] at this
   rw [Array.getD_eq_getD_getElem?,Array.getD_eq_getD_getElem?,Array.getElem?_eq_getElem hi',Array.getElem?_eq_getElem hj'] at this
   simpa [hzs'] using this
  have hout:(List.toArray (p.toList.map λi=>((zs.map (·.1)).map Value.ref).getD i Value.none))=((zs'.map (·.1)).map Value.ref).toArray:=by
   congr 1
   rw [hzs']
   simp only [List.map_map]
   apply List.map_congr_left
   intro i hi
   have hi':i<zs.length:=List.mem_range.mp (hrow.perm.mem_iff.mp hi)
   have:=(hget i hi').1
   simp only [List.map_map] at this
   exact this
  rw [hout] at hg
  have hv:aE ((zs'.map (·.1)).map V.ref) ((zs'.map (·.1)).map Value.ref):=by
   generalize zs'.map (·.1)=as
   induction as with
   | nil=>exact .nil
   | cons a as ih=>exact .cons rfl ih
  refine ⟨.ref (s.heap.objs.size+1),_,I.laid (t':=s.toks) (o:=.lst ((zs'.map (·.1)).map V.ref)) kp (Nat.le_succ _) ⟨?_,_,c,hv,hg⟩,rfl,q zs' hperm hpw _ (I.hok.fresh (Nat.le_succ _))⟩
  rw [List.length_map,List.length_map,hperm.length_eq,sizeLine_eq]; omega
theorem gG:cA X (.builtin "sorted") (λxs H Q=>∃ l,∃ zs:List gY,xs=[.ref l]∧SqL X.K H l ((zs.map (·.1)).map V.ref)∧(∀ z∈zs,H z.1=some (.tup (.int z.2.1 :: z.2.2)))∧(zs.map (·.2.1)).Nodup∧zs.length<64 ∧
  ∀ zs':List gY,zs'.Perm zs→zs'.Pairwise (λa b=>a.2.1<b.2.1)→∀ p,H p=none→Q (.ref p) (upd H p (.lst ((zs'.map (·.1)).map V.ref)))) :=
 λpins s σ H xs us Q I r ⟨l,zs,e,hq,h⟩=>dj pins s σ H xs us Q I r ⟨l,zs,e,.inl hq,h⟩
end
theorem lh {scope:Scope} {env:Env} (h:∀ y∈scope.names,y.2 ≠ .free):relabel scope env=scope:=by
 unfold relabel
 rw [map_eq_self (l:=scope.names) (λx hx=>by
  obtain ⟨n,k⟩:=x
  have:(k == NameKind.free)=false:=by simpa using h _ hx
  simp [this])]
theorem cN {X:Cx} {scope:Scope} (hk:scope.kind = .function) (hf:∀ y∈scope.names,y.2 ≠ .free) (hc:∀ y∈scope.names,y.2 ≠ .cell) (hn:∀ x∈scope.names,x.2 = .local→scope.names.lookup x.1=some .local):LcOk X scope [] :=
 ⟨hk,closureFor_none hf,hn,hc,λx c h=>by simp at h,λx h=>by
  rw [lh hf] at h
  rcases h with h | h
  ·exact absurd rfl (hc _ (PySem.mem_of_lookup h))
  ·exact absurd rfl (hf _ (PySem.mem_of_lookup h))⟩
theorem my {k:Nat} {js:List Nat} {J:It} {g:TG} {te:TE} {σ:St} {H1:Hp} {Q:VK} {p:Addr} (n:Nat) (hn:n≤1000) (Pv:Nat→List V→St→Hp→Prop) (h0:Pv 0 [] (cS k js σ) (upd H1 p (.lst [])))
  (hy:∀ i ys σ' H',Pv i ys σ' H'→ys.length≤i) (go:∀ i ys σ' H',i<n→Pv i ys σ' H'→J.go i H') (stop:∀ ys σ' H',Pv n ys σ' H'→J.stop n H'∧Q (.ref p) H')
  (step:∀ i ys σ' H',i<n→Pv i ys σ' H'→∀ x H2,J.yld i H' x H2→g x σ' H2 λσ2 H3=>te σ2 H3 λy H4=>H4 p=some (.lst ys)∧Pv (i+1) (ys++[y]) σ2 (upd H4 p (.lst (ys++[y]))))
  (mg:∀ x σ H (Q Q':St→Hp→Prop),(∀ σ H,Q σ H→Q' σ H)→g x σ H Q→g x σ H Q') (me:∀ σ H (Q Q':VK),(∀ y H,Q y H→Q' y H)→te σ H Q→te σ H Q') :
  LcW k js g te σ Q J H1 p:=by
 refine ⟨λi m ys σ' H'=>m=n - i∧i≤n∧Pv i ys σ' H',⟨n,by simp,Nat.zero_le _,h0⟩,?_⟩
 rintro i m ys σ' H' ⟨rfl,hi,hp⟩
 by_cases hlt:i<n
 ·refine .inr ⟨go i ys σ' H' hlt hp,?_,λx H2 y=>?_⟩
  ·have:=hy i ys σ' H' hp
   exact Nat.lt_of_le_of_lt this (aS (by omega))
  ·refine mg _ _ _ _ _ (λσ2 H3 h3=>me _ _ _ _ (λz H4 h4=>⟨h4.1,n - (i+1),by omega,rfl,hlt,h4.2⟩) h3) (step i ys σ' H' hlt hp x H2 y)
 ·have e:i=n:=by omega
  subst e
  exact .inl (stop ys σ' H' hp)
theorem af {H:Hp} {p:Addr} {o:HO} (h:H p=none):Same H (upd H p o):=λb u e=>by rw [aj (ce e h)]; exact e
theorem bp {H:Hp} {p a:Addr} {o u:HO} (h:H p=none) (e:H a=some u):upd H p o a=some u:=by rw [aj (ce e h)]; exact e
theorem aM {H0 H:Hp} {p:Addr} {o:HO} (h0:H0 p=none) (s:Same H0 H):Same H0 (upd H p o):=λb u e=>by
 rw [aj (ce e h0)]
 exact s b u e
structure Fly (P:Program) (w:World) (outer:List Env) (H:Hp) (s:Shared) (H':Hp) (ea C:Addr) (s':Shared):Prop where
 os:s'.os=s.os
 bare:AllBare s'.gens
 un:Un (frs outer) [] H H' s.heap s'.heap
 new:H' ea=none
 fly:∃ B a0,Heap.FlyingW B outer ea (.ref C) a0 s'.heap∧HOk P w H' B∧(∀ b o,s.heap.get? b=some o→H b=none→b∉frs outer→B.get? b=some o) ∧
  ∀ b o,s.heap.get? b=some o→b∉frs outer→∃ o',B.get? b=some o'
noncomputable def CX1 (P:Program) (w:World):CXT:=λouter H s E e s'=>∃ ea C H',e = .ref ea∧Fly P w outer H s H' ea C s'∧E (.ref C) none H'
theorem bv.ex {P:Program} {w:World} {H:Hp} {h:Heap} {a:Addr} {o:HO} (x:bv P w H h a o):∃ ob,h.get? a=some ob:=by
 cases o with
 | lst xs=>obtain ⟨_,_,_,_,e⟩:=x; exact ⟨_,e⟩
 | tup xs=>obtain ⟨_,_,_,ob,e,_⟩:=x; exact ⟨ob,e⟩
 | dK kvs=>obtain ⟨_,_,_,_,o,_,_,e,_⟩:=x; exact ⟨_,e⟩
 | dT kvs=>obtain ⟨_,_,_,_,o,_,_,e,_⟩:=x; exact ⟨_,e⟩
 | set S n=>obtain ⟨o,_,_,_,e,_⟩:=x; exact ⟨_,e⟩
 | ins C dx fs=>obtain ⟨_,_,_,e,_⟩:=x; exact ⟨_,e⟩
 | own y=>obtain ⟨_,e⟩:=x; exact ⟨_,e⟩
 | xd fs=>obtain ⟨_,⟨_,_,_,e,_⟩,_⟩:=x; exact ⟨_,e⟩
 | rng lo hi=>obtain ⟨_,_,_,e⟩:=x; exact ⟨_,e⟩
 | frz ob u=>obtain ⟨e,_⟩:=x; exact ⟨_,e⟩
 | tbl ps=>exact ⟨_,(show h.get? a=some _ from x)⟩
 | met f y=>exact ⟨_,(show h.get? a=some _ from x)⟩
 | ext φ=>obtain ⟨_,⟨_,e⟩,_⟩:=x; exact ⟨_,e⟩
theorem sf {P:Program} {w:World} {H:Hp} {h:Heap} {l:List Addr} (x:HOk P w H h) (hl:∀ b∈l,H b=none):HOk P w H (PySem.W.hideAll h l):=λa o e =>
 (x a o e).stay (λb u hb q=>PySem.W.hideAll_get l q λz=>by
  have:=hl b z
  rcases hb with hb | hb
  ·rw [hb,e] at this; cases this
  ·rw [hb] at this; cases this) (λ_ q=>q) λ_ _ q=>q
section
variable {P:Program} {w:World} {l:List Env} {H H':Hp} {h1 h2 h3 B:Heap} {ea:Addr} {cls a0:Value}
end
section
variable {X:Cx} {pins:List (Addr×Obj)} {σ:St} {H H':Hp} {s s':Shared} {ea C:Addr} {E:XK}
theorem Inv.fly_up (I:Inv X pins σ H s) (hex:X.ex=[]) (J:Inv X pins σ H' s') (new:H' ea=none) {B:Heap} {a0:Value} (fl:Heap.FlyingW B X.outer ea (.ref C) a0 s'.heap) (hB:HOk X.prog X.w H' B)
  (kp:∀ b o,s.heap.get? b=some o→H b=none→b∉frs X.stack→B.get? b=some o) (th:∀ b o,s.heap.get? b=some o→b∉frs X.stack→∃ o',B.get? b=some o'):Fly X.prog X.w X.outer X.H₀ X.s₀ H' ea C s':=by
 have ub:=I.base
 rw [hex] at ub
 have uj:=J.base
 rw [hex] at uj
 have ne:∀ b o,X.s₀.heap.get? b=some o→b∉frs X.outer→b∉frs X.stack:=λb o e n hb=>by
  rcases List.mem_cons.mp (I.stkSub b hb) with z | z
  ·have:=Heap.lt_size e
   rw [z] at this
   exact absurd (Nat.lt_of_lt_of_le this I.ok.above) (Nat.lt_irrefl _)
  ·exact n z
 refine ⟨J.os,J.bare,uj,new,B,a0,fl,hB,λb o e n hb=>?_,λb o e hb=>?_⟩
 ·exact kp b o (ub.keep b o e n hb (by simp)) (ub.free b o e n (by simp)) (ne b o e hb)
 ·obtain ⟨o',q⟩:=ub.there b o e (by simp)
  exact th b o' q (ne b o e hb)
structure Lv (X:Cx) (E:XK):Prop where
 ex:X.ex=[]
 stk:X.stack=X.env :: X.outer
 fr:X.env.frame=some X.env.locals
 xe:X.xe=λe s'=>wpAny (model X.prog X.w) X.A (leaving X.env e) (λ_ s''=>CX1 X.prog X.w X.outer X.H₀ X.s₀ E e s'') (λe' s''=>CX1 X.prog X.w X.outer X.H₀ X.s₀ E e' s'') s'
theorem sg {P:Program} {w:World} {K:PySem.W.Frag} {mg:Str→Option Value} {base:Heap} {N:List Str} {qual:Str} {scope:Scope} {f:Addr} {cd:Value} {A:Around} {outer:List Env} {s:Shared} {H:Hp} {E:XK} :
  Lv (eR (CX1 P w) P w K mg base N qual scope f cd A outer s H E) E:=⟨rfl,rfl,rfl,rfl⟩
theorem Inv.ground (I:Inv X pins σ H s):(PySem.W.hideAll s.heap (frs X.stack)).StaysIn s.heap∧s.heap.FunFrames (PySem.W.hideAll s.heap (frs X.stack)) X.stack∧HOk X.prog X.w H (PySem.W.hideAll s.heap (frs X.stack)) :=
 ⟨λb o q=>PySem.W.of_hideAll _ q,PySem.W.funFrames_hide I.stack λenv he b hb=>List.mem_filterMap.mpr ⟨env,he,hb⟩,sf I.hok I.stkFree⟩
theorem xG (L:Lv X E) (I:Inv X pins σ H s) {h':Heap} {vs:List Value} (hx:Heap.MadeExcOf s.heap h' ea (.ref C) vs) (hE:E (.ref C) none H):X.xe (.ref ea) { s with heap:=h' }:=by
 rw [L.xe]
 obtain ⟨g1,g2,g3⟩:=I.ground
 have g2':s.heap.FunFrames (PySem.W.hideAll s.heap (frs X.stack)) (X.env :: X.outer):=L.stk ▸ g2
 refine wpAny_leaves_madeW (s:={ s with heap:=h' }) (by rw [I.ok.frames,L.stk]) L.fr g1 g2' hx λh'' t fl _ _ hs=>?_
 have hs':s.heap.UpToSlots h'':=(Heap.UpToSlots.of_keeps hx.keeps).trans hs
 have u:Un (frs X.stack) [] H H s.heap h'':=⟨λb o e n hb _=>fl.1 b o (PySem.W.hideAll_get _ e hb),λb o e n hb _=>by
   obtain ⟨_,o',ho',hd⟩:=g2.mem hb
   rw [e] at ho'
   cases ho'
   exact hs' b o e hd,λb o e n _=>n,λb o e _=>by
   by_cases hb:b∈frs X.stack
   ·obtain ⟨_,o',ho',hd⟩:=g2.mem hb
    obtain ⟨sl,q⟩:=hs' b o' ho' hd
    exact ⟨_,q⟩
   ·exact ⟨o,fl.1 b o (PySem.W.hideAll_get _ e hb)⟩,λ_ _ q=>q,λ_ _ _ q=>q,λb ps q=>⟨#[],by simpa using q⟩⟩
 have J:Inv X pins σ H { s with heap:=h'' }:=I.call' (s':={ s with heap:=h'' }) rfl u (g3.kept fl.1) I.bare λb z=>absurd z (by simp)
 have new:H ea=none:=by
  cases q:H ea with
  | none=>rfl
  | some o =>
   obtain ⟨ob,e⟩:=(I.hok ea o q).ex
   have h2:=hx.new
   rw [e] at h2
   cases h2
 exact ⟨ea,C,H,rfl,I.fly_up L.ex J new fl g3 (λb o e _ hb=>PySem.W.hideAll_get _ e hb) λb o e hb=>⟨o,PySem.W.hideAll_get _ e hb⟩,hE⟩
end
end L2
namespace XI
open PySem PySem.Spec PySem.W
section
variable {prog:Program} {w:World} {A:Around} {E:Value→Shared→Prop} {h:Heap} {g:Array GenState} {d:Drawn} {t:Nat} {os:OsState} {a:Addr} {o:Obj} {vs:Array Value}
 {nm q:Str} {C N:Addr} {bs bm:List Value} {hdct:Bool} {sn:List Str} {sub:List Value} {ab:Bool} {col:Option Bool} {dd:Option Addr} {k0 k1 k2 k3 k5:Option Value} {newId:String}
end
end XI
namespace L2
open PySem PySem.Spec PyProof.Rows
section
variable {X:Cx}
theorem nU (i:Int) (h0:0≤i) (h1:i≤60):(Str.ofString (toString i)).length≤100:=by
 have key:∀ n:Fin 61,(Str.ofString (toString ((n.val:Nat):Int))).length≤100:=by decide +kernel
 have:=key ⟨i.toNat,by omega⟩
 have e:((i.toNat:Nat):Int)=i:=by omega
 rw [e] at this
 exact this
abbrev bmV:List Value:=[.type "ValueError",.type "Exception",.type "BaseException",.type "object"]
noncomputable abbrev xH (X:Cx) (x:Str) (C:Addr):Prop:=OwnCls x C bmV "ValueError.__new__" X.mg X.base
noncomputable def wt (C:Addr) (E:XK) (ta:TE):TS:=λ_ σ H=>lN ta rf σ H λvs H1=>vs.length≤sizeLine∧E (.ref C) none H1
theorem mG {E:XK} (L:Lv X E) {x:Str} {C:Addr} {np cpos pos:Pos} {a:Expr} {ta:TE} (O:xH X x C) (hh:X.A.handled=none) (hg:Gl X x) (ha:PE X a ta) (hs:starEach [a] X.env=[(false,eval a X.env)]:=by rfl)
  (hd:(x == ("__debug__":Str))=false:=by decide):PS X (.Raise (some (.Call (.Name x np) [a] [] cpos)) none pos) (wt C E ta):=by
 intro pins s σ H D I h
 obtain ⟨tl,N,nm,q,bs,hdct,sn,sub,ab,col,dd,k0,k1,k2,k3,k5,mN,hC,hN,hni,T⟩:=O.obj
 refine wpAny_Raise_call_subT (C:=C) (nm:=nm) (q:=q) (N:=N) (bs:=bs) (bm:=tl) (hdct:=hdct) (sn:=sn) (sub:=sub) (ab:=ab) (col:=col) (dd:=dd) (k0:=k0) (k1:=k1) (k2:=k2) (k3:=k3) (k5:=k5)
  PySem.F.excBase_ValueError (mN:=mN) (T.hasType PySem.F.excBase_ValueError.hasBase) hh (by rw [hs]; rfl) hni (kn I hg O.bound ⟨rfl,?_⟩ hd)
 have hA:PA X [a] (lN ta rf):=aa ha ag hs
 have h':=hA cpos pins s σ H (λvs H1=>vs.length≤sizeLine∧E (.ref C) none H1) I h
 rw [hs] at h' ⊢
 refine Calls.evalArgs_plain (thn h' λus s2 hpt=>?_)
 obtain ⟨vs,H2,I2,r2,q2⟩:=hpt
 exact ⟨rfl,by rw [← r2.length]; exact q2.1,I2.bk _ _ hC,hN.keeps I2.bk,T.keeps I2.bk,λh' e hx=>xG L I2 hx q2.2⟩
end
section
variable {X:Cx} {pins:List (Addr×Obj)} {σ:St} {H:Hp} {s:Shared}
end
section
variable {X:Cx}
end
end L2
namespace DL
open PySem PySem.Spec PyProof.Rows
theorem iP:entryFor table "dict.update.loop" = some Builtin.«dict.update.loop»:=entryFor_of_tree (by kernel_rfl)
theorem dL:plainId "dict.update.loop" = true:=by decide +kernel
theorem li:typeLookup (.type "list") "keys" = pure none:=by rw [typeLookup_type,builtinLookup_eq_fast]; kernel_rfl
section
variable {prog:Program} {w:World} {A:Around} {E:Value→Shared→Prop} {s:Shared}
theorem ui {a:Addr} {xs:Array Value} {k:Nat} {sl:Array (Option Value)} {u:Tok} {Q:Value→Shared→Prop} (hx:s.heap.get? a=some { cls:=.type "list",dict:=none,data:=.seq xs k,slots:=sl }) (hA:A.handled=none)
  (h:∀ h' tk e,Heap.NewExcOf s.heap h' e "AttributeError"→E (.ref e) { s with heap:=h',toks:=tk }) :
  wpAny (model prog w) A (getAttrBy (.ref a) (.str "keys" u) false) Q E s:=by
 obtain ⟨hp,g,d,tk,os⟩:=s
 have hT:∀ tk',(⟨hp,g,d,tk',os⟩:Shared).TypeIs (.ref a) "list":=λ_=>⟨_,hx,rfl⟩
 have f1:=sub_AttributeError
 have f3:=F.slot_list_getattribute.lookup
 have f4:=F.slot_list_getattribute.bind (.ref a)
 have f5:=am_list_getattr_none
 unfold getAttrBy
 repeat (any_goals (first | assumption | exact hT _ | ((with_reducible show wpAny _ _ (call (Value.builtin "list.__getattribute__") _ _) _ _ _); refine call_meets F.slot_list_getattribute (hT _) am_entry_list_getattribute (F.args_list_getattribute_2 _ _) (meets_getattribute_miss_list a xs k sl "keys" _ li (by decide) (by size_fits)) ⟨hx,hA,λh' tk' e hx'=>?_⟩) | wp_step))
 obtain ⟨t',u',he⟩:=hx'.there
 show wpAny _ _ (getattributeRaised _ _ _ _ _ _ _) _ _ _
 unfold getattributeRaised
 repeat (any_goals (first | assumption | wp_step))
 exact h _ _ _ hx'.of
theorem uk {a:Addr} {xs:Array Value} {k:Nat} {sl:Array (Option Value)} {Q:Option Value→Shared→Prop} (hx:s.heap.get? a=some { cls:=.type "list",dict:=none,data:=.seq xs k,slots:=sl }) (hA:A.handled=none)
  (h:∀ h' tk,(∀ b o,s.heap.get? b=some o→h'.get? b=some o)→Q none { s with heap:=h',toks:=tk }) :
  wpAny (model prog w) A (getAttr? (.ref a) "keys") Q E s:=by
 obtain ⟨hp,g,d,tk,os⟩:=s
 have f1:=sub_AttributeError
 unfold getAttr? getAttrBy?
 repeat (any_goals (first | assumption | ((with_reducible show wpAny _ _ (getAttrBy _ _ false) _ _ _); refine ui (s:=⟨hp,g,d,_,os⟩) hx hA λh' tk' e hx'=>?_) | wp_step))
 obtain ⟨⟨oc,od,odt,osl⟩,vs,he,hc,_,_⟩:=hx'.there
 simp only at hc
 subst hc
 repeat (any_goals (first | assumption | with_reducible refine wpAny_loadPart_at he ?_ | wp_step))
 exact h h' tk' λb o e=>hx'.keeps b o e
end
section
variable {prog:Program} {w:World} {A:Around} {E:Value→Shared→Prop} {R:Result→Shared→Prop} {I:Addr} {fp wr:List Addr} {G:Array GenState→Array GenState→Prop} {n:Nat} {P:Nat→Value→Prop} {St:Nat→Shared→Prop}
theorem qi (W:WalksS prog w A.in1 I fp wr G n P St) (d:Addr) (hdf:d∉fp) (ad:Nat→Addr) (kk vv:Nat→Value) (hval:∀ i v,P i v→v = .ref (ad i)) (had:∀ i,i<n→ad i∉d :: wr)
  (D:Nat→Heap→Prop) (hD:∀ i (h h':Heap),D i h→(∀ b o,b∉wr→h.get? b=some o→h'.get? b=some o)→D i h')
  (step:∀ i (s:Shared) (E:Value→Shared→Prop) (Q:Unit→Shared→Prop),i<n→D i s.heap→(∀ h' tk,s.toks≤tk→Heap.SameBut d s.heap h'→D (i+1) h'→Q () { s with heap:=h',toks:=tk })→wpAny (model prog w) A.in1 (dictSet d (kk i) (vv i)) Q E s) :
  ∀ (k i:Nat) (s:Shared) (tk:Tok),n - i=k→i≤n→St i s→D i s.heap→(∀ j,j<n→IsTup s.heap (ad j) #[kk j,vv j]) →
   (∀ s',Moved (d :: wr) G s s'→D n s'.heap→R (.ok (.ret .none)) s') →
   codeAny (model prog w) A (.builtin "dict.update.loop" ⟨[.ref d,.ref I,.int i tk,.none],[]⟩) R s:=by
 have hdw:d∉wr:=λh=>hdf (W.sub _ h)
 have hsub:∀ b∈wr,b∈d :: wr:=λb hb=>List.mem_cons_of_mem _ hb
 have hadw:∀ i,i<n→ad i∉wr:=λi hi h=>had i hi (List.mem_cons_of_mem _ h)
 have hadd:∀ i,i<n→ad i≠d:=λi hi h=>had i hi (by rw [h]; exact List.mem_cons_self)
 intro k
 induction k with
 | zero =>
  intro i s tk hk hi hst hDi htp hR
  have hin:i=n:=by omega
  subst hin
  refine codeAny_builtin iP ?_
  rw [Around.under_plainId dL _]
  show wpAny _ A.in1 (pyNext (.ref I) >>= _) _ _ s
  refine wpAny_bind (W.done s _ _ hst λs' hm=>?_)
  show wpAny _ A.in1 (Builtin.Dict.addKeywords d [] >>= λ_=>ret Value.none) _ _ s'
  exact wpAny_bind (wpAny_pure (wpAny_pure (hR s' (hm.mono hsub) (hD _ _ _ hDi hm.heap))))
 | succ k ih =>
  intro i s tk hk hi hst hDi htp hR
  have hlt:i<n:=by omega
  refine codeAny_builtin iP ?_
  rw [Around.under_plainId dL _]
  show wpAny _ A.in1 (pyNext (.ref I) >>= _) _ _ s
  refine wpAny_bind (W.item i s _ _ hlt hst λv s' hP hst' hm=>?_)
  have hv:=hval i v hP
  subst hv
  have hDi':D i s'.heap:=hD _ _ _ hDi hm.heap
  have htp':∀ j,j<n→IsTup s'.heap (ad j) #[kk j,vv j]:=λj hj=>by
   obtain ⟨o,ho,r⟩:=htp j hj
   exact ⟨o,hm.heap _ o (hadw j hj) ho,r⟩
  obtain ⟨ot,hot,hct,nt,hdt⟩:=htp' i hlt
  have hT:s'.TypeIs (.ref (ad i)) "tuple":=⟨ot,hot,hct⟩
  refine wpAny_bind (wpAny_holding ?_)
  refine wpAny_bind (wpAny_tryCatch ?_)
  unfold Builtin.Dict.pairItems
  refine wpAny_bind (wpAny_typeOf hT ?_)
  rw [if_pos (by decide)]
  generalize hDS:dictSet=DS
  obtain ⟨hp,g,dr,t,os⟩:=s'
  obtain ⟨ocls,odict,odata,oslots⟩:=ot
  simp only at hct hdt
  subst hct hdt
  repeat (any_goals (first | assumption | with_reducible refine wpAny_loadPart_at hot ?_ | wp_step))
  subst hDS
  refine step i _ _ _ hlt hDi' λh' tk' htk hsb hD'=>?_
  have hsb':Heap.SameBut d hp h':=hsb
  have hkeep:∀ b o,b∉d :: wr→hp.get? b=some o→h'.get? b=some o:=λb o hb e=>by
   rw [hsb'.2 b (λz:b=d=>hb (by rw [z]; exact List.mem_cons_self))]; exact e
  refine wpAny_pure ⟨plainId_quiet dL _,?_⟩
  refine ih (i+1) _ _ (by omega) hlt (W.frame _ _ _ _ hst' htk λb hb o e=>?_) hD' (λj hj=>?_) λs'' hm'' hD''=>?_
  ·rw [hsb'.2 b (λh:b=d=>hdf (by rw [← h]; exact hb))]; exact e
  ·obtain ⟨o,ho,r⟩:=htp' j hj
   exact ⟨o,hkeep _ o (had j hj) ho,r⟩
  ·exact hR s'' (Moved.trans W.gtrans ((hm.mono hsub).then_heap htk λb o hb e=>hkeep b o hb e) hm'') hD''
end
section
variable {prog:Program} {w:World} {A:Around} {E:Value→Shared→Prop} {s:Shared}
theorem iQ {l:Addr} {items:Array Value} {nl:Nat} {sl:Array (Option Value)} {Q:Value→Shared→Prop} (hh:A.handled=none) (hl:s.heap.get? l=some { cls:=.type "list",dict:=none,data:=.seq items nl,slots:=sl })
  (ad:Nat→Addr) (kk vv:Nat→Value) (hi:∀ (i:Nat) (v:Value),items[i]? = some v→v=Value.ref (ad i)) (ht:∀ i,i<items.size→IsTup s.heap (ad i) #[kk i,vv i])
  (D:Nat→Heap→Prop) (hD0:∀ h',h'.get? s.heap.objs.size=some { cls:=.type "dict",data:=.dict #[] }→(∀ b o,s.heap.get? b=some o→h'.get? b=some o)→D 0 h')
  (hD:∀ i (h h':Heap),D i h→(∀ b o,b≤s.heap.objs.size→h.get? b=some o→h'.get? b=some o)→D i h')
  (step:∀ i (s':Shared) (E:Value→Shared→Prop) (Q:Unit→Shared→Prop),i<items.size→D i s'.heap→(∀ h' tk,s'.toks≤tk→Heap.SameBut s.heap.objs.size s'.heap h'→D (i+1) h'→Q () { s' with heap:=h',toks:=tk }) →
   wpAny (model prog w) A.in1.in1 (dictSet s.heap.objs.size (kk i) (vv i)) Q E s')
  (h:∀ h' tk,D items.size h'→(∀ b o,s.heap.get? b=some o→h'.get? b=some o)→Q (.ref s.heap.objs.size) { s with heap:=h',toks:=tk }) :
  wpAny (model prog w) A (call (.type "dict") [.ref l]) Q E s:=by
 refine callType_codes (Q₁:=λobj s₁=>obj = .ref s.heap.objs.size∧s₁={ s with heap:=s.heap.push { cls:=.type "dict",data:=.dict #[] } }) F.kt_called_dict (F.kt_typeCall_dict_1 _) F.entry_dict_init (kt_code_dict_new _ ⟨rfl,rfl⟩) ?_
 rintro obj s₁ ⟨rfl,rfl⟩
 have hnew:(s.heap.push { cls:=.type "dict",data:=.dict #[] }).get? s.heap.objs.size=some { cls:=.type "dict",data:=.dict #[] }:=Heap.get?_push_size _ rfl
 have hTd:Shared.TypeIs { s with heap:=s.heap.push { cls:=.type "dict",data:=.dict #[] } } (.ref s.heap.objs.size) "dict":=⟨_,hnew,rfl⟩
 have hl':(s.heap.push { cls:=.type "dict",data:=.dict #[] }).get? l=some { cls:=.type "list",dict:=none,data:=.seq items nl,slots:=sl }:=Heap.get?_push_of_some _ hl
 have hTl:Shared.TypeIs { s with heap:=s.heap.push { cls:=.type "dict",data:=.dict #[] } } (.ref l) "list":=⟨_,hl',rfl⟩
 refine ⟨hTd,F.args_dict_init_2 _ _,?_⟩
 unfold Builtin.«dict.__init__»
 refine wpAny_bind ?_
 unfold Builtin.Dict.selfAndRest
 refine wpAny_bind (wpAny_notOrdered_dict hTd ?_)
 show wpAny _ _ (pure (s.heap.objs.size,[Value.ref l])) _ _ _
 refine wpAny_pure ?_
 show wpAny _ _ (Builtin.Dict.updateFrom "dict.__init__" s.heap.objs.size (.ref l) [] .none) _ _ _
 unfold Builtin.Dict.updateFrom
 refine wpAny_bind (wpAny_typeOf hTl ?_)
 rw [if_pos (by decide)]
 refine wpAny_bind (uk (s:={ s with heap:=s.heap.push { cls:=.type "dict",data:=.dict #[] } }) hl' (show A.in1.in1.handled=none by simp [hh]) λh1 tk1 hk1=>?_)
 have hk1':∀ b o,(s.heap.push { cls:=.type "dict",data:=.dict #[] }).get? b=some o→h1.get? b=some o:=hk1
 have hL1:h1.IsList l items:=⟨_,hk1' _ _ hl',rfl,nl,rfl⟩
 rw [if_pos (show (none:Option Value).isNone=true from rfl)]
 refine wpAny_bind (wpAny_rule ?_)
 refine wpAny_bind (wpAny_pyIter_list hL1 ?_)
 have hlS:l<s.heap.objs.size:=Heap.lt_size hl
 have hS1:s.heap.objs.size<h1.objs.size:=Heap.lt_size (hk1' _ _ hnew)
 have k0:∀ b o,s.heap.get? b=some o→h1.get? b=some o:=λb o e=>hk1' b o (Heap.get?_push_of_some _ e)
 have hadlt:∀ i,i<items.size→ad i<s.heap.objs.size:=λi hi'=>by
  obtain ⟨o,ho,_⟩:=ht i hi'
  exact Heap.lt_size ho
 refine wpAny_pure ⟨plainId_quiet dL _,qi (A:=A.in1) ((Walks.list (show A.in1.in1.handled=none by simp [hh]) h1.objs.size l (Nat.ne_of_lt (Nat.lt_trans hlS hS1)) items).toS) s.heap.objs.size ?hdf ad kk vv hi ?had D ?hD' (λi s' E Q hi' hDi hq=>step i s' E Q hi' hDi hq)
  (items.size - 0) 0 _ 0 (by omega) (Nat.zero_le _) ⟨⟨_,Heap.get?_push_size _ rfl,rfl,rfl⟩,hL1.push _⟩ ?hD0' ?ht' λs' hm hDn=>?_⟩
 case hdf =>
  simp only [List.mem_cons,List.not_mem_nil,or_false,not_or]
  exact ⟨Nat.ne_of_lt hS1,Nat.ne_of_gt hlS⟩
 case had =>
  intro i hi'
  simp only [List.mem_cons,List.not_mem_nil,or_false,not_or]
  exact ⟨Nat.ne_of_lt (hadlt i hi'),Nat.ne_of_lt (Nat.lt_trans (hadlt i hi') hS1)⟩
 case hD' =>
  intro i g g' hDi hk
  refine hD i g g' hDi λb o hb e=>hk b o ?_ e
  simp only [List.mem_cons,List.not_mem_nil,or_false]
  exact Nat.ne_of_lt (Nat.lt_of_le_of_lt hb hS1)
 case hD0' =>
  exact hD0 _ (Heap.get?_push_of_some _ (hk1' _ _ hnew)) λb o e=>Heap.get?_push_of_some _ (k0 b o e)
 case ht' =>
  intro j hj
  obtain ⟨o,ho,r⟩:=ht j hj
  exact ⟨o,Heap.get?_push_of_some _ (k0 _ _ ho),r⟩
 obtain ⟨h',g',d',tk',os'⟩:=s'
 have eg:g'=s.gens:=hm.gens
 have ed:d'=s.drawn:=hm.drawn
 have eo:os'=s.os:=hm.os
 subst eg; subst ed; subst eo
 refine ⟨rfl,h h' tk' hDn λb o e=>?_⟩
 have hb:b<s.heap.objs.size:=Heap.lt_size e
 refine hm.heap b o ?_ (Heap.get?_push_of_some _ (k0 b o e))
 simp only [List.mem_cons,List.not_mem_nil,or_false,not_or]
 exact ⟨Nat.ne_of_lt hb,Nat.ne_of_lt (Nat.lt_trans hb hS1)⟩
end
end DL
namespace L2
open PySem PySem.Spec PyProof.Rows
section
variable {X:Cx}
theorem wu {pins:List (Addr×Obj)} {σ:St} {H:Hp} {s:Shared} (I:Inv X pins σ H s) {a:Addr} {x y:V} (h:H a=some (.tup [x,y])):∃ u v,aL x u∧aL y v∧IsTup s.heap a #[u,v]:=by
 obtain ⟨_,its,r,ht⟩:=I.hok a _ h
 cases r with
 | cons r1 r =>
  cases r with
  | cons r2 r=>cases r; exact ⟨_,_,r1,r2,by simpa using ht⟩
theorem sh {κ:Type} {pins:List (Addr×Obj)} {σ:St} {H:Hp} {s:Shared} (I:Inv X pins σ H s) {zs:List (Addr×κ×V)} (kf:Addr×κ×V→V) (hk:∀ z∈zs,H z.1=some (.tup [kf z,z.2.2])) :
  ∃ f:Addr×κ×V→Value×Value,∀ z∈zs,aL (kf z) (f z).1∧aL z.2.2 (f z).2∧IsTup s.heap z.1 #[(f z).1,(f z).2]:=by
 have hch:∀ z:Addr×κ×V,∃ p:Value×Value,z∈zs→aL (kf z) p.1∧aL z.2.2 p.2∧IsTup s.heap z.1 #[p.1,p.2]:=λz=>by
  by_cases hz':z∈zs
  ·obtain ⟨u,v,a,b,c⟩:=wu I (hk z hz')
   exact ⟨(u,v),λ_=>⟨a,b,c⟩⟩
  ·exact ⟨(.none,.none),λh=>absurd h hz'⟩
 exact ⟨λz=>Classical.choose (hch z),λz hz=>Classical.choose_spec (hch z) hz⟩
theorem dA {α:Type} {l:List α} {i:Nat} {d:α} (h:i<l.length):l.getD i d∈l∧l[i]? = some (l.getD i d):=by
 rw [List.getD_eq_getElem?_getD,List.getElem?_eq_getElem h]
 exact ⟨List.getElem_mem h,rfl⟩
theorem qj {κ:Type} {zs:List (Addr×κ×V)} {d:Addr×κ×V} {i:Nat} {v:Value} (h:(((zs.map (·.1)).map Value.ref).toArray)[i]? = some v):v=Value.ref (zs.getD i d).1:=by
 have h':((zs.map (·.1)).map Value.ref)[i]? = some v:=by simpa using h
 rw [List.getElem?_map,List.getElem?_map] at h'
 rw [List.getD_eq_getElem?_getD]
 cases e:zs[i]? with
 | none=>rw [e] at h'; cases h'
 | some z=>rw [e] at h'; exact (Option.some.inj h').symm
theorem cX {α:Type} {l:List α} {i:Nat} {x:α} (h:l[i]? = some x):l.take (i+1)=l.take i++[x]:=by rw [List.take_succ,h]; rfl
theorem qk {α κ:Type} {l:List α} {f:α→κ} {i:Nat} {x:α} (hn:(l.map f).Nodup) (h:l[i]? = some x):f x∉(l.take i).map f:=by
 intro hm
 obtain ⟨y,hy,e⟩:=List.mem_map.mp hm
 obtain ⟨j,hj,e2⟩:=List.mem_iff_getElem.mp hy
 have hj':j<i:=by rw [List.length_take] at hj; omega
 have hi:i<l.length:=(List.getElem?_eq_some_iff.mp h).1
 have e3:(l.map f)[j]'(by rw [List.length_map]; omega)=(l.map f)[i]'(by rw [List.length_map]; omega):=by
  rw [List.getElem_map,List.getElem_map]
  rw [List.getElem_take] at e2
  rw [e2,e,(List.getElem?_eq_some_iff.mp h).2]
 have:=(List.getElem_inj hn).mp e3
 omega
theorem mJ (hc:X.calm=true):cA X (.type "dict") (λxs H Q=>∃ l,∃ zs:List (Addr×Key×V),xs=[.ref l]∧H l=some (.lst ((zs.map (·.1)).map V.ref))∧(∀ z∈zs,H z.1=some (.tup [kV z.2.1,z.2.2]))∧zs.length≤1000 ∧
  (zs.map (·.2.1)).Nodup∧((∀ d o,H d=none→Q (.ref d) (upd H d (.frz o (.dK (zs.map (·.2))))))∨∀ d,H d=none→Q (.ref d) (upd H d (.dK (zs.map (·.2)))))):=by
 intro pins s σ H xs us Q I r h
 obtain ⟨l,zs,rfl,hl,hk,hz,hnd,q⟩:=h
 obtain ⟨u,rfl,ru⟩:=dW r
 cases ru
 obtain ⟨_,its,nl,rv,ho⟩:=I.hok l _ hl
 have e:=cW rv
 subst e
 obtain ⟨f,hf⟩:=sh I (λz=>kV z.2.1) hk
 have hsz:(((zs.map (·.1)).map Value.ref).toArray).size=zs.length:=by simp
 refine DL.iQ (s:=s) (I.ok.hd hc) ho (λi=>(zs.getD i (0,.inl 0,.non)).1) (λi=>(f (zs.getD i (0,.inl 0,.non))).1) (λi=>(f (zs.getD i (0,.inl 0,.non))).2) (λi v hv=>qj hv) (λi hi=>?_)
  (λi h'=>h'.DictOf (aD X.prog X.w) s.heap.objs.size ((zs.take i).map λz=>(z.2.1,(f z).2))) (λh' hg _=>?_) (λi g g' hd hk=>?_) (λi s' E Q hi hd hq=>?_) λh' tk hd hkeep=>?_
 ·rw [hsz] at hi
  exact (hf _ (dA hi).1).2.2
 ·exact ⟨_,#[],0,hg,⟨rfl,rfl,rfl⟩,rfl,λ_ he=>by simp at he,Pairs.nil,List.nodup_nil⟩
 ·obtain ⟨o,es,ep,ho,r⟩:=hd
  exact ⟨o,es,ep,hk _ o (Nat.le_refl _) ho,r⟩
 ·rw [hsz] at hi
  obtain ⟨hm,hg⟩:=dA (d:=((0,.inl 0,.non):Addr×Key×V)) hi
  refine wpAny_dictSet_pairs (hsz:=by rw [List.length_map,List.length_take]; have:=aS hz; omega) (k:=(zs.getD i (0,.inl 0,.non)).2.1) (eS (hf _ hm).1) hd λh' hd' hs=>hq h' _ (Nat.le_succ _) hs ?_
  have e1:=cX hg
  have e2:=qk hnd hg
  rw [e1,List.map_append]
  unfold stored at hd'
  rw [if_neg] at hd'
  ·exact hd'
  ·intro ha
   obtain ⟨p,hp,he⟩:=List.any_eq_true.mp ha
   obtain ⟨z,hz',rfl⟩:=List.mem_map.mp hp
   exact e2 (List.mem_map.mpr ⟨z,hz',of_decide_eq_true he⟩)
 ·rw [hsz,List.take_length] at hd
  obtain ⟨ob,hob⟩:∃ ob,h'.get? s.heap.objs.size=some ob:=let ⟨o,_,_,ho,_⟩:=hd; ⟨o,ho⟩
  have hrel:KV (zs.map (·.2)) (zs.map λz=>(z.2.1,(f z).2)):=by
   have:∀ ys:List (Addr×Key×V),(∀ z∈ys,z∈zs)→KV (ys.map (·.2)) (ys.map λz=>(z.2.1,(f z).2)):=by
    intro ys
    induction ys with
    | nil=>intro _; exact .nil
    | cons z ys ih=>intro hm; exact .cons ⟨rfl,(hf z (hm z (by simp))).2.1⟩ (ih λy hy=>hm y (by simp [hy]))
   exact this zs λz hz=>hz
  have hdk:∀ H':Hp,bv X.prog X.w H' h' s.heap.objs.size (.dK (zs.map (·.2))):=λH'=>kM (Nat.le_of_lt (aS (by rw [List.length_map]; exact hz))) (beq_eq_false_iff_ne.mpr (Ne.symm (Nat.ne_of_lt I.big))) hrel hd
  rcases q with q | q
  ·exact ⟨.ref s.heap.objs.size,_,I.laid (t':=tk) (o:=.frz ob (.dK (zs.map (·.2)))) hkeep (Nat.le_refl _) ⟨hob,hdk _⟩,rfl,q _ ob (I.hok.fresh (Nat.le_refl _))⟩
  ·exact ⟨.ref s.heap.objs.size,_,I.laid (t':=tk) (o:=.dK (zs.map (·.2))) hkeep (Nat.le_refl _) (hdk _),rfl,q _ (I.hok.fresh (Nat.le_refl _))⟩
theorem eG (hc:X.calm=true):cA X (.type "dict") (λxs H Q=>∃ l,∃ zs:List (Addr×Key×V),xs=[.ref l]∧H l=some (.lst ((zs.map (·.1)).map V.ref))∧(∀ z∈zs,H z.1=some (.tup [kV z.2.1,z.2.2]))∧zs.length≤1000∧(zs.map (·.2.1)).Nodup∧∀ d,H d=none→Q (.ref d) (upd H d (.dK (zs.map (·.2))))) :=
 λpins s σ H xs us Q I r ⟨l,zs,h1,h2,h3,h4,h5,q⟩=>mJ hc pins s σ H xs us Q I r ⟨l,zs,h1,h2,h3,h4,h5,.inr q⟩
end
noncomputable def wv (h:Heap) (d:Addr) (es:Array DictEntry) (ep:Nat):Prop:=∃ o,h.get? d=some o∧o.ExactDict∧o.data = .dict es ep
section
variable {prog:Program} {w:World} {A:Around} {E:Value→Shared→Prop} {s:Shared}
theorem si {d:Addr} {es:Array DictEntry} {ep:Nat} {Q:Value→Shared→Prop} (hd:(d == sysModules)=false) (hm:wv s.heap d es ep)
  (hQ:Q (.ref s.heap.objs.size) { s with heap:=s.heap.push { cls:=.type "dict_keyiterator",data:=.fields #[.ref d,.int 0 0,.int es.size 0,.int ep 0] } }) :
  wpAny (model prog w) A (pyIter (.ref d)) Q E s:=by
 obtain ⟨o,ho,hc,hdat⟩:=id hm
 have hT:s.TypeIs (.ref d) "dict":=⟨o,ho,hc.1⟩
 refine wpAny_pyIter_slot hT PySem.F.slot_dict_iter (wpAny_call_entry PySem.F.slot_dict_iter hT PySem.F.entry_dict_iter ?_ (PySem.F.args_dict_iter_1 _))
 unfold Builtin.«dict.__iter__»
 refine wpAny_bind ?_
 unfold Builtin.Dict.dictSlotNone
 refine wpAny_bind (wpAny_notOrdered_dict hT ?_)
 show wpAny _ _ (pure (Value.ref d)) _ _ s
 refine wpAny_pure ?_
 show wpAny _ _ (Builtin.Dict.showsAll d >>= _) _ _ s
 unfold Builtin.Dict.showsAll
 rw [if_neg (by rw [hd]; exact Bool.false_ne_true)]
 refine wpAny_bind (wpAny_pure ?_)
 refine wpAny_bind (wpAny_dictEntries ho hdat ?_)
 refine wpAny_bind (wpAny_dictEpoch ho hdat ?_)
 refine wpAny_bind (wpAny_newObj_type (wpAny_pure ⟨_,rfl,"dict_keyiterator",_,⟨_,Heap.get?_push_size _ rfl,rfl⟩,PySem.F.slot_dict_keyiterator_next.lookup,?_⟩))
 simpa [rawInt] using hQ
theorem sj {it d:Addr} {i ep:Nat} {es:Array DictEntry} {e:DictEntry} {Q:Option Value→Shared→Prop} (hit:s.heap.IsKeyIter it d i es.size ep) (hm:wv s.heap d es ep) (hx:es[i]? = some e)
  (hQ:∀ h',h'.IsKeyIter it d (i+1) es.size ep→Heap.SameBut it s.heap h'→Q (some e.key) { s with heap:=h' }) :
  wpAny (model prog w) A (pyNext (.ref it)) Q E s:=by
 obtain ⟨o,ho,hc,hd⟩:=id hit
 obtain ⟨od,hod,hcd,hdd⟩:=id hm
 unfold pyNext
 refine wpAny_bind (wpAny_attempt (wpAny_callSpecial?_slot (name:=Str.ofString "__next__") hit.typeIs PySem.F.slot_dict_keyiterator_next
  (wpAny_call_entry PySem.F.slot_dict_keyiterator_next hit.typeIs PySem.F.entry_dict_keyiterator_next ?_ (PySem.F.args_dict_keyiterator_next_1 _))))
 refine wpAny_bind (wpAny_pure ?_)
 refine wpAny_bind ?_
 refine wpAny_bind ?_
 first | refine wpAny_bind (wpAny_typeNameOfWhole_keyiter hit.typeIs (wpAny_pure ?_)) | refine wpAny_bind (wpAny_typeNameOf_keyiter hit.typeIs (wpAny_pure ?_))
 refine wpAny_bind (wpAny_fieldsOf ho hd ?_)
 have hown:Builtin.Dict_items.ownsTuple "dict_keyiterator" = false:=by decide
 simp only [hown,Bool.false_eq_true,if_false]
 show wpAny _ _ (if (Value.ref d == Value.none)=true then _ else _) _ _ s
 rw [if_neg (show ¬ ((Value.ref d == Value.none)=true) from Bool.false_ne_true)]
 refine wpAny_bind (wpAny_pure ?_)
 refine wpAny_bind (wpAny_dictEntries hod hdd ?_)
 rw [if_neg (by simp)]
 refine wpAny_bind (wpAny_pure ?_)
 refine wpAny_bind (wpAny_dictEpoch hod hdd ?_)
 rw [if_neg (by simp)]
 refine wpAny_pure ?_
 have hlt':i<es.size:=(Array.getElem?_eq_some_iff.mp hx).1
 have he:es[i]=e:=(Array.getElem?_eq_some_iff.mp hx).2
 simp only [show ¬ ((i:Int)<0) from by omega,if_false,Int.toNat_natCast,Array.getElem?_eq_getElem hlt']
 refine wpAny_bind ?_
 first | refine wpAny_bind (wpAny_typeNameOfWhole_keyiter hit.typeIs (wpAny_pure ?_)) | refine wpAny_bind (wpAny_typeNameOf_keyiter hit.typeIs (wpAny_pure ?_))
 refine wpAny_bind (wpAny_isOneOf_keyiter hit.typeIs ?_)
 show wpAny _ _ (setField (.ref it) 1 (rawInt ((i:Int)+1)) >>= _) _ _ s
 refine wpAny_bind (wpAny_setField ho hd (by simp) ?_)
 have hit':(s.heap.update it (Obj.mapFields (·.setIfInBounds 1 (rawInt ((i:Int)+1))))).IsKeyIter it d (i+1) es.size ep :=
  ⟨_,Heap.get?_update_self _ ho (Obj.isFreed_of_fields (Obj.data_mapFields hd _)),(Obj.cls_mapFields ..).trans hc,by rw [Obj.data_mapFields hd]; simp [rawInt]⟩
 refine wpAny_bind (wpAny_holding ?_)
 refine wpAny_bind (wpAny_isOneOf_keyiter (s:={ s with heap:=s.heap.update it (Obj.mapFields (·.setIfInBounds 1 (rawInt ((i:Int)+1)))) }) hit'.typeIs ?_)
 show wpAny _ _ (pure es[i].key) _ _ _
 rw [he]
 exact wpAny_pure (wpAny_pure ⟨_,rfl,wpAny_pure (hQ _ hit' (Heap.SameBut.update ..))⟩)
theorem ul {it d:Addr} {i ep:Nat} {es:Array DictEntry} {Q:Option Value→Shared→Prop} (hh:A.handled=none) (hit:s.heap.IsKeyIter it d i es.size ep) (hm:wv s.heap d es ep) (hge:es.size≤i)
  (hQ:∀ h',Heap.ExtBut it s.heap h'→Q none { s with heap:=h' }):wpAny (model prog w) A (pyNext (.ref it)) Q E s:=by
 obtain ⟨o,ho,hc,hd⟩:=id hit
 obtain ⟨od,hod,hcd,hdd⟩:=id hm
 unfold pyNext
 refine wpAny_bind (wpAny_attempt (wpAny_callSpecial?_slot (name:=Str.ofString "__next__") hit.typeIs PySem.F.slot_dict_keyiterator_next
  (wpAny_call_entry PySem.F.slot_dict_keyiterator_next hit.typeIs PySem.F.entry_dict_keyiterator_next ?_ (PySem.F.args_dict_keyiterator_next_1 _))))
 refine wpAny_bind (wpAny_pure ?_)
 refine wpAny_bind ?_
 refine wpAny_bind ?_
 first | refine wpAny_bind (wpAny_typeNameOfWhole_keyiter hit.typeIs (wpAny_pure ?_)) | refine wpAny_bind (wpAny_typeNameOf_keyiter hit.typeIs (wpAny_pure ?_))
 refine wpAny_bind (wpAny_fieldsOf ho hd ?_)
 have hown:Builtin.Dict_items.ownsTuple "dict_keyiterator" = false:=by decide
 simp only [hown,Bool.false_eq_true,if_false]
 show wpAny _ _ (if (Value.ref d == Value.none)=true then _ else _) _ _ s
 rw [if_neg (show ¬ ((Value.ref d == Value.none)=true) from Bool.false_ne_true)]
 refine wpAny_bind (wpAny_pure ?_)
 refine wpAny_bind (wpAny_dictEntries hod hdd ?_)
 rw [if_neg (by simp)]
 refine wpAny_bind (wpAny_pure ?_)
 refine wpAny_bind (wpAny_dictEpoch hod hdd ?_)
 rw [if_neg (by simp)]
 refine wpAny_pure ?_
 simp only [show ¬ ((i:Int)<0) from by omega,if_false,Int.toNat_natCast,Array.getElem?_eq_none hge]
 refine wpAny_bind ?_
 first | refine wpAny_bind (wpAny_typeNameOfWhole_keyiter hit.typeIs (wpAny_pure ?_)) | refine wpAny_bind (wpAny_typeNameOf_keyiter hit.typeIs (wpAny_pure ?_))
 show wpAny _ _ (setField (.ref it) 0 .none >>= _) _ _ s
 refine wpAny_bind (wpAny_setField ho hd (by simp) ?_)
 show wpAny _ _ (newExc (.type "StopIteration") [] >>= _) _ _ _
 refine wpAny_bind ?_
 simp only [newExc,newTuple]
 refine wpAny_bind (wpAny_newObj_type ?_ (by size_fits))
 refine wpAny_bind (m:=firstArgMember _ _) (wpAny_of_eq (a:=Value.none) (by first | rfl | (simp only [firstArgMember]; rfl)) ?_)
 refine wpAny_newObj_type ?_ (by size_fits)
 simp only [raiseNew]
 refine wpAny_bind (wpAny_handled ?_)
 rw [show A.in1.handled=none from hh]
 refine wpAny_bind (wpAny_pure (wpAny_throw ?_))
 refine wpAny_bind (wpAny_isInstance (T:="StopIteration") (b:=true) ⟨_,Heap.get?_push_size _ rfl,rfl⟩ isSubtype_stop ?_)
 exact wpAny_pure (hQ _ (((Heap.SameBut.update ..).extBut.push _).push _))
end
noncomputable def Itk (d:Addr) (o:Obj) (u:HO) (ks:List V):It:=⟨λi H=>H d=some (.frz o u)∧i<ks.length,λi H x H'=>H'=H∧ks[i]? = some x,λi H=>H d=some (.frz o u)∧ks.length≤i⟩
theorem ql {P:Program} {w:World} {K:PySem.W.Frag} {tg:Expr} {d it:Addr} {o:Obj} {u:HO} {es:Array DictEntry} {ep:Nat} {ks:List V} (hx:o.ExactDict) (hd:o.data = .dict es ep) (hv:aE ks (es.toList.map (·.key))) :
  Turn P w K tg (Itk d o u ks) [it] it (λi h=>h.IsKeyIter it d i es.size ep) where
 mem:=by simp
 obj:=λi h st b hb=>by
  have e:b=it:=by simpa using hb
  subst e
  obtain ⟨o,e,c,d⟩:=st
  exact ⟨o,e,λv z=>by rw [d] at z; cases z⟩
 keep:=λi h h' st k=>st.at λo e=>k it (by simp) o e
 item:=by
  intro X hP hw hK hc i pins s σ H E I hf st hg
  subst hP hw hK
  obtain ⟨hH,hi⟩:=hg
  have ho:=(I.hok d _ hH).1
  have hl:ks.length=es.size:=by rw [hv.length,List.length_map,Array.length_toList]
  have hi':i<es.size:=by omega
  obtain ⟨v,hv1,hv2⟩:=hv.get (List.getElem?_eq_getElem hi)
  obtain ⟨f0,f1,f2,f3,f4,f5⟩:=hf it (by simp)
  have ev:v=es[i].key:=by
   rw [List.getElem?_map,Array.getElem?_toList,Array.getElem?_eq_getElem hi'] at hv1
   exact (Option.some.inj hv1).symm
  refine sj st ⟨o,ho,hx,hd⟩ (Array.getElem?_eq_getElem hi') λh' st' sb=>?_
  have I1:Inv X pins σ H { s with heap:=h' }:=I.turned (t':=s.toks) (λb o hb e=>(sb.2 b hb).trans e) f0 f1 f3 f4 f5
  obtain ⟨oi,e,c,dd⟩:=id st'
  exact ⟨_,rfl,lK (s:={ s with heap:=h' }) e c dd (by decide) ⟨ks[i],H,I1,ev ▸ hv2,⟨rfl,List.getElem?_eq_getElem hi⟩,st',λb hb=>(hf b hb).1⟩⟩
 done:=by
  intro X hP hw hK hc i pins s σ H E I hf st hg
  subst hP hw hK
  obtain ⟨hH,hi⟩:=hg
  have ho:=(I.hok d _ hH).1
  have hl:ks.length=es.size:=by rw [hv.length,List.length_map,Array.length_toList]
  obtain ⟨f0,f1,f2,f3,f4,f5⟩:=hf it (by simp)
  exact ul (I.ok.hd hc) st ⟨o,ho,hx,hd⟩ (by omega) λh' eb=>⟨rfl,I.turned (t':=s.toks) (λb o hb e=>eb b o hb e) f0 f1 f3 f4 f5⟩
 self:=λ_ _ _ _ _ st h=>wpAny_pyIter_keyiter st h
section
variable {X:Cx} {tg:Expr}
end
section
variable {prog:Program} {w:World} {A:Around} {E:Value→Shared→Prop} {s:Shared}
end
section
variable {X:Cx}
theorem um {P:Program} {w:World} {kvs:List (Key×V)} {vs:List (Key×Value)} {acc:Array Value} (rel:KV kvs vs) (h:ItemsOf (λi v=>∃ k x,vs[i]? = some (k,x)∧(aD P w).is k v=true) acc vs.length):aE (kvs.map λp=>kV p.1) acc.toList:=by
 obtain ⟨h1,h2⟩:=h
 have hl:acc.toList.length=vs.length:=by simpa using h1
 have h3:∀ (i:Nat) (v:Value),acc.toList[i]? = some v→∃ k x,vs[i]? = some (k,x)∧(aD P w).is k v=true:=λi v hv=>h2 i v (by simpa using hv)
 clear h1 h2
 generalize acc.toList=l at hl h3
 induction rel generalizing l with
 | nil =>
  cases l with
  | nil=>exact .nil
  | cons a r=>simp at hl
 | @cons p q kvs vs r _ ih =>
  cases l with
  | nil=>simp at hl
  | cons a l =>
   refine .cons ?_ (ih l (by simpa using hl) λi v hv=>by simpa using h3 (i+1) v (by simpa using hv))
   obtain ⟨k,x,e1,e2⟩:=h3 0 a rfl
   have e3:q=(k,x):=by simpa using e1
   show aL (kV p.1) a
   rw [r.1,e3]
   rcases aV e2 with ⟨i,t,e4,e5⟩ | ⟨y,t,e4,e5⟩
   ·rw [e4,e5]; exact ⟨t,rfl⟩
   ·rw [e4,e5]; exact ⟨t,rfl⟩
end
end L2
namespace HT
open PySem PyProof.Rows
section
open PySem.SeqAt
open PySem.AutoSeq1 (wpAny_loadPart')
open PySem.MeetsSeq PySem.MeetsSeq2 PySem.MeetsSeq3
end
section
variable {prog:Program} {w:World} {A:Around} {E:Value→Shared→Prop} {s:Shared}
end
end HT
namespace L2
open PySem PySem.Spec PyProof.Rows
section
variable {X:Cx}
theorem sk {α β:Type} {l:List α} {f:α→β} {d:α} {e:β} {i:Nat} (h:i<l.length):(l.map f).getD i e=f (l.getD i d):=by
 rw [List.getD_eq_getElem?_getD,List.getD_eq_getElem?_getD,List.getElem?_map,List.getElem?_eq_getElem h]; rfl
theorem jM {α:Type} {zs:List α} {val:α→V} {d:α}:∀ {us:List Value},aE (zs.map val) us→∀ (ps:List Nat),(∀ i∈ps,i<zs.length)→aE ((ps.map λi=>zs.getD i d).map val) (ps.map λi=>us.getD i Value.none):=by
 intro us rv ps
 induction ps with
 | nil=>intro _; exact .nil
 | cons i ps ih =>
  intro h
  refine .cons ?_ (ih λj hj=>h j (by simp [hj]))
  have hi:=h i (by simp)
  obtain ⟨u,hu,r⟩:=rv.get (i:=i) (x:=val (zs.getD i d)) (by rw [List.getElem?_map,(dA (d:=d) hi).2]; rfl)
  have:us.getD i Value.none=u:=by rw [List.getD_eq_getElem?_getD,hu]; rfl
  show aL (val (zs.getD i d)) (us.getD i Value.none)
  rw [this]
  exact r
theorem pc {ns:List Int} {us:List Value} (r:aE (ns.map V.int) us):IntsAre us ns:=nL r
end
noncomputable def jN (H:Hp):Nat→V→V→Prop
 | 0,x,y=>x=y∧cP x=true
 | n+1,x,y=>(x=y∧cP x=true)∨∃ a b xs ys,x = .ref a∧y = .ref b∧H a=some (.tup xs)∧H b=some (.tup ys)∧xs.length=ys.length∧∀ (i:Nat) x' y',xs[i]? = some x'→ys[i]? = some y'→jN H n x' y'
theorem mM {x:V} (f:cP x=true):eqV x x=true:=by
 cases x <;> first | rfl | (simp [eqV]; done) | (exact absurd (show false=true from f) Bool.false_ne_true)
theorem dM {H:Hp} {n:Nat} {x y:V} (h:x=y∧cP x=true):jN H n x y:=by
 cases n with
 | zero=>exact h
 | succ n=>exact .inl h
section
variable {X:Cx} {pins:List (Addr×Obj)} {σ:St} {H:Hp} {s:Shared}
theorem sm (I:Inv X pins σ H s):∀ (n:Nat) {A:Around} {x y:V} {u v:Value},aL x u→aL y v→jN H n x y→A.units+n<cLine→SeqAt.EqAt A s u v true:=by
 intro n
 induction n with
 | zero =>
  intro A x y u v ru rv h hu
  obtain ⟨e,f⟩:=h
  subst e
  have:=iA (A:=A) (s:=s) ru rv f f
  rw [mM f] at this
  exact this
 | succ n ih =>
  intro A x y u v ru rv h hu
  rcases h with ⟨e,f⟩ | ⟨a,b,xs,ys,rfl,rfl,ha,hb,hl,hx⟩
  ·subst e
   have:=iA (A:=A) (s:=s) ru rv f f
   rw [mM f] at this
   exact this
  ·cases ru
   cases rv
   by_cases hab:a=b
   ·subst hab
    exact SeqAt.EqAt.same _
   ·obtain ⟨_,us,r1,t1⟩:=I.hok a _ ha
    obtain ⟨_,ws,r2,t2⟩:=I.hok b _ hb
    have l1:=r1.length
    have l2:=r2.length
    have:=SeqAt.RcAt.tuples (A:=A) (s:=s) (e:=λ_=>true) t1 t2 (by omega) (λj h1 h2=>by
     have h1':j<xs.length:=by rw [l1]; simpa using h1
     have h2':j<ys.length:=by rw [l2]; simpa using h2
     obtain ⟨u',hu1,hu2⟩:=r1.get (List.getElem?_eq_getElem h1')
     obtain ⟨v',hv1,hv2⟩:=r2.get (List.getElem?_eq_getElem h2')
     have e1:us.toArray[j]=u':=by
      have:us[j]? = some us.toArray[j]:=by rw [List.getElem?_eq_getElem (by simpa using h1)]; simp
      rw [hu1] at this
      exact (Option.some.inj this).symm
     have e2:ws.toArray[j]=v':=by
      have:ws[j]? = some ws.toArray[j]:=by rw [List.getElem?_eq_getElem (by simpa using h2)]; simp
      rw [hv1] at this
      exact (Option.some.inj this).symm
     rw [e1,e2]
     exact ih hu2 hv2 (hx j _ _ (List.getElem?_eq_getElem h1') (List.getElem?_eq_getElem h2')) (by simp [Around.in1_units]; omega))
    have e3:((List.range (min us.toArray.size ws.toArray.size)).all (λ_=>true) && us.toArray.size == ws.toArray.size)=true:=by
     have:us.toArray.size=ws.toArray.size:=by simp only [List.size_toArray]; omega
     simp [this]
    rw [e3] at this
    exact SeqAt.EqAt.of_refs hab this
end
section
variable {X:Cx}
noncomputable def gg (H:Hp) (xs ys:List V):Prop:=xs.length=ys.length∧∀ (i:Nat) x y,xs[i]? = some x→ys[i]? = some y→jN H 3 x y
theorem mV {pins:List (Addr×Obj)} {σ:St} {H:Hp} {s:Shared} (I:Inv X pins σ H s) {xs ys:List V} {us ws:List Value} (r1:aE xs us) (r2:aE ys ws) (h:gg H xs ys) {A:Around} (hu:A.units+3<cLine) :
  ∀ j (h1:j<us.toArray.size) (h2:j<ws.toArray.size),SeqAt.EqAt A s us.toArray[j] ws.toArray[j] true:=λj h1 h2=>by
 have h1':j<xs.length:=by rw [r1.length]; simpa using h1
 have h2':j<ys.length:=by rw [r2.length]; simpa using h2
 obtain ⟨u',hu1,hu2⟩:=r1.get (List.getElem?_eq_getElem h1')
 obtain ⟨v',hv1,hv2⟩:=r2.get (List.getElem?_eq_getElem h2')
 have e1:us.toArray[j]=u':=by
  have:us[j]? = some us.toArray[j]:=by rw [List.getElem?_eq_getElem (by simpa using h1)]; simp
  rw [hu1] at this
  exact (Option.some.inj this).symm
 have e2:ws.toArray[j]=v':=by
  have:ws[j]? = some ws.toArray[j]:=by rw [List.getElem?_eq_getElem (by simpa using h2)]; simp
  rw [hv1] at this
  exact (Option.some.inj this).symm
 rw [e1,e2]
 exact sm I 3 hu2 hv2 (h.2 j _ _ (List.getElem?_eq_getElem h1') (List.getElem?_eq_getElem h2')) hu
theorem gH (hu:X.A.units+4<cLine):OpR X (compareOp .NotEq) (λx y H Q=>rNe x y H Q∨(∃ a b xs ys,x = .ref a∧y = .ref b∧gg H xs ys∧((H a=some (.lst xs)∧H b=some (.lst ys))∨(H a=some (.tup xs)∧H b=some (.tup ys)))∧Q (.bl false) H)):=by
 intro pins s σ H x y v u Q I rx ry h
 rcases h with h | ⟨a,b,xs,ys,rfl,rfl,hx,h,q⟩
 ·exact eB pins s σ H x y v u Q I rx ry h
 ·cases rx
  cases ry
  rcases h with ⟨ha,hb⟩ | ⟨ha,hb⟩
  ·obtain ⟨_,us,n1,r1,o1⟩:=I.hok a _ ha
   obtain ⟨_,ws,n2,r2,o2⟩:=I.hok b _ hb
   have hl:=hx.1
   have l1:=r1.length
   have l2:=r2.length
   refine SeqAt.RcNeAt.lists (e:=λ_=>true) ⟨_,o1,rfl,n1,rfl⟩ ⟨_,o2,rfl,n2,rfl⟩ (by simp only [List.size_toArray]; omega) (by omega) (mV I r1 r2 hx (by simp [Around.in1_units]; omega)) _ _ _ _ ⟨.bl false,H,I,?_,q⟩
   show _=Value.bool false
   simp
  ·obtain ⟨_,us,r1,t1⟩:=I.hok a _ ha
   obtain ⟨_,ws,r2,t2⟩:=I.hok b _ hb
   have hl:=hx.1
   have l1:=r1.length
   have l2:=r2.length
   refine SeqAt.RcNeAt.tuples (e:=λ_=>true) t1 t2 (by omega) (mV I r1 r2 hx (by simp [Around.in1_units]; omega)) _ _ _ _ ⟨.bl false,H,I,?_,q⟩
   show _=Value.bool false
   have:us.toArray.size=ws.toArray.size:=by simp only [List.size_toArray]; omega
   simp [this]
end
section
variable {prog:Program} {w:World} {A:Around} {E:Value→Shared→Prop} {s:Shared}
end
section
variable {P:Program} {w:World}
end
section
variable {X:Cx} {o e:Expr} {td ty:TE} {apos cpos:Pos}
end
noncomputable def Ext (p:Addr) (H H':Hp):Prop:=∀ b o,b≠p→H b=some o→H' b=some o
theorem Ext.of {p:Addr} {H H':Hp} (s:Same H H'):Ext p H H':=λb o _ e=>s b o e
theorem Ext.upd {p:Addr} {H:Hp} {o:HO}:Ext p H (upd H p o):=λb u hb e=>by rw [aj hb]; exact e
theorem Ext.trans {p:Addr} {H H1 H2:Hp} (a:Ext p H H1) (b:Ext p H1 H2):Ext p H H2:=λc o hc e=>b c o hc (a c o hc e)
noncomputable def xI (te:TE):Prop:=∀ σ H (Q Q':VK),(∀ y H,Q y H→Q' y H)→te σ H Q→te σ H Q'
theorem so {js:List Nat} {J:It} {te:TE} {σ:St} {H1:Hp} {Q:VK} {p:Addr} {fr:List (Option V)} (n:Nat) (hn:n≤1000) (hp:H1 p=none) (hfr:cS 1 js σ=none :: fr) (R:Nat→V→Hp→Prop) (hR:∀ i y H H',R i y H→Ext p H H'→R i y H')
  (go:∀ i H',i<n→Same H1 H'→J.go i H') (stop:∀ H',Same H1 H'→J.stop n H') (me:xI te)
  (step:∀ i H' x H2,i<n→Same H1 H'→(∃ ys,H' p=some (.lst ys))→J.yld i H' x H2→H2=H'∧te (some x :: fr) H' λy H4=>Same H' H4∧R i y H4)
  (fin:∀ ys H',Same H1 H'→H' p=some (.lst ys)→ys.length=n→(∀ (j:Nat) y,ys[j]? = some y→R j y H')→Q (.ref p) H'):LcW 1 js (bc 0) te σ Q J H1 p:=by
 refine my (k:=1) (js:=js) (J:=J) (p:=p) n hn (λi ys σ' H'=>(∃ o,σ'=o :: fr)∧Same H1 H'∧H' p=some (.lst ys)∧ys.length=i∧∀ (j:Nat) y,ys[j]? = some y→R j y H') ⟨⟨none,hfr⟩,af hp,ac,rfl,λj y h=>by simp at h⟩
  (λi ys σ' H' h=>by have:=h.2.2.2.1; omega) (λi ys σ' H' hi h=>go i H' hi h.2.1) (λys σ' H' h=>⟨stop H' h.2.1,fin ys H' h.2.1 h.2.2.1 h.2.2.2.1 h.2.2.2.2⟩) (λi ys σ' H' hi h x H2 hy=>?_) ?_ me
 ·obtain ⟨⟨o,rfl⟩,s1,hl,hlen,hrs⟩:=h
  obtain ⟨rfl,ht⟩:=step i H' x H2 hi s1 ⟨ys,hl⟩ hy
  refine me _ _ _ _ (λy H4 h4=>?_) ht
  obtain ⟨s4,r4⟩:=h4
  refine ⟨s4 _ _ hl,⟨some x,rfl⟩,aM hp (s1.trans s4),ac,by rw [List.length_append,hlen]; rfl,λj z hz=>?_⟩
  have ex:Ext p H2 (upd H4 p (.lst (ys++[y]))):=(Ext.of s4).trans Ext.upd
  by_cases hj:j<ys.length
  ·rw [List.getElem?_append_left hj] at hz
   exact hR _ _ _ _ (hrs j z hz) ex
  ·rw [List.getElem?_append_right (by omega)] at hz
   have hj':j - ys.length=0:=by
    cases e:j - ys.length with
    | zero=>rfl
    | succ m=>rw [e] at hz; simp at hz
   rw [hj'] at hz
   have ez:y=z:=by simpa using hz
   subst ez
   have ej:j=i:=by omega
   subst ej
   exact hR _ _ _ _ r4 Ext.upd
 ·intro _ _ _ _ _ m q
  exact m _ _ q
theorem dN {H:Hp} {p q:Addr} (hp:∃ ys,H p=some (.lst ys)) (hq:H q=none):q≠p:=λe=>by
 obtain ⟨ys,h⟩:=hp
 rw [← e,hq] at h
 cases h
section
variable {X:Cx} {N:List Str} {scope:Scope} {cl:List (Str×Addr)} {k:Nat} {js:List Nat}
theorem qm {elt tg iter c:Expr} {pos spos py:Pos} {y:Str} {ii:Nat} {wi:TI} {g:TG} {tc:TT} {te:TE} (hXN:X.N.Nodup) (hii:X.N[ii]? = some y) (hx:Loc X.env.scope y) (hc:X.calm=true) (L:LcOk X scope cl) (hN:N.length=k+js.length)
  (hj:∀ (i j:Nat) x,js[i]? = some j→N[k+i]? = some x→X.N[j]? = some x∧Vis X.env.scope x∧X.env.scope.names.lookup x≠some .local∧((relabel scope X.env).names.lookup x=some .cell∨(relabel scope X.env).names.lookup x=some .free))
  (hi:PI X tg iter wi) (hg:∀ s H fp,PG (cf X N scope cl s H fp) tg g) (ht:∀ s H fp,PT (cf X N scope cl s H fp) c tc) (he:∀ s H fp,PE (cf X N scope cl s H fp) elt te)
  (hs:∀ x,foldedSetIterable iter X.env x=pure x:=by intro _; rfl) (hsw:swapsWith (.ListComp elt [⟨tg,iter,[c],0⟩] scope pos) (some (.Name y py)) spos.line X.env=pure true:=by rfl)
  (hf:X.fn y=true∨X.env.scope.names.lookup y=some .local:=by first | exact .inl rfl | exact .inr rfl | assumption):PS X (.Assign [.Name y py] (.ListComp elt [⟨tg,iter,[c],0⟩] scope pos) spos) (vK (wc k js wi g tc te) (bc ii)):=by
 intro pins s σ H D I h
 rw [exec_Assign_Name_used _ _ _ _ hsw]
 refine wpAny_bind (wpAny_standAt (wpAny_bind ?_))
 show wpAny _ X.A (do let _ ← comprehension (.ListComp elt [⟨tg,iter,[c],0⟩] scope pos) scope X.env _ (newList []) false (eval iter X.env) (some (assign (.Name y py) X.env))) _ _ s
 refine wpAny_bind (wpAny_mono (wpAny_comprehension_free (use:=some (assign (.Name y py) X.env)) (Q:=λ_ s'=>∃ σ' H',Inv X pins σ' H' s'∧D.nx σ' H') rfl hs L.clos L.kind L.names ?_) (λ_ s' hq=>wpAny_pure (wpAny_pure hq)) λ_ _ e=>e)
 refine thn (hi pins s σ H _ I h) λv s1 h1=>thn h1 λitv s2 h2=>?_
 obtain ⟨it,fp,tn,J,H2,e,I2,T,st2,f2,hW⟩:=h2
 subst e
 have hfp:∀ b∈fp,b<s2.heap.objs.size:=λb hb=>by
  obtain ⟨o,e,_⟩:=T.obj _ _ st2 b hb
  exact Heap.lt_size e
 refine wpAny_newObj_type (wpAny_newFunctionEnv L.nocell (by intro y hy; simp at hy) (λh₁ hns hsb=>?_) L.kind)
 dsimp only at hns hsb ⊢
 obtain ⟨W,⟨m0,w0⟩,turn⟩:=hW s2.heap.objs.size (I2.hok.fresh (Nat.le_refl _))
 have I3:Inv X pins σ (upd H2 s2.heap.objs.size (.lst [])) { s2 with heap:=s2.heap.push { cls:=.type "list",dict:=none,data:=.seq ([]:List Value).toArray } }:=I2.lnew (t':=s2.toks) .nil (Nat.zero_le _)
 generalize hA:s2.heap.push { cls:=.type "list",dict:=none,data:=.seq ([]:List Value).toArray }=hpA at hns hsb I3 ⊢
 have hszA:hpA.objs.size=s2.heap.objs.size+1:=by rw [← hA,Heap.size_push]
 have keepA:∀ b o,s2.heap.get? b=some o→hpA.get? b=some o:=λb o e=>by rw [← hA]; exact Heap.get?_push_of_some _ e
 have f3:∀ b∈fp,dY X pins (upd H2 s2.heap.objs.size (.lst [])) b:=λb hb=>⟨by rw [aj (Nat.ne_of_lt (hfp b hb))]; exact (f2 b hb).1,(f2 b hb).2⟩
 have hfp3:∀ b∈fp,b<hpA.objs.size:=λb hb=>by rw [hszA]; exact Nat.lt_succ_of_lt (hfp b hb)
 have keep1:∀ b o,hpA.get? b=some o→h₁.get? b=some o:=λb o e=>hsb.extBut b o (Nat.ne_of_lt (Heap.lt_size e)) (Heap.get?_push_of_some _ e)
 have J0:=fJ (N:=N) (k:=k) (js:=js) (tk:=s2.toks+([]:List (Str×Value)).length) I3 L f3 hfp3 ⟨_,hns⟩ keep1 hN hj
 have st1:tn 0 h₁:=T.keep _ _ _ st2 λb hb o e=>keep1 b o (keepA b o e)
 have stat:∀ {H':Hp},(∀ b∈fp,H' b=none)→∀ b∈fp,dY (cf X N scope cl { s2 with heap:=hpA } (upd H2 s2.heap.objs.size (.lst [])) fp) [] H' b:=λhn b hb =>
  ⟨hn b hb,Nat.ne_of_lt (hfp3 b hb),(lV (N:=N) I3 L f3 hfp3).exfs b hb,.inl hb,λx c h=>(f3 b hb).2.2.2.2.1 x c (L.cells x c h),λp hp=>absurd (show p∈([]:List (Addr×Obj)) from hp) (by simp)⟩
 have loop:codeAny (model X.prog X.w) X.A (.compLoop (.ListComp elt [⟨tg,iter,[c],0⟩] scope pos) 0 (.ref it) (.ref s2.heap.objs.size) (compEnvC scope cl hpA.objs.size X.env))
   (compPost (model X.prog X.w) X.A X.xe (some (assign (.Name y py) X.env)) (λ_ s'=>∃ σ' H',Inv X pins σ' H' s'∧D.nx σ' H') (.ref s2.heap.objs.size) hpA.objs.size) { s2 with heap:=h₁,toks:=s2.toks+([]:List (Str×Value)).length }:=by
  refine lW (λn s'=>∃ i ys σ' H',Inv (cf X N scope cl { s2 with heap:=hpA } (upd H2 s2.heap.objs.size (.lst [])) fp) [] σ' H' s'∧tn i s'.heap∧(∀ b∈fp,H' b=none)∧W i n ys σ' H') ?_ m0 ⟨0,[],_,_,J0,st1,λb hb=>(f3 b hb).1,w0⟩
  rintro n s3 ⟨i,ys,σ3,H3,J3,st3,fr3,w3⟩
  rcases turn i n ys σ3 H3 w3 with ⟨stop,qn⟩ | ⟨go,hlen,step⟩
  ·refine thn (T.done (cf X N scope cl { s2 with heap:=hpA } (upd H2 s2.heap.objs.size (.lst [])) fp) rfl rfl rfl hc i [] s3 σ3 H3 (λ_ _=>False) J3 (stat fr3) st3 stop) λr s4 hpt=>?_
   obtain ⟨hr,J4⟩:=hpt
   subst hr
   obtain ⟨m,hm,_⟩:=J4.loc
   have I4:Inv X pins σ H3 s4:=kY I3 f3 J4 (Heap.SameBut.refl _ _)
   obtain ⟨f0,f1,f2,f3',f4,f5⟩:=I3.fpOk (b:=hpA.objs.size) (Nat.le_refl _) (H':=H3) J4.free
   show wpAny _ _ (assign (.Name y py) X.env (.ref s2.heap.objs.size)) _ _ _
   refine wpAny_assign_Name (gv I4 hXN hii hx (v:=.ref s2.heap.objs.size) rfl (λs5 I5 ⟨a,sb,ha⟩=>⟨m,hm.sameBut sb ?_,λh' hs'=>⟨_,H3,I5.turned (t':=s5.toks) (λb o hb e=>(hs'.2 b hb).trans e) f0 f1 f3' f4 f5,qn⟩⟩) hf)
   rcases ha with e | e
   ·rw [e]; exact f1
   ·exact λz=>f4 _ _ e z.symm
  ·refine thn (T.item (cf X N scope cl { s2 with heap:=hpA } (upd H2 s2.heap.objs.size (.lst [])) fp) rfl rfl rfl hc i [] s3 σ3 H3 (λ_ _=>False) J3 (stat fr3) st3 go) λr s4 hpt=>?_
   obtain ⟨u,hr,h4⟩:=hpt
   subst hr
   refine thn h4 λ_ s5 hpt=>?_
   obtain ⟨x,H5,J5,r5,y5,st5,fr5⟩:=hpt
   have J5':=J5.pinned (stat fr5) (T.obj _ _ st5)
   refine thn (hg _ _ _ _ s5 σ3 H5 x u _ J5' r5 (step x H5 y5)) λ_ s6 hpt=>?_
   obtain ⟨σ6,H6,J6,q6⟩:=hpt
   refine thn (ht _ _ _ _ s6 σ6 H6 _ J6 q6) λb s6 hpt=>?_
   obtain ⟨H6,J6,q6⟩:=hpt
   cases b with
   | true =>
    rw [if_pos rfl] at q6 ⊢
    refine thn (he _ _ _ _ s6 σ6 H6 _ J6 q6) λy s7 hpt=>?_
    obtain ⟨vy,H7,J7,r7,q7,m',hm',w7⟩:=hpt
    refine thn (cj _ s7 σ6 H7 (.ref s2.heap.objs.size) [vy] _ _ (λ_ H8=>H8=upd H7 s2.heap.objs.size (.lst (ys++[vy]))) J7 rfl (.cons r7 .nil) ⟨_,ys,vy,rfl,rfl,q7,hlen,rfl⟩) λ_ s8 hpt=>?_
    obtain ⟨_,H8,J8,_,e8⟩:=hpt
    subst e8
    refine ⟨m',hm',i+1,ys++[vy],σ6,_,J8.unpinned,T.keep _ _ _ st5 λb hb o e=>(J8.pin (b,o) (List.mem_append_right _ (List.mem_append_right _ (aW hb e)))).1,λb hb=>?_,w7⟩
    obtain ⟨o,e,d⟩:=T.obj _ _ st5 b hb
    exact (J8.pin (b,o) (List.mem_append_right _ (List.mem_append_right _ (aW hb e)))).2.1
   | false =>
    rw [if_neg (by simp)] at q6 ⊢
    obtain ⟨m',hm',w7⟩:=q6
    refine ⟨m',hm',i+1,ys,σ6,_,J6.unpinned,T.keep _ _ _ st5 λb hb o e=>(J6.pin (b,o) (List.mem_append_right _ (List.mem_append_right _ (aW hb e)))).1,λb hb=>?_,w7⟩
    obtain ⟨o,e,d⟩:=T.obj _ _ st5 b hb
    exact (J6.pin (b,o) (List.mem_append_right _ (List.mem_append_right _ (aW hb e)))).2.1
 exact codeAny_compStart_list loop (T.self _ 0 _ _ _ st1 loop)
theorem iR {elt tg iter:Expr} {pos spos py:Pos} {y:Str} {ii:Nat} {wi:TI} {g:TG} {te:TE} (hXN:X.N.Nodup) (hii:X.N[ii]? = some y) (hx:Loc X.env.scope y) (hc:X.calm=true) (L:LcOk X scope cl) (hN:N.length=k+js.length)
  (hj:∀ (i j:Nat) x,js[i]? = some j→N[k+i]? = some x→X.N[j]? = some x∧Vis X.env.scope x∧X.env.scope.names.lookup x≠some .local∧((relabel scope X.env).names.lookup x=some .cell∨(relabel scope X.env).names.lookup x=some .free))
  (hi:PI X tg iter wi) (hg:∀ s H fp,PG (cf X N scope cl s H fp) tg g) (he:∀ s H fp,PE (cf X N scope cl s H fp) elt te)
  (hs:∀ x,foldedSetIterable iter X.env x=pure x:=by intro _; rfl) (hsw:swapsWith (.ListComp elt [⟨tg,iter,[],0⟩] scope pos) (some (.Name y py)) spos.line X.env=pure true:=by rfl)
  (hf:X.fn y=true∨X.env.scope.names.lookup y=some .local:=by first | exact .inl rfl | exact .inr rfl | assumption):PS X (.Assign [.Name y py] (.ListComp elt [⟨tg,iter,[],0⟩] scope pos) spos) (vK (tLc k js wi g te) (bc ii)):=by
 intro pins s σ H D I h
 rw [exec_Assign_Name_used _ _ _ _ hsw]
 refine wpAny_bind (wpAny_standAt (wpAny_bind ?_))
 show wpAny _ X.A (do let _ ← comprehension (.ListComp elt [⟨tg,iter,[],0⟩] scope pos) scope X.env _ (newList []) false (eval iter X.env) (some (assign (.Name y py) X.env))) _ _ s
 refine wpAny_bind (wpAny_mono (wpAny_comprehension_free (use:=some (assign (.Name y py) X.env)) (Q:=λ_ s'=>∃ σ' H',Inv X pins σ' H' s'∧D.nx σ' H') rfl hs L.clos L.kind L.names ?_) (λ_ s' hq=>wpAny_pure (wpAny_pure hq)) λ_ _ e=>e)
 refine thn (hi pins s σ H _ I h) λv s1 h1=>thn h1 λitv s2 h2=>?_
 obtain ⟨it,fp,tn,J,H2,e,I2,T,st2,f2,hW⟩:=h2
 subst e
 have hfp:∀ b∈fp,b<s2.heap.objs.size:=λb hb=>by
  obtain ⟨o,e,_⟩:=T.obj _ _ st2 b hb
  exact Heap.lt_size e
 refine wpAny_newObj_type (wpAny_newFunctionEnv L.nocell (by intro y hy; simp at hy) (λh₁ hns hsb=>?_) L.kind)
 dsimp only at hns hsb ⊢
 obtain ⟨W,⟨m0,w0⟩,turn⟩:=hW s2.heap.objs.size (I2.hok.fresh (Nat.le_refl _))
 have I3:Inv X pins σ (upd H2 s2.heap.objs.size (.lst [])) { s2 with heap:=s2.heap.push { cls:=.type "list",dict:=none,data:=.seq ([]:List Value).toArray } }:=I2.lnew (t':=s2.toks) .nil (Nat.zero_le _)
 generalize hA:s2.heap.push { cls:=.type "list",dict:=none,data:=.seq ([]:List Value).toArray }=hpA at hns hsb I3 ⊢
 have hszA:hpA.objs.size=s2.heap.objs.size+1:=by rw [← hA,Heap.size_push]
 have keepA:∀ b o,s2.heap.get? b=some o→hpA.get? b=some o:=λb o e=>by rw [← hA]; exact Heap.get?_push_of_some _ e
 have f3:∀ b∈fp,dY X pins (upd H2 s2.heap.objs.size (.lst [])) b:=λb hb=>⟨by rw [aj (Nat.ne_of_lt (hfp b hb))]; exact (f2 b hb).1,(f2 b hb).2⟩
 have hfp3:∀ b∈fp,b<hpA.objs.size:=λb hb=>by rw [hszA]; exact Nat.lt_succ_of_lt (hfp b hb)
 have keep1:∀ b o,hpA.get? b=some o→h₁.get? b=some o:=λb o e=>hsb.extBut b o (Nat.ne_of_lt (Heap.lt_size e)) (Heap.get?_push_of_some _ e)
 have J0:=fJ (N:=N) (k:=k) (js:=js) (tk:=s2.toks+([]:List (Str×Value)).length) I3 L f3 hfp3 ⟨_,hns⟩ keep1 hN hj
 have st1:tn 0 h₁:=T.keep _ _ _ st2 λb hb o e=>keep1 b o (keepA b o e)
 have stat:∀ {H':Hp},(∀ b∈fp,H' b=none)→∀ b∈fp,dY (cf X N scope cl { s2 with heap:=hpA } (upd H2 s2.heap.objs.size (.lst [])) fp) [] H' b:=λhn b hb =>
  ⟨hn b hb,Nat.ne_of_lt (hfp3 b hb),(lV (N:=N) I3 L f3 hfp3).exfs b hb,.inl hb,λx c h=>(f3 b hb).2.2.2.2.1 x c (L.cells x c h),λp hp=>absurd (show p∈([]:List (Addr×Obj)) from hp) (by simp)⟩
 have loop:codeAny (model X.prog X.w) X.A (.compLoop (.ListComp elt [⟨tg,iter,[],0⟩] scope pos) 0 (.ref it) (.ref s2.heap.objs.size) (compEnvC scope cl hpA.objs.size X.env))
   (compPost (model X.prog X.w) X.A X.xe (some (assign (.Name y py) X.env)) (λ_ s'=>∃ σ' H',Inv X pins σ' H' s'∧D.nx σ' H') (.ref s2.heap.objs.size) hpA.objs.size) { s2 with heap:=h₁,toks:=s2.toks+([]:List (Str×Value)).length }:=by
  refine oQ (λn s'=>∃ i ys σ' H',Inv (cf X N scope cl { s2 with heap:=hpA } (upd H2 s2.heap.objs.size (.lst [])) fp) [] σ' H' s'∧tn i s'.heap∧(∀ b∈fp,H' b=none)∧W i n ys σ' H') ?_ m0 ⟨0,[],_,_,J0,st1,λb hb=>(f3 b hb).1,w0⟩
  rintro n s3 ⟨i,ys,σ3,H3,J3,st3,fr3,w3⟩
  rcases turn i n ys σ3 H3 w3 with ⟨stop,qn⟩ | ⟨go,hlen,step⟩
  ·refine thn (T.done (cf X N scope cl { s2 with heap:=hpA } (upd H2 s2.heap.objs.size (.lst [])) fp) rfl rfl rfl hc i [] s3 σ3 H3 (λ_ _=>False) J3 (stat fr3) st3 stop) λr s4 hpt=>?_
   obtain ⟨hr,J4⟩:=hpt
   subst hr
   obtain ⟨m,hm,_⟩:=J4.loc
   have I4:Inv X pins σ H3 s4:=kY I3 f3 J4 (Heap.SameBut.refl _ _)
   obtain ⟨f0,f1,f2,f3',f4,f5⟩:=I3.fpOk (b:=hpA.objs.size) (Nat.le_refl _) (H':=H3) J4.free
   show wpAny _ _ (assign (.Name y py) X.env (.ref s2.heap.objs.size)) _ _ _
   refine wpAny_assign_Name (gv I4 hXN hii hx (v:=.ref s2.heap.objs.size) rfl (λs5 I5 ⟨a,sb,ha⟩=>⟨m,hm.sameBut sb ?_,λh' hs'=>⟨_,H3,I5.turned (t':=s5.toks) (λb o hb e=>(hs'.2 b hb).trans e) f0 f1 f3' f4 f5,qn⟩⟩) hf)
   rcases ha with e | e
   ·rw [e]; exact f1
   ·exact λz=>f4 _ _ e z.symm
  ·refine thn (T.item (cf X N scope cl { s2 with heap:=hpA } (upd H2 s2.heap.objs.size (.lst [])) fp) rfl rfl rfl hc i [] s3 σ3 H3 (λ_ _=>False) J3 (stat fr3) st3 go) λr s4 hpt=>?_
   obtain ⟨u,hr,h4⟩:=hpt
   subst hr
   refine thn h4 λ_ s5 hpt=>?_
   obtain ⟨x,H5,J5,r5,y5,st5,fr5⟩:=hpt
   have J5':=J5.pinned (stat fr5) (T.obj _ _ st5)
   refine thn (hg _ _ _ _ s5 σ3 H5 x u _ J5' r5 (step x H5 y5)) λ_ s6 hpt=>?_
   obtain ⟨σ6,H6,J6,q6⟩:=hpt
   refine thn (he _ _ _ _ s6 σ6 H6 _ J6 q6) λy s7 hpt=>?_
   obtain ⟨vy,H7,J7,r7,q7,m',hm',w7⟩:=hpt
   refine thn (cj _ s7 σ6 H7 (.ref s2.heap.objs.size) [vy] _ _ (λ_ H8=>H8=upd H7 s2.heap.objs.size (.lst (ys++[vy]))) J7 rfl (.cons r7 .nil) ⟨_,ys,vy,rfl,rfl,q7,hlen,rfl⟩) λ_ s8 hpt=>?_
   obtain ⟨_,H8,J8,_,e8⟩:=hpt
   subst e8
   refine ⟨m',hm',i+1,ys++[vy],σ6,_,J8.unpinned,T.keep _ _ _ st5 λb hb o e=>(J8.pin (b,o) (List.mem_append_right _ (List.mem_append_right _ (aW hb e)))).1,λb hb=>?_,w7⟩
   obtain ⟨o,e,d⟩:=T.obj _ _ st5 b hb
   exact (J8.pin (b,o) (List.mem_append_right _ (List.mem_append_right _ (aW hb e)))).2.1
 exact codeAny_compStart_list loop (T.self _ 0 _ _ _ st1 loop)
end
noncomputable abbrev TJ:=St→Hp→(Hp→Prop)→Prop
section
variable {X:Cx}
noncomputable def PJ (X:Cx) (ps:List Expr) (b:Nat) (t:TJ):Prop :=
 ∀ (out:Str) (pins:List (Addr×Obj)) (s:Shared) (σ:St) (H:Hp) (Q:VK),Inv X pins σ H s→out.length+b≤1000→(t σ H λH1=>∀ y,Q (.str y) H1)→wpAny (model X.prog X.w) X.A (joinParts out (evalEach ps X.env)) (EP X pins σ Q) X.xe s
theorem ww:PJ X [] 0 (λσ H k=>k H):=by
 intro out pins s σ H Q I hb h
 exact joinParts_nilE (joinParts_nil ⟨.str _,H,I.tok _,⟨_,rfl⟩,h _⟩ (Nat.le_of_lt (aS (by omega))))
theorem sr {x:Str} {c b:Nat} {j:Nat} {p:Pos} {ps:List Expr} {t:TJ} (hx:x.length≤c) (h:PJ X ps b t):PJ X (.Constant (.str x) j p :: ps) (c+b) t:=by
 intro out pins s σ H Q I hb hq
 refine joinParts_cons (Calls.Constant_str ?_)
 have hl:(out++x).length=out.length+x.length:=strLen_append ..
 exact ⟨Nat.le_of_lt (aS (by omega)),h _ pins _ σ H Q (I.tok _) (by omega) hq⟩
theorem wx {e:Expr} {te:TE} {b:Nat} {p:Pos} {ps:List Expr} {t:TJ} (he:PE X e te) (h:PJ X ps b t):PJ X (.FormattedValue e (-1) none p :: ps) (100+b) (λσ H k=>te σ H λv H1=>∃ i:Int,v = .int i∧0≤i∧i≤60∧t σ H1 k):=by
 intro out pins s σ H Q I hb hq
 refine joinParts_cons (FormattedValue_plain (thn (he pins _ σ H _ I hq) λv s1 hpt=>?_))
 obtain ⟨y,H1,I1,r1,q1⟩:=hpt
 obtain ⟨i,rfl,h0,h1,q⟩:=q1
 obtain ⟨tk,rfl⟩:=r1
 have h2:=nU i h0 h1
 have hl:(out++Str.ofString (toString i)).length=out.length+(Str.ofString (toString i)).length:=strLen_append ..
 refine formatField_int_small (Nat.lt_of_le_of_lt (Nat.log2_le_self _) (by omega)) ⟨Nat.le_of_lt (aS (by omega)),?_⟩
 exact h _ pins _ σ H1 Q (I1.tok _) (by omega) q
noncomputable def xJ (t:TJ):TE:=λσ H Q=>t σ H λH1=>∀ y,Q (.str y) H1
theorem uo {p1 p2:Expr} {ps:List Expr} {pos:Pos} {b:Nat} {t:TJ} (h:PJ X (p1 :: p2 :: ps) b t) (hb:b≤1000):PE X (.JoinedStr (p1 :: p2 :: ps) pos) (xJ t):=by
 intro pins s σ H Q I hq
 exact JoinedStr_many (h Str.empty pins s σ H Q I (by show 0+b≤1000; omega) hq)
end
section
variable {X:Cx} {tg:Expr}
theorem yr {E:XK} (L:Lv X E):PassesOwn (model X.prog X.w) X.A X.env X.xe:=by
 rw [L.xe]; exact PassesOwn.leaving
noncomputable def iDK (td:TE):TI:=λσ H R=>td σ H λv H1=>∃ d kvs,v = .ref d∧H1 d=some (.dK kvs)∧∀ o,R (Itk d o (.dK kvs) (kvs.map λp=>kV p.1)) (upd H1 d (.frz o (.dK kvs)))
theorem vq {l:Expr} {tl:TE} (hl:PE X l tl):PI X tg l (iDK tl):=by
 intro pins s σ H R I h
 refine thn (hl pins s σ H _ I h) λv s1 hpt=>?_
 obtain ⟨x,H1,I1,r1,q1⟩:=hpt
 obtain ⟨d,kvs,e,hH,q⟩:=q1
 subst e
 cases r1
 obtain ⟨hz,hsm,vs,rel,o,es,ep,ho,hx,hd,hk,hp,hn⟩:=I1.hok d _ hH
 have I2:Inv X pins σ (upd H1 d (.frz o (.dK kvs))) s1:=I1.write (t':=s1.toks) (x:=d) (e:=d) (by rw [hH]; trivial) (.inl rfl) (λ_ _ _ q=>q) ⟨o,ho⟩ ⟨ho,hz,hsm,vs,rel,o,es,ep,ho,hx,hd,hk,hp,hn⟩
 refine si hsm ⟨o,ho,hx,hd⟩ ?_
 refine ⟨s1.heap.objs.size,[s1.heap.objs.size],_,_,upd H1 d (.frz o (.dK kvs)),rfl,I2.kept (t':=s1.toks) λb o e=>Heap.get?_push_of_some _ e,ql hx hd ?_,⟨_,Heap.get?_push_size _ rfl,rfl,rfl⟩,λb hb=>?_,q o⟩
 ·have key:∀ (es:List DictEntry) (vs:List (Key×Value)) (kvs:List (Key×V)),Pairs (aD X.prog X.w) es vs→KV kvs vs→aE (kvs.map λp=>kV p.1) (es.map (·.key)):=by
   intro es vs kvs hp
   induction hp generalizing kvs with
   | nil=>intro r; cases r; exact .nil
   | cons h1 h2 _ ih =>
    intro r
    cases r with
    | cons r1 r2 =>
     refine .cons ?_ (ih _ r2)
     dsimp only
     rw [r1.1]
     rcases aV h1 with ⟨i,t,e1,e2⟩ | ⟨x,t,e1,e2⟩
     ·rw [e1,e2]; exact ⟨t,rfl⟩
     ·rw [e1,e2]; exact ⟨t,rfl⟩
  exact key _ _ _ hp rel
 ·have e:b=s1.heap.objs.size:=by simpa using hb
  subst e
  exact I2.fpOk (Nat.le_refl _) (I2.hok.fresh (Nat.le_refl _))
theorem nV (hu:X.A.units+1<cLine):OpR X (compareOp .In) (λx y H Q=>∃ a p ks,∃ kss:List (Addr×List Key),x = .ref a∧H a=some (.tup (ks.map kV))∧y = .ref p∧SqL X.K H p ((kss.map (·.1)).map V.ref) ∧
  (∀ z∈kss,H z.1=some (.tup (z.2.map kV)))∧Q (.bl (kss.any λz=>decide (z.2=ks))) H):=by
 intro pins s σ H x y v u Q I rx ry h
 obtain ⟨a,p,ks,kss,rfl,ha,rfl,hq,hk,q⟩:=h
 cases rx
 cases ry
 obtain ⟨its,rv,pl,hz⟩:=I.list hq
 have e:=cW rv
 subst e
 let e:Value→Bool:=λv=>match v with | .ref b=>((kss.find? λz=>z.1 == b).map λz=>decide (z.2=ks)).getD false | _=>false
 have he:∀ z∈kss,e (.ref z.1)=decide (z.2=ks):=λz hz'=>by
  show ((kss.find? λy=>y.1 == z.1).map λz=>decide (z.2=ks)).getD false=_
  cases ef:kss.find? λy=>y.1 == z.1 with
  | none=>have:=List.find?_eq_none.mp ef z hz'; simp at this
  | some y =>
   have h1:=List.find?_some ef
   have h2:=List.mem_of_find?_eq_some ef
   have e1:y.1=z.1:=by simpa using h1
   have e2:=hk y h2
   rw [e1,hk z hz'] at e2
   have e3:z.2.map kV=y.2.map kV:=by injection (Option.some.inj e2)
   rw [kJ e3]; rfl
 refine SeqAt.in_listAt e pl.isList (λy hy=>?_) ⟨.bl _,H,I,rfl,?_⟩
 ·have hy':y∈(kss.map (·.1)).map Value.ref:=by simpa using hy
  obtain ⟨b,hb,rfl⟩:=List.mem_map.mp hy'
  obtain ⟨z,hz',rfl⟩:=List.mem_map.mp hb
  rw [he z hz']
  intro prog w E' Q' hQ
  exact wpAny_eqBool_tuple (knd:=aD prog w) (by simp; exact hu) (rS I (hk z hz') prog w) (rS I ha prog w) hQ
 ·have e1:(((kss.map (·.1)).map Value.ref).toArray.any e)=kss.any λz=>decide (z.2=ks):=by
   rw [List.any_toArray,List.any_map,List.any_map]
   apply Bool.eq_iff_iff.mpr
   rw [List.any_eq_true,List.any_eq_true]
   constructor
   ·rintro ⟨z,hz',h1⟩; exact ⟨z,hz',by rw [← he z hz']; exact h1⟩
   ·rintro ⟨z,hz',h1⟩; exact ⟨z,hz',by show e (.ref z.1)=true; rw [he z hz']; exact h1⟩
  rw [e1]
  exact q
end
theorem Same.seqT {K:PySem.W.Frag} {H H':Hp} {a:Addr} {xs:List V} (e:Same H H') (h:SqT K H a xs):SqT K H' a xs:=by
 rcases h with (h | ⟨o,h⟩) | h
 ·exact .inl (.inl (e _ _ h))
 ·exact .inl (.inr ⟨o,e _ _ h⟩)
 ·exact .inr h
structure Src (J:It) (H1:Hp) (xs:List V):Prop where
 go:∀ i H',i<xs.length→Same H1 H'→J.go i H'
 stop:∀ H',Same H1 H'→J.stop xs.length H'
 yl:∀ i H' x H2,i<xs.length→Same H1 H'→J.yld i H' x H2→H2=H'∧xs[i]? = some x
theorem dk {K:PySem.W.Frag} {a:Addr} {xs:List V} {H1:Hp} (h:SqT K H1 a xs):Src (Itt K a) H1 xs :=
 ⟨λi H' hi s=>⟨xs,xs[i],s.seqT h,List.getElem?_eq_getElem hi⟩,λH' s=>⟨xs,s.seqT h,Nat.le_refl _⟩,λi H' x H2 _ s ⟨e,y⟩=>⟨e,y xs (by subst e; exact s.seqT h)⟩⟩
theorem gh {K:PySem.W.Frag} {a:Addr} {xs:List V} {H1:Hp} (h:SqL K H1 a xs):Src (Itl K a) H1 xs :=
 ⟨λi H' hi s=>⟨xs,xs[i],s.seq h,List.getElem?_eq_getElem hi⟩,λH' s=>⟨xs,s.seq h,Nat.le_refl _⟩,λi H' x H2 _ s ⟨e,y⟩=>⟨e,y xs (by subst e; exact s.seq h)⟩⟩
theorem mX {d:Addr} {o:Obj} {u:HO} {ks:List V} {H1:Hp} (h:H1 d=some (.frz o u)):Src (Itk d o u ks) H1 ks :=
 ⟨λi H' hi s=>⟨s _ _ h,hi⟩,λH' s=>⟨s _ _ h,Nat.le_refl _⟩,λi H' x H2 _ s ⟨e,y⟩=>⟨e,y⟩⟩
theorem uq {lo:Int} {n:Nat} {H1:Hp}:Src (Itr lo n) H1 ((List.range n).map λi=>V.int (lo+(i:Nat))) :=
 ⟨λi H' hi s=>by show i<n; simpa using hi,λH' s=>by show n≤_; simp,λi H' x H2 hi s ⟨e,y⟩=>⟨e,by
  have hi':i<n:=by simpa using hi
  rw [List.getElem?_map,List.getElem?_range hi',y]; rfl⟩⟩
theorem Paired.snoc {α β:Type} {R:α→β→Prop}:∀ {as:List α} {bs:List β} {a:α} {b:β},Paired R as bs→R a b→Paired R (as++[a]) (bs++[b])
 | _,_,_,_,.nil,h=>.cons h .nil
 | _,_,_,_,.cons r t,h=>.cons r (Paired.snoc t h)
theorem dO {α:Type} {js:List Nat} {J:It} {tc:TT} {te:TE} {σ:St} {H1:Hp} {Q:VK} {p:Addr} {fr:List (Option V)} (zs:List α) (val:α→V) (hn:zs.length≤1000) (hp:H1 p=none) (S:Src J H1 (zs.map val)) (hfr:cS 1 js σ=none :: fr) (g:α→Bool) (R:α→V→Hp→Prop)
  (hR:∀ z y H H',R z y H→Ext p H H'→R z y H')
  (cond:∀ z H' (k:Bool→Hp→Prop),z∈zs→Same H1 H'→(∃ ys,H' p=some (.lst ys))→(∀ H4,Same H' H4→k (g z) H4)→tc (some (val z) :: fr) H' k)
  (elt:∀ z H' (k:VK),z∈zs→g z=true→Same H1 H'→(∃ ys,H' p=some (.lst ys))→(∀ y H4,Same H' H4→R z y H4→k y H4)→te (some (val z) :: fr) H' k)
  (fin:∀ ys H',Same H1 H'→H' p=some (.lst ys)→Paired (λz y=>R z y H') (zs.filter g) ys→Q (.ref p) H'):xF 1 js (bc 0) tc te σ Q J H1 p:=by
 have grow:∀ {as:List α} {ys:List V} {H H':Hp},Ext p H H'→Paired (λz y=>R z y H) as ys→Paired (λz y=>R z y H') as ys:=λex r=>Paired.mapP r λa b h=>hR a b _ _ h ex
 have hlen:∀ {as:List α} {ys:List V} {H:Hp},Paired (λz y=>R z y H) as ys→ys.length=as.length:=λr=>(Paired.length r).symm
 refine ⟨λi m ys σ' H'=>m=zs.length - i∧i≤zs.length∧(∃ o,σ'=o :: fr)∧Same H1 H'∧H' p=some (.lst ys)∧Paired (λz y=>R z y H') ((zs.take i).filter g) ys,⟨zs.length,by simp,Nat.zero_le _,⟨none,hfr⟩,af hp,ac,.nil⟩,?_⟩
 rintro i m ys σ' H' ⟨rfl,hi,⟨o,rfl⟩,s1,hl,hys⟩
 by_cases hlt:i<zs.length
 ·have hlt':i<(zs.map val).length:=by rw [List.length_map]; exact hlt
  refine .inr ⟨S.go i H' hlt' s1,?_,λx H2 hy=>?_⟩
  ·have h1:ys.length≤zs.length:=by
    rw [hlen hys]
    exact Nat.le_trans (List.length_filter_le _ _) (by rw [List.length_take]; omega)
   exact Nat.lt_of_le_of_lt h1 (aS hn)
  ·obtain ⟨rfl,hx⟩:=S.yl i H' x H2 hlt' s1 hy
   have gz:zs[i]? = some zs[i]:=List.getElem?_eq_getElem hlt
   have mz:=List.mem_of_getElem? gz
   rw [List.getElem?_map,gz] at hx
   have ex:val zs[i]=x:=Option.some.inj hx
   have et:zs.take (i+1)=zs.take i++[zs[i]]:=cX gz
   subst ex
   generalize zs[i]=z at gz mz et ⊢
   refine cond z H2 _ mz s1 ⟨ys,hl⟩ λH4 s4=>?_
   cases hb:g z with
   | true =>
    rw [if_pos rfl]
    refine elt z H4 _ mz hb (s1.trans s4) ⟨ys,s4 _ _ hl⟩ λy H5 s5 r5=>⟨s5 _ _ (s4 _ _ hl),zs.length - (i+1),by omega,rfl,hlt,⟨_,rfl⟩,aM hp ((s1.trans s4).trans s5),ac,?_⟩
    rw [et,List.filter_append,List.filter_cons_of_pos hb]
    exact Paired.snoc (grow ((Ext.of (s4.trans s5)).trans Ext.upd) hys) (hR _ _ _ _ r5 Ext.upd)
   | false =>
    rw [if_neg (by simp)]
    refine ⟨zs.length - (i+1),by omega,rfl,hlt,⟨_,rfl⟩,s1.trans s4,s4 _ _ hl,?_⟩
    rw [et,List.filter_append,List.filter_cons_of_neg (by simp [hb]),List.filter_nil,List.append_nil]
    exact grow (Ext.of s4) hys
 ·have e:i=zs.length:=by omega
  subst e
  have st:=S.stop H' s1
  rw [List.length_map] at st
  refine .inl ⟨st,fin ys H' s1 hl ?_⟩
  rw [List.take_length] at hys
  exact hys
theorem dP {α:Type} {js:List Nat} {J:It} {te:TE} {σ:St} {H1:Hp} {Q:VK} {p:Addr} {fr:List (Option V)} (zs:List α) (val:α→V) (hn:zs.length≤1000) (hp:H1 p=none) (S:Src J H1 (zs.map val)) (hfr:cS 1 js σ=none :: fr) (R:α→V→Hp→Prop)
  (hR:∀ z y H H',R z y H→Ext p H H'→R z y H')
  (elt:∀ z H' (k:VK),z∈zs→Same H1 H'→(∃ ys,H' p=some (.lst ys))→(∀ y H4,Same H' H4→R z y H4→k y H4)→te (some (val z) :: fr) H' k)
  (fin:∀ ys H',Same H1 H'→H' p=some (.lst ys)→Paired (λz y=>R z y H') zs ys→Q (.ref p) H'):LcW 1 js (bc 0) te σ Q J H1 p:=by
 have grow:∀ {as:List α} {ys:List V} {H H':Hp},Ext p H H'→Paired (λz y=>R z y H) as ys→Paired (λz y=>R z y H') as ys:=λex r=>Paired.mapP r λa b h=>hR a b _ _ h ex
 have hlen:∀ {as:List α} {ys:List V} {H:Hp},Paired (λz y=>R z y H) as ys→ys.length=as.length:=λr=>(Paired.length r).symm
 refine ⟨λi m ys σ' H'=>m=zs.length - i∧i≤zs.length∧(∃ o,σ'=o :: fr)∧Same H1 H'∧H' p=some (.lst ys)∧Paired (λz y=>R z y H') (zs.take i) ys,⟨zs.length,by simp,Nat.zero_le _,⟨none,hfr⟩,af hp,ac,.nil⟩,?_⟩
 rintro i m ys σ' H' ⟨rfl,hi,⟨o,rfl⟩,s1,hl,hys⟩
 by_cases hlt:i<zs.length
 ·have hlt':i<(zs.map val).length:=by rw [List.length_map]; exact hlt
  refine .inr ⟨S.go i H' hlt' s1,?_,λx H2 hy=>?_⟩
  ·have h1:ys.length≤zs.length:=by
    rw [hlen hys,List.length_take]; omega
   exact Nat.lt_of_le_of_lt h1 (aS hn)
  ·obtain ⟨rfl,hx⟩:=S.yl i H' x H2 hlt' s1 hy
   have gz:zs[i]? = some zs[i]:=List.getElem?_eq_getElem hlt
   have mz:=List.mem_of_getElem? gz
   rw [List.getElem?_map,gz] at hx
   have ex:val zs[i]=x:=Option.some.inj hx
   have et:zs.take (i+1)=zs.take i++[zs[i]]:=cX gz
   subst ex
   generalize zs[i]=z at gz mz et ⊢
   refine elt z H2 _ mz s1 ⟨ys,hl⟩ λy H5 s5 r5=>⟨s5 _ _ hl,zs.length - (i+1),by omega,rfl,hlt,⟨_,rfl⟩,aM hp (s1.trans s5),ac,?_⟩
   rw [et]
   exact Paired.snoc (grow ((Ext.of s5).trans Ext.upd) hys) (hR _ _ _ _ r5 Ext.upd)
 ·have e:i=zs.length:=by omega
  subst e
  have st:=S.stop H' s1
  rw [List.length_map] at st
  refine .inl ⟨st,fin ys H' s1 hl ?_⟩
  rw [List.take_length] at hys
  exact hys
theorem cY {α β:Type} {R:α→V→Prop} {val:β→V} {S:α→β→Prop} {zs:List α} {ys:List V} (h:Paired R zs ys) (f:∀ z y,z∈zs→R z y→∃ b,y=val b∧S z b) :
  ∃ bs:List (α×β),bs.map (·.1)=zs∧ys=bs.map (λx=>val x.2)∧∀ x∈bs,S x.1 x.2:=by
 induction h with
 | nil=>exact ⟨[],rfl,rfl,by simp⟩
 | @cons a y as bs r _ ih =>
  obtain ⟨cs,e1,e2,e3⟩:=ih λz y hz=>f z y (by simp [hz])
  obtain ⟨b,e,s⟩:=f _ _ (by simp) r
  refine ⟨(a,b) :: cs,by rw [List.map_cons,e1],by rw [List.map_cons,← e2,e],λx hx=>?_⟩
  rcases List.mem_cons.mp hx with rfl | hx
  ·exact s
  ·exact e3 x hx
theorem bM {α:Type} {R:α→V→Prop} {f:α→V} {zs:List α} {ys:List V} (h:Paired R zs ys) (hf:∀ z y,z∈zs→R z y→y=f z):ys=zs.map f:=by
 induction h with
 | nil=>rfl
 | cons r _ ih=>rw [List.map_cons,← ih λz y hz=>hf z y (by simp [hz]),hf _ _ (by simp) r]
theorem xK {X:Cx}:kw (CX1 X.prog X.w) X E0:=λ_ _ _ _ _ _ _ ⟨_,_,_,_,_,h⟩=>h.elim
theorem Inv.thaw {X:Cx} {pins:List (Addr×Obj)} {σ:St} {H:Hp} {s:Shared} {d:Addr} {o:Obj} {kvs:List (Key×V)} (I:Inv X pins σ H s) (h:H d=some (.frz o (.dK kvs))) (h0:X.H₀ d=none):Inv X pins σ (upd H d (.dK kvs)) s:=by
 have nd:∀ b u,H b=some u→(∀ o' u',u ≠ .frz o' u')→b≠d:=λb u e hn z=>by
  subst z; rw [h] at e; cases e; exact hn _ _ rfl
 have nn:∀ b,H b=none→b≠d:=λb e z=>by
  subst z; rw [h] at e; cases e
 refine ⟨I.ok,I.os,I.bare,⟨I.base.keep,I.base.slot,λb o e n hx=>?_,I.base.there,λb xs e=>?_,λb o' u e=>?_,λb ps e=>?_⟩,I.loc,I.cell,?_,λx c e=>?_,λp hp=>?_,λb u e=>?_,I.len⟩
 ·have:=I.base.free b o e n hx
  rw [aj (nn b this)]; exact this
 ·have:=I.base.tups b xs e
  rw [aj (nd b _ this λ_ _ z=>by cases z)]; exact this
 ·have hb:b≠d:=λz=>by subst z; rw [h0] at e; cases e
  rw [aj hb]; exact I.base.frzs b o' u e
 ·obtain ⟨m,this⟩:=I.base.tbls b ps e
  exact ⟨m,by rw [aj (nd b _ this λ_ _ z=>by cases z)]; exact this⟩
 ·rw [aj (nn _ I.free)]; exact I.free
 ·rw [aj (nn _ (I.freeC x c e))]; exact I.freeC x c e
 ·obtain ⟨e,n,r⟩:=I.pin p hp
  exact ⟨e,by rw [aj (nn _ n)]; exact n,r⟩
 ·by_cases hb:b=d
  ·subst hb
   rw [ac] at e
   cases e
   obtain ⟨_,q⟩:=I.hok b _ h
   exact q
  ·rw [aj hb] at e
   exact (I.hok b u e).stay (λ_ _ _ q=>q) (λc q=>by rw [aj (nd c _ q λ_ _ z=>by cases z)]; exact q) λc xs q=>by rw [aj (nd c _ q λ_ _ z=>by cases z)]; exact q
noncomputable def xL (H₀:Hp) (t:TS):TS:=λD σ H=>∃ d o kvs,H₀ d=none∧H d=some (.frz o (.dK kvs))∧t D σ (upd H d (.dK kvs))
theorem ut {X:Cx} {st:Stmt} {t:TS} (hs:PS X st t):PS X st (xL X.H₀ t):=λpins s σ H D I ⟨d,o,kvs,h0,h,ht⟩=>hs pins s σ _ D (I.thaw h h0) ht
end L2
namespace TW
structure Nd (S:Type) where
 num:Int
 par:Int
 nm:S
 st:Option Int
section
variable {S:Type}
inductive Reach (ns:List (Nd S)) (f:Int):Nd S→Prop where
 | base {n:Nd S}:n∈ns→n.par=f→Reach ns f n
 | step {m n:Nd S}:Reach ns f m→m.st=none→n∈ns→n.par=m.num→Reach ns f n
theorem Reach.mem {ns:List (Nd S)} {f:Int} {n:Nd S} (h:Reach ns f n):n∈ns:=by
 cases h <;> assumption
theorem Reach.mono {ns ms:List (Nd S)} {f:Int} {n:Nd S} (h:Reach ns f n) (hs:∀ x∈ns,x∈ms):Reach ms f n:=by
 induction h with
 | base hm hp=>exact .base (hs _ hm) hp
 | step _ hf hm hp ih=>exact .step ih hf (hs _ hm) hp
noncomputable def inside (ns:List (Nd S)) (k:Int):List (Nd S):=ns.filter λn=>decide (n.par=k)
noncomputable def dB (dn:List Int) (n:Nd S):Bool:=decide (n.par∈dn)
structure Walk (ns:List (Nd S)) (f:Int) (dn:List Int) (fd:List (Nd S)) (pd:List Int):Prop where
 perm:fd.Perm (ns.filter (dB dn))
 reach:∀ n∈fd,Reach ns f n
 cover:∀ k,(k∈pd∨k∈dn)↔(k=f∨∃ m∈fd,m.st=none∧m.num=k)
theorem Walk.start (ns:List (Nd S)) (f:Int):Walk ns f [] [] [f]:=by
 refine ⟨?_,by simp,λk=>by simp⟩
 have e:ns.filter (dB [])=[]:=by
  rw [List.filter_eq_nil_iff]; intro a _; simp [dB]
 rw [e]
theorem eI {α:Type} (p q:α→Bool) (hd:∀ x,p x=true→q x=true→False):∀ l:List α,
  (l.filter p++l.filter q).Perm (l.filter λx=>p x || q x)
 | []=>by simp
 | x :: l=>by
  have ih:=eI p q hd l
  cases hp:p x with
  | true =>
   have hq:q x=false:=by
    cases h:q x with
    | false=>rfl
    | true=>exact (hd x hp h).elim
   rw [List.filter_cons_of_pos hp,List.filter_cons_of_neg (by simp [hq]),List.filter_cons_of_pos (by simp [hp])]
   exact List.Perm.cons x ih
  | false =>
   cases hq:q x with
   | true =>
    rw [List.filter_cons_of_neg (by simp [hp]),List.filter_cons_of_pos hq,List.filter_cons_of_pos (by simp [hq])]
    exact List.perm_middle.trans (List.Perm.cons x ih)
   | false =>
    rw [List.filter_cons_of_neg (by simp [hp]),List.filter_cons_of_neg (by simp [hq]),List.filter_cons_of_neg (by simp [hp,hq])]
    exact ih
noncomputable def here (ns:List (Nd S)) (dn:List Int) (x:Int):List (Nd S):=if x∈dn then [] else inside ns x
noncomputable def aO (l:List (Nd S)):List Int:=(l.filter λn=>n.st.isNone).map (·.num)
theorem gS {l:List (Nd S)} {k:Int}:k∈aO l↔∃ m∈l,m.st=none∧m.num=k:=by
 unfold aO
 rw [List.mem_map]
 constructor
 ·rintro ⟨m,hm,e⟩
  rw [List.mem_filter] at hm
  exact ⟨m,hm.1,by simpa using hm.2,e⟩
 ·rintro ⟨m,hm,h,e⟩
  exact ⟨m,List.mem_filter.mpr ⟨hm,by simp [h]⟩,e⟩
theorem Walk.turn {ns:List (Nd S)} {f x:Int} {dn:List Int} {fd:List (Nd S)} {pd:List Int} (w:Walk ns f dn fd (pd++[x])) :
  Walk ns f (x :: dn) (fd++here ns dn x) (pd++aO (here ns dn x)):=by
 have hx:=(w.cover x).mp (.inl (by simp))
 by_cases hd:x∈dn
 ·have eh:here ns dn x=[]:=by unfold here; rw [if_pos hd]
  rw [eh]
  refine ⟨?_,by simpa using w.reach,λk=>?_⟩
  ·have e:ns.filter (dB (x :: dn))=ns.filter (dB dn):=by
    apply List.filter_congr
    intro n _
    simp only [dB,List.mem_cons,decide_eq_decide]
    constructor
    ·rintro (h | h)
     ·rw [h]; exact hd
     ·exact h
    ·exact .inr
   rw [e,List.append_nil]; exact w.perm
  ·have c:=w.cover k
   rw [List.append_nil,← c]
   simp only [aO,List.filter_nil,List.map_nil,List.append_nil,List.mem_append,List.mem_cons,List.not_mem_nil,or_false]
   constructor
   ·rintro (h | h | h)
    ·exact .inl (.inl h)
    ·exact .inl (.inr h)
    ·exact .inr h
   ·rintro ((h | h) | h)
    ·exact .inl h
    ·exact .inr (.inl h)
    ·exact .inr (.inr h)
 ·have eh:here ns dn x=inside ns x:=by unfold here; rw [if_neg hd]
  rw [eh]
  refine ⟨?_,λn hn=>?_,λk=>?_⟩
  ·have e:ns.filter (dB (x :: dn))=ns.filter λn=>dB dn n || decide (n.par=x):=by
    apply List.filter_congr
    intro n _
    rw [Bool.eq_iff_iff]
    simp only [dB,List.mem_cons,decide_eq_true_eq,Bool.or_eq_true]
    constructor
    ·rintro (h | h)
     ·exact .inr h
     ·exact .inl h
    ·rintro (h | h)
     ·exact .inr h
     ·exact .inl h
   rw [e]
   refine (List.Perm.append_right _ w.perm).trans (eI _ _ (λy h1 h2=>?_) ns)
   simp only [dB,decide_eq_true_eq] at h1 h2
   rw [h2] at h1; exact hd h1
  ·rcases List.mem_append.mp hn with h | h
   ·exact w.reach n h
   ·unfold inside at h
    rw [List.mem_filter] at h
    obtain ⟨hm,hp⟩:=h
    simp only [decide_eq_true_eq] at hp
    rcases hx with e | ⟨m,hm',hf,e⟩
    ·exact .base hm (hp.trans e)
    ·exact .step (w.reach m hm') hf hm (hp.trans e.symm)
  ·have c:=w.cover k
   simp only [List.mem_append,List.mem_cons,List.not_mem_nil,or_false] at c ⊢
   rw [gS]
   constructor
   ·rintro ((h | ⟨m,hm,h1,h2⟩) | h | h)
    ·rcases c.mp (.inl (.inl h)) with e | ⟨m,hm,z⟩
     ·exact .inl e
     ·exact .inr ⟨m,.inl hm,z⟩
    ·exact .inr ⟨m,.inr hm,h1,h2⟩
    ·rcases c.mp (.inl (.inr h)) with e | ⟨m,hm,z⟩
     ·exact .inl e
     ·exact .inr ⟨m,.inl hm,z⟩
    ·rcases c.mp (.inr h) with e | ⟨m,hm,z⟩
     ·exact .inl e
     ·exact .inr ⟨m,.inl hm,z⟩
   ·rintro (e | ⟨m,hm | hm,z⟩)
    ·rcases c.mpr (.inl e) with (h | h) | h
     ·exact .inl (.inl h)
     ·exact .inr (.inl h)
     ·exact .inr (.inr h)
    ·rcases c.mpr (.inr ⟨m,hm,z⟩) with (h | h) | h
     ·exact .inl (.inl h)
     ·exact .inr (.inl h)
     ·exact .inr (.inr h)
    ·exact .inl (.inr ⟨m,hm,z⟩)
theorem Walk.len {ns:List (Nd S)} {f:Int} {dn:List Int} {fd:List (Nd S)} {pd:List Int} (w:Walk ns f dn fd pd):fd.length≤ns.length:=by
 rw [w.perm.length_eq]; exact List.length_filter_le _ _
theorem dl (l:List (Nd S)):(aO l).length≤l.length:=by
 unfold aO; rw [List.length_map]; exact List.length_filter_le _ _
theorem Walk.mem {ns:List (Nd S)} {f:Int} {dn:List Int} {fd:List (Nd S)} (w:Walk ns f dn fd []) (n:Nd S):n∈fd↔Reach ns f n:=by
 constructor
 ·exact w.reach n
 ·have cov:∀ k,(k=f∨∃ m∈fd,m.st=none∧m.num=k)→k∈dn:=λk h=>by
   rcases (w.cover k).mpr h with z | z
   ·simp at z
   ·exact z
  have back:∀ x,x∈ns→x.par∈dn→x∈fd:=λx hx hp=>w.perm.mem_iff.mpr (List.mem_filter.mpr ⟨hx,by simp [dB,hp]⟩)
  intro h
  induction h with
  | base hm hp=>exact back _ hm (cov _ (.inl hp))
  | step _ hf hm hp ih=>exact back _ hm (cov _ (.inr ⟨_,ih,hf,hp.symm⟩))
theorem Walk.all {ns:List (Nd S)} {f:Int} {dn:List Int} {fd:List (Nd S)} (w:Walk ns f dn fd []):fd.length=ns.length↔∀ n∈ns,Reach ns f n:=by
 rw [w.perm.length_eq]
 constructor
 ·intro h n hn
  have e:ns.filter (dB dn)=ns:=by
   rw [List.filter_eq_self]
   exact List.length_filter_eq_length_iff.mp h
  have:n∈ns.filter (dB dn):=by rw [e]; exact hn
  exact (w.mem n).mp (w.perm.mem_iff.mpr this)
 ·intro h
  rw [List.length_filter_eq_length_iff]
  intro n hn
  have:=w.perm.mem_iff.mp ((w.mem n).mpr (h n hn))
  exact (List.mem_filter.mp this).2
noncomputable def br (ns:List (Nd S)):Prop:=ns.Pairwise λa b=>a.num<b.num
noncomputable def cD (ns:List (Nd S)):Prop:=(ns.map λn=>(n.par,n.nm)).Nodup
structure Tree (ns:List (Nd S)):Prop where
 rise:br ns
 own:cD ns
 down:∀ n∈ns,Reach ns 0 n
noncomputable def adj:List (Nd S)→Bool
 | a :: b :: r=>decide (a.num<b.num) && adj (b :: r)
 | _=>true
theorem lj:∀ ns:List (Nd S),adj ns=true↔br ns
 | []=>by simp [adj,br]
 | [a]=>by simp [adj,br]
 | a :: b :: r=>by
  have ih:=lj (b :: r)
  unfold adj
  rw [Bool.and_eq_true,ih,decide_eq_true_eq]
  unfold br
  rw [List.pairwise_cons (a:=a)]
  constructor
  ·rintro ⟨h,p⟩
   refine ⟨λx hx=>?_,p⟩
   rcases List.mem_cons.mp hx with rfl | hx
   ·exact h
   ·have:=(List.pairwise_cons.mp p).1 x hx
    omega
  ·rintro ⟨h,p⟩
   exact ⟨h b (by simp),p⟩
theorem ph:∀ ns:List (Nd S),adj ns=((ns.zip (ns.drop 1)).all λp=>decide (p.1.num<p.2.num))
 | []=>rfl
 | [a]=>rfl
 | a :: b :: r=>by
  have ih:=ph (b :: r)
  unfold adj
  rw [ih]
  rfl
inductive Built:List (Nd S)→Prop where
 | nil:Built []
 | snoc {l:List (Nd S)} {n:Nd S}:Built l→(n.par=0∨∃ m∈l,m.st=none∧m.num=n.par)→Built (l++[n])
theorem Built.down {l:List (Nd S)} (b:Built l):∀ n∈l,Reach l 0 n:=by
 induction b with
 | nil=>simp
 | @snoc l n b h ih =>
  intro x hx
  have up:∀ y∈l,y∈l++[n]:=λy hy=>List.mem_append_left _ hy
  rcases List.mem_append.mp hx with hx | hx
  ·exact (ih x hx).mono up
  ·have e:x=n:=by simpa using hx
   subst e
   rcases h with h | ⟨m,hm,hf,he⟩
   ·exact .base (by simp) h
   ·exact .step ((ih m hm).mono up) hf (by simp) he.symm
theorem uu {l t:List (Nd S)} (b:Built l) (p:t.Perm l) (hr:t.Pairwise λa b=>a.num≤b.num) (hn:(l.map (·.num)).Nodup) (ho:cD l):Tree t:=by
 refine ⟨?_,?_,λn hn'=>?_⟩
 ·have hn':(t.map (·.num)).Nodup:=((p.map _).nodup_iff).mpr hn
  unfold List.Nodup at hn'
  rw [List.pairwise_map] at hn'
  unfold br
  exact hr.imp₂ (λa b h1 h2=>by omega) hn'
 ·unfold cD
  exact ((p.map _).nodup_iff).mpr ho
 ·exact (b.down n (p.mem_iff.mp hn')).mono λx hx=>p.mem_iff.mpr hx
theorem iS {t:List (Nd S)} (h:br t) {a b:Nd S} (ha:a∈t) (hb:b∈t) (e:a.num=b.num):a=b:=by
 unfold br at h
 induction t with
 | nil=>simp at ha
 | cons x r ih =>
  rw [List.pairwise_cons] at h
  rcases List.mem_cons.mp ha with ea | ha'
  ·rcases List.mem_cons.mp hb with eb | hb'
   ·rw [ea,eb]
   ·have:=h.1 b hb'; rw [← ea] at this; omega
  ·rcases List.mem_cons.mp hb with eb | hb'
   ·have:=h.1 a ha'; rw [← eb] at this; omega
   ·exact ih h.2 ha' hb'
end
end TW
namespace TW
section
variable {S:Type}
inductive PathTo (ns:List (Nd S)):Int→List S→Prop where
 | top:PathTo ns 0 []
 | node {n:Nd S} {p:List S}:n∈ns→PathTo ns n.par p→PathTo ns n.num (p++[n.nm])
structure Tree1 (ns:List (Nd S)):Prop extends Tree ns where
 pos:∀ n∈ns,1≤n.num
theorem Tree1.inj {ns:List (Nd S)} (T:Tree1 ns) {a b:Nd S} (ha:a∈ns) (hb:b∈ns) (e:a.num=b.num):a=b:=iS T.rise ha hb e
theorem PathTo.zero {ns:List (Nd S)} (T:Tree1 ns) {k:Int} {p:List S} (h:PathTo ns k p) (e:k=0):p=[]:=by
 cases h with
 | top=>rfl
 | @node n p hm _=>have:=T.pos n hm; omega
theorem PathTo.inv {ns:List (Nd S)} (T:Tree1 ns) {k:Int} {p:List S} (h:PathTo ns k p) {n:Nd S} (hn:n∈ns) (e:k=n.num):∃ q,p=q++[n.nm]∧PathTo ns n.par q:=by
 cases h with
 | top=>have:=T.pos n hn; omega
 | @node m q hm hq =>
  have:m=n:=T.inj hm hn e
  subst this
  exact ⟨q,rfl,hq⟩
theorem PathTo.uniq {ns:List (Nd S)} (T:Tree1 ns) {k:Int} {p:List S} (h:PathTo ns k p):∀ {q:List S},PathTo ns k q→p=q:=by
 induction h with
 | top=>intro q hq; exact (hq.zero T rfl).symm
 | @node n p hm _ ih =>
  intro q hq
  obtain ⟨q',e,hq'⟩:=hq.inv T hm rfl
  rw [e,ih hq']
theorem PathTo.ex {ns:List (Nd S)} (T:Tree1 ns) {n:Nd S} (hn:n∈ns):∃ p,PathTo ns n.num p:=by
 have key:∀ x,Reach ns 0 x→∃ p,PathTo ns x.num p:=by
  intro x r
  induction r with
  | base hm hp=>exact ⟨_,.node hm (by rw [hp]; exact .top)⟩
  | step _ _ hm hp ih =>
   obtain ⟨p,h⟩:=ih
   exact ⟨_,.node hm (by rw [hp]; exact h)⟩
 exact key n (T.down n hn)
theorem PathTo.chain {ns:List (Nd S)} (T:Tree1 ns) {k:Int} {p:List S} (h:PathTo ns k p):∃ l:List Int,l.length=p.length∧l.Nodup∧∀ x∈l,x∈ns.map (·.num)∧∃ q,PathTo ns x q∧q.length≤p.length:=by
 induction h with
 | top=>exact ⟨[],rfl,List.nodup_nil,by simp⟩
 | @node n p hm hp ih =>
  obtain ⟨l,e,nd,hx⟩:=ih
  refine ⟨n.num :: l,by simp [e],List.nodup_cons.mpr ⟨λhin=>?_,nd⟩,λx hx'=>?_⟩
  ·obtain ⟨_,q,hq,hl⟩:=hx _ hin
   have:=hq.uniq T (.node hm hp)
   rw [this] at hl
   simp at hl
   omega
  ·rcases List.mem_cons.mp hx' with e' | h'
   ·rw [e']
    exact ⟨List.mem_map.mpr ⟨n,hm,rfl⟩,_,.node hm hp,Nat.le_refl _⟩
   ·obtain ⟨a,q,b,c⟩:=hx x h'
    exact ⟨a,q,b,by simp; omega⟩
theorem PathTo.len {ns:List (Nd S)} (T:Tree1 ns) {k:Int} {p:List S} (h:PathTo ns k p):p.length≤ns.length:=by
 obtain ⟨l,e,nd,hx⟩:=h.chain T
 rw [← e]
 have:=List.Nodup.length_le_of_subset nd (λx hx'=>(hx x hx').1)
 rw [List.length_map] at this
 exact this
inductive Und (ns:List (Nd S)) (g:Int):Int→Prop where
 | here:Und ns g g
 | up {n:Nd S}:n∈ns→Und ns g n.par→Und ns g n.num
theorem Und.zero {ns:List (Nd S)} (T:Tree1 ns) {g k:Int} (h:Und ns g k) (e:k=0):g=0:=by
 cases h with
 | here=>exact e
 | @up n hm _=>have:=T.pos n hm; omega
theorem Und.inv {ns:List (Nd S)} (T:Tree1 ns) {g k:Int} (h:Und ns g k) {n:Nd S} (hn:n∈ns) (e:k=n.num) (hg:k≠g):Und ns g n.par:=by
 cases h with
 | here=>exact absurd rfl hg
 | @up m hm hu =>
  have:m=n:=T.inj hm hn e
  subst this
  exact hu
theorem jO {ns:List (Nd S)} (T:Tree1 ns) {n:Nd S} (hn:n∈ns):n.par=0∨∃ m∈ns,m.st=none∧m.num=n.par:=by
 have:=T.down n hn
 cases this with
 | base _ hp=>exact .inl hp
 | @step m _ hr hf _ hp=>exact .inr ⟨m,hr.mem,hf,hp.symm⟩
theorem jP {ns:List (Nd S)} (T:Tree1 ns) {g:Int} {n:Nd S} (h:Reach ns g n):Und ns g n.num∧∃ p q,PathTo ns n.num (p++q)∧q≠[]∧PathTo ns g p:=by
 induction h with
 | @base n hm hp =>
  obtain ⟨p,h⟩:=PathTo.ex T hm
  obtain ⟨q,e,hq⟩:=h.inv T hm rfl
  refine ⟨.up hm (by rw [hp]; exact .here),q,[n.nm],by rw [← e]; exact h,by simp,by rw [← hp]; exact hq⟩
 | @step m n hr hf hm hp ih =>
  obtain ⟨hu,p,q,h1,h2,h3⟩:=ih
  refine ⟨.up hm (by rw [hp]; exact hu),p,q++[n.nm],?_,by simp,h3⟩
  rw [← List.append_assoc]
  exact .node hm (by rw [hp]; exact h1)
theorem iT {ns:List (Nd S)} (T:Tree1 ns) {g:Int} {n:Nd S} (h:Reach ns g n):n.num≠g:=by
 obtain ⟨_,p,q,h1,h2,h3⟩:=jP T h
 intro e
 rw [e] at h1
 have:=h1.uniq T h3
 have hl:=congrArg List.length this
 rw [List.length_append] at hl
 have:q.length≠0:=λz=>h2 (List.length_eq_zero_iff.mp z)
 omega
theorem qp {ns:List (Nd S)} (T:Tree1 ns) {g:Int} (hg:1≤g):∀ {k:Int} {p:List S},PathTo ns k p→∀ {n:Nd S},n∈ns→k=n.num→Und ns g k→k≠g→Reach ns g n:=by
 intro k p h
 induction h with
 | top=>intro n hn e; have:=T.pos n hn; omega
 | @node m p hm hp ih =>
  intro n hn e hu hne
  have:m=n:=T.inj hm hn e
  subst this
  have hu':=hu.inv T hm rfl hne
  by_cases hpg:m.par=g
  ·exact .base hm hpg
  ·rcases jO T hm with h0 | ⟨r,hr,hf,er⟩
   ·have:=hu'.zero T h0
    omega
   ·exact .step (ih hr er.symm hu' hpg) hf hm er.symm
theorem qq {ns:List (Nd S)} (T:Tree1 ns) {g:Int} (hg:1≤g) {n:Nd S} (hn:n∈ns):Reach ns g n↔n.num≠g∧Und ns g n.num:=by
 constructor
 ·intro h
  exact ⟨iT T h,(jP T h).1⟩
 ·rintro ⟨h1,h2⟩
  obtain ⟨p,hp⟩:=PathTo.ex T hn
  exact qp T hg hp hn rfl h2 h1
end
end TW
namespace TW
section
variable {S:Type}
theorem jQ {t:List (Nd S)}:br t↔(t.map (·.num)).Pairwise (λa b:Int=>a<b):=by
 unfold br
 rw [List.pairwise_map]
noncomputable def iU (t:List (Nd S)) (p:Int):Prop:=p=0∨∃ m∈t,m.st=none∧m.num=p
theorem made {t u:List (Nd S)} {n:Nd S} (T:Tree1 t) (hp:u.Perm (n :: t)) (hr:br u) (h1:1≤n.num) (hf:iU t n.par) (ho:∀ m∈t,¬ (m.par=n.par∧m.nm=n.nm)):Tree1 u:=by
 have hm:∀ x,x∈u↔x=n∨x∈t:=λx=>by rw [hp.mem_iff,List.mem_cons]
 have ht:∀ x,x∈t→x∈u:=λx hx=>(hm x).mpr (.inr hx)
 refine ⟨⟨hr,?_,λx hx=>?_⟩,λx hx=>?_⟩
 ·unfold cD
  rw [(hp.map λn:Nd S=>(n.par,n.nm)).nodup_iff,List.map_cons,List.nodup_cons]
  refine ⟨λhx=>?_,T.own⟩
  obtain ⟨m,h2,e⟩:=List.mem_map.mp hx
  injection e with e1 e2
  exact ho m h2 ⟨e1,e2⟩
 ·rcases (hm x).mp hx with e | hx
  ·subst e
   rcases hf with e | ⟨m,h2,h3,e⟩
   ·exact .base hx e
   ·exact .step ((T.down m h2).mono ht) h3 hx e.symm
  ·exact (T.down x hx).mono ht
 ·rcases (hm x).mp hx with e | hx
  ·subst e; exact h1
  ·exact T.pos x hx
noncomputable def put (z:Nd S) (m:Nd S):Nd S:=if m.num=z.num then z else m
theorem pi (z m:Nd S):(put z m).num=m.num:=by
 unfold put
 split
 ·rename_i h; exact h.symm
 ·rfl
theorem bV {z m:Nd S} (h:m.num≠z.num):put z m=m:=by unfold put; rw [if_neg h]
theorem dc {z m:Nd S} (h:m.num=z.num):put z m=z:=by unfold put; rw [if_pos h]
theorem su (z:Nd S) (t:List (Nd S)):(t.map (put z)).map (·.num)=t.map (·.num):=by
 rw [List.map_map]
 apply List.map_congr_left
 intro m _
 exact pi z m
theorem gk {z:Nd S} {t:List (Nd S)} (h:br t):br (t.map (put z)):=by
 rw [jQ,su,← jQ]; exact h
theorem pj {z:Nd S} {t:List (Nd S)} (T:Tree1 t):∀ n∈t.map (put z),1≤n.num:=λn hn=>by
 obtain ⟨m,hm,rfl⟩:=List.mem_map.mp hn
 rw [pi]
 exact T.pos m hm
theorem wrote {t:List (Nd S)} {y z:Nd S} (T:Tree1 t) (hy:y∈t) (e1:z.num=y.num) (e2:z.par=y.par) (e3:z.nm=y.nm) (hs:y.st≠none):Tree1 (t.map (put z)):=by
 have par:∀ m∈t,(put z m).par=m.par∧(put z m).nm=m.nm:=λm hm=>by
  by_cases h:m.num=z.num
  ·have:m=y:=T.inj hm hy (h.trans e1)
   subst this
   rw [dc h]
   exact ⟨e2,e3⟩
  ·rw [bV h]; exact ⟨rfl,rfl⟩
 refine ⟨⟨gk T.rise,?_,λn hn=>?_⟩,pj T⟩
 ·have:(t.map (put z)).map (λn=>(n.par,n.nm))=t.map (λn=>(n.par,n.nm)):=by
   rw [List.map_map]
   apply List.map_congr_left
   intro m hm
   show ((put z m).par,(put z m).nm)=_
   rw [(par m hm).1,(par m hm).2]
  unfold cD
  rw [this]
  exact T.own
 ·obtain ⟨m,hm,rfl⟩:=List.mem_map.mp hn
  have key:∀ x,Reach t 0 x→Reach (t.map (put z)) 0 (put z x):=by
   intro x r
   induction r with
   | @base x hx hp=>exact .base (List.mem_map.mpr ⟨x,hx,rfl⟩) (by rw [(par x hx).1]; exact hp)
   | @step a x ra hf hx hp ih =>
    have ha:put z a=a:=bV λe=>hs (by rw [← T.inj ra.mem hy (e.trans e1)]; exact hf)
    rw [ha] at ih
    exact .step ih hf (List.mem_map.mpr ⟨x,hx,rfl⟩) (by rw [(par x hx).1]; exact hp)
  exact key m (T.down m hm)
theorem jR {t:List (Nd S)} {k:Int} {n:Nd S} (r:Reach t 0 n) (h:¬ Und t k n.num) {u:List (Nd S)} (hu:∀ x∈t,¬ Und t k x.num→x∈u):Reach u 0 n:=by
 induction r with
 | @base n hm hp=>exact .base (hu n hm h) hp
 | @step m n rm hf hn hp ih=>exact .step (ih λhx=>h (.up hn (by rw [hp]; exact hx))) hf (hu n hn h) hp
theorem dropped {t:List (Nd S)} {k:Int} (T:Tree1 t) {p:Nd S→Bool} (hp:∀ n∈t,p n=true↔¬ Und t k n.num):Tree1 (t.filter p):=by
 refine ⟨⟨T.rise.sublist List.filter_sublist,T.own.sublist (List.filter_sublist.map _),λn hn=>?_⟩,λn hn=>T.pos n (List.mem_filter.mp hn).1⟩
 obtain ⟨h1,h2⟩:=List.mem_filter.mp hn
 exact jR (T.down n h1) ((hp n h1).mp h2) λx hx hu=>List.mem_filter.mpr ⟨hx,(hp x hx).mpr hu⟩
theorem moved {t:List (Nd S)} {y z:Nd S} (T:Tree1 t) (hy:y∈t) (e1:z.num=y.num) (e4:z.st=y.st) (hf:iU t z.par) (hi:z.par≠0→¬ Und t y.num z.par) (ho:∀ m∈t,m.num≠y.num→¬ (m.par=z.par∧m.nm=z.nm)):Tree1 (t.map (put z)):=by
 have hz:z∈t.map (put z):=List.mem_map.mpr ⟨y,hy,dc e1.symm⟩
 have other:∀ m∈t,m.num≠y.num→m∈t.map (put z):=λm hm h=>List.mem_map.mpr ⟨m,hm,bV (by rw [e1]; exact h)⟩
 have free:∀ n∈t,¬ Und t y.num n.num→Reach (t.map (put z)) 0 n:=λn hn h=>jR (T.down n hn) h λx hx hu=>other x hx λe=>hu (by rw [e]; exact .here)
 have rz:Reach (t.map (put z)) 0 z:=by
  rcases hf with e | ⟨m,h2,h3,e⟩
  ·exact .base hz e
  ·have h0:z.par≠0:=λe'=>by have:=T.pos m h2; omega
   exact .step (free m h2 (by rw [e]; exact hi h0)) h3 hz e.symm
 refine ⟨⟨gk T.rise,?_,λn hn=>?_⟩,pj T⟩
 ·have h:=T.own
  have hr:=T.rise
  unfold cD br List.Nodup at *
  rw [List.pairwise_map] at h
  rw [List.map_map,List.pairwise_map]
  have both:=h.and hr
  refine both.imp_of_mem λ{a b} ha hb hab=>?_
  obtain ⟨h1,h2⟩:=hab
  show ((put z a).par,(put z a).nm)≠((put z b).par,(put z b).nm)
  by_cases ea:a.num=y.num
  ·have eb:b.num≠y.num:=by omega
   rw [dc (by rw [e1]; exact ea),bV (by rw [e1]; exact eb)]
   intro e
   injection e with q1 q2
   exact ho b hb eb ⟨q1.symm,q2.symm⟩
  ·by_cases eb:b.num=y.num
   ·rw [dc (m:=b) (by rw [e1]; exact eb),bV (by rw [e1]; exact ea)]
    intro e
    injection e with q1 q2
    exact ho a ha ea ⟨q1,q2⟩
   ·rw [bV (by rw [e1]; exact ea),bV (by rw [e1]; exact eb)]
    exact h1
 ·obtain ⟨m,hm,rfl⟩:=List.mem_map.mp hn
  by_cases em:m.num=y.num
  ·rw [dc (by rw [e1]; exact em)]
   exact rz
  ·rw [bV (by rw [e1]; exact em)]
   by_cases hu:Und t y.num m.num
   ·have r:Reach t y.num m:=(qq T (T.pos y hy) hm).mpr ⟨em,hu⟩
    clear hu em hm hn
    induction r with
    | @base n hn hp =>
     have hzs:z.st=none:=by
      rcases jO T hn with e | ⟨a,ha,h3,e⟩
      ·have:=T.pos y hy; omega
      ·have:a=y:=T.inj ha hy (e.trans hp)
       subst this
       rw [e4]; exact h3
     have hne:n.num≠y.num:=iT T (.base hn hp)
     exact .step rz hzs (other n hn hne) (by rw [hp,e1])
    | @step a n ra hfa hn hp ih=>exact .step ih hfa (other n hn (iT T (.step ra hfa hn hp))) hp
   ·exact free m hm hu
end
end TW
namespace TW
section
variable {S:Type}
inductive Deed (S:Type) where
 | make (n p:Int) (nm:S) (st:Option Int)
 | write (n st:Int)
 | move (n p:Int) (nm:S)
 | drop (n:Int)
inductive Wd where
 | known | noNode | notFile | notFolder | inside | taken
noncomputable def cI (t:List (Nd S)) (k:Int):Prop:=∃ m∈t,m.num=k
inductive Told (t:List (Nd S)):Deed S→Sum Wd (List (Nd S))→Prop where
 | mKnown {n p:Int} {nm:S} {st:Option Int}:cI t n→Told t (.make n p nm st) (.inl .known)
 | mNo {n p:Int} {nm:S} {st:Option Int}:¬ cI t n→p≠0→¬ cI t p→Told t (.make n p nm st) (.inl .noNode)
 | mFile {n p:Int} {nm:S} {st:Option Int} {m:Nd S}:¬ cI t n→p≠0→m∈t→m.num=p→m.st≠none→Told t (.make n p nm st) (.inl .notFolder)
 | mTaken {n p:Int} {nm:S} {st:Option Int} {m:Nd S}:¬ cI t n→iU t p→m∈t→m.par=p→m.nm=nm→Told t (.make n p nm st) (.inl .taken)
 | made {n p:Int} {nm:S} {st:Option Int} {u:List (Nd S)}:¬ cI t n→iU t p→(∀ m∈t,¬ (m.par=p∧m.nm=nm))→u.Perm (⟨n,p,nm,st⟩ :: t)→br u→Told t (.make n p nm st) (.inr u)
 | wNo {n st:Int}:¬ cI t n→Told t (.write n st) (.inl .noNode)
 | wFold {n st:Int} {y:Nd S}:y∈t→y.num=n→y.st=none→Told t (.write n st) (.inl .notFile)
 | wrote {n st:Int} {y:Nd S}:y∈t→y.num=n→y.st≠none→Told t (.write n st) (.inr (t.map (put ⟨n,y.par,y.nm,some st⟩)))
 | vNo {n p:Int} {nm:S}:¬ cI t n→Told t (.move n p nm) (.inl .noNode)
 | vNoP {n p:Int} {nm:S}:cI t n→p≠0→¬ cI t p→Told t (.move n p nm) (.inl .noNode)
 | vFile {n p:Int} {nm:S} {m:Nd S}:cI t n→p≠0→m∈t→m.num=p→m.st≠none→Told t (.move n p nm) (.inl .notFolder)
 | vIn {n p:Int} {nm:S}:cI t n→iU t p→p≠0→Und t n p→Told t (.move n p nm) (.inl .inside)
 | vTaken {n p:Int} {nm:S} {m:Nd S}:cI t n→iU t p→(p≠0→¬ Und t n p)→m∈t→m.num≠n→m.par=p→m.nm=nm→Told t (.move n p nm) (.inl .taken)
 | moved {n p:Int} {nm:S} {y:Nd S}:y∈t→y.num=n→iU t p→(p≠0→¬ Und t n p)→(∀ m∈t,m.num≠n→¬ (m.par=p∧m.nm=nm))→Told t (.move n p nm) (.inr (t.map (put ⟨n,p,nm,y.st⟩)))
 | dNo {n:Int}:¬ cI t n→Told t (.drop n) (.inl .noNode)
 | dropped {n:Int} {f:Nd S→Bool}:cI t n→(∀ m∈t,f m=true↔¬ Und t n m.num)→Told t (.drop n) (.inr (t.filter f))
theorem mY {t u:List (Nd S)} (ht:br t) (hu:br u) (h:t.Perm u):t=u:=by
 have main:∀ {l m:List (Nd S)},br l→br m→(∀ x,x∈l↔x∈m)→l=m:=by
  intro l
  induction l with
  | nil =>
   intro m _ _ h
   cases m with
   | nil=>rfl
   | cons b m=>exact absurd ((h b).mpr (by simp)) (by simp)
  | cons a l ih =>
   intro m hl hm h
   cases m with
   | nil=>exact absurd ((h a).mp (by simp)) (by simp)
   | cons b m =>
    unfold br at hl hm ih
    rw [List.pairwise_cons] at hl hm
    have e:a=b:=by
     rcases List.mem_cons.mp ((h a).mp (by simp)) with e | h1
     ·exact e
     ·rcases List.mem_cons.mp ((h b).mpr (by simp)) with e | h2
      ·exact e.symm
      ·have:=hl.1 b h2
       have:=hm.1 a h1
       omega
    subst e
    rw [ih hl.2 hm.2 λx=>?_]
    constructor
    ·intro hx
     rcases List.mem_cons.mp ((h x).mp (by simp [hx])) with e | h1
     ·subst e; have:=hl.1 x hx; omega
     ·exact h1
    ·intro hx
     rcases List.mem_cons.mp ((h x).mpr (by simp [hx])) with e | h1
     ·subst e; have:=hm.1 x hx; omega
     ·exact h1
 exact main ht hu λx=>h.mem_iff
noncomputable def Deed.pos:Deed S→Prop
 | .make n _ _ _=>1≤n
 | _=>True
theorem Told.tree {t u:List (Nd S)} (T:Tree1 t) {d:Deed S} (h:Told t d (.inr u)) (hp:d.pos):Tree1 u:=by
 generalize er:(Sum.inr u:Sum Wd (List (Nd S)))=r at h
 cases h with
 | made a1 a2 a3 a4 a5 =>
  injection er with er
  subst er
  exact TW.made T a4 a5 hp a2 λm hm=>a3 m hm
 | wrote a1 a2 a3 =>
  injection er with er
  subst er a2
  exact TW.wrote T a1 rfl rfl rfl a3
 | moved a1 a2 a3 a4 a5 =>
  injection er with er
  subst er a2
  exact TW.moved T a1 rfl rfl a3 a4 a5
 | dropped a1 a2 =>
  injection er with er
  subst er
  exact TW.dropped T a2
 | _=>cases er
theorem Told.all {t u:List (Nd S)} {P:Nd S→Prop} (ht:∀ n∈t,P n) {d:Deed S} (h:Told t d (.inr u))
  (hm:∀ n p nm st,d = .make n p nm st→P ⟨n,p,nm,st⟩) (hw:∀ n st,d = .write n st→∀ y∈t,y.num=n→P ⟨n,y.par,y.nm,some st⟩) (hv:∀ n p nm,d = .move n p nm→∀ y∈t,y.num=n→P ⟨n,p,nm,y.st⟩):∀ n∈u,P n:=by
 have hput:∀ z:Nd S,P z→∀ n∈t.map (put z),P n:=λz hz n hn=>by
  obtain ⟨m,hm,rfl⟩:=List.mem_map.mp hn
  by_cases e:m.num=z.num
  ·rw [dc e]; exact hz
  ·rw [bV e]; exact ht m hm
 generalize er:(Sum.inr u:Sum Wd (List (Nd S)))=r at h
 cases h with
 | made a1 a2 a3 a4 a5 =>
  injection er with er
  subst er
  intro n hn
  rcases List.mem_cons.mp (a4.mem_iff.mp hn) with e | h
  ·subst e; exact hm _ _ _ _ rfl
  ·exact ht n h
 | wrote a1 a2 a3 =>
  injection er with er
  subst er
  exact hput _ (hw _ _ rfl _ a1 a2)
 | moved a1 a2 a3 a4 a5 =>
  injection er with er
  subst er
  exact hput _ (hv _ _ _ rfl _ a1 a2)
 | dropped a1 a2 =>
  injection er with er
  subst er
  intro n hn
  exact ht n (List.mem_filter.mp hn).1
 | _=>cases er
theorem Told.len {t u:List (Nd S)} {d:Deed S} (h:Told t d (.inr u)):u.length≤t.length+1:=by
 generalize er:(Sum.inr u:Sum Wd (List (Nd S)))=r at h
 cases h with
 | made a1 a2 a3 a4 a5 =>
  injection er with er
  subst er
  rw [a4.length_eq]; simp
 | wrote a1 a2 a3 =>
  injection er with er
  subst er
  simp
 | moved a1 a2 a3 a4 a5 =>
  injection er with er
  subst er
  simp
 | dropped a1 a2 =>
  injection er with er
  subst er
  exact Nat.le_succ_of_le (List.length_filter_le _ _)
 | _=>cases er
end
end TW
namespace TW
section
variable {S:Type}
end
end TW
namespace L2
open PySem PySem.Spec PyProof.Rows
section
variable {P:Program} {w:World} {K:PySem.W.Frag} {mg:Str→Option Value} {base:Heap}
theorem Fun.okX {x qual:Str} {st:Stmt} {f:Addr} {fd:FuncData} {N ps:List Str} {k:Nat} {sp:Sp} (F:Fun K x qual st f fd) (S:FnScope N ps (ae st)) (len:∀ vs H Q E,sp vs H Q E→vs.length=ps.length)
  (hbody:∀ (cdv:Value) (A:Around) (outer:List Env) (s:Shared) (H:Hp) (vs:List V) (Q:VK) (E:XK),Room k (A.deeper (envOfC qual (ae st) s.heap.objs.size f cdv))→sp vs H Q E →
   ∃ t,PSs (eR (CX1 P w) P w K mg base N qual (ae st) f cdv A outer s H E) (ao st) t∧t { nx:=λ_ H'=>Q .non H',rt:=Q } (start N vs) H):FnOk P w K mg base (CX1 P w) (k+1) f fd ps sp:=by
 obtain ⟨oc,od,kV,doc,pm,an,cdv,ct,osl,rfl,lk,hcd⟩:=F.ex
 exact vm lk hcd S len λA outer s H vs Q E hr hsp=>hbody cdv A outer s H vs Q E hr hsp
theorem LcOk.mk' {X:Cx} {scope:Scope} {cl:List (Str×Addr)} (fs:List Str) (hk:scope.kind = .function) (hc:closureFor scope X.env=pure cl) (hn:∀ x∈scope.names,x.2 = .local→scope.names.lookup x.1=some .local) (hnc:∀ x∈scope.names,x.2 ≠ .cell)
  (hcl:∀ y∈cl,X.env.cells.lookup y.1=some y.2) (hfs:cl.map (·.1)=fs) (hall:scope.names.all (λy=>!(y.2 == .free) || fs.contains y.1)=true):LcOk X scope cl:=by
 refine ⟨hk,hc,hn,hnc,λx c h=>hcl (x,c) (PySem.mem_of_lookup h),λx h=>?_⟩
 have hm:∃ k,(x,k)∈(relabel scope X.env).names∧(k = .cell∨k = .free):=by
  rcases h with h | h
  ·exact ⟨_,PySem.mem_of_lookup h,.inl rfl⟩
  ·exact ⟨_,PySem.mem_of_lookup h,.inr rfl⟩
 obtain ⟨k,hm,hk'⟩:=hm
 unfold relabel at hm
 obtain ⟨⟨y,k0⟩,hy,e⟩:=List.mem_map.mp hm
 have hfree:x=y∧k0 = .free:=by
  cases k0 with
  | free =>
   simp only at e
   split at e
   ·injection e with e1 e2; exact ⟨e1.symm,rfl⟩
   ·injection e with e1 e2; exact ⟨e1.symm,rfl⟩
  | cell=>exact absurd rfl (hnc _ hy)
  | _ =>
   exfalso
   have e2:k=_:=(congrArg Prod.snd e).symm
   simp at e2
   rcases hk' with z | z <;> rw [z] at e2 <;> cases e2
 obtain ⟨rfl,rfl⟩:=hfree
 have:=List.all_eq_true.mp hall _ hy
 have hin:fs.contains x=true:=by simpa using this
 rw [← hfs] at hin
 have hmem:x∈cl.map (·.1):=List.contains_iff_mem.mp hin
 cases e:cl.lookup x with
 | some c=>exact ⟨c,rfl⟩
 | none =>
  exfalso
  obtain ⟨y,hy,ey⟩:=List.mem_map.mp hmem
  have:=List.lookup_eq_none_iff.mp e y hy
  rw [ey] at this
  simp at this
end
end L2
namespace TK
open PySem L2
noncomputable abbrev Nd:=TW.Nd Str
noncomputable def stV:Option Int→V
 | none=>.non
 | some i=>.int i
noncomputable def vals (n:Nd):List V:=[.int n.num,.int n.par,.str n.nm,stV n.st]
noncomputable abbrev ZN:=List (Addr×Nd)
noncomputable def aN (zs:ZN):List V:=(zs.map (·.1)).map V.ref
noncomputable def nds (zs:ZN):List Nd:=zs.map (·.2)
noncomputable def At (H:Hp) (zs:ZN):Prop:=∀ z∈zs,H z.1=some (.tup (vals z.2))
theorem At.same {H H':Hp} {zs:ZN} (h:At H zs) (s:Same H H'):At H' zs:=λz hz=>s _ _ (h z hz)
theorem bf (zs:ZN):(aN zs).length=zs.length:=by simp [aN]
theorem av (zs:ZN):(nds zs).length=zs.length:=by simp [nds]
theorem cp {zs:ZN} {i:Nat} {x:V} (h:(aN zs)[i]? = some x):∃ z,zs[i]? = some z∧x = .ref z.1:=by
 unfold aN at h
 rw [List.getElem?_map,List.getElem?_map] at h
 cases e:zs[i]? with
 | none=>rw [e] at h; cases h
 | some z=>rw [e] at h; exact ⟨z,rfl,(Option.some.inj h).symm⟩
theorem dC {zs:ZN} {i:Nat} {z:Addr×Nd} (h:zs[i]? = some z):(aN zs)[i]? = some (.ref z.1):=by
 unfold aN
 rw [List.getElem?_map,List.getElem?_map,h]; rfl
theorem at0 (n:Nd):atI (vals n) 0=some (.int n.num):=rfl
theorem at1 (n:Nd):atI (vals n) 1=some (.int n.par):=rfl
theorem at2 (n:Nd):atI (vals n) 2=some (.str n.nm):=rfl
theorem at3 (n:Nd):atI (vals n) 3=some (stV n.st):=rfl
theorem wz {σ:St} (h:σ.length=2):∃ a b,σ=[a,b]:=by
 match σ,h with
 | [a,b],_=>exact ⟨a,b,rfl⟩
theorem sv {σ:St} (h:σ.length=1):∃ a,σ=[a]:=by
 match σ,h with
 | [a],_=>exact ⟨a,rfl⟩
theorem aw {n:Nat} (h:n≤1000):n≤sizeLine:=Nat.le_of_lt (aS h)
theorem le2:2≤sizeLine:=aw (by decide)
theorem lm {A:Around} {k:Nat} (hr:Room k A):A.units+4<cLine:=Nat.lt_of_le_of_lt (Nat.add_le_add_left (by decide:4≤64) _) hr.units
noncomputable def plK (n:Nd):List Key:=[.inl n.par,.inr n.nm]
theorem qr (zs:List Nd):(zs.map plK).Nodup↔TW.cD zs:=by
 unfold TW.cD List.Nodup
 rw [List.pairwise_map,List.pairwise_map]
 have e:∀ a b:Nd,(plK a≠plK b)=((a.par,a.nm)≠(b.par,b.nm)):=λa b=>by
  simp [plK]
 simp only [e]
noncomputable def ins (zs:ZN) (k:Int):ZN:=zs.filter λz=>decide (z.2.par=k)
theorem pk (zs:ZN) (k:Int):nds (ins zs k)=TW.inside (nds zs) k:=by
 unfold nds ins TW.inside
 rw [List.filter_map]
 rfl
theorem eJ (zs:ZN) (z:Addr×Nd) (k:Int):ins (zs++[z]) k=if z.2.par=k then ins zs k++[z] else ins zs k:=by
 unfold ins
 rw [List.filter_append]
 by_cases h:z.2.par=k
 ·rw [if_pos h,List.filter_cons_of_pos (by simp [h])]; rfl
 ·rw [if_neg h,List.filter_cons_of_neg (by simp [h])]; simp
theorem uv {zs:ZN} {k:Int} {z:Addr×Nd} (h:z∈ins zs k):z∈zs:=(List.mem_filter.mp h).1
theorem jS (zs:ZN) (z:Addr×Nd):aN (zs++[z])=aN zs++[.ref z.1]:=by simp [aN]
structure Mem (H0 H:Hp) (d:Addr) (L:Int→Addr) (kvs:List (Key×V)) (xs:ZN) (dn:List Int):Prop where
 dict:H d=some (.dK kvs)
 d0:H0 d=none
 len:kvs.length≤xs.length
 val:∀ k:Int,bg kvs (Sum.inl k:Key)=if k∈dn∨ins xs k=[] then none else some (.ref (L k))
 at':∀ k,k∉dn→ins xs k≠[]→H (L k)=some (.lst (aN (ins xs k)))∧H0 (L k)=none
 inj:∀ k k',k∉dn→k'∉dn→ins xs k≠[]→ins xs k'≠[]→L k=L k'→k=k'
 same:Same H0 H
theorem Mem.grow {H0 H H':Hp} {d:Addr} {L:Int→Addr} {kvs:List (Key×V)} {xs:ZN} {dn:List Int} (m:Mem H0 H d L kvs xs dn) (s:Same H H'):Mem H0 H' d L kvs xs dn :=
 ⟨s _ _ m.dict,m.d0,m.len,m.val,λk h1 h2=>⟨s _ _ (m.at' k h1 h2).1,(m.at' k h1 h2).2⟩,m.inj,m.same.trans s⟩
theorem Mem.other {H0 H:Hp} {d p:Addr} {L:Int→Addr} {kvs:List (Key×V)} {xs:ZN} {dn:List Int} {is:List Int} {o:HO} (m:Mem H0 H d L kvs xs dn) (hp:H p=some (.lst (is.map V.int))) (h0:H0 p=none):Mem H0 (upd H p o) d L kvs xs dn:=by
 refine ⟨?_,m.d0,m.len,m.val,λk h1 h2=>⟨?_,(m.at' k h1 h2).2⟩,m.inj,aM h0 m.same⟩
 ·rw [aj]
  ·exact m.dict
  ·intro e; have:=m.dict; rw [e,hp] at this; cases this
 ·have e1:=(m.at' k h1 h2).1
  rw [aj]
  ·exact e1
  ·intro e
   rw [e,hp] at e1
   injection e1 with e1
   injection e1 with e1
   have hne:=h2
   cases hk:ins xs k with
   | nil=>exact h2 hk
   | cons a r =>
    rw [hk] at e1
    cases is with
    | nil=>simp [aN] at e1
    | cons i r'=>simp [aN] at e1
theorem Mem.start {H0:Hp} {d:Addr} (h:H0 d=none):Mem H0 (upd H0 d (.dK [])) d (λ_=>d) [] [] [] :=
 ⟨ac,h,by simp,λk=>by rw [if_pos (.inr rfl)]; rfl,λk _ h=>absurd rfl h,λk k' _ _ h=>absurd rfl h,af h⟩
theorem Mem.hit {H0 H:Hp} {d:Addr} {L:Int→Addr} {kvs:List (Key×V)} {xs:ZN} {z:Addr×Nd} (m:Mem H0 H d L kvs xs []) (hp:ins xs z.2.par≠[]) :
  Mem H0 (upd H (L z.2.par) (.lst (aN (ins xs z.2.par)++[.ref z.1]))) d L kvs (xs++[z]) []:=by
 have e1:=(m.at' z.2.par (by simp) hp)
 have hd:d≠L z.2.par:=λe=>by
  have:=m.dict
  rw [e,e1.1] at this
  cases this
 have ne:∀ k,ins (xs++[z]) k=[]↔ins xs k=[]:=λk=>by
  rw [eJ]
  by_cases h:z.2.par=k
  ·rw [if_pos h]
   subst h
   simp [hp]
  ·rw [if_neg h]
 refine ⟨by rw [aj hd]; exact m.dict,m.d0,by have:=m.len; simp; omega,λk=>?_,λk h1 h2=>?_,λk k' _ _ h2 h3 e=>m.inj k k' (by simp) (by simp) (λh=>h2 ((ne k).mpr h)) (λh=>h3 ((ne k').mpr h)) e,aM e1.2 m.same⟩
 ·rw [m.val k]
  simp only [ne k]
 ·have h2':ins xs k≠[]:=λh=>h2 ((ne k).mpr h)
  refine ⟨?_,(m.at' k h1 h2').2⟩
  by_cases h:z.2.par=k
  ·subst h
   rw [ac,eJ,if_pos rfl,jS]
  ·rw [aj,eJ,if_neg h]
   ·exact (m.at' k h1 h2').1
   ·intro e
    exact h (m.inj _ _ (by simp) (by simp) hp h2' e.symm)
theorem Mem.fresh {H0 H:Hp} {d q:Addr} {L:Int→Addr} {kvs:List (Key×V)} {xs:ZN} {z:Addr×Nd} (m:Mem H0 H d L kvs xs []) (hp:ins xs z.2.par=[]) (hq:H q=none) :
  Mem H0 (upd (upd (upd H q (.lst [])) d (.dK (cu kvs (Sum.inl z.2.par:Key) (.ref q)))) q (.lst ([]++[.ref z.1]))) d (λk=>if k=z.2.par then q else L k) (cu kvs (Sum.inl z.2.par:Key) (.ref q)) (xs++[z]) []:=by
 have hdq:d≠q:=λe=>by
  have:=m.dict
  rw [e,hq] at this
  cases this
 have lq:∀ k,ins xs k≠[]→L k≠q:=λk h e=>by
  have:=(m.at' k (by simp) h).1
  rw [e,hq] at this
  cases this
 have ld:∀ k,ins xs k≠[]→L k≠d:=λk h e=>by
  have:=(m.at' k (by simp) h).1
  rw [e,m.dict] at this
  cases this
 have q0:H0 q=none:=m.same.free hq
 have e2:∀ k,k≠z.2.par→ins (xs++[z]) k=ins xs k:=λk h=>by rw [eJ,if_neg (λe=>h e.symm)]
 have e3:ins (xs++[z]) z.2.par=[z]:=by rw [eJ,if_pos rfl,hp]; rfl
 refine ⟨by rw [aj hdq,ac],m.d0,?_,λk=>?_,λk h1 h2=>?_,λk k' _ _ h2 h3 e=>?_,?_⟩
 ·have h1:=m.len
  have h2:=di kvs (Sum.inl z.2.par:Key) (.ref q)
  rw [List.length_append,List.length_singleton]
  omega
 ·rw [lQ]
  by_cases h:k=z.2.par
  ·subst h
   rw [if_pos rfl,if_neg (by rw [e3]; simp),if_pos rfl]
  ·rw [if_neg (λe=>h (Sum.inl.inj e)),m.val k,e2 k h,if_neg h]
 ·by_cases h:k=z.2.par
  ·subst h
   simp only [if_true]
   exact ⟨by rw [ac,e3]; rfl,q0⟩
  ·rw [e2 k h] at h2
   simp only [if_neg h]
   refine ⟨?_,(m.at' k h1 h2).2⟩
   rw [aj (lq k h2),aj (ld k h2),aj (lq k h2),e2 k h]
   exact (m.at' k h1 h2).1
 ·by_cases h:k=z.2.par
  ·by_cases h':k'=z.2.par
   ·rw [h,h']
   ·rw [e2 k' h'] at h3
    simp only [if_pos h,if_neg h'] at e
    exact absurd e.symm (lq k' h3)
  ·rw [e2 k h] at h2
   by_cases h':k'=z.2.par
   ·simp only [if_neg h,if_pos h'] at e
    exact absurd e (lq k h2)
   ·rw [e2 k' h'] at h3
    simp only [if_neg h,if_neg h'] at e
    exact m.inj k k' (by simp) (by simp) h2 h3 e
 ·exact aM q0 (aM m.d0 (m.same.trans (af hq)))
theorem qu {κ:Type} [DecidableEq κ] (kvs:List (κ×V)) (k j:κ):bg (cQ kvs k) j=if j=k then none else bg kvs j:=by
 induction kvs with
 | nil=>simp [cQ,bg]
 | cons p r ih =>
  by_cases e:p.1=k
  ·rw [pY e,ih]
   by_cases h:j=k
   ·rw [if_pos h,if_pos h]
   ·rw [if_neg h,if_neg h,bo (λz=>h (z.symm.trans e))]
  ·rw [pZ e]
   by_cases h:p.1=j
   ·rw [bG h,if_neg (λz=>e (h.trans z)),bG h]
   ·rw [bo h,ih,bo h]
theorem Mem.drop {H0 H:Hp} {d:Addr} {L:Int→Addr} {kvs:List (Key×V)} {xs:ZN} {dn:List Int} (m:Mem H0 H d L kvs xs dn) (x:Int):Mem H0 (upd H d (.dK (cQ kvs (Sum.inl x:Key)))) d L (cQ kvs (Sum.inl x:Key)) xs (x :: dn):=by
 have ld:∀ k,k∉dn→ins xs k≠[]→L k≠d:=λk h0 h e=>by
  have:=(m.at' k h0 h).1
  rw [e,m.dict] at this
  cases this
 have no:∀ k,k∉x :: dn→k∉dn:=λk h h'=>h (List.mem_cons_of_mem _ h')
 refine ⟨ac,m.d0,Nat.le_trans (lR _ _) m.len,λk=>?_,λk h1 h2=>?_,λk k' h0 h1 h2 h3 e=>m.inj k k' (no k h0) (no k' h1) h2 h3 e,aM m.d0 m.same⟩
 ·rw [qu,m.val k]
  by_cases h:k=x
  ·rw [if_pos (by rw [h]),if_pos (.inl (by rw [h]; simp))]
  ·rw [if_neg (λe=>h (Sum.inl.inj e))]
   simp [h]
 ·rw [aj (ld k (no k h1) h2)]
  exact m.at' k (no k h1) h2
theorem Mem.skip {H0 H:Hp} {d:Addr} {L:Int→Addr} {kvs:List (Key×V)} {xs:ZN} {dn:List Int} (m:Mem H0 H d L kvs xs dn) {x:Int} (hx:x∈dn∨ins xs x=[]):Mem H0 H d L kvs xs (x :: dn):=by
 have no:∀ k,k∉x :: dn→k∉dn:=λk h h'=>h (List.mem_cons_of_mem _ h')
 refine ⟨m.dict,m.d0,m.len,λk=>?_,λk h1 h2=>m.at' k (no k h1) h2,λk k' h0 h1 h2 h3 e=>m.inj k k' (no k h0) (no k' h1) h2 h3 e,m.same⟩
 rw [m.val k]
 by_cases h:k=x
 ·subst h
  rw [if_pos hx,if_pos (.inl (by simp))]
 ·simp [h]
theorem sw {Q:VK} {H0 H:Hp} {d q:Addr} {L:Int→Addr} {kvs:List (Key×V)} {zs:ZN} {dn:List Int} {x:Int} (m:Mem H0 H d L kvs zs dn) (hq:H q=some (.lst []))
  (k:∀ hl Hc kvs' hs,Mem H0 Hc d L kvs' zs (x :: dn)→Hc hl=some (.lst (aN hs))→nds hs=TW.here (nds zs) dn x→(∀ z∈hs,z∈zs)→(∀ p,p≠d→Hc p=H p)→(hs=[]→hl=q)→Q (.ref hl) Hc) :
  ∃ kvs k,H d=some (.dK kvs)∧V.int x=kV k∧(∀ v,bg kvs k=some v→Q v (upd H d (.dK (cQ kvs k))))∧(bg kvs k=none→Q (.ref q) H):=by
 refine ⟨kvs,.inl x,m.dict,rfl,λv hv=>?_,λhn=>?_⟩
 ·rw [m.val x] at hv
  by_cases h:x∈dn∨ins zs x=[]
  ·rw [if_pos h] at hv; cases hv
  ·rw [if_neg h] at hv
   have h1:x∉dn:=λz=>h (.inl z)
   have h2:ins zs x≠[]:=λz=>h (.inr z)
   cases hv
   have a:=(m.at' x h1 h2).1
   have ld:L x≠d:=λe=>by rw [e,m.dict] at a; cases a
   refine k (L x) _ _ (ins zs x) (m.drop x) (by rw [aj ld]; exact a) ?_ (λz hz=>uv hz) (λp hp=>aj hp) (λe=>absurd e h2)
   rw [pk]; unfold TW.here; rw [if_neg h1]
 ·rw [m.val x] at hn
  by_cases h:x∈dn∨ins zs x=[]
  ·refine k q _ _ [] (m.skip h) hq ?_ (by simp) (λp _=>rfl) (λ_=>rfl)
   unfold TW.here
   by_cases h1:x∈dn
   ·rw [if_pos h1]; rfl
   ·rw [if_neg h1]
    rcases h with h | h
    ·exact absurd h h1
    ·rw [← pk,h]
  ·rw [if_neg h] at hn; cases hn
theorem pq {H:Hp} {p hl:Addr} {hs:ZN} {is:List Int} (hp:H p=some (.lst (is.map V.int))) (h:H hl=some (.lst (aN hs))) (hne:hs≠[]):hl≠p:=by
 intro e
 rw [e,hp] at h
 injection h with h
 injection h with h
 cases hs with
 | nil=>exact hne rfl
 | cons a r =>
  cases is with
  | nil=>simp [aN] at h
  | cons i r'=>simp [aN] at h
noncomputable def jT (H:Hp) (p:Addr):Nat:=match H p with
 | some (.lst xs)=>xs.length
 | _=>0
theorem gl {H:Hp} {p:Addr} {xs:List V} (h:H p=some (.lst xs)):jT H p=xs.length:=by unfold jT; rw [h]
noncomputable def cR (l:List Nd):List V:=(l.map (·.num)).map V.int
noncomputable def dD (K:PySem.W.Frag) (H:Hp) (a:Addr):Prop:=∃ ns:List Int,SqL K H a (ns.map V.int)
theorem dD.same {K:PySem.W.Frag} {H H':Hp} {a:Addr} (h:dD K H a) (s:Same H H'):dD K H' a:=let ⟨ns,e⟩:=h; ⟨ns,s.seq e⟩
theorem mZ {ns:List Int} {i:Int} (h0:0≤i) (h1:i<ns.length):∃ j,atI (ns.map V.int) i=some (.int j):=by
 refine ⟨ns[i.toNat]'(by omega),?_⟩
 have:=oM (xs:=ns.map V.int) (j:=i.toNat) (v:=.int (ns[i.toNat]'(by omega))) (by rw [List.getElem?_map,List.getElem?_eq_getElem (by omega)]; rfl)
 rw [show ((i.toNat:Nat):Int)=i by omega] at this
 exact this
noncomputable def Has (P:Program) (w:World) (K:PySem.W.Frag) (mg:Str→Option Value) (base:Heap) (k:Nat) (x:Str) (ps:List Str) (sp:Sp):Prop:=∃ f fd,FnOk P w K mg base CX0 k f fd ps sp∧mg x=some (.ref f)∧PySem.W.keepIn K (.ref f)=true∧ix K fd ps []
noncomputable def uw (n:Nd):Prop:=1≤n.num∧n.num≤12∧(n.nm="a"∨n.nm="b"∨n.nm="c"∨n.nm="abcde")∧(n.st=none∨n.st=some 0∨n.st=some 1∨n.st=some 2∨n.st=some 999)
structure Bd (zs:ZN) (lf:List Int):Prop where
 built:TW.Built (nds zs)
 nd:((nds zs).map (·.num)++lf).Nodup
 rng:∀ x∈lf,1≤x∧x≤12
 own:TW.cD (nds zs)
 ok:∀ z∈zs,uw z.2
theorem Bd.skip {zs:ZN} {lf:List Int} (b:Bd zs lf) (i:Nat):Bd zs (lf.eraseIdx i) :=
 ⟨b.built,List.Nodup.sublist (List.Sublist.append (List.Sublist.refl _) (List.eraseIdx_sublist lf i)) b.nd,λx hx=>b.rng x ((List.eraseIdx_sublist lf i).mem hx),b.own,b.ok⟩
theorem iV:∀ {l:List Int} {i:Nat} {x:Int},l[i]? = some x→(x :: l.eraseIdx i).Perm l
 | a :: l,0,x,h=>by
  have:a=x:=by simpa using h
  subst this
  exact List.Perm.refl _
 | a :: l,i+1,x,h=>by
  have h':l[i]? = some x:=by simpa using h
  exact (List.Perm.swap a x _).trans (List.Perm.cons a (iV h'))
 | [],i,x,h=>by simp at h
theorem Bd.add {zs:ZN} {lf:List Int} {i:Nat} {q:Addr} {n:Nd} (b:Bd zs lf) (hi:lf[i]? = some n.num) (hp:n.par∈(0:Int) :: TW.aO (nds zs)) (ho:∀ z∈zs,¬ (z.2.par=n.par∧z.2.nm=n.nm))
  (h3:n.nm="a"∨n.nm="b"∨n.nm="c"∨n.nm="abcde") (h4:n.st=none∨n.st=some 0∨n.st=some 1∨n.st=some 2∨n.st=some 999):Bd (zs++[(q,n)]) (lf.eraseIdx i):=by
 have e:nds (zs++[(q,n)])=nds zs++[n]:=by simp [nds]
 have pm:=iV hi
 refine ⟨?_,?_,λx hx=>b.rng x ((List.eraseIdx_sublist lf i).mem hx),?_,λz hz=>?_⟩
 ·rw [e]
  refine .snoc b.built ?_
  rcases List.mem_cons.mp hp with h | h
  ·exact .inl h
  ·exact .inr (TW.gS.mp h)
 ·rw [e,List.map_append,List.append_assoc]
  exact ((List.Perm.append_left _ pm).nodup_iff).mpr b.nd
 ·rw [e]
  unfold TW.cD
  rw [List.map_append,List.nodup_append]
  refine ⟨b.own,by simp,λx hx y hy=>?_⟩
  have ey:y=(n.par,n.nm):=by simpa using hy
  subst ey
  obtain ⟨m,hm,rfl⟩:=List.mem_map.mp hx
  obtain ⟨z,hz,rfl⟩:=List.mem_map.mp hm
  intro h
  injection h with h1 h2
  exact ho z hz ⟨h1,h2⟩
 ·rcases List.mem_append.mp hz with h | h
  ·exact b.ok z h
  ·have ez:z=(q,n):=by simpa using h
   subst ez
   have:=b.rng n.num (List.mem_of_getElem? hi)
   exact ⟨this.1,this.2,h3,h4⟩
noncomputable def tp (z:Addr×Nd):gY:=(z.1,z.2.num,[.int z.2.par,.str z.2.nm,stV z.2.st])
noncomputable def un (t:gY):Addr×Nd:=(t.1,match t.2.2 with
 | [.int p,.str s,.int i]=>⟨t.2.1,p,s,some i⟩
 | [.int p,.str s,_]=>⟨t.2.1,p,s,none⟩
 | _=>⟨0,0,"",none⟩)
theorem vt (z:Addr×Nd):un (tp z)=z:=by
 obtain ⟨a,⟨n,p,s,st⟩⟩:=z
 cases st <;> rfl
theorem back {zs:ZN} {ts:List gY} (h:ts.Perm (zs.map tp)):(ts.map un).Perm zs∧(ts.map un).map tp=ts:=by
 constructor
 ·have:=h.map un
  rw [List.map_map] at this
  have e:zs.map (un ∘ tp)=zs.map id:=List.map_congr_left λz _=>vt z
  rw [e,List.map_id] at this
  exact this
 ·rw [List.map_map,List.map_congr_left (g:=id)]
  ·simp
  ·intro t ht
   obtain ⟨z,_,rfl⟩:=List.mem_map.mp (h.mem_iff.mp ht)
   show tp (un (tp z))=tp z
   rw [vt]
theorem hZ (zs:ZN):((zs.map tp).map (·.1)).map V.ref=aN zs:=by
 unfold aN
 simp only [List.map_map]
 rfl
theorem wA {n:Nat} {j:Int} (h0:0≤j) (h1:j<n):seqIndex? j n=some j.toNat:=(oJ (by unfold ixN; rw [if_pos h0,if_pos h1])).1
theorem jU:∀ (l:List Int) (i:Nat),(l.map V.int).eraseIdx i=(l.eraseIdx i).map V.int
 | [],i=>by simp
 | a :: l,0=>rfl
 | a :: l,i+1=>by
  show V.int a :: (l.map V.int).eraseIdx i=V.int a :: (l.eraseIdx i).map V.int
  rw [jU l i]
theorem pr {ns:List Int} {i:Int} (h0:0≤i) (h1:i<ns.length):∃ x∈ns,atI (ns.map V.int) i=some (.int x):=by
 refine ⟨ns[i.toNat]'(by omega),List.getElem_mem _,?_⟩
 have:=oM (xs:=ns.map V.int) (j:=i.toNat) (v:=.int (ns[i.toNat]'(by omega))) (by rw [List.getElem?_map,List.getElem?_eq_getElem (by omega)]; rfl)
 rw [show ((i.toNat:Nat):Int)=i by omega] at this
 exact this
theorem pw {j:Int} (h0:0≤j) (h1:j<4):∃ x:Str,(x="a"∨x="b"∨x="c"∨x="abcde")∧atI [V.str "a",.str "b",.str "c",.str "abcde"] j=some (.str x):=by
 obtain rfl | rfl | rfl | rfl:j=0∨j=1∨j=2∨j=3:=by omega
 ·exact ⟨"a",.inl rfl,rfl⟩
 ·exact ⟨"b",.inr (.inl rfl),rfl⟩
 ·exact ⟨"c",.inr (.inr (.inl rfl)),rfl⟩
 ·exact ⟨"abcde",.inr (.inr (.inr rfl)),rfl⟩
theorem ux {j:Int} (h0:0≤j) (h1:j<4):∃ i:Int,(some i=none∨some i=some (0:Int)∨some i=some 1∨some i=some 2∨some i=some 999)∧atI [V.int 0,.int 1,.int 2,.int 999] j=some (.int i):=by
 obtain rfl | rfl | rfl | rfl:j=0∨j=1∨j=2∨j=3:=by omega
 ·exact ⟨0,.inr (.inl rfl),rfl⟩
 ·exact ⟨1,.inr (.inr (.inl rfl)),rfl⟩
 ·exact ⟨2,.inr (.inr (.inr (.inl rfl))),rfl⟩
 ·exact ⟨999,.inr (.inr (.inr (.inr rfl))),rfl⟩
structure Sta (H:Hp) (pl pf pn:Addr) (Hx:Hp) (lf fs:List Int) (zs:ZN):Prop where
 same:Same H Hx
 l:Hx pl=some (.lst (lf.map V.int))
 f:Hx pf=some (.lst (fs.map V.int))
 n:Hx pn=some (.lst (aN zs))
 nd:At Hx zs
 l0:H pl=none
 f0:H pf=none
 n0:H pn=none
 lf':pl≠pf
 ln':pl≠pn
 fn':pf≠pn
theorem Sta.grow {H Hx Hy:Hp} {pl pf pn:Addr} {lf fs:List Int} {zs:ZN} (a:Sta H pl pf pn Hx lf fs zs) (s:Same Hx Hy):Sta H pl pf pn Hy lf fs zs :=
 ⟨a.same.trans s,s _ _ a.l,s _ _ a.f,s _ _ a.n,a.nd.same s,a.l0,a.f0,a.n0,a.lf',a.ln',a.fn'⟩
theorem At.over {H:Hp} {p:Addr} {xs:List V} {o:HO} {zs:ZN} (h:At H zs) (hp:H p=some (.lst xs)):At (upd H p o) zs:=λz hz=>by
 rw [aj]
 ·exact h z hz
 ·intro e
  have:=h z hz
  rw [e,hp] at this
  cases this
theorem Sta.pop {H Hx:Hp} {pl pf pn:Addr} {lf fs:List Int} {zs:ZN} (a:Sta H pl pf pn Hx lf fs zs) (lf2:List Int):Sta H pl pf pn (upd Hx pl (.lst (lf2.map V.int))) lf2 fs zs :=
 ⟨aM a.l0 a.same,ac,by rw [aj (Ne.symm a.lf')]; exact a.f,by rw [aj (Ne.symm a.ln')]; exact a.n,a.nd.over a.l,a.l0,a.f0,a.n0,a.lf',a.ln',a.fn'⟩
theorem Sta.fold {H Hx:Hp} {pl pf pn:Addr} {lf fs:List Int} {zs:ZN} (a:Sta H pl pf pn Hx lf fs zs) (x:Int):Sta H pl pf pn (upd Hx pf (.lst (fs.map V.int++[.int x]))) lf (fs++[x]) zs :=
 ⟨aM a.f0 a.same,by rw [aj a.lf']; exact a.l,by rw [ac]; simp,by rw [aj (Ne.symm a.fn')]; exact a.n,a.nd.over a.f,a.l0,a.f0,a.n0,a.lf',a.ln',a.fn'⟩
theorem Sta.node {H Hx:Hp} {pl pf pn q:Addr} {lf fs:List Int} {zs:ZN} {n:Nd} (a:Sta H pl pf pn Hx lf fs zs) (hq:Hx q=some (.tup (vals n))):Sta H pl pf pn (upd Hx pn (.lst (aN zs++[.ref q]))) lf fs (zs++[(q,n)]) :=
 ⟨aM a.n0 a.same,by rw [aj a.ln']; exact a.l,by rw [aj a.fn']; exact a.f,by rw [ac,jS],(λz hz=>by
  rcases List.mem_append.mp hz with h | h
  ·exact a.nd.over a.n z h
  ·have ez:z=(q,n):=by simpa using h
   subst ez
   rw [aj]
   ·exact hq
   ·intro e
    have e':q=pn:=e
    rw [e',a.n] at hq
    cases hq),a.l0,a.f0,a.n0,a.lf',a.ln',a.fn'⟩
noncomputable def lf0 (m:Int):List Int:=(List.range (m+4 - 1).toNat).map λk=>(1:Int)+(k:Nat)
theorem uy {m:Int} (h:0≤m):((lf0 m).length:Int)=m+3:=by unfold lf0; rw [List.length_map,List.length_range]; omega
theorem uz {m:Int} (h:m≤9):∀ x∈lf0 m,1≤x∧x≤12:=λx hx=>by
 unfold lf0 at hx
 obtain ⟨k,hk,rfl⟩:=List.mem_map.mp hx
 have:=List.mem_range.mp hk
 omega
theorem wB (m:Int):(lf0 m).Nodup:=by
 unfold lf0 List.Nodup
 rw [List.pairwise_map]
 exact List.nodup_range.imp λh e=>h (by omega)
theorem Bd.zero {m:Int} (h:m≤9):Bd [] (lf0 m):=⟨.nil,by show (([]:List Int)++lf0 m).Nodup; rw [List.nil_append]; exact wB m,uz h,by unfold TW.cD nds; simp,by simp⟩
theorem cx {ns:List Nd} (T:TW.Tree1 ns):(ns.map (·.num)).Nodup:=by
 have h:=T.rise
 unfold TW.br at h
 unfold List.Nodup
 rw [List.pairwise_map]
 exact h.imp λh e=>by omega
theorem iW {κ:Type} [DecidableEq κ] {kvs:List (κ×V)} (hn:(kvs.map (·.1)).Nodup) {k:κ} {v:V} (h:(k,v)∈kvs):bg kvs k=some v:=by
 induction kvs with
 | nil=>simp at h
 | cons y kvs ih =>
  have hn':y.1∉kvs.map (·.1)∧(kvs.map (·.1)).Nodup:=by simpa using hn
  rcases List.mem_cons.mp h with e | h'
  ·subst e; exact bG rfl
  ·rw [bo]
   ·exact ih hn'.2 h'
   ·intro e
    exact hn'.1 (List.mem_map.mpr ⟨_,h',e.symm⟩)
theorem px {κ:Type} [DecidableEq κ] {kvs:List (κ×V)} {k:κ} (h:k∉kvs.map (·.1)):bg kvs k=none:=by
 induction kvs with
 | nil=>rfl
 | cons y kvs ih =>
  have h':¬ k=y.1∧k∉kvs.map (·.1):=by simpa using h
  rw [bo (λe=>h'.1 e.symm)]
  exact ih h'.2
theorem pz {zs:ZN} {k:Int} {q:List Str} (T:TW.Tree1 (nds zs)) (h:TW.PathTo (nds zs) k q) (hk:k≠0):∃ z∈zs,z.2.num=k∧∃ q',q=q'++[z.2.nm]∧TW.PathTo (nds zs) z.2.par q':=by
 cases h with
 | top=>exact absurd rfl hk
 | @node n q' hm hq' =>
  obtain ⟨z,hz,rfl⟩:=List.mem_map.mp hm
  exact ⟨z,hz,rfl,q',rfl,hq'⟩
noncomputable def wC (P:Program) (w:World) (K:PySem.W.Frag) (mg:Str→Option Value) (base:Heap) (k:Nat) (x:Str) (ps:List Str) (sp:Sp):Prop:=∃ f fd,FnOk P w K mg base (CX1 P w) k f fd ps sp∧mg x=some (.ref f)∧PySem.W.keepIn K (.ref f)=true∧ix K fd ps []
structure Tre (H:Hp) (t:Addr) (zs:ZN):Prop where
 tup:H t=some (.tup (aN zs))
 nod:At H zs
 tr:TW.Tree1 (nds zs)
 len:zs.length≤30
theorem Tre.same {H H':Hp} {t:Addr} {zs:ZN} (h:Tre H t zs) (s:Same H H'):Tre H' t zs:=⟨s _ _ h.tup,h.nod.same s,h.tr,h.len⟩
theorem _root_.L2.Same.rd {H H':Hp} (s:Same H H') {a:Addr} {u:HO} (r:Rd H a u):Rd H' a u:=by
 rcases r with r | ⟨o,r⟩
 ·exact .inl (s _ _ r)
 ·exact .inr ⟨o,s _ _ r⟩
noncomputable def aT (as:List (Addr×(Addr×Nd))):List (Key×V):=as.map λa=>((Sum.inl a.2.2.num:Key),V.ref a.1)
noncomputable def ay (n:Nd):List V:=[.int n.par,.str n.nm,stV n.st]
structure Book (H:Hp) (d:Addr) (as:List (Addr×(Addr×Nd))) (zs:ZN):Prop where
 dict:Rd H d (.dK (aT as))
 of:as.map (·.2)=zs
 at':∀ a∈as,H a.1=some (.tup (ay a.2.2))
theorem Book.same {H H':Hp} {d:Addr} {as:List (Addr×(Addr×Nd))} {zs:ZN} (b:Book H d as zs) (s:Same H H'):Book H' d as zs:=⟨s.rd b.dict,b.of,λa ha=>s _ _ (b.at' a ha)⟩
theorem fi {as:List (Addr×(Addr×Nd))} {zs:ZN} (h:as.map (·.2)=zs):(aT as).map (·.1)=((nds zs).map (·.num)).map (Sum.inl:Int→Key):=by
 rw [← h]; unfold aT nds; simp only [List.map_map]; rfl
theorem sx {as:List (Addr×(Addr×Nd))} {zs:ZN} (h:as.map (·.2)=zs) (hn:((nds zs).map (·.num)).Nodup):((aT as).map (·.1)).Nodup:=by
 rw [fi h]
 unfold List.Nodup at hn ⊢
 rw [List.pairwise_map]
 exact hn.imp λh e=>h (by injection e)
theorem Book.get {H:Hp} {d:Addr} {as:List (Addr×(Addr×Nd))} {zs:ZN} (b:Book H d as zs) (hn:((nds zs).map (·.num)).Nodup) {z:Addr×Nd} (hz:z∈zs):∃ q,dt H d (.int z.2.num) (some (.ref q))∧H q=some (.tup (ay z.2)):=by
 have:z∈as.map (·.2):=by rw [b.of]; exact hz
 obtain ⟨a,ha,rfl⟩:=List.mem_map.mp this
 refine ⟨a.1,.inl ⟨aT as,Sum.inl a.2.2.num,b.dict,rfl,?_⟩,b.at' a ha⟩
 exact (iW (sx b.of hn) (List.mem_map.mpr ⟨a,ha,rfl⟩)).symm
theorem Book.not {H:Hp} {d:Addr} {as:List (Addr×(Addr×Nd))} {zs:ZN} (b:Book H d as zs) {k:Int} (hk:∀ z∈zs,z.2.num≠k):dt H d (.int k) none:=by
 refine .inl ⟨aT as,Sum.inl k,b.dict,rfl,(px λhm=>?_).symm⟩
 rw [fi b.of] at hm
 obtain ⟨i,hi,e⟩:=List.mem_map.mp hm
 obtain ⟨n,hn,rfl⟩:=List.mem_map.mp hi
 obtain ⟨z,hz,rfl⟩:=List.mem_map.mp hn
 injection e with e
 exact hk z hz e
noncomputable def na (ns:List Nd) (k:Int):Nat:=open Classical in if h:∃ p,TW.PathTo ns k p then (Classical.choose h).length else 0
theorem ia {ns:List Nd} (T:TW.Tree1 ns) {k:Int} {p:List Str} (h:TW.PathTo ns k p):na ns k=p.length:=by
 unfold na
 have hx:∃ p,TW.PathTo ns k p:=⟨p,h⟩
 rw [dif_pos hx]
 rw [(Classical.choose_spec hx).uniq T h]
theorem yt (n:Nd):atI (ay n) 0=some (.int n.par):=rfl
noncomputable abbrev sy (x:Str) (mg:Str→Option Value) (base:Heap) (C:Addr):Prop:=PyProof.Rows.OwnCls x C bmV "ValueError.__new__" mg base
theorem uA (o:Option Int):(!decide (stV o=V.non))=o.isSome:=by cases o <;> simp [stV]
theorem aY (zs:ZN):zs.map (λz=>V.ref z.1)=aN zs:=by simp [aN]
theorem nb {K:PySem.W.Frag} {H:Hp} {l:Addr} {zs:ZN} {Q:VK} (hl:SqL K H l (aN zs)∨SqT K H l (aN zs)) (hA:At H zs) (hn:((nds zs).map (·.num)).Nodup) (h64:zs.length<64)
  (q:∀ us t' H',Same H H'→H' t'=some (.tup (aN us))→At H' us→us.Perm zs→TW.br (nds us)→Q (.ref t') H') :
  ∃ l',∃ ts:List gY,[V.ref l]=[V.ref l']∧(SqL K H l' ((ts.map (·.1)).map V.ref)∨SqT K H l' ((ts.map (·.1)).map V.ref))∧(∀ z∈ts,H z.1=some (.tup (.int z.2.1 :: z.2.2)))∧(ts.map (·.2.1)).Nodup∧ts.length<64 ∧
   ∀ ts':List gY,ts'.Perm ts→ts'.Pairwise (λa b=>a.2.1<b.2.1)→∀ p,H p=none→∃ p' ys,[V.ref p]=[V.ref p']∧((SqL K (upd H p (.lst ((ts'.map (·.1)).map V.ref))) p' ys∧∀ l,upd H p (.lst ((ts'.map (·.1)).map V.ref)) l=none→Q (.ref l) (upd (upd H p (.lst ((ts'.map (·.1)).map V.ref))) l (.tup ys))) ∨
    (SqT K (upd H p (.lst ((ts'.map (·.1)).map V.ref))) p' ys∧Q (.ref p') (upd H p (.lst ((ts'.map (·.1)).map V.ref))))):=by
 have hnum:(zs.map tp).map (·.2.1)=(nds zs).map (·.num):=by
  unfold nds
  simp only [List.map_map]
  rfl
 refine ⟨l,zs.map tp,rfl,by rw [hZ]; exact hl,λz hz=>?_,by rw [hnum]; exact hn,by rw [List.length_map]; exact h64,λts pm up p hp=>?_⟩
 ·obtain ⟨y,hy,rfl⟩:=List.mem_map.mp hz
  exact hA y hy
 ·obtain ⟨pm2,eb⟩:=back pm
  have er:(ts.map (·.1)).map V.ref=aN (ts.map un):=by rw [← hZ,eb]
  rw [er]
  refine ⟨p,_,rfl,.inl ⟨SqL.of ac,λl hl=>?_⟩⟩
  refine q (ts.map un) l _ ((af hp).trans (af hl)) ac ?_ pm2 ?_
  ·intro z hz
   exact ((af hp).trans (af hl)) _ _ (hA z (pm2.mem_iff.mp hz))
  ·unfold nds TW.br
   rw [List.pairwise_map]
   have up2:((ts.map un).map tp).Pairwise (λa b=>a.2.1<b.2.1):=by rw [eb]; exact up
   rw [List.pairwise_map] at up2
   exact up2
noncomputable def cb:TW.Deed Str→List V
 | .make n p nm st=>[.str "make",.int n,.int p,.str nm,stV st]
 | .write n st=>[.str "write",.int n,.int st]
 | .move n p nm=>[.str "move",.int n,.int p,.str nm]
 | .drop n=>[.str "drop",.int n]
noncomputable def ln:TW.Deed Str→Prop
 | .make n p nm _=>1≤n∧n≤60∧0≤p∧p≤60∧nm.length≤100
 | .write n _=>1≤n∧n≤60
 | .move n p nm=>1≤n∧n≤60∧0≤p∧p≤60∧nm.length≤100
 | .drop n=>1≤n∧n≤60
theorem ln.pos {d:TW.Deed Str} (h:ln d):d.pos:=by
 cases d <;> first | exact h.1 | trivial
theorem cT {zs:ZN} {z:Addr×Nd} (h:z∈zs):z.2∈nds zs:=List.mem_map.mpr ⟨z,h,rfl⟩
theorem gI {zs:ZN} {n:Nd} (h:n∈nds zs):∃ z∈zs,z.2=n:=List.mem_map.mp h
theorem gm {zs:ZN} {k:Int} (h:¬ ∃ z∈zs,z.2.num=k):¬ TW.cI (nds zs) k:=λ⟨m,hm,e⟩=>by
 obtain ⟨z,hz,rfl⟩:=gI hm
 exact h ⟨z,hz,e⟩
theorem gn {zs:ZN} {k:Int} {z:Addr×Nd} (hz:z∈zs) (e:z.2.num=k):TW.cI (nds zs) k:=⟨z.2,cT hz,e⟩
noncomputable def sA:TW.Wd→Str
 | .known=>"known"
 | .noNode=>"no node"
 | .notFile=>"not file"
 | .notFolder=>"not folder"
 | .inside=>"inside"
 | .taken=>"taken"
noncomputable def bX (bs:List (Addr×Nd)):List (Key×V):=bs.map λb=>((Sum.inl b.2.num:Key),V.ref b.1)
theorem lp (as:List (Addr×(Addr×Nd))):aT as=bX (as.map λa=>(a.1,a.2.2)):=by
 unfold aT bX; rw [List.map_map]; rfl
theorem iX (bs:List (Addr×Nd)):(bX bs).map (λp=>kV p.1)=bs.map λb=>V.int b.2.num:=by
 unfold bX; rw [List.map_map]; rfl
theorem jV {bs:List (Addr×Nd)} (hn:(bs.map (·.2.num)).Nodup) {b:Addr×Nd} (hb:b∈bs):bg (bX bs) (Sum.inl b.2.num:Key)=some (.ref b.1):=by
 refine iW ?_ (List.mem_map.mpr ⟨b,hb,rfl⟩)
 unfold bX
 rw [List.map_map]
 unfold List.Nodup at hn ⊢
 rw [List.pairwise_map] at hn ⊢
 exact hn.imp λh e=>h (by injection e)
theorem qv (bs:List (Addr×Nd)) (c:Addr) (n:Nd):cu (bX bs) (Sum.inl n.num:Key) (.ref c)=bX (if ∃ b∈bs,b.2.num=n.num then bs.map (λb=>if b.2.num=n.num then (c,n) else b) else bs++[(c,n)]):=by
 unfold cu
 by_cases h:∃ b∈bs,b.2.num=n.num
 ·obtain ⟨b,hb,e⟩:=h
  have ha:((bX bs).any λkv=>decide (kv.1=(Sum.inl n.num:Key)))=true:=by
   rw [List.any_eq_true]
   exact ⟨_,List.mem_map.mpr ⟨b,hb,rfl⟩,by simp [e]⟩
  rw [if_pos ha,if_pos ⟨b,hb,e⟩]
  unfold bX
  rw [List.map_map,List.map_map]
  apply List.map_congr_left
  intro x _
  show (if (Sum.inl x.2.num:Key)=Sum.inl n.num then ((Sum.inl x.2.num:Key),V.ref c) else ((Sum.inl x.2.num:Key),V.ref x.1))=_
  by_cases e:x.2.num=n.num
  ·rw [if_pos (by rw [e])]
   show _=((Sum.inl (if x.2.num=n.num then (c,n) else x).2.num:Key),V.ref (if x.2.num=n.num then (c,n) else x).1)
   rw [if_pos e,e]
  ·rw [if_neg (λh=>e (by injection h))]
   show _=((Sum.inl (if x.2.num=n.num then (c,n) else x).2.num:Key),V.ref (if x.2.num=n.num then (c,n) else x).1)
   rw [if_neg e]
 ·have ha:¬ ((bX bs).any λkv=>decide (kv.1=(Sum.inl n.num:Key)))=true:=λha=>h (by
   obtain ⟨y,hy,e⟩:=List.any_eq_true.mp ha
   obtain ⟨b,hb,rfl⟩:=List.mem_map.mp hy
   have e':(Sum.inl b.2.num:Key)=Sum.inl n.num:=by simpa using e
   exact ⟨b,hb,by injection e'⟩)
  rw [if_neg ha,if_neg h]
  unfold bX
  rw [List.map_append]; rfl
theorem wD (n:Nd):atI (ay n) 2=some (stV n.st):=rfl
theorem nc {H:Hp} {d q:Addr} {as:List (Addr×(Addr×Nd))} {zs:ZN} {new:Nd} (hd:H d=some (.dK (aT as))) (hof:as.map (·.2)=zs) (hat:∀ a∈as,H a.1=some (.tup (ay a.2.2))) (hq:H q=some (.tup (ay new))) (hnd:((nds zs).map (·.num)).Nodup) :
  ∃ bs:List (Addr×Nd),upd H d (.dK (cu (aT as) (Sum.inl new.num:Key) (.ref q))) d=some (.dK (bX bs))∧(∀ b∈bs,upd H d (.dK (cu (aT as) (Sum.inl new.num:Key) (.ref q))) b.1=some (.tup (ay b.2)))∧(bs.map (·.2.num)).Nodup∧bs.length≤zs.length+1 ∧
   ((TW.cI (nds zs) new.num∧bs.map (·.2)=(nds zs).map (TW.put new))∨(¬ TW.cI (nds zs) new.num∧bs.map (·.2)=nds zs++[new])):=by
 have en:(as.map λa=>(a.1,a.2.2)).map (·.2)=nds zs:=by rw [← hof]; unfold nds; rw [List.map_map,List.map_map]; rfl
 have hl:(as.map λa=>(a.1,a.2.2)).length=zs.length:=by rw [← hof,List.length_map,List.length_map]
 have ne:∀ a xs,H a=some (.tup xs)→a≠d:=λa xs h e=>by rw [e,hd] at h; cases h
 have hat':∀ b∈as.map (λa=>(a.1,a.2.2)),H b.1=some (.tup (ay b.2)):=λb hb=>by
  obtain ⟨a,ha,rfl⟩:=List.mem_map.mp hb
  exact hat a ha
 rw [lp,qv]
 generalize as.map (λa=>(a.1,a.2.2))=cs at en hl hat' ⊢
 have hh:(∃ b∈cs,b.2.num=new.num)↔TW.cI (nds zs) new.num:=by
  rw [← en]
  constructor
  ·rintro ⟨b,hb,e⟩; exact ⟨b.2,List.mem_map.mpr ⟨b,hb,rfl⟩,e⟩
  ·rintro ⟨m,hm,e⟩
   obtain ⟨b,hb,rfl⟩:=List.mem_map.mp hm
   exact ⟨b,hb,e⟩
 have hn2:(cs.map (·.2.num)).Nodup:=by
  have:cs.map (·.2.num)=(nds zs).map (·.num):=by rw [← en,List.map_map]; rfl
  rw [this]; exact hnd
 by_cases h:∃ b∈cs,b.2.num=new.num
 ·rw [if_pos h]
  refine ⟨_,ac,λb hb=>?_,?_,by rw [List.length_map]; omega,.inl ⟨hh.mp h,?_⟩⟩
  ·obtain ⟨c,hc,rfl⟩:=List.mem_map.mp hb
   by_cases e:c.2.num=new.num
   ·rw [if_pos e,aj (ne _ _ hq)]; exact hq
   ·rw [if_neg e,aj (ne _ _ (hat' c hc))]; exact hat' c hc
  ·have:(cs.map λb=>if b.2.num=new.num then (q,new) else b).map (·.2.num)=cs.map (·.2.num):=by
    rw [List.map_map]
    apply List.map_congr_left
    intro c _
    show (if c.2.num=new.num then (q,new) else c).2.num=c.2.num
    by_cases e:c.2.num=new.num
    ·rw [if_pos e]; exact e.symm
    ·rw [if_neg e]
   rw [this]; exact hn2
  ·rw [← en,List.map_map,List.map_map]
   apply List.map_congr_left
   intro c _
   show (if c.2.num=new.num then (q,new) else c).2=TW.put new c.2
   unfold TW.put
   by_cases e:c.2.num=new.num
   ·rw [if_pos e,if_pos e]
   ·rw [if_neg e,if_neg e]
 ·rw [if_neg h]
  refine ⟨_,ac,λb hb=>?_,?_,by rw [List.length_append]; simp; omega,.inr ⟨λx=>h (hh.mpr x),by rw [List.map_append,en]; rfl⟩⟩
  ·rcases List.mem_append.mp hb with hb | hb
   ·rw [aj (ne _ _ (hat' b hb))]; exact hat' b hb
   ·have e:b=(q,new):=by simpa using hb
    subst e
    rw [aj (ne _ _ hq)]; exact hq
  ·rw [List.map_append,List.nodup_append]
   refine ⟨hn2,by simp,λx hx y hy e=>?_⟩
   have ey:y=new.num:=by simpa using hy
   obtain ⟨b,hb,eb⟩:=List.mem_map.mp hx
   exact h ⟨b,hb,by rw [eb,e,ey]⟩
noncomputable def iY (t:List Nd) (dd:TW.Deed Str) (n p:Int) (nm:Str):Prop:=(∃ st,dd = .make n p nm st∧¬ TW.cI t n)∨(dd = .move n p nm∧TW.cI t n)
theorem iY.no {t:List Nd} {dd:TW.Deed Str} {n p:Int} {nm:Str} (h:iY t dd n p nm) (h0:p≠0) (hp:¬ TW.cI t p):TW.Told t dd (.inl .noNode):=by
 rcases h with ⟨st,rfl,hn⟩ | ⟨rfl,hn⟩
 ·exact .mNo hn h0 hp
 ·exact .vNoP hn h0 hp
theorem iY.file {t:List Nd} {dd:TW.Deed Str} {n p:Int} {nm:Str} (h:iY t dd n p nm) (h0:p≠0) {m:Nd} (hm:m∈t) (e:m.num=p) (hs:m.st≠none):TW.Told t dd (.inl .notFolder):=by
 rcases h with ⟨st,rfl,hn⟩ | ⟨rfl,hn⟩
 ·exact .mFile hn h0 hm e hs
 ·exact .vFile hn h0 hm e hs
noncomputable def NotIn (t:List Nd) (dd:TW.Deed Str) (n p:Int):Prop:=(∃ nm,dd = .move n p nm)→p≠0→¬ TW.Und t n p
theorem iY.taken {t:List Nd} {dd:TW.Deed Str} {n p:Int} {nm:Str} (h:iY t dd n p nm) (hF:TW.iU t p) (hi:NotIn t dd n p) {m:Nd} (hm:m∈t) (hne:m.num≠n) (e1:m.par=p) (e2:m.nm=nm):TW.Told t dd (.inl .taken):=by
 rcases h with ⟨st,rfl,hn⟩ | ⟨rfl,hn⟩
 ·exact .mTaken hn hF hm e1 e2
 ·exact .vTaken hn hF (hi ⟨_,rfl⟩) hm hne e1 e2
noncomputable def jr (x:Str):Prop:=x="a"∨x="b"∨x="c"∨x="abcde"
noncomputable def uB (s:Option Int):Prop:=∀ i,s=some i→0≤i∧i≤999
noncomputable def cU (n:Nd):Prop:=1≤n.num∧n.num≤60∧jr n.nm∧uB n.st
noncomputable def cy:TW.Deed Str→Prop
 | .make n p nm st=>1≤n∧n≤60∧0≤p∧p≤60∧jr nm∧uB st
 | .write n st=>1≤n∧n≤60∧0≤st∧st≤999
 | .move n p nm=>1≤n∧n≤60∧0≤p∧p≤60∧jr nm
 | .drop n=>1≤n∧n≤60
theorem jr.len {x:Str} (h:jr x):x.length≤100:=by
 rcases h with rfl | rfl | rfl | rfl <;> decide +kernel
theorem cy.ok {d:TW.Deed Str} (h:cy d):ln d:=by
 cases d with
 | make n p nm st=>obtain ⟨h1,h2,h3,h4,h5,_⟩:=h; exact ⟨h1,h2,h3,h4,h5.len⟩
 | write n st=>exact ⟨h.1,h.2.1⟩
 | move n p nm=>obtain ⟨h1,h2,h3,h4,h5⟩:=h; exact ⟨h1,h2,h3,h4,h5.len⟩
 | drop n=>exact h
theorem cU.told {t u:List Nd} {d:TW.Deed Str} (ht:∀ n∈t,cU n) (hd:cy d) (h:TW.Told t d (.inr u)):∀ n∈u,cU n:=by
 refine h.all ht (λn p nm st e=>?_) (λn st e y hy ey=>?_) (λn p nm e y hy ey=>?_)
 ·subst e
  obtain ⟨h1,h2,h3,h4,h5,h6⟩:=hd
  exact ⟨h1,h2,h5,h6⟩
 ·subst e
  obtain ⟨h1,h2,h3,h4⟩:=hd
  exact ⟨h1,h2,(ht y hy).2.2.1,λi e=>by injection e with e; omega⟩
 ·subst e
  obtain ⟨h1,h2,h3,h4,h5⟩:=hd
  exact ⟨h1,h2,h5,(ht y hy).2.2.2⟩
theorem uw.ok {n:Nd} (h:uw n):cU n:=by
 obtain ⟨h1,h2,h3,h4⟩:=h
 refine ⟨h1,by omega,h3,λi e=>?_⟩
 rcases h4 with h | h | h | h | h <;> rw [h] at e <;> cases e <;> decide
theorem pA {ns:List Int} {i:Int} (h0:0≤i) (h1:i<ns.length) {P:Int→Prop} (hP:∀ x∈ns,P x):∃ x,atI (ns.map V.int) i=some (.int x)∧P x:=by
 obtain ⟨x,hx,e⟩:=pr h0 h1
 exact ⟨x,e,hP x hx⟩
noncomputable def top (i:Nat):Stmt:=PySem.Challenge.pw_treewatch_k50_whole_seen.main.body.getD i (.Pass ⟨0,0,0,0⟩)
noncomputable abbrev gJ:Stmt:=top 8
noncomputable abbrev jW:Stmt:=top 9
noncomputable abbrev gK:Stmt:=top 10
noncomputable abbrev jX:Stmt:=top 11
noncomputable abbrev jY:Stmt:=top 12
noncomputable abbrev qx:Stmt:=top 13
noncomputable abbrev qy:Stmt:=top 14
noncomputable abbrev jZ:Stmt:=top 15
noncomputable abbrev bh:Stmt:=top 17
noncomputable abbrev bu:Stmt:=top 18
noncomputable abbrev aG:Stmt:=top 19
noncomputable abbrev bY:Stmt:=top 20
noncomputable abbrev cO:Stmt:=top 22
noncomputable abbrev cc:Stmt:=top 23
noncomputable abbrev cE:Stmt:=top 24
noncomputable abbrev ka:Stmt:=top 26
noncomputable abbrev kb:Stmt:=top 27
noncomputable abbrev dQ:Stmt:=top 28
noncomputable abbrev kc:Stmt:=top 29
noncomputable abbrev gL:Stmt:=top 30
noncomputable abbrev gM:Stmt:=top 31
noncomputable abbrev bZ:Stmt:=top 32
noncomputable abbrev eK:Stmt:=top 33
noncomputable abbrev qz:Stmt:=top 34
noncomputable abbrev bn:Stmt:=top 35
noncomputable abbrev dR:Stmt:=top 36
structure Txt (mg:Str→Option Value):Prop where
 isin:mg "isinstance" = none
 dict:mg "dict" = none
 len:mg "len" = none
 tuple:mg "tuple" = none
 list:mg "list" = none
 range:mg "range" = none
 sorted:mg "sorted" = none
 reversed:mg "reversed" = none
 ValueError:mg "ValueError" = none
 str:mg "str" = none
 set:mg "set" = none
 max:mg "max" = none
 min:mg "min" = none
 sum:mg "sum" = none
 zip:mg "zip" = none
 enumerate:mg "enumerate" = none
 all:mg "all" = none
 int:mg "int" = none
 bool:mg "bool" = none
 top:∃ t,mg "TOP" = some (.int 0 t)
 letters:∃ t,mg "LETTERS" = some (.str "abcdefghijklmnopqrstuvwxyz" t)
 longest:∃ t,mg "LONGEST_NAME" = some (.int 5 t)
 greatest:∃ t,mg "GREATEST_STAMP" = some (.int 999 t)
end TK
namespace TB
open PySem PySem.SetTable
theorem qA {t:SetTable} {l:List Nat} (T:Tb t l) (mk:Mk t.mask) (hl:l.length≤t.mask) (h:Int):∃ j,t.freeSlot h=some (j,false)∧j∉l∧j≤t.mask:=by
 obtain ⟨j₀,hj₀,hj₀'⟩:=iL t.mask l hl
 obtain ⟨n₀,hn₀,en₀⟩:=cover mk.cyc h hj₀
 obtain ⟨N,hNle,hN,hNno⟩:=iH (λm=>pos t.mask h m∉l) n₀ (by rw [en₀]; exact hj₀')
 have hp:=iI t (λ_=>h+1) h N (st t.mask h) (10 * turns t.mask) (by omega) (λm hm=>by
  have hin:pos t.mask h m∈l:=by
   by_cases z:pos t.mask h m∈l
   ·exact z
   ·exact (hNno m hm z).elim
  obtain ⟨i,hi,e⟩:=List.mem_iff_getElem.mp hin
  exact ⟨i,hV T (by show l[i]? = some (pos t.mask h m); rw [List.getElem?_eq_getElem hi,e]),by rw [beq_eq_false_iff_ne]; omega⟩) (ma T hN)
 refine ⟨pos t.mask h N,?_,hN,gD _ _ _⟩
 unfold SetTable.freeSlot
 have hp':t.probe (λ_=>h+1) h (t.probeStart h)=some (.empty (pos t.mask h N) none):=hp
 rw [hp']
 rfl
theorem uC {t:SetTable} {l:List Nat} (T:Tb t l) (mk:Mk t.mask) (hl:l.length+1≤t.mask) (es:Array (Int×Value)) (hes:es.size=l.length) (h:Int) (x:Value) :
  ∃ p t' l',layNew t es h x=(insertAt es p (h,x),t',false,false)∧Tb t' l'∧l'.length=l.length+1∧t'.mask=t.mask∧t'.plain=t.plain∧t'.led=t.led:=by
 obtain ⟨j,hf,hj,hjm⟩:=qA T mk (by omega) h
 obtain ⟨T1,hp1,hm1⟩:=rJ T hj hjm
 have hlen:(l.take (below l.toArray j)++j :: l.drop (below l.toArray j)).length=l.length+1:=by
  rw [List.length_append,List.length_cons,List.length_take,List.length_drop]
  have:=(cC T.up j).1
  omega
 have hsz:(insertAt es (t.put j).2 (h,x)).size=l.length+1:=by
  rw [← Array.length_toList,SetTable.toList_insertAt,List.length_append,List.length_cons,List.length_take,List.length_drop,Array.length_toList,hes,hp1]
  have:=(cC T.up j).1
  omega
 have hfit:(t.put j).1.fits (insertAt es (t.put j).2 (h,x)).size=true:=eP T1 (by rw [hlen,hsz]) (by rw [hsz,hm1]; exact hl)
 refine ⟨(t.put j).2,(t.put j).1,_,?_,T1,hlen,hm1,rfl,rfl⟩
 unfold layNew
 rw [hf]
 show (insertAt es (t.put j).2 (h,x),(t.put j).1.orStandIn (insertAt es (t.put j).2 (h,x)).size,false,!((t.put j).1.fits (insertAt es (t.put j).2 (h,x)).size))=_
 rw [hfit]
 unfold SetTable.orStandIn
 rw [if_pos hfit]
 rfl
theorem qB {t:SetTable} (es:Array (Int×Value)) (h0:0<es.size) (h60:es.size≤60) :
  ∃ es' t' l',relayAll t es (grown es.size)=(es',t',false)∧es'.toList.Perm es.toList∧Tb t' l'∧l'.length=es.size∧Mk t'.mask∧es.size * 5<t'.mask * 3∧t'.plain=t.plain∧t'.led=t.led:=by
 have hw:grown es.size=es.size * 4:=by unfold SetTable.grown; rw [if_neg (by omega)]
 obtain ⟨hmk,hle,h256⟩:=fV (w:=es.size * 4) (by omega)
 rw [hw]
 obtain ⟨t',zs,e,hm,hled,hpl,T,hperm,_⟩:=gF (t:=t) (hashes:=es.map (·.1)) (wanted:=es.size * 4) hmk.cyc (by rw [Array.size_map]; omega)
 rw [Array.size_map] at hperm
 have hlen:zs.length=es.size:=by
  have:=hperm.length_eq
  rw [List.length_map,List.length_range] at this
  exact this
 have hp:(((zs.map (·.2)).toArray).filterMap (λi=>es[i]?)).toList.Perm es.toList:=by
  rw [Array.toList_filterMap]
  exact (hperm.filterMap _).trans (by rw [filterMap_getElem?_range])
 have hsz:(((zs.map (·.2)).toArray).filterMap (λi=>es[i]?)).size=es.size:=by
  rw [← Array.length_toList,hp.length_eq,Array.length_toList]
 have hfit:t'.fits (((zs.map (·.2)).toArray).filterMap (λi=>es[i]?)).size=true:=eP T (by rw [hsz,List.length_map,hlen]) (by rw [hsz,hm]; omega)
 have hcov:coversAll (zs.map (·.2)).toArray es.size=true:=by
  unfold coversAll
  exact List.isPerm_iff.mpr hperm
 refine ⟨((zs.map (·.2)).toArray).filterMap (λi=>es[i]?),t',zs.map (·.1),?_,hp,T,by rw [List.length_map,hlen],by rw [hm]; exact hmk,by rw [hm]; omega,hpl,hled⟩
 unfold relayAll
 rw [e]
 dsimp only
 rw [hcov,hfit]
 rfl
noncomputable def bt (w:World):Bool:=w.params.followText "set-order"
noncomputable def gp (tk:Int→Tok) (n:Int):Int×Value:=(hashInt n,.int n (tk n))
structure ISt (w:World) (es:Array (Int×Value)) (t:SetTable) (ns:List Int):Prop where
 ent:∃ tk,es.toList=ns.map (gp tk)
 nd:ns.Nodup
 tb:∃ l,Tb t l∧l.length=ns.length
 mkm:Mk t.mask
 room:ns.length * 5<t.mask * 3
 pl:t.plain=true
 led:bt w=false→t.led=true
noncomputable def IS (w:World) (h:Heap) (a:Addr) (ns:List Int):Prop:=∃ o es ep t,h.get? a=some o∧o.ExactSet∧o.data = .set es ep t∧ISt w es t ns
theorem ISt.size {w:World} {es:Array (Int×Value)} {t:SetTable} {ns:List Int} (h:ISt w es t ns):es.size=ns.length:=by
 obtain ⟨tk,e⟩:=h.ent
 rw [← Array.length_toList,e,List.length_map]
theorem ISt.fits {w:World} {es:Array (Int×Value)} {t:SetTable} {ns:List Int} (h:ISt w es t ns):t.fits es.size=true:=by
 obtain ⟨l,T,hl⟩:=h.tb
 have:=h.mkm.ge
 have:=h.room
 exact eP T (by rw [hl,h.size]) (by rw [h.size]; omega)
theorem ISt.elems {prog:Program} {w:World} {es:Array (Int×Value)} {t:SetTable} {ns:List Int} (h:ISt w es t ns):ElemsOf (intKind prog w) es.toList:=by
 obtain ⟨tk,e⟩:=h.ent
 rw [e]
 intro z hz
 obtain ⟨n,hn,rfl⟩:=List.mem_map.mp hz
 exact ⟨⟨n,intKind_is _ _ _ _,rfl⟩,rfl⟩
theorem cZ {es':List (Int×Value)}:∀ {l:List (Int×Value)},es'.Perm l→∀ {tk:Int→Tok} {ns:List Int},l=ns.map (gp tk)→∃ ns':List Int,ns'.Perm ns∧es'=ns'.map (gp tk):=by
 intro l p tk ns e
 have hall:∀ z∈es',∃ n,z=gp tk n:=λz hz=>by
  have:=p.mem_iff.mp hz
  rw [e] at this
  obtain ⟨n,hn,e⟩:=List.mem_map.mp this
  exact ⟨n,e.symm⟩
 obtain ⟨ns',e'⟩:∃ ns':List Int,es'=ns'.map (gp tk):=by
  clear p e
  induction es' with
  | nil=>exact ⟨[],rfl⟩
  | cons z es' ih =>
   obtain ⟨n,hn⟩:=hall z List.mem_cons_self
   obtain ⟨ns',e⟩:=ih λy hy=>hall y (List.mem_cons_of_mem _ hy)
   exact ⟨n :: ns',by rw [hn,e]; rfl⟩
 refine ⟨ns',?_,e'⟩
 have hv:∀ m:List Int,(m.map (gp tk)).map (λz=>match z.2 with | .int n _=>n | _=>0)=m:=λm=>by
  rw [List.map_map]
  induction m with
  | nil=>rfl
  | cons x m ih=>rw [List.map_cons,ih]; rfl
 have:=p.map (λz=>match z.2 with | .int n _=>n | _=>0)
 rw [e',e,hv,hv] at this
 exact this
theorem sB {tk:Int→Tok} {ns:List Int} {n:Int} {t:Tok} (hn:n∉ns):∃ tk',(gp tk' n=(hashInt n,Value.int n t))∧ns.map (gp tk')=ns.map (gp tk):=by
 refine ⟨λm=>if m=n then t else tk m,by show (hashInt n,Value.int n (if n=n then t else tk n))=_; rw [if_pos rfl],?_⟩
 apply List.map_congr_left
 intro m hm
 show (hashInt m,Value.int m (if m=n then t else tk m))=_
 rw [if_neg (by rintro rfl; exact hn hm)]
 rfl
section
variable {prog:Program} {w:World} {A:Around} {E:Value→Shared→Prop} {s:Shared}
theorem add_int {a:Addr} {ns:List Int} {n:Int} {t0:Tok} {Q:Bool→Shared→Prop} (hS:IS w s.heap a ns) (hroom:ns.length<60)
  (h:∀ r h' ns',Heap.SameBut a s.heap h'→IS w h' a ns'→((n∈ns∧ns'=ns)∨(n∉ns∧ns'.Perm (n :: ns)))→Q r { s with heap:=h' }) :
  wpAny (model prog w) A (setAddHashed a (.int n t0) (hashInt n)) Q E s:=by
 obtain ⟨o,es,ep,t,ho,hex,hd,S⟩:=id hS
 have hsz:=S.size
 have hf:=S.fits
 have hel:ElemsOf (intKind prog w) es.toList:=S.elems
 have hkey:(intKind prog w).is n (.int n t0)=true:=intKind_is _ _ _ _
 have hb:es.size<scanBound:=by unfold scanBound; omega
 have hge:=S.mkm.ge
 have hrm:=S.room
 unfold setAddHashed setAddHashedIn
 refine wpAny_holding (wpAny_bind (wpAny_setState_of ho hd hf ?_))
 dsimp only
 rw [byScan_of (knd:=intKind prog w) (x:=.int n t0) rfl hb hel]
 simp only [↓reduceIte]
 unfold setAddByScan
 refine wpAny_bind ?_
 refine wpAny_bind (wpAny_rule ?_)
 refine wpAny_bind (wpAny_setScan_of (knd:=intKind prog w) (k:=n) hkey ho hd hf hel ?_)
 obtain ⟨tk,hent⟩:=S.ent
 cases hr:List.findIdx? (λe=>(intKind prog w).is n e.2) es.toList with
 | some j =>
  dsimp only
  obtain ⟨hj,hpj,_⟩:=List.findIdx?_eq_some_iff_getElem.mp hr
  have hin:n∈ns:=by
   have hm:es.toList[j]∈es.toList:=List.getElem_mem hj
   generalize es.toList[j]=z at hm hpj
   rw [hent] at hm
   obtain ⟨m,hm1,rfl⟩:=List.mem_map.mp hm
   have:=(intKind prog w).inj _ n m hpj (intKind_is _ _ _ _)
   rw [this]; exact hm1
  refine wpAny_pure (wpAny_pure ?_)
  have e:s={ s with heap:=s.heap }:=by cases s; rfl
  have:=h false s.heap ns (Heap.SameBut.refl a s.heap) hS (.inl ⟨hin,rfl⟩)
  rw [e]; exact this
 | none =>
  dsimp only
  have hnin:n∉ns:=λhin=>by
   have:=List.findIdx?_eq_none_iff.mp hr (gp tk n) (by rw [hent]; exact List.mem_map.mpr ⟨n,hin,rfl⟩)
   have h2:(intKind prog w).is n (gp tk n).2=true:=intKind_is _ _ _ _
   rw [h2] at this
   cases this
  obtain ⟨l,T,hl⟩:=S.tb
  obtain ⟨p,t1,l1,e1,T1,hl1,hm1,hp1,hled1⟩:=uC T S.mkm (by omega) es (by omega) (hashInt n) (.int n t0)
  rw [e1]
  dsimp only
  obtain ⟨tk',htk1,htk2⟩:=sB (tk:=tk) (t:=t0) hnin
  obtain ⟨ns1,hns1,hes1⟩:=cZ (es':=(insertAt es p (hashInt n,Value.int n t0)).toList) (l:=(n :: ns).map (gp tk')) (tk:=tk') (ns:=n :: ns) (by
   refine (SetTable.insertAt_perm es p _).trans ?_
   rw [Array.toList_push,hent,← htk2,List.map_cons,htk1]
   exact List.perm_append_singleton _ _) rfl
  have hn1:ns1.length=ns.length+1:=by rw [hns1.length_eq,List.length_cons]
  have hnd1:ns1.Nodup:=hns1.nodup_iff.mpr (List.nodup_cons.mpr ⟨hnin,S.nd⟩)
  have hsz1:(insertAt es p (hashInt n,Value.int n t0)).size=ns1.length:=by rw [← Array.length_toList,hes1,List.length_map]
  refine wpAny_bind (wpAny_pure ?_)
  rw [hp1,S.pl]
  simp only [if_true]
  refine wpAny_bind ?_
  rw [hashByValue_scannable 8 (x:=.int n t0) rfl]
  refine wpAny_pure ?_
  simp only [plainKind,if_true]
  refine wpAny_bind (wpAny_storeSet_of ho hd ?_ (by rw [hsz1]; exact kZ (by omega)))
  have ho1:=stored ho hd (insertAt es p (hashInt n,Value.int n t0)) t1
  have hsb1:=Heap.SameBut.update s.heap a (Obj.putSet (insertAt es p (hashInt n,Value.int n t0)) t1)
  have hfill:t1.fill=ns1.length:=by rw [eO T1,hl1,hl,hn1]
  by_cases hfull:t1.tooFull=true
  ·rw [hfull]
   simp only [Bool.not_false,Bool.and_self,if_true]
   obtain ⟨es2,t2,l2,e2,p2,T2,hl2,hmk2,hrm2,hp2,hled2⟩:=qB (t:=t1) (insertAt es p (hashInt n,Value.int n t0)) (by omega) (by omega)
   rw [e2]
   dsimp only
   obtain ⟨ns2,hns2,hes2⟩:=cZ p2 hes1
   have hn2:ns2.length=ns1.length:=hns2.length_eq
   have hsz2:es2.size=ns2.length:=by rw [← Array.length_toList,hes2,List.length_map]
   refine wpAny_bind (wpAny_pure ?_)
   refine wpAny_bind (wpAny_storeSet_of ho1 rfl ?_ (by rw [hsz2]; exact kZ (by omega)))
   have ho2:=stored (s:={ s with heap:=s.heap.update a (Obj.putSet (insertAt es p (hashInt n,Value.int n t0)) t1) }) ho1 rfl es2 t2
   refine wpAny_pure (wpAny_pure (h true _ ns2 (hsb1.trans (Heap.SameBut.update _ a _)) ⟨_,es2,_,t2,ho2,hex,rfl,⟨⟨tk',hes2⟩,hns2.nodup_iff.mpr hnd1,⟨l2,T2,by omega⟩,hmk2,by rw [hn2,← hsz1]; exact hrm2,by rw [hp2,hp1]; exact S.pl,λz=>by rw [hled2,hled1]; exact S.led z⟩⟩ (.inr ⟨hnin,hns2.trans hns1⟩)))
  ·have hnf:t1.tooFull=false:=by simpa using hfull
   rw [hnf]
   simp only [Bool.and_false,Bool.false_eq_true,if_false]
   refine wpAny_pure (wpAny_pure (h true _ ns1 hsb1 ⟨_,_,_,t1,ho1,hex,rfl,⟨⟨tk',hes1⟩,hnd1,⟨l1,T1,by omega⟩,by rw [hm1]; exact S.mkm,?_,by rw [hp1]; exact S.pl,λz=>by rw [hled1]; exact S.led z⟩⟩ (.inr ⟨hnin,hns1⟩)))
   unfold SetTable.tooFull at hnf
   rw [decide_eq_false_iff_not,hfill] at hnf
   omega
end
theorem iZ:entryFor table "set.__iter__" = some Builtin.«frozenset.__iter__» :=
 entryFor_alias (id':="frozenset.__iter__") (by kernel_rfl) rfl (by decide +kernel) (by kernel_rfl)
theorem ck:Slot "set_iterator" "__next__" "set_iterator.__next__" :=
 .of (owner:="set_iterator") (n:="__next__") (by rw [typeLookup_type,builtinLookup_eq_fast]; kernel_rfl) (by decide +kernel) (by decide +kernel) (by decide +kernel)
  (by first | exact .inl (by decide +kernel) | exact .inr (by decide +kernel)) (by rw [isSubtype_type]; kernel_rfl)
theorem gq:Slot "set_iterator" "__iter__" "set_iterator.__iter__" :=
 .of (owner:="set_iterator") (n:="__iter__") (by rw [typeLookup_type,builtinLookup_eq_fast]; kernel_rfl) (by decide +kernel) (by decide +kernel) (by decide +kernel)
  (by first | exact .inl (by decide +kernel) | exact .inr (by decide +kernel)) (by rw [isSubtype_type]; kernel_rfl)
theorem eY:entryFor table "set_iterator.__next__" = some Builtin.«set_iterator.__next__»:=entryFor_of_tree (by kernel_rfl)
theorem ng:Manifest.owners.lookup (String.ofList ['r','o','t','a','r','e','t','i','_','t','e','s'].reverse)=some Manifest.sig_set_iterator:=by kernel_rfl
theorem gr (a:Value):argsOk "set_iterator.__next__" ⟨[a],[]⟩:=by
 unfold argsOk; rw [signature?_of (id:="set_iterator.__next__") (n:=['_','_','t','x','e','n','_','_']) (o:=['r','o','t','a','r','e','t','i','_','t','e','s']) (by kernel_rfl) ng]; kernel_rfl
theorem lr (a:Value):argsOk "set_iterator.__iter__" ⟨[a],[]⟩:=by
 unfold argsOk; rw [signature?_of (id:="set_iterator.__iter__") (n:=['_','_','r','e','t','i','_','_']) (o:=['r','o','t','a','r','e','t','i','_','t','e','s']) (by kernel_rfl) ng]; kernel_rfl
theorem jt:∃ b,entryFor table "set_iterator.__iter__" = some b∧b=Builtin.«dict_keyiterator.__iter__» :=
 ⟨_,entryFor_alias (id':="dict_keyiterator.__iter__") (by kernel_rfl) rfl (by decide +kernel) (by kernel_rfl),rfl⟩
theorem kd {α:Type} (next:Nat→Nat):∀ (fuel k:Nat) (left:List α) (out:Array α),left.length=fuel→(pickOrder.go next fuel k left out).toList.Perm (out.toList++left)
 | 0,k,left,out,h=>by
  have:left=[]:=List.length_eq_zero_iff.mp h
  subst this
  rw [List.append_nil]
  exact .rfl
 | fuel+1,k,left,out,h=>by
  unfold pickOrder.go
  have hlt:next k % left.length<left.length:=Nat.mod_lt _ (by omega)
  rw [List.getElem?_eq_getElem hlt]
  dsimp only
  refine (kd next fuel (k+1) _ _ (by rw [List.length_eraseIdx,if_pos hlt]; omega)).trans ?_
  rw [Array.toList_push,List.append_assoc]
  refine List.Perm.append_left _ ?_
  rw [List.singleton_append]
  rw [List.eraseIdx_eq_take_drop_succ]
  refine List.perm_middle.symm.trans ?_
  rw [List.getElem_cons_drop,List.take_append_drop]
noncomputable def eL (w:World) (a:Addr) (ep:Nat) (es:Array (Int×Value)):Array (Int×Value):=if bt w then pickOrder (w.params.setOrder a ep) es else es
theorem ja (w:World) (a:Addr) (ep:Nat) (es:Array (Int×Value)):(eL w a ep es).toList.Perm es.toList:=by
 unfold eL
 split
 ·exact kd _ _ _ _ _ rfl
 ·exact .rfl
theorem nh (w:World) (a:Addr) (ep:Nat) (es:Array (Int×Value)):(eL w a ep es).size=es.size:=by
 rw [← Array.length_toList,(ja w a ep es).length_eq,Array.length_toList]
noncomputable def nW (w:World) (t:SetTable) (h:Heap) (I a:Addr) (n ep i:Nat):Prop :=
 ∃ o slot,h.get? I=some o∧o.cls = .type "set_iterator"∧o.data = .fields #[.int (slot:Nat) 0,.int (i:Nat) 0,.ref a,.int (n:Nat) 0,.int (ep:Nat) 0]∧(bt w=false→below t.place slot=i)
theorem nW.typeIs {w:World} {t:SetTable} {s:Shared} {I a:Addr} {n ep i:Nat} (x:nW w t s.heap I a n ep i):s.TypeIs (.ref I) "set_iterator":=let ⟨o,_,ho,hc,_⟩:=x; ⟨o,ho,hc⟩
section
variable {prog:Program} {w:World} {A:Around} {E:Value→Shared→Prop} {s:Shared}
theorem gO {es:Array (Int×Value)} {t:SetTable} {ns:List Int} (S:ISt w es t ns):(!t.plain && decide (es.size > 1))=false:=by rw [S.pl]; rfl
theorem sC {a:Addr} {o:Obj} {es:Array (Int×Value)} {ep:Nat} {t:SetTable} {ns:List Int} {Q:Value→Shared→Prop} (S:ISt w es t ns) (ho:s.heap.get? a=some o) (hex:o.ExactSet) (hd:o.data = .set es ep t)
  (hQ:Q (.ref s.heap.objs.size) { s with heap:=s.heap.push { cls:=.type "set_iterator",data:=.fields #[.int 0 0,.int 0 0,.ref a,.int es.size 0,.int ep 0] } }):wpAny (model prog w) A (pyIter (.ref a)) Q E s:=by
 have hT:s.TypeIs (.ref a) "set":=⟨o,ho,hex.1⟩
 refine wpAny_pyIter_slot hT F.slot_set_iter (wpAny_call_entry F.slot_set_iter hT iZ ?_ (F.args_set_iter_1 _))
 unfold Builtin.«frozenset.__iter__» Builtin.Frozenset.slot0
 refine wpAny_bind ?_
 show wpAny _ _ (pure a) _ _ s
 refine wpAny_pure ?_
 unfold Builtin.Frozenset.sizeOf
 refine wpAny_bind (wpAny_bind (wpAny_setEntries_of ho hd S.fits (wpAny_pure ?_)))
 refine wpAny_bind ?_
 unfold setDrawn
 refine wpAny_bind (wpAny_setState_of ho hd S.fits ?_)
 unfold setsByText
 refine wpAny_bind (wpAny_bind (wpAny_askSetting (wpAny_pure ?_)))
 refine wpAny_pure ?_
 have hdr:(!(model prog w).w.params.followText "set-order" && (!t.plain && decide (es.size > 1)))=false:=by rw [gO S,Bool.and_false]
 show wpAny _ _ (if (!(model prog w).w.params.followText "set-order" && (!t.plain && decide (es.size > 1)))=true then _ else _) _ _ _
 rw [hdr]
 simp only [Bool.false_eq_true,if_false]
 refine wpAny_bind (wpAny_pure ?_)
 refine wpAny_bind (wpAny_setEpoch_of ho hd S.fits ?_)
 refine wpAny_bind (wpAny_newObj_type (wpAny_pure ⟨_,rfl,"set_iterator",_,⟨_,Heap.get?_push_size _ rfl,rfl⟩,ck.lookup,?_⟩))
 simpa [rawInt] using hQ
theorem nk {a:Addr} {o:Obj} {es:Array (Int×Value)} {ep slot i:Nat} {t:SetTable} {ns:List Int} {Q:Option (Value×Nat)→Shared→Prop} (S:ISt w es t ns) (ho:s.heap.get? a=some o) (hd:o.data = .set es ep t) (hs:bt w=false→below t.place slot=i)
  (h1:∀ v slot',(eL w a ep es)[i]?.map (·.2)=some v→(bt w=false→below t.place slot'=i+1)→Q (some (v,slot')) s) (h2:(eL w a ep es)[i]? = none→Q none s):wpAny (model prog w) A (setNext a slot i ep) Q E s:=by
 unfold setNext
 refine wpAny_bind (wpAny_setState_of ho hd S.fits ?_)
 unfold setsByText
 refine wpAny_bind (wpAny_bind (wpAny_askSetting (wpAny_pure ?_)))
 show wpAny _ _ (if bt w=true then _ else _) _ _ _
 cases hb:bt w with
 | true =>
  simp only [if_true,bne_self_eq_false,Bool.false_eq_true,if_false]
  refine wpAny_bind ?_
  unfold setWalk
  refine wpAny_bind (wpAny_setState_of ho hd S.fits ?_)
  unfold setsByText
  refine wpAny_bind (wpAny_bind (wpAny_askSetting (wpAny_pure ?_)))
  show wpAny _ _ (if bt w=true then _ else _) _ _ _
  rw [hb]
  simp only [if_true]
  refine wpAny_bind (wpAny_askSetting (wpAny_pure ?_))
  have e:eL w a ep es=pickOrder (w.params.setOrder a ep) es:=by unfold eL; rw [hb]; rfl
  rw [e] at h1 h2
  show wpAny _ _ (pure (((pickOrder (w.params.setOrder a ep) es)[i]?).map λe=>(e.2,slot))) _ _ _
  cases hx:(pickOrder (w.params.setOrder a ep) es)[i]? with
  | none=>exact wpAny_pure (h2 hx)
  | some x=>exact wpAny_pure (h1 x.2 slot (by rw [hx]; rfl) (λz=>absurd (hb.symm.trans z) (by decide)))
 | false =>
  simp only [Bool.false_eq_true,if_false]
  have e:eL w a ep es=es:=by unfold eL; rw [hb]; rfl
  rw [e] at h1 h2
  show wpAny _ _ (if (!t.plain && decide (es.size > 1))=true then _ else _) _ _ _
  rw [gO S]
  simp only [Bool.false_eq_true,if_false]
  refine wpAny_bind ?_
  show wpAny _ _ (if (!t.led && !es.isEmpty)=true then _ else _) _ _ _
  rw [S.led hb]
  simp only [Bool.not_true,Bool.false_and,Bool.false_eq_true,if_false]
  refine wpAny_pure ?_
  have hsl:=hs hb
  obtain ⟨l,T,hl⟩:=S.tb
  have hlen:l.length=es.size:=by rw [hl,S.size]
  rw [hsl]
  by_cases hi:i<es.size
  ·have e1:es[i]? = some es[i]:=Array.getElem?_eq_getElem hi
   have e2:t.place[i]? = some (l[i]'(by omega)):=by rw [T.pl,List.getElem?_toArray,List.getElem?_eq_getElem (by omega)]
   rw [e1,e2]
   refine wpAny_pure (h1 _ _ (by rw [e1]; rfl) λ_=>?_)
   obtain ⟨b1,b2,b3⟩:=cC T.up (l[i]'(by omega)+1)
   rw [T.pl]
   rcases Nat.lt_trichotomy (below l.toArray (l[i]'(by omega)+1)) (i+1) with z | z | z
   ·have:=b3 i (by omega) (by omega)
    omega
   ·exact z
   ·have hi2:i+1<l.length:=by omega
    have q1:=b2 (i+1) hi2 z
    have q2:=List.pairwise_iff_getElem.mp T.up i (i+1) (by omega) hi2 (by omega)
    omega
  ·have e1:es[i]? = none:=Array.getElem?_eq_none (by omega)
   rw [e1]
   exact wpAny_pure (h2 e1)
theorem uD {I a:Addr} {o:Obj} {es:Array (Int×Value)} {ep i:Nat} {t:SetTable} {ns:List Int} {Q:Option Value→Shared→Prop} (S:ISt w es t ns) (hi:i<es.size) (hit:nW w t s.heap I a es.size ep i) (ho:s.heap.get? a=some o) (hd:o.data = .set es ep t) (hne:a≠I)
  (hQ:∀ v h',(eL w a ep es)[i]?.map (·.2)=some v→nW w t h' I a es.size ep (i+1)→Heap.SameBut I s.heap h'→Q (some v) { s with heap:=h' }):wpAny (model prog w) A (pyNext (.ref I)) Q E s:=by
 obtain ⟨oi,slot,hoi,hci,hdi,hsl⟩:=id hit
 unfold pyNext
 refine wpAny_bind (wpAny_attempt (wpAny_callSpecial?_slot (name:=Str.ofString "__next__") hit.typeIs ck
  (wpAny_call_entry ck hit.typeIs eY ?_ (gr _))))
 unfold Builtin.«set_iterator.__next__»
 refine wpAny_bind (wpAny_pure ?_)
 refine wpAny_bind (wpAny_fieldsOf hoi hdi ?_)
 dsimp only
 refine wpAny_bind (wpAny_setEntries_of ho hd S.fits ?_)
 rw [if_neg (by simp)]
 show wpAny _ _ (setNext a (Int.toNat (slot:Int)) (Int.toNat (i:Int)) (Int.toNat (ep:Int)) >>= _) _ _ _
 rw [Int.toNat_natCast,Int.toNat_natCast,Int.toNat_natCast]
 refine wpAny_bind (nk S ho hd hsl (λv slot' hv hs'=>?_) λhn=>?_)
 ·dsimp only
  refine wpAny_bind (wpAny_setField hoi hdi (by simp) ?_)
  have h1:(s.heap.update I (Obj.mapFields (·.setIfInBounds 0 (rawInt (slot':Nat))))).get? I=some _:=Heap.get?_update_self _ hoi (Obj.isFreed_of_fields (Obj.data_mapFields hdi _))
  refine wpAny_bind (wpAny_setField h1 (Obj.data_mapFields hdi _) (by simp) ?_)
  have h2:=Heap.get?_update_self (Obj.mapFields (·.setIfInBounds 1 (rawInt ((i:Int)+1)))) h1 (Obj.isFreed_of_fields (Obj.data_mapFields (Obj.data_mapFields hdi _) _))
  refine wpAny_pure ⟨_,rfl,wpAny_pure (hQ v _ hv ⟨_,slot',h2,?_,?_,hs'⟩ ((Heap.SameBut.update ..).trans (Heap.SameBut.update ..)))⟩
  ·rw [Obj.cls_mapFields,Obj.cls_mapFields]; exact hci
  ·rw [Obj.data_mapFields (Obj.data_mapFields hdi _)]; simp [rawInt]
 ·exfalso
  rw [Array.getElem?_eq_none_iff,nh] at hn
  omega
theorem wE {I a:Addr} {o:Obj} {es:Array (Int×Value)} {ep:Nat} {t:SetTable} {ns:List Int} {Q:Option Value→Shared→Prop} (hh:A.handled=none) (S:ISt w es t ns) (hit:nW w t s.heap I a es.size ep es.size) (ho:s.heap.get? a=some o) (hd:o.data = .set es ep t)
  (hQ:∀ h',Heap.ExtBut I s.heap h'→Q none { s with heap:=h' }):wpAny (model prog w) A (pyNext (.ref I)) Q E s:=by
 obtain ⟨oi,slot,hoi,hci,hdi,hsl⟩:=id hit
 unfold pyNext
 refine wpAny_bind (wpAny_attempt (wpAny_callSpecial?_slot (name:=Str.ofString "__next__") hit.typeIs ck
  (wpAny_call_entry ck hit.typeIs eY ?_ (gr _))))
 unfold Builtin.«set_iterator.__next__»
 refine wpAny_bind (wpAny_pure ?_)
 refine wpAny_bind (wpAny_fieldsOf hoi hdi ?_)
 dsimp only
 refine wpAny_bind (wpAny_setEntries_of ho hd S.fits ?_)
 rw [if_neg (by simp)]
 show wpAny _ _ (setNext a (Int.toNat (slot:Int)) (Int.toNat (es.size:Int)) (Int.toNat (ep:Int)) >>= _) _ _ _
 rw [Int.toNat_natCast,Int.toNat_natCast,Int.toNat_natCast]
 refine wpAny_bind (nk S ho hd hsl (λv slot' hv hs'=>?_) λhn=>?_)
 ·exfalso
  have:(eL w a ep es)[es.size]? = none:=Array.getElem?_eq_none (by rw [nh]; exact Nat.le_refl _)
  rw [this] at hv
  cases hv
 ·dsimp only
  refine wpAny_bind (wpAny_setField hoi hdi (by simp) ?_)
  show wpAny _ _ (newExc (.type "StopIteration") [] >>= _) _ _ _
  refine wpAny_bind ?_
  simp only [newExc,newTuple]
  refine wpAny_bind (wpAny_newObj_type ?_ (by size_fits))
  refine wpAny_bind (m:=firstArgMember _ _) (wpAny_of_eq (a:=Value.none) (by first | rfl | (simp only [firstArgMember]; rfl)) ?_)
  refine wpAny_newObj_type ?_ (by size_fits)
  simp only [raiseNew]
  refine wpAny_bind (wpAny_handled ?_)
  rw [show A.in1.handled=none from hh]
  refine wpAny_bind (wpAny_pure (wpAny_throw ?_))
  refine wpAny_bind (wpAny_isInstance (T:="StopIteration") (b:=true) ⟨_,Heap.get?_push_size _ rfl,rfl⟩ isSubtype_stop ?_)
  exact wpAny_pure (hQ _ (((Heap.SameBut.update ..).extBut.push _).push _))
theorem uE {I a:Addr} {n ep i:Nat} {t:SetTable} {Q:Value→Shared→Prop} (hit:nW w t s.heap I a n ep i) (h:Q (.ref I) s):wpAny (model prog w) A (pyIter (.ref I)) Q E s:=by
 obtain ⟨b,hb,e⟩:=jt
 subst e
 refine wpAny_pyIter_slot hit.typeIs gq (wpAny_call_entry gq hit.typeIs hb ?_ (lr _))
 show wpAny _ _ (ret (.ref I)) _ _ s
 exact wpAny_pure ⟨_,rfl,"set_iterator",_,hit.typeIs,ck.lookup,h⟩
theorem qC {es:Array (Int×Value)} {t:SetTable} {ns:List Int} {ep:Nat} (S:ISt w es t ns) (hh:A.handled=none) (I a:Addr) (hne:a≠I) (o:Obj) (hd:o.data = .set es ep t) :
  Walks prog w A I [I,a] [I] es.size (λi v=>(eL w a ep es)[i]?.map (·.2)=some v) (λi h=>nW w t h I a es.size ep i∧h.get? a=some o) where
 sub:=λb hb=>by simp at hb; simp [hb]
 frame:=λi h h' st hk=>by
  obtain ⟨⟨oi,slot,h1,h2⟩,h3⟩:=st
  exact ⟨⟨oi,slot,hk I (by simp) _ h1,h2⟩,hk a (by simp) _ h3⟩
 item:=λi s Q E hi st hQ=>by
  refine uD S hi st.1 st.2 hd hne λv h' hv hit' hs'=>?_
  exact hQ v h' s.toks hv ⟨hit',hs'.extBut a o hne st.2⟩ λb o hb e=>hs'.extBut b o (λh=>hb (by simp [h])) e
 done:=λs Q E st hQ=>wE hh S st.1 st.2 hd λh' he'=>hQ h' s.toks λb o hb e=>he' b o (λh=>hb (by simp [h])) e
 self:=λ_ _ _ _ st hQ=>uE st.1 hQ
theorem sD {r:Addr} {Q:Bool→Shared→Prop} (hT:s.TypeIs (.ref r) "set") (h:Q false s):wpAny (model prog w) A (Builtin.List.listLengthHint (.ref r)) Q E s:=by
 unfold Builtin.List.listLengthHint
 refine wpAny_bind (wpAny_specialOf hT PySem.F.slot_set_len.lookup ?_)
 generalize hid:("set.__len__":String)=id0
 wp_delta
 rw [show splitId id0=some ("set","__len__") from by subst hid; decide +kernel]
 subst hid
 refine wpAny_bind (wpAny_isInstance (T:="set") (b:=true) hT (by rw [isSubtype_type]; kernel_rfl) ?_)
 refine wpAny_ite_split (λhab=>absurd hab (by decide)) (λ_=>?_)
 refine wpAny_ite_split (λ_=>?_) (λhab=>absurd (by decide +kernel) hab)
 refine wpAny_bind (wpAny_typeOf hT ?_)
 exact wpAny_pure h
theorem uF {es:Array (Int×Value)} {t:SetTable} {ns:List Int} {ep:Nat} {a:Addr} {o:Obj} (S:ISt w es t ns) (hex:o.ExactSet) (hd:o.data = .set es ep t) :
  PySem.W.KdlSrc prog w "set" a a es.size (λi v=>(eL w a ep es)[i]?.map (·.2)=some v) (λh=>h.get? a=some o) where
 type:=λ_ hm=>⟨o,hm,hex.1⟩
 there:=λ_ hm=>⟨Heap.lt_size hm,Heap.lt_size hm⟩
 keep:=λ_ _ hm hk=>hk a (.inl rfl) o hm
 notList:=by decide
 notTuple:=by decide
 hint:=λ_ _ _ _ hm hq=>sD ⟨o,hm,hex.1⟩ hq
 iter:=λA s hh hm=>⟨{ cls:=.type "set_iterator",data:=.fields #[.int 0 0,.int 0 0,.ref a,.int es.size 0,.int ep 0] },_,(λ_ _ hq=>sC S hm hex hd hq),qC S hh _ a (Nat.ne_of_lt (Heap.lt_size hm)) o hd,
  ⟨⟨_,0,Heap.get?_push_size _ rfl,rfl,rfl,λ_=>by
   obtain ⟨l,T,hl⟩:=S.tb
   obtain ⟨b1,b2,b3⟩:=cC T.up 0
   rw [T.pl]
   rcases Nat.eq_zero_or_pos (below l.toArray 0) with z | z
   ·exact z
   ·have:=b2 0 (by omega) z
    omega⟩,Heap.get?_push_of_some _ hm⟩⟩
end
theorem IS.at {w:World} {h h':Heap} {S:Addr} {ns:List Int} (x:IS w h S ns) (k:∀ o,h.get? S=some o→h'.get? S=some o):IS w h' S ns:=by
 obtain ⟨o,es,ep,t,ho,r⟩:=x
 exact ⟨o,es,ep,t,k o ho,r⟩
theorem nq {w:World} {h:Heap} {a:Addr} (ho:h.get? a=some { cls:=.type "set",dict:=none,data:=.set #[] 0 (.fresh 0 0 (!bt w)) }):IS w h a [] :=
 ⟨_,#[],0,_,ho,⟨rfl,rfl,rfl⟩,rfl,⟨⟨λ_=>0,rfl⟩,List.nodup_nil,⟨[],⟨rfl,rfl,List.Pairwise.nil,λ_ h=>by simp at h⟩,rfl⟩,Or.inl rfl,(by show 0<21; decide),rfl,λz=>by show (!bt w)=true; rw [z]; rfl⟩⟩
section
variable {prog:Program} {w:World} {A:Around} {R:Result→Shared→Prop} {I:Addr} {fp wr:List Addr} {G:Array GenState→Array GenState→Prop} {n:Nat} {P:Nat→Value→Prop} {St:Nat→Shared→Prop}
end
section
variable {prog:Program} {w:World} {A:Around} {E:Value→Shared→Prop} {s:Shared}
theorem ju (a:Value) {Q₁:Value→Shared→Prop}
  (h:Q₁ (.ref s.heap.objs.size) { s with heap:=s.heap.push { cls:=.type "set",dict:=none,data:=.set #[] 0 (.fresh 0 0 (!bt w)) } }) :
  codeAny (model prog w) A (.call (.builtin "set.__new__") ⟨[.type "set",a],[]⟩) (wants Q₁ E) s:=by
 refine codeAny_of_tree ?_
 show wpAny _ A.in1 (do checkBuiltinCall "set.__new__" ⟨[.type "set",a],[]⟩; again (.builtin "set.__new__" ⟨[.type "set",a],[]⟩)) _ _ s
 refine wpAny_bind (wpAny_of_eq (F.newCall_set_1 a) (wpAny_pure ⟨plainId_quiet F.plain_set_new _,codeAny_builtin F.entry_set_new ?_⟩))
 rw [Around.under_plainId F.plain_set_new _]
 unfold Builtin.«set.__new__» Builtin.Frozenset.newClass
 have hsub:=sub_set_self
 obtain ⟨hp,g,d,tk,os⟩:=s
 dsimp only
 wp_walk
 refine wpAny_askSetting (wpAny_pure ?_)
 dsimp only
 simp only [newObj]
 refine wpAny_bind (wpAny_alloc (wpAny_pure ?_))
 exact wpAny_pure h
set_option maxRecDepth 100000 in
set_option maxHeartbeats 3200000 in
theorem ls {x:Value} {Q:Value→Shared→Prop}
  (h:wpAny (model prog w) A.in1.in1 (Builtin.«set.__init__» ⟨[.ref s.heap.objs.size,x],[]⟩)
   (λfin s'=>match fin with | .done f=>wants (λr s₂=>r = .none∧Q (.ref s.heap.objs.size) s₂) E (.ok f) s' | .again c'=>c'.quiet=true∧codeAny (model prog w) A.in1 c' (wants (λr s₂=>r = .none∧Q (.ref s.heap.objs.size) s₂) E) s')
   (λe s'=>wants (λr s₂=>r = .none∧Q (.ref s.heap.objs.size) s₂) E (.error e) s') { s with heap:=s.heap.push { cls:=.type "set",dict:=none,data:=.set #[] 0 (.fresh 0 0 (!bt w)) } }) :
  wpAny (model prog w) A (call (.type "set") [x]) Q E s:=by
 obtain ⟨c,tl,hmro⟩:=F.called_set.mro
 have hmade:=F.called_set.made
 have hsub:=F.called_set.sub
 refine wpAny_call (codeAny_of_tree ?_)
 show wpAny _ _ (callAny (.type "set") _) _ _ _
 refine wpAny_pure ⟨Code.quiet_builtin _ (by decide +kernel),codeAny_builtin F.entry_type_call ?_⟩
 rw [Around.under_plain (weight_type_call_type "set" [x] []) rfl]
 have h1:=F.called_set.notType
 have h2:=F.called_set.canCreate
 have hct:=F.typeCall_set_1 x
 repeat (any_goals (first | assumption | wp_step))
 refine codeAny_mono (ju x (E:=E) (Q₁:=λobj s₁=>obj = .ref s.heap.objs.size∧s₁={ s with heap:=s.heap.push { cls:=.type "set",dict:=none,data:=.set #[] 0 (.fresh 0 0 (!bt w)) } }) ⟨rfl,rfl⟩) λr s₁ hr=>?_
 cases r with
 | error e=>exact hr
 | ok fl =>
  cases fl with
  | ret obj =>
   obtain ⟨rfl,rfl⟩:=hr
   have hS:(s.heap.push { cls:=.type "set",dict:=none,data:=.set #[] 0 (.fresh 0 0 (!bt w)) }).get? s.heap.objs.size=some { cls:=.type "set",dict:=none,data:=.set #[] 0 (.fresh 0 0 (!bt w)) }:=Heap.get?_push_size _ rfl
   have hT:Shared.TypeIs { s with heap:=s.heap.push { cls:=.type "set",dict:=none,data:=.set #[] 0 (.fresh 0 0 (!bt w)) } } (.ref s.heap.objs.size) "set":=⟨_,hS,rfl⟩
   have hli:=F.called_set.init.lookup
   have hbi:=F.called_set.init.bind (.ref s.heap.objs.size)
   repeat (any_goals (first | assumption | wp_step))
   refine codeAny_mono (codeAny_call_builtin (R:=wants (λr s₂=>r = .none∧Q (.ref s.heap.objs.size) s₂) E) F.called_set.init.plain F.entry_set_init (check_set_init_1 hT ?_)) λr₂ s₂ hr₂=>?_
   ·exact h
   ·cases r₂ with
    | error e=>exact hr₂
    | ok fl₂ =>
     cases fl₂ with
     | ret r =>
      obtain ⟨rfl,hq⟩:=hr₂
      repeat (any_goals (first | assumption | wp_step))
     | _=>exact hr₂.elim
  | _=>exact hr.elim
end
end TB
namespace SRT
open PySem PySem.W PyProof.Rows
section
variable {prog:Program} {w:World} {A:Around} {E:Value→Shared→Prop} {s:Shared}
theorem nr {f:Nat→Nat→Bool} {vs:List Value} {κ:SortKind} {Q:Value→Shared→Prop} (O:Ord f vs.length) (h64:vs.length<64)
  (hk:∀ (A':Around) (s':Shared),A'.units≤A.units+1→(∀ b o,s.heap.get? b=some o→s'.heap.get? b=some o)→∀ Q:SortKind→Shared→Prop,2≤vs.length→Q κ s'→wpAny (model prog w) A' (keyKind' vs.toArray) Q (λ_ _=>False) s')
  (hlt:∀ (A':Around) (s':Shared),A'.units≤A.units+1→(∀ b o,s.heap.get? b=some o→s'.heap.get? b=some o)→∀ (i j:Nat) (C:Bool→Shared→Prop),i<vs.length→j<vs.length→C (f i j) s'→wpAny (model prog w) A' (keyLt' κ (vs.getD i Value.none) (vs.getD j Value.none)) C (λ_ _=>False) s')
  (h:∀ (p:Array Nat) (h':Heap),Row vs.length p→Up f p vs.length→(∀ b o,s.heap.get? b=some o→h'.get? b=some o)→(∃ k,h'.get? s.heap.objs.size=some (seqObj "list" (List.toArray (p.toList.map λi=>vs.getD i Value.none)) k))→Q (.ref s.heap.objs.size) { s with heap:=h' }) :
  wpAny (model prog w) A (do
   let l ← newList vs
   let _ ← holding [l] (call (.builtin "list.sort") [l] [])
   ret l) (λfin s'=>∃ v,fin = .done (.ret v)∧Q v s') E s:=by
 refine wpAny_bind (wpAny_newList ?_ (by rw [sizeLine_eq]; omega))
 have hoL:(s.heap.push (seqObj "list" vs.toArray 0)).get? s.heap.objs.size=some (seqObj "list" vs.toArray 0):=Heap.get?_push_size _ rfl
 have keep:∀ b o,s.heap.get? b=some o→(s.heap.push (seqObj "list" vs.toArray 0)).get? b=some o:=λb o q=>Heap.get?_push_of_some _ q
 have neD:∀ b o,s.heap.get? b=some o→b≠s.heap.objs.size:=λb o q=>Nat.ne_of_lt (Heap.lt_size q)
 show wpAny _ _ _ _ _ { s with heap:=s.heap.push (seqObj "list" vs.toArray 0) }
 refine wpAny_bind (wpAny_holding (wpAny_call_entry slot_list_sort ⟨_,hoL,rfl⟩ entry_list_sort (gc (κ:=κ) (s:={ s with heap:=s.heap.push (seqObj "list" vs.toArray 0) }) O hoL h64 ?_ ?_ λp hr hu=>⟨_,rfl,?_⟩) (args_list_sort _)))
 ·intro s' hs' Q' h2 hq
  exact hk _ s' (by simp [Around.in1_units]) (λb o e=>hs' b o (neD b o e) (keep b o e)) Q' h2 hq
 ·intro s' hs' i j C hi hj hC
  exact hlt _ s' (by simp [Around.in1_units]) (λb o e=>hs' b o (neD b o e) (keep b o e)) i j C hi hj hC
 ·refine wpAny_pure ⟨_,rfl,h p _ hr hu (λb o e=>?_) ?_⟩
  ·unfold sortedHeap
   rw [Heap.get?_update_ne _ _ _ _ (neD b o e)]
   refine Heap.get?_push_of_some _ (Heap.get?_push_of_some _ ?_)
   rw [Heap.get?_update_ne _ _ _ _ (neD b o e)]
   exact keep b o e
  ·unfold sortedHeap
   obtain ⟨e1,ho1⟩:∃ e1,((s.heap.push (seqObj "list" vs.toArray 0)).update s.heap.objs.size (Obj.mapSeq λ_=>(#[]:Array Value))).get? s.heap.objs.size=some (seqObj "list" #[] e1):=⟨_,get?_update_seq hoL λ_=>#[]⟩
   exact ⟨_,get?_update_seq (Heap.get?_push_of_some _ (Heap.get?_push_of_some _ ho1)) _⟩
theorem nu {T:String} {r d:Addr} {n:Nat} {P:Nat→Value→Prop} {OK:Heap→Prop} {Q:List Value→Shared→Prop} (K:PySem.W.KdlSrc prog w T r d n P OK) (hh:A.handled=none) (hok:OK s.heap) (hn:n≤sizeLine)
  (hQ:∀ h' tk acc,(∀ b o,s.heap.get? b=some o→h'.get? b=some o)→s.heap.objs.size<h'.objs.size→ItemsOf P acc n→Q acc.toList { s with heap:=h',toks:=tk }):wpAny (model prog w) A (collect (.ref r)) Q E s:=by
 unfold collect
 refine wpAny_bind (wpAny_runValue (codeAny_builtin entry_proto_collect' ?_))
 show wpAny _ _ (do again (.builtin "list.__iadd__" ⟨[← newList [],.ref r],[]⟩)) _ _ s
 refine wpAny_bind (wpAny_newList (wpAny_pure ⟨Code.quiet_builtin _ (by decide +kernel),codeAny_builtin entry_list_iadd' ?_⟩))
 rw [Around.under_plainId PySem.F.plain_list_iadd _]
 show wpAny _ _ (Builtin.List.listExtendWith (.ref s.heap.objs.size) (.ref r) (.ref s.heap.objs.size)) _ _ { s with heap:=s.heap.push (seqObj "list" #[] 0) }
 have hlt:=K.there _ hok
 have hS:(s.heap.push (seqObj "list" #[] 0)).get? s.heap.objs.size=some (seqObj "list" #[] 0):=Heap.get?_push_size _ rfl
 have key:=PySem.W.kdl_extend (A:=A) (s:={ s with heap:=s.heap.push (seqObj "list" #[] 0) }) (R:=λr s'=>∃ h' tk acc c',r = .ok (.ret (.ref s.heap.objs.size))∧s'={ s with heap:=h',toks:=tk }∧(∀ b o,s.heap.get? b=some o→h'.get? b=some o)∧h'.get? s.heap.objs.size=some { cls:=.type "list",dict:=none,data:=.seq acc c',slots:=#[] }∧ItemsOf P acc n)
  K hh (K.keep _ _ hok λb _ o e=>Heap.get?_push_of_some _ e) s.heap.objs.size (Nat.ne_of_gt hlt.1) (Nat.ne_of_gt hlt.2) (.ref s.heap.objs.size) 0 hS (λh' tk acc' c' hk hS' hacc=>⟨h',tk,acc',c',rfl,rfl,λb o e=>hk b o (Nat.ne_of_lt (Heap.lt_size e)) (Heap.get?_push_of_some _ e),hS',hacc⟩) hn
 have fin:∀ (h':Heap) (tk:Nat) (acc:Array Value) (c':Nat),(∀ b o,s.heap.get? b=some o→h'.get? b=some o)→h'.get? s.heap.objs.size=some { cls:=.type "list",dict:=none,data:=.seq acc c',slots:=#[] }→ItemsOf P acc n→wpAny (model prog w) A (do
   let o ← load s.heap.objs.size
   match o.data with
   | .seq xs _=>pure xs.toList
   | _=>unsupported "internal:collect") Q E { s with heap:=h',toks:=tk }:=λh' tk acc c' hk hS' hacc=>by
  refine wpAny_bind (wpAny_load hS' ?_)
  exact wpAny_pure (hQ h' tk acc hk (Heap.lt_size hS') hacc)
 refine wpAny_mono key (λfn s' hf=>?_) λe s' hf=>?_
 ·cases fn with
  | done f =>
   obtain ⟨h',tk,acc,c',e1,e2,hk,hS',hacc⟩:=hf
   cases e1
   subst e2
   exact fin h' tk acc c' hk hS' hacc
  | again c =>
   refine ⟨hf.1,codeAny_mono hf.2 λr s' hr=>?_⟩
   obtain ⟨h',tk,acc,c',e1,e2,hk,hS',hacc⟩:=hr
   subst e1 e2
   exact fin h' tk acc c' hk hS' hacc
 ·obtain ⟨h',tk,acc,c',e1,_⟩:=hf
  cases e1
theorem jb {T:String} {r d:Addr} {n:Nat} {P:Nat→Value→Prop} {OK:Heap→Prop} {κ:SortKind} {Q:Value→Shared→Prop} (K:PySem.W.KdlSrc prog w T r d n P OK) (hh:A.handled=none) (hok:OK s.heap) (hn:n≤sizeLine)
  (hQ:∀ (h1:Heap) (tk:Nat) (vs:List Value),(∀ b o,s.heap.get? b=some o→h1.get? b=some o)→s.heap.objs.size<h1.objs.size→ItemsOf P vs.toArray n→∃ f:Nat→Nat→Bool,Ord f vs.length∧vs.length<64 ∧
   (∀ (A':Around) (s':Shared),A'.units≤A.units+2→(∀ b o,s.heap.get? b=some o→s'.heap.get? b=some o)→∀ Q:SortKind→Shared→Prop,2≤vs.length→Q κ s'→wpAny (model prog w) A' (keyKind' vs.toArray) Q (λ_ _=>False) s') ∧
   (∀ (A':Around) (s':Shared),A'.units≤A.units+2→(∀ b o,s.heap.get? b=some o→s'.heap.get? b=some o)→∀ (i j:Nat) (C:Bool→Shared→Prop),i<vs.length→j<vs.length→C (f i j) s'→wpAny (model prog w) A' (keyLt' κ (vs.getD i Value.none) (vs.getD j Value.none)) C (λ_ _=>False) s') ∧
   ∀ (p:Array Nat) (h':Heap),Row vs.length p→Up f p vs.length→(∀ b o,s.heap.get? b=some o→h'.get? b=some o)→(∃ k,h'.get? h1.objs.size=some (seqObj "list" (List.toArray (p.toList.map λi=>vs.getD i Value.none)) k))→Q (.ref h1.objs.size) { s with heap:=h',toks:=tk }) :
  wpAny (model prog w) A (call (.builtin "sorted") [.ref r]) Q E s:=by
 refine Calls.call_function_entry kind_sorted plain_sorted entry_sorted (args_sorted1 _) ?_
 unfold Builtin.«sorted»
 refine wpAny_bind (m:=checkCount "sorted" 1 1 _) (wpAny_pure ?_)
 refine wpAny_bind (nu K hh hok hn λh1 tk acc hk hlt hacc=>?_)
 obtain ⟨f,O,h64,hkk,hltt,hq⟩:=hQ h1 tk acc.toList hk hlt (by rw [Array.toArray_toList]; exact hacc)
 exact nr (s:={ s with heap:=h1,toks:=tk }) O h64 (λA' s' hu hk'=>hkk A' s' (by have:=hu; simp only [Around.in1_units] at this; omega) λb o e=>hk' b o (hk b o e)) (λA' s' hu hk'=>hltt A' s' (by have:=hu; simp only [Around.in1_units] at this; omega) λb o e=>hk' b o (hk b o e))
  λp h' hr hu' hk' hg=>hq p h' hr hu' (λb o e=>hk' b o (hk b o e)) hg
end
end SRT
namespace L2
open PySem PySem.Spec PyProof.Rows
section
variable {X:Cx}
noncomputable def dZ (w:World) (a:Addr) (ns:List Int):HO:=.ext λh=>TB.IS w h a ns
theorem Inv.intS {pins:List (Addr×Obj)} {σ:St} {H:Hp} {s:Shared} (I:Inv X pins σ H s) {a:Addr} {ns:List Int} (h:H a=some (dZ X.w a ns)):TB.IS X.w s.heap a ns:=(I.hok a _ h).1
theorem Inv.layS {pins:List (Addr×Obj)} {σ:St} {H:Hp} {s:Shared} (I:Inv X pins σ H s) {h':Heap} {t':Nat} {a:Addr} {ns:List Int} (k:∀ b u,s.heap.get? b=some u→h'.get? b=some u) (hp:s.heap.objs.size≤a) (hS:TB.IS X.w h' a ns) :
  Inv X pins σ (upd H a (dZ X.w a ns)) { s with heap:=h',toks:=t' }:=by
 obtain ⟨o,es,ep,t,ho,r⟩:=id hS
 exact I.laid k hp ⟨hS,⟨o,ho⟩,λh1 h2 hI hh=>hI.at hh⟩
theorem jc (hc:X.calm=true):cA X (.builtin "sorted") (λxs H Q=>∃ l,∃ ns:List Int,xs=[.ref l]∧H l=some (dZ X.w l ns)∧ns.length≤60 ∧
  ∀ ms:List Int,ms.Perm ns→ms.Pairwise (λa b=>a<b)→∀ p,H p=none→Q (.ref p) (upd H p (.lst (ms.map V.int)))):=by
 intro pins s σ H xs us Q I r h
 obtain ⟨l,ns,rfl,hl,h60,q⟩:=h
 obtain ⟨u,rfl,ru⟩:=dW r
 cases ru
 obtain ⟨o,es,ep,t,ho,hex,hd,S⟩:=I.intS hl
 obtain ⟨tk0,hent⟩:=S.ent
 obtain ⟨ns',hperm,hord⟩:=TB.cZ (TB.ja X.w l ep es) hent
 have hnd':ns'.Nodup:=hperm.nodup_iff.mpr S.nd
 have hl':ns'.length=ns.length:=hperm.length_eq
 refine SRT.jb (κ:=oneType') (TB.uF S hex hd) (I.ok.hd hc) ho (by rw [S.size,sizeLine_eq]; omega) λh1 tk vs hk1 hlt1 hit=>?_
 have evs:vs=ns'.map λn=>Value.int n (tk0 n):=by
  apply List.ext_getElem?
  intro i
  have hvl:vs.length=es.size:=by have:=hit.1; rw [List.size_toArray] at this; exact this
  by_cases hi:i<vs.length
  ·have:Option.map (λx=>x.2) (TB.eL X.w l ep es)[i]? = some vs[i]:=hit.2 i vs[i] (by rw [List.getElem?_toArray]; exact List.getElem?_eq_getElem hi)
   rw [List.getElem?_eq_getElem hi,List.getElem?_map]
   rw [← Array.getElem?_toList,hord,List.getElem?_map] at this
   cases e:ns'[i]? with
   | none=>rw [e] at this; cases this
   | some n =>
    rw [e] at this
    have e2:(TB.gp tk0 n).2=vs[i]:=Option.some.inj this
    show some vs[i]=some (Value.int n (tk0 n))
    rw [← e2]; rfl
  ·rw [List.getElem?_eq_none (by omega),List.getElem?_eq_none (by rw [List.length_map,hl',← S.size]; omega)]
 have hvl:vs.length=ns'.length:=by rw [evs,List.length_map]
 have gd:∀ i,i<ns'.length→vs.getD i Value.none = .int (ns'.getD i 0) (tk0 (ns'.getD i 0)):=λi hi=>by
  rw [evs,sk (d:=(0:Int)) hi]
 have rv:aE (ns'.map V.int) vs:=by
  rw [evs]
  clear hperm hord hnd' hl' evs hvl gd hit
  induction ns' with
  | nil=>exact .nil
  | cons n ns' ih=>exact .cons ⟨_,rfl⟩ ih
 refine ⟨λi j=>decide (ns'.getD i 0<ns'.getD j 0),⟨λi _=>by simp,λi j k _ _ _ h1 h2=>?_,λi j hi hj hij=>?_⟩,by omega,λA' s' _ _ Q' h2 hQ=>?_,λA' s' _ _ i j C hi hj hC=>?_,λp h' hrow hup kp hg=>?_⟩
 ·simp only [decide_eq_true_eq] at *; omega
 ·simp only [decide_eq_true_eq]
  have:ns'.getD i 0≠ns'.getD j 0:=by
   rw [List.getD_eq_getElem?_getD,List.getD_eq_getElem?_getD,List.getElem?_eq_getElem (by omega),List.getElem?_eq_getElem (by omega)]
   exact λe=>hij ((List.getElem_inj hnd').mp e)
  omega
 ·rw [ksk_kind (keys:=vs.toArray) (kz:=ns') (by simpa using pc rv) (by rw [List.size_toArray]; omega)]
  exact wpAny_pure hQ
 ·rw [gd i (by omega),gd j (by omega)]
  exact PySem.W.kat_lt_int hC
 ·obtain ⟨c,hg⟩:=hg
  rw [hvl] at hrow hup
  have hin:∀ i∈p.toList,i<ns'.length:=λi hi=>List.mem_range.mp (hrow.perm.mem_iff.mp hi)
  have hperm2:(p.toList.map λi=>ns'.getD i 0).Perm ns':=by
   refine (hrow.perm.map _).trans ?_
   have:(List.range ns'.length).map (λi=>ns'.getD i 0)=ns':=by
    apply List.ext_getElem?
    intro i
    rw [List.getElem?_map]
    by_cases hi:i<ns'.length
    ·rw [List.getElem?_range hi,(dA (d:=(0:Int)) hi).2]; rfl
    ·rw [List.getElem?_eq_none (by rw [List.length_range]; omega),List.getElem?_eq_none (by omega)]; rfl
   rw [this]
  have hpl:p.size=ns'.length:=hrow.size
  have hpw:(p.toList.map λi=>ns'.getD i 0).Pairwise (λa b=>a<b):=by
   rw [List.pairwise_iff_getElem]
   intro i j hi hj hij
   have hi':i<p.size:=by rw [List.length_map,Array.length_toList] at hi; exact hi
   have hj':j<p.size:=by rw [List.length_map,Array.length_toList] at hj; exact hj
   have:=hup i j hij (by omega)
   simp only [] at this
   rw [Array.getD_eq_getD_getElem?,Array.getD_eq_getD_getElem?,Array.getElem?_eq_getElem hi',Array.getElem?_eq_getElem hj'] at this
   simpa using this
  refine ⟨.ref h1.objs.size,_,I.laid (t':=tk) (o:=.lst ((p.toList.map λi=>ns'.getD i 0).map V.int)) kp (Nat.le_of_lt hlt1) ⟨?_,_,c,jM rv p.toList hin,hg⟩,rfl,q _ (hperm2.trans hperm) hpw _ (I.hok.fresh (Nat.le_of_lt hlt1))⟩
  rw [List.length_map,hperm2.length_eq,sizeLine_eq]; omega
end
end L2
namespace TB
open PySem PySem.SetTable
theorem uG {mask finger moves:Nat} {led plain:Bool} {hashes:Array Int} (c:Cyc mask) (hl:hashes.size≤mask+1) :
  ∃ (t':SetTable) (zs:List (Nat×Nat)),SetTable.laid mask finger moves led plain hashes=some (t',(zs.map (·.2)).toArray)∧t'.mask=mask∧t'.led=led∧t'.plain=plain ∧
   Tb t' (zs.map (·.1))∧(zs.map (·.2)).Perm (List.range hashes.size):=by
 obtain ⟨owner,e,L⟩:=gR c hashes hl
 refine ⟨{ mask:=mask,place:=((live mask owner).map (·.1)).toArray,dummies:=#[],finger:=finger,led:=led,moves:=moves,plain:=plain },live mask owner,?_,rfl,rfl,rfl,⟨rfl,rfl,?_,?_⟩,?_⟩
 ·unfold laid
  rw [e]; rfl
 ·unfold Up live
  rw [List.map_filterMap]
  have e1:((List.range (mask+1)).filterMap λj=>((owner.getD j none).map (j,·)).map (·.1))=(List.range (mask+1)).filter λj=>(owner.getD j none).isSome:=by
   generalize List.range (mask+1)=l
   induction l with
   | nil=>rfl
   | cons x l ih =>
    cases ex:owner.getD x none with
    | none=>rw [List.filterMap_cons_none (by rw [ex]; rfl),List.filter_cons_of_neg (by simp [ex])]; exact ih
    | some i=>rw [List.filterMap_cons_some (b:=x) (by rw [ex]; rfl),List.filter_cons_of_pos (by simp [ex]),ih]
  rw [e1]
  exact List.Pairwise.sublist List.filter_sublist List.pairwise_lt_range
 ·intro j hj
  obtain ⟨z,hz,rfl⟩:=List.mem_map.mp hj
  unfold live at hz
  obtain ⟨k,hk,e1⟩:=List.mem_filterMap.mp hz
  cases ex:owner.getD k none with
  | none=>rw [ex] at e1; cases e1
  | some i =>
   rw [ex] at e1
   have e2:(k,i)=z:=Option.some.inj e1
   subst e2
   have:=List.mem_range.mp hk
   show k≤mask
   omega
 ·have:=L.perm
  rw [Array.length_toList] at this
  exact this
theorem nv {es:Array (Int×Value)} {zs:List (Nat×Nat)} (h:(zs.map (·.2)).Perm (List.range es.size)):(((zs.map (·.2)).toArray).filterMap (λi=>es[i]?)).toList.Perm es.toList:=by
 rw [Array.toList_filterMap]
 exact (h.filterMap _).trans (by rw [filterMap_getElem?_range])
section
variable {prog:Program} {w:World} {A:Around} {E:Value→Shared→Prop} {s:Shared}
theorem sE {a:Addr} {ns:List Int} {wanted:Nat} {Q:Unit→Shared→Prop} (hS:IS w s.heap a ns) (hw:wanted≤255) (hroom:ns.length * 5<(sizeAbove wanted - 1) * 3)
  (h:∀ h' ns' o es ep t,Heap.SameBut a s.heap h'→h'.get? a=some o→o.ExactSet→o.data = .set es ep t→ISt w es t ns'→ns'.Perm ns→t.mask=sizeAbove wanted - 1→Q () { s with heap:=h' }):wpAny (model prog w) A (setRelay a wanted) Q E s:=by
 obtain ⟨o,es,ep,t,ho,hex,hd,S⟩:=hS
 obtain ⟨hmk,hle,h256⟩:=fV hw
 have hsz:=S.size
 have hge:=hmk.ge
 unfold setRelay
 refine wpAny_bind (wpAny_setState_of ho hd S.fits ?_)
 dsimp only
 rw [if_neg (by rw [sizeLine_eq]; omega)]
 obtain ⟨t',zs,e,hm,hled,hpl,T,hperm,_⟩:=gF (t:=t) (hashes:=es.map (·.1)) (wanted:=wanted) hmk.cyc (by rw [Array.size_map]; omega)
 rw [Array.size_map] at hperm
 have hp:=nv hperm
 have hsz2:(((zs.map (·.2)).toArray).filterMap (λi=>es[i]?)).size=es.size:=by rw [← Array.length_toList,hp.length_eq,Array.length_toList]
 obtain ⟨tk,hent⟩:=S.ent
 obtain ⟨ns',hns',hes'⟩:=cZ hp hent
 have hzl:zs.length=es.size:=by
  have:=hperm.length_eq
  rw [List.length_map,List.length_range] at this
  exact this
 have hnl:ns'.length=ns.length:=hns'.length_eq
 refine wpAny_bind ?_
 rw [e]
 show wpAny _ _ (@ite _ _ _ _ _) _ _ _
 rw [if_neg (by rw [hsz2]; simp)]
 refine wpAny_pure ?_
 dsimp only
 refine wpAny_storeSet_of ho hd ?_ (by rw [hsz2,sizeLine_eq]; omega)
 exact h _ ns' _ _ _ t' (Heap.SameBut.update s.heap a _) (stored ho hd _ t') hex rfl ⟨⟨tk,hes'⟩,hns'.nodup_iff.mpr S.nd,⟨_,T,by rw [List.length_map]; omega⟩,by rw [hm]; exact hmk,by rw [hm,hnl]; exact hroom,by rw [hpl]; exact S.pl,λz=>by rw [hled]; exact S.led z⟩ hns' hm
theorem lu {a:Addr} {ns:List Int} {more:Nat} {Q:Unit→Shared→Prop} (hS:IS w s.heap a ns) (hw:ns.length+more≤120)
  (h:∀ h' ns' o es ep t,Heap.SameBut a s.heap h'→h'.get? a=some o→o.ExactSet→o.data = .set es ep t→ISt w es t ns'→ns'.Perm ns→(ns.length+more) * 5<t.mask * 3→Q () { s with heap:=h' }):wpAny (model prog w) A (setRoomFor a more) Q E s:=by
 obtain ⟨o,es,ep,t,ho,hex,hd,S⟩:=id hS
 obtain ⟨l,T,hl⟩:=S.tb
 have hfill:t.fill=ns.length:=by rw [eO T,hl]
 have hpl:t.place.size=ns.length:=by rw [T.pl,List.size_toArray,hl]
 unfold setRoomFor
 refine wpAny_bind (wpAny_setState_of ho hd S.fits ?_)
 dsimp only
 by_cases hc:(t.fill+more) * 5 ≥ t.mask * 3
 ·have e:t.roomFor more=some ((t.place.size+more) * 2):=by unfold SetTable.roomFor; rw [if_pos hc]
  rw [e]
  dsimp only
  rw [hpl]
  obtain ⟨hmk,hle,_⟩:=fV (w:=(ns.length+more) * 2) (by omega)
  have hge:=hmk.ge
  have hge2:=S.mkm.ge
  refine sE hS (by omega) (by omega) λh' ns' o' es' ep' t' hsb ho' hex' hd' S' hp hm=>h h' ns' o' es' ep' t' hsb ho' hex' hd' S' hp ?_
  rw [hm]
  omega
 ·have e:t.roomFor more=none:=by unfold SetTable.roomFor; rw [if_neg hc]
  rw [e]
  dsimp only
  have es':s={ s with heap:=s.heap }:=by cases s; rfl
  rw [es']
  exact wpAny_pure (h s.heap ns o es ep t (Heap.SameBut.refl a s.heap) ho hex hd S (.refl _) (by rw [hfill] at hc; omega))
theorem ke {a b:Addr} {ns:List Int} {each:Sem Unit} {Q:Unit→Shared→Prop} (hab:a≠b) (ha:IS w s.heap a []) (hb:IS w s.heap b ns) (hn:ns.length≤60)
  (h:∀ h' ns',Heap.SameBut a s.heap h'→IS w h' a ns'→ns'.Perm ns→Q () { s with heap:=h' }):wpAny (model prog w) A (setMerge a b each) Q E s:=by
 obtain ⟨ob,eb,epb,tb,hob,hexb,hdb,Sb⟩:=id hb
 unfold setMerge
 have hne:(a == b)=false:=by simpa using hab
 rw [hne]
 simp only [Bool.false_eq_true,if_false]
 refine wpAny_bind (wpAny_setState_of hob hdb Sb.fits ?_)
 dsimp only
 have es':s={ s with heap:=s.heap }:=by cases s; rfl
 by_cases he:eb.isEmpty=true
 ·rw [he]
  simp only [if_true]
  have hz:ns=[]:=by
   have:=Sb.size
   have h0:eb.size=0:=by simpa [Array.isEmpty] using he
   exact List.length_eq_zero_iff.mp (by omega)
  subst hz
  rw [es']
  exact wpAny_pure (h s.heap [] (Heap.SameBut.refl a s.heap) ha (.refl _))
 ·have he':eb.isEmpty=false:=by simpa using he
  rw [he']
  simp only [Bool.false_eq_true,if_false]
  have hsb:=Sb.size
  refine wpAny_bind (lu ha (by rw [List.length_nil]; omega) λh1 ns1 o1 es1 ep1 t1 hs1 ho1 hex1 hd1 S1 hp1 hrm1=>?_)
  have e1:ns1=[]:=hp1.eq_nil
  subst e1
  rw [List.length_nil,Nat.zero_add] at hrm1
  have hob1:h1.get? b=some ob:=(hs1.2 b (Ne.symm hab)).trans hob
  refine wpAny_bind (wpAny_setState_of (s:={ s with heap:=h1 }) ho1 hd1 S1.fits ?_)
  dsimp only
  obtain ⟨l1,T1,hl1⟩:=S1.tb
  have hfill1:t1.fill=0:=by rw [eO T1,hl1]; rfl
  obtain ⟨lb,Tb1,hlb⟩:=Sb.tb
  obtain ⟨tk,hent⟩:=Sb.ent
  have hge1:=S1.mkm.ge
  cases hr:t1.road tb with
  | slotForSlot =>
   dsimp only
   refine wpAny_storeSet_of (s:={ s with heap:=h1 }) ho1 hd1 ?_ (by rw [hsb,sizeLine_eq]; omega)
   refine h _ ns (hs1.trans (Heap.SameBut.update ..)) ⟨_,_,_,_,stored (s:={ s with heap:=h1 }) ho1 hd1 _ _,hex1,rfl,⟨⟨tk,hent⟩,Sb.nd,⟨lb,⟨Tb1.pl,Tb1.nd,Tb1.up,Tb1.le⟩,hlb⟩,Sb.mkm,Sb.room,by show (t1.plain && tb.plain)=true; rw [S1.pl,Sb.pl]; rfl,λz=>by show (t1.led && tb.led)=true; rw [S1.led z,Sb.led z]; rfl⟩⟩ (.refl _)
  | clean =>
   dsimp only
   obtain ⟨t',zs,e,hm,hled,hpl,T,hperm⟩:=uG (mask:=t1.mask) (finger:=t1.finger) (moves:=t1.moves) (led:=t1.led && tb.led) (plain:=t1.plain && tb.plain) (hashes:=eb.map (·.1)) S1.mkm.cyc (by rw [Array.size_map]; omega)
   rw [Array.size_map] at hperm
   have hp:=nv hperm
   have hsz2:(((zs.map (·.2)).toArray).filterMap (λi=>eb[i]?)).size=eb.size:=by rw [← Array.length_toList,hp.length_eq,Array.length_toList]
   obtain ⟨ns',hns',hes'⟩:=cZ hp hent
   have hzl:zs.length=eb.size:=by
    have:=hperm.length_eq
    rw [List.length_map,List.length_range] at this
    exact this
   have hnl:ns'.length=ns.length:=hns'.length_eq
   refine wpAny_bind ?_
   rw [e]
   show wpAny _ _ (@ite _ _ _ _ _) _ _ _
   rw [if_neg (by rw [hsz2]; simp)]
   refine wpAny_pure ?_
   dsimp only
   refine wpAny_storeSet_of (s:={ s with heap:=h1 }) ho1 hd1 ?_ (by rw [hsz2,hsb,sizeLine_eq]; omega)
   exact h _ ns' (hs1.trans (Heap.SameBut.update ..)) ⟨_,_,_,_,stored (s:={ s with heap:=h1 }) ho1 hd1 _ _,hex1,rfl,⟨⟨tk,hes'⟩,hns'.nodup_iff.mpr Sb.nd,⟨_,T,by rw [List.length_map]; omega⟩,by rw [hm]; exact S1.mkm,by rw [hm,hnl,← hsb]; exact hrm1,by rw [hpl,S1.pl,Sb.pl]; rfl,λz=>by rw [hled,S1.led z,Sb.led z]; rfl⟩⟩ hns'
  | oneByOne =>
   exfalso
   unfold SetTable.road at hr
   rw [hfill1] at hr
   simp only [bne_self_eq_false,Bool.false_eq_true,if_false] at hr
   split at hr <;> cases hr
theorem uH {b:Addr} {o:Obj} {es:Array (Int×Value)} {ep:Nat} {t:SetTable} {ns:List Int} {Q:Array (Int×Value)→Shared→Prop} (S:ISt w es t ns) (ho:s.heap.get? b=some o) (hd:o.data = .set es ep t) (h:Q (eL w b ep es) s):wpAny (model prog w) A (setWalk b) Q E s:=by
 unfold setWalk
 refine wpAny_bind (wpAny_setState_of ho hd S.fits ?_)
 unfold setsByText
 refine wpAny_bind (wpAny_bind (wpAny_askSetting (wpAny_pure ?_)))
 show wpAny _ _ (if bt w=true then _ else _) _ _ _
 unfold eL at h
 cases hb:bt w with
 | true =>
  rw [hb] at h
  simp only [if_true] at h ⊢
  exact wpAny_bind (wpAny_askSetting (wpAny_pure h))
 | false =>
  rw [hb] at h
  simp only [Bool.false_eq_true,if_false] at h ⊢
  show wpAny _ _ (if (!t.plain && decide (es.size > 1))=true then _ else _) _ _ _
  rw [gO S]
  simp only [Bool.false_eq_true,if_false]
  refine wpAny_bind ?_
  show wpAny _ _ (if (!t.led && decide (es.size > 1))=true then _ else _) _ _ _
  rw [S.led hb]
  simp only [Bool.not_true,Bool.false_and,Bool.false_eq_true,if_false]
  exact wpAny_pure (wpAny_pure h)
theorem ny {b:Addr} {os:List Addr} {f:Option Addr} {o:Obj} {es:Array (Int×Value)} {ep:Nat} {t:SetTable} {ns:List Int} {Q:Array (Int×Value)→Shared→Prop} (S:ISt w es t ns) (ho:s.heap.get? b=some o) (hd:o.data = .set es ep t) (h:Q (eL w b ep es) s):wpAny (model prog w) A (setWalkUnseen b os f) Q E s:=by
 unfold setWalkUnseen
 refine wpAny_bind (wpAny_setState_of ho hd S.fits ?_)
 dsimp only
 refine wpAny_bind ?_
 unfold setsByText
 refine wpAny_bind (wpAny_askSetting (wpAny_pure ?_))
 have hc:((model prog w).w.params.followText "set-order" || t.led && t.plain || decide (es.size≤1))=true:=by
  cases hb:bt w with
  | true =>
   have:(model prog w).w.params.followText "set-order" = true:=hb
   rw [this]; rfl
  | false=>rw [S.led hb,S.pl]; simp
 show wpAny _ _ (if ((model prog w).w.params.followText "set-order" || t.led && t.plain || decide (es.size≤1))=true then _ else _) _ _ _
 rw [hc]
 simp only [if_true]
 exact uH S ho hd h
theorem sF {a b:Addr} {ms ns:List Int} {each:Sem Unit} {Q:Unit→Shared→Prop} (hab:a≠b) (ha:IS w s.heap a ms) (hb:IS w s.heap b ns) (hn:ms.length+ns.length≤60)
  (hE:∀ (h':Heap) (Q':Unit→Shared→Prop),Heap.SameBut a s.heap h'→Q' () { s with heap:=h' }→wpAny (model prog w) A each Q' E { s with heap:=h' })
  (h:∀ h' us,Heap.SameBut a s.heap h'→IS w h' a us→(∀ x,x∈us↔x∈ms∨x∈ns)→Q () { s with heap:=h' }):wpAny (model prog w) A (setMerge a b each) Q E s:=by
 by_cases hms:ms=[]
 ·subst hms
  exact ke hab ha hb (by omega) λh' ns' hsb hS hp=>h h' ns' hsb hS λx=>by rw [hp.mem_iff]; simp
 ·obtain ⟨ob,eb,epb,tb,hob,hexb,hdb,Sb⟩:=id hb
  have hml:0<ms.length:=List.length_pos_iff.mpr hms
  unfold setMerge
  have hne:(a == b)=false:=by simpa using hab
  rw [hne]
  simp only [Bool.false_eq_true,if_false]
  refine wpAny_bind (wpAny_setState_of hob hdb Sb.fits ?_)
  dsimp only
  have es':s={ s with heap:=s.heap }:=by cases s; rfl
  by_cases he:eb.isEmpty=true
  ·rw [he]
   simp only [if_true]
   have hz:ns=[]:=by
    have:=Sb.size
    have h0:eb.size=0:=by simpa [Array.isEmpty] using he
    exact List.length_eq_zero_iff.mp (by omega)
   subst hz
   rw [es']
   exact wpAny_pure (h s.heap ms (Heap.SameBut.refl a s.heap) ha λx=>by simp)
  ·have he':eb.isEmpty=false:=by simpa using he
   rw [he']
   simp only [Bool.false_eq_true,if_false]
   have hsb:=Sb.size
   refine wpAny_bind (lu ha (by omega) λh1 ns1 o1 es1 ep1 t1 hs1 ho1 hex1 hd1 S1 hp1 hrm1=>?_)
   have hob1:h1.get? b=some ob:=(hs1.2 b (Ne.symm hab)).trans hob
   refine wpAny_bind (wpAny_setState_of (s:={ s with heap:=h1 }) ho1 hd1 S1.fits ?_)
   dsimp only
   obtain ⟨l1,T1,hl1⟩:=S1.tb
   have hfill1:t1.fill≠0:=by rw [eO T1,hl1,hp1.length_eq]; omega
   have hroad:t1.road tb = .oneByOne:=by
    unfold SetTable.road
    rw [if_pos (by simpa using hfill1)]
   rw [hroad]
   dsimp only
   refine wpAny_bind (ny (s:={ s with heap:=h1 }) Sb hob1 hdb ?_)
   obtain ⟨tk,hent⟩:=Sb.ent
   obtain ⟨ns',hns',hord⟩:=cZ (ja w b epb eb) hent
   have hnl:ns'.length=ns.length:=hns'.length_eq
   rw [← Array.forIn_toList,hord]
   refine wpAny_bind ?_
   refine wpAny_forIn_list _ (λrest _ s'=>∃ h' us i,s'={ s with heap:=h' }∧rest=(ns'.drop i).map (gp tk)∧Heap.SameBut a s.heap h'∧IS w h' a us∧(∀ x,x∈us↔x∈ms∨x∈ns'.take i)∧us.length≤ms.length+i∧i≤ns'.length) _ ?_ ?_ _ _
    ⟨h1,ns1,0,rfl,rfl,hs1,⟨o1,es1,ep1,t1,ho1,hex1,hd1,S1⟩,λx=>by rw [hp1.mem_iff]; simp,by rw [hp1.length_eq]; omega,Nat.zero_le _⟩
   ·rintro ⟨hh,xx⟩ rest bb s' ⟨h',us,i,rfl,hr,hsb',hS',hmem,hlen,hi⟩
    have hlt:i<ns'.length:=by
     rcases Nat.lt_or_ge i ns'.length with z | z
     ·exact z
     ·rw [List.drop_of_length_le z] at hr; cases hr
    rw [List.drop_eq_getElem_cons hlt,List.map_cons] at hr
    injection hr with hr1 hr2
    have hr3:hh=hashInt ns'[i]∧xx=Value.int ns'[i] (tk ns'[i]):=by
     have:(hh,xx)=(hashInt ns'[i],Value.int ns'[i] (tk ns'[i])):=hr1
     injection this with q1 q2
     exact ⟨q1,q2⟩
    obtain ⟨rfl,rfl⟩:=hr3
    refine wpAny_bind (wpAny_holding (add_int (s:={ s with heap:=h' }) hS' (by omega) λr h2 us2 hsb2 hS2 hor=>?_))
    refine wpAny_bind (hE h2 _ (hsb'.trans hsb2) ?_)
    have hob2:h2.get? b=some ob:=((hsb'.trans hsb2).2 b (Ne.symm hab)).trans hob
    refine wpAny_bind (wpAny_setState_of (s:={ s with heap:=h2 }) hob2 hdb Sb.fits ?_)
    rw [if_neg (by simp)]
    refine wpAny_pure ⟨h2,us2,i+1,rfl,hr2,hsb'.trans hsb2,hS2,λx=>?_,?_,hlt⟩
    ·have ht:ns'.take (i+1)=ns'.take i++[ns'[i]]:=by rw [List.take_succ,List.getElem?_eq_getElem hlt]; rfl
     rw [ht,List.mem_append,List.mem_singleton]
     rcases hor with ⟨hin,e⟩ | ⟨_,e⟩
     ·rw [e,hmem x]
      constructor
      ·rintro (z | z)
       ·exact .inl z
       ·exact .inr (.inl z)
      ·rintro (z | z | z)
       ·exact .inl z
       ·exact .inr z
       ·rw [z]; exact (hmem _).mp hin
     ·rw [e.mem_iff,List.mem_cons,hmem x]
      constructor
      ·rintro (z | z | z)
       ·exact .inr (.inr z)
       ·exact .inl z
       ·exact .inr (.inl z)
      ·rintro (z | z | z)
       ·exact .inr (.inl z)
       ·exact .inr (.inr z)
       ·exact .inl z
    ·rcases hor with ⟨_,e⟩ | ⟨_,e⟩
     ·rw [e]; omega
     ·have:=e.length_eq
      rw [List.length_cons] at this
      omega
   ·rintro bb s' ⟨h',us,i,rfl,hr,hsb',hS',hmem,hlen,hi⟩
    have hie:ns'.drop i=[]:=by simpa using hr.symm
    have hin:i=ns'.length:=by
     have:=congrArg List.length hie
     rw [List.length_drop,List.length_nil] at this
     omega
    refine wpAny_pure (h h' us hsb' hS' λx=>?_)
    rw [hmem x,hin,List.take_length,hns'.mem_iff]
end
theorem lw:entryFor table "set.__or__" = some Builtin.«frozenset.__or__» :=
 entryFor_alias (id':="frozenset.__or__") (by kernel_rfl) rfl (by decide +kernel) (by kernel_rfl)
section
variable {prog:Program} {w:World} {A:Around} {E:Value→Shared→Prop} {s:Shared}
theorem wF {Q:Value→Shared→Prop} (h:∀ h',(∀ b o,s.heap.get? b=some o→h'.get? b=some o)→IS w h' s.heap.objs.size []→Q (.ref s.heap.objs.size) { s with heap:=h' }):wpAny (model prog w) A (newSet (.type "set")) Q E s:=by
 unfold newSet setsByText
 refine wpAny_bind (wpAny_bind (wpAny_askSetting (wpAny_pure ?_)))
 dsimp only
 simp only [newObj]
 exact wpAny_bind (wpAny_alloc (wpAny_pure (h _ (λb o e=>Heap.get?_push_of_some _ e) (nq (Heap.get?_push_size _ rfl)))))
theorem lx {a:Addr} {Q:Bool→Shared→Prop} (hT:s.TypeIs (.ref a) "set") (h:Q true s):wpAny (model prog w) A (Builtin.Frozenset.isAnySet (.ref a)) Q E s:=by
 unfold Builtin.Frozenset.isAnySet
 refine wpAny_bind (wpAny_isInstance (b:=true) hT sub_set_self ?_)
 exact wpAny_pure h
theorem uI {a:Addr} {ns:List Int} {Q:Value→Shared→Prop} (ha:IS w s.heap a ns) (hn:ns.length≤60)
  (h:∀ h' us,(∀ b o,s.heap.get? b=some o→h'.get? b=some o)→IS w h' s.heap.objs.size us→us.Perm ns→Q (.ref s.heap.objs.size) { s with heap:=h' }):wpAny (model prog w) A (Builtin.Frozenset.copyOf a) Q E s:=by
 obtain ⟨o,es,ep,t,ho,hex,hd,S⟩:=id ha
 have hT:s.TypeIs (.ref a) "set":=⟨o,ho,hex.1⟩
 unfold Builtin.Frozenset.copyOf Builtin.Frozenset.baseOf
 refine wpAny_bind ?_
 refine wpAny_bind (wpAny_isInstance (b:=true) hT sub_set_self ?_)
 refine wpAny_pure ?_
 simp only [if_true]
 refine wpAny_bind (wF λh1 hk hS=>?_)
 refine wpAny_bind ?_
 show wpAny _ _ (pure s.heap.objs.size) _ _ _
 refine wpAny_pure ?_
 have hlt:a<s.heap.objs.size:=Heap.lt_size ho
 refine wpAny_bind (ke (s:={ s with heap:=h1 }) (Nat.ne_of_gt hlt) hS (ha.at λo e=>hk a o e) hn λh' us hsb hS' hp=>?_)
 refine wpAny_pure (h h' us (λb o e=>?_) hS' hp)
 rw [hsb.2 b (Nat.ne_of_lt (Heap.lt_size e))]
 exact hk b o e
theorem sG {a b:Addr} {ms ns:List Int} {Q:Value→Shared→Prop} (hab:a≠b) (ha:IS w s.heap a ms) (hb:IS w s.heap b ns) (hn:ms.length+ns.length≤60)
  (h:∀ h' us,(∀ b o,s.heap.get? b=some o→h'.get? b=some o)→IS w h' s.heap.objs.size us→(∀ x,x∈us↔x∈ms∨x∈ns)→Q (.ref s.heap.objs.size) { s with heap:=h' }):wpAny (model prog w) A (binaryOp .BitOr (.ref a) (.ref b)) Q E s:=by
 obtain ⟨oa,ea,epa,ta,hoa,hexa,hda,Sa⟩:=id ha
 obtain ⟨ob,eb,epb,tb,hob,hexb,hdb,Sb⟩:=id hb
 have hTa:s.TypeIs (.ref a) "set":=⟨oa,hoa,hexa.1⟩
 have hTb:s.TypeIs (.ref b) "set":=⟨ob,hob,hexb.1⟩
 refine wpAny_binaryOp_same hTa hTb F.fills_set_or F.slot_set_or (wpAny_call_entry F.slot_set_or hTa lw ?_ (F.args_set_or_2 _ _))
 unfold Builtin.«frozenset.__or__»
 refine wpAny_bind ?_
 unfold Builtin.Frozenset.slot1
 refine wpAny_bind (wpAny_pure (wpAny_pure ?_))
 dsimp only
 simp only [Bool.false_eq_true,if_false]
 refine wpAny_bind ?_
 refine wpAny_bind (lx hTa ?_)
 show wpAny _ _ (Builtin.Frozenset.isAnySet (.ref b)) _ _ _
 refine lx hTb ?_
 simp only [Bool.not_true,Bool.false_eq_true,if_false]
 refine wpAny_bind ?_
 show wpAny _ _ (pure a) _ _ _
 refine wpAny_pure ?_
 refine wpAny_bind ?_
 refine wpAny_bind (uI ha (by omega) λh1 us hk hS hp=>?_)
 have hne:(Value.ref b != Value.ref a)=true:=by
  rw [bne_iff_ne]
  intro e
  injection e with e
  exact hab e.symm
 rw [hne]
 simp only [if_true]
 refine wpAny_bind ?_
 show wpAny _ _ (pure s.heap.objs.size) _ _ _
 refine wpAny_pure ?_
 refine wpAny_bind ?_
 refine wpAny_holding ?_
 unfold Builtin.Frozenset.updateFrom
 have hob1:h1.get? b=some ob:=hk b ob hob
 have hTb1:Shared.TypeIs { s with heap:=h1 } (.ref b) "set":=⟨ob,hob1,hexb.1⟩
 refine wpAny_bind (lx hTb1 ?_)
 simp only [if_true]
 refine wpAny_bind ?_
 show wpAny _ _ (pure b) _ _ _
 refine wpAny_pure ?_
 unfold Builtin.Frozenset.merge
 refine wpAny_bind (wpAny_setEpoch_of (s:={ s with heap:=h1 }) hob1 hdb Sb.fits ?_)
 have hbn:s.heap.objs.size≠b:=Nat.ne_of_gt (Heap.lt_size hob)
 refine sF (s:={ s with heap:=h1 }) hbn hS (hb.at λo e=>hk b o e) (by rw [hp.length_eq]; exact hn) (λh' Q' hsb hq=>?_) λh' vs hsb hS' hmem=>?_
 ·unfold Builtin.Frozenset.unchanged
  have hob2:h'.get? b=some ob:=(hsb.2 b (Ne.symm hbn)).trans hob1
  refine wpAny_bind (wpAny_setEpoch_of (s:={ s with heap:=h' }) hob2 hdb Sb.fits ?_)
  rw [if_neg (by simp)]
  exact wpAny_pure hq
 ·refine wpAny_pure (wpAny_pure ⟨_,rfl,(λe=>nomatch e),h h' vs (λc o e=>?_) hS' λx=>by rw [hmem x,hp.mem_iff]⟩)
  rw [hsb.2 c (Nat.ne_of_lt (Heap.lt_size e))]
  exact hk c o e
theorem sH {d:Addr} {od:Obj} {ed:Array DictEntry} {epd:Nat} {ks:List Int} {Q:Value→Shared→Prop} (hod:s.heap.get? d=some od) (hexd:od.ExactDict) (hdd:od.data = .dict ed epd) (hsm:(d == sysModules)=false)
  (hk:∀ (i:Nat) (e:DictEntry),ed[i]? = some e→∃ k t,ks[i]? = some k∧e.key = .int k t∧e.hash=hashInt k) (hlen:ed.size=ks.length) (hn:ks.length≤60)
  (h:∀ h' us,(∀ b o,s.heap.get? b=some o→h'.get? b=some o)→IS w h' s.heap.objs.size us→(∀ x,x∈us↔x∈ks)→Q (.ref s.heap.objs.size) { s with heap:=h' }):wpAny (model prog w) A (call (.type "set") [.ref d]) Q E s:=by
 refine ls ?_
 have hS:(s.heap.push { cls:=.type "set",dict:=none,data:=.set #[] 0 (.fresh 0 0 (!bt w)) }).get? s.heap.objs.size=some { cls:=.type "set",dict:=none,data:=.set #[] 0 (.fresh 0 0 (!bt w)) }:=Heap.get?_push_size _ rfl
 have hI:IS w (s.heap.push { cls:=.type "set",dict:=none,data:=.set #[] 0 (.fresh 0 0 (!bt w)) }) s.heap.objs.size []:=nq hS
 have hod1:(s.heap.push { cls:=.type "set",dict:=none,data:=.set #[] 0 (.fresh 0 0 (!bt w)) }).get? d=some od:=Heap.get?_push_of_some _ hod
 have hkeep:∀ b o,s.heap.get? b=some o→(s.heap.push { cls:=.type "set",dict:=none,data:=.set #[] 0 (.fresh 0 0 (!bt w)) }).get? b=some o:=λb o e=>Heap.get?_push_of_some _ e
 have hdS:s.heap.objs.size≠d:=Nat.ne_of_gt (Heap.lt_size hod)
 generalize (s.heap.push { cls:=.type "set",dict:=none,data:=.set #[] 0 (.fresh 0 0 (!bt w)) })=h0 at hS hI hod1 hkeep ⊢
 have hT:Shared.TypeIs { s with heap:=h0 } (.ref d) "dict":=⟨od,hod1,hexd.1⟩
 have hTS:Shared.TypeIs { s with heap:=h0 } (.ref s.heap.objs.size) "set":=⟨_,hS,rfl⟩
 have h1:isSubtype (.type "dict") (.type "set")=pure false:=by rw [isSubtype_type]; kernel_rfl
 have h2:isSubtype (.type "dict") (.type "frozenset")=pure false:=by rw [isSubtype_type]; kernel_rfl
 generalize hU:@Builtin.Frozenset.updateFrom=U
 unfold Builtin.«set.__init__» noKeywords
 wp_walk
 rw [hdd]
 refine wpAny_pure ?_
 refine wpAny_bind (wpAny_dictEntries (s:={ s with heap:=h0 }) hod1 hdd ?_)
 refine wpAny_bind (lu (s:={ s with heap:=h0 }) hI (by rw [List.length_nil]; omega) λh3 ns3 o3 es3 ep3 t3 hs3 ho3 hex3 hd3 S3 hp3 _=>?_)
 have e3:ns3=[]:=hp3.eq_nil
 subst e3
 have hod3:h3.get? d=some od:=(hs3.2 d (Ne.symm hdS)).trans hod1
 refine wpAny_bind (wpAny_dictEntries (s:={ s with heap:=h3 }) hod3 hdd ?_)
 refine wpAny_bind ?_
 rw [Std.Legacy.Range.forIn_eq_forIn_range']
 simp only [Std.Legacy.Range.size,Nat.sub_zero,Nat.add_sub_cancel,Nat.div_one]
 refine wpAny_forIn_list _ (λrest _ s'=>∃ h' us i,s'={ s with heap:=h' }∧rest=List.range' i (ed.size - i)∧i≤ed.size∧Heap.SameBut s.heap.objs.size h0 h'∧IS w h' s.heap.objs.size us∧(∀ x,x∈us↔x∈ks.take i)∧us.length≤i) _ ?_ ?_ _ _
  ⟨h3,[],0,rfl,by simp,Nat.zero_le _,hs3,⟨o3,es3,ep3,t3,ho3,hex3,hd3,S3⟩,λx=>by simp,Nat.le_refl _⟩
 ·rintro x rest b s' ⟨h',us,i,rfl,hr,hi,hsb,hS',hmem,hl⟩
  have hlt:i<ed.size:=by
   rcases Nat.lt_or_ge i ed.size with h | h
   ·exact h
   ·rw [Nat.sub_eq_zero_of_le h] at hr; simp at hr
  obtain ⟨rfl,hrest⟩:x=i∧rest=List.range' (i+1) (ed.size - (i+1)):=by
   have e:ed.size - i=(ed.size - (i+1))+1:=by omega
   rw [e,List.range'_succ] at hr
   injection hr with h1 h2
   exact ⟨h1,h2⟩
  have hod':h'.get? d=some od:=(hsb.2 d (Ne.symm hdS)).trans hod1
  refine wpAny_bind (wpAny_dictEntries (s:={ s with heap:=h' }) hod' hdd ?_)
  have hx:ed[x]? = some ed[x]:=Array.getElem?_eq_getElem hlt
  obtain ⟨k,kt,hk1,hk2,hk3⟩:=hk x _ hx
  rw [hx]
  show wpAny _ _ (holding [ed[x].key] (setAddHashed s.heap.objs.size ed[x].key ed[x].hash) >>= _) _ _ _
  rw [hk2,hk3]
  refine wpAny_bind (wpAny_holding (add_int (s:={ s with heap:=h' }) hS' (by omega) λr h2 us2 hsb2 hS2 hor=>?_))
  have hod2:h2.get? d=some od:=(hsb2.2 d (Ne.symm hdS)).trans hod'
  refine wpAny_bind (wpAny_dictEpoch (s:={ s with heap:=h2 }) hod2 hdd ?_)
  rw [if_neg (by simp)]
  refine wpAny_pure ⟨h2,us2,x+1,rfl,hrest,hlt,hsb.trans hsb2,hS2,λy=>?_,?_⟩
  ·have ht:ks.take (x+1)=ks.take x++[k]:=by rw [List.take_succ,hk1]; rfl
   rw [ht,List.mem_append,List.mem_singleton]
   rcases hor with ⟨hin,e⟩ | ⟨_,e⟩
   ·rw [e,hmem y]
    constructor
    ·exact .inl
    ·rintro (z | z)
     ·exact z
     ·rw [z]; exact (hmem _).mp hin
   ·rw [e.mem_iff,List.mem_cons,hmem y]
    exact Or.comm
  ·rcases hor with ⟨_,e⟩ | ⟨_,e⟩
   ·rw [e]; omega
   ·have:=e.length_eq
    rw [List.length_cons] at this
    omega
 ·rintro b s' ⟨h',us,i,rfl,hr,hi,hsb,hS',hmem,hl⟩
  have hin:i=ed.size:=by
   have:=congrArg List.length hr
   rw [List.length_nil,List.length_range'] at this
   omega
  refine wpAny_pure (wpAny_pure ⟨rfl,h h' us (λc o e=>?_) hS' λx=>?_⟩)
  ·rw [hsb.2 c (Nat.ne_of_lt (Heap.lt_size e))]
   exact hkeep c o e
  ·rw [hmem x,hin,hlen,List.take_length]
end
end TB
namespace L2
open PySem PySem.Spec PyProof.Rows
section
variable {X:Cx}
theorem Inv.dK {pins:List (Addr×Obj)} {σ:St} {H:Hp} {s:Shared} (I:Inv X pins σ H s) {a:Addr} {kvs:List (Key×V)} (h:Rd H a (.dK kvs)) :
  kvs.length≤sizeLine∧(a == sysModules)=false∧∃ vs,KV kvs vs∧s.heap.DictOf (aD X.prog X.w) a vs:=by
 rcases h with h | ⟨o,h⟩
 ·obtain ⟨hz,hsm,vs,rel,dd⟩:=I.hok a _ h
  exact ⟨hz,hsm,vs,rel,dd⟩
 ·obtain ⟨_,hz,hsm,vs,rel,dd⟩:=I.hok a _ h
  exact ⟨hz,hsm,vs,rel,dd⟩
noncomputable def dX:V→Bool
 | .non=>true
 | .int _=>true
 | .str _=>true
 | _=>false
theorem de {x:V} (h:dX x=true):cP x=true:=by cases x <;> first | rfl | cases h
theorem nA {x y:V} (hx:dX x=true) (hy:dX y=true):eqV x y=decide (x=y):=by
 cases x <;> cases y <;> simp_all [eqV,dX] <;> rw [Bool.eq_iff_iff] <;> simp
noncomputable def OT (H:Hp) (x:V) (o:Option (List V)):Prop:=(x = .non∧o=none)∨∃ a xs,x = .ref a∧H a=some (.tup xs)∧o=some xs∧∀ v∈xs,dX v=true
theorem sI {xs ys:List V} (hl:xs.length=ys.length):((List.range xs.length).all λi=>decide (xs.getD i .non=ys.getD i .non))=decide (xs=ys):=by
 rw [Bool.eq_iff_iff,List.all_eq_true,decide_eq_true_eq]
 constructor
 ·intro h
  apply List.ext_getElem?
  intro i
  by_cases hi:i<xs.length
  ·have:=h i (List.mem_range.mpr hi)
   rw [decide_eq_true_eq,List.getD_eq_getElem?_getD,List.getD_eq_getElem?_getD,List.getElem?_eq_getElem hi,List.getElem?_eq_getElem (by omega)] at this
   rw [List.getElem?_eq_getElem hi,List.getElem?_eq_getElem (by omega)]
   exact congrArg some this
  ·rw [List.getElem?_eq_none (by omega),List.getElem?_eq_none (by omega)]
 ·intro h i hi
  rw [h]
  simp
theorem sJ (hu:X.A.units+1<cLine):OpR X (compareOp .NotEq) (λx y H Q=>∃ ox oy,OT H x ox∧OT H y oy∧Q (.bl (!decide (ox=oy))) H):=by
 intro pins s σ H x y v u Q I rx ry h
 obtain ⟨ox,oy,hx,hy,q⟩:=h
 have hu0:X.A.units<cLine:=by omega
 rcases hx with ⟨rfl,rfl⟩ | ⟨a,xs,rfl,ha,rfl,fx⟩ <;> rcases hy with ⟨rfl,rfl⟩ | ⟨b,ys,rfl,hb,rfl,fy⟩ <;> cases rx <;> cases ry
 ·exact SeqAt.RcNeAt.none_none _ _ _ _ ⟨.bl false,H,I,rfl,q⟩
 ·obtain ⟨_,ws,r2,t2⟩:=I.hok b _ hb
  exact SeqAt.RcNeAt.none_tuple t2 hu0 _ _ _ _ ⟨.bl true,H,I,rfl,q⟩
 ·obtain ⟨_,us,r1,t1⟩:=I.hok a _ ha
  exact SeqAt.RcNeAt.tuple_none t1 hu0 _ _ _ _ ⟨.bl true,H,I,rfl,q⟩
 ·obtain ⟨_,us,r1,t1⟩:=I.hok a _ ha
  obtain ⟨_,ws,r2,t2⟩:=I.hok b _ hb
  have l1:=r1.length
  have l2:=r2.length
  refine SeqAt.RcNeAt.tuples (e:=λi=>decide (xs.getD i .non=ys.getD i .non)) t1 t2 hu0 (λj h1 h2=>?_) _ _ _ _ ⟨.bl _,H,I,rfl,?_⟩
  ·have h1':j<xs.length:=by rw [l1]; simpa using h1
   have h2':j<ys.length:=by rw [l2]; simpa using h2
   obtain ⟨u',hu1,hu2⟩:=r1.get (List.getElem?_eq_getElem h1')
   obtain ⟨v',hv1,hv2⟩:=r2.get (List.getElem?_eq_getElem h2')
   have e1:us.toArray[j]=u':=by
    have:us[j]? = some us.toArray[j]:=by rw [List.getElem?_eq_getElem (by simpa using h1)]; simp
    rw [hu1] at this
    exact (Option.some.inj this).symm
   have e2:ws.toArray[j]=v':=by
    have:ws[j]? = some ws.toArray[j]:=by rw [List.getElem?_eq_getElem (by simpa using h2)]; simp
    rw [hv1] at this
    exact (Option.some.inj this).symm
   rw [e1,e2,List.getD_eq_getElem?_getD,List.getD_eq_getElem?_getD,List.getElem?_eq_getElem h1',List.getElem?_eq_getElem h2']
   have f1:=fx _ (List.getElem_mem h1')
   have f2:=fy _ (List.getElem_mem h2')
   show SeqAt.EqAt _ _ _ _ (decide (xs[j]=ys[j]))
   rw [← nA f1 f2]
   exact iA hu2 hv2 (de f1) (de f2)
  ·have e:((List.range (min us.toArray.size ws.toArray.size)).all (λi=>decide (xs.getD i .non=ys.getD i .non)) && us.toArray.size == ws.toArray.size)=decide (some xs=some ys):=by
    simp only [List.size_toArray,← l1,← l2]
    by_cases hl:xs.length=ys.length
    ·rw [← hl,Nat.min_self,sI hl]
     simp
    ·have:(xs.length == ys.length)=false:=by simpa using hl
     rw [this,Bool.and_false]
     refine (decide_eq_false ?_).symm
     intro e
     injection e with e
     exact hl (by rw [e])
   rw [e]
   exact q
end
theorem eM {α:Type} [DecidableEq α]:∀ {l m:List α},l.Nodup→(∀ x∈l,x∈m)→l.length≤m.length
 | [],_,_,_=>Nat.zero_le _
 | x :: l,m,hn,h=>by
  obtain ⟨h1,h2⟩:=List.nodup_cons.mp hn
  have hx:=h x List.mem_cons_self
  have ih:=eM (l:=l) (m:=m.erase x) h2 λy hy=>(List.mem_erase_of_ne (by rintro rfl; exact h1 hy)).mpr (h y (List.mem_cons_of_mem _ hy))
  rw [List.length_erase_of_mem hx] at ih
  have:=List.length_pos_of_mem hx
  rw [List.length_cons]
  omega
section
variable {X:Cx}
theorem gT:cA X (.type "set") (λxs H Q=>∃ d kvs,∃ ks:List Int,xs=[.ref d]∧Rd H d (.dK kvs)∧kvs.map (·.1)=ks.map (Sum.inl:Int→Key)∧ks.length≤60 ∧
  ∀ ms:List Int,ms.Nodup→(∀ x,x∈ms↔x∈ks)→∀ q,H q=none→Q (.ref q) (upd H q (dZ X.w q ms))):=by
 intro pins s σ H xs us Q I r h
 obtain ⟨d,kvs,ks,rfl,hH,hks,hl,q⟩:=h
 obtain ⟨u,rfl,ru⟩:=dW r
 cases ru
 obtain ⟨hz,hsm,vs,rel,o,es,ep,ho,hx,hd,hk,hp,hn⟩:=I.dK hH
 have hlen:es.size=ks.length:=by
  have e1:=hp.length
  have e2:=rel.length
  have e3:=congrArg List.length hks
  rw [List.length_map,List.length_map] at e3
  rw [Array.length_toList] at e1
  omega
 have key:∀ (es:List DictEntry) (vs:List (Key×Value)) (kvs:List (Key×V)) (ks:List Int),Pairs (aD X.prog X.w) es vs→KV kvs vs→kvs.map (·.1)=ks.map (Sum.inl:Int→Key)→(∀ e∈es,∃ k,(aD X.prog X.w).is k e.key=true∧e.hash=(aD X.prog X.w).hash k) →
   ∀ (i:Nat) (e:DictEntry),es[i]? = some e→∃ k t,ks[i]? = some k∧e.key = .int k t∧e.hash=hashInt k:=by
  intro es vs kvs ks hp
  induction hp generalizing kvs ks with
  | nil=>intro _ _ _ i e he; simp at he
  | @cons e0 kv0 es0 kvs0 h1 h2 _ ih =>
   intro r hks hk i e he
   cases r with
   | @cons p _ kvs1 _ r1 r2 =>
    cases ks with
    | nil=>simp at hks
    | cons k ks =>
     rw [List.map_cons,List.map_cons] at hks
     injection hks with g1 g2
     cases i with
     | zero =>
      have ee:e0=e:=by simpa using he
      subst ee
      have g3:kv0.1=Sum.inl k:=r1.1.symm.trans g1
      rw [g3] at h1
      obtain ⟨k',hk1,hk2⟩:=hk _ List.mem_cons_self
      have g4:k'=Sum.inl k:=(aD X.prog X.w).inj _ _ _ hk1 h1
      subst g4
      have h1':ig (Sum.inl k) e0.key=true:=h1
      rcases aV h1' with ⟨j,t,e1,e2⟩ | ⟨y,t,e1,e2⟩
      ·injection e1 with e1
       subst e1
       exact ⟨k,t,rfl,e2,hk2⟩
      ·cases e1
     | succ i=>exact ih _ ks r2 g2 (λe he=>hk e (List.mem_cons_of_mem _ he)) i e (by simpa using he)
 refine TB.sH (ks:=ks) ho hx hd hsm (λi e he=>?_) hlen hl λh' us hkeep hS hmem=>?_
 ·exact key es.toList vs kvs ks hp rel hks (λe he=>hk e (by simpa using he)) i e (by rw [Array.getElem?_toList]; exact he)
 ·have hnd:us.Nodup:=by obtain ⟨_,_,_,_,_,_,_,S⟩:=hS; exact S.nd
  exact ⟨.ref s.heap.objs.size,_,I.layS (t':=s.toks) hkeep (Nat.le_refl _) hS,rfl,q us hnd hmem _ (I.hok.fresh (Nat.le_refl _))⟩
theorem sK:OpR X (binaryOp .BitOr) (λx y H Q=>∃ a b,∃ ms ns:List Int,x = .ref a∧y = .ref b∧a≠b∧H a=some (dZ X.w a ms)∧H b=some (dZ X.w b ns)∧ms.length+ns.length≤60 ∧
  ∀ us:List Int,us.Nodup→(∀ x,x∈us↔x∈ms∨x∈ns)→∀ q,H q=none→Q (.ref q) (upd H q (dZ X.w q us))):=by
 intro pins s σ H x y v u Q I rx ry h
 obtain ⟨a,b,ms,ns,rfl,rfl,hab,ha,hb,hl,q⟩:=h
 cases rx
 cases ry
 refine TB.sG hab (I.intS ha) (I.intS hb) hl λh' us hkeep hS hmem=>?_
 have hnd:us.Nodup:=by obtain ⟨_,_,_,_,_,_,_,S⟩:=hS; exact S.nd
 exact ⟨.ref s.heap.objs.size,_,I.layS (t':=s.toks) hkeep (Nat.le_refl _) hS,rfl,q us hnd hmem _ (I.hok.fresh (Nat.le_refl _))⟩
end
end L2
namespace TW
section
variable {S:Type}
noncomputable def aA (t:List (Nd S)) (k:Int):Option (Nd S):=t.find? λn=>n.num == k
theorem dS {t:List (Nd S)} (T:Tree1 t) {m:Nd S} (hm:m∈t) {k:Int} (e:m.num=k):aA t k=some m:=by
 subst e
 unfold aA
 cases h:t.find? λn=>n.num == m.num with
 | none=>have:=List.find?_eq_none.mp h m hm; simp at this
 | some y =>
  have h1:=List.find?_some h
  have h2:=List.mem_of_find?_eq_some h
  have h3:y.num=m.num:=by simpa using h1
  rw [T.inj h2 hm h3]
theorem cF {t:List (Nd S)} {k:Int} (h:∀ m∈t,m.num≠k):aA t k=none:=by
 unfold aA
 rw [List.find?_eq_none]
 intro m hm
 simpa using h m hm
theorem eQ {t u:List (Nd S)} (T:Tree1 t) (U:Tree1 u) {k:Int} (h:∀ m,m.num=k→(m∈u↔m∈t)):aA u k=aA t k:=by
 by_cases hk:∃ m∈t,m.num=k
 ·obtain ⟨m,hm,e⟩:=hk
  rw [dS T hm e,dS U ((h m e).mpr hm) e]
 ·rw [cF λm hm e=>hk ⟨m,hm,e⟩,cF λm hm e=>hk ⟨m,(h m e).mp hm,e⟩]
noncomputable def Deed.key:Deed S→Int
 | .make n _ _ _=>n
 | .write n _=>n
 | .move n _ _=>n
 | .drop n=>n
theorem pB {t:List (Nd S)} {z:Nd S} {m:Nd S} (h:m.num≠z.num):m∈t.map (put z)↔m∈t:=by
 rw [List.mem_map]
 constructor
 ·rintro ⟨y,hy,e⟩
  by_cases e2:y.num=z.num
  ·rw [dc e2] at e
   exact absurd (by rw [← e]) h
  ·rw [bV e2] at e
   rw [← e]; exact hy
 ·intro hm
  exact ⟨m,hm,bV h⟩
theorem Told.others {t u:List (Nd S)} (T:Tree1 t) (U:Tree1 u) {d:Deed S} (h:Told t d (.inr u)) {k:Int} (hk:k≠d.key) :
  aA u k=aA t k∨((∃ n,d = .drop n)∧Und t d.key k∧(∃ m∈t,m.num=k)∧∀ m∈u,m.num≠k):=by
 generalize er:(Sum.inr u:Sum Wd (List (Nd S)))=r at h
 cases h with
 | @made n p nm st _ a1 a2 a3 a4 a5 =>
  injection er with er
  subst er
  refine .inl (eQ T U λm e=>?_)
  rw [a4.mem_iff,List.mem_cons]
  constructor
  ·rintro (e2 | hm)
   ·rw [e2] at e
    exact absurd e.symm hk
   ·exact hm
  ·exact .inr
 | @wrote n st y a1 a2 a3 =>
  injection er with er
  subst er
  exact .inl (eQ T U λm e=>pB (by rw [e]; exact hk))
 | @moved n p nm y a1 a2 a3 a4 a5 =>
  injection er with er
  subst er
  exact .inl (eQ T U λm e=>pB (by rw [e]; exact hk))
 | @dropped n f a1 a2 =>
  injection er with er
  subst er
  by_cases hu:(∃ m∈t,m.num=k)∧Und t n k
  ·obtain ⟨⟨m,hm,e⟩,hu⟩:=hu
   refine .inr ⟨⟨n,rfl⟩,hu,⟨m,hm,e⟩,λy hy e2=>?_⟩
   obtain ⟨hy1,hy2⟩:=List.mem_filter.mp hy
   exact (a2 y hy1).mp hy2 (by rw [e2]; exact hu)
  ·refine .inl (eQ T U λm e=>?_)
   rw [List.mem_filter]
   constructor
   ·exact λh=>h.1
   ·intro hm
    refine ⟨hm,(a2 m hm).mpr λz=>hu ⟨⟨m,hm,e⟩,by rw [e] at z; exact z⟩⟩
 | _=>cases er
end
end TW
namespace TW
section
variable {S:Type}
structure Row (S:Type) where
 k:Int
 o:Option (Nd S)
 n:Option (Nd S)
structure Chg (t u:List (Nd S)) (rs:List (Row S)):Prop where
 up:rs.Pairwise λa b=>a.k<b.k
 mem:∀ r,r∈rs↔r.o=aA t r.k∧r.n=aA u r.k∧r.o≠r.n
theorem bi {t:List (Nd S)} {k:Int} {m:Nd S} (h:aA t k=some m):m∈t∧m.num=k:=by
 unfold aA at h
 have h1:=List.find?_some h
 have h2:=List.mem_of_find?_eq_some h
 exact ⟨h2,by simpa using h1⟩
theorem pC:∀ {a b:List (Row S)},a.Pairwise (λx y=>x.k<y.k)→b.Pairwise (λx y=>x.k<y.k)→(∀ r,r∈a↔r∈b)→a=b
 | [],[],_,_,_=>rfl
 | [],y :: b,_,_,h=>absurd ((h y).mpr List.mem_cons_self) (by simp)
 | x :: a,[],_,_,h=>absurd ((h x).mp List.mem_cons_self) (by simp)
 | x :: a,y :: b,ha,hb,h=>by
  obtain ⟨a1,a2⟩:=List.pairwise_cons.mp ha
  obtain ⟨b1,b2⟩:=List.pairwise_cons.mp hb
  have e:x=y:=by
   rcases List.mem_cons.mp ((h x).mp List.mem_cons_self) with e | e
   ·exact e
   ·rcases List.mem_cons.mp ((h y).mpr List.mem_cons_self) with e' | e'
    ·exact e'.symm
    ·have q1:=b1 x e
     have q2:=a1 y e'
     omega
  subst e
  congr 1
  refine pC a2 b2 λr=>⟨λhr=>?_,λhr=>?_⟩
  ·rcases List.mem_cons.mp ((h r).mp (List.mem_cons_of_mem _ hr)) with e | e
   ·have:=a1 r hr
    rw [e] at this
    omega
   ·exact e
  ·rcases List.mem_cons.mp ((h r).mpr (List.mem_cons_of_mem _ hr)) with e | e
   ·have:=b1 r hr
    rw [e] at this
    omega
   ·exact e
theorem Chg.uniq {t u:List (Nd S)} {a b:List (Row S)} (ha:Chg t u a) (hb:Chg t u b):a=b:=pC ha.up hb.up λr=>(ha.mem r).trans (hb.mem r).symm
theorem Chg.nil {t:List (Nd S)} {a:List (Row S)} (h:Chg t t a):a=[]:=by
 cases a with
 | nil=>rfl
 | cons x a =>
  obtain ⟨h1,h2,h3⟩:=(h.mem x).mp List.mem_cons_self
  exact absurd (h1.trans h2.symm) h3
noncomputable def gs (t u:List (Nd S)) (k:Int):Row S:=⟨k,aA t k,aA u k⟩
theorem wG [DecidableEq (Nd S)] {t u:List (Nd S)} {ns:List Int} (hu:ns.Pairwise (· < ·)) (hm:∀ k,aA t k≠none∨aA u k≠none→k∈ns∨aA t k=aA u k):Chg t u ((ns.map (gs t u)).filter λr=>decide (r.o≠r.n)):=by
 refine ⟨?_,λr=>?_⟩
 ·refine List.Pairwise.filter _ ?_
  rw [List.pairwise_map]
  exact hu
 ·rw [List.mem_filter,List.mem_map,decide_eq_true_eq]
  constructor
  ·rintro ⟨⟨k,hk,rfl⟩,hne⟩
   exact ⟨rfl,rfl,hne⟩
  ·rintro ⟨h1,h2,h3⟩
   refine ⟨⟨r.k,?_,?_⟩,h3⟩
   ·have h4:aA t r.k≠aA u r.k:=by rw [← h1,← h2]; exact h3
    have h5:aA t r.k≠none∨aA u r.k≠none:=by
     by_cases z:aA t r.k=none
     ·exact .inr λz2=>h4 (z.trans z2.symm)
     ·exact .inl z
    rcases hm r.k h5 with z | z
    ·exact z
    ·exact absurd z h4
   ·show (⟨r.k,aA t r.k,aA u r.k⟩:Row S)=r
    rw [← h1,← h2]
end
end TW
namespace L2
open PySem PySem.Spec PyProof.Rows
end L2
namespace TK
open PySem L2
noncomputable instance decNd:DecidableEq (TW.Nd Str):=λa b=>Classical.propDecidable _
noncomputable abbrev Row:=TW.Row Str
noncomputable def dh (H:Hp) (v:V) (o:Option Nd):Prop:=(v = .non∧o=none)∨∃ q n,v = .ref q∧H q=some (.tup (ay n))∧o=some n
theorem dh.same {H H':Hp} {v:V} {o:Option Nd} (h:dh H v o) (s:Same H H'):dh H' v o:=by
 rcases h with h | ⟨q,n,e,h,e2⟩
 ·exact .inl h
 ·exact .inr ⟨q,n,e,s _ _ h,e2⟩
theorem fj (n:Nd):∀ v∈ay n,dX v=true:=λv hv=>by
 unfold ay at hv
 simp only [List.mem_cons,List.not_mem_nil,or_false] at hv
 rcases hv with rfl | rfl | rfl
 ·rfl
 ·rfl
 ·cases n.st <;> rfl
theorem dh.ot {H:Hp} {v:V} {o:Option Nd} (h:dh H v o):OT H v (o.map ay):=by
 rcases h with ⟨e,e2⟩ | ⟨q,n,e,h,e2⟩
 ·exact .inl ⟨e,by rw [e2]; rfl⟩
 ·exact .inr ⟨q,ay n,e,h,by rw [e2]; rfl,fj n⟩
theorem kg {a b:Nd} (h:ay a=ay b) (e:a.num=b.num):a=b:=by
 obtain ⟨n1,p1,m1,s1⟩:=a
 obtain ⟨n2,p2,m2,s2⟩:=b
 unfold ay at h
 simp only [List.cons.injEq,V.int.injEq,V.str.injEq,and_true] at h
 obtain ⟨h1,h2,h3⟩:=h
 have h4:s1=s2:=by
  cases s1 <;> cases s2 <;> simp_all [stV]
 simp only at e
 subst e h1 h2 h4
 rfl
noncomputable def sL (r:Row):Prop:=(∀ n,r.o=some n→n.num=r.k)∧∀ n,r.n=some n→n.num=r.k
theorem sL.eq {r:Row} (h:sL r):r.o.map ay=r.n.map ay↔r.o=r.n:=by
 obtain ⟨k,o,n⟩:=r
 constructor
 ·intro e
  cases o with
  | none=>cases n with
   | none=>rfl
   | some b=>cases e
  | some a=>cases n with
   | none=>cases e
   | some b =>
    have e2:ay a=ay b:=Option.some.inj e
    exact congrArg some (kg e2 ((h.1 a rfl).trans (h.2 b rfl).symm))
 ·intro e
  show o.map ay=n.map ay
  have:o=n:=e
  rw [this]
structure RowAt (H:Hp) (e:Addr) (r:Row):Prop where
 at':∃ vo vn,H e=some (.tup [.int r.k,vo,vn])∧dh H vo r.o∧dh H vn r.n
 ok:sL r
theorem RowAt.same {H H':Hp} {e:Addr} {r:Row} (h:RowAt H e r) (s:Same H H'):RowAt H' e r:=by
 obtain ⟨⟨vo,vn,h1,h2,h3⟩,hk⟩:=h
 exact ⟨⟨vo,vn,s _ _ h1,h2.same s,h3.same s⟩,hk⟩
noncomputable abbrev ZR:=List (Addr×Row)
noncomputable def cJ (es:ZR):List V:=es.map λe=>V.ref e.1
noncomputable def cz (es:ZR):List Row:=es.map (·.2)
structure ChgAt (H:Hp) (c:Addr) (es:ZR):Prop where
 tup:H c=some (.tup (cJ es))
 at':∀ e∈es,RowAt H e.1 e.2
 len:es.length≤60
theorem ChgAt.same {H H':Hp} {c:Addr} {es:ZR} (h:ChgAt H c es) (s:Same H H'):ChgAt H' c es:=⟨s _ _ h.tup,λe he=>(h.at' e he).same s,h.len⟩
theorem sM {t u:List Nd} (k:Int):sL (TW.gs t u k):=⟨λn h=>(TW.bi h).2,λn h=>(TW.bi h).2⟩
theorem kh {H:Hp} {v w:V} {o:Option Nd} (hv:dh H v o) (hw:dh H w o):jN H 2 v w:=by
 rcases hv with ⟨rfl,rfl⟩ | ⟨q,n,rfl,hq,rfl⟩
 ·rcases hw with ⟨rfl,_⟩ | ⟨q,n,_,_,e⟩
  ·exact dM ⟨rfl,rfl⟩
  ·cases e
 ·rcases hw with ⟨_,e⟩ | ⟨q2,n2,rfl,hq2,e⟩
  ·cases e
  ·have:n=n2:=Option.some.inj e
   subst this
   exact .inr ⟨q,q2,_,_,rfl,rfl,hq,hq2,rfl,λi x y hx hy=>by
    have e:x=y:=Option.some.inj (hx.symm.trans hy)
    subst e
    exact dM ⟨rfl,de (fj n x (List.mem_of_getElem? hx))⟩⟩
theorem nX {H:Hp} {es fs:ZR} (h:cz es=cz fs) (he:∀ e∈es,RowAt H e.1 e.2) (hf:∀ e∈fs,RowAt H e.1 e.2):gg H (cJ es) (cJ fs):=by
 have hl:es.length=fs.length:=by
  have:=congrArg List.length h
  unfold cz at this
  rw [List.length_map,List.length_map] at this
  exact this
 refine ⟨by unfold cJ; rw [List.length_map,List.length_map]; exact hl,λi x y hx hy=>?_⟩
 unfold cJ at hx hy
 rw [List.getElem?_map] at hx hy
 cases ga:es[i]? with
 | none=>rw [ga] at hx; cases hx
 | some a =>
  cases gb:fs[i]? with
  | none=>rw [gb] at hy; cases hy
  | some b =>
   rw [ga] at hx
   rw [gb] at hy
   have ex:V.ref a.1=x:=Option.some.inj hx
   have ey:V.ref b.1=y:=Option.some.inj hy
   subst ex ey
   have e:a.2=b.2:=by
    have h1:(cz es)[i]? = some a.2:=by unfold cz; rw [List.getElem?_map,ga]; rfl
    have h2:(cz fs)[i]? = some b.2:=by unfold cz; rw [List.getElem?_map,gb]; rfl
    rw [h,h2] at h1
    exact (Option.some.inj h1).symm
   obtain ⟨⟨vo,vn,a1,a2,a3⟩,_⟩:=he a (List.mem_of_getElem? ga)
   obtain ⟨⟨wo,wn,b1,b2,b3⟩,_⟩:=hf b (List.mem_of_getElem? gb)
   rw [← e] at b1 b2 b3
   refine .inr ⟨a.1,b.1,_,_,rfl,rfl,a1,b1,rfl,λj x' y' hx' hy'=>?_⟩
   match j,hx',hy' with
   | 0,hx',hy' =>
    cases hx'
    cases hy'
    exact dM ⟨rfl,rfl⟩
   | 1,hx',hy' =>
    cases hx'
    cases hy'
    exact kh a2 b2
   | 2,hx',hy' =>
    cases hx'
    cases hy'
    exact kh a3 b3
   | j+3,hx',hy'=>simp at hx'
theorem Book.optV {H:Hp} {d:Addr} {as:List (Addr×(Addr×Nd))} {zs:ZN} (b:Book H d as zs) (T:TW.Tree1 (nds zs)) (k:Int):∃ r,dt H d (.int k) r∧dh H (r.getD .non) (TW.aA (nds zs) k):=by
 by_cases hk:∃ z∈zs,z.2.num=k
 ·obtain ⟨z,hz,rfl⟩:=hk
  obtain ⟨q,hq1,hq2⟩:=b.get (cx T) hz
  refine ⟨_,hq1,?_⟩
  rw [TW.dS T (cT hz) rfl]
  exact .inr ⟨q,z.2,rfl,hq2,rfl⟩
 ·refine ⟨none,b.not λz hz e=>hk ⟨z,hz,e⟩,?_⟩
  rw [TW.cF λm hm e=>?_]
  ·exact .inl ⟨rfl,rfl⟩
  ·obtain ⟨z,hz,rfl⟩:=gI hm
   exact hk ⟨z,hz,e⟩
theorem fk {as:List (Addr×(Addr×Nd))} {zs:ZN} (h:as.map (·.2)=zs):(aT as).map (·.1)=((nds zs).map (·.num)).map (Sum.inl:Int→Key):=fi h
theorem nB {es:ZR} {t u:List Nd} {ns:List Int} (h:cz es=ns.map (TW.gs t u)):cz (es.filter λe=>!decide (e.2.o=e.2.n))=(ns.map (TW.gs t u)).filter λr=>decide (r.o≠r.n):=by
 rw [← h]
 unfold cz
 rw [List.filter_map]
 congr 1
 apply List.filter_congr
 intro e _
 show (!decide (e.2.o=e.2.n))=decide (e.2.o≠e.2.n)
 by_cases z:e.2.o=e.2.n <;> simp [z]
theorem ki {t:List Nd} {k:Int} (h:TW.aA t k≠none):k∈t.map (·.num):=by
 cases e:TW.aA t k with
 | none=>exact absurd e h
 | some m =>
  obtain ⟨h1,h2⟩:=TW.bi e
  exact List.mem_map.mpr ⟨m,h1,h2⟩
end TK
namespace L2
open PySem PySem.Spec PyProof.Rows
section
variable {X:Cx}
theorem jd (hc:X.calm=true):cA X (.builtin "sorted") (λxs H Q=>∃ d kvs,∃ ns:List Int,xs=[.ref d]∧Rd H d (.dK kvs)∧kvs.map (·.1)=ns.map (Sum.inl:Int→Key)∧ns.Nodup∧ns.length≤60 ∧
  ∀ ms:List Int,ms.Perm ns→ms.Pairwise (λa b=>a<b)→∀ p,H p=none→Q (.ref p) (upd H p (.lst (ms.map V.int)))):=by
 intro pins s σ H xs us Q I r h
 obtain ⟨d,kvs,ns,rfl,hH,hks,hnd',h60,q⟩:=h
 obtain ⟨u,rfl,ru⟩:=dW r
 cases ru
 obtain ⟨hz,hsm,vs0,rel,dd⟩:=I.dK hH
 obtain ⟨ep,da⟩:=dd.dictAt
 have hzv:vs0.length≤sizeLine:=by rw [← rel.length]; exact hz
 refine SRT.jb (κ:=oneType') (PySem.W.kdl_dict hsm) (I.ok.hd hc) da hzv λh1 tk vs hk1 hlt1 hit=>?_
 have rv:aE (ns.map V.int) vs:=by
  have:=um rel hit
  have e:(kvs.map λp=>kV p.1)=ns.map V.int:=by
   have:=congrArg (List.map kV) hks
   rw [List.map_map,List.map_map] at this
   exact this
  rw [e] at this
  simpa using this
 have hvl:vs.length=ns.length:=by rw [← rv.length,List.length_map]
 have gd:∀ i,i<ns.length→∃ t,vs.getD i Value.none = .int (ns.getD i 0) t:=λi hi=>by
  obtain ⟨v,hv,r⟩:=rv.get (i:=i) (x:=.int (ns.getD i 0)) (by rw [List.getElem?_map,(dA (d:=(0:Int)) hi).2]; rfl)
  obtain ⟨t,rfl⟩:=r
  exact ⟨t,by rw [List.getD_eq_getElem?_getD,hv]; rfl⟩
 refine ⟨λi j=>decide (ns.getD i 0<ns.getD j 0),⟨λi _=>by simp,λi j k _ _ _ h1 h2=>?_,λi j hi hj hij=>?_⟩,by omega,λA' s' _ _ Q' h2 hQ=>?_,λA' s' _ _ i j C hi hj hC=>?_,λp h' hrow hup kp hg=>?_⟩
 ·simp only [decide_eq_true_eq] at *; omega
 ·simp only [decide_eq_true_eq]
  have:ns.getD i 0≠ns.getD j 0:=by
   rw [List.getD_eq_getElem?_getD,List.getD_eq_getElem?_getD,List.getElem?_eq_getElem (by omega),List.getElem?_eq_getElem (by omega)]
   exact λe=>hij ((List.getElem_inj hnd').mp e)
  omega
 ·rw [ksk_kind (keys:=vs.toArray) (kz:=ns) (by simpa using pc rv) (by rw [List.size_toArray]; omega)]
  exact wpAny_pure hQ
 ·obtain ⟨t1,e1⟩:=gd i (by omega)
  obtain ⟨t2,e2⟩:=gd j (by omega)
  rw [e1,e2]
  exact PySem.W.kat_lt_int hC
 ·obtain ⟨c,hg⟩:=hg
  rw [hvl] at hrow hup
  have hin:∀ i∈p.toList,i<ns.length:=λi hi=>List.mem_range.mp (hrow.perm.mem_iff.mp hi)
  have hperm2:(p.toList.map λi=>ns.getD i 0).Perm ns:=by
   refine (hrow.perm.map _).trans ?_
   have:(List.range ns.length).map (λi=>ns.getD i 0)=ns:=by
    apply List.ext_getElem?
    intro i
    rw [List.getElem?_map]
    by_cases hi:i<ns.length
    ·rw [List.getElem?_range hi,(dA (d:=(0:Int)) hi).2]; rfl
    ·rw [List.getElem?_eq_none (by rw [List.length_range]; omega),List.getElem?_eq_none (by omega)]; rfl
   rw [this]
  have hpl:p.size=ns.length:=hrow.size
  have hpw:(p.toList.map λi=>ns.getD i 0).Pairwise (λa b=>a<b):=by
   rw [List.pairwise_iff_getElem]
   intro i j hi hj hij
   have hi':i<p.size:=by rw [List.length_map,Array.length_toList] at hi; exact hi
   have hj':j<p.size:=by rw [List.length_map,Array.length_toList] at hj; exact hj
   have:=hup i j hij (by omega)
   simp only [] at this
   rw [Array.getD_eq_getD_getElem?,Array.getD_eq_getD_getElem?,Array.getElem?_eq_getElem hi',Array.getElem?_eq_getElem hj'] at this
   simpa using this
  refine ⟨.ref h1.objs.size,_,I.laid (t':=tk) (o:=.lst ((p.toList.map λi=>ns.getD i 0).map V.int)) kp (Nat.le_of_lt hlt1) ⟨?_,_,c,jM rv p.toList hin,hg⟩,rfl,q _ hperm2 hpw _ (I.hok.fresh (Nat.le_of_lt hlt1))⟩
  rw [List.length_map,hperm2.length_eq,sizeLine_eq]; omega
end
end L2
namespace TW
section
variable {S:Type}
noncomputable def sO (t:List (Nd S)) (rs:List (Row S)):Prop:=∀ r∈rs,r.o=aA t r.k
structure AppTo (t:List (Nd S)) (rs:List (Row S)) (u:List (Nd S)):Prop where
 up:br u
 hit:∀ r∈rs,aA u r.k=r.n
 miss:∀ k,(∀ r∈rs,r.k≠k)→aA u k=aA t k
theorem dE {t:List (Nd S)} (T:br t) {m:Nd S} (hm:m∈t):aA t m.num=some m:=by
 cases e:aA t m.num with
 | none =>
  have:=List.find?_eq_none.mp e m hm
  simp at this
 | some n =>
  obtain ⟨h1,h2⟩:=bi e
  rw [iS T h1 hm h2]
theorem gP {t u:List (Nd S)} (ht:br t) (hu:br u) (h:∀ k,aA t k=aA u k):t=u:=by
 have mem:∀ {a b:List (Nd S)},br a→(∀ k,aA a k=aA b k)→∀ m∈a,m∈b:=λha hh m hm=>by
  have:=dE ha hm
  rw [hh] at this
  exact (bi this).1
 have key:∀ {a b:List (Nd S)},br a→br b→(∀ m,m∈a↔m∈b)→a=b:=by
  intro a
  induction a with
  | nil =>
   intro b _ _ hm
   cases b with
   | nil=>rfl
   | cons y b=>exact absurd ((hm y).mpr List.mem_cons_self) (by simp)
  | cons x a ih =>
   intro b ha hb hm
   cases b with
   | nil=>exact absurd ((hm x).mp List.mem_cons_self) (by simp)
   | cons y b =>
    obtain ⟨a1,a2⟩:=List.pairwise_cons.mp ha
    obtain ⟨b1,b2⟩:=List.pairwise_cons.mp hb
    have e:x=y:=by
     rcases List.mem_cons.mp ((hm x).mp List.mem_cons_self) with e | e
     ·exact e
     ·rcases List.mem_cons.mp ((hm y).mpr List.mem_cons_self) with e' | e'
      ·exact e'.symm
      ·have q1:=b1 x e
       have q2:=a1 y e'
       omega
    subst e
    congr 1
    refine ih a2 b2 λm=>⟨λq=>?_,λq=>?_⟩
    ·rcases List.mem_cons.mp ((hm m).mp (List.mem_cons_of_mem _ q)) with e | e
     ·have:=a1 m q; rw [e] at this; omega
     ·exact e
    ·rcases List.mem_cons.mp ((hm m).mpr (List.mem_cons_of_mem _ q)) with e | e
     ·have:=b1 m q; rw [e] at this; omega
     ·exact e
 exact key ht hu λm=>⟨mem ht h m,mem hu (λk=>(h k).symm) m⟩
theorem AppTo.uniq {t u v:List (Nd S)} {rs:List (Row S)} (h:AppTo t rs u) (h':AppTo t rs v):u=v:=by
 refine gP h.up h'.up λk=>?_
 by_cases hk:∃ r∈rs,r.k=k
 ·obtain ⟨r,hr,rfl⟩:=hk
  rw [h.hit r hr,h'.hit r hr]
 ·have hk':∀ r∈rs,r.k≠k:=λr hr e=>hk ⟨r,hr,e⟩
  rw [h.miss k hk',h'.miss k hk']
theorem Chg.fits {t u:List (Nd S)} {rs:List (Row S)} (h:Chg t u rs):sO t rs:=λr hr=>((h.mem r).mp hr).1
theorem Chg.appTo {t u:List (Nd S)} {rs:List (Row S)} (h:Chg t u rs) (hu:br u):AppTo t rs u:=by
 refine ⟨hu,λr hr=>((h.mem r).mp hr).2.1.symm,λk hk=>?_⟩
 by_cases z:aA t k=aA u k
 ·exact z.symm
 ·exact absurd rfl (hk ⟨k,aA t k,aA u k⟩ ((h.mem _).mpr ⟨rfl,rfl,z⟩))
inductive Appl (t:List (Nd S)) (rs:List (Row S)):Option (List (Nd S))→Prop
 | ok {u}:sO t rs→AppTo t rs u→Tree u→Appl t rs (some u)
 | unfit:¬ sO t rs→Appl t rs none
 | notree {u}:AppTo t rs u→¬ Tree u→Appl t rs none
theorem Appl.some_uniq {t u v:List (Nd S)} {rs:List (Row S)} (h:Appl t rs (some u)) (h':Appl t rs (some v)):u=v:=by
 cases h with
 | ok a b c=>cases h' with
  | ok a' b' c'=>exact b.uniq b'
theorem Appl.not_both {t u:List (Nd S)} {rs:List (Row S)} (h:Appl t rs (some u)) (h':Appl t rs none):False:=by
 cases h with
 | ok a b c=>cases h' with
  | unfit f=>exact f a
  | notree b' c' =>
   rw [b'.uniq b] at c'
   exact c' c
theorem kj {ms:List Int} {M:Int→Option (Nd S)} (hm:ms.Pairwise (· < ·)) (hM:∀ k n,M k=some n→n.num=k):br (ms.filterMap M):=by
 unfold br
 rw [List.pairwise_filterMap]
 refine hm.imp λ{a b} hab x hx y hy=>?_
 rw [hM a x hx,hM b y hy]
 exact hab
theorem qD {ms:List Int} {M:Int→Option (Nd S)} (hm:ms.Pairwise (· < ·)) (hM:∀ k n,M k=some n→n.num=k) (k:Int):aA (ms.filterMap M) k=if k∈ms then M k else none:=by
 by_cases hk:k∈ms
 ·rw [if_pos hk]
  cases e:M k with
  | none =>
   refine cF λm hmm ek=>?_
   obtain ⟨j,_,hj⟩:=List.mem_filterMap.mp hmm
   have:=hM j m hj
   rw [ek] at this
   rw [← this,e] at hj
   cases hj
  | some n =>
   have mem:n∈ms.filterMap M:=List.mem_filterMap.mpr ⟨k,hk,e⟩
   have:=dE (kj hm hM) mem
   rw [hM k n e] at this
   exact this
 ·rw [if_neg hk]
  refine cF λm hmm ek=>hk ?_
  obtain ⟨j,hj1,hj⟩:=List.mem_filterMap.mp hmm
  have:=hM j m hj
  rw [ek] at this
  rw [this]
  exact hj1
end
end TW
namespace L2
open PySem PySem.Spec PyProof.Rows
theorem dt.eqK {H:Hp} {d:Addr} {kvs:List (Key×V)} {k:Int} {r:Option V} (h:dt H d (.int k) r) (hd:H d=some (.dK kvs)):r=bg kvs (Sum.inl k:Key):=by
 rcases h with ⟨kvs',k',hr,e,rfl⟩ | ⟨_,_,_,_,e,_⟩
 ·have e2:k'=(Sum.inl k:Key):=by
   cases k' with
   | inl j=>injection e with e; rw [e]
   | inr x=>cases e
  subst e2
  rcases hr with hr | ⟨o,hr⟩
  ·rw [hd] at hr
   injection hr with hr
   injection hr with hr
   rw [hr]
  ·rw [hd] at hr
   cases hr
 ·cases e
end L2
namespace TK
open PySem L2
theorem dh.overD {H:Hp} {d:Addr} {kvs:List (Key×V)} {o':HO} {v:V} {o:Option Nd} (h:dh H v o) (hd:H d=some (.dK kvs)):dh (upd H d o') v o:=by
 rcases h with h | ⟨q,n,e,h,e2⟩
 ·exact .inl h
 ·refine .inr ⟨q,n,e,?_,e2⟩
  rw [aj]
  ·exact h
  ·rintro rfl
   rw [hd] at h
   cases h
structure PD (H:Hp) (kvs:List (Key×V)) (ks:List Int) (M:Int→Option Nd):Prop where
 keys:kvs.map (·.1)=ks.map (Sum.inl:Int→Key)
 nd:ks.Nodup
 val:∀ k,dh H ((bg kvs (Sum.inl k:Key)).getD .non) (M k)
 num:∀ k n,M k=some n→n.num=k
theorem PD.has {H:Hp} {kvs:List (Key×V)} {ks:List Int} {M:Int→Option Nd} (h:PD H kvs ks M) {k:Int} (hk:k∈ks):∃ v,bg kvs (Sum.inl k:Key)=some v:=by
 cases e:bg kvs (Sum.inl k:Key) with
 | some v=>exact ⟨v,rfl⟩
 | none =>
  have:=rF e
  rw [h.keys] at this
  exact absurd (List.mem_map.mpr ⟨k,hk,rfl⟩) this
theorem PD.out {H:Hp} {kvs:List (Key×V)} {ks:List Int} {M:Int→Option Nd} (h:PD H kvs ks M) {k:Int} (hk:k∉ks):M k=none:=by
 have hv:=h.val k
 cases e:bg kvs (Sum.inl k:Key) with
 | some v =>
  have:=oP e
  rw [h.keys] at this
  obtain ⟨j,hj,ej⟩:=List.mem_map.mp this
  injection ej with ej
  rw [ej] at hj
  exact absurd hj hk
 | none =>
  rw [e] at hv
  rcases hv with ⟨_,z⟩ | ⟨q,n,z,_⟩
  ·exact z
  ·cases z
theorem PD.put {H:Hp} {d:Addr} {kvs:List (Key×V)} {ks:List Int} {M:Int→Option Nd} (h:PD H kvs ks M) (hd:H d=some (.dK kvs)) {k:Int} {v:V} {o:Option Nd} (hv:dh H v o) (ho:∀ n,o=some n→n.num=k) :
  ∃ ks',ks'.length≤ks.length+1∧PD (upd H d (.dK (cu kvs (Sum.inl k:Key) v))) (cu kvs (Sum.inl k:Key) v) ks' (λj=>if j=k then o else M j):=by
 have val:∀ j,dh (upd H d (.dK (cu kvs (Sum.inl k:Key) v))) ((bg (cu kvs (Sum.inl k:Key) v) (Sum.inl j:Key)).getD .non) (if j=k then o else M j):=λj=>by
  rw [lQ]
  by_cases e:j=k
  ·subst e
   rw [if_pos rfl,if_pos rfl]
   exact hv.overD hd
  ·rw [if_neg (λz=>e (by injection z)),if_neg e]
   exact (h.val j).overD hd
 have num:∀ j n,(if j=k then o else M j)=some n→n.num=j:=λj n hj=>by
  by_cases e:j=k
  ·rw [if_pos e] at hj
   rw [e]
   exact ho n hj
  ·rw [if_neg e] at hj
   exact h.num j n hj
 by_cases hk:k∈ks
 ·obtain ⟨v',hv'⟩:=h.has hk
  refine ⟨ks,Nat.le_succ _,?_,h.nd,val,num⟩
  have ha:(kvs.any λkv=>decide (kv.1=(Sum.inl k:Key)))=true:=by rw [cH,hv']; rfl
  unfold cu
  rw [if_pos ha,List.map_map,← h.keys]
  apply List.map_congr_left
  intro p _
  show (if p.1=_ then (p.1,v) else p).1=p.1
  split <;> rfl
 ·refine ⟨ks++[k],by rw [List.length_append]; exact Nat.le_refl _,?_,?_,val,num⟩
  ·have hn:bg kvs (Sum.inl k:Key)=none:=by
    cases e:bg kvs (Sum.inl k:Key) with
    | none=>rfl
    | some v' =>
     have:=oP e
     rw [h.keys] at this
     obtain ⟨j,hj,ej⟩:=List.mem_map.mp this
     injection ej with ej
     rw [ej] at hj
     exact absurd hj hk
   rw [ro v hn,List.map_append,h.keys,List.map_append]
   rfl
  ·rw [List.nodup_append]
   refine ⟨h.nd,by simp,λa ha b hb=>?_⟩
   have:b=k:=by simpa using hb
   rw [this]
   exact λe=>hk (e ▸ ha)
theorem PD.book {H:Hp} {d:Addr} {as:List (Addr×(Addr×Nd))} {zs:ZN} (b:Book H d as zs) (hd:H d=some (.dK (aT as))) (T:TW.Tree1 (nds zs)):PD H (aT as) ((nds zs).map (·.num)) (TW.aA (nds zs)):=by
 refine ⟨fk b.of,cx T,λk=>?_,λk n h=>(TW.bi h).2⟩
 obtain ⟨r,h1,h2⟩:=b.optV T k
 rw [← h1.eqK hd]
 exact h2
theorem uJ (o:Option Int):cP (stV o)=true:=by cases o <;> rfl
theorem nY (H:Hp) (n:Nd) (k:Nat):∀ (i:Nat) x y,(vals n)[i]? = some x→(vals n)[i]? = some y→jN H k x y:=λi x y h1 h2=>by
 have e:x=y:=Option.some.inj (h1.symm.trans h2)
 subst e
 refine dM ⟨rfl,?_⟩
 match i,h1 with
 | 0,h=>cases h; rfl
 | 1,h=>cases h; rfl
 | 2,h=>cases h; rfl
 | 3,h=>cases h; exact uJ _
 | i+4,h=>simp [vals] at h
theorem cK {H:Hp} {us ws:ZN} (h:nds us=nds ws) (hu:At H us) (hw:At H ws):gg H (aN us) (aN ws):=by
 refine ⟨by rw [bf,bf,← av us,← av ws,h],λi x y hx hy=>?_⟩
 obtain ⟨a,ga,rfl⟩:=cp hx
 obtain ⟨b,gb,rfl⟩:=cp hy
 have e:a.2=b.2:=by
  have h1:(nds us)[i]? = some a.2:=by unfold nds; rw [List.getElem?_map,ga]; rfl
  have h2:(nds ws)[i]? = some b.2:=by unfold nds; rw [List.getElem?_map,gb]; rfl
  rw [h,h2] at h1
  exact (Option.some.inj h1).symm
 refine .inr ⟨a.1,b.1,_,_,rfl,rfl,hu a (List.mem_of_getElem? ga),hw b (List.mem_of_getElem? gb),rfl,?_⟩
 rw [e]
 exact nY H b.2 2
end TK
namespace L2
open PySem PySem.Spec PyProof.Rows
section
variable {X:Cx}
end
section
variable {X:Cx} {tg:Expr}
noncomputable def yu (K:PySem.W.Frag) (te:TE):TI:=λσ H R=>te σ H λv H1=>∃ a,v = .ref a∧(((∃ xs,SqL K H1 a xs)∧R (Itl K a) H1)∨((∃ xs,SqT K H1 a xs)∧R (Itt K a) H1))
theorem wH {l:Expr} {tl:TE} (hl:PE X l tl):PI X tg l (yu X.K tl):=by
 intro pins s σ H R I h
 refine thn (hl pins s σ H _ I h) λv s1 hpt=>?_
 obtain ⟨x,H1,I1,r1,q1⟩:=hpt
 obtain ⟨a,e,q1⟩:=q1
 subst e
 cases r1
 have fin:∀ b∈[s1.heap.objs.size],dY X pins H1 b:=λb hb=>by
  have e:b=s1.heap.objs.size:=by simpa using hb
  subst e
  exact I1.fpOk (Nat.le_refl _) (I1.hok.fresh (Nat.le_refl _))
 rcases q1 with ⟨⟨xs,hq⟩,q⟩ | ⟨⟨xs,hq⟩,q⟩
 ·obtain ⟨its,rv,p,hz⟩:=I1.list hq
  exact wpAny_pyIter_list p.isList ⟨s1.heap.objs.size,[s1.heap.objs.size],_,_,H1,rfl,I1.kept (t':=s1.toks) λb o e=>Heap.get?_push_of_some _ e,jw a _,⟨_,Heap.get?_push_size _ rfl,rfl,rfl⟩,fin,q⟩
 ·obtain ⟨its,rv,p,hz⟩:=I1.tuple hq
  exact wpAny_pyIter_tuple (show s1.heap.IsTuple a its.toArray from p) ⟨s1.heap.objs.size,[s1.heap.objs.size],_,_,H1,rfl,I1.kept (t':=s1.toks) λb o e=>Heap.get?_push_of_some _ e,io a _,⟨_,Heap.get?_push_size _ rfl,rfl,rfl⟩,fin,q⟩
end
theorem uK {K:PySem.W.Frag} {a:Addr} {xs:List V} {g:TG} {tb:TS} {D:Ends} {σ:St} {H:Hp} (Pv:Nat→St→Hp→Prop) (h0:Pv 0 σ H) (hl:(∀ i σ H,i≤xs.length→Pv i σ H→SqL K H a xs)∨∀ i σ H,i≤xs.length→Pv i σ H→SqT K H a xs)
  (hs:∀ i x σ H,xs[i]? = some x→Pv i σ H→g x σ H λσ2 H2=>tb { D with nx:=Pv (i+1),ct:=Pv (i+1),bk:=D.nx } σ2 H2) (hd:∀ σ H,Pv xs.length σ H→D.nx σ H) :
  ((∃ xs,SqL K H a xs)∧∃ W:Nat→Nat→St→Hp→Prop,(∃ m,W 0 m σ H)∧∀ i m σ H,W i m σ H →
   ((Itl K a).stop i H∧D.nx σ H)∨((Itl K a).go i H∧∃ N:St→Hp→Prop,(∀ σ' H',N σ' H'→∃ m',m'<m∧W (i+1) m' σ' H')∧∀ x H',(Itl K a).yld i H x H'→g x σ H' λσ2 H2=>tb { D with nx:=N,ct:=N,bk:=D.nx } σ2 H2)) ∨
  ((∃ xs,SqT K H a xs)∧∃ W:Nat→Nat→St→Hp→Prop,(∃ m,W 0 m σ H)∧∀ i m σ H,W i m σ H →
   ((Itt K a).stop i H∧D.nx σ H)∨((Itt K a).go i H∧∃ N:St→Hp→Prop,(∀ σ' H',N σ' H'→∃ m',m'<m∧W (i+1) m' σ' H')∧∀ x H',(Itt K a).yld i H x H'→g x σ H' λσ2 H2=>tb { D with nx:=N,ct:=N,bk:=D.nx } σ2 H2)):=by
 rcases hl with hl | hl
 ·exact .inl ⟨⟨xs,hl 0 σ H (Nat.zero_le _) h0⟩,lL Pv h0 hl hs hd⟩
 ·exact .inr ⟨⟨xs,hl 0 σ H (Nat.zero_le _) h0⟩,oA Pv h0 hl hs hd⟩
theorem uL {A:Around} {s:Shared} {a b:Addr} {xs ys:List V} {us ws:List Value} (r1:aE xs us) (r2:aE ys ws) (t1:s.heap.IsTuple a us.toArray) (t2:s.heap.IsTuple b ws.toArray) (hu:A.units<cLine) (fx:∀ v∈xs,dX v=true) (fy:∀ v∈ys,dX v=true):SeqAt.RcAt A s (.ref a) (.ref b) (decide (xs=ys)):=by
 have l1:=r1.length
 have l2:=r2.length
 have e:((List.range (min us.toArray.size ws.toArray.size)).all (λi=>decide (xs.getD i .non=ys.getD i .non)) && us.toArray.size == ws.toArray.size)=decide (xs=ys):=by
  simp only [List.size_toArray,← l1,← l2]
  by_cases hl:xs.length=ys.length
  ·rw [← hl,Nat.min_self,sI hl]
   simp
  ·have:(xs.length == ys.length)=false:=by simpa using hl
   rw [this,Bool.and_false]
   exact (decide_eq_false λe=>hl (by rw [e])).symm
 rw [← e]
 refine SeqAt.RcAt.tuples t1 t2 hu λj h1 h2=>?_
 have h1':j<xs.length:=by rw [l1]; simpa using h1
 have h2':j<ys.length:=by rw [l2]; simpa using h2
 obtain ⟨u',hu1,hu2⟩:=r1.get (List.getElem?_eq_getElem h1')
 obtain ⟨v',hv1,hv2⟩:=r2.get (List.getElem?_eq_getElem h2')
 have e1:us.toArray[j]=u':=by
  have:us[j]? = some us.toArray[j]:=by rw [List.getElem?_eq_getElem (by simpa using h1)]; simp
  rw [hu1] at this
  exact (Option.some.inj this).symm
 have e2:ws.toArray[j]=v':=by
  have:ws[j]? = some ws.toArray[j]:=by rw [List.getElem?_eq_getElem (by simpa using h2)]; simp
  rw [hv1] at this
  exact (Option.some.inj this).symm
 rw [e1,e2,List.getD_eq_getElem?_getD,List.getD_eq_getElem?_getD,List.getElem?_eq_getElem h1',List.getElem?_eq_getElem h2']
 have f1:=fx _ (List.getElem_mem h1')
 have f2:=fy _ (List.getElem_mem h2')
 show SeqAt.EqAt _ _ _ _ (decide (xs[j]=ys[j]))
 rw [← nA f1 f2]
 exact iA hu2 hv2 (de f1) (de f2)
section
variable {X:Cx}
theorem uM {ps qs:List (List V)} (hl:ps.length=qs.length):((List.range ps.length).all λi=>decide (ps.getD i []=qs.getD i []))=decide (ps=qs):=by
 rw [Bool.eq_iff_iff,List.all_eq_true,decide_eq_true_eq]
 constructor
 ·intro h
  apply List.ext_getElem?
  intro i
  by_cases hi:i<ps.length
  ·have:=h i (List.mem_range.mpr hi)
   rw [decide_eq_true_eq,List.getD_eq_getElem?_getD,List.getD_eq_getElem?_getD,List.getElem?_eq_getElem hi,List.getElem?_eq_getElem (by omega)] at this
   rw [List.getElem?_eq_getElem hi,List.getElem?_eq_getElem (by omega)]
   exact congrArg some this
  ·rw [List.getElem?_eq_none (by omega),List.getElem?_eq_none (by omega)]
 ·intro h i hi
  rw [h]
  simp
theorem uN (hu:X.A.units+1<cLine):OpR X (compareOp .Eq) (λx y H Q=>∃ a b,∃ ps qs:List (Addr×List V),x = .ref a∧y = .ref b∧H a=some (.tup (ps.map λp=>V.ref p.1))∧H b=some (.tup (qs.map λp=>V.ref p.1))∧(∀ p∈ps,H p.1=some (.tup p.2)∧∀ v∈p.2,dX v=true)∧(∀ p∈qs,H p.1=some (.tup p.2)∧∀ v∈p.2,dX v=true)∧Q (.bl (decide (ps.map (·.2)=qs.map (·.2)))) H):=by
 intro pins s σ H x y v u Q I rx ry h
 obtain ⟨a,b,ps,qs,rfl,rfl,ha,hb,fx,fy,q⟩:=h
 have hu0:X.A.units<cLine:=by omega
 cases rx
 cases ry
 obtain ⟨_,us,r1,t1⟩:=I.hok a _ ha
 obtain ⟨_,ws,r2,t2⟩:=I.hok b _ hb
 have l1:=r1.length
 have l2:=r2.length
 rw [List.length_map] at l1 l2
 refine SeqAt.eq_tupleAt (e:=λi=>decide ((ps.map (·.2)).getD i []=(qs.map (·.2)).getD i [])) t1 t2 hu0 (λj h1 h2=>?_) ⟨.bl _,H,I,rfl,?_⟩
 ·have h1':j<ps.length:=by rw [l1]; simpa using h1
  have h2':j<qs.length:=by rw [l2]; simpa using h2
  obtain ⟨u',hu1,hu2⟩:=r1.get (i:=j) (x:=V.ref ps[j].1) (by rw [List.getElem?_map,List.getElem?_eq_getElem h1']; rfl)
  obtain ⟨v',hv1,hv2⟩:=r2.get (i:=j) (x:=V.ref qs[j].1) (by rw [List.getElem?_map,List.getElem?_eq_getElem h2']; rfl)
  have e1:us.toArray[j]=u':=by
   have:us[j]? = some us.toArray[j]:=by rw [List.getElem?_eq_getElem (by simpa using h1)]; simp
   rw [hu1] at this
   exact (Option.some.inj this).symm
  have e2:ws.toArray[j]=v':=by
   have:ws[j]? = some ws.toArray[j]:=by rw [List.getElem?_eq_getElem (by simpa using h2)]; simp
   rw [hv1] at this
   exact (Option.some.inj this).symm
  cases (show u'=Value.ref ps[j].1 from hu2)
  cases (show v'=Value.ref qs[j].1 from hv2)
  rw [e1,e2,List.getD_eq_getElem?_getD,List.getD_eq_getElem?_getD,List.getElem?_map,List.getElem?_map,List.getElem?_eq_getElem h1',List.getElem?_eq_getElem h2']
  show SeqAt.EqAt _ _ _ _ (decide (ps[j].2=qs[j].2))
  obtain ⟨g1,f1⟩:=fx _ (List.getElem_mem h1')
  obtain ⟨g2,f2⟩:=fy _ (List.getElem_mem h2')
  by_cases e:ps[j].1=qs[j].1
  ·have e':ps[j].2=qs[j].2:=by
    rw [e,g2] at g1
    injection (Option.some.inj g1) with g1
    exact g1.symm
   rw [e',e,decide_eq_true rfl]
   exact SeqAt.EqAt.same _
  ·obtain ⟨_,us',r1',t1'⟩:=I.hok _ _ g1
   obtain ⟨_,ws',r2',t2'⟩:=I.hok _ _ g2
   exact SeqAt.EqAt.of_refs e (uL r1' r2' t1' t2' (by simpa using hu) f1 f2)
 ·have e:((List.range (min us.toArray.size ws.toArray.size)).all (λi=>decide ((ps.map (·.2)).getD i []=(qs.map (·.2)).getD i [])) && us.toArray.size == ws.toArray.size)=decide (ps.map (·.2)=qs.map (·.2)):=by
   simp only [List.size_toArray,← l1,← l2]
   by_cases hl:ps.length=qs.length
   ·rw [← hl,Nat.min_self]
    have hl':(ps.map (·.2)).length=(qs.map (·.2)).length:=by rw [List.length_map,List.length_map,hl]
    have:=uM hl'
    rw [List.length_map] at this
    rw [this]
    simp
   ·have:(ps.length == qs.length)=false:=by simpa using hl
    rw [this,Bool.and_false]
    exact (decide_eq_false λe=>hl (by have:=congrArg List.length e; rwa [List.length_map,List.length_map] at this)).symm
  rw [e]
  exact q
end
end L2
namespace TK
open PySem L2
section
variable {P:Program} {w:World} {K:PySem.W.Frag} {mg:Str→Option Value} {base:Heap}
noncomputable def je:Sp:=λvs H Q _=>∃ t f zs,vs=[.ref t,.int f]∧(H t=some (.lst (aN zs))∨H t=some (.tup (aN zs)))∧At H zs∧zs.length≤100∧∀ fd dn l H',TW.Walk (nds zs) f dn fd []→H' l=some (.lst (cR fd))→Same H H'→Q (.ref l) H'
theorem fm:FnScope ["nodes","folder","members","node","found","pending","here"] ["nodes","folder"] (ae qy):=⟨rfl,rfl,rfl,by decide +kernel,rfl,by decide +kernel,by decide +kernel⟩
theorem uO {f:Addr} {fd:FuncData} (F:Fun K "numbers_inside" "numbers_inside" qy f fd) (T:Txt mg):FnOk P w K mg base CX0 1 f fd ["nodes","folder"] je:=by
 refine F.ok fm (λvs H Q E h=>?_) (λcdv A outer s H vs Q E hr h=>?_)
 ·obtain ⟨t,f,zs,rfl,_⟩:=h
  rfl
 ·obtain ⟨t,f,zs,rfl,ht,hA,hl,k⟩:=h
  refine ⟨_,ai (ax (i:=2) fm.nd rfl (Or.inl rfl) rA)
   (ai (ip PassesOwn.never rfl (wH (pv 0)) (aK (i:=3) fm.nd rfl (Or.inl rfl)) (ak (ft (iB PySem.F.plainAttrs_list PySem.F.slot_list_append PySem.F.type_list_append cj
     (iB PySem.F.plainAttrs_dict PySem.F.slot_dict_setdefault PySem.F.type_dict_setdefault jp (pv 2) (aa (aH aC (pv 3) ah (λ_ _=>rfl)) (aa (bJ ag) ag))) (aa (pv 3) ag)))))
   (ai (ax (i:=4) fm.nd rfl (Or.inl rfl) (bJ ag))
   (ai (ax (i:=5) fm.nd rfl (Or.inl rfl) (bJ (aa (pv 1) ag)))
   (ai (im PassesOwn.never (rc (pv 5) (λ_=>rfl))
    (ai (ax (i:=6) fm.nd rfl (Or.inl rfl) (rC (pv 2) (vR PySem.F.plainAttrs_list PySem.F.slot_list_pop PySem.F.type_list_pop vS (pv 5)) (bJ ag) ⟨rfl,rfl,rfl,rfl⟩))
    (ak (ip PassesOwn.never rfl (dH (pv 6)) (aK (i:=3) fm.nd rfl (Or.inl rfl))
     (ai (ft (iB PySem.F.plainAttrs_list PySem.F.slot_list_append PySem.F.type_list_append cj (pv 4) (aa (aH aC (pv 3) ah (λ_ _=>rfl)) ag)))
     (ak (bw (am ir (aH aC (pv 3) ah (λ_ _=>rfl)) dm (ar _)) (ak (ft (iB PySem.F.plainAttrs_list PySem.F.slot_list_append PySem.F.type_list_append cj (pv 5) (aa (aH aC (pv 3) ah (λ_ _=>rfl)) ag)))) aJ)))))))
   (ak (aq (pv 4))))))),?_⟩
  refine λd hd=>?_
  have z100:∀ {n:Nat},n≤100→n<sizeLine:=λh=>aS (by omega)
  refine ⟨_,rfl,t,rfl,uK (xs:=aN zs) (λi σ H'=>∃ L kvs on,σ=[some (.ref t),some (.int f),some (.ref d),on,none,none,none]∧Mem H H' d L kvs (zs.take i) [])
   ⟨_,_,_,rfl,Mem.start hd⟩ ?_ (λi x σ H' hx h=>?_) (λσ H' h=>?_)⟩
  ·rcases ht with ht | ht
   ·refine .inl λi σ H' _ h=>?_
    obtain ⟨_,_,_,_,m⟩:=h
    exact SqL.of (m.same _ _ ht)
   ·refine .inr λi σ H' _ h=>?_
    obtain ⟨_,_,_,_,m⟩:=h
    exact SqT.of (m.same _ _ ht)
  ·obtain ⟨L,kvs,on,rfl,m⟩:=h
   obtain ⟨z,gz,rfl⟩:=cp hx
   have mz:=List.mem_of_getElem? gz
   have ez:zs.take (i+1)=zs.take i++[z]:=by rw [List.take_succ,gz]; rfl
   have hkl:kvs.length≤100:=by have:=m.len; rw [List.length_take] at this; omega
   refine ⟨_,rfl,.inr (.inr (.inl ⟨rfl,.inl ⟨_,m.dict⟩⟩)),_,rfl,z.1,_,_,_,rfl,rfl,SqT.of (m.same _ _ (hA z mz)),at1 z.2,Nat.zero_le _,λq hq=>?_⟩
   have m':=m.grow (af (o:=.lst []) hq)
   refine ⟨d,kvs,.inl z.2.par,.ref q,rfl,rfl,m'.dict,z100 hkl,λv hv=>?_,λhn=>?_⟩
   ·rw [m.val] at hv
    by_cases h:z.2.par∈([]:List Int)∨ins (zs.take i) z.2.par=[]
    ·rw [if_pos h] at hv; cases hv
    ·rw [if_neg h] at hv
     cases hv
     have h2:ins (zs.take i) z.2.par≠[]:=λz=>h (.inr z)
     have a:=(m'.at' z.2.par (by simp) h2).1
     refine ⟨.inl ⟨rfl,_,SqL.of a⟩,_,rfl,_,_,_,rfl,rfl,a,?_,?_⟩
     ·refine z100 ?_
      rw [bf]
      exact Nat.le_trans (List.Sublist.length_le (List.Sublist.trans List.filter_sublist (List.take_sublist _ _))) hl
     ·refine ⟨L,kvs,_,rfl,?_⟩
      rw [ez]
      exact m'.hit h2
   ·rw [m.val] at hn
    by_cases h:z.2.par∈([]:List Int)∨ins (zs.take i) z.2.par=[]
    ·have h2:ins (zs.take i) z.2.par=[]:=h.resolve_left (by simp)
     have hqd:q≠d:=λe=>by rw [e,m.dict] at hq; cases hq
     have a:upd (upd H' q (.lst [])) d (.dK (cu kvs (Sum.inl z.2.par:Key) (.ref q))) q=some (.lst []):=by rw [aj hqd]; exact ac
     refine ⟨.inl ⟨rfl,_,SqL.of a⟩,_,rfl,q,[],_,rfl,rfl,a,z100 (Nat.zero_le _),?_⟩
     have fr:=m.fresh (z:=z) h2 hq
     rw [← ez] at fr
     exact ⟨_,_,_,rfl,fr⟩
    ·rw [if_neg h] at hn; cases hn
  ·obtain ⟨L,kvs,on,rfl,m⟩:=h
   rw [bf,List.take_length] at m
   refine ⟨Nat.zero_le _,λpf hpf=>⟨_,rfl,aw (by simp),λpp hpp=>?_⟩⟩
   have m1:=(m.grow (af (o:=.lst []) hpf)).grow (af (o:=.lst [.int f]) hpp)
   have hpf0:H pf=none:=m.same.free hpf
   have hne:pp≠pf:=λe=>by rw [e,ac] at hpp; cases hpp
   have hpp0:H pp=none:=by rw [aj hne] at hpp; exact m.same.free hpp
   dsimp only [bc,qT]
   refine iq (λσ H'=>∃ L kvs dn fd pd on oh,σ=[some (.ref t),some (.int f),some (.ref d),on,some (.ref pf),some (.ref pp),oh]∧pd.length≤fd.length+1∧Mem H H' d L kvs zs dn∧TW.Walk (nds zs) f dn fd pd∧H' pf=some (.lst (cR fd))∧H' pp=some (.lst (pd.map V.int)))
    (λσ H'=>2 * (zs.length - jT H' pf)+jT H' pp) ⟨L,kvs,[],[],[f],_,_,rfl,Nat.le_refl _,m1,TW.Walk.start _ _,by rw [aj (Ne.symm hne),ac]; rfl,ac⟩ (λσ H' h=>?_) ?_
   ·obtain ⟨L,kvs,dn,fd,pd,on,oh,rfl,hpl,m,wk,ef,ep⟩:=h
    refine ⟨_,rfl,_,.inl ⟨_,SqL.of ep,rfl⟩,?_⟩
    by_cases hpd:pd=[]
    ·subst hpd
     exact aR ⟨_,rfl,k fd dn pf H' wk ef m.same⟩
    ·obtain ⟨pd',x,rfl⟩:∃ pd' x,pd=pd'++[x]:=⟨pd.dropLast,pd.getLast hpd,(List.dropLast_concat_getLast hpd).symm⟩
     have et:(!((pd'++[x]).map V.int).isEmpty)=true:=by simp
     rw [if_pos et]
     have elast:((pd'++[x]).map V.int)[((pd'++[x]).map V.int).length - 1]? = some (.int x):=by simp
     have edrop:((pd'++[x]).map V.int).dropLast=pd'.map V.int:=by simp
     refine ⟨_,rfl,d,rfl,.inl ⟨_,Rd.of m.dict⟩,_,rfl,.inl ⟨rfl,_,SqL.of ep⟩,pp,_,.int x,rfl,rfl,ep,elast,Nat.zero_le _,λq hq=>?_⟩
     rw [edrop] at hq ⊢
     have m2:=(m.other (o:=.lst (pd'.map V.int)) ep hpp0).grow (af (o:=.lst []) hq)
     have hqp:q≠pp:=λe=>by rw [e,ac] at hq; cases hq
     have hqf:q≠pf:=λe=>by rw [e,aj (Ne.symm hne),ef] at hq; cases hq
     refine sw m2 ac λhl Hc kvs' hs m3 ehl eh hsub hkeep hnil=>?_
     have df:pf≠d:=λe=>by have:=m.dict; rw [← e,ef] at this; cases this
     have dp:pp≠d:=λe=>by have:=m.dict; rw [← e,ep] at this; cases this
     have ef3:Hc pf=some (.lst (cR fd)):=by rw [hkeep pf df,aj (Ne.symm hqf),aj (Ne.symm hne)]; exact ef
     have ep3:Hc pp=some (.lst (pd'.map V.int)):=by rw [hkeep pp dp,aj (Ne.symm hqp),ac]
     have hlf:hl≠pf:=by
      by_cases h:hs=[]
      ·rw [hnil h]; exact hqf
      ·exact pq ef3 ehl h
     have hlp:hl≠pp:=by
      by_cases h:hs=[]
      ·rw [hnil h]; exact hqp
      ·exact pq ep3 ehl h
     have wk':=wk.turn
     rw [← eh] at wk'
     have hlen:=wk'.len
     rw [List.length_append,av,av] at hlen
     rw [List.length_append,List.length_singleton] at hpl
     refine ⟨_,rfl,hl,rfl,⟨_,SqL.of ehl⟩,lL (xs:=aN hs) (λj σ H'=>∃ on,σ=[some (.ref t),some (.int f),some (.ref d),on,some (.ref pf),some (.ref pp),some (.ref hl)]∧Mem H H' d L kvs' zs (x :: dn)∧H' hl=some (.lst (aN hs)) ∧
      H' pf=some (.lst (cR (fd++nds (hs.take j))))∧H' pp=some (.lst ((pd'++TW.aO (nds (hs.take j))).map V.int))) ⟨_,rfl,m3,ehl,by rw [ef3]; simp [nds],by rw [ep3]; simp [nds,TW.aO]⟩
      (λj σ H' _ h=>?_) (λj y σ H' hy h=>?_) (λσ H' h=>?_)⟩
     ·obtain ⟨_,_,_,e,_⟩:=h
      exact SqL.of e
     ·obtain ⟨on,rfl,m4,e1,e2,e3⟩:=h
      obtain ⟨z,gz,rfl⟩:=cp hy
      have mz:=hsub z (List.mem_of_getElem? gz)
      have ez:hs.take (j+1)=hs.take j++[z]:=by rw [List.take_succ,gz]; rfl
      have l1:(cR (fd++nds (hs.take j))).length≤100:=by
       unfold cR
       rw [List.length_map,List.length_map,List.length_append,av,List.length_take]; omega
      have l2:((pd'++TW.aO (nds (hs.take j))).map V.int).length≤1000:=by
       have:=TW.dl (nds (hs.take j))
       rw [av,List.length_take] at this
       rw [List.length_map,List.length_append]; omega
      have g0:∀ {Hx:Hp},Same H Hx→Hx z.1=some (.tup (vals z.2)):=λs=>s _ _ (hA z mz)
      have e4:cR (fd++nds (hs.take (j+1)))=cR (fd++nds (hs.take j))++[.int z.2.num]:=by rw [ez]; simp [cR,nds]
      have m5:Mem H (upd H' pf (.lst (cR (fd++nds (hs.take j))++[.int z.2.num]))) d L kvs' zs (x :: dn):=m4.other e2 hpf0
      have e5:(upd H' pf (.lst (cR (fd++nds (hs.take j))++[.int z.2.num]))) hl=some (.lst (aN hs)):=by rw [aj hlf]; exact e1
      have e6:(upd H' pf (.lst (cR (fd++nds (hs.take j))++[.int z.2.num]))) pp=some (.lst ((pd'++TW.aO (nds (hs.take j))).map V.int)):=by rw [aj hne]; exact e3
      refine ⟨_,rfl,.inl ⟨rfl,_,SqL.of e2⟩,_,rfl,z.1,_,_,_,rfl,rfl,SqT.of (g0 m4.same),at0 z.2,pf,_,_,rfl,rfl,e2,z100 l1,?_⟩
      refine ⟨_,rfl,z.1,_,_,_,rfl,rfl,SqT.of (g0 m5.same),at3 z.2,rfl,_,rfl,?_⟩
      cases est:z.2.st with
      | none =>
       have e7:TW.aO (nds (hs.take (j+1)))=TW.aO (nds (hs.take j))++[z.2.num]:=by rw [ez]; simp [TW.aO,nds,est]
       refine bx ⟨_,rfl,.inl ⟨rfl,_,SqL.of e6⟩,_,rfl,z.1,_,_,_,rfl,rfl,SqT.of (g0 m5.same),at0 z.2,pp,_,_,rfl,rfl,e6,aS l2,?_⟩
       refine ⟨_,rfl,m5.other e6 hpp0,by rw [aj hlp]; exact e5,by rw [aj (Ne.symm hne),ac,e4],?_⟩
       rw [ac,e7]
       simp
      | some i =>
       have e7:TW.aO (nds (hs.take (j+1)))=TW.aO (nds (hs.take j)):=by rw [ez]; simp [TW.aO,nds,est]
       refine aR ⟨_,rfl,m5,e5,by rw [ac,e4],?_⟩
       rw [e6,e7]
     ·obtain ⟨on,rfl,m4,e1,e2,e3⟩:=h
      rw [bf,List.take_length] at e2 e3
      refine ⟨⟨L,kvs',x :: dn,_,_,on,_,rfl,?_,m4,wk',e2,e3⟩,?_⟩
      ·have:=TW.dl (nds hs)
       rw [av] at this
       rw [List.length_append,List.length_append,av]; omega
      show 2 * (zs.length - jT H' pf)+jT H' pp<_
      rw [gl e2,gl e3,gl ef,gl ep]
      have:=TW.dl (nds hs)
      rw [av] at this
      simp only [cR,List.length_map,List.length_append,av,List.length_singleton]
      omega
   ·rintro σ H Q Q' mo ⟨v,e,k,tv,q⟩
    exact ⟨v,e,k,tv,mo _ _ q⟩
noncomputable def ly:Sp:=λvs H Q _=>∃ t zs,vs=[.ref t]∧Tre H t zs∧∀ d as H',Same H H'→H d=none→Book H' d as zs→H' d=some (.dK (aT as))→Q (.ref d) H'
theorem wI:FnScope ["tree"] ["tree"] (ae bh):=⟨rfl,rfl,rfl,by decide +kernel,rfl,by decide +kernel,by decide +kernel⟩
theorem uP {f:Addr} {fd:FuncData} (F:Fun K "parts_by_number" "parts_by_number" bh f fd) (T:Txt mg):FnOk P w K mg base CX0 1 f fd ["tree"] ly:=by
 refine F.ok wI (λvs H Q E h=>?_) (λcdv A outer s H vs Q E hr h=>?_)
 ·obtain ⟨t,zs,rfl,_⟩:=h
  rfl
 ·obtain ⟨t,zs,rfl,tr,k⟩:=h
  have hnd:=cx tr.tr
  have hl:=tr.len
  have ht:=tr.tup
  have hA:=tr.nod
  refine ⟨_,ak (aq (aZ (eG rfl) rfl T.dict PyProof.Rows.boot_dict (aa (eT (N:=["node"]) (k:=1) (js:=[]) (g:=bc 0) rfl (cN rfl (by decide +kernel) (by decide +kernel) (by decide +kernel)) rfl (λi j x h=>by simp at h)
   (cM (pv 0)) (λs H fp=>aK (i:=0) (show (["node"]:List Str).Nodup by decide +kernel) rfl (Or.inl rfl) (Or.inr rfl))
   (λs H fp=>cm (aa (aH (r:=dq K) aC (pv 0) ah (λ_ _=>rfl)) (aa (cn (r:=rh K) eC (pv 0) (ci ah) dI) ag)))) ag))),?_⟩
  refine ⟨_,rfl,t,rfl,⟨_,SqT.of ht⟩,λp hp=>?_⟩
  refine so (fr:=[]) zs.length (by omega) hp rfl (λi y H'=>∃ q t' z,zs[i]? = some z∧y = .ref q∧q≠p∧t'≠p∧H' q=some (.tup [.int z.2.num,.ref t'])∧H' t'=some (.tup (ay z.2))) (λi y H1 H2 h ex=>?_) (λi H' hi s1=>?_) (λH' s1=>?_) ?_ (λi H' x H2 hi s1 hpl hy=>?_) (λys H' s1 hp' hlen hys=>?_)
  ·obtain ⟨q,t',z,e1,e2,e3,e4,e5,e6⟩:=h
   exact ⟨q,t',z,e1,e2,e3,e4,ex q _ e3 e5,ex t' _ e4 e6⟩
  ·exact ⟨_,_,SqT.of (s1 _ _ ht),dC (List.getElem?_eq_getElem hi)⟩
  ·exact ⟨_,SqT.of (s1 _ _ ht),by rw [bf]; exact Nat.le_refl _⟩
  ·rintro _ _ _ _ m ⟨v1,b1,p1,xs,i1,v2,c1,c2,c3,c4,v3,b3,i3,d0,a3,xs3,d1,d2,d3,q⟩
   refine ⟨v1,b1,p1,xs,i1,v2,c1,c2,c3,c4,v3,b3,i3,d0,a3,xs3,d1,d2,d3,λl hl=>?_⟩
   obtain ⟨hz',q'⟩:=q l hl
   exact ⟨hz',λl' hl'=>m _ _ (q' l' hl')⟩
  ·obtain ⟨rfl,hx⟩:=hy
   obtain ⟨z,gz,rfl⟩:=cp (hx _ (SqT.of (s1 _ _ ht)))
   have mz:=List.mem_of_getElem? gz
   have hz1:=s1 _ _ (hA z mz)
   have ecut:cv (vals z.2) (some 1) none=ay z.2:=rfl
   refine ⟨rfl,_,rfl,z.1,_,_,_,rfl,rfl,SqT.of hz1,at0 z.2,_,rfl,_,rfl,z.1,_,rfl,SqT.of hz1,(by intro h; exact absurd h.1 (show ¬ HT.sIx 4 0 (some 1)=0 by decide)),λt' ht'=>?_⟩
   rw [ecut]
   have s2:=af (o:=.tup (ay z.2)) ht'
   have hpl2:∃ ys,upd H2 t' (.tup (ay z.2)) p=some (.lst ys):=let ⟨ys,e⟩:=hpl; ⟨ys,s2 _ _ e⟩
   refine ⟨le2,λq hq=>⟨s2.trans (af hq),q,t',z,gz,rfl,dN hpl2 hq,dN hpl ht',ac,bp hq ac⟩⟩
  ·obtain ⟨as,e1,e2,e3⟩:∃ as:List ((Addr×Addr)×(Addr×Nd)),as.map (·.2)=zs∧ys=(as.map (·.1.1)).map V.ref∧∀ a∈as,H' a.1.1=some (.tup [.int a.2.2.num,.ref a.1.2])∧H' a.1.2=some (.tup (ay a.2.2)):=by
    clear hp'
    have main:∀ (ys:List V) (xs:ZN),ys.length=xs.length→(∀ (i:Nat) y,ys[i]? = some y→∃ q t' z,xs[i]? = some z∧y = .ref q∧q≠p∧t'≠p∧H' q=some (.tup [.int z.2.num,.ref t'])∧H' t'=some (.tup (ay z.2))) →
      ∃ as:List ((Addr×Addr)×(Addr×Nd)),as.map (·.2)=xs∧ys=(as.map (·.1.1)).map V.ref∧∀ a∈as,H' a.1.1=some (.tup [.int a.2.2.num,.ref a.1.2])∧H' a.1.2=some (.tup (ay a.2.2)):=by
     intro ys
     induction ys with
     | nil =>
      intro xs hl _
      have:xs=[]:=List.length_eq_zero_iff.mp hl.symm
      subst this
      exact ⟨[],rfl,rfl,by simp⟩
     | cons y ys ih =>
      intro xs hl h
      cases xs with
      | nil=>simp at hl
      | cons x xs =>
       obtain ⟨as,e1,e2,e3⟩:=ih xs (by simpa using hl) λi y hy=>by simpa using h (i+1) y (by simpa using hy)
       obtain ⟨q,t',z,f1,f2,f3,f4,f5,f6⟩:=h 0 y rfl
       have:x=z:=by simpa using f1
       subst this
       refine ⟨((q,t'),x) :: as,by simp [e1],by simp [e2,f2],λa ha=>?_⟩
       rcases List.mem_cons.mp ha with rfl | ha
       ·exact ⟨f5,f6⟩
       ·exact e3 a ha
    exact main ys zs hlen hys
   have hal:as.length=zs.length:=by rw [← e1,List.length_map]
   refine ⟨p,as.map λa=>(a.1.1,(Sum.inl a.2.2.num:Key),V.ref a.1.2),rfl,?_,?_,?_,?_,λd hd=>?_⟩
   ·rw [hp',e2,List.map_map,List.map_map,List.map_map]; rfl
   ·intro z hz
    obtain ⟨a,ha,rfl⟩:=List.mem_map.mp hz
    exact (e3 a ha).1
   ·rw [List.length_map]; omega
   ·rw [List.map_map]
    have:(as.map ((λx:Addr×Key×V=>x.2.1) ∘ λa=>(a.1.1,(Sum.inl a.2.2.num:Key),V.ref a.1.2)))=((nds zs).map (·.num)).map (Sum.inl:Int→Key):=by
     rw [← e1]; unfold nds; simp only [List.map_map]; rfl
    rw [this]
    unfold List.Nodup at hnd ⊢
    rw [List.pairwise_map]
    exact hnd.imp λh e=>h (by injection e)
   ·have sd:=af (o:=.dK ((as.map λa=>(a.1.1,(Sum.inl a.2.2.num:Key),V.ref a.1.2)).map (·.2))) hd
    have ed:upd H' d (.dK ((as.map λa=>(a.1.1,(Sum.inl a.2.2.num:Key),V.ref a.1.2)).map (·.2))) d=some (.dK (aT (as.map λa=>(a.1.2,a.2)))):=by
     rw [ac]
     refine congrArg (λx=>some (HO.dK x)) ?_
     unfold aT
     simp only [List.map_map]; rfl
    refine k d (as.map λa=>(a.1.2,a.2)) _ (s1.trans sd) (s1.free hd) ⟨.inl ed,by rw [List.map_map]; exact e1,λa ha=>?_⟩ ed
    obtain ⟨b,hb,rfl⟩:=List.mem_map.mp ha
    exact sd _ _ (e3 b hb).2
noncomputable def unl (e:Addr×Row):Bool:=!decide (e.2.o=e.2.n)
noncomputable def pD:Sp:=λvs H Q _=>∃ l es,vs=[.ref l]∧H l=some (.lst (cJ es))∧(∀ e∈es,RowAt H e.1 e.2)∧es.length≤60∧∀ c H',Same H H'→ChgAt H' c (es.filter unl)→Q (.ref c) H'
theorem xM:FnScope ["entries"] ["entries"] (ae bu):=⟨rfl,rfl,rfl,by decide +kernel,rfl,by decide +kernel,by decide +kernel⟩
theorem wJ {f:Addr} {fd:FuncData} (F:Fun K "unlike_entries" "unlike_entries" bu f fd) (T:Txt mg):FnOk P w K mg base CX0 1 f fd ["entries"] pD:=by
 refine F.ok xM (λvs H Q E h=>?_) (λcdv A outer s H vs Q E hr h=>?_)
 ·obtain ⟨l,es,rfl,_⟩:=h
  rfl
 ·obtain ⟨l,es,rfl,hl,he,hn,k⟩:=h
  refine ⟨_,ak (aq (aZ bq rfl T.tuple rfl (aa (eE (N:=["entry"]) (cl:=[]) (k:=1) (js:=[]) (g:=bc 0) rfl (cN rfl (by decide +kernel) (by decide +kernel) (by decide +kernel)) rfl (λi j x h=>by simp at h)
   (dH (pv 0)) (λs H fp=>aK (i:=0) (show (["entry"]:List Str).Nodup by decide +kernel) rfl (Or.inl rfl) (Or.inr rfl))
   (λs H fp=>am (sJ (ca hr)) (aH (r:=dq K) aC (pv 0) ah (λ_ _=>rfl)) (aH (r:=dq K) aC (pv 0) ah (λ_ _=>rfl)) (ar _)) (λs H fp=>pv 0)) ag))),?_⟩
  refine ⟨_,rfl,l,rfl,⟨_,SqL.of hl⟩,λp hp=>?_⟩
  refine dO (fr:=[]) es (λe=>V.ref e.1) (by omega) hp (gh (SqL.of hl)) rfl unl (λe y _=>y = .ref e.1) (λe y H H' h _=>h) (λe H' k' me s1 _ hk=>?_) (λe H' k' me _ s1 _ hk=>⟨_,rfl,hk _ H' (Same.refl _) rfl⟩) (λys H' s1 hp' hys=>?_)
  ·obtain ⟨⟨vo,vn,h1,h2,h3⟩,ok⟩:=(he e me).same s1
   refine ⟨_,rfl,e.1,_,_,_,rfl,rfl,SqT.of h1,rfl,_,rfl,e.1,_,_,_,rfl,rfl,SqT.of h1,rfl,_,_,h2.ot,h3.ot,_,rfl,?_⟩
   have eb:(!decide (e.2.o.map ay=e.2.n.map ay))=unl e:=by
    unfold unl
    have:=ok.eq
    by_cases z:e.2.o=e.2.n
    ·rw [decide_eq_true (this.mpr z),decide_eq_true z]
    ·rw [decide_eq_false (λq=>z (this.mp q)),decide_eq_false z]
   rw [eb]
   exact hk H' (Same.refl _)
  ·have ey:=bM (f:=λe:Addr×Row=>V.ref e.1) hys (λe y _ h=>h)
   refine ⟨p,_,rfl,.inl ⟨SqL.of hp',λc hc=>?_⟩⟩
   have s2:=s1.trans (af (o:=.tup ys) hc)
   exact k c _ s2 ⟨by rw [ac,ey]; rfl,λe me=>(he e (List.mem_filter.mp me).1).same s2,Nat.le_trans (List.length_filter_le _ _) hn⟩
end
noncomputable def cbS (i:Nat):Stmt:=(ao aG).getD i (.Pass ⟨0,0,0,0⟩)
noncomputable def CN:List Str:=["one","other","before","after","numbers"]
theorem uQ:FnScope CN ["one","other"] (ae aG):=⟨rfl,rfl,rfl,by decide +kernel,rfl,by decide +kernel,by decide +kernel⟩
noncomputable abbrev CbX (P:Program) (w:World) (K:PySem.W.Frag) (mg:Str→Option Value) (base:Heap) (f:Addr) (cdv:Value) (A:Around) (outer:List Env) (s:Shared) (H:Hp) (E:XK):Cx:=(eR CX0 P w K mg base CN "change_between" (ae aG) f cdv A outer s H E).nox
section
variable {P:Program} {w:World} {K:PySem.W.Frag} {mg:Str→Option Value} {base:Heap} {f:Addr} {cdv:Value} {A:Around} {outer:List Env} {s:Shared} {H0:Hp} {E:XK}
theorem cb2 (T:Txt mg):∃ t,PS (CbX P w K mg base f cdv A outer s H0 E) (cbS 2) t∧∀ (D:Ends) (H:Hp) (x0 x1 x4:Option V) (d d2:Addr) (as bs:List (Addr×(Addr×Nd))) (zs us:ZN),Book H d as zs→Book H d2 bs us→zs.length≤30→us.length≤30 →
   (∀ (l:Addr) (ns:List Int) (H':Hp),Same H H'→H' l=some (.lst (ns.map V.int))→ns.Pairwise (· < ·)→ns.length≤60→(∀ k,k∈ns↔k∈(nds zs).map (·.num)∨k∈(nds us).map (·.num))→D.nx [x0,x1,some (.ref d),some (.ref d2),some (.ref l)] H')→t D [x0,x1,some (.ref d),some (.ref d2),x4] H:=by
 refine ⟨_,ax (i:=4) uQ.nd rfl (Or.inl rfl) (aF (jc rfl) rfl T.sorted PyProof.Rows.boot_sorted (aa (aB sK (aZ gT rfl T.set rfl (aa (pv 2) ag)) (aZ gT rfl T.set rfl (aa (pv 3) ag))) ag)),?_⟩
 intro D H x0 x1 x4 d d2 as bs zs us bk bk2 hl1 hl2 q
 refine ⟨_,rfl,d,_,(nds zs).map (·.num),rfl,bk.dict,fk bk.of,by rw [List.length_map,av]; omega,λm1 hn1 hm1 p1 hp1=>?_⟩
 have s1:=af (o:=dZ (CbX P w K mg base f cdv A outer s H0 E).w p1 m1) hp1
 have g1:upd H p1 (dZ (CbX P w K mg base f cdv A outer s H0 E).w p1 m1) p1=some (dZ (CbX P w K mg base f cdv A outer s H0 E).w p1 m1):=ac
 generalize upd H p1 (dZ (CbX P w K mg base f cdv A outer s H0 E).w p1 m1)=H1 at s1 g1 ⊢
 refine ⟨_,rfl,d2,_,(nds us).map (·.num),rfl,(bk2.same s1).dict,fk bk2.of,by rw [List.length_map,av]; omega,λm2 hn2 hm2 p2 hp2=>?_⟩
 have s2:=s1.trans (af (o:=dZ (CbX P w K mg base f cdv A outer s H0 E).w p2 m2) hp2)
 have g2:upd H1 p2 (dZ (CbX P w K mg base f cdv A outer s H0 E).w p2 m2) p2=some (dZ (CbX P w K mg base f cdv A outer s H0 E).w p2 m2):=ac
 have g1':upd H1 p2 (dZ (CbX P w K mg base f cdv A outer s H0 E).w p2 m2) p1=some (dZ (CbX P w K mg base f cdv A outer s H0 E).w p1 m1):=bp hp2 g1
 have hne:p1≠p2:=λe=>by rw [← e,g1] at hp2; cases hp2
 generalize upd H1 p2 (dZ (CbX P w K mg base f cdv A outer s H0 E).w p2 m2)=H2 at s2 g2 g1' ⊢
 have k1:m1.length≤30:=by
  have:=eM hn1 λx hx=>(hm1 x).mp hx
  rw [List.length_map,av] at this
  omega
 have k2:m2.length≤30:=by
  have:=eM hn2 λx hx=>(hm2 x).mp hx
  rw [List.length_map,av] at this
  omega
 refine ⟨p1,p2,m1,m2,rfl,rfl,hne,g1',g2,by omega,λm3 hn3 hm3 p3 hp3=>?_⟩
 have k3:m3.length≤60:=by
  have:=eM (m:=m1++m2) hn3 λx hx=>List.mem_append.mpr ((hm3 x).mp hx)
  rw [List.length_append] at this
  omega
 have s3:=s2.trans (af (o:=dZ (CbX P w K mg base f cdv A outer s H0 E).w p3 m3) hp3)
 refine ⟨p3,m3,rfl,ac,k3,λns hns hup l hl=>?_⟩
 have s4:=s3.trans (af (o:=.lst (ns.map V.int)) hl)
 refine q l ns _ s4 ac hup (by rw [hns.length_eq]; exact k3) λk=>?_
 rw [hns.mem_iff,hm3 k,hm1 k,hm2 k]
theorem cb3 (hr:Room 1 (A.deeper (PyProof.Rows.envOfC "change_between" (ae aG) s.heap.objs.size f cdv))) (CU:Has P w K mg base 1 "unlike_entries" ["entries"] pD) :
  ∃ t,PS (CbX P w K mg base f cdv A outer s H0 E) (cbS 3) t∧∀ (D:Ends) (H:Hp) (x0 x1:Option V) (d d2 l:Addr) (as bs:List (Addr×(Addr×Nd))) (zs us:ZN) (ns:List Int),Book H d as zs→Book H d2 bs us→TW.Tree1 (nds zs)→TW.Tree1 (nds us)→H l=some (.lst (ns.map V.int))→ns.Pairwise (· < ·)→ns.length≤60→(∀ k,k∈ns↔k∈(nds zs).map (·.num)∨k∈(nds us).map (·.num)) →
   (∀ c es H',Same H H'→ChgAt H' c es→TW.Chg (nds zs) (nds us) (cz es)→D.rt (.ref c) H')→t D [x0,x1,some (.ref d),some (.ref d2),some (.ref l)] H:=by
 obtain ⟨fU,fdU,GU,mU,kU,bU⟩:=CU
 refine ⟨_,aq (al GU hr rfl mU kU bU .nil au (aa (eT (N:=["number","after","before"]) (cl:=[("before",s.heap.objs.size+1),("after",s.heap.objs.size+2)]) (k:=1) (js:=[3,2]) (g:=bc 0) rfl
   (LcOk.mk' ["before","after"] rfl rfl (by decide +kernel) (by decide +kernel) ?hcl rfl (by decide +kernel)) rfl ?hj (dH (pv 4)) (λs H fp=>aK (i:=0) (show (["number","after","before"]:List Str).Nodup by decide +kernel) rfl (Or.inl rfl) (Or.inr rfl))
   (λs H fp=>cm (aa (pv 0) (aa (iE (ca hr) (pv 2) (pv 0) ⟨rfl,rfl,rfl,rfl⟩) (aa (iE (ca hr) (pv 1) (pv 0) ⟨rfl,rfl,rfl,rfl⟩) ag))))) ag)),?_⟩
 case hcl =>
  intro y hy
  rcases List.mem_cons.mp hy with e | hy
  ·rw [e]; rfl
  ·rcases List.mem_cons.mp hy with e | hy
   ·rw [e]; rfl
   ·cases hy
 case hj =>
  intro i j x h1 h2
  match i,h1,h2 with
  | 0,h1,h2 =>
   cases h1
   cases h2
   exact ⟨rfl,Or.inr (Or.inl rfl),(show ((ae aG).names.lookup ("after":Str)≠some NameKind.local) by decide +kernel),by first | exact Or.inl rfl | exact Or.inr rfl⟩
  | 1,h1,h2 =>
   cases h1
   cases h2
   exact ⟨rfl,Or.inr (Or.inl rfl),(show ((ae aG).names.lookup ("before":Str)≠some NameKind.local) by decide +kernel),by first | exact Or.inl rfl | exact Or.inr rfl⟩
  | i+2,h1,h2=>simp at h1
 intro D H x0 x1 d d2 l as bs zs us ns bk bk2 T1 T2 hl hup hn hm q
 refine ⟨_,rfl,l,rfl,⟨_,SqL.of hl⟩,λp hp=>?_⟩
 refine dP (fr:=[some (.ref d2),some (.ref d)]) ns V.int (by omega) hp (gh (SqL.of hl)) rfl (λk y H'=>∃ c vo vn,y = .ref c∧c≠p∧H' c=some (.tup [.int k,vo,vn])∧dh H' vo (TW.aA (nds zs) k)∧dh H' vn (TW.aA (nds us) k)∧vo ≠ .ref p∧vn ≠ .ref p) (λk y H H' h ex=>?_) (λk H' kk mk s1 hpl hk=>?_) (λys H' s1 hp' hys=>?_)
 ·obtain ⟨c,vo,vn,e,ne,h1,h2,h3,n1,n2⟩:=h
  have ov:∀ {v:V} {o:Option Nd},v ≠ .ref p→dh H v o→dh H' v o:=λhv h=>by
   rcases h with h | ⟨q,n,e,h,e2⟩
   ·exact .inl h
   ·exact .inr ⟨q,n,e,ex q _ (λz=>hv (by rw [e,z])) h,e2⟩
  exact ⟨c,vo,vn,e,ne,ex c _ ne h1,ov n1 h2,ov n2 h3,n1,n2⟩
 ·obtain ⟨r1,hr1,ho1⟩:=(bk.same s1).optV T1 k
  obtain ⟨r2,hr2,ho2⟩:=(bk2.same s1).optV T2 k
  have np:∀ {v:V} {o:Option Nd},dh H' v o→v ≠ .ref p:=λh e=>by
   rcases h with ⟨h,_⟩ | ⟨q,n,e2,h,_⟩
   ·rw [h] at e; cases e
   ·rw [e2] at e
    injection e with e
    obtain ⟨ys,hy⟩:=hpl
    rw [e,hy] at h
    cases h
  refine ⟨_,rfl,_,rfl,d,rfl,.inl ⟨_,(bk.same s1).dict⟩,_,rfl,r1,hr1,_,rfl,d2,rfl,.inl ⟨_,(bk2.same s1).dict⟩,_,rfl,r2,hr2,(show 3≤sizeLine from aw (by decide)),λc hc=>?_⟩
  have s2:=af (o:=.tup [.int k,r1.getD .non,r2.getD .non]) hc
  exact hk _ _ s2 ⟨c,_,_,rfl,dN hpl hc,ac,ho1.same s2,ho2.same s2,np ho1,np ho2⟩
 ·obtain ⟨cs,e1,e2,e3⟩:=cY (val:=V.ref) (S:=λ(k:Int) (c:Addr)=>RowAt H' c (TW.gs (nds zs) (nds us) k)) hys (λk y _ ⟨c,vo,vn,e,_,h1,h2,h3,_⟩=>⟨c,e,⟨vo,vn,h1,h2,h3⟩,sM k⟩)
  have hcl:cs.length=ns.length:=by rw [← e1,List.length_map]
  have er:cz (cs.map λx=>(x.2,TW.gs (nds zs) (nds us) x.1))=ns.map (TW.gs (nds zs) (nds us)):=by
   unfold cz
   rw [List.map_map,← e1,List.map_map]; rfl
  refine ⟨p,cs.map λx=>(x.2,TW.gs (nds zs) (nds us) x.1),rfl,by rw [hp',e2]; unfold cJ; rw [List.map_map]; rfl,λe he=>?_,by rw [List.length_map]; omega,λc H2 s2 hc=>?_⟩
  ·obtain ⟨x,hx,rfl⟩:=List.mem_map.mp he
   exact e3 x hx
  ·refine q c _ H2 (s1.trans s2) hc ?_
   have:cz ((cs.map λx=>(x.2,TW.gs (nds zs) (nds us) x.1)).filter unl)=_:=nB er
   rw [this]
   refine TW.wG hup λk hk=>.inl ((hm k).mpr ?_)
   rcases hk with h | h
   ·exact .inl (ki h)
   ·exact .inr (ki h)
end
section
variable {P:Program} {w:World} {K:PySem.W.Frag} {mg:Str→Option Value} {base:Heap}
noncomputable def nC:Sp:=λvs H Q _=>∃ t u zs us,vs=[.ref t,.ref u]∧Tre H t zs∧Tre H u us∧∀ c es H',Same H H'→ChgAt H' c es→TW.Chg (nds zs) (nds us) (cz es)→Q (.ref c) H'
theorem wK {f:Addr} {fd:FuncData} (F:Fun K "change_between" "change_between" aG f fd) (T:Txt mg) (CP:Has P w K mg base 1 "parts_by_number" ["tree"] ly) (CU:Has P w K mg base 1 "unlike_entries" ["entries"] pD):FnOk P w K mg base CX0 2 f fd ["one","other"] nC:=by
 obtain ⟨fP,fdP,GP,mP,kP,bP⟩:=CP
 refine F.ok uQ (λvs H Q E h=>?_) (λcdv A outer s H vs Q E hr h=>?_)
 ·obtain ⟨t,u,zs,us,rfl,_⟩:=h
  rfl
 ·obtain ⟨t,u,zs,us,rfl,tr,tr2,q⟩:=h
  have hr1:Room 1 _:=hr.mono (by decide)
  obtain ⟨t2,p2,h2⟩:=cb2 (P:=P) (w:=w) (K:=K) (base:=base) (f:=f) (cdv:=cdv) (A:=A) (outer:=outer) (s:=s) (H0:=H) (E:=E) T
  obtain ⟨t3,p3,h3⟩:=cb3 (P:=P) (w:=w) (base:=base) (f:=f) (cdv:=cdv) (A:=A) (outer:=outer) (s:=s) (H0:=H) (E:=E) hr1 CU
  refine ⟨_,ai (ax (i:=2) uQ.nd rfl (Or.inr rfl) (al GP hr1 rfl mP kP bP .nil au (aa (pv 0) ag)))
   (ai (ax (i:=3) uQ.nd rfl (Or.inr rfl) (al GP hr1 rfl mP kP bP .nil au (aa (pv 1) ag))) (ai p2 (ak p3))),?_⟩
  refine ⟨_,rfl,t,zs,rfl,tr,λd as H1 s1 _ bk _=>?_⟩
  refine ⟨_,rfl,u,us,rfl,tr2.same s1,λd2 bs H2 s2 _ bk2 _=>?_⟩
  refine h2 _ H2 _ _ _ d d2 as bs zs us (bk.same s2) bk2 tr.len tr2.len λl ns H3 s3 hl hup hn hm=>?_
  exact h3 _ H3 _ _ d d2 l as bs zs us ns ((bk.same s2).same s3) (bk2.same s3) tr.tr tr2.tr hl hup hn hm λc es H4 s4 hc hch=>q c es H4 (((s1.trans s2).trans s3).trans s4) hc hch
end
end TK
namespace TW
section
variable {S:Type}
noncomputable def kept (q:S→Bool) (t:List (Nd S)):List (Nd S):=t.filter λn=>!q n.nm
theorem aP {q:S→Bool} {t:List (Nd S)} {n:Nd S}:n∈kept q t↔n∈t∧q n.nm=false:=by
 unfold kept
 rw [List.mem_filter,Bool.not_eq_true']
open Classical in
noncomputable def bd (q:S→Bool) (t:List (Nd S)):List (Nd S):=(kept q t).filter λn=>decide (Reach (kept q t) 0 n)
open Classical in
theorem bj {q:S→Bool} {t:List (Nd S)} {n:Nd S}:n∈bd q t↔Reach (kept q t) 0 n:=by
 unfold bd
 rw [List.mem_filter,decide_eq_true_eq]
 exact ⟨λh=>h.2,λh=>⟨h.mem,h⟩⟩
theorem dF (q:S→Bool) (t:List (Nd S)):(bd q t).Sublist t:=List.Sublist.trans List.filter_sublist List.filter_sublist
theorem cr {q:S→Bool} {t:List (Nd S)} (h:br t):br (bd q t):=h.sublist (dF q t)
theorem jf {t u:List (Nd S)} (ht:br t) (hu:br u) (h:∀ n,n∈t↔n∈u):t=u:=by
 refine gP ht hu λk=>?_
 cases e:aA t k with
 | some m =>
  obtain ⟨h1,h2⟩:=bi e
  have:=dE hu ((h m).mp h1)
  rw [h2] at this
  exact this.symm
 | none =>
  refine (cF λm hm e2=>?_).symm
  have:=dE ht ((h m).mpr hm)
  rw [e2,e] at this
  cases this
theorem jg {q:S→Bool} {t:List (Nd S)} (T:Tree1 t):Tree1 (bd q t):=by
 refine ⟨⟨cr T.rise,?_,λn hn=>?_⟩,λn hn=>T.pos n ((dF q t).subset hn)⟩
 ·unfold cD
  exact T.own.sublist ((dF q t).map _)
 ·have h:=bj.mp hn
  clear hn
  induction h with
  | base hm hp=>exact .base (bj.mpr (.base hm hp)) hp
  | step hr hf hm hp ih=>exact .step ih hf (bj.mpr (.step hr hf hm hp)) hp
theorem qF {q:S→Bool} {t:List (Nd S)} (T:Tree1 t) {n:Nd S} (hn:n∈t) {p:List S} (hp:PathTo t n.num p):p.filter q=[]↔Reach (kept q t) 0 n:=by
 have h:=T.down n hn
 rw [List.filter_eq_nil_iff]
 induction h generalizing p with
 | @base n hm h0 =>
  obtain ⟨r,e,hr⟩:=hp.inv T hm rfl
  have:=hr.zero T h0
  subst this
  subst e
  constructor
  ·intro h
   exact .base (aP.mpr ⟨hm,by simpa using h n.nm (by simp)⟩) h0
  ·intro h x hx
   have:=(aP.mp h.mem).2
   have e:x=n.nm:=by simpa using hx
   rw [e,this]
   simp
 | @step m n hr hf hm h0 ih =>
  obtain ⟨r,e,hr'⟩:=hp.inv T hm rfl
  subst e
  rw [h0] at hr'
  constructor
  ·intro h
   have:=(ih hr.mem hr').mp λx hx=>h x (by simp [hx])
   exact .step this hf (aP.mpr ⟨hm,by simpa using h n.nm (by simp)⟩) h0
  ·intro h x hx
   have hk:=(aP.mp h.mem).2
   cases h with
   | base _ h1 =>
    have:=T.pos m hr.mem
    omega
   | @step m' _ h1 h2 h3 h4 =>
    have e:m'=m:=T.inj (aP.mp h1.mem).1 hr.mem (h4.symm.trans h0)
    subst e
    rcases List.mem_append.mp hx with hx | hx
    ·exact (ih hr.mem hr').mpr h1 x hx
    ·have e:x=n.nm:=by simpa using hx
     rw [e,hk]
     simp
theorem qG {q r:S→Bool} {t:List (Nd S)} (T:Tree1 t):bd r (bd q t)=bd (λx=>q x || r x) t:=by
 refine jf (cr (cr T.rise)) (cr T.rise) λn=>?_
 rw [bj,bj]
 constructor
 ·intro h
  refine h.mono λx hx=>?_
  obtain ⟨h1,h2⟩:=aP.mp hx
  obtain ⟨h3,h4⟩:=aP.mp (bj.mp h1).mem
  exact aP.mpr ⟨h3,by rw [h4,h2]; rfl⟩
 ·intro h
  have sub:∀ x∈kept (λx=>q x || r x) t,x∈kept q t:=λx hx=>by
   obtain ⟨h1,h2⟩:=aP.mp hx
   exact aP.mpr ⟨h1,(Bool.or_eq_false_iff.mp h2).1⟩
  have rr:∀ x∈kept (λx=>q x || r x) t,r x.nm=false:=λx hx=>(Bool.or_eq_false_iff.mp (aP.mp hx).2).2
  induction h with
  | base hm hp=>exact .base (aP.mpr ⟨bj.mpr ((Reach.base hm hp).mono sub),rr _ hm⟩) hp
  | step h1 h2 h3 h4 ih=>exact .step ih h2 (aP.mpr ⟨bj.mpr ((Reach.step h1 h2 h3 h4).mono sub),rr _ h3⟩) h4
theorem qH {q:S→Bool} (hq:∀ x,q x=false) {t:List (Nd S)} (T:Tree1 t):bd q t=t:=by
 refine jf (cr T.rise) T.rise λn=>?_
 rw [bj]
 constructor
 ·intro h; exact (aP.mp h.mem).1
 ·intro h; exact (T.down n h).mono λx hx=>aP.mpr ⟨hx,hq _⟩
theorem nD {q r:S→Bool} (h:∀ x,q x=r x) (t:List (Nd S)):bd q t=bd r t:=by rw [funext h]
theorem nE {t u:List (Nd S)} {rs:List (Row S)} (h:Chg t u rs) (ht:br t) (hu:br u):rs=[]↔t=u:=by
 constructor
 ·intro e
  subst e
  refine gP ht hu λk=>?_
  by_cases z:aA t k=aA u k
  ·exact z
  ·have:=(h.mem ⟨k,aA t k,aA u k⟩).mpr ⟨rfl,rfl,z⟩
   cases this
 ·intro e
  subst e
  exact h.nil
theorem nZ {q:S→Bool} {t:List (Nd S)} (T:Tree1 t) {n:Int} (hn:1≤n) {m:Nd S} (h:Reach (kept q t) 0 m) (hu:Und t n m.num):∃ y,Reach (kept q t) 0 y∧y.num=n:=by
 induction h with
 | @base m hm hp =>
  by_cases e:m.num=n
  ·exact ⟨m,.base hm hp,e⟩
  ·have:=hu.inv T (aP.mp hm).1 rfl e
   have:=this.zero T hp
   omega
 | @step y m h1 h2 h3 h4 ih =>
  by_cases e:m.num=n
  ·exact ⟨m,.step h1 h2 h3 h4,e⟩
  ·have:=hu.inv T (aP.mp h3).1 rfl e
   rw [h4] at this
   exact ih this
theorem og {q:S→Bool} {t u:List (Nd S)} (T:Tree1 t) (U:Tree1 u) {n:Int} (hn:1≤n) (h1:∀ m∈u,m.num≠n→m∈t) (h2:∀ m∈t,m.num≠n→m∈u∨Und t n m.num) (n1:∀ m∈bd q t,m.num≠n) (n2:∀ m∈bd q u,m.num≠n):bd q t=bd q u:=by
 refine jf (cr T.rise) (cr U.rise) λm=>?_
 rw [bj,bj]
 constructor
 ·intro h
  have inU:∀ {m:Nd S},Reach (kept q t) 0 m→m∈kept q u:=λ{m} h=>by
   have hne:=n1 m (bj.mpr h)
   obtain ⟨a1,a2⟩:=aP.mp h.mem
   rcases h2 m a1 hne with hu | hu
   ·exact aP.mpr ⟨hu,a2⟩
   ·obtain ⟨y,hy,e⟩:=nZ T hn h hu
    exact absurd e (n1 y (bj.mpr hy))
  induction h with
  | base hm hp=>exact .base (inU (.base hm hp)) hp
  | step a1 a2 a3 a4 ih=>exact .step ih a2 (inU (.step a1 a2 a3 a4)) a4
 ·intro h
  have inT:∀ {m:Nd S},Reach (kept q u) 0 m→m∈kept q t:=λ{m} h=>by
   obtain ⟨a1,a2⟩:=aP.mp h.mem
   exact aP.mpr ⟨h1 m a1 (n2 m (bj.mpr h)),a2⟩
  induction h with
  | base hm hp=>exact .base (inT (.base hm hp)) hp
  | step a1 a2 a3 a4 ih=>exact .step ih a2 (inT (.step a1 a2 a3 a4)) a4
theorem Told.quiet {q:S→Bool} {t u:List (Nd S)} (T:Tree1 t) (U:Tree1 u) {d:Deed S} (h:Told t d (.inr u)) (hk:1≤d.key) (n1:∀ m∈bd q t,m.num≠d.key) (n2:∀ m∈bd q u,m.num≠d.key):bd q t=bd q u:=by
 refine og T U hk (λm hm hne=>?_) (λm hm hne=>?_) n1 n2
 ·have e:=dE U.rise hm
  rcases h.others T U hne with h | ⟨_,_,_,h⟩
  ·rw [h] at e
   exact (bi e).1
  ·exact absurd rfl (h m hm)
 ·have e:=dE T.rise hm
  rcases h.others T U hne with h | ⟨_,h,_,_⟩
  ·rw [← h] at e
   exact .inl (bi e).1
  ·exact .inr h
end
end TW
namespace TK
open PySem L2
noncomputable def qIn (ns:List Str) (x:Str):Bool:=decide (x∈ns)
theorem pE (ns:List Str) (x:Str):inV (.str x) (ns.map V.str)=qIn ns x:=by
 unfold inV qIn
 rw [List.any_map]
 apply Bool.eq_iff_iff.mpr
 rw [List.any_eq_true,decide_eq_true_eq]
 constructor
 ·rintro ⟨y,hy,h⟩
  have h':y=x:=by simpa [eqV] using h
  exact h' ▸ hy
 ·intro h
  exact ⟨x,h,by simp [eqV]⟩
theorem kl (ns:List Str):(ns.map V.str).all cP=true:=by
 rw [List.all_eq_true]
 intro x hx
 obtain ⟨y,_,rfl⟩:=List.mem_map.mp hx
 rfl
theorem fo (f:Nd→Bool) (zs:ZN):nds (zs.filter λz=>f z.2)=(nds zs).filter f:=by
 unfold nds
 rw [List.filter_map]; rfl
noncomputable def seS (i:Nat):Stmt:=(ao cO).getD i (.Pass ⟨0,0,0,0⟩)
noncomputable def SEN:List Str:=["tree","names","named_otherwise","met"]
theorem wL:FnScope SEN ["tree","names"] (ae cO):=⟨rfl,rfl,rfl,by decide +kernel,rfl,by decide +kernel,by decide +kernel⟩
noncomputable abbrev SeX (P:Program) (w:World) (K:PySem.W.Frag) (mg:Str→Option Value) (base:Heap) (f:Addr) (cdv:Value) (A:Around) (outer:List Env) (s:Shared) (H:Hp) (E:XK):Cx:=(eR CX0 P w K mg base SEN "seen" (ae cO) f cdv A outer s H E).nox
section
variable {P:Program} {w:World} {K:PySem.W.Frag} {mg:Str→Option Value} {base:Heap} {f:Addr} {cdv:Value} {A:Around} {outer:List Env} {s:Shared} {H0:Hp} {E:XK}
theorem se0:∃ rd,PS (SeX P w K mg base f cdv A outer s H0 E) (seS 0) rd∧∀ (D:Ends) (H:Hp) (t pn:Addr) (zs:ZN) (ns:List Str),Tre H t zs→H pn=some (.lst (ns.map V.str)) →
   (∀ (l:Addr) (H':Hp),Same H H'→H' l=some (.lst (aN (zs.filter λz=>!qIn ns z.2.nm)))→D.nx [some (.ref t),some (.ref pn),some (.ref l),none] H')→rd D [some (.ref t),some (.ref pn),none,none] H:=by
 refine ⟨_,qm (ii:=2) (N:=["node","names"]) (cl:=[("names",s.heap.objs.size+1)]) (k:=1) (js:=[1]) (g:=bc 0) wL.nd rfl (Or.inl rfl) rfl
   (LcOk.mk' ["names"] rfl rfl (by decide +kernel) (by decide +kernel) ?hcl rfl (by decide +kernel)) rfl ?hj
   (cM (pv 0)) (λs H fp=>aK (i:=0) (show (["node","names"]:List Str).Nodup by decide +kernel) rfl (Or.inl rfl) (Or.inr rfl))
   (λs H fp=>am (r:=rIn K true) ky (aH (r:=dq K) aC (pv 0) ah (λ_ _=>rfl)) (pv 1) rfl) (λs H fp=>pv 0),?_⟩
 case hcl =>
  intro y hy
  rcases List.mem_cons.mp hy with e | hy
  ·rw [e]; rfl
  ·cases hy
 case hj =>
  intro i j x h1 h2
  match i,h1,h2 with
  | 0,h1,h2 =>
   cases h1
   cases h2
   exact ⟨rfl,Or.inr (Or.inl rfl),(show ((ae cO).names.lookup ("names":Str)≠some NameKind.local) by decide +kernel),by first | exact Or.inl rfl | exact Or.inr rfl⟩
  | i+1,h1,h2=>simp at h1
 intro D H t pn zs ns tr hn q
 have hl:=tr.len
 refine ⟨_,rfl,t,rfl,⟨_,SqT.of tr.tup⟩,λp hp=>?_⟩
 refine dO (fr:=[some (.ref pn)]) zs (λz=>V.ref z.1) (by omega) hp (dk (by rw [aY]; exact SqT.of tr.tup)) rfl (λz=>!qIn ns z.2.nm) (λz y _=>y = .ref z.1) (λz y H H' h _=>h) (λz H' k mz s1 _ hk=>?_) (λz H' k mz _ s1 _ hk=>?_) (λys H' s1 hp' hys=>?_)
 ·refine ⟨_,rfl,z.1,_,2,_,rfl,rfl,SqT.of (s1 _ _ (tr.nod z mz)),at2 z.2,_,rfl,pn,_,rfl,.inl (SqL.of (s1 _ _ hn)),rfl,kl ns,_,rfl,?_⟩
  rw [pE]
  exact hk H' (Same.refl _)
 ·exact ⟨_,rfl,hk _ H' (Same.refl _) rfl⟩
 ·have ey:=bM (f:=λz:Addr×Nd=>V.ref z.1) hys (λz y _ h=>h)
  exact q p H' s1 (by rw [hp',ey,aY])
theorem qI (fd:List Nd) (hnd:(fd.map (·.num)).Nodup) (k:Int):(bg ((fd.map (·.num)).map λm=>((Sum.inl m:Key),V.bl true)) (Sum.inl k:Key)).isSome=decide (k∈fd.map (·.num)):=by
 by_cases hk:k∈fd.map (·.num)
 ·have:bg ((fd.map (·.num)).map λm=>((Sum.inl m:Key),V.bl true)) (Sum.inl k:Key)=some (.bl true):=by
   refine iW ?_ (List.mem_map.mpr ⟨k,hk,rfl⟩)
   rw [List.map_map]
   unfold List.Nodup at hnd ⊢
   rw [List.pairwise_map]
   exact hnd.imp λh e=>h (by injection e)
  rw [this]; simp [hk]
 ·have:bg ((fd.map (·.num)).map λm=>((Sum.inl m:Key),V.bl true)) (Sum.inl k:Key)=none:=by
   refine px λhx=>hk ?_
   rw [List.map_map] at hx
   obtain ⟨m,hm',e⟩:=List.mem_map.mp hx
   injection e with e
   rw [← e]; exact hm'
  rw [this]; simp [hk]
theorem se1 (T:Txt mg) (hr:Room 1 (A.deeper (PyProof.Rows.envOfC "seen" (ae cO) s.heap.objs.size f cdv))) (CI:Has P w K mg base 1 "numbers_inside" ["nodes","folder"] je) :
  ∃ rd,PS (SeX P w K mg base f cdv A outer s H0 E) (seS 1) rd∧∀ (D:Ends) (H:Hp) (t pn l:Addr) (ks:ZN),H l=some (.lst (aN ks))→At H ks→ks.length≤60→TW.br (nds ks) →
   (∀ (d:Addr) (fd:List Nd) (H':Hp),Same H H'→(fd.map (·.num)).Nodup→(∀ n,n∈fd↔TW.Reach (nds ks) 0 n)→H' d=some (.dK ((fd.map (·.num)).map λm=>((Sum.inl m:Key),V.bl true)))→D.nx [some (.ref t),some (.ref pn),some (.ref l),some (.ref d)] H')→rd D [some (.ref t),some (.ref pn),some (.ref l),none] H:=by
 obtain ⟨fI,fdI,GI,mI,kI,bI⟩:=CI
 obtain ⟨tt,hT⟩:=T.top
 refine ⟨_,ax (i:=3) wL.nd rfl (Or.inr rfl) (aZ (eG rfl) rfl T.dict PyProof.Rows.boot_dict (aa (eT (N:=["number"]) (cl:=[]) (k:=1) (js:=[]) (g:=bc 0) rfl (cN rfl (by decide +kernel) (by decide +kernel) (by decide +kernel)) rfl (λi j x h=>by simp at h)
   (dH (al GI hr rfl mI kI bI .nil au (aa (pv 2) (aa (fq (v:=.int 0) rfl hT ⟨_,rfl⟩) ag)))) (λs H fp=>aK (i:=0) (show (["number"]:List Str).Nodup by decide +kernel) rfl (Or.inl rfl) (Or.inr rfl))
   (λs H fp=>cm (aa (pv 0) (aa dw ag)))) ag)),?_⟩
 intro D H t pn l ks hl hA hlen hri q
 refine ⟨_,rfl,l,0,ks,rfl,.inl hl,hA,by omega,λfd dn l2 H1 wk hl2 s1=>?_⟩
 have hsub:fd.length≤60:=by have:=wk.len; rw [av] at this; omega
 have hnd:(fd.map (·.num)).Nodup:=by
  refine ((wk.perm.map (·.num)).nodup_iff).mpr ?_
  have:((nds ks).map (·.num)).Nodup:=by
   unfold List.Nodup
   rw [List.pairwise_map]
   exact hri.imp λh e=>by omega
  exact this.sublist (List.filter_sublist.map _)
 refine ⟨l2,rfl,⟨_,SqL.of hl2⟩,λp hp=>?_⟩
 refine dP (fr:=[]) (fd.map λn:Nd=>n.num) V.int (by rw [List.length_map]; omega) hp (gh (SqL.of hl2)) rfl (λm y H'=>∃ q,y = .ref q∧q≠p∧H' q=some (.tup [.int m,.bl true])) (λm y H H' ⟨q,e,ne,h⟩ ex=>⟨q,e,ne,ex q _ ne h⟩) (λm H' k _ s3 hpl hk=>?_) (λys H3 s3 hp3 hys=>?_)
 ·exact ⟨_,rfl,le2,λq hq=>hk _ _ (af hq) ⟨q,rfl,dN hpl hq,ac⟩⟩
 ·obtain ⟨bs,e1,e2,e3⟩:=cY (val:=V.ref) (S:=λ(m:Int) (q:Addr)=>H3 q=some (.tup [.int m,.bl true])) hys (λm y _ ⟨q,e,_,h⟩=>⟨q,e,h⟩)
  have hbl:bs.length=fd.length:=by have:=congrArg List.length e1; rw [List.length_map,List.length_map] at this; exact this
  refine ⟨p,bs.map λx=>(x.2,(Sum.inl x.1:Key),V.bl true),rfl,by rw [hp3,e2,List.map_map,List.map_map]; rfl,λy hy=>?_,by rw [List.length_map]; omega,?_,λg hg=>?_⟩
  ·obtain ⟨x,hx,rfl⟩:=List.mem_map.mp hy
   exact e3 x hx
  ·rw [List.map_map]
   have:(bs.map ((λx:Addr×Key×V=>x.2.1) ∘ λx=>(x.2,(Sum.inl x.1:Key),V.bl true)))=(fd.map (·.num)).map (Sum.inl:Int→Key):=by rw [← e1,List.map_map]; rfl
   rw [this]
   unfold List.Nodup at hnd ⊢
   rw [List.pairwise_map]
   exact hnd.imp λh e=>h (by injection e)
  ·have ekv:(bs.map λx=>(x.2,(Sum.inl x.1:Key),V.bl true)).map (·.2)=(fd.map (·.num)).map λm=>((Sum.inl m:Key),V.bl true):=by rw [← e1,List.map_map,List.map_map]; rfl
   rw [ekv]
   exact q g fd _ ((s1.trans s3).trans (af hg)) hnd wk.mem ac
theorem se2 (T:Txt mg) (hr:Room 1 (A.deeper (PyProof.Rows.envOfC "seen" (ae cO) s.heap.objs.size f cdv))) :
  ∃ rd,PS (SeX P w K mg base f cdv A outer s H0 E) (seS 2) rd∧∀ (D:Ends) (H:Hp) (t pn l d:Addr) (ks:ZN) (fd:List Nd),H l=some (.lst (aN ks))→At H ks→ks.length≤60→(fd.map (·.num)).Nodup→H d=some (.dK ((fd.map (·.num)).map λm=>((Sum.inl m:Key),V.bl true))) →
   (∀ (t':Addr) (H':Hp),Same H H'→H' t'=some (.tup (aN (ks.filter λz=>decide (z.2.num∈fd.map (·.num)))))→D.rt (.ref t') H')→rd D [some (.ref t),some (.ref pn),some (.ref l),some (.ref d)] H:=by
 refine ⟨_,aq (aZ bq rfl T.tuple rfl (aa (eE (N:=["node","met"]) (cl:=[("met",s.heap.objs.size+2)]) (k:=1) (js:=[3]) (g:=bc 0) rfl
   (LcOk.mk' ["met"] rfl rfl (by decide +kernel) (by decide +kernel) ?hcl rfl (by decide +kernel)) rfl ?hj
   (dH (pv 2)) (λs H fp=>aK (i:=0) (show (["node","met"]:List Str).Nodup by decide +kernel) rfl (Or.inl rfl) (Or.inr rfl))
   (λs H fp=>ko (rp (ca hr) (aH (r:=dq K) aC (pv 0) ah (λ_ _=>rfl)) (pv 1))) (λs H fp=>pv 0)) ag)),?_⟩
 case hcl =>
  intro y hy
  rcases List.mem_cons.mp hy with e | hy
  ·rw [e]; rfl
  ·cases hy
 case hj =>
  intro i j x h1 h2
  match i,h1,h2 with
  | 0,h1,h2 =>
   cases h1
   cases h2
   exact ⟨rfl,Or.inr (Or.inl rfl),(show ((ae cO).names.lookup ("met":Str)≠some NameKind.local) by decide +kernel),by first | exact Or.inl rfl | exact Or.inr rfl⟩
  | i+1,h1,h2=>simp at h1
 intro D H t pn l d ks fd hl hA hlen hnd hd q
 refine ⟨_,rfl,l,rfl,⟨_,SqL.of hl⟩,λp hp=>?_⟩
 refine dO (fr:=[some (.ref d)]) ks (λz=>V.ref z.1) (by omega) hp (gh (by rw [aY]; exact SqL.of hl)) rfl (λz=>decide (z.2.num∈fd.map (·.num))) (λz y _=>y = .ref z.1) (λz y H H' h _=>h) (λz H' k mz s6 _ hk=>?_) (λz H' k mz _ s6 _ hk=>?_) (λys H6 s6 hp6 hys=>?_)
 ·refine ⟨_,rfl,z.1,_,_,_,rfl,rfl,SqT.of (s6 _ _ (hA z mz)),at0 z.2,_,rfl,d,_,rfl,dt.k (k:=Sum.inl z.2.num) (s6 _ _ hd),_,rfl,?_⟩
  rw [qI fd hnd]
  exact hk H' (Same.refl _)
 ·exact ⟨_,rfl,hk _ H' (Same.refl _) rfl⟩
 ·have ey:=bM (f:=λz:Addr×Nd=>V.ref z.1) hys (λz y _ h=>h)
  refine ⟨p,_,rfl,.inl ⟨SqL.of hp6,λl6 hl6=>?_⟩⟩
  exact q l6 _ (s6.trans (af hl6)) (by rw [ac,ey,aY])
end
section
variable {P:Program} {w:World} {K:PySem.W.Frag} {mg:Str→Option Value} {base:Heap}
noncomputable def dg:Sp:=λvs H Q _=>∃ t pn zs ns,vs=[.ref t,.ref pn]∧Tre H t zs∧H pn=some (.lst (ns.map V.str))∧∀ t' us H',Same H H'→Tre H' t' us→nds us=TW.bd (qIn ns) (nds zs)→Q (.ref t') H'
open Classical in
theorem uR {f:Addr} {fd:FuncData} (F:Fun K "seen" "seen" cO f fd) (T:Txt mg) (CI:Has P w K mg base 1 "numbers_inside" ["nodes","folder"] je):FnOk P w K mg base CX0 2 f fd ["tree","names"] dg:=by
 refine F.ok wL (λvs H Q E h=>?_) (λcdv A outer s H vs Q E hr h=>?_)
 ·obtain ⟨t,pn,zs,ns,rfl,_⟩:=h
  rfl
 ·obtain ⟨t,pn,zs,ns,rfl,tr,hn,q⟩:=h
  obtain ⟨t0,p0,h0⟩:=se0 (P:=P) (w:=w) (K:=K) (mg:=mg) (base:=base) (f:=f) (cdv:=cdv) (A:=A) (outer:=outer) (s:=s) (H0:=H) (E:=E)
  obtain ⟨t1,p1,h1⟩:=se1 (outer:=outer) (H0:=H) (E:=E) T hr CI
  obtain ⟨t2,p2,h2⟩:=se2 (P:=P) (w:=w) (K:=K) (base:=base) (outer:=outer) (H0:=H) (E:=E) T hr
  refine ⟨_,ai p0 (ai p1 (ak p2)),?_⟩
  have hl:=tr.len
  have hA:∀ {H':Hp},Same H H'→At H' (zs.filter λz=>!qIn ns z.2.nm):=λs1 z hz=>s1 _ _ (tr.nod z (List.mem_filter.mp hz).1)
  have hks:nds (zs.filter λz=>!qIn ns z.2.nm)=TW.kept (qIn ns) (nds zs):=fo (λn=>!qIn ns n.nm) zs
  have hkl:(zs.filter λz=>!qIn ns z.2.nm).length≤60:=Nat.le_trans (List.length_filter_le _ _) (by omega)
  have hri:TW.br (nds (zs.filter λz=>!qIn ns z.2.nm)):=by rw [hks]; exact tr.tr.rise.sublist List.filter_sublist
  refine h0 _ H t pn zs ns tr hn λl H1 s1 hl1=>?_
  refine h1 _ H1 t pn l _ hl1 (hA s1) hkl hri λd fd H2 s2 hnd hm hd=>?_
  refine h2 _ H2 t pn l d _ fd (s2 _ _ hl1) (hA (s1.trans s2)) hkl hnd hd λt' H3 s3 ht'=>?_
  have s13:=(s1.trans s2).trans s3
  have en:nds ((zs.filter λz=>!qIn ns z.2.nm).filter λz=>decide (z.2.num∈fd.map (·.num)))=TW.bd (qIn ns) (nds zs):=by
   rw [fo (λn=>decide (n.num∈fd.map (·.num))),hks]
   unfold TW.bd
   apply List.filter_congr
   intro n hn'
   apply Bool.eq_iff_iff.mpr
   rw [decide_eq_true_eq,decide_eq_true_eq]
   rw [hks] at hm hri
   constructor
   ·intro h
    obtain ⟨m,hm1,hm2⟩:=List.mem_map.mp h
    have hr':=(hm m).mp hm1
    rw [← TW.iS hri hr'.mem hn' hm2]
    exact hr'
   ·intro h
    exact List.mem_map.mpr ⟨n,(hm n).mpr h,rfl⟩
  refine q t' _ H3 s13 ⟨ht',λz hz=>hA s13 z (List.mem_filter.mp hz).1,by rw [en]; exact TW.jg tr.tr,?_⟩ en
  exact Nat.le_trans (List.length_filter_le _ _) (Nat.le_trans (List.length_filter_le _ _) hl)
noncomputable def sP:Sp:=λvs H Q _=>∃ t u pn zs us ns,vs=[.ref t,.ref u,.ref pn]∧Tre H t zs∧Tre H u us∧H pn=some (.lst (ns.map V.str))∧∀ c es H',Same H H'→ChgAt H' c es→TW.Chg (TW.bd (qIn ns) (nds zs)) (TW.bd (qIn ns) (nds us)) (cz es)→Q (.ref c) H'
theorem xO:FnScope ["one","other","names"] ["one","other","names"] (ae cc):=⟨rfl,rfl,rfl,by decide +kernel,rfl,by decide +kernel,by decide +kernel⟩
theorem wM {f:Addr} {fd:FuncData} (F:Fun K "change_seen" "change_seen" cc f fd) (CS:Has P w K mg base 2 "seen" ["tree","names"] dg) (CC:Has P w K mg base 2 "change_between" ["one","other"] nC):FnOk P w K mg base CX0 3 f fd ["one","other","names"] sP:=by
 obtain ⟨fS,fdS,GS,mS,kS,bS⟩:=CS
 obtain ⟨fC,fdC,GC,mC,kC,bC⟩:=CC
 refine F.ok xO (λvs H Q E h=>?_) (λcdv A outer s H vs Q E hr h=>?_)
 ·obtain ⟨t,u,pn,zs,us,ns,rfl,_⟩:=h
  rfl
 ·obtain ⟨t,u,pn,zs,us,ns,rfl,tr,ur,hn,q⟩:=h
  refine ⟨_,ak (aq (al GC hr rfl mC kC bC .nil au (aa (al GS hr rfl mS kS bS .nil au (aa (pv 0) (aa (pv 2) ag))) (aa (al GS hr rfl mS kS bS .nil au (aa (pv 1) (aa (pv 2) ag))) ag)))),?_⟩
  refine ⟨_,rfl,_,rfl,t,pn,zs,ns,rfl,tr,hn,λt' zs' H1 s1 tr' e1=>?_⟩
  refine ⟨_,rfl,_,rfl,u,pn,us,ns,rfl,ur.same s1,s1 _ _ hn,λu' us' H2 s2 ur' e2=>?_⟩
  refine ⟨t',u',zs',us',rfl,tr'.same s2,ur',λc es H3 s3 hc hch=>?_⟩
  rw [e1,e2] at hch
  exact q c es H3 ((s1.trans s2).trans s3) hc hch
noncomputable def nF:Sp:=λvs H Q _=>∃ t u pn zs us ns,vs=[.ref t,.ref u,.ref pn]∧Tre H t zs∧Tre H u us∧H pn=some (.lst (ns.map V.str))∧∀ b H',Same H H'→(b=true↔TW.bd (qIn ns) (nds zs)=TW.bd (qIn ns) (nds us))→Q (.bl b) H'
theorem xP:FnScope ["one","other","names"] ["one","other","names"] (ae cE):=⟨rfl,rfl,rfl,by decide +kernel,rfl,by decide +kernel,by decide +kernel⟩
noncomputable def lz:Sp:=λvs H Q _=>∃ t zs,vs=[.ref t]∧Tre H t zs∧∀ d as H',Same H H'→H d=none→Book H' d as zs→H' d=some (.dK (aT as))→Q (.ref d) H'
theorem wN:FnScope ["_law_tree_here"] ["_law_tree_here"] (ae kc):=⟨rfl,rfl,rfl,by decide +kernel,rfl,by decide +kernel,by decide +kernel⟩
theorem uS {f:Addr} {fd:FuncData} (F:Fun K "_law_book" "_law_book" kc f fd) (T:Txt mg):FnOk P w K mg base CX0 1 f fd ["_law_tree_here"] lz:=by
 refine F.ok wN (λvs H Q E h=>?_) (λcdv A outer s H vs Q E hr h=>?_)
 ·obtain ⟨t,zs,rfl,_⟩:=h
  rfl
 ·obtain ⟨t,zs,rfl,tr,k⟩:=h
  have hnd:=cx tr.tr
  have hl:=tr.len
  have ht:=tr.tup
  have hA:=tr.nod
  refine ⟨_,ak (aq (aZ (eG rfl) rfl T.dict PyProof.Rows.boot_dict (aa (eT (N:=["_law_node"]) (k:=1) (js:=[]) (g:=bc 0) rfl (cN rfl (by decide +kernel) (by decide +kernel) (by decide +kernel)) rfl (λi j x h=>by simp at h)
   (cM (pv 0)) (λs H fp=>aK (i:=0) (show (["_law_node"]:List Str).Nodup by decide +kernel) rfl (Or.inl rfl) (Or.inr rfl))
   (λs H fp=>cm (aa (aH (r:=dq K) aC (pv 0) ah (λ_ _=>rfl)) (aa (cn (r:=rh K) eC (pv 0) (ci ah) dI) ag)))) ag))),?_⟩
  refine ⟨_,rfl,t,rfl,⟨_,SqT.of ht⟩,λp hp=>?_⟩
  refine so (fr:=[]) zs.length (by omega) hp rfl (λi y H'=>∃ q t' z,zs[i]? = some z∧y = .ref q∧q≠p∧t'≠p∧H' q=some (.tup [.int z.2.num,.ref t'])∧H' t'=some (.tup (ay z.2))) (λi y H1 H2 h ex=>?_) (λi H' hi s1=>?_) (λH' s1=>?_) ?_ (λi H' x H2 hi s1 hpl hy=>?_) (λys H' s1 hp' hlen hys=>?_)
  ·obtain ⟨q,t',z,e1,e2,e3,e4,e5,e6⟩:=h
   exact ⟨q,t',z,e1,e2,e3,e4,ex q _ e3 e5,ex t' _ e4 e6⟩
  ·exact ⟨_,_,SqT.of (s1 _ _ ht),dC (List.getElem?_eq_getElem hi)⟩
  ·exact ⟨_,SqT.of (s1 _ _ ht),by rw [bf]; exact Nat.le_refl _⟩
  ·rintro _ _ _ _ m ⟨v1,b1,p1,xs,i1,v2,c1,c2,c3,c4,v3,b3,i3,d0,a3,xs3,d1,d2,d3,q⟩
   refine ⟨v1,b1,p1,xs,i1,v2,c1,c2,c3,c4,v3,b3,i3,d0,a3,xs3,d1,d2,d3,λl hl=>?_⟩
   obtain ⟨hz',q'⟩:=q l hl
   exact ⟨hz',λl' hl'=>m _ _ (q' l' hl')⟩
  ·obtain ⟨rfl,hx⟩:=hy
   obtain ⟨z,gz,rfl⟩:=cp (hx _ (SqT.of (s1 _ _ ht)))
   have mz:=List.mem_of_getElem? gz
   have hz1:=s1 _ _ (hA z mz)
   have ecut:cv (vals z.2) (some 1) none=ay z.2:=rfl
   refine ⟨rfl,_,rfl,z.1,_,_,_,rfl,rfl,SqT.of hz1,at0 z.2,_,rfl,_,rfl,z.1,_,rfl,SqT.of hz1,(by intro h; exact absurd h.1 (show ¬ HT.sIx 4 0 (some 1)=0 by decide)),λt' ht'=>?_⟩
   rw [ecut]
   have s2:=af (o:=.tup (ay z.2)) ht'
   have hpl2:∃ ys,upd H2 t' (.tup (ay z.2)) p=some (.lst ys):=let ⟨ys,e⟩:=hpl; ⟨ys,s2 _ _ e⟩
   refine ⟨le2,λq hq=>⟨s2.trans (af hq),q,t',z,gz,rfl,dN hpl2 hq,dN hpl ht',ac,bp hq ac⟩⟩
  ·obtain ⟨as,e1,e2,e3⟩:∃ as:List ((Addr×Addr)×(Addr×Nd)),as.map (·.2)=zs∧ys=(as.map (·.1.1)).map V.ref∧∀ a∈as,H' a.1.1=some (.tup [.int a.2.2.num,.ref a.1.2])∧H' a.1.2=some (.tup (ay a.2.2)):=by
    clear hp'
    have main:∀ (ys:List V) (xs:ZN),ys.length=xs.length→(∀ (i:Nat) y,ys[i]? = some y→∃ q t' z,xs[i]? = some z∧y = .ref q∧q≠p∧t'≠p∧H' q=some (.tup [.int z.2.num,.ref t'])∧H' t'=some (.tup (ay z.2))) →
      ∃ as:List ((Addr×Addr)×(Addr×Nd)),as.map (·.2)=xs∧ys=(as.map (·.1.1)).map V.ref∧∀ a∈as,H' a.1.1=some (.tup [.int a.2.2.num,.ref a.1.2])∧H' a.1.2=some (.tup (ay a.2.2)):=by
     intro ys
     induction ys with
     | nil =>
      intro xs hl _
      have:xs=[]:=List.length_eq_zero_iff.mp hl.symm
      subst this
      exact ⟨[],rfl,rfl,by simp⟩
     | cons y ys ih =>
      intro xs hl h
      cases xs with
      | nil=>simp at hl
      | cons x xs =>
       obtain ⟨as,e1,e2,e3⟩:=ih xs (by simpa using hl) λi y hy=>by simpa using h (i+1) y (by simpa using hy)
       obtain ⟨q,t',z,f1,f2,f3,f4,f5,f6⟩:=h 0 y rfl
       have:x=z:=by simpa using f1
       subst this
       refine ⟨((q,t'),x) :: as,by simp [e1],by simp [e2,f2],λa ha=>?_⟩
       rcases List.mem_cons.mp ha with rfl | ha
       ·exact ⟨f5,f6⟩
       ·exact e3 a ha
    exact main ys zs hlen hys
   have hal:as.length=zs.length:=by rw [← e1,List.length_map]
   refine ⟨p,as.map λa=>(a.1.1,(Sum.inl a.2.2.num:Key),V.ref a.1.2),rfl,?_,?_,?_,?_,λd hd=>?_⟩
   ·rw [hp',e2,List.map_map,List.map_map,List.map_map]; rfl
   ·intro z hz
    obtain ⟨a,ha,rfl⟩:=List.mem_map.mp hz
    exact (e3 a ha).1
   ·rw [List.length_map]; omega
   ·rw [List.map_map]
    have:(as.map ((λx:Addr×Key×V=>x.2.1) ∘ λa=>(a.1.1,(Sum.inl a.2.2.num:Key),V.ref a.1.2)))=((nds zs).map (·.num)).map (Sum.inl:Int→Key):=by
     rw [← e1]; unfold nds; simp only [List.map_map]; rfl
    rw [this]
    unfold List.Nodup at hnd ⊢
    rw [List.pairwise_map]
    exact hnd.imp λh e=>h (by injection e)
   ·have sd:=af (o:=.dK ((as.map λa=>(a.1.1,(Sum.inl a.2.2.num:Key),V.ref a.1.2)).map (·.2))) hd
    have ed:upd H' d (.dK ((as.map λa=>(a.1.1,(Sum.inl a.2.2.num:Key),V.ref a.1.2)).map (·.2))) d=some (.dK (aT (as.map λa=>(a.1.2,a.2)))):=by
     rw [ac]
     refine congrArg (λx=>some (HO.dK x)) ?_
     unfold aT
     simp only [List.map_map]; rfl
    refine k d (as.map λa=>(a.1.2,a.2)) _ (s1.trans sd) (s1.free hd) ⟨.inl ed,by rw [List.map_map]; exact e1,λa ha=>?_⟩ ed
    obtain ⟨b,hb,rfl⟩:=List.mem_map.mp ha
    exact sd _ _ (e3 b hb).2
noncomputable def jh:Sp:=λvs H Q _=>∃ d k g as zs p,vs=[.ref d,.int k,.int g]∧Book H d as zs∧TW.Tree1 (nds zs)∧TW.PathTo (nds zs) k p∧1≤g∧∀ b,(b=true↔TW.Und (nds zs) g k)→Q (.bl b) H
theorem vw:FnScope ["_law_book_here","_law_number","_law_goal"] ["_law_book_here","_law_number","_law_goal"] (ae gM):=⟨rfl,rfl,rfl,by decide +kernel,rfl,by decide +kernel,by decide +kernel⟩
theorem wO {f:Addr} {fd:FuncData} (F:Fun K "_law_under" "_law_under" gM f fd):FnOk P w K mg base CX0 1 f fd ["_law_book_here","_law_number","_law_goal"] jh:=by
 refine F.ok vw (λvs H Q E h=>?_) (λcdv A outer s H vs Q E hr h=>?_)
 ·obtain ⟨d,k,g,as,zs,p,rfl,_⟩:=h
  rfl
 ·obtain ⟨d,k,g,as,zs,p,rfl,bk,hTr,hp,hg,q⟩:=h
  have hnd:=cx hTr
  refine ⟨_,ai (im PassesOwn.never (PW.pt (pw_and (am eB (pv 1) ah (ar _)) (pw_and1 (am eB (pv 1) (pv 2) (ar _)))))
    (ak (ax (i:=1) vw.nd rfl (Or.inl rfl) (aH aC (cw (ca hr) (pv 0) (pv 1) (λ_ _=>rfl)) ah (λ_ _=>rfl)))))
   (ak (aq (cG fu (pv 1) (pv 2) (ar _)))),?_⟩
  refine iq (λσ H'=>∃ at' q',σ=[some (.ref d),some (.int at'),some (.int g)]∧TW.PathTo (nds zs) at' q'∧(TW.Und (nds zs) g k↔TW.Und (nds zs) g at')∧H'=H)
   (λσ H'=>match σ with | [_,some (.int k),_]=>na (nds zs) k | _=>0) ⟨k,p,rfl,hp,Iff.rfl,rfl⟩ (λσ H' h=>?_) ?_
  ·obtain ⟨at',q',rfl,hq',hu,rfl⟩:=h
   have last:∀ b:Bool,(b=true↔TW.Und (nds zs) g at')→Q (.bl b) H':=λb hb=>q b (hb.trans hu.symm)
   refine ⟨_,rfl,rfl,_,rfl,?_⟩
   by_cases h0:at'=0
   ·have hne:decide (V.int at'=V.int 0)=true:=by simp [h0]
    rw [hne]
    refine aR (aR ⟨_,rfl,_,rfl,rfl,last _ ?_⟩)
    rw [decide_eq_true_eq]
    constructor
    ·intro e; injection e with e; omega
    ·intro hx; have:=hx.zero hTr h0; omega
   ·have hne:decide (V.int at'=V.int 0)=false:=by simp [h0]
    rw [hne]
    refine bx ⟨_,rfl,_,rfl,rfl,_,rfl,?_⟩
    by_cases hg':at'=g
    ·have hne:decide (V.int at'=V.int g)=true:=by simp [hg']
     rw [hne]
     refine aR ⟨_,rfl,_,rfl,rfl,last _ ?_⟩
     rw [hne]
     constructor
     ·intro _; rw [hg']; exact .here
     ·intro _; rfl
    ·have hne:decide (V.int at'=V.int g)=false:=by simp [hg']
     rw [hne]
     refine bx ?_
     obtain ⟨z,hz,e1,q'',e2,hq''⟩:=pz hTr hq' h0
     subst e1
     obtain ⟨b,hb1,hb2⟩:=bk.get hnd hz
     refine ⟨_,rfl,_,rfl,d,_,rfl,hb1,b,_,_,_,rfl,rfl,SqT.of hb2,yt z.2,?_⟩
     have mz:z.2∈nds zs:=List.mem_map.mpr ⟨z,hz,rfl⟩
     refine ⟨⟨z.2.par,q'',rfl,hq'',hu.trans ⟨λh=>h.inv hTr mz rfl hg',λh=>.up mz h⟩,rfl⟩,?_⟩
     show na (nds zs) z.2.par<na (nds zs) z.2.num
     rw [ia hTr hq'',ia hTr hq',e2]
     simp
  ·rintro σ H1 Q1 Q2 m ⟨v,e,h2,b,e3,q⟩
   refine ⟨v,e,h2,b,e3,?_⟩
   cases b with
   | false=>exact m _ _ q
   | true =>
    obtain ⟨v1,f1,v2,f2,h3,b',e4,q'⟩:=q
    exact ⟨v1,f1,v2,f2,h3,b',e4,m _ _ q'⟩
end
theorem qJ (n:Nd):∀ v∈vals n,dX v=true:=λv hv=>by
 rcases List.mem_cons.mp hv with e | hv
 ·rw [e]; rfl
 ·exact fj n v hv
theorem sQ {a b:Nd} (h:vals a=vals b):a=b:=by
 have h1:V.int a.num=V.int b.num∧ay a=ay b:=by
  have h':V.int a.num :: ay a=V.int b.num :: ay b:=h
  exact ⟨(List.cons.inj h').1,(List.cons.inj h').2⟩
 have h2:a.num=b.num:=by
  have:=h1.1
  injection this
 exact kg h1.2 h2
noncomputable def zvs (zs:ZN):List (Addr×List V):=zs.map λz=>(z.1,vals z.2)
theorem nG (zs:ZN):((zvs zs).map λp=>V.ref p.1)=aN zs:=by unfold zvs; rw [List.map_map,← aY]; rfl
theorem sR {H:Hp} {zs:ZN} (h:At H zs):∀ p∈zvs zs,H p.1=some (.tup p.2)∧∀ v∈p.2,dX v=true:=λp hp=>by
 obtain ⟨z,hz,rfl⟩:=List.mem_map.mp hp
 exact ⟨h z hz,qJ z.2⟩
theorem wP (zs us:ZN):((zvs zs).map (·.2)=(zvs us).map (·.2))↔nds zs=nds us:=by
 have e:∀ xs:ZN,(zvs xs).map (·.2)=(nds xs).map vals:=λxs=>by unfold zvs nds; rw [List.map_map,List.map_map]; rfl
 rw [e,e]
 constructor
 ·intro h
  have inj:∀ (a b:List Nd),a.map vals=b.map vals→a=b:=by
   intro a
   induction a with
   | nil=>intro b h; cases b with
    | nil=>rfl
    | cons y b=>cases h
   | cons x a ih=>intro b h; cases b with
    | nil=>cases h
    | cons y b =>
     rw [List.map_cons,List.map_cons] at h
     obtain ⟨h1,h2⟩:=List.cons.inj h
     rw [sQ h1,ih b h2]
  exact inj _ _ h
 ·intro h; rw [h]
section
variable {P:Program} {w:World} {K:PySem.W.Frag} {mg:Str→Option Value} {base:Heap}
theorem wQ {f:Addr} {fd:FuncData} (F:Fun K "is_quiet" "is_quiet" cE f fd) (CS:Has P w K mg base 2 "seen" ["tree","names"] dg):FnOk P w K mg base CX0 3 f fd ["one","other","names"] nF:=by
 obtain ⟨fS,fdS,GS,mS,kS,bS⟩:=CS
 refine F.ok xP (λvs H Q E h=>?_) (λcdv A outer s H vs Q E hr h=>?_)
 ·obtain ⟨t,u,pn,zs,us,ns,rfl,_⟩:=h
  rfl
 ·obtain ⟨t,u,pn,zs,us,ns,rfl,tr,ur,hn,q⟩:=h
  refine ⟨_,ak (aq (cG (uN (ca hr)) (al GS hr rfl mS kS bS .nil au (aa (pv 0) (aa (pv 2) ag))) (al GS hr rfl mS kS bS .nil au (aa (pv 1) (aa (pv 2) ag))) (ar _))),?_⟩
  refine ⟨_,rfl,_,rfl,t,pn,zs,ns,rfl,tr,hn,λt' zs' H1 s1 tr' e1=>?_⟩
  refine ⟨_,rfl,_,rfl,u,pn,us,ns,rfl,ur.same s1,s1 _ _ hn,λu' us' H2 s2 ur' e2=>?_⟩
  have tr2:=tr'.same s2
  refine ⟨t',u',zvs zs',zvs us',rfl,rfl,by rw [nG]; exact tr2.tup,by rw [nG]; exact ur'.tup,sR tr2.nod,sR ur'.nod,q _ H2 (s1.trans s2) ?_⟩
  rw [decide_eq_true_eq,wP,e1,e2]
theorem xQ (n:Nd):atI (ay n) 0=some (.int n.par):=rfl
theorem xR (n:Nd):atI (ay n) 1=some (.str n.nm):=rfl
noncomputable def sS:Sp:=λvs H Q _=>∃ d k as zs p,vs=[.ref d,.int k]∧Book H d as zs∧TW.Tree1 (nds zs)∧zs.length≤30∧TW.PathTo (nds zs) k p∧∀ t H',Same H H'→H' t=some (.tup (p.map V.str))→Q (.ref t) H'
theorem uT:FnScope ["_law_book_here","_law_number","_law_names"] ["_law_book_here","_law_number"] (ae gL):=⟨rfl,rfl,rfl,by decide +kernel,rfl,by decide +kernel,by decide +kernel⟩
theorem xS {f:Addr} {fd:FuncData} (F:Fun K "_law_path" "_law_path" gL f fd) (T:Txt mg):FnOk P w K mg base CX0 1 f fd ["_law_book_here","_law_number"] sS:=by
 refine F.ok uT (λvs H Q E h=>?_) (λcdv A outer s H vs Q E hr h=>?_)
 ·obtain ⟨d,k,as,zs,p,rfl,_⟩:=h
  rfl
 ·obtain ⟨d,k,as,zs,p,rfl,bk,hTr,hl,hp,q⟩:=h
  have hnd:=cx hTr
  refine ⟨_,ai (ax (i:=2) uT.nd rfl (Or.inl rfl) (bJ ag))
   (ai (im PassesOwn.never (am eB (pv 1) ah (ar _))
    (ai (ax (i:=2) uT.nd rfl (Or.inl rfl) (aB eZ (bJ (aa (aH aC (cw (ca hr) (pv 0) (pv 1) (λ_ _=>rfl)) ah (λ_ _=>rfl)) ag)) (pv 2)))
    (ak (ax (i:=1) uT.nd rfl (Or.inl rfl) (aH aC (cw (ca hr) (pv 0) (pv 1) (λ_ _=>rfl)) ah (λ_ _=>rfl))))))
   (ak (aq (aZ bq rfl T.tuple rfl (aa (pv 2) ag))))),?_⟩
  refine ⟨Nat.zero_le _,λpn hpn=>?_⟩
  dsimp only [bc,qT]
  refine iq (λσ H'=>∃ at' q' r pn,σ=[some (.ref d),some (.int at'),some (.ref pn)]∧TW.PathTo (nds zs) at' q'∧p=q'++r∧H' pn=some (.lst (r.map V.str))∧Same H H')
   (λσ H'=>match σ with | [_,some (.int k),_]=>na (nds zs) k | _=>0) ⟨k,p,[],pn,rfl,hp,by simp,ac,af hpn⟩ (λσ H' h=>?_) ?_
  ·obtain ⟨at',q',r,pn,rfl,hq',ep,en,s1⟩:=h
   refine ⟨_,rfl,rfl,_,rfl,?_⟩
   by_cases h0:at'=0
   ·subst h0
    have e0:q'=[]:=hq'.zero hTr rfl
    subst e0
    refine aR ⟨_,rfl,pn,_,rfl,.inl ⟨SqL.of en,λt ht=>q t _ (s1.trans (af ht)) ?_⟩⟩
    rw [ac,ep,List.nil_append]
   ·have hne:decide (V.int at'=V.int 0)=false:=by simp [h0]
    rw [hne]
    refine bx ?_
    obtain ⟨z,hz,e1,q'',e2,hq''⟩:=pz hTr hq' h0
    subst e1
    obtain ⟨b,hb1,hb2⟩:=(bk.same s1).get hnd hz
    have hrl:r.length≤100:=by
     have h1:=hp.len hTr
     have h2:=congrArg List.length ep
     rw [av] at h1
     rw [List.length_append] at h2
     omega
    refine ⟨_,rfl,_,rfl,d,_,rfl,hb1,b,_,_,_,rfl,rfl,SqT.of hb2,xR z.2,aw (show 1≤1000 by decide),λl1 hl1=>?_⟩
    have s2:=af (o:=.lst [.str z.2.nm]) hl1
    refine ⟨_,rfl,l1,pn,_,_,rfl,rfl,ac,s2 _ _ en,aw (by simp; omega),λl2 hl2=>?_⟩
    have s3:=s2.trans (af (o:=.lst ([.str z.2.nm]++r.map V.str)) hl2)
    obtain ⟨b',hb1',hb2'⟩:=(bk.same (s1.trans s3)).get hnd hz
    refine ⟨_,rfl,_,rfl,d,_,rfl,hb1',b',_,_,_,rfl,rfl,SqT.of hb2',xQ z.2,?_⟩
    refine ⟨⟨z.2.par,q'',z.2.nm :: r,l2,rfl,hq'',by rw [ep,e2]; simp,ac,s1.trans s3⟩,?_⟩
    show na (nds zs) z.2.par<na (nds zs) z.2.num
    rw [ia hTr hq'',ia hTr hq',e2]
    simp
  ·rintro σ H1 Q1 Q2 m ⟨v,e,h2,b,e3,q⟩
   exact ⟨v,e,h2,b,e3,m _ _ q⟩
end
open Classical in
theorem sT (q:Str→Bool) (t:List Nd):TW.bd q t=t.filter λn=>decide (TW.Reach (TW.kept q t) 0 n):=by
 unfold TW.bd
 have:∀ p:Nd→Prop,(∀ n,p n→q n.nm=false)→(TW.kept q t).filter (λn=>decide (p n))=t.filter λn=>decide (p n):=λp hp=>by
  unfold TW.kept
  rw [List.filter_filter]
  apply List.filter_congr
  intro n _
  by_cases h:p n
  ·simp [h,hp n h]
  ·simp [h]
 exact this _ λn h=>(TW.aP.mp h.mem).2
noncomputable def pF:Expr:=match (ao bn).getD 1 (.Pass ⟨0,0,0,0⟩) with
 | .Return (some (.Call _ [e] _ _)) _=>e
 | _=>.Constant .none 0 ⟨0,0,0,0⟩
noncomputable def ji:Scope:=match pF with
 | .ListComp _ _ sc _=>sc
 | _=>ae bn
noncomputable def uU:Expr:=match pF with
 | .ListComp _ [⟨_,_,[c],_⟩] _ _=>c
 | _=>.Constant .none 0 ⟨0,0,0,0⟩
noncomputable def LSN:List Str:=["_law_tree_here","_law_names","_law_book_here"]
noncomputable abbrev LSX (P:Program) (w:World) (K:PySem.W.Frag) (mg:Str→Option Value) (base:Heap) (f:Addr) (cdv:Value) (A:Around) (outer:List Env) (s:Shared) (H:Hp) (E:XK):Cx:=(eR CX0 P w K mg base LSN "_law_seen" (ae bn) f cdv A outer s H E).nox
noncomputable def xT (K:PySem.W.Frag):TT:=oH (tOp (λx y H Q=>∃ a b xs,x = .ref a∧y = .ref b∧SqL K H a xs∧SqL K H b []∧Q (.bl (decide (xs=[]))) H) (wc 1 [1] (xp K (vk sS [] E0 (lN (jl 2) (lN (tOp (dq K) (jl 0) (tC (.int 0))) rf)))) (bc 0) (oH (tOp (rIn K false) (jl 0) (jl 1))) (jl 0)) (xv rf))
section
variable {P:Program} {w:World} {K:PySem.W.Frag} {mg:Str→Option Value} {base:Heap} {f:Addr} {cdv:Value} {A:Around} {outer:List Env} {s:Shared} {H0:Hp} {E:XK}
theorem sU (hr:Room 1 (A.deeper (PyProof.Rows.envOfC "_law_seen" (ae bn) s.heap.objs.size f cdv))) (CP:Has P w K mg base 1 "_law_path" ["_law_book_here","_law_number"] sS) (s1:Shared) (H:Hp) (fp:List Addr) :
  PT (cf (LSX P w K mg base f cdv A outer s H0 E) ["_law_node","_law_names","_law_book_here"] ji [("_law_names",s.heap.objs.size+1),("_law_book_here",s.heap.objs.size+2)] s1 H fp) uU (xT K):=by
 obtain ⟨fP,fdP,GP,mP,kP,bP⟩:=CP
 refine am (X:=cf (LSX P w K mg base f cdv A outer s H0 E) ["_law_node","_law_names","_law_book_here"] ji [("_law_names",s.heap.objs.size+1),("_law_book_here",s.heap.objs.size+2)] s1 H fp) (fg hr.units0) (eE (N:=["_law_name","_law_names"]) (cl:=[("_law_names",s.heap.objs.size+1)]) (k:=1) (js:=[1]) (g:=bc 0) rfl
      (LcOk.mk' ["_law_names"] rfl rfl (by decide +kernel) (by decide +kernel) ?hcl2 rfl (by decide +kernel)) rfl ?hj2
      (cM (al GP hr rfl mP kP bP .nil au (aa (pv 2) (aa (aH (r:=dq K) aC (pv 0) ah (λ_ _=>rfl)) ag))))
      (λs H fp=>aK (i:=0) (show (["_law_name","_law_names"]:List Str).Nodup by decide +kernel) rfl (Or.inl rfl) (Or.inr rfl))
      (λs H fp=>am (r:=rIn K false) jC (pv 0) (pv 1) rfl) (λs H fp=>pv 0)) (bJ ag) (ar _)
 case hcl2 =>
  intro y hy
  rcases List.mem_cons.mp hy with e | hy
  ·rw [e]; rfl
  ·cases hy
 case hj2 =>
  intro i j x h1 h2
  match i,h1,h2 with
  | 0,h1,h2 =>
   cases h1
   cases h2
   exact ⟨rfl,by first | exact Or.inr (Or.inl rfl) | exact Or.inr (Or.inr rfl),by first | (show ((relabel ji (LSX P w K mg base f cdv A outer s H0 E).env).names.lookup ("_law_names":Str)≠some NameKind.local); intro h; cases h) | (intro h; cases h),by first | exact Or.inl rfl | exact Or.inr rfl⟩
  | i+1,h1,h2=>simp at h1
end
section
variable {P:Program} {w:World} {K:PySem.W.Frag} {mg:Str→Option Value} {base:Heap}
theorem vx:FnScope LSN ["_law_tree_here","_law_names"] (ae bn):=⟨rfl,rfl,rfl,by decide +kernel,rfl,by decide +kernel,by decide +kernel⟩
open Classical in
theorem wR {f:Addr} {fd:FuncData} (F:Fun K "_law_seen" "_law_seen" bn f fd) (T:Txt mg) (CB:Has P w K mg base 1 "_law_book" ["_law_tree_here"] lz) (CP:Has P w K mg base 1 "_law_path" ["_law_book_here","_law_number"] sS):FnOk P w K mg base CX0 2 f fd ["_law_tree_here","_law_names"] dg:=by
 obtain ⟨fB,fdB,GB,mB,kB,bB⟩:=CB
 refine F.ok vx (λvs H Q E h=>?_) (λcdv A outer s H vs Q E hr h=>?_)
 ·obtain ⟨t,pn,zs,ns,rfl,_⟩:=h
  rfl
 ·obtain ⟨t,pn,zs,ns,rfl,tr,hn,q⟩:=h
  refine ⟨_,ai (ax (i:=2) vx.nd rfl (Or.inr rfl) (al GB hr rfl mB kB bB .nil au (aa (pv 0) ag)))
   (ak (aq (aZ bq rfl T.tuple rfl (aa (eE (N:=["_law_node","_law_names","_law_book_here"]) (cl:=[("_law_names",s.heap.objs.size+1),("_law_book_here",s.heap.objs.size+2)]) (k:=1) (js:=[1,2]) (g:=bc 0) (tc:=xT K) rfl
    (LcOk.mk' ["_law_names","_law_book_here"] rfl rfl (by decide +kernel) (by decide +kernel) ?hcl rfl (by decide +kernel)) rfl ?hj
    (cM (pv 0)) (λs H fp=>aK (i:=0) (show (["_law_node","_law_names","_law_book_here"]:List Str).Nodup by decide +kernel) rfl (Or.inl rfl) (Or.inr rfl))
    (λs1 H fp=>sU hr CP s1 H fp)
    (λs H fp=>pv 0)) ag)))),?_⟩
  case hcl =>
   intro y hy
   rcases List.mem_cons.mp hy with e | hy
   ·rw [e]; rfl
   ·rcases List.mem_cons.mp hy with e | hy
    ·rw [e]; rfl
    ·cases hy
  case hj =>
   intro i j x h1 h2
   match i,h1,h2 with
   | 0,h1,h2 =>
    cases h1
    cases h2
    exact ⟨rfl,Or.inr (Or.inl rfl),(show ((ae bn).names.lookup ("_law_names":Str)≠some NameKind.local) by decide +kernel),by first | exact Or.inl rfl | exact Or.inr rfl⟩
   | 1,h1,h2 =>
    cases h1
    cases h2
    exact ⟨rfl,Or.inr (Or.inl rfl),(show ((ae bn).names.lookup ("_law_book_here":Str)≠some NameKind.local) by decide +kernel),by first | exact Or.inl rfl | exact Or.inr rfl⟩
   | i+2,h1,h2=>simp at h1
  have hl:=tr.len
  refine ⟨_,rfl,t,zs,rfl,tr,λd as H1 s1 _ bk _=>?_⟩
  have tr1:=tr.same s1
  refine ⟨_,rfl,t,rfl,⟨_,SqT.of tr1.tup⟩,λp hp=>?_⟩
  refine dO (fr:=[some (.ref pn),some (.ref d)]) zs (λz=>V.ref z.1) (by omega) hp (dk (by rw [aY]; exact SqT.of tr1.tup)) rfl (λz=>decide (TW.Reach (TW.kept (qIn ns) (nds zs)) 0 z.2)) (λz y _=>y = .ref z.1) (λz y H H' h _=>h) (λz H' k mz s2 _ hk=>?_) (λz H' k mz _ s2 _ hk=>?_) (λys H' s2 hp' hys=>?_)
  ·obtain ⟨pa,hpa⟩:=TW.PathTo.ex tr.tr (cT mz)
   have hpl:pa.length≤30:=by have:=hpa.len tr.tr; rw [av] at this; omega
   refine ⟨_,rfl,_,rfl,z.1,_,_,_,rfl,rfl,SqT.of (s2 _ _ (tr1.nod z mz)),at0 z.2,d,_,as,zs,pa,rfl,bk.same s2,tr.tr,hl,hpa,λt3 H3 s3 ht3=>?_⟩
   refine ⟨t3,rfl,⟨_,SqT.of ht3⟩,λp4 hp4=>?_⟩
   have hn3:=s3 _ _ (s2 _ _ (s1 _ _ hn))
   refine dO (fr:=[some (.ref pn)]) pa V.str (by omega) hp4 (dk (SqT.of ht3)) rfl (qIn ns) (λx y _=>y = .str x) (λx y H H' h _=>h) (λx H5 k5 mx s5 _ hk5=>?_) (λx H5 k5 mx _ s5 _ hk5=>?_) (λys H5 s5 hp5 hys=>?_)
   ·refine ⟨_,rfl,_,rfl,pn,_,rfl,.inl (SqL.of (s5 _ _ hn3)),rfl,kl ns,_,rfl,?_⟩
    rw [show (if false=true then !inV (.str x) (ns.map V.str) else inV (.str x) (ns.map V.str))=qIn ns x from pE ns x]
    exact hk5 H5 (Same.refl _)
   ·exact ⟨_,rfl,hk5 _ H5 (Same.refl _) rfl⟩
   ·have ey:=bM (f:=V.str) hys (λz y _ h=>h)
    refine ⟨Nat.zero_le _,λl6 hl6=>⟨p4,l6,_,rfl,rfl,SqL.of (bp hl6 hp5),SqL.of ac,_,rfl,?_⟩⟩
    have e:decide (ys=[])=decide (TW.Reach (TW.kept (qIn ns) (nds zs)) 0 z.2):=by
     apply Bool.eq_iff_iff.mpr
     rw [decide_eq_true_eq,decide_eq_true_eq,← TW.qF tr.tr (cT mz) hpa,ey,List.map_eq_nil_iff]
    rw [e]
    exact hk _ ((s3.trans s5).trans (af hl6))
  ·exact ⟨_,rfl,hk _ H' (Same.refl _) rfl⟩
  ·have ey:=bM (f:=λz:Addr×Nd=>V.ref z.1) hys (λz y _ h=>h)
   refine ⟨p,_,rfl,.inl ⟨SqL.of hp',λc hc=>?_⟩⟩
   have s3:=(s1.trans s2).trans (af (o:=.tup ys) hc)
   have en:nds (zs.filter λz=>decide (TW.Reach (TW.kept (qIn ns) (nds zs)) 0 z.2))=TW.bd (qIn ns) (nds zs):=by
    rw [fo (λn=>decide (TW.Reach (TW.kept (qIn ns) (nds zs)) 0 n)),sT]
   exact q c (zs.filter λz=>decide (TW.Reach (TW.kept (qIn ns) (nds zs)) 0 z.2)) _ s3 ⟨by rw [ac,ey,aY],λz hz=>s3 _ _ (tr.nod z (List.mem_filter.mp hz).1),by rw [en]; exact TW.jg tr.tr,Nat.le_trans (List.length_filter_le _ _) hl⟩ en
end
noncomputable def ldS (i:Nat):Stmt:=(ao bZ).getD i (.Pass ⟨0,0,0,0⟩)
noncomputable def DN:List Str:=["_law_tree_here","_law_deed_here","_law_book_here","_law_number","_law_parent"]
theorem ib:FnScope DN ["_law_tree_here","_law_deed_here"] (ae bZ):=⟨rfl,rfl,rfl,by decide +kernel,rfl,by decide +kernel,by decide +kernel⟩
noncomputable abbrev DX (P:Program) (w:World) (K:PySem.W.Frag) (mg:Str→Option Value) (base:Heap) (f:Addr) (cdv:Value) (A:Around) (outer:List Env) (s:Shared) (H:Hp) (E:XK):Cx:=(eR CX0 P w K mg base DN "_law_done" (ae bZ) f cdv A outer s H E).nox
section
variable {P:Program} {w:World} {K:PySem.W.Frag} {mg:Str→Option Value} {base:Heap} {f:Addr} {cdv:Value} {A:Around} {outer:List Env} {s:Shared} {H0:Hp} {E:XK}
theorem wS (T:Txt mg) (hr:Room 1 (A.deeper (PyProof.Rows.envOfC "_law_done" (ae bZ) s.heap.objs.size f cdv))) :
  ∃ t,PS (DX P w K mg base f cdv A outer s H0 E) (ldS 6) t∧∀ (D:Ends) (H:Hp) (σ:St) (x0 x1 x3 x4:Option V) (d:Addr) (bs:List (Addr×Nd)),σ=[x0,x1,some (.ref d),x3,x4]→H d=some (.dK (bX bs))→(∀ b∈bs,H b.1=some (.tup (ay b.2)))→(bs.map (·.2.num)).Nodup→bs.length≤60 →
   (∀ o us t' H',Same (upd H d (.frz o (.dK (bX bs)))) H'→H' t'=some (.tup (aN us))→At H' us→(nds us).Perm (bs.map (·.2))→TW.br (nds us)→D.rt (.ref t') H')→t D σ H:=by
 refine ⟨_,aq (aZ bq rfl T.tuple rfl (aa (aF dj rfl T.sorted PyProof.Rows.boot_sorted (aa (eT (N:=["_law_one","_law_book_here"]) (cl:=[("_law_book_here",s.heap.objs.size+1)]) (k:=1) (js:=[2]) (g:=bc 0) rfl
    (LcOk.mk' ["_law_book_here"] rfl rfl (by decide +kernel) (by decide +kernel) ?hcl rfl (by decide +kernel)) rfl ?hj (vq (pv 2)) (λs H fp=>aK (i:=0) (show (["_law_one","_law_book_here"]:List Str).Nodup by decide +kernel) rfl (Or.inl rfl) (Or.inr rfl))
    (λs H fp=>aB (r:=ri K) fz (cm (aa (pv 0) ag)) (cw (ca hr) (pv 1) (pv 0) (λ_ _=>rfl)))) ag)) ag)),?_⟩
 case hcl =>
  intro y hy
  rcases List.mem_cons.mp hy with e | hy
  ·rw [e]; rfl
  ·cases hy
 case hj =>
  intro i j x h1 h2
  match i,h1,h2 with
  | 0,h1,h2 =>
   cases h1
   cases h2
   exact ⟨rfl,Or.inr (Or.inl rfl),(show ((ae bZ).names.lookup ("_law_book_here":Str)≠some NameKind.local) by decide +kernel),by first | exact Or.inl rfl | exact Or.inr rfl⟩
  | i+1,h1,h2=>simp at h1
 rintro D H _ x0 x1 x3 x4 d bs rfl hd hb hnd hl q
 refine ⟨_,rfl,d,_,rfl,hd,λo p hp=>?_⟩
 have hb1:∀ b∈bs,upd H d (.frz o (.dK (bX bs))) b.1=some (.tup (ay b.2)):=λb mb=>by
  rw [aj]
  ·exact hb b mb
  ·intro e
   have:=hb b mb
   rw [e,hd] at this
   cases this
 have hd1:upd H d (.frz o (.dK (bX bs))) d=some (.frz o (.dK (bX bs))):=ac
 have sq:∀ us t' H',Same (upd H d (.frz o (.dK (bX bs)))) H'→H' t'=some (.tup (aN us))→At H' us→(nds us).Perm (bs.map (·.2))→TW.br (nds us)→D.rt (.ref t') H':=q o
 generalize upd H d (.frz o (.dK (bX bs)))=H1 at hb1 hd1 sq hp ⊢
 rw [iX]
 refine dP (fr:=[some (.ref d)]) bs (λb=>V.int b.2.num) (by omega) hp (mX hd1) rfl (λb y H'=>∃ q,y = .ref q∧q≠p∧H' q=some (.tup (vals b.2))) (λb y H H' ⟨q,e,ne,h⟩ ex=>⟨q,e,ne,ex q _ ne h⟩) (λb H' k mb s1 hpl hk=>?_) (λys H' s1 hp' hys=>?_)
 ·refine ⟨_,rfl,(show 1≤sizeLine from aw (by decide)),λc hc=>?_⟩
  have s2:=af (o:=.tup [.int b.2.num]) hc
  refine ⟨_,rfl,_,rfl,d,_,rfl,.inl ⟨bX bs,Sum.inl b.2.num,.inr ⟨o,s2 _ _ (s1 _ _ hd1)⟩,rfl,(jV hnd mb).symm⟩,c,b.1,_,_,rfl,rfl,SqT.of ac,SqT.of (s2 _ _ (s1 _ _ (hb1 b mb))),by simp,(show 4≤sizeLine from aw (by decide)),λh=>absurd h (List.cons_ne_nil _ _),λ_ q hq=>?_⟩
  have hpl2:∃ ys,upd H' c (.tup [.int b.2.num]) p=some (.lst ys):=let ⟨ys,e⟩:=hpl; ⟨ys,s2 _ _ e⟩
  exact hk _ _ (s2.trans (af hq)) ⟨q,rfl,dN hpl2 hq,ac⟩
 ·obtain ⟨cs,e1,e2,e3⟩:=cY (val:=V.ref) (S:=λ(b:Addr×Nd) (q:Addr)=>H' q=some (.tup (vals b.2))) hys (λb y _ ⟨q,e,_,h⟩=>⟨q,e,h⟩)
  have er:ys=aN (cs.map λx=>(x.2,x.1.2)):=by rw [e2,← aY,List.map_map]; rfl
  have en:nds (cs.map λx=>(x.2,x.1.2))=bs.map (·.2):=by rw [← e1]; unfold nds; rw [List.map_map,List.map_map]; rfl
  have hcl:cs.length=bs.length:=by rw [← e1,List.length_map]
  refine nb (zs:=cs.map λx=>(x.2,x.1.2)) (.inl (SqL.of (by rw [hp',er]))) (λz hz=>?_) ?_ (by rw [List.length_map]; omega) (λus t' H2 s2 ht' hA' hpm hrise=>?_)
  ·obtain ⟨x,hx,rfl⟩:=List.mem_map.mp hz
   exact e3 x hx
  ·rw [en,List.map_map]
   exact hnd
  ·refine sq us t' H2 (s1.trans s2) ht' hA' ?_ hrise
   have:(nds us).Perm (nds (cs.map λx=>(x.2,x.1.2))):=hpm.map _
   rw [en] at this
   exact this
theorem uV (T:Txt mg) (hr:Room 1 (A.deeper (PyProof.Rows.envOfC "_law_done" (ae bZ) s.heap.objs.size f cdv))) (CU:Has P w K mg base 1 "_law_under" ["_law_book_here","_law_number","_law_goal"] jh) :
  ∃ t,PS (DX P w K mg base f cdv A outer s H0 E) (ldS 4) t∧∀ (D:Ends) (H:Hp) (σ:St) (a c d:Addr) (dd:TW.Deed Str) (n:Int) (as:List (Addr×(Addr×Nd))) (zs:ZN),σ=[some (.ref a),some (.ref c),some (.ref d),some (.int n),none]→Tre H a zs→H c=some (.tup (cb dd))→Book H d as zs→1≤n →
   ((∃ k,dd = .drop k)→∀ us t' H' (g:Nd→Bool),Same H H'→H' t'=some (.tup (aN us))→At H' us→nds us=(nds zs).filter g→(∀ m∈nds zs,g m=true↔¬ TW.Und (nds zs) n m.num)→D.rt (.ref t') H')→((¬ ∃ k,dd = .drop k)→D.nx σ H)→t D σ H:=by
 obtain ⟨fU,fdU,GU,mU,kU,bU⟩:=CU
 refine ⟨_,bw (am fu (aH aC (pv 1) ah (λ_ _=>rfl)) aU (ar _)) (ak (aq (aZ bq rfl T.tuple rfl (aa (eE (N:=["_law_node","_law_book_here","_law_number"]) (cl:=[("_law_number",s.heap.objs.size+2),("_law_book_here",s.heap.objs.size+1)]) (k:=1) (js:=[2,3]) (g:=bc 0) rfl
    (LcOk.mk' ["_law_number","_law_book_here"] rfl rfl (by decide +kernel) (by decide +kernel) ?hcl rfl (by decide +kernel)) rfl ?hj (cM (pv 0)) (λs H fp=>aK (i:=0) (show (["_law_node","_law_book_here","_law_number"]:List Str).Nodup by decide +kernel) rfl (Or.inl rfl) (Or.inr rfl))
    (λs H fp=>cL (cB (al (X:=cf _ _ _ _ _ _ _) GU hr rfl mU kU bU .nil au (aa (pv 1) (aa (aH (r:=dq K) aC (pv 0) ah (λ_ _=>rfl)) (aa (pv 2) ag)))) (λ_=>rfl))) (λs H fp=>pv 0)) ag)))) aJ,?_⟩
 case hcl =>
  intro y hy
  rcases List.mem_cons.mp hy with e | hy
  ·rw [e]; rfl
  ·rcases List.mem_cons.mp hy with e | hy
   ·rw [e]; rfl
   ·cases hy
 case hj =>
  intro i j x h1 h2
  match i,h1,h2 with
  | 0,h1,h2 =>
   cases h1
   cases h2
   exact ⟨rfl,Or.inr (Or.inl rfl),(show ((ae bZ).names.lookup ("_law_book_here":Str)≠some NameKind.local) by decide +kernel),by first | exact Or.inl rfl | exact Or.inr rfl⟩
  | 1,h1,h2 =>
   cases h1
   cases h2
   exact ⟨rfl,Or.inr (Or.inl rfl),(show ((ae bZ).names.lookup ("_law_number":Str)≠some NameKind.local) by decide +kernel),by first | exact Or.inl rfl | exact Or.inr rfl⟩
  | i+2,h1,h2=>simp at h1
 rintro D H _ a c d dd n as zs rfl tr hc bk hn q1 q2
 have hT:=tr.tr
 have hl:=tr.len
 have sd:SqT K H c (cb dd):=SqT.of hc
 cases dd with
 | make n' p nm st=>exact ⟨_,rfl,c,_,_,_,rfl,rfl,sd,rfl,rfl,_,rfl,aR (q2 λ⟨k,e⟩=>by cases e)⟩
 | write n' st=>exact ⟨_,rfl,c,_,_,_,rfl,rfl,sd,rfl,rfl,_,rfl,aR (q2 λ⟨k,e⟩=>by cases e)⟩
 | move n' p nm=>exact ⟨_,rfl,c,_,_,_,rfl,rfl,sd,rfl,rfl,_,rfl,aR (q2 λ⟨k,e⟩=>by cases e)⟩
 | drop n' =>
  refine ⟨_,rfl,c,_,_,_,rfl,rfl,sd,rfl,rfl,_,rfl,bx ?_⟩
  refine ⟨_,rfl,a,rfl,⟨_,SqT.of tr.tup⟩,λp hp=>?_⟩
  classical
  refine dO (fr:=[some (.ref d),some (.int n)]) zs (λz=>V.ref z.1) (by omega) hp (dk (by rw [aY]; exact SqT.of tr.tup)) rfl (λz=>!decide (TW.Und (nds zs) n z.2.num)) (λz y _=>y = .ref z.1) (λz y H H' h _=>h) (λz H' k mz s1 _ hk=>?_) (λz H' k mz _ s1 _ hk=>⟨_,rfl,hk _ H' (Same.refl _) rfl⟩) (λys H' s1 hp' hys=>?_)
  ·obtain ⟨pa,hpa⟩:=TW.PathTo.ex hT (cT mz)
   refine ⟨_,rfl,_,rfl,z.1,_,_,_,rfl,rfl,SqT.of (s1 _ _ (tr.nod z mz)),at0 z.2,_,rfl,d,z.2.num,n,as,zs,pa,rfl,bk.same s1,hT,hpa,hn,λb hb=>⟨b,rfl,?_⟩⟩
   have:b=decide (TW.Und (nds zs) n z.2.num):=by rw [Bool.eq_iff_iff,hb,decide_eq_true_eq]
   rw [this]
   exact hk H' (Same.refl _)
  ·have ey:=bM (f:=λz:Addr×Nd=>V.ref z.1) hys (λz y _ h=>h)
   refine ⟨p,_,rfl,.inl ⟨SqL.of hp',λl hl'=>?_⟩⟩
   have s2:=s1.trans (af (o:=.tup ys) hl')
   refine q1 ⟨n',rfl⟩ (zs.filter λz=>!decide (TW.Und (nds zs) n z.2.num)) l _ (λm=>!decide (TW.Und (nds zs) n m.num)) s2 (by rw [ac,ey,aY]) (λy hy=>s2 _ _ (tr.nod y (List.mem_filter.mp hy).1)) ?_ λm _=>?_
   ·have hfm:∀ g:Nd→Bool,nds (zs.filter λz=>g z.2)=(nds zs).filter g:=λg=>by
     unfold nds
     rw [List.filter_map]; rfl
    exact hfm λm=>!decide (TW.Und (nds zs) n m.num)
   ·rw [Bool.not_eq_true',decide_eq_false_iff_not]
end
noncomputable def vz:List Stmt:=match ldS 5 with
 | .If _ _ b _=>b
 | _=>[]
noncomputable def elS (i:Nat):Stmt:=vz.getD i (.Pass ⟨0,0,0,0⟩)
structure LD (H0 H:Hp) (a c d:Addr) (dd:TW.Deed Str) (as:List (Addr×(Addr×Nd))) (zs:ZN):Prop where
 s0:Same H0 H
 d0:H0 d=none
 tre:Tre H a zs
 deed:H c=some (.tup (cb dd))
 book:Book H d as zs
theorem LD.same {H0 H H':Hp} {a c d:Addr} {dd:TW.Deed Str} {as:List (Addr×(Addr×Nd))} {zs:ZN} (h:LD H0 H a c d dd as zs) (s:Same H H'):LD H0 H' a c d dd as zs :=
 ⟨h.s0.trans s,h.d0,h.tre.same s,s _ _ h.deed,h.book.same s⟩
theorem sV {H:Hp} {a d:Addr} {xs:List V} {kvs:List (Key×V)} (h:H a=some (.tup xs)) (hd:Rd H d (.dK kvs)):a≠d:=λe=>by
 rcases hd with hd | ⟨o,hd⟩ <;> rw [e,hd] at h <;> cases h
theorem LD.turn {H0 H:Hp} {a c d:Addr} {dd:TW.Deed Str} {as:List (Addr×(Addr×Nd))} {zs:ZN} (h:LD H0 H a c d dd as zs) {u:HO} (hu:Rd (upd H d u) d (.dK (aT as))):LD H0 (upd H d u) a c d dd as zs:=by
 have keep:∀ {b:Addr} {xs:List V},H b=some (.tup xs)→upd H d u b=some (.tup xs):=λhb=>by rw [aj (sV hb h.book.dict)]; exact hb
 exact ⟨aM h.d0 h.s0,h.d0,⟨keep h.tre.tup,λz hz=>keep (h.tre.nod z hz),h.tre.tr,h.tre.len⟩,keep h.deed,⟨hu,h.book.of,λa ha=>keep (h.book.at' a ha)⟩⟩
section
variable {P:Program} {w:World} {K:PySem.W.Frag} {mg:Str→Option Value} {base:Heap} {f:Addr} {cdv:Value} {A:Around} {outer:List Env} {s:Shared} {H0:Hp} {E:XK}
theorem wT (hr:Room 1 (A.deeper (PyProof.Rows.envOfC "_law_done" (ae bZ) s.heap.objs.size f cdv))) :
  ∃ t,PS (DX P w K mg base f cdv A outer s H0 E) (elS 5) t∧∀ (D:Ends) (H:Hp) (a c d:Addr) (dd:TW.Deed Str) (n p:Int) (nm:Str) (as:List (Addr×(Addr×Nd))) (zs:ZN) (x4:Option V) (o:Obj),LD H0 H a c d dd as zs→H d=some (.frz o (.dK (aT as)))→iY (nds zs) dd n p nm→TW.iU (nds zs) p→NotIn (nds zs) dd n p→(∀ m∈nds zs,m.num≠n→¬ (m.par=p∧m.nm=nm)) →
   (∀ bs H',Same H0 H'→H' d=some (.dK (bX bs))→(∀ b∈bs,H' b.1=some (.tup (ay b.2)))→(bs.map (·.2.num)).Nodup→bs.length≤zs.length+1→(∀ us,us.Perm (bs.map (·.2))→TW.br us→TW.Told (nds zs) dd (.inr us))→D.nx [some (.ref a),some (.ref c),some (.ref d),some (.int n),x4] H') →
   t D [some (.ref a),some (.ref c),some (.ref d),some (.int n),x4] H:=by
 refine ⟨_,ut (kX (ca hr) (pv 2) (pv 3) (aB fz (cn eC (pv 1) (ci ah) (ci ah)) (cm (aa (qS (am fu (aH aC (pv 1) ah (λ_ _=>rfl)) aU (ar _)) (aH aC (pv 1) ah (λ_ _=>rfl)) (aH aC (cw (ca hr) (pv 2) (pv 3) (λ_ _=>rfl)) ah (λ_ _=>rfl))) ag))) rfl),?_⟩
 intro D H a c d dd n p nm as zs x4 o L0 hd mm hF hi hfree qn
 refine ⟨d,o,aT as,L0.d0,hd,?_⟩
 have L:=L0.turn (u:=.dK (aT as)) (.inl ac)
 have hd1:upd H d (.dK (aT as)) d=some (.dK (aT as)):=ac
 generalize upd H d (.dK (aT as))=H1 at L hd1 ⊢
 have hT:=L.tre.tr
 have hnd:=cx hT
 have hlen:=L.tre.len
 have fin:∀ (st:Option Int) (q:Addr) (H2:Hp),Same H1 H2→H2 q=some (.tup (ay ⟨n,p,nm,st⟩))→(∀ us,(TW.cI (nds zs) n→us=(nds zs).map (TW.put ⟨n,p,nm,st⟩)→TW.Told (nds zs) dd (.inr us))∧(¬ TW.cI (nds zs) n→us.Perm (⟨n,p,nm,st⟩ :: nds zs)→TW.br us→TW.Told (nds zs) dd (.inr us))) →
   D.nx [some (.ref a),some (.ref c),some (.ref d),some (.int n),x4] (upd H2 d (.dK (cu (aT as) (Sum.inl n:Key) (.ref q)))):=by
  intro st q H2 s2 hq ht
  have L2':=L.same s2
  obtain ⟨bs,e1,e2,e3,e4,e5⟩:=nc (new:=⟨n,p,nm,st⟩) (s2 _ _ hd1) L2'.book.of L2'.book.at' hq hnd
  refine qn bs _ (aM L.d0 L2'.s0) e1 e2 e3 e4 λus hp hrise=>?_
  rcases e5 with ⟨h1,h2⟩ | ⟨h1,h2⟩
  ·rw [h2] at hp
   exact (ht us).1 h1 (TW.mY hrise (TW.gk hT.rise) hp)
  ·rw [h2] at hp
   exact (ht us).2 h1 (hp.trans List.perm_append_comm) hrise
 have sd:∀ {H2:Hp},Same H1 H2→SqT K H2 c (cb dd):=λs2=>SqT.of (s2 _ _ L.deed)
 rcases mm with ⟨st,rfl,hno⟩ | ⟨rfl,hh⟩
 ·refine ⟨_,rfl,_,rfl,_,rfl,c,_,rfl,sd (Same.refl _),(λh=>absurd h.1 (show ¬ HT.sIx 5 0 (some 2)=0 by decide)),λt1 ht1=>?_⟩
  have s2:=af (o:=.tup (cv (cb (.make n p nm st)) (some 2) (some 4))) ht1
  refine ⟨_,rfl,c,_,_,_,rfl,rfl,sd s2,rfl,rfl,_,rfl,bx ⟨_,rfl,c,_,_,_,rfl,rfl,sd s2,rfl,(show 1≤sizeLine from aw (by decide)),λt2 ht2=>?_⟩⟩
  have s3:=s2.trans (af (o:=.tup [stV st]) ht2)
  refine ⟨t1,t2,[.int p,.str nm],[stV st],rfl,rfl,SqT.of (bp ht2 ac),SqT.of ac,by simp,(show 3≤sizeLine from aw (by decide)),λh=>absurd h (List.cons_ne_nil _ _),λ_ q hq=>?_⟩
  have s4:=s3.trans (af (o:=.tup ([.int p,.str nm]++[stV st])) hq)
  refine ⟨_,rfl,_,rfl,d,_,rfl,lS.k (k:=Sum.inl n) (s4 _ _ hd1) (aS ?_),fin st q _ s4 ac λus=>⟨λh _=>absurd h hno,λ_ hp hrise=>.made hno hF (λm hm h=>hfree m hm (λe=>hno ⟨m,hm,e⟩) h) hp hrise⟩⟩
  have:=congrArg List.length L.book.of
  unfold aT
  rw [List.length_map] at this ⊢
  omega
 ·refine ⟨_,rfl,_,rfl,_,rfl,c,_,rfl,sd (Same.refl _),(λh=>absurd h.1 (show ¬ HT.sIx 4 0 (some 2)=0 by decide)),λt1 ht1=>?_⟩
  have s2:=af (o:=.tup (cv (cb (.move n p nm)) (some 2) (some 4))) ht1
  obtain ⟨m,hm,em⟩:=id hh
  obtain ⟨z,hz,rfl⟩:=gI hm
  obtain ⟨b,hb1,hb2⟩:=(L.same s2).book.get hnd hz
  rw [em] at hb1
  refine ⟨_,rfl,c,_,_,_,rfl,rfl,sd s2,rfl,rfl,_,rfl,aR ⟨_,rfl,_,rfl,d,_,rfl,hb1,b,_,_,_,rfl,rfl,SqT.of hb2,wD z.2,(show 1≤sizeLine from aw (by decide)),λt2 ht2=>?_⟩⟩
  have s3:=s2.trans (af (o:=.tup [stV z.2.st]) ht2)
  refine ⟨t1,t2,[.int p,.str nm],[stV z.2.st],rfl,rfl,SqT.of (bp ht2 ac),SqT.of ac,by simp,(show 3≤sizeLine from aw (by decide)),λh=>absurd h (List.cons_ne_nil _ _),λ_ q hq=>?_⟩
  have s4:=s3.trans (af (o:=.tup ([.int p,.str nm]++[stV z.2.st])) hq)
  refine ⟨_,rfl,_,rfl,d,_,rfl,lS.k (k:=Sum.inl n) (s4 _ _ hd1) (aS ?_),fin z.2.st q _ s4 ac λus=>⟨λ_ e=>by rw [e]; exact .moved hm em hF (hi ⟨_,rfl⟩) hfree,λh=>absurd hh h⟩⟩
  have:=congrArg List.length L.book.of
  unfold aT
  rw [List.length_map] at this ⊢
  omega
theorem sW (hr:Room 1 (A.deeper (PyProof.Rows.envOfC "_law_done" (ae bZ) s.heap.objs.size f cdv))) :
  ∃ t,PS (DX P w K mg base f cdv A outer s H0 E) (elS 4) t∧∀ (D:Ends) (H:Hp) (a c d:Addr) (dd:TW.Deed Str) (n p:Int) (nm:Str) (as:List (Addr×(Addr×Nd))) (zs:ZN) (x4:Option V),LD H0 H a c d dd as zs→H d=some (.dK (aT as))→iY (nds zs) dd n p nm →
   (∀ H',Same H0 H'→(∃ m∈nds zs,m.num≠n∧m.par=p∧m.nm=nm)→D.rt (.str "taken") H') →
   (∀ o H',LD H0 H' a c d dd as zs→H' d=some (.frz o (.dK (aT as)))→(∀ m∈nds zs,m.num≠n→¬ (m.par=p∧m.nm=nm))→D.nx [some (.ref a),some (.ref c),some (.ref d),some (.int n),x4] H') →
   t D [some (.ref a),some (.ref c),some (.ref d),some (.int n),x4] H:=by
 refine ⟨_,bw (am (nV (ca hr)) (cn eC (pv 1) (ci ah) (ci ah)) (eE (N:=["_law_one","_law_book_here","_law_number"]) (cl:=[("_law_number",s.heap.objs.size+2),("_law_book_here",s.heap.objs.size+1)]) (k:=1) (js:=[2,3]) (g:=bc 0) rfl
    (LcOk.mk' ["_law_number","_law_book_here"] rfl rfl (by decide +kernel) (by decide +kernel) ?hcl rfl (by decide +kernel)) rfl ?hj (vq (pv 2)) (λs H fp=>aK (i:=0) (show (["_law_one","_law_book_here","_law_number"]:List Str).Nodup by decide +kernel) rfl (Or.inl rfl) (Or.inr rfl))
    (λs H fp=>am eB (pv 0) (pv 2) (ar _)) (λs H fp=>cn (r:=rh K) eC (cw (ca hr) (pv 1) (pv 0) (λ_ _=>rfl)) dI (ci ah))) rfl) (ak (aq aU)) aJ,?_⟩
 case hcl =>
  intro y hy
  rcases List.mem_cons.mp hy with e | hy
  ·rw [e]; rfl
  ·rcases List.mem_cons.mp hy with e | hy
   ·rw [e]; rfl
   ·cases hy
 case hj =>
  intro i j x h1 h2
  match i,h1,h2 with
  | 0,h1,h2 =>
   cases h1
   cases h2
   exact ⟨rfl,Or.inr (Or.inl rfl),(show ((ae bZ).names.lookup ("_law_book_here":Str)≠some NameKind.local) by decide +kernel),by first | exact Or.inl rfl | exact Or.inr rfl⟩
  | 1,h1,h2 =>
   cases h1
   cases h2
   exact ⟨rfl,Or.inr (Or.inl rfl),(show ((ae bZ).names.lookup ("_law_number":Str)≠some NameKind.local) by decide +kernel),by first | exact Or.inl rfl | exact Or.inr rfl⟩
  | i+2,h1,h2=>simp at h1
 intro D H a c d dd n p nm as zs x4 L hd mm qt qn
 have hT:=L.tre.tr
 have hnd:=cx hT
 have hlen:=L.tre.len
 have ecut:cv (cb dd) (some 2) (some 4)=[Sum.inl p,Sum.inr nm].map kV:=by rcases mm with ⟨st,rfl,_⟩ | ⟨rfl,_⟩ <;> rfl
 have nw:¬ (HT.sIx (cb dd).length 0 (some 2)=0∧HT.sIx (cb dd).length (cb dd).length (some 4)=(cb dd).length):=by
  rcases mm with ⟨st,rfl,_⟩ | ⟨rfl,_⟩
  ·exact λh=>absurd h.1 (show ¬ HT.sIx 5 0 (some 2)=0 by decide)
  ·exact λh=>absurd h.1 (show ¬ HT.sIx 4 0 (some 2)=0 by decide)
 refine ⟨_,rfl,_,rfl,_,rfl,c,_,rfl,SqT.of L.deed,nw,λt1 ht1=>?_⟩
 have s1:=af (o:=.tup (cv (cb dd) (some 2) (some 4))) ht1
 have g1:upd H t1 (.tup (cv (cb dd) (some 2) (some 4))) t1=some (.tup ([Sum.inl p,Sum.inr nm].map kV)):=by rw [ac,ecut]
 have L1:=L.same s1
 have hd1:=s1 _ _ hd
 generalize upd H t1 (.tup (cv (cb dd) (some 2) (some 4)))=H1 at L1 g1 hd1 ⊢
 refine ⟨_,rfl,d,_,rfl,hd1,λo p1 hp1=>?_⟩
 have L2:=L1.turn (u:=.frz o (.dK (aT as))) (.inr ⟨o,ac⟩)
 have g2:upd H1 d (.frz o (.dK (aT as))) t1=some (.tup ([Sum.inl p,Sum.inr nm].map kV)):=by rw [aj (sV g1 L1.book.dict)]; exact g1
 have hd2:upd H1 d (.frz o (.dK (aT as))) d=some (.frz o (.dK (aT as))):=ac
 generalize upd H1 d (.frz o (.dK (aT as)))=H2 at L2 g2 hd2 hp1 ⊢
 have eb:(as.map λa=>(a.1,a.2.2)).map (·.2)=nds zs:=by rw [← L.book.of]; unfold nds; rw [List.map_map,List.map_map]; rfl
 have hbl:(as.map λa=>(a.1,a.2.2)).length=zs.length:=by rw [← L.book.of,List.length_map,List.length_map]
 have hbn:((as.map λa=>(a.1,a.2.2)).map (·.2.num)).Nodup:=by
  have:(as.map λa=>(a.1,a.2.2)).map (·.2.num)=(nds zs).map (·.num):=by rw [← eb]; simp only [List.map_map]; rfl
  rw [this]; exact hnd
 have hba:∀ b∈as.map (λa=>(a.1,a.2.2)),H2 b.1=some (.tup (ay b.2)):=λb hb=>by
  obtain ⟨x,hx,rfl⟩:=List.mem_map.mp hb
  exact L2.book.at' x hx
 rw [lp] at hd2 ⊢
 rw [iX]
 have hkeep:aT as=bX (as.map λa=>(a.1,a.2.2)):=lp as
 generalize as.map (λa=>(a.1,a.2.2))=bs at eb hbl hbn hba hd2 hkeep ⊢
 refine dO (fr:=[some (.ref d),some (.int n)]) bs (λb=>V.int b.2.num) (by omega) hp1 (mX hd2) rfl (λb=>!decide (V.int b.2.num=V.int n)) (λb y H'=>∃ q,y = .ref q∧q≠p1∧H' q=some (.tup ((plK b.2).map kV))) (λb y H H' ⟨q,e,ne,h⟩ ex=>⟨q,e,ne,ex q _ ne h⟩) (λb H' k mb s3 _ hk=>?_) (λb H' k mb _ s3 hpl hk=>?_) (λys H3 s3 hp3 hys=>?_)
 ·exact ⟨_,rfl,_,rfl,rfl,_,rfl,hk H' (Same.refl _)⟩
 ·refine ⟨_,rfl,_,rfl,d,_,rfl,.inl ⟨bX bs,Sum.inl b.2.num,.inr ⟨o,s3 _ _ hd2⟩,rfl,(jV hbn mb).symm⟩,_,rfl,b.1,_,rfl,SqT.of (s3 _ _ (hba b mb)),(λh=>absurd h.2 (show ¬ HT.sIx 3 3 (some 2)=3 by decide)),λq hq=>?_⟩
  exact hk _ _ (af hq) ⟨q,rfl,dN hpl hq,ac⟩
 ·obtain ⟨cs,e1,e2,e3⟩:=cY (val:=V.ref) (S:=λ(b:Addr×Nd) (q:Addr)=>H3 q=some (.tup ((plK b.2).map kV))) hys (λb y _ ⟨q,e,_,h⟩=>⟨q,e,h⟩)
  refine ⟨t1,p1,_,cs.map λx=>(x.2,plK x.1.2),rfl,s3 _ _ g2,rfl,SqL.of (by rw [hp3,e2,List.map_map,List.map_map]; rfl),λy hy=>?_,_,rfl,?_⟩
  ·obtain ⟨x,hx,rfl⟩:=List.mem_map.mp hy
   exact e3 x hx
  ·have L3:=L2.same s3
   cases ha:((cs.map λx=>(x.2,plK x.1.2)).any λz=>decide (z.2=[Sum.inl p,Sum.inr nm])) with
   | true =>
    refine bx (qt H3 L3.s0 ?_)
    obtain ⟨y,hy,e⟩:=List.any_eq_true.mp ha
    obtain ⟨x,hx,rfl⟩:=List.mem_map.mp hy
    have mx:x.1∈bs.filter λb=>!decide (V.int b.2.num=V.int n):=by rw [← e1]; exact List.mem_map.mpr ⟨x,hx,rfl⟩
    obtain ⟨mx1,mx2⟩:=List.mem_filter.mp mx
    have e':plK x.1.2=[Sum.inl p,Sum.inr nm]:=by simpa using e
    have hp:x.1.2.par=p∧x.1.2.nm=nm:=by
     unfold plK at e'
     injection e' with q1 q2
     injection q2 with q2 _
     injection q1 with q1
     injection q2 with q2
     exact ⟨q1,q2⟩
    refine ⟨x.1.2,by rw [← eb]; exact List.mem_map.mpr ⟨x.1,mx1,rfl⟩,λe=>?_,hp⟩
    simp [e] at mx2
   | false =>
    refine aR (qn o H3 L3 (by rw [hkeep]; exact s3 _ _ hd2) λm hm hne h=>?_)
    rw [← eb] at hm
    obtain ⟨b,hb,rfl⟩:=List.mem_map.mp hm
    have mb:b∈bs.filter λb=>!decide (V.int b.2.num=V.int n):=List.mem_filter.mpr ⟨hb,by simp [hne]⟩
    rw [← e1] at mb
    obtain ⟨x,hx,ex⟩:=List.mem_map.mp mb
    have:((cs.map λx=>(x.2,plK x.1.2)).any λz=>decide (z.2=[Sum.inl p,Sum.inr nm]))=true:=List.any_eq_true.mpr ⟨_,List.mem_map.mpr ⟨x,hx,rfl⟩,by
     rw [decide_eq_true_eq]
     show plK x.1.2=_
     rw [ex]; unfold plK; rw [h.1,h.2]⟩
    rw [ha] at this
    cases this
theorem qK (hr:Room 1 (A.deeper (PyProof.Rows.envOfC "_law_done" (ae bZ) s.heap.objs.size f cdv))) (CU:Has P w K mg base 1 "_law_under" ["_law_book_here","_law_number","_law_goal"] jh) :
  ∃ t,PS (DX P w K mg base f cdv A outer s H0 E) (elS 3) t∧∀ (D:Ends) (H:Hp) (a c d:Addr) (dd:TW.Deed Str) (n p:Int) (nm:Str) (as:List (Addr×(Addr×Nd))) (zs:ZN),LD H0 H a c d dd as zs→iY (nds zs) dd n p nm→TW.iU (nds zs) p→1≤n →
   (dd = .move n p nm→p≠0→TW.Und (nds zs) n p→D.rt (.str "inside") H)→(NotIn (nds zs) dd n p→D.nx [some (.ref a),some (.ref c),some (.ref d),some (.int n),some (.int p)] H) →
   t D [some (.ref a),some (.ref c),some (.ref d),some (.int n),some (.int p)] H:=by
 obtain ⟨fU,fdU,GU,mU,kU,bU⟩:=CU
 refine ⟨_,bw (PW.pt (pw_and (am fu (aH aC (pv 1) ah (λ_ _=>rfl)) aU (ar _)) (pw_and (am eB (pv 4) ah (ar _)) (pw_and1 (cB (al GU hr rfl mU kU bU .nil au (aa (pv 2) (aa (pv 4) (aa (pv 3) ag)))) (λ_=>rfl)))))) (ak (aq aU)) aJ,?_⟩
 intro D H a c d dd n p nm as zs L mm hF hn1 q1 q2
 have sd:SqT K H c (cb dd):=SqT.of L.deed
 rcases mm with ⟨st,rfl,hno⟩ | ⟨rfl,hh⟩
 ·exact ⟨_,rfl,c,_,_,_,rfl,rfl,sd,rfl,rfl,_,rfl,aR (aR (q2 λ⟨_,e⟩=>by cases e))⟩
 ·refine ⟨_,rfl,c,_,_,_,rfl,rfl,sd,rfl,rfl,_,rfl,bx ⟨_,rfl,rfl,_,rfl,?_⟩⟩
  by_cases hp0:p=0
  ·have e1:(!decide (V.int p=V.int 0))=false:=by simp [hp0]
   rw [e1]
   exact aR (aR (q2 λ_ h=>absurd hp0 h))
  ·have e1:(!decide (V.int p=V.int 0))=true:=by simp [hp0]
   rw [e1]
   rcases hF with e | ⟨m,hm,_,em⟩
   ·exact absurd e hp0
   ·obtain ⟨pa,hpa⟩:=TW.PathTo.ex L.tre.tr hm
    rw [em] at hpa
    refine bx ⟨_,rfl,_,rfl,_,rfl,d,p,n,as,zs,pa,rfl,L.book,L.tre.tr,hpa,hn1,λb hb=>⟨b,rfl,?_⟩⟩
    cases b with
    | true=>exact bx (q1 rfl hp0 (hb.mp rfl))
    | false=>exact aR (q2 λ_ _ hu=>by have:=hb.mpr hu; cases this)
theorem uW (hr:Room 1 (A.deeper (PyProof.Rows.envOfC "_law_done" (ae bZ) s.heap.objs.size f cdv))) (CU:Has P w K mg base 1 "_law_under" ["_law_book_here","_law_number","_law_goal"] jh) :
  ∃ t,PSs (DX P w K mg base f cdv A outer s H0 E) vz t∧∀ (D:Ends) (H:Hp) (a c d:Addr) (dd:TW.Deed Str) (n p:Int) (nm:Str) (as:List (Addr×(Addr×Nd))) (zs:ZN),LD H0 H a c d dd as zs→H d=some (.dK (aT as))→iY (nds zs) dd n p nm→1≤n →
   (∀ wd H',Same H0 H'→TW.Told (nds zs) dd (.inl wd)→D.rt (.str (sA wd)) H') →
   (∀ x4 bs H',Same H0 H'→H' d=some (.dK (bX bs))→(∀ b∈bs,H' b.1=some (.tup (ay b.2)))→(bs.map (·.2.num)).Nodup→bs.length≤zs.length+1→(∀ us,us.Perm (bs.map (·.2))→TW.br us→TW.Told (nds zs) dd (.inr us))→D.nx [some (.ref a),some (.ref c),some (.ref d),some (.int n),x4] H') →
   t D [some (.ref a),some (.ref c),some (.ref d),some (.int n),none] H:=by
 obtain ⟨t3,p3,h3⟩:=qK (f:=f) (cdv:=cdv) (outer:=outer) (H0:=H0) (E:=E) hr CU
 obtain ⟨t4,p4,h4⟩:=sW (P:=P) (w:=w) (mg:=mg) (base:=base) (K:=K) (f:=f) (cdv:=cdv) (outer:=outer) (H0:=H0) (E:=E) hr
 obtain ⟨t5,p5,h5⟩:=wT (P:=P) (w:=w) (mg:=mg) (base:=base) (K:=K) (f:=f) (cdv:=cdv) (outer:=outer) (H0:=H0) (E:=E) hr
 refine ⟨_,ai (ax (i:=4) ib.nd rfl (Or.inl rfl) (aH aC (pv 1) ah (λ_ _=>rfl)))
  (ai (bw (PW.pt (pw_and (am eB (pv 4) ah (ar _)) (pw_and1 (ko (jF (ca hr) (pv 4) (pv 2)))))) (ak (aq aU)) aJ)
  (ai (bw (PW.pt (pw_and (am eB (pv 4) ah (ar _)) (pw_and1 (am oG (aH aC (cw (ca hr) (pv 2) (pv 4) (λ_ _=>rfl)) ah (λ_ _=>rfl)) dm (ar _))))) (ak (aq aU)) aJ)
  (ai p3 (ai p4 (ak p5))))),?_⟩
 intro D H a c d dd n p nm as zs L hd mm hn1 qw qn
 have hT:=L.tre.tr
 have hnd:=cx hT
 have a2:atI (cb dd) 2=some (.int p):=by rcases mm with ⟨st,rfl,_⟩ | ⟨rfl,_⟩ <;> rfl
 have rest:TW.iU (nds zs) p→qT t3 (qT t4 t5) D [some (.ref a),some (.ref c),some (.ref d),some (.int n),some (.int p)] H:=λhF=>by
  refine h3 _ H a c d dd n p nm as zs L mm hF hn1 (λe h0 hu=>?_) λhi=>?_
  ·subst e
   rcases mm with ⟨st,e,_⟩ | ⟨_,hh⟩
   ·cases e
   ·exact qw .inside H L.s0 (.vIn hh hF h0 hu)
  ·refine h4 _ H a c d dd n p nm as zs _ L hd mm (λH' s' ⟨m,hm,h1,h2,h3⟩=>qw .taken H' s' (mm.taken hF hi hm h1 h2 h3)) λo H' L' hd' hfree=>?_
   exact h5 _ H' a c d dd n p nm as zs _ o L' hd' mm hF hi hfree λbs H2 e1 e2 e3 e4 e5 e6=>qn _ bs H2 e1 e2 e3 e4 e5 e6
 refine ⟨_,rfl,c,_,_,_,rfl,rfl,SqT.of L.deed,a2,?_⟩
 refine ⟨_,rfl,rfl,_,rfl,?_⟩
 by_cases hp0:p=0
 ·have e1:(!decide (V.int p=V.int 0))=false:=by simp [hp0]
  rw [e1]
  refine aR (aR ⟨_,rfl,rfl,_,rfl,?_⟩)
  rw [e1]
  exact aR (aR (rest (.inl hp0)))
 ·have e1:(!decide (V.int p=V.int 0))=true:=by simp [hp0]
  rw [e1]
  by_cases hh:∃ z∈zs,z.2.num=p
  ·obtain ⟨z,hz,ez⟩:=hh
   obtain ⟨b,hb1,hb2⟩:=L.book.get hnd hz
   rw [ez] at hb1
   refine bx ⟨_,rfl,_,rfl,d,_,rfl,hb1,_,rfl,aR ⟨_,rfl,rfl,_,rfl,?_⟩⟩
   rw [e1]
   refine bx ⟨_,rfl,_,rfl,d,_,rfl,hb1,b,_,_,_,rfl,rfl,SqT.of hb2,wD z.2,rfl,_,rfl,?_⟩
   rw [uA]
   cases hs:z.2.st with
   | none=>exact aR (rest (.inr ⟨z.2,cT hz,hs,ez⟩))
   | some i=>exact bx (qw .notFolder H L.s0 (mm.file hp0 (cT hz) ez (by rw [hs]; simp)))
  ·exact bx ⟨_,rfl,_,rfl,d,_,rfl,L.book.not (λz hz e=>hh ⟨z,hz,e⟩),_,rfl,bx (qw .noNode H L.s0 (mm.no hp0 (gm hh)))⟩
theorem sX (hr:Room 1 (A.deeper (PyProof.Rows.envOfC "_law_done" (ae bZ) s.heap.objs.size f cdv))) (CU:Has P w K mg base 1 "_law_under" ["_law_book_here","_law_number","_law_goal"] jh) :
  ∃ t,PS (DX P w K mg base f cdv A outer s H0 E) (ldS 5) t∧∀ (D:Ends) (H:Hp) (a c d:Addr) (dd:TW.Deed Str) (n:Int) (as:List (Addr×(Addr×Nd))) (zs:ZN),LD H0 H a c d dd as zs→H d=some (.dK (aT as))→((∃ st,dd = .write n st∧TW.cI (nds zs) n)∨∃ p nm,iY (nds zs) dd n p nm)→1≤n →
   (∀ wd H',Same H0 H'→TW.Told (nds zs) dd (.inl wd)→D.rt (.str (sA wd)) H') →
   (∀ x4 bs H',Same H0 H'→H' d=some (.dK (bX bs))→(∀ b∈bs,H' b.1=some (.tup (ay b.2)))→(bs.map (·.2.num)).Nodup→bs.length≤zs.length+1→(∀ us,us.Perm (bs.map (·.2))→TW.br us→TW.Told (nds zs) dd (.inr us))→D.nx [some (.ref a),some (.ref c),some (.ref d),some (.int n),x4] H') →
   t D [some (.ref a),some (.ref c),some (.ref d),some (.int n),none] H:=by
 obtain ⟨te,pe,he⟩:=uW (f:=f) (cdv:=cdv) (outer:=outer) (H0:=H0) (E:=E) hr CU
 refine ⟨_,bw (am fu (aH aC (pv 1) ah (λ_ _=>rfl)) aU (ar _))
  (ai (bw (am ir (aH aC (cw (ca hr) (pv 2) (pv 3) (λ_ _=>rfl)) ah (λ_ _=>rfl)) dm (ar _)) (ak (aq aU)) aJ)
  (ak (kX (ca hr) (pv 2) (pv 3) (aB fz (cn eC (cw (ca hr) (pv 2) (pv 3) (λ_ _=>rfl)) dI (ci ah)) (cm (aa (aH aC (pv 1) ah (λ_ _=>rfl)) ag))) rfl))) pe,?_⟩
 intro D H a c d dd n as zs L hd hdd hn1 qw qn
 have hT:=L.tre.tr
 have hnd:=cx hT
 have hlen:=L.tre.len
 have sd:SqT K H c (cb dd):=SqT.of L.deed
 rcases hdd with ⟨st,rfl,m,hm,em⟩ | ⟨p,nm,mm⟩
 ·obtain ⟨z,hz,rfl⟩:=gI hm
  obtain ⟨b,hb1,hb2⟩:=L.book.get hnd hz
  rw [em] at hb1
  refine ⟨_,rfl,c,_,_,_,rfl,rfl,sd,rfl,rfl,_,rfl,bx ⟨_,rfl,_,rfl,d,_,rfl,hb1,b,_,_,_,rfl,rfl,SqT.of hb2,wD z.2,rfl,_,rfl,?_⟩⟩
  cases hs:z.2.st with
  | none=>exact bx (qw .notFile H L.s0 (.wFold hm em hs))
  | some i =>
   refine aR ⟨_,rfl,_,rfl,d,_,rfl,hb1,_,rfl,b,_,rfl,SqT.of hb2,(λh=>absurd h.2 (show ¬ HT.sIx 3 3 (some 2)=3 by decide)),λt1 ht1=>?_⟩
   have s2:=af (o:=.tup (cv (ay z.2) none (some 2))) ht1
   refine ⟨_,rfl,c,_,_,_,rfl,rfl,SqT.of (s2 _ _ L.deed),rfl,(show 1≤sizeLine from aw (by decide)),λt2 ht2=>?_⟩
   have s3:=s2.trans (af (o:=.tup [.int st]) ht2)
   refine ⟨t1,t2,[.int z.2.par,.str z.2.nm],[.int st],rfl,rfl,SqT.of (bp ht2 ac),SqT.of ac,by simp,(show 3≤sizeLine from aw (by decide)),λh=>absurd h (List.cons_ne_nil _ _),λ_ q hq=>?_⟩
   have s4:=s3.trans (af (o:=.tup ([.int z.2.par,.str z.2.nm]++[.int st])) hq)
   have hq4:upd (upd (upd H t1 (.tup (cv (ay z.2) none (some 2)))) t2 (.tup [.int st])) q (.tup ([.int z.2.par,.str z.2.nm]++[.int st])) q=some (.tup (ay ⟨n,z.2.par,z.2.nm,some st⟩)):=ac
   have hbl:(aT as).length≤1000:=by
    have:=congrArg List.length L.book.of
    unfold aT
    rw [List.length_map] at this ⊢
    omega
   refine ⟨_,rfl,_,rfl,d,_,rfl,lS.k (k:=Sum.inl n) (s4 _ _ hd) (aS hbl),?_⟩
   have L4:=L.same s4
   obtain ⟨bs,e1,e2,e3,e4,e5⟩:=nc (new:=⟨n,z.2.par,z.2.nm,some st⟩) (s4 _ _ hd) L4.book.of L4.book.at' hq4 hnd
   refine qn _ bs _ (aM L.d0 L4.s0) e1 e2 e3 e4 λus hp hrise=>?_
   rcases e5 with ⟨h1,h2⟩ | ⟨h1,h2⟩
   ·rw [h2] at hp
    rw [TW.mY hrise (TW.gk hT.rise) hp]
    exact .wrote hm em (by rw [hs]; simp)
   ·exact absurd ⟨z.2,hm,em⟩ h1
 ·rcases id mm with ⟨st,rfl,_⟩ | ⟨rfl,_⟩
  ·exact ⟨_,rfl,c,_,_,_,rfl,rfl,sd,rfl,rfl,_,rfl,aR (he D H a c d _ n p nm as zs L hd mm hn1 qw qn)⟩
  ·exact ⟨_,rfl,c,_,_,_,rfl,rfl,sd,rfl,rfl,_,rfl,aR (he D H a c d _ n p nm as zs L hd mm hn1 qw qn)⟩
end
section
variable {P:Program} {w:World} {K:PySem.W.Frag} {mg:Str→Option Value} {base:Heap}
noncomputable def ic:Sp:=λvs H Q _=>∃ a c dd zs,vs=[.ref a,.ref c]∧Tre H a zs∧zs.length≤29∧H c=some (.tup (cb dd))∧ln dd∧(∀ us t' H',Same H H'→H' t'=some (.tup (aN us))→At H' us→TW.Told (nds zs) dd (.inr (nds us))→Q (.ref t') H')∧∀ wd H',Same H H'→TW.Told (nds zs) dd (.inl wd)→Q (.str (sA wd)) H'
theorem sY {f:Addr} {fd:FuncData} (F:Fun K "_law_done" "_law_done" bZ f fd) (T:Txt mg) (CK:Has P w K mg base 1 "_law_book" ["_law_tree_here"] lz) (CU:Has P w K mg base 1 "_law_under" ["_law_book_here","_law_number","_law_goal"] jh) :
  FnOk P w K mg base CX0 2 f fd ["_law_tree_here","_law_deed_here"] ic:=by
 obtain ⟨fK,fdK,GK,mK,kK,bK⟩:=CK
 refine F.ok ib (λvs H Q E h=>?_) (λcdv A outer s H vs Q E hr h=>?_)
 ·obtain ⟨a,c,dd,zs,rfl,_⟩:=h
  rfl
 ·obtain ⟨a,c,dd,zs,rfl,tr,hl,hc,hok,qo,qw⟩:=h
  obtain ⟨t4,p4,h4⟩:=uV (f:=f) (cdv:=cdv) (outer:=outer) (H0:=H) (E:=E) T hr CU
  obtain ⟨t5,p5,h5⟩:=sX (f:=f) (cdv:=cdv) (outer:=outer) (H0:=H) (E:=E) hr CU
  obtain ⟨t6,p6,h6⟩:=wS (P:=P) (w:=w) (K:=K) (mg:=mg) (base:=base) (f:=f) (cdv:=cdv) (outer:=outer) (H0:=H) (E:=E) T hr
  refine ⟨_,ai (ax (i:=2) ib.nd rfl (Or.inr rfl) (al GK hr rfl mK kK bK .nil au (aa (pv 0) ag)))
   (ai (ax (i:=3) ib.nd rfl (Or.inr rfl) (aH aC (pv 1) ah (λ_ _=>rfl)))
   (ai (bw (PW.pt (pw_and (am fu (aH aC (pv 1) ah (λ_ _=>rfl)) aU (ar _)) (pw_and1 (ko (rp (ca hr) (pv 3) (pv 2)))))) (ak (aq aU)) aJ)
   (ai (bw (PW.pt (pw_and (am eB (aH aC (pv 1) ah (λ_ _=>rfl)) aU (ar _)) (pw_and1 (ko (jF (ca hr) (pv 3) (pv 2)))))) (ak (aq aU)) aJ)
   (ai p4 (ai p5 (ak p6)))))),?_⟩
  refine ⟨_,rfl,a,zs,rfl,tr,λd as H1 s1 d0 bk hd=>?_⟩
  have L:LD H H1 a c d dd as zs:=⟨s1,d0,tr.same s1,s1 _ _ hc,bk⟩
  have hnd:=cx tr.tr
  have sd:SqT K H1 c (cb dd):=SqT.of L.deed
  have last:∀ x4 n bs H',Same H H'→H' d=some (.dK (bX bs))→(∀ b∈bs,H' b.1=some (.tup (ay b.2)))→(bs.map (·.2.num)).Nodup→bs.length≤zs.length+1→(∀ us,us.Perm (bs.map (·.2))→TW.br us→TW.Told (nds zs) dd (.inr us)) →
    t6 { nx:=λ_ H'=>Q .non H',rt:=Q } [some (.ref a),some (.ref c),some (.ref d),some (.int n),x4] H':=λx4 n bs H' s' e1 e2 e3 e4 e5 =>
   h6 _ H' _ _ _ _ _ d bs rfl e1 e2 e3 (by omega) λo us t' H2 s2 ht' hA' hp hrise=>qo us t' H2 ((aM d0 s').trans s2) ht' hA' (e5 _ hp hrise)
  cases dd with
  | make n p nm st =>
   refine ⟨_,rfl,c,_,_,_,rfl,rfl,sd,rfl,_,rfl,c,_,_,_,rfl,rfl,sd,rfl,rfl,_,rfl,bx ?_⟩
   by_cases hh:∃ z∈zs,z.2.num=n
   ·obtain ⟨z,hz,ez⟩:=hh
    obtain ⟨b,hb1,_⟩:=L.book.get hnd hz
    rw [ez] at hb1
    exact ⟨_,rfl,_,rfl,d,_,rfl,hb1,_,rfl,bx (qw .known H1 s1 (.mKnown (gn hz ez)))⟩
   ·refine ⟨_,rfl,_,rfl,d,_,rfl,L.book.not (λz hz e=>hh ⟨z,hz,e⟩),_,rfl,aR ?_⟩
    refine ⟨_,rfl,c,_,_,_,rfl,rfl,sd,rfl,rfl,_,rfl,aR (aR ?_)⟩
    refine h4 _ H1 _ a c d _ n as zs rfl L.tre L.deed bk hok.1 (λ⟨k,e⟩=>by cases e) λ_=>?_
    exact h5 _ H1 a c d _ n as zs L hd (.inr ⟨p,nm,.inl ⟨st,rfl,gm hh⟩⟩) hok.1 qw λx4 bs H'=>last x4 n bs H'
  | write n st =>
   refine ⟨_,rfl,c,_,_,_,rfl,rfl,sd,rfl,_,rfl,c,_,_,_,rfl,rfl,sd,rfl,rfl,_,rfl,aR (aR ?_)⟩
   refine ⟨_,rfl,c,_,_,_,rfl,rfl,sd,rfl,rfl,_,rfl,bx ?_⟩
   by_cases hh:∃ z∈zs,z.2.num=n
   ·obtain ⟨z,hz,ez⟩:=hh
    obtain ⟨b,hb1,_⟩:=L.book.get hnd hz
    rw [ez] at hb1
    refine ⟨_,rfl,_,rfl,d,_,rfl,hb1,_,rfl,aR ?_⟩
    refine h4 _ H1 _ a c d _ n as zs rfl L.tre L.deed bk hok.1 (λ⟨k,e⟩=>by cases e) λ_=>?_
    exact h5 _ H1 a c d _ n as zs L hd (.inl ⟨st,rfl,gn hz ez⟩) hok.1 qw λx4 bs H'=>last x4 n bs H'
   ·exact ⟨_,rfl,_,rfl,d,_,rfl,L.book.not (λz hz e=>hh ⟨z,hz,e⟩),_,rfl,bx (qw .noNode H1 s1 (.wNo (gm hh)))⟩
  | move n p nm =>
   refine ⟨_,rfl,c,_,_,_,rfl,rfl,sd,rfl,_,rfl,c,_,_,_,rfl,rfl,sd,rfl,rfl,_,rfl,aR (aR ?_)⟩
   refine ⟨_,rfl,c,_,_,_,rfl,rfl,sd,rfl,rfl,_,rfl,bx ?_⟩
   by_cases hh:∃ z∈zs,z.2.num=n
   ·obtain ⟨z,hz,ez⟩:=hh
    obtain ⟨b,hb1,_⟩:=L.book.get hnd hz
    rw [ez] at hb1
    refine ⟨_,rfl,_,rfl,d,_,rfl,hb1,_,rfl,aR ?_⟩
    refine h4 _ H1 _ a c d _ n as zs rfl L.tre L.deed bk hok.1 (λ⟨k,e⟩=>by cases e) λ_=>?_
    exact h5 _ H1 a c d _ n as zs L hd (.inr ⟨p,nm,.inr ⟨rfl,gn hz ez⟩⟩) hok.1 qw λx4 bs H'=>last x4 n bs H'
   ·exact ⟨_,rfl,_,rfl,d,_,rfl,L.book.not (λz hz e=>hh ⟨z,hz,e⟩),_,rfl,bx (qw .noNode H1 s1 (.vNo (gm hh)))⟩
  | drop n =>
   refine ⟨_,rfl,c,_,_,_,rfl,rfl,sd,rfl,_,rfl,c,_,_,_,rfl,rfl,sd,rfl,rfl,_,rfl,aR (aR ?_)⟩
   refine ⟨_,rfl,c,_,_,_,rfl,rfl,sd,rfl,rfl,_,rfl,bx ?_⟩
   by_cases hh:∃ z∈zs,z.2.num=n
   ·obtain ⟨z,hz,ez⟩:=hh
    obtain ⟨b,hb1,_⟩:=L.book.get hnd hz
    rw [ez] at hb1
    refine ⟨_,rfl,_,rfl,d,_,rfl,hb1,_,rfl,aR ?_⟩
    refine h4 _ H1 _ a c d _ n as zs rfl L.tre L.deed bk hok.1 (λ_ us t' H' g s2 ht' hA' e hg=>qo us t' H' (s1.trans s2) ht' hA' ?_) λh=>absurd ⟨n,rfl⟩ h
    rw [e]
    exact .dropped (gn hz ez) hg
   ·exact ⟨_,rfl,_,rfl,d,_,rfl,L.book.not (λz hz e=>hh ⟨z,hz,e⟩),_,rfl,bx (qw .noNode H1 s1 (.dNo (gm hh)))⟩
noncomputable def om (K:PySem.W.Frag):Sp:=λvs H Q _=>∃ a k,vs=[.ref a,.int k]∧0≤k∧dD K H a∧∀ r H',Same H H'→Q (.int r) H'
theorem wU:FnScope ["_law_script","_law_k"] ["_law_script","_law_k"] (ae ka):=⟨rfl,rfl,rfl,by decide +kernel,rfl,by decide +kernel,by decide +kernel⟩
theorem uX {f:Addr} {fd:FuncData} (F:Fun K "_law_cell" "_law_cell" ka f fd) (T:Txt mg):FnOk P w K mg base CX0 1 f fd ["_law_script","_law_k"] (om K):=by
 refine F.ok wU (λvs H Q E h=>?_) (λcdv A outer s H vs Q E hr h=>?_)
 ·obtain ⟨a,k,rfl,_⟩:=h
  rfl
 ·obtain ⟨a,k,rfl,hk,⟨ns,ea⟩,q⟩:=h
  refine ⟨_,ai (bw (am lM (pv 1) (aF aX rfl T.len PySem.boot_len (aa (pv 0) ag)) (ar _)) (ak (aq (aH cq (pv 0) (pv 1) (λ_ _=>rfl)))) aJ)
   (ai (bw (am (fg hr.units0) (pv 0) (bJ ag) (ar _)) (ak (aq ah)) aJ)
   (ak (aq (aB ba (aB db (aH cq (pv 0) (aB ku (pv 1) (aF aX rfl T.len PySem.boot_len (aa (pv 0) ag))) (λ_ _=>rfl)) ah) (pv 1))))),?_⟩
  refine ⟨_,rfl,_,rfl,a,_,rfl,.inl (ea),_,_,rfl,rfl,_,rfl,?_⟩
  rw [List.length_map]
  by_cases h:k<(ns.length:Int)
  ·rw [decide_eq_true h]
   obtain ⟨j,ej⟩:=mZ hk h
   exact bx ⟨_,rfl,_,rfl,a,_,_,_,rfl,rfl,ea,ej,q _ _ (Same.refl _)⟩
  ·rw [decide_eq_false h]
   refine aR ⟨_,rfl,Nat.zero_le _,λp hp=>⟨a,p,_,rfl,rfl,((af hp).seq ea),SqL.of ac,_,rfl,?_⟩⟩
   by_cases h0:ns=[]
   ·subst h0
    exact bx (q _ _ (af hp))
   ·have hne:¬ ns.map V.int=[]:=by simpa using h0
    rw [decide_eq_false hne]
    have hpos:0<ns.length:=List.length_pos_iff.mpr h0
    have hm1:0≤k % (ns.length:Int):=Int.emod_nonneg _ (by omega)
    have hm2:k % (ns.length:Int)<ns.length:=Int.emod_lt_of_pos _ (by omega)
    obtain ⟨j,ej⟩:=mZ hm1 hm2
    have ej':atI (ns.map V.int) (k % ((ns.map V.int).length:Int))=some (.int j):=by rw [List.length_map]; exact ej
    exact aR ⟨_,rfl,_,rfl,_,rfl,a,_,rfl,.inl (((af hp).seq ea)),_,_,rfl,rfl,by rw [List.length_map]; omega,a,_,_,_,rfl,rfl,((af hp).seq ea),ej',_,_,rfl,rfl,.inr ⟨by decide,by decide⟩,_,rfl,_,_,rfl,rfl,q _ _ (af hp)⟩
noncomputable def dU (K:PySem.W.Frag):Sp:=λvs H Q _=>∃ a k m,vs=[.ref a,.int k,.int m]∧0≤k∧0<m∧dD K H a∧∀ r H',0≤r→r<m→Same H H'→Q (.int r) H'
theorem sZ:FnScope ["_law_script","_law_k","_law_many","_law_drawn"] ["_law_script","_law_k","_law_many"] (ae kb):=⟨rfl,rfl,rfl,by decide +kernel,rfl,by decide +kernel,by decide +kernel⟩
theorem uY {f:Addr} {fd:FuncData} (F:Fun K "_law_pick" "_law_pick" kb f fd) (T:Txt mg) (C:Has P w K mg base 1 "_law_cell" ["_law_script","_law_k"] (om K)):FnOk P w K mg base CX0 2 f fd ["_law_script","_law_k","_law_many"] (dU K):=by
 obtain ⟨fC,fdC,GC,mC,kC,bC⟩:=C
 refine F.ok sZ (λvs H Q E h=>?_) (λcdv A outer s H vs Q E hr h=>?_)
 ·obtain ⟨a,k,m,rfl,_⟩:=h
  rfl
 ·obtain ⟨a,k,m,rfl,hk,hm,hS,q⟩:=h
  refine ⟨_,(ai (ax (i:=3) sZ.nd rfl (Or.inl rfl) (aB ku (aB db (aB ba (al GC hr rfl mC kC bC .nil au (aa (pv 0) (aa (pv 1) ag))) (aB db ah (aB ba (pv 1) ah))) ah) ah))
   (ak (aq (aB ku (aB ku (aB ba (aB db (pv 3) (pv 3)) (aB oB (pv 3) ah)) ah) (pv 2))))),?_⟩
  refine ⟨_,rfl,_,rfl,a,k,rfl,hk,hS,λr H1 s1=>?_⟩
  refine ⟨_,rfl,_,_,rfl,rfl,_,_,rfl,rfl,.inl ⟨by decide,by decide⟩,_,_,rfl,rfl,_,_,rfl,rfl,.inr ⟨by decide,by decide⟩,_,_,rfl,rfl,(by decide:(0:Int)<2147483399),?_⟩
  generalize hd:(r+6151 * (k+1)) * 40692 % 2147483399=dr
  have d0:0≤dr:=by rw [← hd]; exact Int.emod_nonneg _ (by decide)
  have d1:dr<2147483399:=by rw [← hd]; exact Int.emod_lt_of_pos _ (by decide)
  refine ⟨_,rfl,_,rfl,_,_,rfl,rfl,.inl ⟨by omega,by omega⟩,_,rfl,_,_,rfl,rfl,⟨by decide,by decide⟩,_,_,rfl,rfl,_,_,rfl,rfl,(by decide:(0:Int)<2147483629),_,rfl,_,_,rfl,rfl,hm,?_⟩
  exact q _ _ (Int.emod_nonneg _ (by omega)) (Int.emod_lt_of_pos _ hm) s1
noncomputable def lA (K:PySem.W.Frag):Sp:=λvs H Q _=>∃ a at' m,vs=[.ref a,.int at',.int m]∧0≤at'∧0≤m∧m≤9∧dD K H a∧∀ t zs H',H' t=some (.tup (aN zs))→At H' zs→(zs.length:Int)≤m→TW.Tree (nds zs)→(∀ z∈zs,uw z.2)→Same H H'→Q (.ref t) H'
theorem scB:FnScope ["_law_script","_law_at","_law_most","_law_left","_law_folders","_law_nodes","_law_k","_law_number","_law_parent","_law_name","_law_stamp"] ["_law_script","_law_at","_law_most"] (ae dQ):=⟨rfl,rfl,rfl,by decide +kernel,rfl,by decide +kernel,by decide +kernel⟩
noncomputable def buS (i:Nat):Stmt:=match (ao dQ).getD 3 (.Pass ⟨0,0,0,0⟩) with
 | .For _ _ b _ _=>b.getD i (.Pass ⟨0,0,0,0⟩)
 | x=>x
noncomputable abbrev BX (P:Program) (w:World) (K:PySem.W.Frag) (mg:Str→Option Value) (base:Heap) (f:Addr) (cdv:Value) (A:Around) (outer:List Env) (s:Shared) (H:Hp) (E:XK):Cx:=(eR CX0 P w K mg base ["_law_script","_law_at","_law_most","_law_left","_law_folders","_law_nodes","_law_k","_law_number","_law_parent","_law_name","_law_stamp"] "_law_tree" (ae dQ) f cdv A outer s H E).nox
theorem xU {f:Addr} {cdv:Value} {A:Around} {outer:List Env} {s:Shared} {H0:Hp} {E:XK} (hr:Room 2 (A.deeper (PyProof.Rows.envOfC "_law_tree" (ae dQ) s.heap.objs.size f cdv))) :
  ∃ t,PS (BX P w K mg base f cdv A outer s H0 E) (buS 5) t∧∀ (D:Ends) (H H6:Hp) (pl pf pn:Addr) (x0 x1 x2 x6:Option V) (lf:List Int) (zs:ZN) (num par:Int) (nm:Str) (st:Option Int),Sta H pl pf pn H6 lf (0 :: TW.aO (nds zs)) zs→zs.length≤20 →
   (∀ H',Sta H pl pf pn H' lf (0 :: TW.aO (nds zs)) zs→D.nx [x0,x1,x2,some (.ref pl),some (.ref pf),some (.ref pn),x6,some (.int num),some (.int par),some (.str nm),some (stV st)] H') →
   (∀ q H',(∀ z∈zs,¬ (z.2.par=par∧z.2.nm=nm))→Sta H pl pf pn H' lf (0 :: TW.aO (nds (zs++[(q,⟨num,par,nm,st⟩)]))) (zs++[(q,⟨num,par,nm,st⟩)])→D.nx [x0,x1,x2,some (.ref pl),some (.ref pf),some (.ref pn),x6,some (.int num),some (.int par),some (.str nm),some (stV st)] H') →
   t D [x0,x1,x2,some (.ref pl),some (.ref pf),some (.ref pn),x6,some (.int num),some (.int par),some (.str nm),some (stV st)] H6:=by
 refine ⟨_,bw (am (jn (ca hr)) (cm (aa (pv 8) (aa (pv 9) ag))) (eT (N:=["_law_node"]) (k:=1) (js:=[]) (g:=bc 0) rfl (cN rfl (by decide +kernel) (by decide +kernel) (by decide +kernel)) rfl (λi j x h=>by simp at h)
     (dH (pv 5)) (λs H fp=>aK (i:=0) (show (["_law_node"]:List Str).Nodup by decide +kernel) rfl (Or.inl rfl) (Or.inr rfl))
     (λs H fp=>cn (r:=rh K) eC (pv 0) (ci ah) (ci ah))) rfl) (ai (ft (iB PySem.F.plainAttrs_list PySem.F.slot_list_append PySem.F.type_list_append cj (pv 5) (aa (cm (aa (pv 7) (aa (pv 8) (aa (pv 9) (aa (pv 10) ag))))) ag))) (ak (bw (am ir (pv 10) dm (ar _)) (ak (ft (iB PySem.F.plainAttrs_list PySem.F.slot_list_append PySem.F.type_list_append cj (pv 4) (aa (pv 7) ag)))) aJ))) aJ,?_⟩
 intro D H H6 pl pf pn x0 x1 x2 x6 lf zs num par nm st A6 hzl qs qa
 refine ⟨_,rfl,_,rfl,le2,λq0 hq0=>?_⟩
 have A7:=A6.grow (af (o:=.tup [.int par,.str nm]) hq0)
 have eq0:(upd H6 q0 (.tup [.int par,.str nm])) q0=some (.tup ([Sum.inl par,Sum.inr nm].map kV)):=ac
 refine ⟨_,rfl,pn,rfl,⟨_,SqL.of A7.n⟩,λp hp=>?_⟩
 generalize upd H6 q0 (.tup [.int par,.str nm])=H7 at A7 eq0 hp ⊢
 refine my (k:=1) (js:=[]) (J:=Itl K pn) (p:=p) zs.length (by omega) (λi ys σ' H'=>∃ kss:List (Addr×List Key),ys=(kss.map (·.1)).map V.ref∧kss.map (·.2)=((nds zs).take i).map plK∧kss.length=i∧(∀ z∈kss,H' z.1=some (.tup (z.2.map kV)))∧σ'.length=1∧Same H7 H'∧H' p=some (.lst ys))
  ⟨[],rfl,rfl,rfl,by simp,rfl,af hp,ac⟩ (λi ys σ' H' h=>?_) (λi ys σ' H' hi h=>?_) (λys σ' H' h=>?_) (λi ys σ' H' hi h v H2 hy=>?_) ?_ ?_
 ·obtain ⟨kss,rfl,_,e,_⟩:=h
  rw [List.length_map,List.length_map]; omega
 ·obtain ⟨_,_,_,_,_,_,s2,_⟩:=h
  exact ⟨_,_,SqL.of (s2 _ _ A7.n),dC (List.getElem?_eq_getElem hi)⟩
 ·obtain ⟨kss,e1,e2,e3,e4,_,s2,e5⟩:=h
  refine ⟨⟨_,SqL.of (s2 _ _ A7.n),by rw [bf]; exact Nat.le_refl _⟩,?_⟩
  subst e1
  refine ⟨q0,p,_,kss,rfl,s2 _ _ eq0,rfl,SqL.of e5,e4,_,rfl,?_⟩
  rw [List.take_of_length_le (by rw [av]; exact Nat.le_refl _)] at e2
  have A8:=A7.grow s2
  cases ea:(kss.any λz=>decide (z.2=[Sum.inl par,Sum.inr nm])) with
  | true=>exact aR (qs _ A8)
  | false =>
   have ho:∀ z∈zs,¬ (z.2.par=par∧z.2.nm=nm):=λz hz ⟨h1,h2⟩=>by
    have m1:plK z.2∈kss.map (·.2):=by rw [e2]; exact List.mem_map.mpr ⟨z.2,List.mem_map.mpr ⟨z,hz,rfl⟩,rfl⟩
    obtain ⟨y,hy,ey⟩:=List.mem_map.mp m1
    have:(kss.any λz=>decide (z.2=[Sum.inl par,Sum.inr nm]))=true:=List.any_eq_true.mpr ⟨y,hy,by rw [decide_eq_true_eq,ey]; unfold plK; rw [h1,h2]⟩
    rw [ea] at this; cases this
   refine bx ⟨_,rfl,.inl ⟨rfl,_,SqL.of A8.n⟩,_,rfl,_,rfl,_,rfl,_,rfl,(show 4≤sizeLine from aw (by decide)),λq hq=>⟨pn,_,_,rfl,rfl,bp hq A8.n,aS (by rw [bf]; omega),?_⟩⟩
   have A9:=(A8.grow (af (o:=.tup (vals ⟨num,par,nm,st⟩)) hq)).node (n:=⟨num,par,nm,st⟩) ac
   refine ⟨_,rfl,rfl,_,rfl,?_⟩
   cases st with
   | some i5 =>
    have ef:(0 :: TW.aO (nds zs))=(0:Int) :: TW.aO (nds (zs++[(q,⟨num,par,nm,some i5⟩)])):=by simp [TW.aO,nds]
    rw [ef] at A9
    exact aR (qa q _ ho A9)
   | none =>
    refine bx ⟨_,rfl,.inl ⟨rfl,_,SqL.of A9.f⟩,_,rfl,pf,_,_,rfl,rfl,A9.f,aS ?_,?_⟩
    ·have:=TW.dl (nds zs)
     rw [av] at this
     rw [List.length_map,List.length_cons]; omega
    ·have A10:=A9.fold num
     have ef:(0 :: TW.aO (nds zs))++[num]=(0:Int) :: TW.aO (nds (zs++[(q,⟨num,par,nm,none⟩)])):=by simp [TW.aO,nds]
     rw [ef] at A10
     exact qa q _ ho A10
 ·obtain ⟨kss,e1,e2,e3,e4,e0,s2,e5⟩:=h
  obtain ⟨o1,rfl⟩:=sv e0
  obtain ⟨rfl,hx⟩:=hy
  have gx:=hx _ (SqL.of (s2 _ _ A7.n))
  obtain ⟨z1,g1,rfl⟩:=cp gx
  have m1:=List.mem_of_getElem? g1
  have ecut:cv (vals z1.2) (some 1) (some 3)=[.int z1.2.par,.str z1.2.nm]:=rfl
  refine ⟨_,rfl,_,rfl,_,rfl,z1.1,_,rfl,SqT.of (s2 _ _ (A7.nd z1 m1)),(λh=>by have h1:(1:Nat)=0:=h.1; cases h1),λq hq=>?_⟩
  rw [ecut]
  refine ⟨bp hq e5,kss++[(q,plK z1.2)],by rw [e1]; simp,?_,by simp [e3],?_,rfl,aM hp (s2.trans (af hq)),ac⟩
  ·rw [List.map_append,e2,List.take_succ,show (nds zs)[i]? = some z1.2 by unfold nds; rw [List.getElem?_map,g1]; rfl,List.map_append]
   rfl
  ·intro z hz
   have hqp:q≠p:=λz=>by rw [z,e5] at hq; cases hq
   rcases List.mem_append.mp hz with hz | hz
   ·have:=bp (o:=.tup [.int z1.2.par,.str z1.2.nm]) hq (e4 z hz)
    rw [aj]
    ·exact this
    ·intro e
     rw [e,aj (Ne.symm hqp),e5] at this
     cases this
   ·have e:z=(q,plK z1.2):=by simpa using hz
    subst e
    rw [aj hqp]
    exact ac
 ·rintro _ _ _ _ _ m h
  exact m _ _ h
 ·rintro _ _ _ _ m ⟨v1,b0,i1,b1,i2,b2,a2,x2,c1,c2,c3,q⟩
  exact ⟨v1,b0,i1,b1,i2,b2,a2,x2,c1,c2,c3,λp hp=>m _ _ (q p hp)⟩
theorem tf {f:Addr} {fd:FuncData} (F:Fun K "_law_tree" "_law_tree" dQ f fd) (T:Txt mg) (C:Has P w K mg base 2 "_law_pick" ["_law_script","_law_k","_law_many"] (dU K)):FnOk P w K mg base CX0 3 f fd ["_law_script","_law_at","_law_most"] (lA K):=by
 obtain ⟨fP,fdP,GP,mP,kP,bP⟩:=C
 refine F.ok scB (λvs H Q E h=>?_) (λcdv A outer s H vs Q E hr h=>?_)
 ·obtain ⟨a,at',m,rfl,_⟩:=h
  rfl
 ·obtain ⟨a,at',m,rfl,ha0,hm0,hm9,hS,k⟩:=h
  obtain ⟨t5,p5,h5⟩:=xU (P:=P) (w:=w) (mg:=mg) (base:=base) (f:=f) (cdv:=cdv) (A:=A) (outer:=outer) (s:=s) (H0:=H) (E:=E) hr
  refine ⟨_,(ai (ax (i:=3) scB.nd rfl (Or.inl rfl) (aZ (jq rfl) rfl T.list rfl (aa (aZ qf rfl T.range rfl (aa ah (aa (aB ba (pv 2) ah) ag))) ag)))
    (ai (ax (i:=4) scB.nd rfl (Or.inl rfl) (bJ (aa ah ag)))
    (ai (ax (i:=5) scB.nd rfl (Or.inl rfl) (bJ ag))
    (ai (ip PassesOwn.never rfl (gw rfl T.range (aa (al GP hr rfl mP kP bP .nil au (aa (pv 0) (aa (pv 1) (aa (aB ba (pv 2) ah) ag)))) ag)) (aK (i:=6) scB.nd rfl (Or.inl rfl))
    (ai (ax (i:=7) scB.nd rfl (Or.inl rfl) (iB PySem.F.plainAttrs_list PySem.F.slot_list_pop PySem.F.type_list_pop rl (pv 3) (aa (al GP hr rfl mP kP bP .nil au (aa (pv 0) (aa (aB ba (aB ba (pv 1) ah) (aB db ah (pv 6))) (aa (aF aX rfl T.len PySem.boot_len (aa (pv 3) ag)) ag)))) ag)))
    (ai (ax (i:=8) scB.nd rfl (Or.inl rfl) (aH cq (pv 4) (al GP hr rfl mP kP bP .nil au (aa (pv 0) (aa (aB ba (aB ba (pv 1) ah) (aB db ah (pv 6))) (aa (aF aX rfl T.len PySem.boot_len (aa (pv 4) ag)) ag)))) (λ_ _=>rfl)))
    (ai (ax (i:=9) scB.nd rfl (Or.inl rfl) (aH cq (bJ (aa aU (aa aU (aa aU (aa aU ag))))) (al GP hr rfl mP kP bP .nil au (aa (pv 0) (aa (aB ba (aB ba (pv 1) ah) (aB db ah (pv 6))) (aa ah ag)))) (λ_ _=>rfl)))
    (ai (ax (i:=10) scB.nd rfl (Or.inl rfl) dm)
    (ai (bw (am xt (al GP hr rfl mP kP bP .nil au (aa (pv 0) (aa (aB ba (aB ba (pv 1) ah) (aB db ah (pv 6))) (aa ah ag)))) ah (ar _)) (ak (ax (i:=10) scB.nd rfl (Or.inl rfl) (aH cq (bJ (aa ah (aa ah (aa ah (aa ah ag))))) (al GP hr rfl mP kP bP .nil au (aa (pv 0) (aa (aB ba (aB ba (pv 1) ah) (aB db ah (pv 6))) (aa ah ag)))) (λ_ _=>rfl)))) aJ)
    (ak p5)))))))
    (ak (aq (aZ bq rfl T.tuple rfl (aa (aF gG rfl T.sorted PyProof.Rows.boot_sorted (aa (pv 5) ag)) ag)))))))),?_⟩
  refine ⟨_,rfl,_,_,rfl,rfl,_,_,rfl,λp1 hp1=>⟨p1,_,_,rfl,ac,⟨by decide,by decide,by omega,by omega⟩,by omega,λpl hpl=>?_⟩⟩
  refine ⟨aw (by decide),λpf hpf=>⟨Nat.zero_le _,λpn hpn=>?_⟩⟩
  have s0:Same H (upd (upd (upd (upd H p1 (.rng 1 (m+4))) pl (.lst ((List.range (m+4 - 1:Int).toNat).map λk=>V.int (1+(k:Nat))))) pf (.lst [.int 0])) pn (.lst [])):=(((af hp1).trans (af hpl)).trans (af hpf)).trans (af hpn)
  have hfl:pl≠pf:=λe=>by rw [← e,ac] at hpf; cases hpf
  have hln:pl≠pn:=λe=>by rw [← e,aj hfl,ac] at hpn; cases hpn
  have hfn:pf≠pn:=λe=>by rw [← e,ac] at hpn; cases hpn
  have A0:Sta H pl pf pn (upd (upd (upd (upd H p1 (.rng 1 (m+4))) pl (.lst ((List.range (m+4 - 1:Int).toNat).map λk=>V.int (1+(k:Nat))))) pf (.lst [.int 0])) pn (.lst [])) (lf0 m) [0] [] :=
   ⟨s0,by rw [aj hln,aj hfl,ac,lf0,List.map_map]; rfl,by rw [aj hfn,ac]; rfl,ac,λz hz=>by simp at hz,(af hp1).free hpl,((af hp1).trans (af hpl)).free hpf,(((af hp1).trans (af hpl)).trans (af hpf)).free hpn,hfl,hln,hfn⟩
  have B0:Bd [] (lf0 m):=Bd.zero hm9
  refine ⟨_,rfl,_,rfl,_,rfl,_,_,rfl,rfl,a,_,_,rfl,ha0,by omega,hS.same s0,λr H1 r0 r1 s1=>⟨r,rfl,by omega,by omega,?_⟩⟩
  refine jx (n:=r.toNat) (λi σ H'=>∃ lf zs o6 o7 o8 o9 o10,σ=[some (.ref a),some (.int at'),some (.int m),some (.ref pl),some (.ref pf),some (.ref pn),o6,o7,o8,o9,o10]∧Sta H pl pf pn H' lf (0 :: TW.aO (nds zs)) zs∧Bd zs lf∧(lf.length:Int)+i=m+3∧zs.length≤i)
   ⟨_,[],_,_,_,_,_,rfl,A0.grow s1,B0,by rw [uy hm0]; omega,Nat.le_refl _⟩ (λi σ H' hi h=>?_) (λσ H' h=>?_)
  ·obtain ⟨lf,zs,o6,o7,o8,o9,o10,rfl,A1,B,hlf,hzl⟩:=h
   have hi8:i<10:=by omega
   have z0:(0:Int)≤at'+1+6 * (0+(i:Int)):=by omega
   refine ⟨_,rfl,.inl ⟨rfl,_,SqL.of A1.l⟩,_,rfl,_,rfl,_,_,rfl,rfl,_,rfl,_,_,rfl,rfl,.inl ⟨by decide,by decide⟩,_,_,rfl,rfl,_,rfl,pl,_,rfl,.inl (SqL.of A1.l),a,_,_,rfl,by omega,by rw [List.length_map]; omega,hS.same A1.same,λj H2 j0 j1 s2=>?_⟩
   rw [List.length_map] at j1
   have A2:=A1.grow s2
   obtain ⟨num,gnum⟩:∃ num,lf[j.toNat]? = some num:=⟨_,List.getElem?_eq_getElem (by omega)⟩
   refine ⟨pl,_,j,j.toNat,.int num,rfl,rfl,A2.l,by omega,by omega,by rw [List.length_map]; exact wA j0 j1,by rw [List.getElem?_map,gnum]; rfl,?_⟩
   rw [jU]
   have A3:=A2.pop (lf.eraseIdx j.toNat)
   have elen:(lf.eraseIdx j.toNat).length=lf.length - 1:=List.length_eraseIdx_of_lt (by omega)
   generalize upd H2 pl (.lst ((lf.eraseIdx j.toNat).map V.int))=H3 at A3 ⊢
   refine ⟨_,rfl,_,rfl,_,rfl,_,_,rfl,rfl,_,rfl,_,_,rfl,rfl,.inl ⟨by decide,by decide⟩,_,_,rfl,rfl,_,rfl,pf,_,rfl,.inl (SqL.of A3.f),a,_,_,rfl,by omega,by rw [List.length_map,List.length_cons]; omega,hS.same A3.same,λj2 H4 j20 j21 s4=>?_⟩
   rw [List.length_map] at j21
   obtain ⟨par,mpar,gpar⟩:=pr j20 j21
   have A4:=A3.grow s4
   refine ⟨pf,_,_,_,rfl,rfl,SqL.of A4.f,gpar,?_⟩
   refine ⟨aw (by decide),λp3 hp3=>?_⟩
   have A5:=A4.grow (af (o:=.lst [.str "a",.str "b",.str "c",.str "abcde"]) hp3)
   refine ⟨_,rfl,_,rfl,_,_,rfl,rfl,_,rfl,_,_,rfl,rfl,.inl ⟨by decide,by decide⟩,_,_,rfl,rfl,a,_,_,rfl,by omega,by decide,hS.same A5.same,λj3 H5 j30 j31 s5=>?_⟩
   obtain ⟨nm,hnm,gnm⟩:=pw j30 j31
   refine ⟨p3,_,_,_,rfl,rfl,SqL.of (s5 _ _ ac),gnm,?_⟩
   have A6:=A5.grow s5
   refine ⟨_,rfl,_,rfl,_,_,rfl,rfl,_,rfl,_,_,rfl,rfl,.inl ⟨by decide,by decide⟩,_,_,rfl,rfl,a,_,_,rfl,by omega,by decide,hS.same A6.same,λj4 H6 j40 j41 s6=>⟨_,_,rfl,rfl,_,rfl,?_⟩⟩
   have A6':=A6.grow s6
   refine rE (λhgt=>?_) (λhgt=>?_)
   ·refine ⟨aw (by decide),λp5 hp5=>?_⟩
    have A65:=A6'.grow (af (o:=.lst [.int 0,.int 1,.int 2,.int 999]) hp5)
    refine ⟨_,rfl,_,rfl,_,_,rfl,rfl,_,rfl,_,_,rfl,rfl,.inl ⟨by decide,by decide⟩,_,_,rfl,rfl,a,_,_,rfl,by omega,by decide,hS.same A65.same,λj5 H65 j50 j51 s65=>?_⟩
    obtain ⟨i5,hst5,gst⟩:=ux j50 j51
    refine ⟨p5,_,_,_,rfl,rfl,SqL.of (s65 _ _ ac),gst,?_⟩
    have A66:=A65.grow s65
    exact h5 _ H H65 pl pf pn _ _ _ _ (lf.eraseIdx j.toNat) zs num par nm (some i5) A66 (by omega) (λH' A8=>⟨_,zs,_,_,_,_,_,rfl,A8,B.skip _,by rw [elen]; omega,by omega⟩)
     (λq H' ho A9=>⟨_,_,_,_,_,_,_,rfl,A9,B.add (q:=q) (n:=⟨num,par,nm,(some i5)⟩) gnum mpar ho hnm hst5,by rw [elen]; omega,by rw [List.length_append,List.length_singleton]; omega⟩)
   ·exact h5 _ H H6 pl pf pn _ _ _ _ (lf.eraseIdx j.toNat) zs num par nm none A6' (by omega) (λH' A8=>⟨_,zs,_,_,_,_,_,rfl,A8,B.skip _,by rw [elen]; omega,by omega⟩)
     (λq H' ho A9=>⟨_,_,_,_,_,_,_,rfl,A9,B.add (q:=q) (n:=⟨num,par,nm,none⟩) gnum mpar ho hnm (.inl rfl),by rw [elen]; omega,by rw [List.length_append,List.length_singleton]; omega⟩)
  ·obtain ⟨lf,zs,o6,o7,o8,o9,o10,rfl,A1,B,hlf,hzl⟩:=h
   have hzl8:(zs.length:Int)≤m:=by omega
   have hnum:(zs.map tp).map (·.2.1)=(nds zs).map (·.num):=by
    unfold nds
    simp only [List.map_map]
    rfl
   have hnd:((nds zs).map (·.num)).Nodup:=(List.nodup_append.mp B.nd).1
   refine ⟨_,rfl,pn,zs.map tp,rfl,SqL.of (by rw [A1.n,hZ]),λz hz=>?_,by rw [hnum]; exact hnd,by rw [List.length_map]; omega,λts pm up p hp=>?_⟩
   ·obtain ⟨y,hy,rfl⟩:=List.mem_map.mp hz
    exact A1.nd y hy
   ·obtain ⟨pm2,eb⟩:=back pm
    have er:(ts.map (·.1)).map V.ref=aN (ts.map un):=by rw [← hZ,eb]
    rw [er]
    refine ⟨p,_,rfl,.inl ⟨SqL.of ac,λl hl=>?_⟩⟩
    have mem:∀ z,z∈ts.map un→z∈zs:=λz hz=>pm2.mem_iff.mp hz
    refine k l (ts.map un) _ ac ?_ (by rw [pm2.length_eq]; exact hzl8) ?_ (λz hz=>B.ok z (mem z hz)) ((A1.same.trans (af hp)).trans (af hl))
    ·intro z hz
     exact ((af hp).trans (af hl)) _ _ (A1.nd z (mem z hz))
    ·refine TW.uu B.built (pm2.map _) ?_ hnd B.own
     unfold nds
     rw [List.pairwise_map]
     have up2:((ts.map un).map tp).Pairwise (λa b=>a.2.1<b.2.1):=by rw [eb]; exact up
     rw [List.pairwise_map] at up2
     exact up2.imp λh=>Int.le_of_lt h
end
noncomputable def edS (i:Nat):Stmt:=(ao eK).getD i (.Pass ⟨0,0,0,0⟩)
noncomputable def EN:List Str:=["_law_script","_law_at","_law_tree_here","_law_numbers","_law_some","_law_number","_law_folders","_law_parent","_law_name","_law_way","_law_stamp","_law_new"]
theorem dv:FnScope EN ["_law_script","_law_at","_law_tree_here"] (ae eK):=⟨rfl,rfl,rfl,by decide +kernel,rfl,by decide +kernel,by decide +kernel⟩
noncomputable abbrev EX (P:Program) (w:World) (K:PySem.W.Frag) (mg:Str→Option Value) (base:Heap) (f:Addr) (cdv:Value) (A:Around) (outer:List Env) (s:Shared) (H:Hp) (E:XK):Cx:=(eR CX0 P w K mg base EN "_law_deed" (ae eK) f cdv A outer s H E).nox
noncomputable def edσ (a t:Addr) (at':Int) (x3 x4 x5 x6 x7 x8 x9 x10 x11:Option V):St:=[some (.ref a),some (.int at'),some (.ref t),x3,x4,x5,x6,x7,x8,x9,x10,x11]
section
variable {P:Program} {w:World} {K:PySem.W.Frag} {mg:Str→Option Value} {base:Heap} {f:Addr} {cdv:Value} {A:Around} {outer:List Env} {s:Shared} {H0:Hp} {E:XK}
theorem ed0:∃ t,PS (EX P w K mg base f cdv A outer s H0 E) (edS 0) t∧∀ (D:Ends) (H:Hp) (a t':Addr) (at':Int) (zs:ZN),Tre H t' zs →
   (∀ p H',Same H H'→H' p=some (.lst (((nds zs).map (·.num)).map V.int))→D.nx (edσ a t' at' (some (.ref p)) none none none none none none none none) H')→t D (edσ a t' at' none none none none none none none none none) H:=by
 refine ⟨_,iR (ii:=3) (N:=["_law_node"]) (cl:=[]) (k:=1) (js:=[]) (g:=bc 0) dv.nd rfl (Or.inl rfl) rfl (cN rfl (by decide +kernel) (by decide +kernel) (by decide +kernel)) rfl (λi j x h=>by simp at h)
  (cM (pv 2)) (λs H fp=>aK (i:=0) (show (["_law_node"]:List Str).Nodup by decide +kernel) rfl (Or.inl rfl) (Or.inr rfl)) (λs H fp=>aH (r:=dq K) aC (pv 0) ah (λ_ _=>rfl)),?_⟩
 intro D H a t' at' zs tr q
 have hl:=tr.len
 refine ⟨_,rfl,t',rfl,⟨_,SqT.of tr.tup⟩,λp hp=>?_⟩
 refine dP (fr:=[]) zs (λz=>V.ref z.1) (by omega) hp (dk (by rw [aY]; exact SqT.of tr.tup)) rfl (λz y _=>y = .int z.2.num) (λz y H H' h _=>h) (λz H' k mz s1 _ hk=>⟨_,rfl,z.1,_,_,_,rfl,rfl,SqT.of (s1 _ _ (tr.nod z mz)),at0 z.2,hk _ H' (Same.refl _) rfl⟩) (λys H' s1 hp' hys=>?_)
 have ey:=bM (f:=λz:Addr×Nd=>V.int z.2.num) hys (λz y _ h=>h)
 refine q p H' s1 ?_
 rw [hp',ey]
 unfold nds
 rw [List.map_map,List.map_map]
 rfl
theorem ed1:∃ t,PS (EX P w K mg base f cdv A outer s H0 E) (edS 1) t∧∀ (D:Ends) (H:Hp) (a t' p:Addr) (at':Int) (ns:List Int),H p=some (.lst (ns.map V.int))→ns.length≤60 →
   (∀ q H',Same H H'→H' q=some (.lst ((ns++ns++ns++[55]).map V.int))→D.nx (edσ a t' at' (some (.ref p)) (some (.ref q)) none none none none none none none) H')→t D (edσ a t' at' (some (.ref p)) none none none none none none none none) H:=by
 refine ⟨_,ax (i:=4) dv.nd rfl (Or.inl rfl) (aB eZ (aB eZ (aB eZ (pv 3) (pv 3)) (pv 3)) (bJ (aa ah ag))),?_⟩
 intro D H a t' p at' ns hp hl q
 refine ⟨_,rfl,_,rfl,p,p,_,_,rfl,rfl,hp,hp,aw (by rw [List.length_map]; omega),λp1 h1=>?_⟩
 have s1:=af (o:=.lst (ns.map V.int++ns.map V.int)) h1
 refine ⟨_,rfl,p1,p,_,_,rfl,rfl,ac,s1 _ _ hp,aw (by rw [List.length_append,List.length_map]; omega),λp2 h2=>?_⟩
 have s2:=s1.trans (af (o:=.lst (ns.map V.int++ns.map V.int++ns.map V.int)) h2)
 refine ⟨aw (show 1≤1000 by decide),λp3 h3=>?_⟩
 have s3:=s2.trans (af (o:=.lst [.int 55]) h3)
 refine ⟨p2,p3,_,_,rfl,rfl,bp h3 ac,ac,aw (by rw [List.length_append,List.length_append,List.length_map]; show _+1≤1000; omega),λp4 h4=>?_⟩
 refine q p4 _ (s3.trans (af h4)) ?_
 rw [ac]
 simp only [List.map_append,List.map_cons,List.map_nil]
theorem ed3:∃ t,PS (EX P w K mg base f cdv A outer s H0 E) (edS 3) t∧∀ (D:Ends) (H:Hp) (a t':Addr) (at':Int) (zs:ZN) (x3 x4 x5:Option V),Tre H t' zs →
   (∀ p H' (fs:List Int),Same H H'→H' p=some (.lst (fs.map V.int))→(∀ x∈fs,x=0∨∃ m∈nds zs,m.num=x)→1≤fs.length→fs.length≤31→D.nx (edσ a t' at' x3 x4 x5 (some (.ref p)) none none none none none) H')→t D (edσ a t' at' x3 x4 x5 none none none none none none) H:=by
 refine ⟨_,ax (i:=6) dv.nd rfl (Or.inl rfl) (aB eZ (eE (N:=["_law_node"]) (cl:=[]) (k:=1) (js:=[]) (g:=bc 0) rfl (cN rfl (by decide +kernel) (by decide +kernel) (by decide +kernel)) rfl (λi j x h=>by simp at h)
  (cM (pv 2)) (λs H fp=>aK (i:=0) (show (["_law_node"]:List Str).Nodup by decide +kernel) rfl (Or.inl rfl) (Or.inr rfl)) (λs H fp=>am ir (aH (r:=dq K) aC (pv 0) ah (λ_ _=>rfl)) dm (ar _)) (λs H fp=>aH (r:=dq K) aC (pv 0) ah (λ_ _=>rfl))) (bJ (aa ah ag))),?_⟩
 intro D H a t' at' zs x3 x4 x5 tr q
 have hl:=tr.len
 refine ⟨_,rfl,t',rfl,⟨_,SqT.of tr.tup⟩,λp hp=>?_⟩
 refine dO (fr:=[]) zs (λz=>V.ref z.1) (by omega) hp (dk (by rw [aY]; exact SqT.of tr.tup)) rfl (λz=>decide (stV z.2.st=V.non)) (λz y _=>y = .int z.2.num) (λz y H H' h _=>h) (λz H' k mz s1 _ hk=>⟨_,rfl,z.1,_,_,_,rfl,rfl,SqT.of (s1 _ _ (tr.nod z mz)),at3 z.2,rfl,_,rfl,hk H' (Same.refl _)⟩)
  (λz H' k mz _ s1 _ hk=>⟨_,rfl,z.1,_,_,_,rfl,rfl,SqT.of (s1 _ _ (tr.nod z mz)),at0 z.2,hk _ H' (Same.refl _) rfl⟩) (λys H' s1 hp' hys=>?_)
 have ey:=bM (f:=λz:Addr×Nd=>V.int z.2.num) hys (λz y _ h=>h)
 have hfl:=List.length_filter_le (λz:Addr×Nd=>decide (stV z.2.st=V.non)) zs
 have ey2:ys=((zs.filter λz:Addr×Nd=>decide (stV z.2.st=V.non)).map λz=>z.2.num).map V.int:=by rw [ey,List.map_map]; rfl
 refine ⟨aw (show 1≤1000 by decide),λp2 h2=>?_⟩
 refine ⟨p,p2,_,_,rfl,rfl,bp h2 hp',ac,aw (by rw [ey,List.length_map]; show _+1≤1000; omega),λp3 h3=>?_⟩
 refine q p3 _ (((zs.filter λz:Addr×Nd=>decide (stV z.2.st=V.non)).map λz=>z.2.num)++[0]) ((s1.trans (af h2)).trans (af h3)) ?_ (λx hx=>?_) (by simp) (by rw [List.length_append,List.length_map]; simp; omega)
 ·rw [ac,ey2,List.map_append]; rfl
 ·rcases List.mem_append.mp hx with h | h
  ·obtain ⟨z,hz,rfl⟩:=List.mem_map.mp h
   exact .inr ⟨z.2,cT (List.mem_filter.mp hz).1,rfl⟩
  ·exact .inl (by simpa using h)
end
noncomputable def wV:List Stmt:=match edS 7 with
 | .If _ a _ _=>a
 | _=>[]
theorem tm {j:Int} (h0:0≤j) (h1:j<6):∃ st,atI [V.non,.non,.int 0,.int 1,.int 2,.int 3] j=some (stV st)∧uB st:=by
 have hj:j=0∨j=1∨j=2∨j=3∨j=4∨j=5:=by omega
 rcases hj with rfl | rfl | rfl | rfl | rfl | rfl
 ·exact ⟨none,rfl,λi e=>by cases e⟩
 ·exact ⟨none,rfl,λi e=>by cases e⟩
 ·exact ⟨some 0,rfl,λi e=>by cases e; decide⟩
 ·exact ⟨some 1,rfl,λi e=>by cases e; decide⟩
 ·exact ⟨some 2,rfl,λi e=>by cases e; decide⟩
 ·exact ⟨some 3,rfl,λi e=>by cases e; decide⟩
theorem tq {j:Int} (h0:0≤j) (h1:j<4):∃ i,atI [V.int 0,.int 1,.int 2,.int 998] j=some (.int i)∧0≤i∧i≤999:=by
 have hj:j=0∨j=1∨j=2∨j=3:=by omega
 rcases hj with rfl | rfl | rfl | rfl
 ·exact ⟨0,rfl,by decide,by decide⟩
 ·exact ⟨1,rfl,by decide,by decide⟩
 ·exact ⟨2,rfl,by decide,by decide⟩
 ·exact ⟨998,rfl,by decide,by decide⟩
theorem tu {j x y:Int} (h0:0≤j) (h1:j<5):∃ z,atI [V.int x,.int y] (j / 4)=some (.int z)∧(z=x∨z=y):=by
 have hj:j / 4=0∨j / 4=1:=by omega
 rcases hj with e | e
 ·rw [e]; exact ⟨x,rfl,.inl rfl⟩
 ·rw [e]; exact ⟨y,rfl,.inr rfl⟩
section
variable {P:Program} {w:World} {K:PySem.W.Frag} {mg:Str→Option Value} {base:Heap} {f:Addr} {cdv:Value} {A:Around} {outer:List Env} {s:Shared} {H0:Hp} {E:XK}
theorem edM (hr:Room 2 (A.deeper (PyProof.Rows.envOfC "_law_deed" (ae eK) s.heap.objs.size f cdv))) (CP:Has P w K mg base 2 "_law_pick" ["_law_script","_law_k","_law_many"] (dU K)) :
  ∃ t,PSs (EX P w K mg base f cdv A outer s H0 E) wV t∧∀ (D:Ends) (H:Hp) (a t':Addr) (at' n p:Int) (nm:Str) (x3 x4 x6 x9:Option V),dD K H a→0≤at'→1≤n→n≤60→0≤p→p≤60→jr nm →
   (∀ c dd H',Same H H'→H' c=some (.tup (cb dd))→cy dd→D.rt (.ref c) H')→t D (edσ a t' at' x3 x4 (some (.int n)) x6 (some (.int p)) (some (.str nm)) x9 none none) H:=by
 obtain ⟨fP,fdP,GP,mP,kP,bP⟩:=CP
 refine ⟨_,ai (ax (i:=10) dv.nd rfl (Or.inl rfl) (aH cq (bJ (aa dm (aa dm (aa ah (aa ah (aa ah (aa ah ag))))))) (al GP hr rfl mP kP bP .nil au (aa (pv 0) (aa (aB ba (pv 1) ah) (aa ah ag)))) (λ_ _=>rfl)))
  (ai (ax (i:=11) dv.nd rfl (Or.inl rfl) (aH cq (bJ (aa (aB ba ah (al GP hr rfl mP kP bP .nil au (aa (pv 0) (aa (aB ba (pv 1) ah) (aa ah ag))))) (aa (pv 5) ag))) (aB oB (al GP hr rfl mP kP bP .nil au (aa (pv 0) (aa (aB ba (pv 1) ah) (aa ah ag)))) ah) (λ_ _=>rfl)))
  (ak (aq (cm (aa aU (aa (pv 11) (aa (pv 7) (aa (pv 8) (aa (pv 10) ag))))))))),?_⟩
 intro D H a t' at' n p nm x3 x4 x6 x9 hS hat hn1 hn2 hp1 hp2 hnm q
 refine ⟨aw (show 6≤1000 by decide),λl1 hl1=>?_⟩
 have s1:=af (o:=.lst [.non,.non,.int 0,.int 1,.int 2,.int 3]) hl1
 refine ⟨_,rfl,_,rfl,_,_,rfl,rfl,a,_,_,rfl,by omega,by decide,hS.same s1,λj1 H1 j10 j11 s2=>?_⟩
 obtain ⟨st,est,hst⟩:=tm j10 j11
 refine ⟨l1,_,_,_,rfl,rfl,SqL.of (s2 _ _ ac),est,?_⟩
 have s12:=s1.trans s2
 refine ⟨_,rfl,_,rfl,_,_,rfl,rfl,a,_,_,rfl,by omega,by decide,hS.same s12,λj2 H2 j20 j21 s3=>?_⟩
 refine ⟨_,_,rfl,rfl,_,rfl,le2,λl2 hl2=>?_⟩
 have s13:=s12.trans s3
 have s4:=s13.trans (af (o:=.lst [.int (1+j2),.int n]) hl2)
 refine ⟨_,rfl,_,rfl,_,_,rfl,rfl,a,_,_,rfl,by omega,by decide,hS.same s4,λj3 H3 j30 j31 s5=>?_⟩
 obtain ⟨nw,enw,hnw⟩:=tu (x:=1+j2) (y:=n) j30 j31
 refine ⟨_,_,rfl,rfl,⟨by decide,by decide⟩,l2,_,_,_,rfl,rfl,SqL.of (s5 _ _ ac),enw,?_⟩
 refine ⟨_,rfl,_,rfl,_,rfl,_,rfl,(show 5≤sizeLine from aw (by decide)),λc hc=>?_⟩
 refine q c (.make nw p nm st) _ ((s4.trans s5).trans (af hc)) ac ⟨?_,?_,hp1,hp2,hnm,hst⟩
 ·rcases hnw with e | e <;> omega
 ·rcases hnw with e | e <;> omega
theorem ed7 (hr:Room 2 (A.deeper (PyProof.Rows.envOfC "_law_deed" (ae eK) s.heap.objs.size f cdv))) (CP:Has P w K mg base 2 "_law_pick" ["_law_script","_law_k","_law_many"] (dU K)) :
  ∃ t,PS (EX P w K mg base f cdv A outer s H0 E) (edS 7) t∧∀ (D:Ends) (H:Hp) (a t' pn:Addr) (at' n p wy:Int) (nm:Str) (ns:List Int) (x4 x6:Option V),dD K H a→0≤at'→1≤n→n≤60→0≤p→p≤60→jr nm→H pn=some (.lst (ns.map V.int)) →
   (∀ c dd H',Same H H'→H' c=some (.tup (cb dd))→cy dd→D.rt (.ref c) H')→(∀ H',Same H H'→D.nx (edσ a t' at' (some (.ref pn)) x4 (some (.int n)) x6 (some (.int p)) (some (.str nm)) (some (.int wy)) none none) H') →
   t D (edσ a t' at' (some (.ref pn)) x4 (some (.int n)) x6 (some (.int p)) (some (.str nm)) (some (.int wy)) none none) H:=by
 obtain ⟨tM,pM,hM⟩:=edM (f:=f) (cdv:=cdv) (outer:=outer) (H0:=H0) (E:=E) hr CP
 refine ⟨_,bw (PW.pt (pw_or (am lM (pv 9) ah (ar _)) (pw_or1 (am (fg hr.units0) (pv 3) (bJ ag) (ar _))))) pM aJ,?_⟩
 intro D H a t' pn at' n p wy nm ns x4 x6 hS hat hn1 hn2 hp1 hp2 hnm hpn q qn
 refine ⟨_,rfl,_,_,rfl,rfl,_,rfl,?_⟩
 refine rE (λhlt=>?_) (λhlt=>?_)
 ·exact bx (hM D H a t' at' n p nm _ _ _ _ hS hat hn1 hn2 hp1 hp2 hnm q)
 ·refine ⟨_,rfl,Nat.zero_le _,λl hl=>?_⟩
  have s1:=af (o:=.lst []) hl
  refine ⟨pn,l,_,rfl,rfl,SqL.of (s1 _ _ hpn),SqL.of ac,_,rfl,?_⟩
  refine rE (λ_=>?_) (λ_=>?_)
  ·exact hM D _ a t' at' n p nm _ _ _ _ (hS.same s1) hat hn1 hn2 hp1 hp2 hnm λc dd H' s'=>q c dd H' (s1.trans s')
  ·exact qn _ s1
theorem ed8 (hr:Room 2 (A.deeper (PyProof.Rows.envOfC "_law_deed" (ae eK) s.heap.objs.size f cdv))) (CP:Has P w K mg base 2 "_law_pick" ["_law_script","_law_k","_law_many"] (dU K)) :
  ∃ t,PSs (EX P w K mg base f cdv A outer s H0 E) [edS 8,edS 9,edS 10] t∧∀ (D:Ends) (H:Hp) (a t':Addr) (at' n p wy:Int) (nm:Str) (x3 x4 x6:Option V),dD K H a→0≤at'→1≤n→n≤60→0≤p→p≤60→jr nm →
   (∀ c dd H',Same H H'→H' c=some (.tup (cb dd))→cy dd→D.rt (.ref c) H') →
   t D (edσ a t' at' x3 x4 (some (.int n)) x6 (some (.int p)) (some (.str nm)) (some (.int wy)) none none) H:=by
 obtain ⟨fP,fdP,GP,mP,kP,bP⟩:=CP
 refine ⟨_,ai (bw (am fu (pv 9) ah (ar _)) (ak (aq (cm (aa aU (aa (pv 5) (aa (aH cq (bJ (aa ah (aa ah (aa ah (aa ah ag))))) (al GP hr rfl mP kP bP .nil au (aa (pv 0) (aa (aB ba (pv 1) ah) (aa ah ag)))) (λ_ _=>rfl)) ag)))))) aJ)
  (ai (bw (am lM (pv 9) ah (ar _)) (ak (aq (cm (aa aU (aa (pv 5) (aa (pv 7) (aa (pv 8) ag))))))) aJ)
  (ak (aq (cm (aa aU (aa (pv 5) ag)))))),?_⟩
 intro D H a t' at' n p wy nm x3 x4 x6 hS hat hn1 hn2 hp1 hp2 hnm q
 refine ⟨_,rfl,rfl,_,rfl,?_⟩
 refine rE (λ_=>?_) (λ_=>?_)
 ·refine ⟨_,rfl,aw (show 4≤1000 by decide),λl1 hl1=>?_⟩
  have s1:=af (o:=.lst [.int 0,.int 1,.int 2,.int 998]) hl1
  refine ⟨_,rfl,_,rfl,_,_,rfl,rfl,a,_,_,rfl,by omega,by decide,hS.same s1,λj1 H1 j10 j11 s2=>?_⟩
  obtain ⟨i,ei,hi1,hi2⟩:=tq j10 j11
  refine ⟨l1,_,_,_,rfl,rfl,SqL.of (s2 _ _ ac),ei,(show 3≤sizeLine from aw (by decide)),λc hc=>?_⟩
  exact q c (.write n i) _ ((s1.trans s2).trans (af hc)) ac ⟨hn1,hn2,hi1,hi2⟩
 ·refine ⟨_,rfl,_,_,rfl,rfl,_,rfl,?_⟩
  refine rE (λ_=>?_) (λ_=>?_)
  ·exact ⟨_,rfl,_,rfl,_,rfl,(show 4≤sizeLine from aw (by decide)),λc hc=>q c (.move n p nm) _ (af hc) ac ⟨hn1,hn2,hp1,hp2,hnm⟩⟩
  ·exact ⟨_,rfl,(show 2≤sizeLine from le2),λc hc=>q c (.drop n) _ (af hc) ac ⟨hn1,hn2⟩⟩
end
section
variable {P:Program} {w:World} {K:PySem.W.Frag} {mg:Str→Option Value} {base:Heap}
noncomputable def lB (K:PySem.W.Frag):Sp:=λvs H Q _=>∃ a at' t zs,vs=[.ref a,.int at',.ref t]∧0≤at'∧dD K H a∧Tre H t zs∧(∀ n∈nds zs,cU n)∧∀ c dd H',Same H H'→H' c=some (.tup (cb dd))→cy dd→Q (.ref c) H'
theorem uZ {f:Addr} {fd:FuncData} (F:Fun K "_law_deed" "_law_deed" eK f fd) (T:Txt mg) (CP:Has P w K mg base 2 "_law_pick" ["_law_script","_law_k","_law_many"] (dU K)):FnOk P w K mg base CX0 3 f fd ["_law_script","_law_at","_law_tree_here"] (lB K):=by
 obtain ⟨fP,fdP,GP,mP,kP,bP⟩:=id CP
 refine F.ok dv (λvs H Q E h=>?_) (λcdv A outer s H vs Q E hr h=>?_)
 ·obtain ⟨a,at',t,zs,rfl,_⟩:=h
  rfl
 ·obtain ⟨a,at',t,zs,rfl,hat,hS,tr,hok,q⟩:=h
  obtain ⟨t0,p0,h0⟩:=ed0 (P:=P) (w:=w) (K:=K) (mg:=mg) (base:=base) (f:=f) (cdv:=cdv) (A:=A) (outer:=outer) (s:=s) (H0:=H) (E:=E)
  obtain ⟨t1,p1,h1⟩:=ed1 (P:=P) (w:=w) (K:=K) (mg:=mg) (base:=base) (f:=f) (cdv:=cdv) (A:=A) (outer:=outer) (s:=s) (H0:=H) (E:=E)
  obtain ⟨t3,p3,h3⟩:=ed3 (P:=P) (w:=w) (K:=K) (mg:=mg) (base:=base) (f:=f) (cdv:=cdv) (A:=A) (outer:=outer) (s:=s) (H0:=H) (E:=E)
  obtain ⟨t7,p7,h7⟩:=ed7 (f:=f) (cdv:=cdv) (outer:=outer) (H0:=H) (E:=E) hr CP
  obtain ⟨t8,p8,h8⟩:=ed8 (f:=f) (cdv:=cdv) (outer:=outer) (H0:=H) (E:=E) hr CP
  refine ⟨_,ai p0 (ai p1
   (ai (ax (i:=5) dv.nd rfl (Or.inl rfl) (aH cq (pv 4) (al GP hr rfl mP kP bP .nil au (aa (pv 0) (aa (pv 1) (aa (aF aX rfl T.len PySem.boot_len (aa (pv 4) ag)) ag)))) (λ_ _=>rfl)))
   (ai p3
   (ai (ax (i:=7) dv.nd rfl (Or.inl rfl) (aH cq (aB eZ (aB eZ (pv 6) (pv 6)) (pv 4)) (al GP hr rfl mP kP bP .nil au (aa (pv 0) (aa (aB ba (pv 1) ah) (aa (aB ba (aB db ah (aF aX rfl T.len PySem.boot_len (aa (pv 6) ag))) (aF aX rfl T.len PySem.boot_len (aa (pv 4) ag))) ag)))) (λ_ _=>rfl)))
   (ai (ax (i:=8) dv.nd rfl (Or.inl rfl) (aH cq (bJ (aa aU (aa aU (aa aU (aa aU ag))))) (al GP hr rfl mP kP bP .nil au (aa (pv 0) (aa (aB ba (pv 1) ah) (aa ah ag)))) (λ_ _=>rfl)))
   (ai (ax (i:=9) dv.nd rfl (Or.inl rfl) (al GP hr rfl mP kP bP .nil au (aa (pv 0) (aa (aB ba (pv 1) ah) (aa ah ag)))))
   (ai p7 p8))))))),?_⟩
  have hl:=tr.len
  have hnr:∀ x∈(nds zs).map (·.num),1≤x∧x≤60:=λx hx=>by
   obtain ⟨n,hn,rfl⟩:=List.mem_map.mp hx
   exact ⟨(hok n hn).1,(hok n hn).2.1⟩
  refine h0 _ H a t at' zs tr λpn H1 s1 hpn=>?_
  generalize hns:(nds zs).map (·.num)=ns at hpn hnr
  have hnl:ns.length=zs.length:=by rw [← hns,List.length_map,av]
  refine h1 _ H1 a t pn at' ns hpn (by omega) λps H2 s2 hps=>?_
  have hsr:∀ x∈ns++ns++ns++[55],1≤x∧x≤60:=λx hx=>by
   rcases List.mem_append.mp hx with h | h
   ·rcases List.mem_append.mp h with h | h
    ·rcases List.mem_append.mp h with h | h <;> exact hnr x h
    ·exact hnr x h
   ·have:x=55:=by simpa using h
    omega
  have hsl:(ns++ns++ns++[55]).length≤100∧1≤(ns++ns++ns++[55]).length:=by simp; omega
  generalize ns++ns++ns++[55]=ss at hps hsr hsl ⊢
  have s12:=s1.trans s2
  refine ⟨_,rfl,_,rfl,_,rfl,_,rfl,ps,_,rfl,.inl (SqL.of hps),a,at',_,rfl,hat,by rw [List.length_map]; omega,hS.same s12,λj H3 j0 j1 s3=>?_⟩
  rw [List.length_map] at j1
  obtain ⟨n,en,hn1,hn2⟩:=pA j0 j1 hsr
  refine ⟨ps,_,_,_,rfl,rfl,SqL.of (s3 _ _ hps),en,?_⟩
  have s13:=s12.trans s3
  refine h3 _ H3 a t at' zs _ _ _ (tr.same s13) λpf H4 fs s4 hpf hfs hf1 hf2=>?_
  have s14:=s13.trans s4
  have hps4:=s4 _ _ (s3 _ _ hps)
  refine ⟨_,rfl,_,rfl,pf,pf,_,_,rfl,rfl,hpf,hpf,aw (by rw [List.length_map]; omega),λl1 hl1=>?_⟩
  have u1:=af (o:=.lst (fs.map V.int++fs.map V.int)) hl1
  refine ⟨_,rfl,l1,ps,_,_,rfl,rfl,ac,u1 _ _ hps4,aw (by rw [List.length_append,List.length_map,List.length_map]; omega),λl2 hl2=>?_⟩
  have u2:=u1.trans (af (o:=.lst (fs.map V.int++fs.map V.int++ss.map V.int)) hl2)
  have hl2':upd (upd H4 l1 (.lst (fs.map V.int++fs.map V.int))) l2 (.lst (fs.map V.int++fs.map V.int++ss.map V.int)) l2=some (.lst ((fs++fs++ss).map V.int)):=by rw [ac]; simp only [List.map_append]
  generalize upd (upd H4 l1 (.lst (fs.map V.int++fs.map V.int))) l2 (.lst (fs.map V.int++fs.map V.int++ss.map V.int))=H5 at u2 hl2' ⊢
  have s15:=s14.trans u2
  refine ⟨_,rfl,_,rfl,_,_,rfl,rfl,_,rfl,pf,_,rfl,.inl (SqL.of (u2 _ _ hpf)),_,_,rfl,rfl,.inl ⟨by decide,by decide⟩,_,rfl,ps,_,rfl,.inl (SqL.of (u2 _ _ hps4)),_,_,rfl,rfl,a,_,_,rfl,by omega,by rw [List.length_map,List.length_map]; omega,hS.same s15,λj2 H6 j20 j21 s6=>?_⟩
  rw [List.length_map,List.length_map] at j21
  obtain ⟨p,ep,hp1,hp2⟩:=pA (ns:=fs++fs++ss) (P:=λx=>0≤x∧x≤60) j20 (by rw [List.length_append,List.length_append]; omega) (λx hx=>by
   have hf:∀ x∈fs,0≤x∧x≤60:=λx hx=>by
    rcases hfs x hx with e | ⟨m,hm,e⟩
    ·omega
    ·have:=hok m hm
     have h1:=this.1
     have h2:=this.2.1
     omega
   rcases List.mem_append.mp hx with h | h
   ·rcases List.mem_append.mp h with h | h <;> exact hf x h
   ·have:=hsr x h; omega)
  refine ⟨l2,_,_,_,rfl,rfl,SqL.of (s6 _ _ hl2'),ep,?_⟩
  have s16:=s15.trans s6
  refine ⟨aw (show 4≤1000 by decide),λl3 hl3=>?_⟩
  have s17:=s16.trans (af (o:=.lst [.str "a",.str "b",.str "c",.str "abcde"]) hl3)
  refine ⟨_,rfl,_,rfl,_,_,rfl,rfl,a,_,_,rfl,by omega,by decide,hS.same s17,λj3 H7 j30 j31 s7=>?_⟩
  obtain ⟨nm,hnm,gnm⟩:=pw j30 j31
  refine ⟨l3,_,_,_,rfl,rfl,SqL.of (s7 _ _ ac),gnm,?_⟩
  have s18:=s17.trans s7
  refine ⟨_,rfl,_,rfl,_,_,rfl,rfl,a,_,_,rfl,by omega,by decide,hS.same s18,λwy H8 _ _ s8=>?_⟩
  have s19:=s18.trans s8
  have s29:Same H1 H8:=((((s2.trans s3).trans s4).trans u2).trans s6).trans ((af hl3).trans (s7.trans s8))
  refine h7 _ H8 a t pn at' n p wy nm ns _ _ (hS.same s19) hat hn1 hn2 hp1 hp2 hnm (s29 _ _ hpn) (λc dd H' s'=>q c dd H' (s19.trans s')) λH9 s9=>?_
  exact h8 _ H9 a t at' n p wy nm _ _ _ (hS.same (s19.trans s9)) hat hn1 hn2 hp1 hp2 hnm λc dd H' s'=>q c dd H' ((s19.trans s9).trans s')
noncomputable def tw (K:PySem.W.Frag):Sp:=λvs H Q _=>∃ a at' t m zs,vs=[.ref a,.int at',.ref t,.int m]∧0≤at'∧0≤m∧m≤12∧dD K H a∧Tre H t zs∧(∀ n∈nds zs,cU n)∧(zs.length:Int)+m≤29∧∀ t' us H',Same H H'→Tre H' t' us→(∀ n∈nds us,cU n)→(us.length:Int)≤zs.length+m→(∃ ms:List Int,(ms.length:Int)≤m∧∀ n∈nds us,n.num∈(nds zs).map (·.num)∨n.num∈ms)→Q (.ref t') H'
theorem pG:FnScope ["_law_script","_law_at","_law_tree_here","_law_many","_law_j","_law_behind"] ["_law_script","_law_at","_law_tree_here","_law_many"] (ae qz):=⟨rfl,rfl,rfl,by decide +kernel,rfl,by decide +kernel,by decide +kernel⟩
theorem wW {f:Addr} {fd:FuncData} (F:Fun K "_law_further" "_law_further" qz f fd) (T:Txt mg) (CE:Has P w K mg base 3 "_law_deed" ["_law_script","_law_at","_law_tree_here"] (lB K)) (CL:Has P w K mg base 2 "_law_done" ["_law_tree_here","_law_deed_here"] ic):FnOk P w K mg base CX0 4 f fd ["_law_script","_law_at","_law_tree_here","_law_many"] (tw K):=by
 obtain ⟨fE,fdE,GE,mE,kE,bE⟩:=CE
 obtain ⟨fL,fdL,GL,mL,kL,bL⟩:=CL
 refine F.ok pG (λvs H Q E h=>?_) (λcdv A outer s H vs Q E hr h=>?_)
 ·obtain ⟨a,at',t,m,zs,rfl,_⟩:=h
  rfl
 ·obtain ⟨a,at',t,m,zs,rfl,ha0,hm0,hm1,hS,tr,hok,hl,q⟩:=h
  have hr2:Room 2 _:=hr.mono (by decide)
  refine ⟨_,ai (ip PassesOwn.never rfl (gw rfl T.range (aa (pv 3) ag)) (aK (i:=4) pG.nd rfl (Or.inl rfl))
    (ai (ax (i:=5) pG.nd rfl (Or.inl rfl) (al GL hr2 rfl mL kL bL .nil au (aa (pv 2) (aa (al GE hr rfl mE kE bE .nil au (aa (pv 0) (aa (aB ba (pv 1) (aB db ah (pv 4))) (aa (pv 2) ag)))) ag))))
    (ak (bw (cL (cB (aF cg rfl T.isin PyProof.Rows.boot_isinstance (aa (pv 5) (aa (dG (v:=.ty "str") rfl T.str PyProof.Rows.boot_str rfl) ag))) (λ_=>rfl))) (ak (ax (i:=2) pG.nd rfl (Or.inl rfl) (pv 5))) aJ))))
   (ak (aq (pv 2))),?_⟩
  refine ⟨_,rfl,m,rfl,by omega,by omega,?_⟩
  refine jx (n:=m.toNat) (λi σ H'=>∃ t' us x4 x5,σ=[some (.ref a),some (.int at'),some (.ref t'),some (.int m),x4,x5]∧Same H H'∧H' t'=some (.tup (aN us))∧At H' us∧TW.Tree1 (nds us)∧(∀ n∈nds us,cU n)∧us.length≤zs.length+i∧∃ ms:List Int,ms.length≤i∧∀ n∈nds us,n.num∈(nds zs).map (·.num)∨n.num∈ms) ⟨t,zs,none,none,rfl,Same.refl _,tr.tup,tr.nod,tr.tr,hok,Nat.le_refl _,[],Nat.le_refl _,λn hn=>.inl (List.mem_map.mpr ⟨n,hn,rfl⟩)⟩ (λi σ H' hi h=>?_) (λσ H' h=>?_)
  ·obtain ⟨t',us,x4,x5,rfl,s1,ht',hA',hT',hok',hl',ms,hms,hmem⟩:=h
   have hi':(i:Int)<m:=by omega
   have tr':Tre H' t' us:=⟨ht',hA',hT',by omega⟩
   refine ⟨_,rfl,_,rfl,_,rfl,_,rfl,_,_,rfl,rfl,.inl ⟨by decide,by decide⟩,_,_,rfl,rfl,_,rfl,a,_,t',us,rfl,by omega,hS.same s1,tr',hok',λc dd H3 s3 hc hf=>?_⟩
   refine ⟨t',c,dd,us,rfl,tr'.same s3,by omega,hc,hf.ok,λws t2 H4 s4 ht2 hA2 told=>?_,λwd H4 s4 told=>?_⟩
   ·refine ⟨_,rfl,_,_,_,_,rfl,.tup ht2,(by kernel_rfl:_=some false),_,rfl,bx ⟨_,rfl,t2,ws,_,_,rfl,(s1.trans s3).trans s4,ht2,hA2,told.tree hT' hf.ok.pos,cU.told hok' hf told,?_,dd.key :: ms,by rw [List.length_cons]; omega,λn hn=>?_⟩⟩
    ·have:=told.len
     rw [av,av] at this
     omega
    ·by_cases hk:n.num=dd.key
     ·exact .inr (by rw [hk]; exact List.mem_cons_self)
     ·have T2:=told.tree hT' hf.ok.pos
      rcases told.others hT' T2 hk with e | ⟨_,_,_,hno⟩
      ·rw [TW.dS T2 hn rfl] at e
       obtain ⟨h1,h2⟩:=TW.bi e.symm
       rcases hmem n h1 with q | q
       ·exact .inl q
       ·exact .inr (List.mem_cons_of_mem _ q)
      ·exact absurd rfl (hno n hn)
   ·exact ⟨_,rfl,_,_,_,_,rfl,.str _,(by kernel_rfl:_=some true),_,rfl,aR ⟨t',us,_,_,rfl,(s1.trans s3).trans s4,s4 _ _ (s3 _ _ ht'),(hA'.same s3).same s4,hT',hok',by omega,ms,by omega,hmem⟩⟩
  ·obtain ⟨t',us,x4,x5,rfl,s1,ht',hA',hT',hok',hl',ms,hms,hmem⟩:=h
   exact ⟨_,rfl,q t' us H' s1 ⟨ht',hA',hT',by omega⟩ hok' (by omega) ⟨ms,by omega,hmem⟩⟩
noncomputable def vA:Sp:=λvs H Q _=>∃ t f zs,vs=[.ref t,.int f]∧H t=some (.tup (aN zs))∧At H zs∧zs.length≤100∧∀ fd dn l H',TW.Walk (nds zs) f dn fd []→H' l=some (.lst (cR fd))→Same H H'→Q (.ref l) H'
end
noncomputable def letters:Str:="abcdefghijklmnopqrstuvwxyz"
noncomputable def inL (c:Nat):Bool:=!(Builtin.Str.occurrences letters ⟨#[c]⟩ 0 letters.length 1).isEmpty
noncomputable def tD (x:Str):Bool:=decide (1≤x.length) && decide (x.length≤5) && x.cps.toList.all inL
theorem jr.b {x:Str} (h:jr x):tD x=true:=by rcases h with e | e | e | e <;> rw [e] <;> decide +kernel
section
variable {P:Program} {w:World} {K:PySem.W.Frag} {mg:Str→Option Value} {base:Heap}
noncomputable def ie:Sp:=λvs H Q _=>∃ i,vs=[.int i]∧Q (.bl true) H
theorem va:FnScope ["thing"] ["thing"] (ae gJ):=⟨rfl,rfl,rfl,by decide +kernel,rfl,by decide +kernel,by decide +kernel⟩
theorem tE {f:Addr} {fd:FuncData} (F:Fun K "is_whole" "is_whole" gJ f fd) (T:Txt mg):FnOk P w K mg base CX0 1 f fd ["thing"] ie:=by
 refine F.ok va (λvs H Q E h=>?_) (λcdv A outer s H vs Q E hr h=>?_)
 ·obtain ⟨v,rfl,_⟩:=h
  rfl
 ·obtain ⟨i,rfl,k⟩:=h
  refine ⟨_,ak (aq (kq (aF cg rfl T.isin PyProof.Rows.boot_isinstance (aa (pv 0) (aa (dG (v:=.ty "int") rfl T.int PyProof.Rows.boot_int rfl) ag)))
   (il (vH (aF cg rfl T.isin PyProof.Rows.boot_isinstance (aa (pv 0) (aa (dG (v:=.ty "bool") rfl T.bool PyProof.Rows.boot_bool rfl) ag))))))),?_⟩
  exact ⟨_,rfl,_,_,_,_,rfl,.int i,(by kernel_rfl:_=some true),_,rfl,bx ⟨_,rfl,_,_,_,_,rfl,.int i,(by kernel_rfl:_=some false),_,rfl,k⟩⟩
noncomputable def oo:Sp:=λvs H Q _=>∃ x,vs=[.str x]∧tD x=true∧∀ H',Same H H'→Q (.bl true) H'
theorem wX:FnScope ["thing"] ["thing"] (ae jW):=⟨rfl,rfl,rfl,by decide +kernel,rfl,by decide +kernel,by decide +kernel⟩
theorem vc {f:Addr} {fd:FuncData} (F:Fun K "is_name" "is_name" jW f fd) (T:Txt mg):FnOk P w K mg base CX0 1 f fd ["thing"] oo:=by
 obtain ⟨tl,hL⟩:=T.letters
 obtain ⟨tn,hN⟩:=T.longest
 refine F.ok wX (λvs H Q E h=>?_) (λcdv A outer s H vs Q E hr h=>?_)
 ·obtain ⟨v,rfl,_⟩:=h
  rfl
 ·obtain ⟨x,rfl,hb,k⟩:=h
  refine ⟨_,ai (bw (PW.pt (pw_or (cL (cB (aF cg rfl T.isin PyProof.Rows.boot_isinstance (aa (pv 0) (aa (dG (v:=.ty "str") rfl T.str PyProof.Rows.boot_str rfl) ag))) (λ_=>rfl)))
    (pw_or1 (cL (rb oF oF ah (aF kG rfl T.len PySem.boot_len (aa (pv 0) ag)) (fq (v:=.int 5) rfl hN ⟨_,rfl⟩))))))
   (ak (aq dw)) aJ)
   (ak (aq (aF (iO rfl) rfl T.all PyProof.Rows.boot_all (aa (eT (N:=["sign"]) (k:=1) (js:=[]) rfl (cN rfl (by decide +kernel) (by decide +kernel) (by decide +kernel)) rfl (λi j x h=>by simp at h)
    (wp (pv 0)) (λs H fp=>aK (i:=0) (show (["sign"]:List Str).Nodup by decide +kernel) rfl (Or.inl rfl) (Or.inr rfl)) (λs H fp=>cG pQ (pv 0) (fq (v:=.str letters) rfl hL ⟨_,rfl⟩) (by with_unfolding_all rfl))) ag)))),?_⟩
  unfold tD at hb
  rw [Bool.and_eq_true,Bool.and_eq_true,decide_eq_true_eq,decide_eq_true_eq] at hb
  obtain ⟨⟨a1,a2⟩,a3⟩:=hb
  refine ⟨_,rfl,_,_,_,_,rfl,.str x,(by kernel_rfl:_=some true),_,rfl,aR ?_⟩
  refine ⟨_,rfl,x,rfl,Nat.le_of_lt (aS (by omega)),_,_,rfl,rfl,_,rfl,?_⟩
  have h1:decide ((1:Int)≤(x.length:Int))=true:=decide_eq_true (by omega)
  have h2:decide ((x.length:Int)≤5)=true:=decide_eq_true (by omega)
  rw [h1]
  refine bx ⟨_,_,rfl,rfl,_,rfl,?_⟩
  rw [h2]
  refine aR ?_
  have hsz:x.cps.size=x.length:=rfl
  refine ⟨_,rfl,x,rfl,λp hp=>?_⟩
  refine my (k:=1) (js:=[]) (J:=Its x) (p:=p) x.cps.size (by omega) (λi ys σ' H'=>ys=((x.cps.toList.take i).map inL).map V.bl∧σ'.length=1∧Same H H'∧H' p=some (.lst ys))
   ⟨rfl,rfl,af hp,ac⟩ (λi ys σ' H' h=>?_) (λi ys σ' H' hi h=>hi) (λys σ' H' h=>?_) (λi ys σ' H' hi h v H2 hy=>?_) ?_ ?_
  ·rw [h.1,List.length_map,List.length_map,List.length_take]; omega
  ·obtain ⟨e1,_,s1,e2⟩:=h
   have e3:ys=(x.cps.toList.map inL).map V.bl:=by rw [e1,List.take_of_length_le (by simp)]
   subst e3
   refine ⟨Nat.le_refl _,_,_,rfl,SqL.of e2,?_⟩
   have e4:(x.cps.toList.map inL).all id=true:=by rw [List.all_map]; exact a3
   rw [e4]
   exact k _ s1
  ·obtain ⟨e1,e0,s1,e2⟩:=h
   obtain ⟨rfl,c,hc,rfl⟩:=hy
   refine ⟨_,List.getElem?_set_self (by omega),_,_,rfl,rfl,e2,?_,by simpa using e0,aM hp s1,ac⟩
   have hc':x.cps.toList[i]? = some c:=by simpa using hc
   rw [e1,List.take_succ,hc']
   simp [inL]
  ·intro _ _ _ _ _ m q
   exact m _ _ q
  ·rintro _ _ _ _ m ⟨v,hv,i,j,a1,a2,q⟩
   exact ⟨v,hv,i,j,a1,a2,m _ _ q⟩
noncomputable def lC:Sp:=λvs H Q _=>∃ o,vs=[stV o]∧uB o∧Q (.bl true) H
theorem vd:FnScope ["thing"] ["thing"] (ae gK):=⟨rfl,rfl,rfl,by decide +kernel,rfl,by decide +kernel,by decide +kernel⟩
theorem tF {f:Addr} {fd:FuncData} (F:Fun K "is_stamp" "is_stamp" gK f fd) (T:Txt mg) (CW:Has P w K mg base 1 "is_whole" ["thing"] ie):FnOk P w K mg base CX0 2 f fd ["thing"] lC:=by
 obtain ⟨fW,fdW,GW,mW,kW,bW⟩:=CW
 obtain ⟨tg,hG⟩:=T.greatest
 refine F.ok vd (λvs H Q E h=>?_) (λcdv A outer s H vs Q E hr h=>?_)
 ·obtain ⟨v,rfl,_⟩:=h
  rfl
 ·obtain ⟨o,rfl,ho,k⟩:=h
  refine ⟨_,ak (aq (vj (cG ir (pv 0) dm (ar _)) (il (kq (al GW hr rfl mW kW bW .nil au (aa (pv 0) ag)) (il (qZ oF oF ah (pv 0) (fq (v:=.int 999) rfl hG ⟨_,rfl⟩))))))),?_⟩
  refine ⟨_,rfl,rfl,_,rfl,?_⟩
  cases o with
  | none=>exact bx k
  | some i =>
   obtain ⟨a1,a2⟩:=ho i rfl
   refine aR ⟨_,rfl,_,rfl,_,rfl,bx ?_⟩
   refine ⟨_,rfl,_,_,rfl,rfl,_,rfl,?_⟩
   have h1:decide (0≤i)=true:=decide_eq_true a1
   rw [h1]
   refine bx ⟨_,_,rfl,rfl,?_⟩
   have h2:decide (i≤999)=true:=decide_eq_true a2
   show Q (V.bl (decide (i≤999))) H
   rw [h2]
   exact k
noncomputable def oq:Sp:=λvs H Q _=>∃ a n,vs=[.ref a]∧H a=some (.tup (vals n))∧cU n∧∀ H',Same H H'→Q (.bl true) H'
theorem wY:FnScope ["thing"] ["thing"] (ae jX):=⟨rfl,rfl,rfl,by decide +kernel,rfl,by decide +kernel,by decide +kernel⟩
theorem ve {f:Addr} {fd:FuncData} (F:Fun K "is_node" "is_node" jX f fd) (T:Txt mg) (CW:Has P w K mg base 1 "is_whole" ["thing"] ie) (CN:Has P w K mg base 1 "is_name" ["thing"] oo) (CS:Has P w K mg base 2 "is_stamp" ["thing"] lC):FnOk P w K mg base CX0 3 f fd ["thing"] oq:=by
 obtain ⟨fW,fdW,GW,mW,kW,bW⟩:=CW
 obtain ⟨fN,fdN,GN,mN,kN,bN⟩:=CN
 obtain ⟨fS,fdS,GS,mS,kS,bS⟩:=CS
 refine F.ok wY (λvs H Q E h=>?_) (λcdv A outer s H vs Q E hr h=>?_)
 ·obtain ⟨a,n,rfl,_⟩:=h
  rfl
 ·obtain ⟨a,n,rfl,e,ok,k⟩:=h
  obtain ⟨o1,o2,o3,o4⟩:=ok
  have hr1:Room 1 _:=hr.mono (by decide)
  refine ⟨_,ai (bw (PW.pt (pw_or (cL (cB (aF cg rfl T.isin PyProof.Rows.boot_isinstance (aa (pv 0) (aa (dG (v:=.ty "tuple") rfl T.tuple PyProof.Rows.boot_tuple rfl) ag))) (λ_=>rfl)))
    (pw_or1 (am eB (aF aX rfl T.len PySem.boot_len (aa (pv 0) ag)) ah (ar _))))) (ak (aq dw)) aJ)
   (ai (bw (PW.pt (pw_or (cL (cB (al GW hr1 rfl mW kW bW .nil au (aa (aH aC (pv 0) ah (λ_ _=>rfl)) ag)) (λ_=>rfl))) (pw_or1 (am lM (aH aC (pv 0) ah (λ_ _=>rfl)) ah (ar _))))) (ak (aq dw)) aJ)
   (ak (aq (kq (al GW hr1 rfl mW kW bW .nil au (aa (aH aC (pv 0) ah (λ_ _=>rfl)) ag)) (kq (al GN hr1 rfl mN kN bN .nil au (aa (aH aC (pv 0) ah (λ_ _=>rfl)) ag))
    (il (al GS hr rfl mS kS bS .nil au (aa (aH aC (pv 0) ah (λ_ _=>rfl)) ag)))))))),?_⟩
  refine ⟨_,rfl,_,_,_,_,rfl,.tup e,(by kernel_rfl:_=some true),_,rfl,aR ?_⟩
  refine ⟨_,rfl,a,_,rfl,.inr (SqT.of e),rfl,_,rfl,?_⟩
  refine xE rfl ?_
  refine ⟨_,rfl,a,_,_,_,rfl,rfl,SqT.of e,at0 n,_,rfl,_,rfl,aR ?_⟩
  refine ⟨_,rfl,a,_,_,_,rfl,rfl,SqT.of e,at0 n,_,_,rfl,rfl,_,rfl,?_⟩
  have h1:decide (n.num<1)=false:=decide_eq_false (by omega)
  rw [h1]
  refine aR ?_
  refine ⟨_,rfl,a,_,_,_,rfl,rfl,SqT.of e,at1 n,_,rfl,_,rfl,bx ?_⟩
  refine ⟨_,rfl,a,_,_,_,rfl,rfl,SqT.of e,at2 n,_,rfl,o3.b,λH1 s1=>⟨_,rfl,bx ?_⟩⟩
  exact ⟨_,rfl,a,_,_,_,rfl,rfl,SqT.of (s1 _ _ e),at3 n,n.st,rfl,o4,k H1 s1⟩
noncomputable def ltP (p:Nd×Nd):Bool:=decide (p.1.num<p.2.num)
noncomputable def ou:Sp:=λvs H Q _=>∃ t zs,vs=[.ref t]∧H t=some (.tup (aN zs))∧At H zs∧zs.length≤100∧∀ H',Same H H'→Q (.bl (TW.adj (nds zs))) H'
theorem wZ:FnScope ["nodes"] ["nodes"] (ae jY):=⟨rfl,rfl,rfl,by decide +kernel,rfl,by decide +kernel,by decide +kernel⟩
theorem vf {f:Addr} {fd:FuncData} (F:Fun K "are_rising" "are_rising" jY f fd) (T:Txt mg):FnOk P w K mg base CX0 1 f fd ["nodes"] ou:=by
 refine F.ok wZ (λvs H Q E h=>?_) (λcdv A outer s H vs Q E hr h=>?_)
 ·obtain ⟨t,zs,rfl,_⟩:=h
  rfl
 ·obtain ⟨t,zs,rfl,ht,hA,hl,k⟩:=h
  refine ⟨_,ak (aq (aF (iO rfl) rfl T.all PyProof.Rows.boot_all (aa (eT (N:=["one","other"]) (k:=2) (js:=[]) (g:=vJ K 2 (lJ (bc 0) (lJ (bc 1) vI))) rfl (cN rfl (by decide +kernel) (by decide +kernel) (by decide +kernel)) rfl (λi j x h=>by simp at h)
   (wq rfl T.zip (aa (pv 0) (aa (cn (SlR.or eC nR) (pv 0) (ci ah) dI) ag)))
   (λs H fp=>qU (n:=2) rfl (eA (aK (i:=0) (show (["one","other"]:List Str).Nodup by decide +kernel) rfl (Or.inl rfl) (Or.inr rfl)) (eA (aK (i:=1) (show (["one","other"]:List Str).Nodup by decide +kernel) rfl (Or.inl rfl) (Or.inr rfl)) oz)))
   (λs H fp=>cG lM (aH (r:=dq K) aC (pv 0) ah (λ_ _=>rfl)) (aH (r:=dq K) aC (pv 1) ah (λ_ _=>rfl)) (ar _))) ag))),?_⟩
  have main:∀ (t2:Addr) (H1:Hp),Same H H1→H1 t2=some (.tup (aN (zs.drop 1)))→∀ p,H1 p=none→∀ Q':VK,(∀ (q:Addr) (bs:List Bool) (H':Hp),Same H H'→H' q=some (.lst (bs.map V.bl))→bs.all id=TW.adj (nds zs)→Q' (.ref q) H') →
    LcW 2 [] (vJ K 2 (lJ (bc 0) (lJ (bc 1) vI))) (tOp (rI0 λi j=>.bl (decide (i<j))) (tOp (dq K) (jl 0) (tC (.int 0))) (tOp (dq K) (jl 1) (tC (.int 0)))) (start ["nodes"] [.ref t]) Q' (Itz K t t2) H1 p:=by
   intro t2 H1 s1 ht2 p hp Q' k'
   have hp0:H p=none:=s1.free hp
   have h1t:H1 t=some (.tup (aN zs)):=s1 _ _ ht
   have hzl:((nds zs).zip ((nds zs).drop 1)).length=zs.length - 1:=by rw [List.length_zip,List.length_drop,av]; omega
   refine my (k:=2) (js:=[]) (J:=Itz K t t2) (p:=p) (zs.length - 1) (by omega) (λi ys σ' H'=>ys=((((nds zs).zip ((nds zs).drop 1)).take i).map ltP).map V.bl∧σ'.length=2∧Same H1 H'∧H' p=some (.lst ys))
    ⟨rfl,rfl,af hp,ac⟩ (λi ys σ' H' h=>?_) (λi ys σ' H' hi h=>?_) (λys σ' H' h=>?_) (λi ys σ' H' hi h v H2 hy=>?_) ?_ ?_
   ·rw [h.1,List.length_map,List.length_map,List.length_take]; omega
   ·obtain ⟨_,_,s2,_⟩:=h
    refine ⟨_,_,_,_,SqT.of (s2 _ _ h1t),SqT.of (s2 _ _ ht2),dC (List.getElem?_eq_getElem (by omega)),dC (z:=zs[i+1]) ?_⟩
    rw [List.getElem?_drop,show 1+i=i+1 by omega,List.getElem?_eq_getElem (by omega)]
   ·obtain ⟨e1,_,s2,e2⟩:=h
    refine ⟨⟨_,_,SqT.of (s2 _ _ h1t),SqT.of (s2 _ _ ht2),.inr (by rw [bf,List.length_drop]; exact Nat.le_refl _)⟩,?_⟩
    rw [e1] at e2
    refine k' p _ H' (s1.trans s2) e2 ?_
    rw [List.take_of_length_le (by omega),List.all_map,TW.ph]
    rfl
   ·obtain ⟨e1,e0,s2,e2⟩:=h
    obtain ⟨o1,o2,rfl⟩:=wz e0
    obtain ⟨q,x,y,hq,rfl,hx,hy',rfl⟩:=hy
    have gx:=hx _ (SqT.of (s2 _ _ h1t))
    have gy:=hy' _ (SqT.of (s2 _ _ ht2))
    obtain ⟨z1,g1,rfl⟩:=cp gx
    obtain ⟨z2,g2,rfl⟩:=cp gy
    rw [List.getElem?_drop,show 1+i=i+1 by omega] at g2
    have m1:=List.mem_of_getElem? g1
    have m2:=List.mem_of_getElem? g2
    have s3:Same H (upd H' q (.tup [.ref z1.1,.ref z2.1])):=(s1.trans s2).trans (af hq)
    refine ⟨q,_,rfl,SqT.of ac,rfl,_,_,rfl,_,_,rfl,rfl,?_⟩
    refine ⟨_,rfl,z1.1,_,_,_,rfl,rfl,SqT.of (s3 _ _ (hA z1 m1)),at0 z1.2,_,rfl,z2.1,_,_,_,rfl,rfl,SqT.of (s3 _ _ (hA z2 m2)),at0 z2.2,_,_,rfl,rfl,bp hq e2,?_,rfl,aM hp (s2.trans (af hq)),ac⟩
    have ge:((nds zs).zip ((nds zs).drop 1))[i]? = some (z1.2,z2.2):=by
     rw [List.getElem?_zip_eq_some]
     refine ⟨by unfold nds; rw [List.getElem?_map,g1]; rfl,by unfold nds; rw [List.getElem?_drop,List.getElem?_map,show 1+i=i+1 by omega,g2]; rfl⟩
    rw [e1,List.take_succ,ge]
    simp [ltP]
   ·rintro _ _ _ _ _ m ⟨a,xs,h1,h2,h3,v1,r1,h4,v2,r2,h5,h6,q⟩
    exact ⟨a,xs,h1,h2,h3,v1,r1,h4,v2,r2,h5,h6,m _ _ q⟩
   ·rintro _ _ _ _ m ⟨v1,a1,p1,x1,i1,w1,b1,b2,b3,b4,v2,a2,p2,x2,i2,w2,c1,c2,c3,c4,i,j,d1,d2,q⟩
    exact ⟨v1,a1,p1,x1,i1,w1,b1,b2,b3,b4,v2,a2,p2,x2,i2,w2,c1,c2,c3,c4,i,j,d1,d2,m _ _ q⟩
  have fin:∀ (q:Addr) (bs:List Bool) (H':Hp),Same H H'→H' q=some (.lst (bs.map V.bl))→bs.all id=TW.adj (nds zs)→∃ a,∃ bs':List Bool,[V.ref q]=[V.ref a]∧SqL K H' a (bs'.map V.bl)∧Q (.bl (bs'.all id)) H':=λq bs H' s' e eb =>
   ⟨q,bs,rfl,SqL.of e,by rw [eb]; exact k _ s'⟩
  refine ⟨_,rfl,_,rfl,_,rfl,?_⟩
  by_cases hz:zs=[]
  ·subst hz
   refine .inr ⟨t,_,rfl,SqT.of ht,rfl,rfl,t,t,_,_,rfl,ht,ht,λp hp=>?_⟩
   exact main t H (Same.refl H) ht p hp _ fin
  ·have hlen:1≤zs.length:=by
    cases zs with
    | nil=>exact absurd rfl hz
    | cons _ _=>simp
   refine .inl ⟨t,_,rfl,SqT.of ht,?_,λp1 hp1=>?_⟩
   ·rw [bf]
    intro h
    have:HT.sIx zs.length 0 (some ((1:Nat):Int))=min 1 zs.length:=HT.gZ _ _ _
    have h1:HT.sIx zs.length 0 (some ((1:Nat):Int))=0:=h.1
    omega
   ·have ecut:cv (aN zs) (some 1) none=aN (zs.drop 1):=by
     unfold cv
     rw [HT.iy,bf,show HT.sIx zs.length 0 (some (1:Int))=min 1 zs.length from HT.gZ _ _ 1,show min 1 zs.length=1 by omega]
     unfold aN
     rw [← List.map_drop,← List.map_drop,List.take_of_length_le (by simp)]
    rw [ecut]
    refine ⟨t,p1,_,_,rfl,bp hp1 ht,ac,λp hp=>?_⟩
    exact main p1 _ (af hp1) ac p hp _ fin
noncomputable def tG:Sp:=λvs H Q _=>∃ t zs,vs=[.ref t]∧H t=some (.tup (aN zs))∧At H zs∧zs.length≤60∧∀ b H',(b=true↔TW.cD (nds zs))→Same H H'→Q (.bl b) H'
theorem xV:FnScope ["nodes"] ["nodes"] (ae qx):=⟨rfl,rfl,rfl,by decide +kernel,rfl,by decide +kernel,by decide +kernel⟩
theorem xa {f:Addr} {fd:FuncData} (F:Fun K "have_own_places" "have_own_places" qx f fd) (T:Txt mg):FnOk P w K mg base CX0 1 f fd ["nodes"] tG:=by
 refine F.ok xV (λvs H Q E h=>?_) (λcdv A outer s H vs Q E hr h=>?_)
 ·obtain ⟨t,zs,rfl,_⟩:=h
  rfl
 ·obtain ⟨t,zs,rfl,ht,hA,hl,k⟩:=h
  refine ⟨_,ak (aq (cG fu (aF mv rfl T.len PySem.boot_len (aa (aZ (jo rfl (lm hr)) rfl T.set rfl (aa (eT (N:=["node"]) (k:=1) (js:=[]) (g:=bc 0) rfl (cN rfl (by decide +kernel) (by decide +kernel) (by decide +kernel)) rfl (λi j x h=>by simp at h)
   (cM (pv 0))
   (λs H fp=>aK (i:=0) (show (["node"]:List Str).Nodup by decide +kernel) rfl (Or.inl rfl) (Or.inr rfl))
   (λs H fp=>cm (aa (aH (r:=dq K) aC (pv 0) ah (λ_ _=>rfl)) (aa (aH (r:=dq K) aC (pv 0) ah (λ_ _=>rfl)) ag)))) ag)) ag))
   (aF aX rfl T.len PySem.boot_len (aa (pv 0) ag)) (ar _))),?_⟩
  refine ⟨_,rfl,t,rfl,⟨_,SqT.of ht⟩,λp hp=>?_⟩
  refine my (k:=1) (js:=[]) (J:=Itt K t) (p:=p) zs.length (by omega) (λi ys σ' H'=>∃ kss:List (Addr×List Key),ys=(kss.map (·.1)).map V.ref∧kss.map (·.2)=((nds zs).take i).map plK∧kss.length=i∧(∀ z∈kss,H' z.1=some (.tup (z.2.map kV)))∧σ'.length=1∧Same H H'∧H' p=some (.lst ys))
    ⟨[],rfl,rfl,rfl,by simp,rfl,af hp,ac⟩ (λi ys σ' H' h=>?_) (λi ys σ' H' hi h=>?_) (λys σ' H' h=>?_) (λi ys σ' H' hi h v H2 hy=>?_) ?_ ?_
  ·obtain ⟨kss,rfl,_,e,_⟩:=h
   rw [List.length_map,List.length_map]; omega
  ·obtain ⟨_,_,_,_,_,_,s2,_⟩:=h
   exact ⟨_,_,SqT.of (s2 _ _ ht),dC (List.getElem?_eq_getElem hi)⟩
  ·obtain ⟨kss,e1,e2,e3,e4,_,s2,e5⟩:=h
   refine ⟨⟨_,SqT.of (s2 _ _ ht),by rw [bf]; exact Nat.le_refl _⟩,?_⟩
   subst e1
   refine ⟨p,kss,rfl,SqL.of e5,e4,by omega,λn hn hiff q hq=>?_⟩
   refine ⟨q,n,rfl,ac,by omega,?_⟩
   have s3:Same H (upd H' q (.ext (lg q n))):=s2.trans (af hq)
   refine ⟨_,rfl,t,_,rfl,.inr (SqT.of (s3 _ _ ht)),rfl,?_⟩
   refine k _ _ ?_ s3
   rw [List.take_of_length_le (by rw [av]; exact Nat.le_refl _)] at e2
   rw [e2,qr,e3] at hiff
   rw [← hiff,decide_eq_true_eq,bf]
   constructor
   ·intro z; injection z with z; omega
   ·intro z; rw [z]
  ·obtain ⟨kss,e1,e2,e3,e4,e0,s2,e5⟩:=h
   obtain ⟨o1,rfl⟩:=sv e0
   obtain ⟨rfl,hx⟩:=hy
   have gx:=hx _ (SqT.of (s2 _ _ ht))
   obtain ⟨z1,g1,rfl⟩:=cp gx
   have m1:=List.mem_of_getElem? g1
   refine ⟨_,rfl,z1.1,_,_,_,rfl,rfl,SqT.of (s2 _ _ (hA z1 m1)),at1 z1.2,_,rfl,z1.1,_,_,_,rfl,rfl,SqT.of (s2 _ _ (hA z1 m1)),at2 z1.2,le2,λq hq=>?_⟩
   refine ⟨bp hq e5,kss++[(q,plK z1.2)],by rw [e1]; simp,?_,by simp [e3],?_,rfl,aM hp (s2.trans (af hq)),ac⟩
   ·rw [List.map_append,e2,List.take_succ,show (nds zs)[i]? = some z1.2 by unfold nds; rw [List.getElem?_map,g1]; rfl]
    simp
   ·intro z hz
    have hqp:q≠p:=λz=>by rw [z,e5] at hq; cases hq
    rcases List.mem_append.mp hz with hz | hz
    ·have:=bp (o:=.tup [.int z1.2.par,.str z1.2.nm]) hq (e4 z hz)
     rw [aj]
     ·exact this
     ·intro e
      rw [e,aj (Ne.symm hqp),e5] at this
      cases this
    ·have e:z=(q,plK z1.2):=by simpa using hz
     subst e
     rw [aj hqp]
     exact ac
  ·rintro _ _ _ _ _ m h
   exact m _ _ h
  ·rintro _ _ _ _ m ⟨v1,b0,a1,x1,i1,w1,b1,b2,b3,b4,v2,c0,a2,x2,i2,w2,c1,c2,c3,c4,l,q⟩
   exact ⟨v1,b0,a1,x1,i1,w1,b1,b2,b3,b4,v2,c0,a2,x2,i2,w2,c1,c2,c3,c4,l,λp hp=>m _ _ (q p hp)⟩
theorem xb:FnScope ["thing"] ["thing"] (ae jZ):=⟨rfl,rfl,rfl,by decide +kernel,rfl,by decide +kernel,by decide +kernel⟩
noncomputable def gu:Sp:=λvs H Q _=>∃ t zs,vs=[.ref t]∧H t=some (.tup (aN zs))∧At H zs∧zs.length≤60∧(∀ n∈nds zs,cU n)∧∀ b H',(b=true↔TW.Tree (nds zs))→Same H H'→Q (.bl b) H'
theorem tH {f:Addr} {fd:FuncData} (F:Fun K "is_tree" "is_tree" jZ f fd) (T:Txt mg) (CN:Has P w K mg base 3 "is_node" ["thing"] oq) (CR:Has P w K mg base 1 "are_rising" ["nodes"] ou) (CO:Has P w K mg base 1 "have_own_places" ["nodes"] tG) (CI:Has P w K mg base 1 "numbers_inside" ["nodes","folder"] vA):FnOk P w K mg base CX0 4 f fd ["thing"] gu:=by
 obtain ⟨fN,fdN,GN,mN,kN,bN⟩:=CN
 obtain ⟨fR,fdR,GR,mR,kR,bR⟩:=CR
 obtain ⟨fO,fdO,GO,mO,kO,bO⟩:=CO
 obtain ⟨fI,fdI,GI,mI,kI,bI⟩:=CI
 obtain ⟨tt,hT⟩:=T.top
 refine F.ok xb (λvs H Q E h=>?_) (λcdv A outer s H vs Q E hr h=>?_)
 ·obtain ⟨v,φ,rfl,_⟩:=h
  rfl
 ·obtain ⟨a,zs,rfl,e,hA,hlen,hok,k⟩:=h
  have hr1:Room 1 _:=hr.mono (by decide)
  refine ⟨_,ai (bw (PW.pt (pw_or (cL (cB (aF cg rfl T.isin PyProof.Rows.boot_isinstance (aa (pv 0) (aa (dG (v:=.ty "tuple") rfl T.tuple PyProof.Rows.boot_tuple rfl) ag))) (λ_=>rfl)))
    (pw_or1 (cL (cB (aF (iO rfl) rfl T.all PyProof.Rows.boot_all (aa (eT (N:=["part"]) (k:=1) (js:=[]) (g:=bc 0) rfl (cN rfl (by decide +kernel) (by decide +kernel) (by decide +kernel)) rfl (λi j x h=>by simp at h)
     (cM (pv 0)) (λs H fp=>aK (i:=0) (show (["part"]:List Str).Nodup by decide +kernel) rfl (Or.inl rfl) (Or.inr rfl))
     (λs H fp=>al (X:=cf _ _ _ _ _ _ _) GN hr rfl mN kN bN .nil au (aa (pv 0) ag))) ag)) (λ_=>rfl)))))) (ak (aq dw)) aJ)
   (ai (bw (PW.pt (pw_or (cL (cB (al GR hr1 rfl mR kR bR .nil au (aa (pv 0) ag)) (λ_=>rfl))) (pw_or1 (cL (cB (al GO hr1 rfl mO kO bO .nil au (aa (pv 0) ag)) (λ_=>rfl)))))) (ak (aq dw)) aJ)
   (ak (aq (cG fu (aF aX rfl T.len PySem.boot_len (aa (al GI hr1 rfl mI kI bI .nil au (aa (pv 0) (aa (fq (v:=.int 0) rfl hT ⟨_,rfl⟩) ag))) ag)) (aF aX rfl T.len PySem.boot_len (aa (pv 0) ag)) (ar _))))),?_⟩
  refine ⟨_,rfl,_,_,_,_,rfl,.tup e,(by kernel_rfl:_=some true),_,rfl,aR ?_⟩
  refine ⟨_,rfl,a,rfl,⟨_,SqT.of e⟩,λp hp=>?_⟩
  refine dP (fr:=[]) zs (λz=>V.ref z.1) (by omega) hp (dk (by rw [aY]; exact SqT.of e)) rfl (λz y _=>y = .bl true) (λz y H H' h _=>h) (λz H' kk mz s1 _ hk=>?_) (λys H1 s1 hp1 hys=>?_)
  ·exact ⟨_,rfl,z.1,z.2,rfl,s1 _ _ (hA z mz),hok z.2 (cT mz),λH3 s3=>hk _ H3 s3 rfl⟩
  ·have ey:=bM (f:=λ_:Addr×Nd=>V.bl true) hys (λz y _ h=>h)
   have e2:ys=(zs.map λ_=>true).map V.bl:=by rw [ey,List.map_map]; rfl
   refine ⟨p,zs.map λ_=>true,rfl,SqL.of (by rw [hp1,e2]),_,rfl,?_⟩
   have et:(zs.map λ_=>true).all id=true:=by simp
   rw [et]
   refine aR ?_
   refine ⟨_,rfl,a,zs,rfl,s1 _ _ e,hA.same s1,by omega,λH2 s2=>⟨_,rfl,?_⟩⟩
   have s12:=s1.trans s2
   cases hR:TW.adj (nds zs) with
   | false =>
    refine bx (bx (k false H2 ?_ s12))
    constructor
    ·intro h; cases h
    ·intro h; have:=(TW.lj _).mpr h.rise; rw [hR] at this; cases this
   | true =>
    have hR':=(TW.lj _).mp hR
    refine aR ⟨_,rfl,a,zs,rfl,s12 _ _ e,hA.same s12,hlen,λb H3 hb s3=>⟨_,rfl,?_⟩⟩
    have s13:=s12.trans s3
    cases b with
    | false =>
     refine bx (k false H3 ?_ s13)
     constructor
     ·intro h; cases h
     ·intro h; exact hb.mpr h.own
    | true =>
     have hO:=hb.mp rfl
     refine aR ⟨_,rfl,a,0,zs,rfl,s13 _ _ e,hA.same s13,by omega,λfd dn l H4 wk el s4=>?_⟩
     have s14:=s13.trans s4
     refine ⟨l,_,rfl,.inl (SqL.of el),_,rfl,a,_,rfl,.inr (SqT.of (s14 _ _ e)),rfl,k _ H4 ?_ s14⟩
     rw [decide_eq_true_eq,bf]
     have wa:=wk.all
     rw [av] at wa
     constructor
     ·intro h
      injection h with h
      refine ⟨hR',hO,wa.mp ?_⟩
      simp only [cR,List.length_map] at h
      omega
     ·intro h
      have:=wa.mpr h.down
      simp only [cR,List.length_map]
      rw [this]
end
noncomputable def tI (r:Row):Prop:=0≤r.k∧r.k≤60∧∀ n,r.n=some n→cU n
noncomputable def apS (i:Nat):Stmt:=(ao bY).getD i (.Pass ⟨0,0,0,0⟩)
noncomputable def AN:List Str:=["tree","change","parts","number","old","new","behind"]
theorem qL:FnScope AN ["tree","change"] (ae bY):=⟨rfl,rfl,rfl,by decide +kernel,rfl,by decide +kernel,by decide +kernel⟩
noncomputable abbrev ApX (P:Program) (w:World) (K:PySem.W.Frag) (mg:Str→Option Value) (base:Heap) (f:Addr) (cdv:Value) (A:Around) (outer:List Env) (s:Shared) (H:Hp) (E:XK):Cx:=eR (CX1 P w) P w K mg base AN "applied" (ae bY) f cdv A outer s H E
structure Ap (H0 H:Hp) (d:Addr) (t:List Nd) (es:ZR) (n0 i:Nat) (kvs:List (Key×V)) (ks:List Int) (M:Int→Option Nd):Prop where
 s0:Same H0 H
 dict:H d=some (.dK kvs)
 pd:PD H kvs ks M
 len:ks.length≤n0+i
 hit:∀ e∈es.take i,M e.2.k=e.2.n
 miss:∀ k,(∀ e∈es.take i,e.2.k≠k)→M k=TW.aA t k
 fit:∀ e∈es.take i,e.2.o=TW.aA t e.2.k
 ok:∀ k n,M k=some n→cU n
theorem Ap.kv {H0 H:Hp} {d:Addr} {t:List Nd} {es:ZR} {n0 i:Nat} {kvs:List (Key×V)} {ks:List Int} {M:Int→Option Nd} (h:Ap H0 H d t es n0 i kvs ks M):kvs.length=ks.length:=by
 have:=congrArg List.length h.pd.keys
 rw [List.length_map,List.length_map] at this
 exact this
theorem pH {es:ZR} (hnd:(es.map (·.2.k)).Nodup) {i:Nat} {e:Addr×Row} (ge:es[i]? = some e):∀ x∈es.take i,x.2.k≠e.2.k:=λx hx h=>by
 obtain ⟨j,hj,ej⟩:=List.getElem_of_mem hx
 have hji:j<i:=by rw [List.length_take] at hj; omega
 have hi:i<es.length:=(List.getElem?_eq_some_iff.mp ge).1
 have e1:(es.map (·.2.k))[j]'(by rw [List.length_map]; omega)=(es.map (·.2.k))[i]'(by rw [List.length_map]; omega):=by
  rw [List.getElem_map,List.getElem_map,(List.getElem?_eq_some_iff.mp ge).2]
  rw [List.getElem_take] at ej
  rw [ej]
  exact h
 have:=(List.getElem_inj hnd).mp e1
 omega
theorem xc {k:Int} {o o':Option Nd} (h:∀ n,o=some n→n.num=k) (h':∀ n,o'=some n→n.num=k):decide (o.map ay=o'.map ay)=decide (o=o'):=by
 have:=(show sL ⟨k,o,o'⟩ from ⟨h,h'⟩).eq
 rw [Bool.eq_iff_iff,decide_eq_true_eq,decide_eq_true_eq]
 exact this
section
variable {P:Program} {w:World} {K:PySem.W.Frag} {mg:Str→Option Value} {base:Heap} {f:Addr} {cdv:Value} {A:Around} {outer:List Env} {s:Shared} {H0:Hp} {E:XK}
theorem vg {CN:Addr} (O:sy "NoMatch" mg base CN) (hr:Room 1 (A.deeper (PyProof.Rows.envOfC "applied" (ae bY) s.heap.objs.size f cdv))) :
  ∃ rd,PS (ApX P w K mg base f cdv A outer s H0 E) (apS 1) rd∧∀ (D:Ends) (H:Hp) (a c d:Addr) (t:List Nd) (es:ZR) (n0:Nat) (kvs:List (Key×V)) (ks:List Int) (M:Int→Option Nd),H0 d=none→H c=some (.tup (cJ es))→(∀ e∈es,RowAt H e.1 e.2)→(∀ e∈es,tI e.2)→(es.map (·.2.k)).Nodup→n0+es.length≤60→(∀ e∈es,RowAt H0 e.1 e.2)→H0 c=some (.tup (cJ es))→Ap H0 H d t es n0 0 kvs ks M →
   (∀ H',Same H0 H'→¬ TW.sO t (cz es)→E (.ref CN) none H') →
   (∀ x3 x4 x5 H' kvs ks M,Ap H0 H' d t es n0 es.length kvs ks M→D.nx [some (.ref a),some (.ref c),some (.ref d),x3,x4,x5,none] H')→rd D [some (.ref a),some (.ref c),some (.ref d),none,none,none,none] H:=by
 refine ⟨_,ip (yr sg) rfl (cM (pv 1)) (qU (n:=3) rfl (eA (aK (i:=3) qL.nd rfl (Or.inl rfl)) (eA (aK (i:=4) qL.nd rfl (Or.inl rfl)) (eA (aK (i:=5) qL.nd rfl (Or.inl rfl)) oz))))
  (ai (bw (am (sJ (ca hr)) (iE (ca hr) (pv 2) (pv 3) ⟨rfl,rfl,rfl,rfl⟩) (pv 4) (ar _)) (ak (mG sg O hr.hd rfl (uo (sr (c:=100) (by decide +kernel) (wx (pv 3) (sr (c:=100) (by decide +kernel) ww))) (by decide)))) aJ)
  (ak (kX (ca hr) (pv 2) (pv 3) (pv 5) rfl))),?_⟩
 intro D H a c d t es n0 kvs ks M hd0 hc0 hrows0 hok hnd hlen hrows hc J0 qE qn
 refine ⟨_,rfl,c,rfl,⟨_,SqT.of hc0⟩,oA (xs:=cJ es) (λi σ H'=>∃ x3 x4 x5 kvs ks M,σ=[some (.ref a),some (.ref c),some (.ref d),x3,x4,x5,none]∧Ap H0 H' d t es n0 i kvs ks M) ⟨none,none,none,_,_,_,rfl,J0⟩ (λi σ H' _ ⟨_,_,_,_,_,_,_,J⟩=>SqT.of (J.s0 _ _ hc)) (λi x σ H' hx h=>?_) (λσ H' h=>?_)⟩
 ·obtain ⟨x3,x4,x5,kvs,ks,M,rfl,J⟩:=h
  unfold cJ at hx
  rw [List.getElem?_map] at hx
  cases gx:es[i]? with
  | none=>rw [gx] at hx; cases hx
  | some e =>
   rw [gx] at hx
   cases hx
   have me:=List.mem_of_getElem? gx
   have hi:i<es.length:=(List.getElem?_eq_some_iff.mp gx).1
   obtain ⟨⟨vo,vn,h1,h2,h3⟩,rn⟩:=(hrows e me).same J.s0
   obtain ⟨r0,r1,r2⟩:=hok e me
   have hMk:M e.2.k=TW.aA t e.2.k:=J.miss _ (pH hnd gx)
   refine ⟨e.1,_,rfl,SqT.of h1,rfl,_,_,rfl,_,_,rfl,_,_,rfl,rfl,?_⟩
   refine ⟨_,rfl,d,rfl,.inl ⟨_,.inl J.dict⟩,_,rfl,_,dt.k (k:=Sum.inl e.2.k) J.dict,_,rfl,_,_,(J.pd.val e.2.k).ot,h2.ot,_,rfl,?_⟩
   rw [xc (J.pd.num e.2.k) rn.1]
   by_cases z:M e.2.k=e.2.o
   ·rw [decide_eq_true z]
    obtain ⟨ks',hl',pd'⟩:=J.pd.put J.dict (k:=e.2.k) h3 rn.2
    refine aR ⟨_,rfl,_,rfl,_,rfl,d,_,rfl,lS.k (k:=Sum.inl e.2.k) J.dict (aS (by rw [J.kv]; have:=J.len; omega)),_,_,_,_,ks',_,rfl,aM hd0 J.s0,ac,pd',by have:=J.len; omega,λx hx=>?_,λk hk=>?_,λx hx=>?_,λk n hn=>?_⟩
    ·rw [cX gx] at hx
     show (if x.2.k=e.2.k then e.2.n else M x.2.k)=x.2.n
     rcases List.mem_append.mp hx with hx | hx
     ·rw [if_neg (pH hnd gx x hx)]
      exact J.hit x hx
     ·have ex:x=e:=by simpa using hx
      rw [ex,if_pos rfl]
    ·rw [cX gx] at hk
     show (if k=e.2.k then e.2.n else M k)=_
     rw [if_neg (λz=>hk e (List.mem_append.mpr (.inr (by simp))) z.symm)]
     exact J.miss k λx hx=>hk x (List.mem_append.mpr (.inl hx))
    ·rw [cX gx] at hx
     rcases List.mem_append.mp hx with hx | hx
     ·exact J.fit x hx
     ·have ex:x=e:=by simpa using hx
      rw [ex,← z,hMk]
    ·by_cases ek:k=e.2.k
     ·have hn':(if k=e.2.k then e.2.n else M k)=some n:=hn
      rw [if_pos ek] at hn'
      exact r2 n hn'
     ·have hn':(if k=e.2.k then e.2.n else M k)=some n:=hn
      rw [if_neg ek] at hn'
      exact J.ok k n hn'
   ·rw [decide_eq_false z]
    refine bx ⟨_,rfl,e.2.k,rfl,r0,r1,λy=>⟨aw (show 1≤1000 by decide),qE H' J.s0 λhf=>z ?_⟩⟩
    rw [hMk]
    exact (hf e.2 (List.mem_map.mpr ⟨e,me,rfl⟩)).symm
 ·obtain ⟨x3,x4,x5,kvs,ks,M,rfl,J⟩:=h
  have e1:(cJ es).length=es.length:=by unfold cJ; rw [List.length_map]
  rw [e1] at J
  exact qn x3 x4 x5 H' kvs ks M J
end
theorem vh {α:Type} {ms:List Int} {M:Int→Option α} {bs:List (Int×(Addr×α))} (h:bs.map (·.1)=ms.filter λk=>(M k).isSome) (hb:∀ x∈bs,M x.1=some x.2.2):bs.map (·.2.2)=ms.filterMap M:=by
 have e1:ms.filterMap M=(ms.filter λk=>(M k).isSome).filterMap M:=by
  clear h hb
  induction ms with
  | nil=>rfl
  | cons k ms ih =>
   cases e:M k with
   | none=>rw [List.filterMap_cons_none e,List.filter_cons_of_neg (by rw [e]; simp),ih]
   | some n=>rw [List.filterMap_cons_some e,List.filter_cons_of_pos (by rw [e]; rfl),List.filterMap_cons_some e,ih]
 rw [e1,← h]
 clear h e1
 induction bs with
 | nil=>rfl
 | cons b bs ih =>
  rw [List.map_cons,List.map_cons,List.filterMap_cons_some (hb b List.mem_cons_self),ih λx hx=>hb x (List.mem_cons_of_mem _ hx)]
section
variable {P:Program} {w:World} {K:PySem.W.Frag} {mg:Str→Option Value} {base:Heap} {f:Addr} {cdv:Value} {A:Around} {outer:List Env} {s:Shared} {H0:Hp} {E:XK}
theorem qM (T:Txt mg) (hr:Room 1 (A.deeper (PyProof.Rows.envOfC "applied" (ae bY) s.heap.objs.size f cdv))) :
  ∃ rd,PS (ApX P w K mg base f cdv A outer s H0 E) (apS 2) rd∧∀ (D:Ends) (H:Hp) (a c d:Addr) (t:List Nd) (es:ZR) (n0:Nat) (kvs:List (Key×V)) (ks:List Int) (M:Int→Option Nd) (x3 x4 x5:Option V),Ap H0 H d t es n0 es.length kvs ks M→n0+es.length≤60 →
   (∀ (us:ZN) (ms:List Int) (t':Addr) (H':Hp),Same H0 H'→H' t'=some (.tup (aN us))→At H' us→ms.Perm ks→ms.Pairwise (· < ·)→nds us=ms.filterMap M→D.nx [some (.ref a),some (.ref c),some (.ref d),x3,x4,x5,some (.ref t')] H')→rd D [some (.ref a),some (.ref c),some (.ref d),x3,x4,x5,none] H:=by
 refine ⟨_,ax (i:=6) qL.nd rfl (Or.inl rfl) (aZ bq rfl T.tuple rfl (aa (eE (N:=["number","parts"]) (cl:=[("parts",s.heap.objs.size+1)]) (k:=1) (js:=[2]) (g:=bc 0) rfl
    (LcOk.mk' ["parts"] rfl rfl (by decide +kernel) (by decide +kernel) ?hcl rfl (by decide +kernel)) rfl ?hj (dH (aF (jd rfl) rfl T.sorted PyProof.Rows.boot_sorted (aa (pv 2) ag))) (λs H fp=>aK (i:=0) (show (["number","parts"]:List Str).Nodup by decide +kernel) rfl (Or.inl rfl) (Or.inr rfl))
    (λs H fp=>am oG (cw (ca hr) (pv 1) (pv 0) (λ_ _=>rfl)) dm (ar _)) (λs H fp=>aB (r:=ri K) fz (cm (aa (pv 0) ag)) (cw (ca hr) (pv 1) (pv 0) (λ_ _=>rfl)))) ag)),?_⟩
 case hcl =>
  intro y hy
  rcases List.mem_cons.mp hy with e | hy
  ·rw [e]; rfl
  ·cases hy
 case hj =>
  intro i j x h1 h2
  match i,h1,h2 with
  | 0,h1,h2 =>
   cases h1
   cases h2
   exact ⟨rfl,Or.inr (Or.inl rfl),(show ((ae bY).names.lookup ("parts":Str)≠some NameKind.local) by decide +kernel),by first | exact Or.inl rfl | exact Or.inr rfl⟩
  | i+1,h1,h2=>simp at h1
 intro D H a c d t es n0 kvs ks M x3 x4 x5 J hlen q
 have hkl:ks.length≤60:=Nat.le_trans J.len hlen
 refine ⟨_,rfl,d,kvs,ks,rfl,.inl J.dict,J.pd.keys,J.pd.nd,hkl,λms hperm hup l hl=>?_⟩
 have s1:=af (o:=.lst (ms.map V.int)) hl
 have g1:upd H l (.lst (ms.map V.int)) l=some (.lst (ms.map V.int)):=ac
 generalize upd H l (.lst (ms.map V.int))=H1 at s1 g1 ⊢
 have hml:ms.length≤60:=by rw [hperm.length_eq]; exact hkl
 refine ⟨l,rfl,⟨_,SqL.of g1⟩,λp hp=>?_⟩
 have ex:∀ {k:Int} {H':Hp},k∈ms→Same H1 H'→∃ v,dt H' d (.int k) (some v)∧dh H' v (M k):=λ{k H'} hk s2=>by
  obtain ⟨v,hv⟩:=J.pd.has (hperm.mem_iff.mp hk)
  have hd':H' d=some (.dK kvs):=s2 _ _ (s1 _ _ J.dict)
  have hval:=((J.pd.val k).same s1).same s2
  rw [hv] at hval
  have g:=dt.k (k:=Sum.inl k) hd'
  rw [hv] at g
  exact ⟨v,g,hval⟩
 refine dO (fr:=[some (.ref d)]) ms V.int (by omega) hp (gh (SqL.of g1)) rfl (λk=>(M k).isSome) (λk y H'=>∃ q n,y = .ref q∧q≠p∧M k=some n∧H' q=some (.tup (vals n))) (λk y H H' ⟨q,n,e,ne,e2,h⟩ ex=>⟨q,n,e,ne,e2,ex q _ ne h⟩) (λk H' kk mk s2 _ hk=>?_) (λk H' kk mk hs s2 hpl hk=>?_) (λys H' s2 hp' hys=>?_)
 ·obtain ⟨v,g,ov⟩:=ex mk s2
  refine ⟨_,rfl,_,rfl,d,_,rfl,g,rfl,_,rfl,?_⟩
  have e:(!decide (v=V.non))=(M k).isSome:=by
   rcases ov with ⟨e,e2⟩ | ⟨q,n,e,_,e2⟩
   ·rw [e,e2]; rfl
   ·rw [e,e2]; rfl
  rw [e]
  exact hk H' (Same.refl _)
 ·obtain ⟨v,g,ov⟩:=ex mk s2
  rcases ov with ⟨e,e2⟩ | ⟨q,n,e,hq,e2⟩
  ·rw [e2] at hs; cases hs
  ·subst e
   have s3:∀ {c:Addr},H' c=none→Same H' (upd H' c (.tup [.int k])):=λhc=>af hc
   refine ⟨_,rfl,(show 1≤sizeLine from aw (by decide)),λc1 hc1=>?_⟩
   have s4:=s3 hc1
   have g4:dt (upd H' c1 (.tup [.int k])) d (.int k) (some (.ref q)):=by
    obtain ⟨v',g',_⟩:=ex mk (s2.trans s4)
    have e1:=g'.eqK (s4 _ _ (s2 _ _ (s1 _ _ J.dict)))
    have e2:=g.eqK (s2 _ _ (s1 _ _ J.dict))
    rw [e2,← e1]
    exact g'
   refine ⟨_,rfl,_,rfl,d,_,rfl,g4,c1,q,_,_,rfl,rfl,SqT.of ac,SqT.of (s4 _ _ hq),by simp,(show 4≤sizeLine from aw (by decide)),λh=>absurd h (List.cons_ne_nil _ _),λ_ q2 hq2=>?_⟩
   have hpl2:∃ ys,upd H' c1 (.tup [.int k]) p=some (.lst ys):=let ⟨ys,e⟩:=hpl; ⟨ys,s4 _ _ e⟩
   refine hk _ _ (s4.trans (af hq2)) ⟨q2,n,rfl,dN hpl2 hq2,e2,?_⟩
   rw [ac]
   have en:=J.pd.num k n e2
   show some (HO.tup ([.int k]++ay n))=some (.tup (vals n))
   rw [← en]
   rfl
 ·obtain ⟨bs,b1,b2,b3⟩:=cY (val:=λb:Addr×Nd=>V.ref b.1) (S:=λ(k:Int) (b:Addr×Nd)=>M k=some b.2∧H' b.1=some (.tup (vals b.2))) hys (λk y _ ⟨q,n,e,_,e2,h⟩=>⟨(q,n),e,e2,h⟩)
  refine ⟨p,_,rfl,.inl ⟨SqL.of hp',λt' ht'=>?_⟩⟩
  have s3:=af (o:=.tup ys) ht'
  refine q (bs.map (·.2)) ms t' _ (((J.s0.trans s1).trans s2).trans s3) (by rw [ac,b2,← aY,List.map_map]; rfl) (λz hz=>?_) hperm hup ?_
  ·obtain ⟨x,hx,rfl⟩:=List.mem_map.mp hz
   exact s3 _ _ (b3 x hx).2
  ·have:=vh (bs:=bs) b1 λx hx=>(b3 x hx).1
   rw [← this]
   unfold nds
   rw [List.map_map]
   rfl
end
section
variable {P:Program} {w:World} {K:PySem.W.Frag} {mg:Str→Option Value} {base:Heap}
noncomputable def pI (CN:Addr):Sp:=λvs H Q E=>∃ t c zs es,vs=[.ref t,.ref c]∧Tre H t zs∧(∀ n∈nds zs,cU n)∧ChgAt H c es∧(es.map (·.2.k)).Nodup∧(∀ e∈es,tI e.2)∧zs.length+es.length≤60 ∧
 (∀ us t' H',Same H H'→H' t'=some (.tup (aN us))→At H' us→TW.Appl (nds zs) (cz es) (some (nds us))→Q (.ref t') H')∧∀ H',Same H H'→TW.Appl (nds zs) (cz es) none→E (.ref CN) none H'
theorem xf {f CN:Addr} {fd:FuncData} (F:Fun K "applied" "applied" bY f fd) (T:Txt mg) (O:sy "NoMatch" mg base CN) (CP:Has P w K mg base 1 "parts_by_number" ["tree"] ly) (CT:Has P w K mg base 4 "is_tree" ["thing"] gu):FnOk P w K mg base (CX1 P w) 5 f fd ["tree","change"] (pI CN):=by
 obtain ⟨fP,fdP,GP,mP,kP,bP⟩:=CP
 obtain ⟨fT,fdT,GT,mT,kT,bT⟩:=CT
 refine F.okX qL (λvs H Q E h=>?_) (λcdv A outer s H vs Q E hr h=>?_)
 ·obtain ⟨t,c,zs,es,rfl,_⟩:=h
  rfl
 ·obtain ⟨t,c,zs,es,rfl,tr,hok,hc,hnd,hro,hlen,qo,qE⟩:=h
  have hr1:Room 1 _:=hr.mono (by decide)
  obtain ⟨t1,p1,h1⟩:=vg (P:=P) (w:=w) (K:=K) (f:=f) (cdv:=cdv) (A:=A) (outer:=outer) (s:=s) (H0:=H) (E:=E) O hr1
  obtain ⟨t2,p2,h2⟩:=qM (P:=P) (w:=w) (K:=K) (base:=base) (f:=f) (cdv:=cdv) (A:=A) (outer:=outer) (s:=s) (H0:=H) (E:=E) T hr1
  refine ⟨_,ai (ax (i:=2) qL.nd rfl (Or.inr rfl) (al GP hr1 rfl mP kP bP .nil au (aa (pv 0) ag)))
   (ai p1 (ai p2 (ai (bw (cL (cB (al GT hr rfl mT kT bT .nil au (aa (pv 6) ag)) (λ_=>rfl))) (ak (mG sg O hr.hd rfl aU)) aJ)
   (ak (aq (pv 6)))))),?_⟩
  refine ⟨_,rfl,t,zs,rfl,tr,λd as H1 s1 hd0 bk hd=>?_⟩
  have hT:=tr.tr
  have J0:Ap H H1 d (nds zs) es zs.length 0 (aT as) ((nds zs).map (·.num)) (TW.aA (nds zs)):=⟨s1,hd,PD.book bk hd hT,by rw [List.length_map,av]; exact Nat.le_refl _,by simp,λk _=>rfl,by simp,λk n hn=>hok n (TW.bi hn).1⟩
  refine h1 _ H1 t c d (nds zs) es zs.length _ _ _ hd0 (s1 _ _ hc.tup) (λe he=>(hc.at' e he).same s1) hro hnd hlen hc.at' hc.tup J0 (λH' s' hf=>qE H' s' (.unfit hf)) λx3 x4 x5 H2 kvs ks M J=>?_
  refine h2 _ H2 t c d (nds zs) es zs.length kvs ks M x3 x4 x5 J hlen λus ms t' H3 s3 ht' hA hperm hup hnds=>?_
  have hks:ks.length≤60:=Nat.le_trans J.len hlen
  have hul:us.length≤60:=by
   have h1:(nds us).length≤ms.length:=by rw [hnds]; exact List.length_filterMap_le _ _
   rw [av,hperm.length_eq] at h1
   omega
  have huo:∀ n∈nds us,cU n:=λn hn=>by
   rw [hnds] at hn
   obtain ⟨k,_,hk⟩:=List.mem_filterMap.mp hn
   exact J.ok k n hk
  have tk:es.take es.length=es:=List.take_length
  have hfit:TW.sO (nds zs) (cz es):=λr hr=>by
   obtain ⟨e,he,rfl⟩:=List.mem_map.mp hr
   exact J.fit e (by rw [tk]; exact he)
  have hto:TW.AppTo (nds zs) (cz es) (nds us):=by
   have hf:∀ k,TW.aA (nds us) k=M k:=λk=>by
    rw [hnds,TW.qD hup J.pd.num k]
    by_cases hk:k∈ms
    ·rw [if_pos hk]
    ·rw [if_neg hk,J.pd.out λh=>hk (hperm.mem_iff.mpr h)]
   refine ⟨by rw [hnds]; exact TW.kj hup J.pd.num,λr hr=>?_,λk hk=>?_⟩
   ·obtain ⟨e,he,rfl⟩:=List.mem_map.mp hr
    rw [hf]
    exact J.hit e (by rw [tk]; exact he)
   ·rw [hf]
    refine J.miss k λe he=>hk e.2 ?_
    rw [tk] at he
    exact List.mem_map.mpr ⟨e,he,rfl⟩
  refine ⟨_,rfl,t',us,rfl,ht',hA,hul,huo,λb H4 hb s4=>⟨_,rfl,?_⟩⟩
  cases b with
  | true=>exact aR ⟨_,rfl,qo us t' H4 (s3.trans s4) (s4 _ _ ht') (hA.same s4) (.ok hfit hto (hb.mp rfl))⟩
  | false=>exact bx ⟨aw (show 1≤1000 by decide),qE H4 (s3.trans s4) (.notree hto λh=>by have:=hb.mpr h; cases this)⟩
end
theorem vi (xs:List V):cv xs none (some 1)=xs.take 1:=by
 unfold cv
 rw [HT.iy,show (some (1:Int))=some (((1:Nat)):Int) from rfl,HT.gZ,List.drop_zero,Nat.sub_zero]
 cases xs with
 | nil=>rfl
 | cons x xs=>simp
theorem qO (xs:List V):cv xs (some 1) none=xs.drop 1:=by
 unfold cv
 rw [HT.iy,show (some (1:Int))=some (((1:Nat)):Int) from rfl,HT.gZ]
 cases xs with
 | nil=>rfl
 | cons x xs=>simp
theorem qP (ns:List Str) (x:Str):(qIn (ns.take 1) x || qIn (ns.drop 1) x)=qIn ns x:=by
 unfold qIn
 rw [← Bool.decide_or]
 congr 1
 rw [eq_iff_iff,← List.mem_append,List.take_append_drop]
theorem pJ {t u:List Nd} {es:ZR} (h:TW.Chg t u (cz es)):(es.map (·.2.k)).Nodup:=by
 have:=h.up
 unfold cz at this
 rw [List.pairwise_map] at this
 unfold List.Nodup
 rw [List.pairwise_map]
 exact this.imp λh e=>by omega
theorem vB {t u:List Nd} {es:ZR} (h:TW.Chg t u (cz es)) {e:Addr×Row} (he:e∈es):e.2.k∈t.map (·.num)∨e.2.k∈u.map (·.num):=by
 obtain ⟨h1,h2,h3⟩:=(h.mem e.2).mp (List.mem_map.mpr ⟨e,he,rfl⟩)
 cases a:TW.aA t e.2.k with
 | some m =>
  obtain ⟨m1,m2⟩:=TW.bi a
  exact .inl (List.mem_map.mpr ⟨m,m1,m2⟩)
 | none =>
  cases b:TW.aA u e.2.k with
  | some m =>
   obtain ⟨m1,m2⟩:=TW.bi b
   exact .inr (List.mem_map.mpr ⟨m,m1,m2⟩)
  | none=>exact absurd (h1.trans (a.trans (b.symm.trans h2.symm))) h3
theorem qQ {t u:List Nd} {es:ZR} (h:TW.Chg t u (cz es)) (ht:∀ n∈t,cU n) (hu:∀ n∈u,cU n):∀ e∈es,tI e.2:=λe he=>by
 have hk:1≤e.2.k∧e.2.k≤60:=by
  rcases vB h he with hk | hk <;> obtain ⟨m,hm,em⟩:=List.mem_map.mp hk <;> rw [← em]
  ·exact ⟨(ht m hm).1,(ht m hm).2.1⟩
  ·exact ⟨(hu m hm).1,(hu m hm).2.1⟩
 obtain ⟨_,h2,_⟩:=(h.mem e.2).mp (List.mem_map.mpr ⟨e,he,rfl⟩)
 refine ⟨by omega,hk.2,λn hn=>hu n ?_⟩
 rw [h2] at hn
 exact (TW.bi hn).1
theorem tJ {t u:List Nd} {es:ZR} (h:TW.Chg t u (cz es)):es.length≤t.length+u.length:=by
 have:=eM (m:=t.map (·.num)++u.map (·.num)) (pJ h) λk hk=>by
  obtain ⟨e,he,rfl⟩:=List.mem_map.mp hk
  rw [List.mem_append]
  exact vB h he
 rw [List.length_map,List.length_append,List.length_map,List.length_map] at this
 exact this
theorem tK {t u:List Nd} {rs:List Row} (h:TW.Chg t u rs) (T:TW.Tree1 u):TW.Appl t rs (some u):=.ok h.fits (h.appTo T.rise) T.toTree
theorem tL (dd:TW.Deed Str):atI (cb dd) 1=some (.int dd.key):=by cases dd <;> rfl
theorem cy.key {dd:TW.Deed Str} (h:cy dd):1≤dd.key:=by
 cases dd with
 | make n p nm st=>exact h.1
 | write n st=>exact h.1
 | move n p nm=>exact h.1
 | drop n=>exact h.1
noncomputable def LFN:List Str:=["_law_script","_law_one","_law_other","_law_names","_law_first","_law_second","_law_change","_law_deed_here","_law_behind","_law_numbers"]
theorem jv:FnScope LFN ["_law_script"] (ae dR):=⟨rfl,rfl,rfl,by decide +kernel,rfl,by decide +kernel,by decide +kernel⟩
noncomputable abbrev LFX (P:Program) (w:World) (K:PySem.W.Frag) (mg:Str→Option Value) (base:Heap) (f:Addr) (cdv:Value) (A:Around) (outer:List Env) (s:Shared) (H:Hp) (E:XK):Cx:=(eR CX0 P w K mg base LFN "law" (ae dR) f cdv A outer s H E).nox
noncomputable def lfS (i:Nat):Stmt:=(ao dR).getD i (.Pass ⟨0,0,0,0⟩)
noncomputable abbrev lfσ (a t1 t2:Addr) (x3 x4 x5 x6 x7 x8 x9:Option V):St:=[some (.ref a),some (.ref t1),some (.ref t2),x3,x4,x5,x6,x7,x8,x9]
structure L50 (H:Hp) (t1 t2 pn s1 s2:Addr) (z1 z2 u1 u2:ZN) (ns:List Str):Prop where
 T1:Tre H t1 z1
 T2:Tre H t2 z2
 S1:Tre H s1 u1
 S2:Tre H s2 u2
 N:H pn=some (.lst (ns.map V.str))
theorem L50.same {H H':Hp} {t1 t2 pn s1 s2:Addr} {z1 z2 u1 u2:ZN} {ns:List Str} (h:L50 H t1 t2 pn s1 s2 z1 z2 u1 u2 ns) (s:Same H H'):L50 H' t1 t2 pn s1 s2 z1 z2 u1 u2 ns:=⟨h.T1.same s,h.T2.same s,h.S1.same s,h.S2.same s,s _ _ h.N⟩
structure N50 (z1 z2 u1 u2:ZN) (ns:List Str):Prop where
 ok1:∀ n∈nds z1,cU n
 ok2:∀ n∈nds z2,cU n
 e1:nds u1=TW.bd (qIn ns) (nds z1)
 e2:nds u2=TW.bd (qIn ns) (nds z2)
 b1:z1.length≤9
 b2:z2.length≤15
theorem lD {q:Str→Bool} {t:List Nd} (h:∀ n∈t,cU n):∀ n∈TW.bd q t,cU n:=λn hn=>h n ((TW.dF q t).subset hn)
theorem jj (q:Str→Bool) (t:List Nd):(TW.bd q t).length≤t.length:=(TW.dF q t).length_le
section
variable {P:Program} {w:World} {K:PySem.W.Frag} {mg:Str→Option Value} {base:Heap} {f:Addr} {cdv:Value} {A:Around} {outer:List Env} {s:Shared} {H0:Hp} {E:XK}
theorem lf2 (T:Txt mg) (hr:Room 5 (A.deeper (PyProof.Rows.envOfC "law" (ae dR) s.heap.objs.size f cdv))) (CP:Has P w K mg base 2 "_law_pick" ["_law_script","_law_k","_law_many"] (dU K)) :
  ∃ rd,PS (LFX P w K mg base f cdv A outer s H0 E) (lfS 2) rd∧∀ (D:Ends) (H:Hp) (a t1 t2:Addr) (x4 x5 x6 x7 x8 x9:Option V),dD K H a →
   (∀ (l:Addr) (ns:List Str) (H':Hp),Same H H'→H' l=some (.lst (ns.map V.str))→D.nx (lfσ a t1 t2 (some (.ref l)) x4 x5 x6 x7 x8 x9) H')→rd D (lfσ a t1 t2 none x4 x5 x6 x7 x8 x9) H:=by
 obtain ⟨fP,fdP,GP,mP,kP,bP⟩:=CP
 have hr2:Room 2 _:=hr.mono (by decide)
 refine ⟨_,iR (ii:=3) (N:=["_law_k","_law_script"]) (cl:=[("_law_script",s.heap.objs.size+1)]) (k:=1) (js:=[0]) (g:=bc 0) jv.nd rfl (Or.inl rfl) rfl
   (LcOk.mk' ["_law_script"] rfl rfl (by decide +kernel) (by decide +kernel) ?hcl rfl (by decide +kernel)) rfl ?hj
   (gw rfl T.range (aa (al GP hr2 rfl mP kP bP .nil au (aa (pv 0) (aa ah (aa ah ag)))) ag)) (λs H fp=>aK (i:=0) (show (["_law_k","_law_script"]:List Str).Nodup by decide +kernel) rfl (Or.inl rfl) (Or.inr rfl))
   (λs H fp=>aH (r:=xy K) cq (bJ (aa aU (aa aU (aa aU (aa aU (aa aU ag)))))) (al (X:=cf _ _ _ _ _ _ _) GP hr2 rfl mP kP bP .nil au (aa (pv 1) (aa (aB ba ah (pv 0)) (aa ah ag)))) (λ_ _=>rfl)),?_⟩
 case hcl =>
  intro y hy
  rcases List.mem_cons.mp hy with e | hy
  ·rw [e]; rfl
  ·cases hy
 case hj =>
  intro i j x h1 h2
  match i,h1,h2 with
  | 0,h1,h2 =>
   cases h1
   cases h2
   exact ⟨rfl,Or.inr (Or.inl rfl),(show ((ae dR).names.lookup ("_law_script":Str)≠some NameKind.local) by decide +kernel),by first | exact Or.inl rfl | exact Or.inr rfl⟩
  | i+1,h1,h2=>simp at h1
 intro D H a t1 t2 x4 x5 x6 x7 x8 x9 hS q
 refine ⟨_,rfl,a,_,_,rfl,by decide,by decide,hS,λr H1 r0 r1 s1=>?_⟩
 refine ⟨r,rfl,by omega,by omega,λp hp=>?_⟩
 refine dP (fr:=[some (.ref a)]) (List.range r.toNat) (λi=>V.int (0+(i:Nat))) (by rw [List.length_range]; omega) hp uq rfl (λi y _=>∃ x:Str,y = .str x) (λi y H H' h _=>h) (λi H' k mi s2 _ hk=>?_) (λys H' s2 hp' hys=>?_)
 ·have hS2:=(hS.same s1).same s2
  refine ⟨aw (show 5≤1000 by decide),λl hl=>?_⟩
  have s3:=af (o:=.lst [.str "a",.str "b",.str "c",.str "abcde",.str "no"]) hl
  refine ⟨_,rfl,_,rfl,_,_,rfl,rfl,a,_,_,rfl,by omega,by decide,hS2.same s3,λr' H4 r0' r1' s4=>?_⟩
  have hl4:=s4 _ _ (show upd H' l (.lst [.str "a",.str "b",.str "c",.str "abcde",.str "no"]) l=_ from ac)
  have hx:∃ x:Str,atI [V.str "a",.str "b",.str "c",.str "abcde",.str "no"] r'=some (.str x):=by
   have:r'=0∨r'=1∨r'=2∨r'=3∨r'=4:=by omega
   rcases this with rfl | rfl | rfl | rfl | rfl <;> exact ⟨_,rfl⟩
  obtain ⟨x,hx⟩:=hx
  exact ⟨l,_,r',_,rfl,rfl,SqL.of hl4,hx,hk _ _ (s3.trans s4) ⟨x,rfl⟩⟩
 ·obtain ⟨bs,e1,e2,_⟩:=cY (val:=V.str) (S:=λ(_:Nat) (_:Str)=>True) hys (λm y _ ⟨x,e⟩=>⟨x,e,trivial⟩)
  exact q p (bs.map (·.2)) H' (s1.trans s2) (by rw [hp',e2,List.map_map]; rfl)
theorem lf5 (hr:Room 5 (A.deeper (PyProof.Rows.envOfC "law" (ae dR) s.heap.objs.size f cdv))) (CL:Has P w K mg base 2 "_law_seen" ["_law_tree_here","_law_names"] dg) :
  ∃ rd,PS (LFX P w K mg base f cdv A outer s H0 E) (lfS 5) rd∧∀ (D:Ends) (H:Hp) (a t1 t2 pn s1 s2:Addr) (x6 x7 x8 x9:Option V) (z1 z2 u1 u2:ZN) (ns:List Str),L50 H t1 t2 pn s1 s2 z1 z2 u1 u2 ns→N50 z1 z2 u1 u2 ns →
   (∀ H',Same H H'→D.nx (lfσ a t1 t2 (some (.ref pn)) (some (.ref s1)) (some (.ref s2)) x6 x7 x8 x9) H')→rd D (lfσ a t1 t2 (some (.ref pn)) (some (.ref s1)) (some (.ref s2)) x6 x7 x8 x9) H:=by
 obtain ⟨fL,fdL,GL,mL,kL,bL⟩:=CL
 have hr2:Room 2 _:=hr.mono (by decide)
 have hu4:=lm hr
 refine ⟨_,bw (PW.pt (pw_or (am (gH hu4) (pv 4) (al GL hr2 rfl mL kL bL .nil au (aa (pv 1) (aa (pv 3) ag))) (ar _)) (pw_or1 (am (gH hu4) (pv 5) (al GL hr2 rfl mL kL bL .nil au (aa (pv 2) (aa (pv 3) ag))) (ar _))))) (ak (aq dw)) aJ,?_⟩
 intro D H a t1 t2 pn s1 s2 x6 x7 x8 x9 z1 z2 u1 u2 ns L N q
 refine ⟨_,rfl,_,rfl,_,rfl,t1,pn,z1,ns,rfl,L.T1,L.N,λt' v1 H1 g1 V1 e1=>?_⟩
 have L1:=L.same g1
 refine .inr ⟨s1,t',_,_,rfl,rfl,cK (N.e1.trans e1.symm) L1.S1.nod V1.nod,.inr ⟨L1.S1.tup,V1.tup⟩,_,rfl,aR ?_⟩
 refine ⟨_,rfl,_,rfl,_,rfl,t2,pn,z2,ns,rfl,L1.T2,L1.N,λt'' v2 H2 g2 V2 e2=>?_⟩
 have L2:=L1.same g2
 refine .inr ⟨s2,t'',_,_,rfl,rfl,cK (N.e2.trans e2.symm) L2.S2.nod V2.nod,.inr ⟨L2.S2.tup,V2.tup⟩,_,rfl,aR ?_⟩
 exact q H2 (g1.trans g2)
theorem lf6 (hr:Room 5 (A.deeper (PyProof.Rows.envOfC "law" (ae dR) s.heap.objs.size f cdv))) (CT:Has P w K mg base 4 "is_tree" ["thing"] gu) (CS:Has P w K mg base 2 "seen" ["tree","names"] dg) :
  ∃ rd,PS (LFX P w K mg base f cdv A outer s H0 E) (lfS 6) rd∧∀ (D:Ends) (H:Hp) (a t1 t2 pn s1 s2:Addr) (x6 x7 x8 x9:Option V) (z1 z2 u1 u2:ZN) (ns:List Str),L50 H t1 t2 pn s1 s2 z1 z2 u1 u2 ns→N50 z1 z2 u1 u2 ns →
   (∀ H',Same H H'→D.nx (lfσ a t1 t2 (some (.ref pn)) (some (.ref s1)) (some (.ref s2)) x6 x7 x8 x9) H')→rd D (lfσ a t1 t2 (some (.ref pn)) (some (.ref s1)) (some (.ref s2)) x6 x7 x8 x9) H:=by
 obtain ⟨fT,fdT,GT,mT,kT,bT⟩:=CT
 obtain ⟨fS,fdS,GS,mS,kS,bS⟩:=CS
 have hr2:Room 2 _:=hr.mono (by decide)
 have hr4:Room 4 _:=hr.mono (by decide)
 have hu4:=lm hr
 refine ⟨_,bw (PW.pt (pw_or (am mt (al GT hr4 rfl mT kT bT .nil au (aa (pv 4) ag)) dw (ar _))
  (pw_or (am (gH hu4) (al GS hr2 rfl mS kS bS .nil au (aa (al GS hr2 rfl mS kS bS .nil au (aa (pv 1) (aa (cn oN (pv 3) dI (ci ah)) ag))) (aa (cn oN (pv 3) (ci ah) dI) ag))) (pv 4) (ar _))
  (pw_or1 (am (gH hu4) (al GS hr2 rfl mS kS bS .nil au (aa (pv 1) (aa (bJ ag) ag))) (pv 1) (ar _)))))) (ak (aq dw)) aJ,?_⟩
 intro D H a t1 t2 pn s1 s2 x6 x7 x8 x9 z1 z2 u1 u2 ns L N q
 have hb1:=N.b1
 have hu1:u1.length≤9:=by have:=jj (qIn ns) (nds z1); rw [← N.e1,av,av] at this; omega
 refine ⟨_,rfl,s1,u1,rfl,L.S1.tup,L.S1.nod,by omega,by rw [N.e1]; exact lD N.ok1,λb H1 hb g1=>?_⟩
 have eb:b=true:=hb.mpr L.S1.tr.toTree
 subst eb
 have L1:=L.same g1
 refine ⟨_,_,rfl,rfl,_,rfl,aR ?_⟩
 refine ⟨_,rfl,_,rfl,_,rfl,pn,_,rfl,SqL.of L1.N,λp hp=>?_⟩
 have g2:=af (o:=.lst (cv (ns.map V.str) none (some 1))) hp
 have n2:upd H1 p (.lst (cv (ns.map V.str) none (some 1))) p=some (.lst ((ns.take 1).map V.str)):=by rw [ac,vi,List.map_take]
 generalize upd H1 p (.lst (cv (ns.map V.str) none (some 1)))=H2 at g2 n2 ⊢
 have L2:=L1.same g2
 refine ⟨t1,p,z1,ns.take 1,rfl,L2.T1,n2,λt' v1 H3 g3 V1 e1=>?_⟩
 have L3:=L2.same g3
 refine ⟨_,rfl,_,rfl,pn,_,rfl,SqL.of L3.N,λp' hp'=>?_⟩
 have g4:=af (o:=.lst (cv (ns.map V.str) (some 1) none)) hp'
 have n4:upd H3 p' (.lst (cv (ns.map V.str) (some 1) none)) p'=some (.lst ((ns.drop 1).map V.str)):=by rw [ac,qO,List.map_drop]
 generalize upd H3 p' (.lst (cv (ns.map V.str) (some 1) none))=H4 at g4 n4 ⊢
 have L4:=L3.same g4
 refine ⟨t',p',v1,ns.drop 1,rfl,V1.same g4,n4,λt'' v2 H5 g5 V2 e2=>?_⟩
 have L5:=L4.same g5
 have e3:nds v2=nds u1:=by
  rw [e2,e1,TW.qG L.T1.tr,N.e1]
  exact TW.nD (qP ns) _
 refine ⟨_,rfl,.inr ⟨t'',s1,_,_,rfl,rfl,cK e3 V2.nod L5.S1.nod,.inr ⟨V2.tup,L5.S1.tup⟩,_,rfl,aR ?_⟩⟩
 refine ⟨_,rfl,Nat.zero_le _,λl6 hl6=>?_⟩
 have g6:=af (o:=.lst []) hl6
 refine ⟨t1,l6,z1,[],rfl,(L5.same g6).T1,ac,λt3 v3 H7 g7 V3 e4=>?_⟩
 have L7:=(L5.same g6).same g7
 have e5:nds v3=nds z1:=by rw [e4]; exact TW.qH (λx=>rfl) L.T1.tr
 refine ⟨_,rfl,.inr ⟨t3,t1,_,_,rfl,rfl,cK e5 V3.nod L7.T1.nod,.inr ⟨V3.tup,L7.T1.tup⟩,_,rfl,aR ?_⟩⟩
 exact q H7 ((((((g1.trans g2).trans g3).trans g4).trans g5).trans g6).trans g7)
theorem lf8 {CN:Addr} (hr:Room 5 (A.deeper (PyProof.Rows.envOfC "law" (ae dR) s.heap.objs.size f cdv))) (CC:Has P w K mg base 2 "change_between" ["one","other"] nC) (CA:wC P w K mg base 5 "applied" ["tree","change"] (pI CN)) :
  ∃ rd,PS (LFX P w K mg base f cdv A outer s H0 E) (lfS 8) rd∧∀ (D:Ends) (H:Hp) (a t1 t2 pn s1 s2 c:Addr) (x7 x8 x9:Option V) (z1 z2 u1 u2:ZN) (ns:List Str) (es:ZR),L50 H t1 t2 pn s1 s2 z1 z2 u1 u2 ns→N50 z1 z2 u1 u2 ns→ChgAt H c es→TW.Chg (nds u1) (nds u2) (cz es) →
   (∀ H',Same H H'→D.nx (lfσ a t1 t2 (some (.ref pn)) (some (.ref s1)) (some (.ref s2)) (some (.ref c)) x7 x8 x9) H')→rd D (lfσ a t1 t2 (some (.ref pn)) (some (.ref s1)) (some (.ref s2)) (some (.ref c)) x7 x8 x9) H:=by
 obtain ⟨fC,fdC,GC,mC,kC,bC⟩:=CC
 obtain ⟨fA,fdA,GA,mA,kA,bA⟩:=CA
 have hr2:Room 2 _:=hr.mono (by decide)
 have hu4:=lm hr
 refine ⟨_,bw (PW.pt (pw_or (am (gH hu4) (pv 6) (al GC hr2 rfl mC kC bC .nil au (aa (pv 4) (aa (pv 5) ag))) (ar _)) (pw_or1 (am (gH hu4) (al GA hr rfl mA kA bA .nil xK (aa (pv 4) (aa (pv 6) ag))) (pv 5) (ar _))))) (ak (aq dw)) aJ,?_⟩
 intro D H a t1 t2 pn s1 s2 c x7 x8 x9 z1 z2 u1 u2 ns es L N hc hch q
 have hb1:=N.b1
 have hb2:=N.b2
 have hu1:u1.length≤9:=by have:=jj (qIn ns) (nds z1); rw [← N.e1,av,av] at this; omega
 have hu2:u2.length≤15:=by have:=jj (qIn ns) (nds z2); rw [← N.e2,av,av] at this; omega
 have o1:∀ n∈nds u1,cU n:=by rw [N.e1]; exact lD N.ok1
 have o2:∀ n∈nds u2,cU n:=by rw [N.e2]; exact lD N.ok2
 have hel:=tJ hch
 rw [av,av] at hel
 refine ⟨_,rfl,_,rfl,_,rfl,s1,s2,u1,u2,rfl,L.S1,L.S2,λc2 es2 H1 g1 hc2 hch2=>?_⟩
 have L1:=L.same g1
 refine .inr ⟨c,c2,_,_,rfl,rfl,nX (hch.uniq hch2) (hc.same g1).at' hc2.at',.inr ⟨(hc.same g1).tup,hc2.tup⟩,_,rfl,aR ?_⟩
 have ap0:=tK hch L.S2.tr
 refine ⟨_,rfl,_,rfl,s1,c,u1,es,rfl,L1.S1,o1,hc.same g1,pJ hch,qQ hch o1 o2,by omega,λus t' H2 g2 ht' hA ap=>?_,λH2 _ ap=>(ap0.not_both ap).elim⟩
 have L2:=L1.same g2
 refine ⟨_,rfl,.inr ⟨t',s2,_,_,rfl,rfl,cK (ap.some_uniq ap0) hA L2.S2.nod,.inr ⟨ht',L2.S2.tup⟩,_,rfl,aR ?_⟩⟩
 exact q H2 (g1.trans g2)
theorem lf9 (hr:Room 5 (A.deeper (PyProof.Rows.envOfC "law" (ae dR) s.heap.objs.size f cdv))) (CQ:Has P w K mg base 3 "is_quiet" ["one","other","names"] nF) :
  ∃ rd,PS (LFX P w K mg base f cdv A outer s H0 E) (lfS 9) rd∧∀ (D:Ends) (H:Hp) (a t1 t2 pn s1 s2 c:Addr) (x7 x8 x9:Option V) (z1 z2 u1 u2:ZN) (ns:List Str) (es:ZR),L50 H t1 t2 pn s1 s2 z1 z2 u1 u2 ns→N50 z1 z2 u1 u2 ns→ChgAt H c es→TW.Chg (nds u1) (nds u2) (cz es) →
   (∀ H',Same H H'→D.nx (lfσ a t1 t2 (some (.ref pn)) (some (.ref s1)) (some (.ref s2)) (some (.ref c)) x7 x8 x9) H')→rd D (lfσ a t1 t2 (some (.ref pn)) (some (.ref s1)) (some (.ref s2)) (some (.ref c)) x7 x8 x9) H:=by
 obtain ⟨fQ,fdQ,GQ,mQ,kQ,bQ⟩:=CQ
 have hr3:Room 3 _:=hr.mono (by decide)
 refine ⟨_,bw (PW.pt (pw_or (am eB (al GQ hr3 rfl mQ kQ bQ .nil au (aa (pv 1) (aa (pv 2) (aa (pv 3) ag)))) (cG (nS hr.units0) (pv 6) (cm ag) (ar _)) (ar _))
  (pw_or1 (cL (cB (al GQ hr3 rfl mQ kQ bQ .nil au (aa (pv 1) (aa (pv 1) (aa (pv 3) ag)))) (λ_=>rfl)))))) (ak (aq dw)) aJ,?_⟩
 intro D H a t1 t2 pn s1 s2 c x7 x8 x9 z1 z2 u1 u2 ns es L N hc hch q
 refine ⟨_,rfl,_,rfl,_,rfl,t1,t2,pn,z1,z2,ns,rfl,L.T1,L.T2,L.N,λb H1 g1 hb=>?_⟩
 have L1:=L.same g1
 refine ⟨_,rfl,Nat.zero_le _,λc0 hc0=>?_⟩
 have g2:=af (o:=.tup []) hc0
 have L2:=L1.same g2
 refine ⟨c,c0,cJ es,rfl,rfl,SqT.of (g2 _ _ (g1 _ _ hc.tup)),SqT.of ac,rfl,_,rfl,?_⟩
 have eb:b=decide (cJ es=[]):=by
  apply Bool.eq_iff_iff.mpr
  rw [hb,decide_eq_true_eq,← N.e1,← N.e2,← TW.nE hch L.S1.tr.rise L.S2.tr.rise]
  unfold cz cJ
  rw [List.map_eq_nil_iff,List.map_eq_nil_iff]
 have ed:(!decide (V.bl b=V.bl (decide (cJ es=[]))))=false:=by rw [eb]; simp
 rw [ed]
 refine aR ?_
 refine ⟨_,rfl,_,rfl,_,rfl,t1,t1,pn,z1,z1,ns,rfl,L2.T1,L2.T1,L2.N,λb2 H3 g3 hb2=>?_⟩
 have eb2:b2=true:=hb2.mpr rfl
 subst eb2
 exact ⟨_,rfl,aR (q H3 ((g1.trans g2).trans g3))⟩
theorem yv (hr:Room 5 (A.deeper (PyProof.Rows.envOfC "law" (ae dR) s.heap.objs.size f cdv))) (CL:Has P w K mg base 2 "_law_seen" ["_law_tree_here","_law_names"] dg) :
  ∃ rd,PS (LFX P w K mg base f cdv A outer s H0 E) (lfS 13) rd∧∀ (D:Ends) (H:Hp) (a t1 t2 pn s1 s2 tb:Addr) (x6 x7 x9:Option V) (z1 z2 u1 u2 zb:ZN) (ns:List Str),L50 H t1 t2 pn s1 s2 z1 z2 u1 u2 ns→Tre H tb zb →
   (∀ (l:Addr) (H':Hp),Same H H'→H' l=some (.lst (((nds u1++TW.bd (qIn ns) (nds zb)).map (·.num)).map V.int))→D.nx (lfσ a t1 t2 (some (.ref pn)) (some (.ref s1)) (some (.ref s2)) x6 x7 (some (.ref tb)) (some (.ref l))) H')→rd D (lfσ a t1 t2 (some (.ref pn)) (some (.ref s1)) (some (.ref s2)) x6 x7 (some (.ref tb)) x9) H:=by
 obtain ⟨fL,fdL,GL,mL,kL,bL⟩:=CL
 have hr2:Room 2 _:=hr.mono (by decide)
 refine ⟨_,iR (ii:=9) (N:=["_law_node"]) (cl:=[]) (k:=1) (js:=[]) (g:=bc 0) jv.nd rfl (Or.inl rfl) rfl (cN rfl (by decide +kernel) (by decide +kernel) (by decide +kernel)) rfl (λi j x h=>by simp at h)
   (cM (aB (fz.or rU) (pv 4) (al GL hr2 rfl mL kL bL .nil au (aa (pv 8) (aa (pv 3) ag))))) (λs H fp=>aK (i:=0) (show (["_law_node"]:List Str).Nodup by decide +kernel) rfl (Or.inl rfl) (Or.inr rfl))
   (λs H fp=>aH (r:=dq K) aC (pv 0) ah (λ_ _=>rfl)),?_⟩
 intro D H a t1 t2 pn s1 s2 tb x6 x7 x9 z1 z2 u1 u2 zb ns L Tb q
 refine ⟨_,rfl,_,rfl,_,rfl,tb,pn,zb,ns,rfl,Tb,L.N,λt' vb H1 g1 Vb eb=>?_⟩
 have L1:=L.same g1
 have ll:=L.S1.len
 have lv:=Vb.len
 have fin:∀ (ta:Addr) (H2:Hp),Same H1 H2→H2 ta=some (.tup (aN (u1++vb)))→∀ p,H2 p=none→LcW 1 [] (bc 0) (tOp (dq K) (jl 0) (tC (.int 0))) (lfσ a t1 t2 (some (.ref pn)) (some (.ref s1)) (some (.ref s2)) x6 x7 (some (.ref tb)) x9) (λx H'=>bc 9 x (lfσ a t1 t2 (some (.ref pn)) (some (.ref s1)) (some (.ref s2)) x6 x7 (some (.ref tb)) x9) H' D.nx) (Itt K ta) H2 p:=λta H2 g2 hta p hp=>by
  have hA:At H2 (u1++vb):=λz hz=>by
   rcases List.mem_append.mp hz with hz | hz
   ·exact (L1.same g2).S1.nod z hz
   ·exact (Vb.same g2).nod z hz
  refine dP (fr:=[]) (u1++vb) (λz=>V.ref z.1) (by rw [List.length_append]; omega) hp (dk (by rw [aY]; exact SqT.of hta)) rfl (λz y _=>y = .int z.2.num) (λz y H H' h _=>h) (λz H' k mz s3 _ hk=>?_) (λys H' s3 hp' hys=>?_)
  ·exact ⟨_,rfl,z.1,_,_,_,rfl,rfl,SqT.of (s3 _ _ (hA z mz)),at0 z.2,hk _ H' (Same.refl _) rfl⟩
  ·have ey:=bM (f:=λz:Addr×Nd=>V.int z.2.num) hys (λz y _ h=>h)
   refine q p H' ((g1.trans g2).trans s3) ?_
   rw [hp',ey,← eb]
   unfold nds
   rw [← List.map_append,List.map_map,List.map_map]
   rfl
 have el:∀ {xs:ZN},aN xs=[]→xs=[]:=λ{xs} h=>by
  rw [← aY] at h
  exact List.map_eq_nil_iff.mp h
 by_cases h1:u1=[]
 ·subst h1
  exact .inr ⟨s1,t',_,rfl,rfl,SqT.of L1.S1.tup,SqT.of Vb.tup,t',rfl,⟨_,SqT.of Vb.tup⟩,λp hp=>fin t' H1 (Same.refl _) Vb.tup p hp⟩
 ·refine .inl ⟨s1,t',_,_,rfl,rfl,SqT.of L1.S1.tup,SqT.of Vb.tup,λe=>h1 (el e),aw (by rw [bf,bf]; omega),λe=>?_,λ_ p hp=>?_⟩
  ·have e2:=el e
   subst e2
   exact ⟨s1,rfl,⟨_,SqT.of L1.S1.tup⟩,λp hp=>fin s1 H1 (Same.refl _) (by rw [List.append_nil]; exact L1.S1.tup) p hp⟩
  ·have g2:=af (o:=.tup (aN u1++aN vb)) hp
   have er:aN u1++aN vb=aN (u1++vb):=by rw [← aY,← aY,← aY,List.map_append]
   have ht:upd H1 p (.tup (aN u1++aN vb)) p=some (.tup (aN (u1++vb))):=by rw [ac,er]
   exact ⟨p,rfl,⟨_,SqT.of ac⟩,λp' hp'=>fin p _ g2 ht p' hp'⟩
theorem yw (hr:Room 5 (A.deeper (PyProof.Rows.envOfC "law" (ae dR) s.heap.objs.size f cdv))) (CQ:Has P w K mg base 3 "is_quiet" ["one","other","names"] nF) :
  ∃ rd,PS (LFX P w K mg base f cdv A outer s H0 E) (lfS 14) rd∧∀ (D:Ends) (H:Hp) (a t1 t2 pn s1 s2 c tb l:Addr) (x6:Option V) (z1 z2 u1 u2 zb:ZN) (ns:List Str) (dd:TW.Deed Str) (ms:List Int),L50 H t1 t2 pn s1 s2 z1 z2 u1 u2 ns→Tre H tb zb→H c=some (.tup (cb dd))→H l=some (.lst (ms.map V.int))→(dd.key∉ms→TW.bd (qIn ns) (nds z1)=TW.bd (qIn ns) (nds zb)) →
   (∀ H',Same H H'→D.rt (.bl true) H')→rd D (lfσ a t1 t2 (some (.ref pn)) (some (.ref s1)) (some (.ref s2)) x6 (some (.ref c)) (some (.ref tb)) (some (.ref l))) H:=by
 obtain ⟨fQ,fdQ,GQ,mQ,kQ,bQ⟩:=CQ
 have hr3:Room 3 _:=hr.mono (by decide)
 refine ⟨_,aq (vj (cG jC (aH aC (pv 7) ah (λ_ _=>rfl)) (pv 9) rfl) (il (cG rQ (al GQ hr3 rfl mQ kQ bQ .nil au (aa (pv 1) (aa (pv 8) (aa (pv 3) ag)))) dw (ar _)))),?_⟩
 intro D H a t1 t2 pn s1 s2 c tb l x6 z1 z2 u1 u2 zb ns dd ms L Tb hc hl hq q
 have fl:(ms.map V.int).all cP=true:=by
  rw [List.all_eq_true]
  intro x hx
  obtain ⟨y,_,rfl⟩:=List.mem_map.mp hx
  rfl
 have ein:inV (.int dd.key) (ms.map V.int)=decide (dd.key∈ms):=by
  unfold inV
  rw [List.any_map]
  apply Bool.eq_iff_iff.mpr
  rw [List.any_eq_true,decide_eq_true_eq]
  constructor
  ·rintro ⟨y,hy,h⟩
   have h':y=dd.key:=by simpa [eqV] using h
   exact h' ▸ hy
  ·intro h
   exact ⟨_,h,by simp [eqV]⟩
 refine ⟨_,rfl,c,_,1,_,rfl,rfl,SqT.of hc,tL dd,_,rfl,l,_,rfl,.inl (SqL.of hl),rfl,fl,_,rfl,?_⟩
 rw [show (if false=true then !inV (.int dd.key) (ms.map V.int) else inV (.int dd.key) (ms.map V.int))=decide (dd.key∈ms) from ein]
 by_cases hk:dd.key∈ms
 ·rw [decide_eq_true hk]
  exact bx (q H (Same.refl _))
 ·rw [decide_eq_false hk]
  refine aR ⟨_,rfl,_,rfl,_,rfl,t1,tb,pn,z1,zb,ns,rfl,L.T1,Tb,L.N,λb H1 g1 hb=>?_⟩
  have eb:b=true:=hb.mpr (hq hk)
  subst eb
  exact ⟨_,_,rfl,rfl,q H1 g1⟩
end
section
variable {P:Program} {w:World} {K:PySem.W.Frag} {mg:Str→Option Value} {base:Heap}
theorem yx (h:Has P w K mg base 1 "numbers_inside" ["nodes","folder"] je):Has P w K mg base 1 "numbers_inside" ["nodes","folder"] vA:=by
 obtain ⟨f,fd,G,r⟩:=h
 exact ⟨f,fd,G.imp λvs H Q E ⟨t,f,zs,e,ht,hA,hl,k⟩=>⟨t,f,zs,e,.inr ht,hA,hl,k⟩,r⟩
noncomputable def pK (K:PySem.W.Frag):Sp:=λvs H Q _=>∃ (a:Addr) (ns:List Int),vs=[.ref a]∧SqL K H a (ns.map V.int)∧ns.length≤63∧∀ H',Q (.bl true) H'
theorem xg {f CN:Addr} {fd:FuncData} (F:Fun K "law" "law" dR f fd) (T:Txt mg) (CB:Has P w K mg base 3 "_law_tree" ["_law_script","_law_at","_law_most"] (lA K)) (CP:Has P w K mg base 2 "_law_pick" ["_law_script","_law_k","_law_many"] (dU K)) (CF:Has P w K mg base 4 "_law_further" ["_law_script","_law_at","_law_tree_here","_law_many"] (tw K))
  (CE:Has P w K mg base 3 "_law_deed" ["_law_script","_law_at","_law_tree_here"] (lB K)) (CD:Has P w K mg base 2 "_law_done" ["_law_tree_here","_law_deed_here"] ic)
  (CL:Has P w K mg base 2 "_law_seen" ["_law_tree_here","_law_names"] dg) (CS:Has P w K mg base 2 "seen" ["tree","names"] dg) (CT:Has P w K mg base 4 "is_tree" ["thing"] gu) (CH:Has P w K mg base 3 "change_seen" ["one","other","names"] sP) (CC:Has P w K mg base 2 "change_between" ["one","other"] nC) (CA:wC P w K mg base 5 "applied" ["tree","change"] (pI CN)) (CQ:Has P w K mg base 3 "is_quiet" ["one","other","names"] nF) :
  FnOk P w K mg base CX0 6 f fd ["_law_script"] (pK K):=by
 have CP':=CP
 have CS':=CS
 obtain ⟨fB,fdB,GB,mB,kB,bB⟩:=CB
 obtain ⟨fP,fdP,GP,mP,kP,bP⟩:=CP
 obtain ⟨fF,fdF,GF,mF,kF,bF⟩:=CF
 obtain ⟨fE,fdE,GE,mE,kE,bE⟩:=CE
 obtain ⟨fD,fdD,GD,mD,kD,bD⟩:=CD
 obtain ⟨fS,fdS,GS,mS,kS,bS⟩:=CS
 obtain ⟨fH,fdH,GH,mH,kH,bH⟩:=CH
 refine F.ok jv (λvs H Q E h=>?_) (λcdv A outer s H vs Q E hr h=>?_)
 ·obtain ⟨a,ns,rfl,_⟩:=h
  rfl
 ·obtain ⟨a,ns0,rfl,hS0,hn,q⟩:=h
  have hS:dD K H a:=⟨ns0,hS0⟩
  have hr2:Room 2 _:=hr.mono (by decide)
  have hr3:Room 3 _:=hr.mono (by decide)
  have hr4:Room 4 _:=hr.mono (by decide)
  obtain ⟨r2,p2,h2⟩:=lf2 (outer:=outer) (H0:=H) (E:=E) T hr CP'
  obtain ⟨r5,p5,h5⟩:=lf5 (outer:=outer) (H0:=H) (E:=E) hr CL
  obtain ⟨r6,p6,h6⟩:=lf6 (outer:=outer) (H0:=H) (E:=E) hr CT CS'
  obtain ⟨r8,p8,h8⟩:=lf8 (outer:=outer) (H0:=H) (E:=E) hr CC CA
  obtain ⟨r9,p9,h9⟩:=lf9 (outer:=outer) (H0:=H) (E:=E) hr CQ
  obtain ⟨r13,p13,h13⟩:=yv (outer:=outer) (H0:=H) (E:=E) hr CL
  obtain ⟨r14,p14,h14⟩:=yw (outer:=outer) (H0:=H) (E:=E) hr CQ
  refine ⟨_,ai (ax (i:=1) jv.nd rfl (Or.inl rfl) (al GB hr3 rfl mB kB bB .nil au (aa (pv 0) (aa ah (aa ah ag)))))
   (ai (ax (i:=2) jv.nd rfl (Or.inl rfl) (al GF hr4 rfl mF kF bF .nil au (aa (pv 0) (aa ah (aa (pv 1) (aa (al GP hr2 rfl mP kP bP .nil au (aa (pv 0) (aa ah (aa ah ag)))) ag))))))
   (ai p2
   (ai (ax (i:=4) jv.nd rfl (Or.inl rfl) (al GS hr2 rfl mS kS bS .nil au (aa (pv 1) (aa (pv 3) ag))))
   (ai (ax (i:=5) jv.nd rfl (Or.inl rfl) (al GS hr2 rfl mS kS bS .nil au (aa (pv 2) (aa (pv 3) ag))))
   (ai p5 (ai p6
   (ai (ax (i:=6) jv.nd rfl (Or.inl rfl) (al GH hr3 rfl mH kH bH .nil au (aa (pv 1) (aa (pv 2) (aa (pv 3) ag)))))
   (ai p8 (ai p9
   (ai (ax (i:=7) jv.nd rfl (Or.inl rfl) (al GE hr3 rfl mE kE bE .nil au (aa (pv 0) (aa ah (aa (pv 1) ag)))))
   (ai (ax (i:=8) jv.nd rfl (Or.inl rfl) (al GD hr2 rfl mD kD bD .nil au (aa (pv 1) (aa (pv 7) ag))))
   (ai (bw (cB (aF cg rfl T.isin PyProof.Rows.boot_isinstance (aa (pv 8) (aa (dG (v:=.ty "str") rfl T.str PyProof.Rows.boot_str rfl) ag))) (λ_=>rfl)) (ak (aq dw)) aJ)
   (ai p13 (ak p14)))))))))))))),?_⟩
  refine ⟨_,rfl,a,0,9,rfl,by decide,by decide,by decide,hS,λt1 z1 H1 ht1 hA1 hl1 hT1 hG1 s1=>?_⟩
  have tr1:TW.Tree1 (nds z1):=⟨hT1,λn hn=>by obtain ⟨z,hz,rfl⟩:=gI hn; exact (hG1 z hz).1⟩
  have T1:Tre H1 t1 z1:=⟨ht1,hA1,tr1,by omega⟩
  have ok1:∀ n∈nds z1,cU n:=λn hn=>by obtain ⟨z,hz,rfl⟩:=gI hn; exact (hG1 z hz).ok
  refine ⟨_,rfl,_,rfl,_,rfl,a,_,_,rfl,by decide,by decide,hS.same s1,λr H2 r0 r1 s2=>?_⟩
  refine ⟨a,110,t1,r,z1,rfl,by decide,r0,by omega,(hS.same s1).same s2,T1.same s2,ok1,by omega,λt2 z2 H3 s3 T2 ok2 hl2 _=>?_⟩
  have s13:=(s1.trans s2).trans s3
  have T13:=(T1.same s2).same s3
  refine h2 _ H3 a t1 t2 _ _ _ _ _ _ (hS.same s13) λpn ns H4 s4 hpn=>?_
  refine ⟨_,rfl,_,rfl,t1,pn,z1,ns,rfl,T13.same s4,hpn,λf1 u1 H5 s5 U1 e1=>?_⟩
  refine ⟨_,rfl,_,rfl,t2,pn,z2,ns,rfl,(T2.same s4).same s5,s5 _ _ hpn,λf2 u2 H6 s6 U2 e2=>?_⟩
  have L:L50 H6 t1 t2 pn f1 f2 z1 z2 u1 u2 ns:=⟨((T13.same s4).same s5).same s6,((T2.same s4).same s5).same s6,U1.same s6,U2,s6 _ _ (s5 _ _ hpn)⟩
  have N:N50 z1 z2 u1 u2 ns:=⟨ok1,ok2,e1,e2,by omega,by omega⟩
  have hS6:=(((hS.same s13).same s4).same s5).same s6
  refine h5 _ H6 a t1 t2 pn f1 f2 _ _ _ _ z1 z2 u1 u2 ns L N λH7 s7=>?_
  have L7:=L.same s7
  refine h6 _ H7 a t1 t2 pn f1 f2 _ _ _ _ z1 z2 u1 u2 ns L7 N λH8 s8=>?_
  have L8:=L7.same s8
  have hS8:=(hS6.same s7).same s8
  refine ⟨_,rfl,_,rfl,_,rfl,t1,t2,pn,z1,z2,ns,rfl,L8.T1,L8.T2,L8.N,λc es H9 s9 hc hch=>?_⟩
  rw [← e1,← e2] at hch
  have L9:=L8.same s9
  refine h8 _ H9 a t1 t2 pn f1 f2 c _ _ _ z1 z2 u1 u2 ns es L9 N hc hch λHa sa=>?_
  have La:=L9.same sa
  refine h9 _ Ha a t1 t2 pn f1 f2 c _ _ _ z1 z2 u1 u2 ns es La N (hc.same sa) hch λHb sb=>?_
  have Lb:=La.same sb
  have hSb:=((hS8.same s9).same sa).same sb
  refine ⟨_,rfl,_,rfl,a,200,t1,z1,rfl,by decide,hSb,Lb.T1,ok1,λcd dd Hc sc hcd hf=>?_⟩
  have Lc:=Lb.same sc
  refine ⟨_,rfl,_,rfl,t1,cd,dd,z1,rfl,Lc.T1,by omega,hcd,hf.ok,λzb tb Hd sd htb hAb told=>?_,λwd Hd sd told=>?_⟩
  ·have Ld:=Lc.same sd
   have U:=told.tree tr1 hf.ok.pos
   have hlb:=told.len
   rw [av,av] at hlb
   have Tb:Tre Hd tb zb:=⟨htb,hAb,U,by omega⟩
   refine ⟨_,rfl,_,_,_,_,rfl,.tup htb,(by kernel_rfl:_=some false),_,rfl,aR ?_⟩
   refine h13 _ Hd a t1 t2 pn f1 f2 tb _ _ _ z1 z2 u1 u2 zb ns Ld Tb λl He se hl=>?_
   refine h14 _ He a t1 t2 pn f1 f2 cd tb l _ z1 z2 u1 u2 zb ns dd _ (Ld.same se) (Tb.same se) (se _ _ (sd _ _ hcd)) hl (λhk=>?_) λH' _=>q H'
   refine told.quiet tr1 U hf.key (λm hm e=>hk ?_) λm hm e=>hk ?_
   ·refine List.mem_map.mpr ⟨m,List.mem_append_left _ ?_,e⟩
    rw [e1]; exact hm
   ·exact List.mem_map.mpr ⟨m,List.mem_append_right _ hm,e⟩
  ·exact ⟨_,rfl,_,_,_,_,rfl,.str _,(by kernel_rfl:_=some true),_,rfl,bx (q _)⟩
end
end TK
namespace TK
open PySem PySem.W PyProof.Rows L2
theorem xh {K:PySem.W.Frag} {h:Heap} {mg:Str→Option Value} {x:Str} {C:Addr} {bB:List Value} {nid:String} (X:K.In h) (hb:mg x=some (.ref C)) (q:PySem.W.excIn K C bB nid=true):OwnCls x C bB nid mg h:=by
 have hobj:∃ bm N nm q' bs hdct sn sub ab col dd k0 k1 k2 k3 k5 mN,h.get? C=some (excClassObj nm q' C N bs bm hdct sn sub ab col dd k0 k1 k2 k3 k5 nid)∧h.Ns N mN∧mN "__init__" = none∧OwnTail h bB bm:=by
  unfold PySem.W.excIn at q
  split at q
  case h_2=>exact absurd q (by simp)
  case h_1 d0 c0 s0 hK =>
   split at q
   case h_2=>exact absurd q (by simp)
   case h_1 C1 b1 u0 u1 u2 u3 u4 u5 e1 e2 =>
    rw [Bool.and_eq_true,Bool.and_eq_true,Bool.and_eq_true,Bool.and_eq_true,Bool.and_eq_true] at q
    obtain ⟨⟨⟨⟨⟨y1,y2⟩,y3⟩,g4⟩,g5⟩,y6⟩:=q
    have g1:C1=C:=beq_iff_eq.mp y1
    have g2:u4=nid:=beq_iff_eq.mp y2
    have g3:c0.hasDel=false:=by simpa using y3
    have g6:PySem.W.nsIn K c0.ns "__init__" = some none:=beq_iff_eq.mp y6
    clear y1 y2 y3 y6
    cases c0
    cases s0
    dsimp only at e1 e2 g3 g5 g6
    subst g1 g2 g3 e1 e2
    exact ⟨_,_,_,_,_,_,_,_,_,_,_,_,_,_,_,_,_,X _ _ hK,Heap.Ns.of_isNs (PySem.W.isNs_of_in X g5),PySem.W.nsMap_none_of_in X g5 g6,PySem.W.tail_of_in X g4⟩
 exact ⟨hb,hobj⟩
theorem yy {α:Type} {P:List α→Prop} {us:List α} (hl:us.length=0) (h:P []):P us:=by cases us with | nil=>exact h | cons a r=>cases hl
theorem jk {α:Type} {P:List α→Prop} {us:List α} (hl:us.length=1) (h:∀ a0,P [a0]):P us:=by cases us with | nil=>cases hl | cons a r=>exact yy (P:=λr=>P (a :: r)) (Nat.succ.inj hl) (h a)
theorem lE {α:Type} {P:List α→Prop} {us:List α} (hl:us.length=2) (h:∀ a0 a1,P [a0,a1]):P us:=by cases us with | nil=>cases hl | cons a r=>exact jk (P:=λr=>P (a :: r)) (Nat.succ.inj hl) (h a)
theorem ow {α:Type} {P:List α→Prop} {us:List α} (hl:us.length=3) (h:∀ a0 a1 a2,P [a0,a1,a2]):P us:=by cases us with | nil=>cases hl | cons a r=>exact lE (P:=λr=>P (a :: r)) (Nat.succ.inj hl) (h a)
theorem yz {α:Type} {P:List α→Prop} {us:List α} (hl:us.length=4) (h:∀ a0 a1 a2 a3,P [a0,a1,a2,a3]):P us:=by cases us with | nil=>cases hl | cons a r=>exact ow (P:=λr=>P (a :: r)) (Nat.succ.inj hl) (h a)
theorem xi {l:PySem.W.OpenLaw} {w:World} {K:PySem.W.Frag} {h:Heap} {mg:Str→Option Value} {fa f1 f2 f3 f4 f5 f6 f7 f8 f9 f10 f11 f12 f13 f14 f15 f16 f17 f18 f19 f20 f21 f22 f23 f24 f25 f26:Addr} (X:K.In h) (G:h.Ns mainGlobals mg) (hfa:mg "law" = some (.ref fa))
  {od1 an1 od2 an2 od3 an3 od4 an4 od5 an5 od6 an6 od7 an7 od8 an8 od9 an9 od10 an10 od11 an11 od12 an12 od13 an13 od14 an14 od15 an15 od16 an16 od17 an17 od18 an18 od19 an19 od20 an20 od21 an21 od22 an22 od23 an23 od24 an24 od25 an25 od26 an26:Option Addr} {sl1 sl2 sl3 sl4 sl5 sl6 sl7 sl8 sl9 sl10 sl11 sl12 sl13 sl14 sl15 sl16 sl17 sl18 sl19 sl20 sl21 sl22 sl23 sl24 sl25 sl26:Array (Option Value)} {oc1 kV1 dc1 pm1 cd1 ct1 oc2 kV2 dc2 pm2 cd2 ct2 oc3 kV3 dc3 pm3 cd3 ct3 oc4 kV4 dc4 pm4 cd4 ct4 oc5 kV5 dc5 pm5 cd5 ct5 oc6 kV6 dc6 pm6 cd6 ct6 oc7 kV7 dc7 pm7 cd7 ct7 oc8 kV8 dc8 pm8 cd8 ct8 oc9 kV9 dc9 pm9 cd9 ct9 oc10 kV10 dc10 pm10 cd10 ct10 oc11 kV11 dc11 pm11 cd11 ct11 oc12 kV12 dc12 pm12 cd12 ct12 oc13 kV13 dc13 pm13 cd13 ct13 oc14 kV14 dc14 pm14 cd14 ct14 oc15 kV15 dc15 pm15 cd15 ct15 oc16 kV16 dc16 pm16 cd16 ct16 oc17 kV17 dc17 pm17 cd17 ct17 oc18 kV18 dc18 pm18 cd18 ct18 oc19 kV19 dc19 pm19 cd19 ct19 oc20 kV20 dc20 pm20 cd20 ct20 oc21 kV21 dc21 pm21 cd21 ct21 oc22 kV22 dc22 pm22 cd22 ct22 oc23 kV23 dc23 pm23 cd23 ct23 oc24 kV24 dc24 pm24 cd24 ct24 oc25 kV25 dc25 pm25 cd25 ct25 oc26 kV26 dc26 pm26 cd26 ct26:Value} {t1:Tok}
  (a1:PySem.W.nsIn K mainGlobals "is_whole" = some (some (.ref f1))) (l1:K.lookup f1=some ⟨oc1,od1,.func (PySem.W.fnOf "is_whole" "is_whole" (aI gJ) (ao gJ) (ae gJ) .none kV1 dc1 pm1 an1 cd1 ct1),sl1⟩) (c1:PySem.W.codeIn K cd1 "is_whole" = true) (k1:PySem.W.keepIn K (.ref f1)=true)
  (a2:PySem.W.nsIn K mainGlobals "is_name" = some (some (.ref f2))) (l2:K.lookup f2=some ⟨oc2,od2,.func (PySem.W.fnOf "is_name" "is_name" (aI jW) (ao jW) (ae jW) .none kV2 dc2 pm2 an2 cd2 ct2),sl2⟩) (c2:PySem.W.codeIn K cd2 "is_name" = true) (k2:PySem.W.keepIn K (.ref f2)=true)
  (a3:PySem.W.nsIn K mainGlobals "is_stamp" = some (some (.ref f3))) (l3:K.lookup f3=some ⟨oc3,od3,.func (PySem.W.fnOf "is_stamp" "is_stamp" (aI gK) (ao gK) (ae gK) .none kV3 dc3 pm3 an3 cd3 ct3),sl3⟩) (c3:PySem.W.codeIn K cd3 "is_stamp" = true) (k3:PySem.W.keepIn K (.ref f3)=true)
  (a4:PySem.W.nsIn K mainGlobals "is_node" = some (some (.ref f4))) (l4:K.lookup f4=some ⟨oc4,od4,.func (PySem.W.fnOf "is_node" "is_node" (aI jX) (ao jX) (ae jX) .none kV4 dc4 pm4 an4 cd4 ct4),sl4⟩) (c4:PySem.W.codeIn K cd4 "is_node" = true) (k4:PySem.W.keepIn K (.ref f4)=true)
  (a5:PySem.W.nsIn K mainGlobals "are_rising" = some (some (.ref f5))) (l5:K.lookup f5=some ⟨oc5,od5,.func (PySem.W.fnOf "are_rising" "are_rising" (aI jY) (ao jY) (ae jY) .none kV5 dc5 pm5 an5 cd5 ct5),sl5⟩) (c5:PySem.W.codeIn K cd5 "are_rising" = true) (k5:PySem.W.keepIn K (.ref f5)=true)
  (a6:PySem.W.nsIn K mainGlobals "have_own_places" = some (some (.ref f6))) (l6:K.lookup f6=some ⟨oc6,od6,.func (PySem.W.fnOf "have_own_places" "have_own_places" (aI qx) (ao qx) (ae qx) .none kV6 dc6 pm6 an6 cd6 ct6),sl6⟩) (c6:PySem.W.codeIn K cd6 "have_own_places" = true) (k6:PySem.W.keepIn K (.ref f6)=true)
  (a7:PySem.W.nsIn K mainGlobals "numbers_inside" = some (some (.ref f7))) (l7:K.lookup f7=some ⟨oc7,od7,.func (PySem.W.fnOf "numbers_inside" "numbers_inside" (aI qy) (ao qy) (ae qy) .none kV7 dc7 pm7 an7 cd7 ct7),sl7⟩) (c7:PySem.W.codeIn K cd7 "numbers_inside" = true) (k7:PySem.W.keepIn K (.ref f7)=true)
  (a8:PySem.W.nsIn K mainGlobals "is_tree" = some (some (.ref f8))) (l8:K.lookup f8=some ⟨oc8,od8,.func (PySem.W.fnOf "is_tree" "is_tree" (aI jZ) (ao jZ) (ae jZ) .none kV8 dc8 pm8 an8 cd8 ct8),sl8⟩) (c8:PySem.W.codeIn K cd8 "is_tree" = true) (k8:PySem.W.keepIn K (.ref f8)=true)
  (a9:PySem.W.nsIn K mainGlobals "parts_by_number" = some (some (.ref f9))) (l9:K.lookup f9=some ⟨oc9,od9,.func (PySem.W.fnOf "parts_by_number" "parts_by_number" (aI bh) (ao bh) (ae bh) .none kV9 dc9 pm9 an9 cd9 ct9),sl9⟩) (c9:PySem.W.codeIn K cd9 "parts_by_number" = true) (k9:PySem.W.keepIn K (.ref f9)=true)
  (a10:PySem.W.nsIn K mainGlobals "unlike_entries" = some (some (.ref f10))) (l10:K.lookup f10=some ⟨oc10,od10,.func (PySem.W.fnOf "unlike_entries" "unlike_entries" (aI bu) (ao bu) (ae bu) .none kV10 dc10 pm10 an10 cd10 ct10),sl10⟩) (c10:PySem.W.codeIn K cd10 "unlike_entries" = true) (k10:PySem.W.keepIn K (.ref f10)=true)
  (a11:PySem.W.nsIn K mainGlobals "change_between" = some (some (.ref f11))) (l11:K.lookup f11=some ⟨oc11,od11,.func (PySem.W.fnOf "change_between" "change_between" (aI aG) (ao aG) (ae aG) .none kV11 dc11 pm11 an11 cd11 ct11),sl11⟩) (c11:PySem.W.codeIn K cd11 "change_between" = true) (k11:PySem.W.keepIn K (.ref f11)=true)
  (a12:PySem.W.nsIn K mainGlobals "applied" = some (some (.ref f12))) (l12:K.lookup f12=some ⟨oc12,od12,.func (PySem.W.fnOf "applied" "applied" (aI bY) (ao bY) (ae bY) .none kV12 dc12 pm12 an12 cd12 ct12),sl12⟩) (c12:PySem.W.codeIn K cd12 "applied" = true) (k12:PySem.W.keepIn K (.ref f12)=true)
  (a13:PySem.W.nsIn K mainGlobals "seen" = some (some (.ref f13))) (l13:K.lookup f13=some ⟨oc13,od13,.func (PySem.W.fnOf "seen" "seen" (aI cO) (ao cO) (ae cO) .none kV13 dc13 pm13 an13 cd13 ct13),sl13⟩) (c13:PySem.W.codeIn K cd13 "seen" = true) (k13:PySem.W.keepIn K (.ref f13)=true)
  (a14:PySem.W.nsIn K mainGlobals "change_seen" = some (some (.ref f14))) (l14:K.lookup f14=some ⟨oc14,od14,.func (PySem.W.fnOf "change_seen" "change_seen" (aI cc) (ao cc) (ae cc) .none kV14 dc14 pm14 an14 cd14 ct14),sl14⟩) (c14:PySem.W.codeIn K cd14 "change_seen" = true) (k14:PySem.W.keepIn K (.ref f14)=true)
  (a15:PySem.W.nsIn K mainGlobals "is_quiet" = some (some (.ref f15))) (l15:K.lookup f15=some ⟨oc15,od15,.func (PySem.W.fnOf "is_quiet" "is_quiet" (aI cE) (ao cE) (ae cE) .none kV15 dc15 pm15 an15 cd15 ct15),sl15⟩) (c15:PySem.W.codeIn K cd15 "is_quiet" = true) (k15:PySem.W.keepIn K (.ref f15)=true)
  (a16:PySem.W.nsIn K mainGlobals "_law_cell" = some (some (.ref f16))) (l16:K.lookup f16=some ⟨oc16,od16,.func (PySem.W.fnOf "_law_cell" "_law_cell" (aI ka) (ao ka) (ae ka) .none kV16 dc16 pm16 an16 cd16 ct16),sl16⟩) (c16:PySem.W.codeIn K cd16 "_law_cell" = true) (k16:PySem.W.keepIn K (.ref f16)=true)
  (a17:PySem.W.nsIn K mainGlobals "_law_pick" = some (some (.ref f17))) (l17:K.lookup f17=some ⟨oc17,od17,.func (PySem.W.fnOf "_law_pick" "_law_pick" (aI kb) (ao kb) (ae kb) .none kV17 dc17 pm17 an17 cd17 ct17),sl17⟩) (c17:PySem.W.codeIn K cd17 "_law_pick" = true) (k17:PySem.W.keepIn K (.ref f17)=true)
  (a18:PySem.W.nsIn K mainGlobals "_law_tree" = some (some (.ref f18))) (l18:K.lookup f18=some ⟨oc18,od18,.func (PySem.W.fnOf "_law_tree" "_law_tree" (aI dQ) (ao dQ) (ae dQ) .none kV18 dc18 pm18 an18 cd18 ct18),sl18⟩) (c18:PySem.W.codeIn K cd18 "_law_tree" = true) (k18:PySem.W.keepIn K (.ref f18)=true)
  (a19:PySem.W.nsIn K mainGlobals "_law_book" = some (some (.ref f19))) (l19:K.lookup f19=some ⟨oc19,od19,.func (PySem.W.fnOf "_law_book" "_law_book" (aI kc) (ao kc) (ae kc) .none kV19 dc19 pm19 an19 cd19 ct19),sl19⟩) (c19:PySem.W.codeIn K cd19 "_law_book" = true) (k19:PySem.W.keepIn K (.ref f19)=true)
  (a20:PySem.W.nsIn K mainGlobals "_law_path" = some (some (.ref f20))) (l20:K.lookup f20=some ⟨oc20,od20,.func (PySem.W.fnOf "_law_path" "_law_path" (aI gL) (ao gL) (ae gL) .none kV20 dc20 pm20 an20 cd20 ct20),sl20⟩) (c20:PySem.W.codeIn K cd20 "_law_path" = true) (k20:PySem.W.keepIn K (.ref f20)=true)
  (a21:PySem.W.nsIn K mainGlobals "_law_under" = some (some (.ref f21))) (l21:K.lookup f21=some ⟨oc21,od21,.func (PySem.W.fnOf "_law_under" "_law_under" (aI gM) (ao gM) (ae gM) .none kV21 dc21 pm21 an21 cd21 ct21),sl21⟩) (c21:PySem.W.codeIn K cd21 "_law_under" = true) (k21:PySem.W.keepIn K (.ref f21)=true)
  (a22:PySem.W.nsIn K mainGlobals "_law_done" = some (some (.ref f22))) (l22:K.lookup f22=some ⟨oc22,od22,.func (PySem.W.fnOf "_law_done" "_law_done" (aI bZ) (ao bZ) (ae bZ) .none kV22 dc22 pm22 an22 cd22 ct22),sl22⟩) (c22:PySem.W.codeIn K cd22 "_law_done" = true) (k22:PySem.W.keepIn K (.ref f22)=true)
  (a23:PySem.W.nsIn K mainGlobals "_law_deed" = some (some (.ref f23))) (l23:K.lookup f23=some ⟨oc23,od23,.func (PySem.W.fnOf "_law_deed" "_law_deed" (aI eK) (ao eK) (ae eK) .none kV23 dc23 pm23 an23 cd23 ct23),sl23⟩) (c23:PySem.W.codeIn K cd23 "_law_deed" = true) (k23:PySem.W.keepIn K (.ref f23)=true)
  (a24:PySem.W.nsIn K mainGlobals "_law_further" = some (some (.ref f24))) (l24:K.lookup f24=some ⟨oc24,od24,.func (PySem.W.fnOf "_law_further" "_law_further" (aI qz) (ao qz) (ae qz) .none kV24 dc24 pm24 an24 cd24 ct24),sl24⟩) (c24:PySem.W.codeIn K cd24 "_law_further" = true) (k24:PySem.W.keepIn K (.ref f24)=true)
  (a25:PySem.W.nsIn K mainGlobals "_law_seen" = some (some (.ref f25))) (l25:K.lookup f25=some ⟨oc25,od25,.func (PySem.W.fnOf "_law_seen" "_law_seen" (aI bn) (ao bn) (ae bn) .none kV25 dc25 pm25 an25 cd25 ct25),sl25⟩) (c25:PySem.W.codeIn K cd25 "_law_seen" = true) (k25:PySem.W.keepIn K (.ref f25)=true)
  (a26:PySem.W.nsIn K mainGlobals "law" = some (some (.ref f26))) (l26:K.lookup f26=some ⟨oc26,od26,.func (PySem.W.fnOf "law" "law" (aI dR) (ao dR) (ae dR) .none kV26 dc26 pm26 an26 cd26 ct26),sl26⟩) (c26:PySem.W.codeIn K cd26 "law" = true) (k26:PySem.W.keepIn K (.ref f26)=true)
  (z1:PySem.W.nsIn K mainGlobals "isinstance" = some none)
  (z2:PySem.W.nsIn K mainGlobals "dict" = some none)
  (z3:PySem.W.nsIn K mainGlobals "len" = some none)
  (z4:PySem.W.nsIn K mainGlobals "tuple" = some none)
  (z5:PySem.W.nsIn K mainGlobals "list" = some none)
  (z6:PySem.W.nsIn K mainGlobals "range" = some none)
  (z7:PySem.W.nsIn K mainGlobals "sorted" = some none)
  (z8:PySem.W.nsIn K mainGlobals "reversed" = some none)
  (z9:PySem.W.nsIn K mainGlobals "ValueError" = some none)
  (z10:PySem.W.nsIn K mainGlobals "str" = some none)
  (z11:PySem.W.nsIn K mainGlobals "set" = some none)
  (z12:PySem.W.nsIn K mainGlobals "max" = some none)
  (z13:PySem.W.nsIn K mainGlobals "min" = some none)
  (z14:PySem.W.nsIn K mainGlobals "sum" = some none)
  (z15:PySem.W.nsIn K mainGlobals "zip" = some none)
  (z16:PySem.W.nsIn K mainGlobals "enumerate" = some none)
  (z17:PySem.W.nsIn K mainGlobals "all" = some none)
  (z18:PySem.W.nsIn K mainGlobals "int" = some none)
  (z19:PySem.W.nsIn K mainGlobals "bool" = some none)
  (v1t:PySem.W.nsIn K mainGlobals "TOP" = some (some (.int 0 t1)))
  {t2:Tok} (v2t:PySem.W.nsIn K mainGlobals "LETTERS" = some (some (.str "abcdefghijklmnopqrstuvwxyz" t2)))
  {t3:Tok} (v3t:PySem.W.nsIn K mainGlobals "LONGEST_NAME" = some (some (.int 5 t3)))
  {t4:Tok} (v4t:PySem.W.nsIn K mainGlobals "GREATEST_STAMP" = some (some (.int 999 t4)))
  {CN:Addr} (xN:PySem.W.nsIn K mainGlobals "NoMatch" = some (some (.ref CN))) (qN:PySem.W.excIn K CN bmV "ValueError.__new__" = true) (gN:PySem.W.ktsIn K CN "BaseException" = true) (sN:PySem.W.subIn K (.ref CN) (.ref CN)=some true) :
  ∃ fd:FuncData,(∀ (s:Shared) (v:Value),BindsTo s fd ⟨[v],[]⟩ [("_law_script",v)])∧∀ base:Heap,K.In base→base.Ns mainGlobals mg→FnOk l.prog w K mg base CX0 6 fa fd ["_law_script"] (pK K):=by
 have e:=hfa.symm.trans (PySem.W.mg_of X G a26)
 cases e
 have T:Txt mg:=⟨PySem.W.mg_none_of X G z1,PySem.W.mg_none_of X G z2,PySem.W.mg_none_of X G z3,PySem.W.mg_none_of X G z4,PySem.W.mg_none_of X G z5,PySem.W.mg_none_of X G z6,PySem.W.mg_none_of X G z7,PySem.W.mg_none_of X G z8,PySem.W.mg_none_of X G z9,PySem.W.mg_none_of X G z10,PySem.W.mg_none_of X G z11,PySem.W.mg_none_of X G z12,PySem.W.mg_none_of X G z13,PySem.W.mg_none_of X G z14,PySem.W.mg_none_of X G z15,PySem.W.mg_none_of X G z16,PySem.W.mg_none_of X G z17,PySem.W.mg_none_of X G z18,PySem.W.mg_none_of X G z19,⟨_,PySem.W.mg_of X G v1t⟩,⟨_,PySem.W.mg_of X G v2t⟩,⟨_,PySem.W.mg_of X G v3t⟩,⟨_,PySem.W.mg_of X G v4t⟩⟩
 have MN:mg "NoMatch" = some (.ref CN):=PySem.W.mg_of X G xN
 have F1:=be (st:=gJ) l1 c1 k1
 have b1:=F1.binds (ps:=["thing"]) λ_ _ _ _ _ _ us hl=>jk (P:=λus=>bindArgs _ ⟨us,[]⟩=pure (List.zip _ us)) hl λ_=>rfl
 have m1:=PySem.W.mg_of X G a1
 have F2:=be (st:=jW) l2 c2 k2
 have b2:=F2.binds (ps:=["thing"]) λ_ _ _ _ _ _ us hl=>jk (P:=λus=>bindArgs _ ⟨us,[]⟩=pure (List.zip _ us)) hl λ_=>rfl
 have m2:=PySem.W.mg_of X G a2
 have F3:=be (st:=gK) l3 c3 k3
 have b3:=F3.binds (ps:=["thing"]) λ_ _ _ _ _ _ us hl=>jk (P:=λus=>bindArgs _ ⟨us,[]⟩=pure (List.zip _ us)) hl λ_=>rfl
 have m3:=PySem.W.mg_of X G a3
 have F4:=be (st:=jX) l4 c4 k4
 have b4:=F4.binds (ps:=["thing"]) λ_ _ _ _ _ _ us hl=>jk (P:=λus=>bindArgs _ ⟨us,[]⟩=pure (List.zip _ us)) hl λ_=>rfl
 have m4:=PySem.W.mg_of X G a4
 have F5:=be (st:=jY) l5 c5 k5
 have b5:=F5.binds (ps:=["nodes"]) λ_ _ _ _ _ _ us hl=>jk (P:=λus=>bindArgs _ ⟨us,[]⟩=pure (List.zip _ us)) hl λ_=>rfl
 have m5:=PySem.W.mg_of X G a5
 have F6:=be (st:=qx) l6 c6 k6
 have b6:=F6.binds (ps:=["nodes"]) λ_ _ _ _ _ _ us hl=>jk (P:=λus=>bindArgs _ ⟨us,[]⟩=pure (List.zip _ us)) hl λ_=>rfl
 have m6:=PySem.W.mg_of X G a6
 have F7:=be (st:=qy) l7 c7 k7
 have b7:=F7.binds (ps:=["nodes","folder"]) λ_ _ _ _ _ _ us hl=>lE (P:=λus=>bindArgs _ ⟨us,[]⟩=pure (List.zip _ us)) hl λ_ _=>rfl
 have m7:=PySem.W.mg_of X G a7
 have F8:=be (st:=jZ) l8 c8 k8
 have b8:=F8.binds (ps:=["thing"]) λ_ _ _ _ _ _ us hl=>jk (P:=λus=>bindArgs _ ⟨us,[]⟩=pure (List.zip _ us)) hl λ_=>rfl
 have m8:=PySem.W.mg_of X G a8
 have F9:=be (st:=bh) l9 c9 k9
 have b9:=F9.binds (ps:=["tree"]) λ_ _ _ _ _ _ us hl=>jk (P:=λus=>bindArgs _ ⟨us,[]⟩=pure (List.zip _ us)) hl λ_=>rfl
 have m9:=PySem.W.mg_of X G a9
 have F10:=be (st:=bu) l10 c10 k10
 have b10:=F10.binds (ps:=["entries"]) λ_ _ _ _ _ _ us hl=>jk (P:=λus=>bindArgs _ ⟨us,[]⟩=pure (List.zip _ us)) hl λ_=>rfl
 have m10:=PySem.W.mg_of X G a10
 have F11:=be (st:=aG) l11 c11 k11
 have b11:=F11.binds (ps:=["one","other"]) λ_ _ _ _ _ _ us hl=>lE (P:=λus=>bindArgs _ ⟨us,[]⟩=pure (List.zip _ us)) hl λ_ _=>rfl
 have m11:=PySem.W.mg_of X G a11
 have F12:=be (st:=bY) l12 c12 k12
 have b12:=F12.binds (ps:=["tree","change"]) λ_ _ _ _ _ _ us hl=>lE (P:=λus=>bindArgs _ ⟨us,[]⟩=pure (List.zip _ us)) hl λ_ _=>rfl
 have m12:=PySem.W.mg_of X G a12
 have F13:=be (st:=cO) l13 c13 k13
 have b13:=F13.binds (ps:=["tree","names"]) λ_ _ _ _ _ _ us hl=>lE (P:=λus=>bindArgs _ ⟨us,[]⟩=pure (List.zip _ us)) hl λ_ _=>rfl
 have m13:=PySem.W.mg_of X G a13
 have F14:=be (st:=cc) l14 c14 k14
 have b14:=F14.binds (ps:=["one","other","names"]) λ_ _ _ _ _ _ us hl=>ow (P:=λus=>bindArgs _ ⟨us,[]⟩=pure (List.zip _ us)) hl λ_ _ _=>rfl
 have m14:=PySem.W.mg_of X G a14
 have F15:=be (st:=cE) l15 c15 k15
 have b15:=F15.binds (ps:=["one","other","names"]) λ_ _ _ _ _ _ us hl=>ow (P:=λus=>bindArgs _ ⟨us,[]⟩=pure (List.zip _ us)) hl λ_ _ _=>rfl
 have m15:=PySem.W.mg_of X G a15
 have F16:=be (st:=ka) l16 c16 k16
 have b16:=F16.binds (ps:=["_law_script","_law_k"]) λ_ _ _ _ _ _ us hl=>lE (P:=λus=>bindArgs _ ⟨us,[]⟩=pure (List.zip _ us)) hl λ_ _=>rfl
 have m16:=PySem.W.mg_of X G a16
 have F17:=be (st:=kb) l17 c17 k17
 have b17:=F17.binds (ps:=["_law_script","_law_k","_law_many"]) λ_ _ _ _ _ _ us hl=>ow (P:=λus=>bindArgs _ ⟨us,[]⟩=pure (List.zip _ us)) hl λ_ _ _=>rfl
 have m17:=PySem.W.mg_of X G a17
 have F18:=be (st:=dQ) l18 c18 k18
 have b18:=F18.binds (ps:=["_law_script","_law_at","_law_most"]) λ_ _ _ _ _ _ us hl=>ow (P:=λus=>bindArgs _ ⟨us,[]⟩=pure (List.zip _ us)) hl λ_ _ _=>rfl
 have m18:=PySem.W.mg_of X G a18
 have F19:=be (st:=kc) l19 c19 k19
 have b19:=F19.binds (ps:=["_law_tree_here"]) λ_ _ _ _ _ _ us hl=>jk (P:=λus=>bindArgs _ ⟨us,[]⟩=pure (List.zip _ us)) hl λ_=>rfl
 have m19:=PySem.W.mg_of X G a19
 have F20:=be (st:=gL) l20 c20 k20
 have b20:=F20.binds (ps:=["_law_book_here","_law_number"]) λ_ _ _ _ _ _ us hl=>lE (P:=λus=>bindArgs _ ⟨us,[]⟩=pure (List.zip _ us)) hl λ_ _=>rfl
 have m20:=PySem.W.mg_of X G a20
 have F21:=be (st:=gM) l21 c21 k21
 have b21:=F21.binds (ps:=["_law_book_here","_law_number","_law_goal"]) λ_ _ _ _ _ _ us hl=>ow (P:=λus=>bindArgs _ ⟨us,[]⟩=pure (List.zip _ us)) hl λ_ _ _=>rfl
 have m21:=PySem.W.mg_of X G a21
 have F22:=be (st:=bZ) l22 c22 k22
 have b22:=F22.binds (ps:=["_law_tree_here","_law_deed_here"]) λ_ _ _ _ _ _ us hl=>lE (P:=λus=>bindArgs _ ⟨us,[]⟩=pure (List.zip _ us)) hl λ_ _=>rfl
 have m22:=PySem.W.mg_of X G a22
 have F23:=be (st:=eK) l23 c23 k23
 have b23:=F23.binds (ps:=["_law_script","_law_at","_law_tree_here"]) λ_ _ _ _ _ _ us hl=>ow (P:=λus=>bindArgs _ ⟨us,[]⟩=pure (List.zip _ us)) hl λ_ _ _=>rfl
 have m23:=PySem.W.mg_of X G a23
 have F24:=be (st:=qz) l24 c24 k24
 have b24:=F24.binds (ps:=["_law_script","_law_at","_law_tree_here","_law_many"]) λ_ _ _ _ _ _ us hl=>yz (P:=λus=>bindArgs _ ⟨us,[]⟩=pure (List.zip _ us)) hl λ_ _ _ _=>rfl
 have m24:=PySem.W.mg_of X G a24
 have F25:=be (st:=bn) l25 c25 k25
 have b25:=F25.binds (ps:=["_law_tree_here","_law_names"]) λ_ _ _ _ _ _ us hl=>lE (P:=λus=>bindArgs _ ⟨us,[]⟩=pure (List.zip _ us)) hl λ_ _=>rfl
 have m25:=PySem.W.mg_of X G a25
 have F26:=be (st:=dR) l26 c26 k26
 refine ⟨PySem.W.fnOf "law" "law" (aI dR) (ao dR) (ae dR) .none kV26 dc26 pm26 an26 cd26 ct26,λs v=>.of_eq rfl,λbase KB _=>?_⟩
 have OW:sy "NoMatch" mg base CN:=xh KB MN qN
 have C_is_whole:Has l.prog w K mg base 1 "is_whole" ["thing"] ie:=⟨f1,_,tE F1 T,m1,k1,b1⟩
 have C_is_name:Has l.prog w K mg base 1 "is_name" ["thing"] oo:=⟨f2,_,vc F2 T,m2,k2,b2⟩
 have C_is_stamp:Has l.prog w K mg base 2 "is_stamp" ["thing"] lC:=⟨f3,_,tF F3 T C_is_whole,m3,k3,b3⟩
 have C_is_node:Has l.prog w K mg base 3 "is_node" ["thing"] oq:=⟨f4,_,ve F4 T C_is_whole C_is_name C_is_stamp,m4,k4,b4⟩
 have C_are_rising:Has l.prog w K mg base 1 "are_rising" ["nodes"] ou:=⟨f5,_,vf F5 T,m5,k5,b5⟩
 have C_have_own_places:Has l.prog w K mg base 1 "have_own_places" ["nodes"] tG:=⟨f6,_,xa F6 T,m6,k6,b6⟩
 have C_numbers_inside:Has l.prog w K mg base 1 "numbers_inside" ["nodes","folder"] je:=⟨f7,_,uO F7 T,m7,k7,b7⟩
 have C_is_tree:Has l.prog w K mg base 4 "is_tree" ["thing"] gu:=⟨f8,_,tH F8 T C_is_node C_are_rising C_have_own_places (yx C_numbers_inside),m8,k8,b8⟩
 have C_parts_by_number:Has l.prog w K mg base 1 "parts_by_number" ["tree"] ly:=⟨f9,_,uP F9 T,m9,k9,b9⟩
 have C_unlike_entries:Has l.prog w K mg base 1 "unlike_entries" ["entries"] pD:=⟨f10,_,wJ F10 T,m10,k10,b10⟩
 have C_change_between:Has l.prog w K mg base 2 "change_between" ["one","other"] nC:=⟨f11,_,wK F11 T C_parts_by_number C_unlike_entries,m11,k11,b11⟩
 have C_applied:wC l.prog w K mg base 5 "applied" ["tree","change"] (pI CN):=⟨f12,_,xf F12 T OW C_parts_by_number C_is_tree,m12,k12,b12⟩
 have C_seen:Has l.prog w K mg base 2 "seen" ["tree","names"] dg:=⟨f13,_,uR F13 T C_numbers_inside,m13,k13,b13⟩
 have C_change_seen:Has l.prog w K mg base 3 "change_seen" ["one","other","names"] sP:=⟨f14,_,wM F14 C_seen C_change_between,m14,k14,b14⟩
 have C_is_quiet:Has l.prog w K mg base 3 "is_quiet" ["one","other","names"] nF:=⟨f15,_,wQ F15 C_seen,m15,k15,b15⟩
 have C__law_cell:Has l.prog w K mg base 1 "_law_cell" ["_law_script","_law_k"] (om K):=⟨f16,_,uX F16 T,m16,k16,b16⟩
 have C__law_pick:Has l.prog w K mg base 2 "_law_pick" ["_law_script","_law_k","_law_many"] (dU K):=⟨f17,_,uY F17 T C__law_cell,m17,k17,b17⟩
 have C__law_tree:Has l.prog w K mg base 3 "_law_tree" ["_law_script","_law_at","_law_most"] (lA K):=⟨f18,_,tf F18 T C__law_pick,m18,k18,b18⟩
 have C__law_book:Has l.prog w K mg base 1 "_law_book" ["_law_tree_here"] lz:=⟨f19,_,uS F19 T,m19,k19,b19⟩
 have C__law_path:Has l.prog w K mg base 1 "_law_path" ["_law_book_here","_law_number"] sS:=⟨f20,_,xS F20 T,m20,k20,b20⟩
 have C__law_under:Has l.prog w K mg base 1 "_law_under" ["_law_book_here","_law_number","_law_goal"] jh:=⟨f21,_,wO F21,m21,k21,b21⟩
 have C__law_done:Has l.prog w K mg base 2 "_law_done" ["_law_tree_here","_law_deed_here"] ic:=⟨f22,_,sY F22 T C__law_book C__law_under,m22,k22,b22⟩
 have C__law_deed:Has l.prog w K mg base 3 "_law_deed" ["_law_script","_law_at","_law_tree_here"] (lB K):=⟨f23,_,uZ F23 T C__law_pick,m23,k23,b23⟩
 have C__law_further:Has l.prog w K mg base 4 "_law_further" ["_law_script","_law_at","_law_tree_here","_law_many"] (tw K):=⟨f24,_,wW F24 T C__law_deed C__law_done,m24,k24,b24⟩
 have C__law_seen:Has l.prog w K mg base 2 "_law_seen" ["_law_tree_here","_law_names"] dg:=⟨f25,_,wR F25 T C__law_book C__law_path,m25,k25,b25⟩
 exact xg F26 T C__law_tree C__law_pick C__law_further C__law_deed C__law_done C__law_seen C_seen C_is_tree C_change_seen C_change_between C_applied C_is_quiet
theorem walk {l:PySem.W.OpenLaw} {q:Program} {loose:List Str} {XP:(Str→Option Value)→Heap→Prop} {YP:World→Heap→Prop} {d:DefRec} {K:Params→PySem.W.Frag} (hn:l.most=some 63) (hdf:d.params.defaults=[])
  (hY:∀ (w:World) (h:Heap),YP w h→(K w.params).In h)
  (F:∀ (w:World) (mg:Str→Option Value) (fa:Addr) (h:Heap),(K w.params).In h→h.Ns mainGlobals mg→mg d.name=some (.ref fa) →
   ∃ fd:FuncData,(∀ (s:Shared) (u:Value),BindsTo s fd ⟨[u],[]⟩ [("_law_script",u)])∧∀ base:Heap,(K w.params).In base→base.Ns mainGlobals mg→FnOk l.prog w (K w.params) mg base CX0 6 fa fd ["_law_script"] (pK (K w.params))) :
  PySem.W.WalkO q loose XP YP l.row.toRowW d [] (λf vs=>PySem.call f vs) :=
 L2.tW (n:=63) (k:=6) (x:="_law_script") (CX:=λ_=>CX0) (sp:=λw=>pK (K w.params)) hn (by decide) hdf ⟨rfl,by decide,by decide⟩ hY F (λ_ _ a ns hl _ hS=>⟨a,ns,rfl,hS,hl,λ_=>rfl⟩) λ_ _ _ _ _ z=>z
end TK
open PySem PySem.W PyProof.Rows
noncomputable def PySem.W.Fast.tw16824017968396390049:Unit:=()
noncomputable def PySem.W.Fast.tw4094792227301316767:Unit:=()
noncomputable def PySem.W.Fast.tw3700123319243443100:Unit:=()
noncomputable def PySem.W.Fast.tw12169137801018008921:Unit:=()
noncomputable def PySem.W.Fast.tw17145914403293689921:Unit:=()
noncomputable def PySem.W.Fast.tw9545934190126436616:Unit:=()
noncomputable def PySem.W.Fast.tw12033149236229372538:Unit:=()
noncomputable def PySem.W.Fast.tw11477599265993917694:Unit:=()
noncomputable def PySem.W.Fast.tw2908888680410176387:Unit:=()
noncomputable def PySem.W.Fast.tw1894329392161089641:Unit:=()
set_option maxRecDepth 100000 in
set_option maxHeartbeats 0 in
theorem PySem.Challenge.cw_treewatch_k50_whole_seen_holds : PySem.Challenge.rw_treewatch_k50_whole_seen.Holds := by
 w_on; o_law; k_head; (case hw=>w_witness2)
 k_fill
 refine TK.walk (l:=PySem.Challenge.rw_treewatch_k50_whole_seen) rfl rfl (λw h Y=>PySem.W.kIn_of Y) ?F
 case F =>
  intro w mg fa h KX G hmg
  refine' TK.xi KX G hmg ?a1 ?l1 ?c1 ?k1 ?a2 ?l2 ?c2 ?k2 ?a3 ?l3 ?c3 ?k3 ?a4 ?l4 ?c4 ?k4 ?a5 ?l5 ?c5 ?k5 ?a6 ?l6 ?c6 ?k6 ?a7 ?l7 ?c7 ?k7 ?a8 ?l8 ?c8 ?k8 ?a9 ?l9 ?c9 ?k9 ?a10 ?l10 ?c10 ?k10 ?a11 ?l11 ?c11 ?k11 ?a12 ?l12 ?c12 ?k12 ?a13 ?l13 ?c13 ?k13 ?a14 ?l14 ?c14 ?k14 ?a15 ?l15 ?c15 ?k15 ?a16 ?l16 ?c16 ?k16 ?a17 ?l17 ?c17 ?k17 ?a18 ?l18 ?c18 ?k18 ?a19 ?l19 ?c19 ?k19 ?a20 ?l20 ?c20 ?k20 ?a21 ?l21 ?c21 ?k21 ?a22 ?l22 ?c22 ?k22 ?a23 ?l23 ?c23 ?k23 ?a24 ?l24 ?c24 ?k24 ?a25 ?l25 ?c25 ?k25 ?a26 ?l26 ?c26 ?k26 ?z1 ?z2 ?z3 ?z4 ?z5 ?z6 ?z7 ?z8 ?z9 ?z10 ?z11 ?z12 ?z13 ?z14 ?z15 ?z16 ?z17 ?z18 ?z19 ?v1t ?v2t ?v3t ?v4t ?xN ?qN ?gN ?sN
  (case a1=>k_is); (case l1=>k_is); (case c1=>k_is); (case k1=>k_is); (case a2=>k_is); (case l2=>k_is); (case c2=>k_is); (case k2=>k_is)
  (case a3=>k_is); (case l3=>k_is); (case c3=>k_is); (case k3=>k_is); (case a4=>k_is); (case l4=>k_is); (case c4=>k_is); (case k4=>k_is)
  (case a5=>k_is); (case l5=>k_is); (case c5=>k_is); (case k5=>k_is); (case a6=>k_is); (case l6=>k_is); (case c6=>k_is); (case k6=>k_is)
  (case a7=>k_is); (case l7=>k_is); (case c7=>k_is); (case k7=>k_is); (case a8=>k_is); (case l8=>k_is); (case c8=>k_is); (case k8=>k_is)
  (case a9=>k_is); (case l9=>k_is); (case c9=>k_is); (case k9=>k_is); (case a10=>k_is); (case l10=>k_is); (case c10=>k_is); (case k10=>k_is)
  (case a11=>k_is); (case l11=>k_is); (case c11=>k_is); (case k11=>k_is); (case a12=>k_is); (case l12=>k_is); (case c12=>k_is); (case k12=>k_is)
  (case a13=>k_is); (case l13=>k_is); (case c13=>k_is); (case k13=>k_is); (case a14=>k_is); (case l14=>k_is); (case c14=>k_is); (case k14=>k_is)
  (case a15=>k_is); (case l15=>k_is); (case c15=>k_is); (case k15=>k_is); (case a16=>k_is); (case l16=>k_is); (case c16=>k_is); (case k16=>k_is)
  (case a17=>k_is); (case l17=>k_is); (case c17=>k_is); (case k17=>k_is); (case a18=>k_is); (case l18=>k_is); (case c18=>k_is); (case k18=>k_is)
  (case a19=>k_is); (case l19=>k_is); (case c19=>k_is); (case k19=>k_is); (case a20=>k_is); (case l20=>k_is); (case c20=>k_is); (case k20=>k_is)
  (case a21=>k_is); (case l21=>k_is); (case c21=>k_is); (case k21=>k_is); (case a22=>k_is); (case l22=>k_is); (case c22=>k_is); (case k22=>k_is)
  (case a23=>k_is); (case l23=>k_is); (case c23=>k_is); (case k23=>k_is); (case a24=>k_is); (case l24=>k_is); (case c24=>k_is); (case k24=>k_is)
  (case a25=>k_is); (case l25=>k_is); (case c25=>k_is); (case k25=>k_is); (case a26=>k_is); (case l26=>k_is); (case c26=>k_is); (case k26=>k_is)
  (case z1=>k_is); (case z2=>k_is); (case z3=>k_is); (case z4=>k_is); (case z5=>k_is); (case z6=>k_is); (case z7=>k_is); (case z8=>k_is)
  (case z9=>k_is); (case z10=>k_is); (case z11=>k_is); (case z12=>k_is); (case z13=>k_is); (case z14=>k_is); (case z15=>k_is); (case z16=>k_is)
  (case z17=>k_is); (case z18=>k_is); (case z19=>k_is); (case v1t=>k_is); (case v2t=>k_is); (case v3t=>k_is); (case v4t=>k_is); (case xN=>k_is)
  (case qN=>k_exc); (case gN=>kts_isx); (case sN=>k_is)
