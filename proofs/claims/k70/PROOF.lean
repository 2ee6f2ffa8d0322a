import PyProof.Rows.All
import Wide.All
import OpenK.AllK
import Wide.FinOn
import Lean
import PyProof.EqAt
import PyProof.EqKinds
import PyProof.TupleCall
import PyProof.CompFree
import PySem.SetTable
import PyProof.SetScanFacts
import PyProof.TupleKey
import PyProof.SetKind
import PyProof.IsRules
import PyProof.SetRoads
import PyProof.InstSpecial
import PyProof.Rows.SetFrom
import KE.KSortTup
import PyProof.StrWalks
import PyProof.EnumMake
import PyProof.ConsumeWalk
import PyProof.ListRange
import PyProof.NeKinds
import PyProof.ZipIter
import KE.KTryDeep
import OpenK.KOwn
import PyProof.RulesAs
import PyProof.NsDelKeeps
import PyProof.ExcArgsOwn
import PyProof.ExcAttrAll.ValueError
import KE.KIsAll
import OpenK.KNot
import PyProof.IsiH_list
import PyProof.Rows.FStr
import KE.KDictOf
import PyProof.AttrMissHeap
import PyProof.DictIter
import PyProof.DictWalks
import PyProof.Rows.DictUnroll
import KE.KRevIter
import KE.KDictList
import PyProof.CollectIter
import PyProof.TupleOfGen
import KE.KSortKey
import PyProof.FactsAll.NoneType_1
import PyProof.Rows.FStrParts
import PyProof.ReprStr
import PyProof.CompUse
import KE.KIntText
import PyProof.StrLawsChain
import PyProof.StrLawsTight
import PyProof.StrLawsLast
import PyProof.StrLawsRepr
import PyProof.StrLawsNeg
import PyProof.StrCalls2
import PyProof.FitsReplace
import PyProof.StrLawsOccR
import PyProof.StrCalls5
import PyProof.Rows.StrClip
import PyProof.DictDisplay
import PyProof.Rows.StrJoin2
import KE.KLam
import KE.KNestM
import PySem.Challenge.RW_treewatch_k70_whole_texts
set_option Elab.async false
set_option linter.all false
set_option maxRecDepth 100000
set_option maxHeartbeats 8000000
namespace L2
open PySem PySem.Spec PyProof.Rows
noncomputable abbrev Key:=Sum Int Str
noncomputable def iR:Key→Value→Bool
 | .inl k,v=>Value.isInt k v
 | .inr x,v=>Value.isStrOf x v
noncomputable def yt (w:World):Key→Int
 | .inl k=>hashInt k
 | .inr x=>hashStr w x
theorem aS:∀ {k:Key} {v:Value},iR k v=true→(∃ i t,k=Sum.inl i∧v=Value.int i t)∨(∃ x t,k=Sum.inr x∧v=Value.str x t)
 | .inl i,v,h=>by
  obtain ⟨t,e⟩:=Value.isInt_shape (k:=i) (v:=v) h
  exact .inl ⟨i,t,rfl,e⟩
 | .inr x,v,h=>by
  obtain ⟨t,e⟩:=Value.isStrOf_shape (x:=x) (v:=v) h
  exact .inr ⟨x,t,rfl,e⟩
theorem py (i:Int) (t:Tok):iR (.inl i) (.int i t)=true:=by simp [iR,Value.isInt]
theorem pz (x:Str) (t:Tok):iR (.inr x) (.str x t)=true:=by simp [iR,Value.isStrOf]
theorem vw (a b:Int):decide ((Sum.inl a:Key)=Sum.inl b)=(a == b):=by
 by_cases e:a=b
 ·subst e; simp
 ·have h:¬ (Sum.inl a:Key)=Sum.inl b:=λq=>e (Sum.inl.inj q)
  rw [decide_eq_false h]
  exact (beq_eq_false_iff_ne.mpr e).symm
theorem vx (a b:Str):decide ((Sum.inr a:Key)=Sum.inr b)=decide (a=b):=by
 by_cases e:a=b
 ·subst e; simp
 ·have h:¬ (Sum.inr a:Key)=Sum.inr b:=λq=>e (Sum.inr.inj q)
  rw [decide_eq_false h,decide_eq_false e]
theorem vz (a:Int) (b:Str):decide ((Sum.inl a:Key)=Sum.inr b)=false:=decide_eq_false (λq=>nomatch q)
theorem vA (a:Str) (b:Int):decide ((Sum.inr a:Key)=Sum.inl b)=false:=decide_eq_false (λq=>nomatch q)
noncomputable def aD (prog:Program) (w:World):PySem.KeyKind prog w Key where
 is:=iR
 hash:=yt w
 inj:=λv a b ha hb=>by
  rcases aS ha with ⟨i,t,rfl,rfl⟩ | ⟨x,t,rfl,rfl⟩
  ·rcases aS hb with ⟨j,u,rfl,e⟩ | ⟨y,u,rfl,e⟩
   ·injection e with e1 _; rw [e1]
   ·exact nomatch e
  ·rcases aS hb with ⟨j,u,rfl,e⟩ | ⟨y,u,rfl,e⟩
   ·exact nomatch e
   ·injection e with e1 _; rw [e1]
 byValue:=λk v h=>by
  rcases aS h with ⟨i,t,rfl,rfl⟩ | ⟨x,t,rfl,rfl⟩ <;> rfl
 pyHash:=λhv h=>by
  rcases aS hv with ⟨i,t,rfl,rfl⟩ | ⟨x,t,rfl,rfl⟩
  ·exact wpAny_pyHash_int h
  ·exact wpAny_pyHash_str h
 eqBool:=λhu hv h=>by
  rcases aS hu with ⟨i,t,rfl,rfl⟩ | ⟨x,t,rfl,rfl⟩
  ·rcases aS hv with ⟨j,u,rfl,rfl⟩ | ⟨y,u,rfl,rfl⟩
   ·rw [vw] at h; exact wpAny_eqBool_int h
   ·rw [vz] at h; exact SeqAt.EqAt.int_str i t y u _ _ _ _ h
  ·rcases aS hv with ⟨j,u,rfl,rfl⟩ | ⟨y,u,rfl,rfl⟩
   ·rw [vA] at h; exact SeqAt.EqAt.str_int x t j u _ _ _ _ h
   ·rw [vx] at h; exact wpAny_eqBool_str h
 «strs»:=λk x t v h=>by
  rcases aS h with ⟨i,u,rfl,e⟩ | ⟨y,u,rfl,e⟩
  ·exact nomatch e
  ·injection e with e1 _
   subst e1
   cases v <;> rfl
theorem kq (prog:Program) (w:World) (i:Int) (t:Tok):(aD prog w).is (.inl i) (.int i t)=true:=py i t
theorem kr (prog:Program) (w:World) (x:Str) (t:Tok):(aD prog w).is (.inr x) (.str x t)=true:=pz x t
inductive V where
 | non | bl (b:Bool) | int (i:Int) | str (x:Str) | byt (b:Array UInt8) | flt (b:UInt64) | ref (a:Addr) | ty (n:String)
 deriving DecidableEq
noncomputable def aA:V→Value→Prop
 | .non,u=>u=Value.none
 | .bl b,u=>u=Value.bool b
 | .int i,u=>∃ t,u=Value.int i t
 | .str x,u=>∃ t,u=Value.str x t
 | .byt b,u=>∃ t,u=Value.bytes b t
 | .flt b,u=>∃ t,u=Value.float b t
 | .ref a,u=>u=Value.ref a
 | .ty n,u=>u=Value.type n
noncomputable abbrev au:List V→List Value→Prop:=Paired aA
theorem au.length {xs:List V} {us:List Value} (r:au xs us):xs.length=us.length:=Paired.length r
theorem au.get:∀ {xs:List V} {us:List Value} {i:Nat} {x:V},au xs us→xs[i]? = some x→∃ u,us[i]? = some u∧aA x u
 | _,_,_,_,.nil,e=>by simp at e
 | _,_,0,_,.cons r _,e=>by simp at e; subst e; exact ⟨_,rfl,r⟩
 | _,_,i+1,x,.cons _ t,e=>by
  obtain ⟨u,h1,h2⟩:=au.get (i:=i) (x:=x) t (by simpa using e)
  exact ⟨u,by simpa using h1,h2⟩
theorem au.append:∀ {xs ys:List V} {us ws:List Value},au xs us→au ys ws→au (xs++ys) (us++ws)
 | _,_,_,_,.nil,s=>s
 | _,_,_,_,.cons r t,s=>.cons r (au.append t s)
theorem au.take:∀ {xs:List V} {us:List Value} (n:Nat),au xs us→au (xs.take n) (us.take n)
 | _,_,0,_=>.nil
 | _,_,_+1,.nil=>.nil
 | _,_,n+1,.cons r t=>.cons r (au.take n t)
theorem au.drop:∀ {xs:List V} {us:List Value} (n:Nat),au xs us→au (xs.drop n) (us.drop n)
 | _,_,0,r=>r
 | _,_,_+1,.nil=>.nil
 | _,_,n+1,.cons _ t=>au.drop n t
noncomputable def dX:Option V→Option Value→Prop
 | some v,some u=>aA v u
 | none,none=>True
 | _,_=>False
noncomputable def KV {κ:Type}:List (κ×V)→List (κ×Value)→Prop:=Paired λ(p:κ×V) (q:κ×Value)=>p.1=q.1∧aA p.2 q.2
noncomputable def kV:Key→V
 | .inl i=>.int i
 | .inr x=>.str x
inductive HO where
 | lst (xs:List V)
 | tup (xs:List V)
 | dK (kvs:List (Key×V)) | dT (kvs:List (List Key×V))
 | set (S:Int→Bool) (n:Nat)
 | ins (C dx:Addr) (fs:List (Str×V))
 | own (x:Addr)
 | xd (fs:List (Str×V))
 | met (f x:Addr)
 | rng (lo hi:Int)
 | frz (o:Obj) (u:HO)
 | tbl (ps:Array Value)
 | ext (φ:Heap→Prop)
noncomputable abbrev Hp:=Addr→Option HO
noncomputable def upd (H:Hp) (a:Addr) (o:HO):Hp:=λb=>if b=a then some o else H b
theorem ac {H:Hp} {a:Addr} {o:HO}:upd H a o a=some o:=by unfold upd; rw [if_pos rfl]
theorem ag {H:Hp} {a b:Addr} {o:HO} (h:b≠a):upd H a o b=H b:=by unfold upd; rw [if_neg h]
theorem xC {H:Hp} {a b:Addr} {o u:HO} (h:H a=some o) (h':H b=some u) (d:o≠u):a≠b:=by
 intro e; subst e; rw [h] at h'; exact d (Option.some.inj h')
theorem aw {H:Hp} {a b:Addr} {o:HO} (h:H a=some o) (h':H b=none):a≠b:=by
 intro e; subst e; rw [h] at h'; cases h'
section
variable (P:Program) (w:World)
noncomputable def ba (H:Hp) (h:Heap) (a:Addr):HO→Prop
 | .lst xs=>xs.length≤sizeLine∧∃ (its:List Value) (n:Nat),au xs its∧h.get? a=some { cls:=.type "list",data:=.seq its.toArray n }
 | .tup xs=>xs.length≤sizeLine∧∃ its:List Value,au xs its∧IsTup h a its.toArray
 | .dK kvs=>kvs.length≤sizeLine∧(a == sysModules)=false∧∃ vs,KV kvs vs∧h.DictOf (aD P w) a vs
 | .dT kvs=>kvs.length≤sizeLine∧(a == sysModules)=false∧∃ xs:List (List Key×Addr×Value),
   Paired (λ(p:List Key×V) (q:List Key×Addr×Value)=>p.1=q.1∧H q.2.1=some (.tup (p.1.map kV))∧aA p.2 q.2.2) kvs xs ∧
   ∃ o es ep,h.get? a=some o∧o.ExactDict∧o.data = .dict es ep∧es.toList=xs.map (entryOfKey (tupleKind (aD P w)))∧(xs.map (·.1)).Nodup
 | .set S n=>h.SetOf (intKind P w) a S n
 | .ins C dx fs=>H dx=some (.own a)∧fs.length≤1000∧dx≠a∧h.get? a=some (PySem.W.instObj C dx) ∧
   ∃ mA,h.Ns1 dx mA∧(∀ f,dX (fs.lookup f) (mA f))∧PySem.Within mA (fs.map (·.1))
 | .own _=>∃ o,h.get? a=some o
 | .xd fs=>∃ mA,h.Ns1 a mA∧∀ f,dX (fs.lookup f) (mA f)
 | .rng lo hi=>∃ t u v,h.get? a=some { cls:=.type "range",data:=.fields #[.int lo t,.int hi u,.int 1 v] }
 | .frz o u=>h.get? a=some o∧ba H h a u
 | .tbl ps=>h.get? a=some { cls:=.none,data:=.fields ps }
 | .met f x=>h.get? a=some (PySem.W.methodObj (.ref f) (.ref x))
 | .ext φ=>φ h∧(∃ o,h.get? a=some o)∧∀ h1 h2:Heap,φ h1→(∀ o,h1.get? a=some o→h2.get? a=some o)→φ h2
noncomputable def HOk (H:Hp) (h:Heap):Prop:=∀ a o,H a=some o→ba P w H h a o
end
section
variable {P:Program} {w:World} {H H':Hp} {h h':Heap} {a:Addr} {o:HO}
theorem ba.lt (x:ba P w H h a o):a<h.objs.size:=by
 cases o with
 | lst xs=>obtain ⟨_,_,_,_,e⟩:=x; exact Heap.lt_size e
 | tup xs=>obtain ⟨_,_,_,p⟩:=x; exact p.lt
 | dK kvs=>obtain ⟨_,_,_,_,o,_,_,e,_⟩:=x; exact Heap.lt_size e
 | dT kvs=>obtain ⟨_,_,_,_,o,_,_,e,_⟩:=x; exact Heap.lt_size e
 | set S n=>obtain ⟨o,_,_,_,e,_⟩:=x; exact Heap.lt_size e
 | ins C dx fs=>obtain ⟨_,_,_,e,_⟩:=x; exact Heap.lt_size e
 | own y=>obtain ⟨_,e⟩:=x; exact Heap.lt_size e
 | xd fs=>obtain ⟨_,⟨_,_,_,e,_⟩,_⟩:=x; exact Heap.lt_size e
 | rng lo hi=>obtain ⟨_,_,_,e⟩:=x; exact Heap.lt_size e
 | frz ob u=>obtain ⟨e,_⟩:=x; exact Heap.lt_size e
 | tbl ps=>exact Heap.lt_size (show h.get? a=some _ from x)
 | met f y=>exact Heap.lt_size (show h.get? a=some _ from x)
 | ext φ=>obtain ⟨_,⟨_,e⟩,_⟩:=x; exact Heap.lt_size e
theorem Paired.mapP {α β:Type} {F G:α→β→Prop}:∀ {l₁:List α} {l₂:List β},Paired F l₁ l₂→(∀ a b,F a b→G a b)→Paired G l₁ l₂
 | _,_,.nil,_=>.nil
 | _,_,.cons r t,f=>.cons (f _ _ r) (Paired.mapP t f)
theorem ba.stay (x:ba P w H h a o) (k:∀ b u,(b=a∨H b=some (.own a))→h.get? b=some u→h'.get? b=some u)
  (ho:∀ b,H b=some (.own a)→H' b=some (.own a)) (ht:∀ b xs,H b=some (.tup xs)→H' b=some (.tup xs)):ba P w H' h' a o:=by
 induction o with
 | lst xs=>obtain ⟨z,its,n,r,e⟩:=x; exact ⟨z,its,n,r,k _ _ (.inl rfl) e⟩
 | tup xs=>obtain ⟨z,its,r,ob,e,c⟩:=x; exact ⟨z,its,r,ob,k _ _ (.inl rfl) e,c⟩
 | dK kvs=>obtain ⟨z,y,vs,r,ob,es,ep,e,c⟩:=x; exact ⟨z,y,vs,r,ob,es,ep,k _ _ (.inl rfl) e,c⟩
 | dT kvs =>
  obtain ⟨z,y,xs,r,ob,es,ep,e,c⟩:=x
  exact ⟨z,y,xs,Paired.mapP r λp q z=>⟨z.1,ht _ _ z.2.1,z.2.2⟩,ob,es,ep,k _ _ (.inl rfl) e,c⟩
 | set S n=>obtain ⟨ob,es,ep,t,e,c⟩:=x; exact ⟨ob,es,ep,t,k _ _ (.inl rfl) e,c⟩
 | ins C dx fs =>
  obtain ⟨d,z,ne,e,mA,⟨od,es,ep,e2,c⟩,r⟩:=x
  exact ⟨ho _ d,z,ne,k _ _ (.inl rfl) e,mA,⟨od,es,ep,k _ _ (.inr d) e2,c⟩,r⟩
 | own y=>obtain ⟨ob,e⟩:=x; exact ⟨ob,k _ _ (.inl rfl) e⟩
 | xd fs=>obtain ⟨mA,⟨od,es,ep,e,c⟩,r⟩:=x; exact ⟨mA,⟨od,es,ep,k _ _ (.inl rfl) e,c⟩,r⟩
 | rng lo hi=>obtain ⟨t,u,v,e⟩:=x; exact ⟨t,u,v,k _ _ (.inl rfl) e⟩
 | frz ob u ih=>obtain ⟨e,q⟩:=x; exact ⟨k _ _ (.inl rfl) e,ih q⟩
 | tbl ps =>
  have e:h.get? a=some { cls:=.none,data:=.fields ps }:=x
  show h'.get? a=some { cls:=.none,data:=.fields ps }
  exact k a _ (.inl rfl) e
 | met f y =>
  have e:h.get? a=some (PySem.W.methodObj (.ref f) (.ref y)):=x
  show h'.get? a=some (PySem.W.methodObj (.ref f) (.ref y))
  exact k a _ (.inl rfl) e
 | ext φ=>obtain ⟨p,⟨o,e⟩,st⟩:=x; exact ⟨st _ _ p λo q=>k _ _ (.inl rfl) q,⟨o,k _ _ (.inl rfl) e⟩,st⟩
theorem HOk.lt (x:HOk P w H h) (e:H a=some o):a<h.objs.size:=(x a o e).lt
theorem HOk.fresh (x:HOk P w H h) (e:h.objs.size≤a):H a=none:=by
 cases q:H a with
 | none=>rfl
 | some u=>exact absurd (Nat.lt_of_lt_of_le (x.lt q) e) (Nat.lt_irrefl _)
theorem HOk.kept (x:HOk P w H h) (k:∀ b u,h.get? b=some u→h'.get? b=some u):HOk P w H h':=λa o e =>
 (x a o e).stay (λb u _ q=>k b u q) (λ_ q=>q) λ_ _ q=>q
theorem HOk.laid (x:HOk P w H h) (k:∀ b u,h.get? b=some u→h'.get? b=some u) (hp:h.objs.size≤a) (new:ba P w (upd H a o) h' a o):HOk P w (upd H a o) h':=λb u e=>by
 have hn:=x.fresh hp
 by_cases hb:b=a
 ·subst hb; rw [ac] at e; cases e; exact new
 ·rw [ag hb] at e
  exact (x b u e).stay (λc v _ q=>k c v q) (λc q=>by rw [ag (aw q hn)]; exact q) λc xs q=>by rw [ag (aw q hn)]; exact q
end
noncomputable def Rd (H:Hp) (a:Addr) (u:HO):Prop:=H a=some u∨∃ o,H a=some (.frz o u)
theorem Rd.of {H:Hp} {a:Addr} {u:HO} (h:H a=some u):Rd H a u:=.inl h
theorem Rd.ok {P:Program} {w:World} {H:Hp} {h:Heap} {a:Addr} {u:HO} (r:Rd H a u) (x:HOk P w H h):ba P w H h a u:=by
 rcases r with r | ⟨o,r⟩
 ·exact x a u r
 ·obtain ⟨_,q⟩:=x a _ r
  exact q
noncomputable def Mut:Option HO→Prop
 | some (.lst _)=>True
 | some (.dK _)=>True
 | some (.dT _)=>True
 | some (.set _ _)=>True
 | some (.ins _ _ _)=>True
 | some (.ext _)=>True
 | _=>False
section
variable {P:Program} {w:World} {H:Hp} {h h':Heap} {x e:Addr} {o':HO}
theorem HOk.write (ok:HOk P w H h) (mu:Mut (H x)) (he:e=x∨H e=some (.own x)) (k:∀ b u,b≠e→h.get? b=some u→h'.get? b=some u) (heo:∃ u,h'.get? e=some u)
  (new:ba P w (upd H x o') h' x o'):HOk P w (upd H x o') h':=λb u q=>by
 have nown:∀ c y,H c=some (.own y)→c≠x:=λc y r z=>by subst z; rw [r] at mu; exact mu
 have ntup:∀ c xs,H c=some (.tup xs)→c≠x:=λc xs r z=>by subst z; rw [r] at mu; exact mu
 by_cases hb:b=x
 ·subst hb; rw [ac] at q; cases q; exact new
 ·rw [ag hb] at q
  by_cases hbe:b=e
  ·have q':H b=some (.own x):=by
    rcases he with z | z
    ·exact absurd (hbe.trans z) hb
    ·rw [hbe]; exact z
   rw [q] at q'; cases q'
   obtain ⟨v,hv⟩:=heo
   exact ⟨v,by rw [hbe]; exact hv⟩
  ·refine (ok b u q).stay (λc v hc r=>k c v ?_ r) (λc r=>by rw [ag (nown c b r)]; exact r) λc xs r=>by rw [ag (ntup c xs r)]; exact r
   rcases hc with rfl | hc
   ·exact hbe
   ·rintro rfl
    rcases he with z | z
    ·exact nown c b hc z
    ·rw [hc] at z; cases z; exact hb rfl
end
structure Un (fs ex:List Addr) (H H':Hp) (h h':Heap):Prop where
 keep:∀ b o,h.get? b=some o→H b=none→b∉fs→b∉ex→h'.get? b=some o
 slot:∀ b o,h.get? b=some o→H b=none→b∈fs→b∉ex→∃ sl,h'.get? b=some { o with slots:=sl }
 free:∀ b o,h.get? b=some o→H b=none→b∉ex→H' b=none
 there:∀ b o,h.get? b=some o→b∉ex→∃ o',h'.get? b=some o'
 tups:∀ b xs,H b=some (.tup xs)→H' b=some (.tup xs)
 frzs:∀ b o u,H b=some (.frz o u)→H' b=some (.frz o u)
 tbls:∀ b ps,H b=some (.tbl ps)→∃ more,H' b=some (.tbl (ps++more))
section
variable {fs fs' ex ex':List Addr} {H H1 H2:Hp} {h h1 h2 h':Heap} {a x e:Addr} {o:HO}
theorem Un.any (u:Un fs ex H H1 h h1) {b:Addr} {ob:Obj} (q:h.get? b=some ob) (n:H b=none) (hx:b∉ex):∃ sl,h1.get? b=some { ob with slots:=sl }:=by
 by_cases hb:b∈fs
 ·exact u.slot b ob q n hb hx
 ·exact ⟨ob.slots,u.keep b ob q n hb hx⟩
theorem Un.trans (a:Un fs ex H H1 h h1) (b:Un fs ex H1 H2 h1 h2):Un fs ex H H2 h h2 where
 keep:=λc ob q n hc hx=>b.keep c ob (a.keep c ob q n hc hx) (a.free c ob q n hx) hc hx
 slot:=λc ob q n hc hx=>by
  obtain ⟨sl,e1⟩:=a.slot c ob q n hc hx
  obtain ⟨sl',e2⟩:=b.slot c _ e1 (a.free c ob q n hx) hc hx
  exact ⟨sl',e2⟩
 free:=λc ob q n hx=>by
  obtain ⟨o',e1⟩:=a.there c ob q hx
  exact b.free c o' e1 (a.free c ob q n hx) hx
 there:=λc ob q hx=>by
  obtain ⟨o',e1⟩:=a.there c ob q hx
  exact b.there c o' e1 hx
 tups:=λc xs q=>b.tups c xs (a.tups c xs q)
 frzs:=λc ob xs q=>b.frzs c ob xs (a.frzs c ob xs q)
 tbls:=λc ps q=>by
  obtain ⟨m1,e1⟩:=a.tbls c ps q
  obtain ⟨m2,e2⟩:=b.tbls c _ e1
  exact ⟨m1++m2,by rw [e2,Array.append_assoc]⟩
theorem Un.kept (k:∀ b u,h.get? b=some u→h'.get? b=some u):Un fs ex H H h h' :=
 ⟨λb ob q _ _ _=>k b ob q,λb ob q _ _ _=>⟨ob.slots,k b ob q⟩,λ_ _ _ n _=>n,λb ob q _=>⟨ob,k b ob q⟩,λ_ _ q=>q,λ_ _ _ q=>q,λ_ ps q=>⟨#[],by rw [q]; simp⟩⟩
theorem Un.refl:Un fs ex H H h h:=Un.kept λ_ _ q=>q
theorem Un.laid (k:∀ b u,h.get? b=some u→h'.get? b=some u) (hp:h.objs.size≤a) (hn:H a=none):Un fs ex H (upd H a o) h h' where
 keep:=λb u q _ _ _=>k b u q
 slot:=λb u q _ _ _=>⟨u.slots,k b u q⟩
 free:=λb u q n _=>by rw [ag (Nat.ne_of_lt (Nat.lt_of_lt_of_le (Heap.lt_size q) hp))]; exact n
 there:=λb u q _=>⟨u,k b u q⟩
 tups:=λb xs q=>by rw [ag (aw q hn)]; exact q
 frzs:=λb u xs q=>by rw [ag (aw q hn)]; exact q
 tbls:=λb ps q=>⟨#[],by rw [ag (aw q hn),q]; simp⟩
theorem Un.write (mu:Mut (H x)) (he:e=x∨H e=some (.own x)) (k:∀ b u,b≠e→h.get? b=some u→h'.get? b=some u) (heo:∃ u,h'.get? e=some u):Un fs ex H (upd H x o) h h':=by
 have hx:∀ b,H b=none→b≠x:=λb n z=>by subst z; rw [n] at mu; exact mu
 have hb:∀ b,H b=none→b≠e:=λb n z=>by
  subst z
  rcases he with r | r
  ·exact hx b n r
  ·rw [n] at r; cases r
 have hm:∀ b u,H b=some u→¬ Mut (some u)→b≠x:=λb u q nm z=>by subst z; rw [q] at mu; exact nm mu
 refine ⟨λb u q n _ _=>k b u (hb b n) q,λb u q n _ _=>⟨u.slots,k b u (hb b n) q⟩,λb u q n _=>by rw [ag (hx b n)]; exact n,λb u q _=>?_,
  λb xs q=>by rw [ag (hm b _ q λz=>z)]; exact q,λb u xs q=>by rw [ag (hm b _ q λz=>z)]; exact q,λb ps q=>⟨#[],by rw [ag (hm b _ q λz=>z),q]; simp⟩⟩
 by_cases hbe:b=e
 ·subst hbe; exact heo
 ·exact ⟨u,k b u hbe q⟩
end
noncomputable def trk (h:Heap) (H:Hp):List Addr:=(List.range h.objs.size).filter λa=>(H a).isSome
noncomputable def iE (h:Heap) (H:Hp):Heap:=PySem.W.hideAll h (trk h H)
theorem pA (h:Heap) (H:Hp):(iE h H).objs.size=h.objs.size:=PySem.W.hideAll_size _ _
theorem qB {h:Heap} {H:Hp} {b:Addr} {o:Obj} (e:h.get? b=some o) (n:H b=none):(iE h H).get? b=some o :=
 PySem.W.hideAll_get _ e λhm=>by
  have q:(H b).isSome=true:=(List.mem_filter.mp hm).2
  rw [n] at q; simp at q
theorem tF {h:Heap} {H:Hp} {b:Addr} {o:Obj} (e:(iE h H).get? b=some o):h.get? b=some o∧H b=none:=by
 have e':h.get? b=some o:=PySem.W.of_hideAll (trk h H) e
 refine ⟨e',?_⟩
 cases q:H b with
 | none=>rfl
 | some x =>
  have hm:b∈trk h H:=List.mem_filter.mpr ⟨List.mem_range.mpr (Heap.lt_size e'),by simp [q]⟩
  have z:(iE h H).get? b=none:=PySem.W.hideAll_none (trk h H) hm
  rw [z] at e; cases e
structure Mod (K:PySem.W.Frag) (mg:Str→Option Value) (base:Heap):Prop where
 kin:K.In base
 glob:base.Ns mainGlobals mg
 blt:∃ mb,base.Ns builtinsNs mb∧∀ x:Str,x≠"__name__"→mb x=bootBuiltins x
 nolimit:base.NoLimit
structure Cx where
 prog:Program
 w:World
 K:PySem.W.Frag
 mg:Str→Option Value
 base:Heap
 A:Around
 N:List Str
 s₀:Shared
 H₀:Hp
 env:Env
 outer:List Env
 stack:List Env
 ex:List Addr
 fn:Str→Bool
 calm:Bool
 pn:List (Addr×Obj)
 xe:Value→Shared→Prop
noncomputable def frs (l:List Env):List Addr:=l.filterMap (·.frame)
noncomputable abbrev Cx.fs (X:Cx):List Addr:=frs X.outer
noncomputable def Vis (sc:Scope) (x:Str):Prop:=sc.names.lookup x=some .local∨sc.names.lookup x=some .cell∨sc.names.lookup x=some .free
noncomputable def Loc (sc:Scope) (x:Str):Prop:=sc.names.lookup x=some .local∨sc.names.lookup x=some .cell
noncomputable def yu (env:Env) (h:Heap) (m:Str→Option Value) (x:Str) (u:Value):Prop :=
 (env.kindOf x=some .local∧m x=some u)∨((env.kindOf x=some .cell∨env.kindOf x=some .free)∧∃ c,env.cells.lookup x=some c∧h.IsCell c (some u))
structure Cx.Ok (X:Cx):Prop where
 mod:Mod X.K X.mg X.base
 kind:X.env.scope.kind = .function
 glob:X.env.globals=mainGlobals
 blt:X.env.builtins=builtinsNs
 above:X.s₀.heap.objs.size≤X.env.locals
 inj:∀ x y c,X.env.cells.lookup x=some c→X.env.cells.lookup y=some c→x=y
 has:∀ x,(X.env.kindOf x=some .cell∨X.env.kindOf x=some .free)→∃ c,X.env.cells.lookup x=some c
 cab:∀ x c,X.fn x=true→X.env.cells.lookup x=some c→X.s₀.heap.objs.size≤c
 hd:X.calm=true→X.A.handled=none
 frames:X.A.frames=some X.stack
 stk:X.stack=X.outer∨(X.stack=X.env :: X.outer∧X.env.frame=some X.env.locals)
 exf:∀ b∈X.ex,b≠X.env.locals∧∀ x c,X.env.cells.lookup x=some c→c≠b
 bs:∀ b o,X.base.get? b=some o→X.s₀.heap.get? b=some o∧X.H₀ b=none
 bsz:X.base.objs.size≤X.s₀.heap.objs.size
 noex:∀ b o,X.base.get? b=some o→b∉X.ex
 exfs:∀ b∈X.ex,b∉X.fs
 funs:X.s₀.heap.FunFrames X.base X.outer
 frf:∀ b∈X.fs,X.H₀ b=none
structure Inv (X:Cx) (pins:List (Addr×Obj)) (σ:List (Option V)) (H:Hp) (s:Shared):Prop where
 ok:X.Ok
 os:s.os=X.s₀.os
 bare:AllBare s.gens
 base:Un X.fs X.ex X.H₀ H X.s₀.heap s.heap
 loc:∃ m,s.heap.Ns X.env.locals m∧∀ (i:Nat) (x:Str) (v:V),X.N[i]? = some x→σ[i]? = some (some v)→Vis X.env.scope x→∃ u,aA v u∧yu X.env s.heap m x u
 cell:∀ x c,X.env.cells.lookup x=some c→∃ v,s.heap.IsCell c v
 free:H X.env.locals=none
 freeC:∀ x c,X.env.cells.lookup x=some c→H c=none
 pin:∀ p∈X.pn++pins,s.heap.get? p.1=some p.2∧H p.1=none∧p.1≠X.env.locals∧p.1∉X.fs∧∀ v,p.2.data ≠ .cell v
 hok:HOk X.prog X.w H s.heap
 len:σ.length=X.N.length
section
variable {X:Cx} {pins:List (Addr×Obj)} {σ:List (Option V)} {H H':Hp} {s:Shared} {h':Heap}
theorem Cx.Ok.nofr (ok:X.Ok) {b:Addr} {o:Obj} (e:X.base.get? b=some o):b∉X.fs:=λhb=>by
 have:=(ok.funs.mem hb).1
 rw [e] at this; cases this
theorem Inv.bs (I:Inv X pins σ H s):∀ b o,X.base.get? b=some o→s.heap.get? b=some o∧H b=none:=λb o e =>
 ⟨I.base.keep b o (I.ok.bs b o e).1 (I.ok.bs b o e).2 (I.ok.nofr e) (I.ok.noex b o e),I.base.free b o (I.ok.bs b o e).1 (I.ok.bs b o e).2 (I.ok.noex b o e)⟩
theorem Inv.bk (I:Inv X pins σ H s):∀ b o,X.base.get? b=some o→s.heap.get? b=some o:=λb o e=>(I.bs b o e).1
theorem Inv.mod (I:Inv X pins σ H s):Mod X.K X.mg X.base:=I.ok.mod
theorem Inv.kIn (I:Inv X pins σ H s):X.K.In s.heap:=I.ok.mod.kin.keeps I.bk
theorem Inv.lt (I:Inv X pins σ H s):X.env.locals<s.heap.objs.size:=let ⟨_,hn,_⟩:=I.loc; hn.lt
theorem Inv.sz (I:Inv X pins σ H s):X.s₀.heap.objs.size≤s.heap.objs.size:=Nat.le_trans I.ok.above (Nat.le_of_lt I.lt)
theorem Inv.nofs (I:Inv X pins σ H s) {a:Addr} (h:s.heap.objs.size≤a):a∉X.fs:=λhb=>by
 obtain ⟨_,o,ho,_⟩:=I.ok.funs.mem hb
 exact absurd (Nat.lt_of_lt_of_le (Heap.lt_size ho) (Nat.le_trans I.sz h)) (Nat.lt_irrefl _)
theorem Inv.cne (I:Inv X pins σ H s):∀ x c,X.env.cells.lookup x=some c→c≠X.env.locals:=λx c e z=>by
 obtain ⟨v,o,ho,hd⟩:=I.cell x c e
 obtain ⟨m,⟨o',es,ep,ho',hd',_⟩,_⟩:=I.loc
 rw [z,ho'] at ho; cases ho; rw [hd'] at hd; cases hd
theorem Inv.funs (I:Inv X pins σ H s):s.heap.FunFrames X.base X.outer:=by
 have all:∀ (l:List Env),(∀ b∈frs l,b∈X.fs)→X.s₀.heap.FunFrames X.base l→s.heap.FunFrames X.base l:=by
  intro l
  induction l with
  | nil=>intro _ _; trivial
  | cons env r ih =>
   intro hs hl
   obtain ⟨hk,⟨L,o,hf,hn,ho,hd⟩,hr⟩:=hl
   have hL:L∈X.fs:=hs L (by unfold frs; rw [List.filterMap_cons,hf]; exact List.mem_cons_self)
   obtain ⟨sl,e⟩:=I.base.slot L o ho (I.ok.frf L hL) hL λz=>I.ok.exfs L z hL
   exact ⟨hk,⟨L,_,hf,hn,e,hd⟩,ih (λb hb=>hs b (by unfold frs; rw [List.filterMap_cons,hf]; exact List.mem_cons_of_mem _ hb)) hr⟩
 exact all X.outer (λ_ hb=>hb) I.ok.funs
theorem Inv.stack (I:Inv X pins σ H s):s.heap.FunFrames X.base X.stack:=by
 rcases I.ok.stk with e | ⟨e,hf⟩
 ·rw [e]; exact I.funs
 ·rw [e]
  obtain ⟨m,hn,_⟩:=I.loc
  refine .cons (by rw [I.ok.kind]; decide) hf hn ?_ I.funs
  exact Heap.get?_none_of_le (Nat.le_trans I.ok.bsz I.ok.above)
theorem Inv.stkSub (I:Inv X pins σ H s):∀ b∈frs X.stack,b∈X.env.locals :: X.fs:=λb hb=>by
 rcases I.ok.stk with e | ⟨e,hf⟩
 ·rw [e] at hb; exact List.mem_cons_of_mem _ hb
 ·rw [e] at hb
  unfold frs at hb
  rw [List.filterMap_cons,hf] at hb
  exact hb
theorem Inv.stkFree (I:Inv X pins σ H s):∀ b∈frs X.stack,H b=none:=λb hb=>by
 rcases List.mem_cons.mp (I.stkSub b hb) with e | hb
 ·rw [e]; exact I.free
 ·obtain ⟨_,o,ho,_⟩:=I.ok.funs.mem hb
  exact I.base.free b o ho (I.ok.frf b hb) λz=>I.ok.exfs b z hb
theorem Inv.step {g':Array GenState} {t':Nat} {d':Drawn} {ch:List Addr} (I:Inv X pins σ H s)
  (hch:∀ b∈ch,(b∈X.ex∨X.s₀.heap.objs.size≤b)∧b≠X.env.locals∧(∀ x c,X.env.cells.lookup x=some c→c≠b)∧∀ p∈X.pn++pins,p.1≠b)
  (keep:∀ b o,b≠X.env.locals→b∉X.fs→b∉ch→s.heap.get? b=some o→H b=none→h'.get? b=some o)
  (slot:∀ b o,b≠X.env.locals→b∈X.fs→b∉ch→s.heap.get? b=some o→H b=none→∃ sl,h'.get? b=some { o with slots:=sl }) (free:∀ b o,b∉ch→s.heap.get? b=some o→H b=none→H' b=none)
  (there:∀ b o,b∉ch→s.heap.get? b=some o→∃ o',h'.get? b=some o')
  (tups:∀ b xs,H b=some (.tup xs)→H' b=some (.tup xs)) (frzs:∀ b o u,H b=some (.frz o u)→H' b=some (.frz o u)) (tbls:∀ b ps,H b=some (.tbl ps)→∃ more,H' b=some (.tbl (ps++more)))
  (ns:∀ m,s.heap.Ns X.env.locals m→h'.Ns X.env.locals m) (hok:HOk X.prog X.w H' h') (hg:AllBare g') :
  Inv X pins σ H' { s with heap:=h',gens:=g',drawn:=d',toks:=t' }:=by
 have neL:∀ b o,X.s₀.heap.get? b=some o→b≠X.env.locals:=λb o e=>Nat.ne_of_lt (Nat.lt_of_lt_of_le (Heap.lt_size e) I.ok.above)
 have neC:∀ b o,X.s₀.heap.get? b=some o→b∉X.ex→b∉ch:=λb o e hx hb=>by
  rcases (hch b hb).1 with z | z
  ·exact hx z
  ·exact absurd (Nat.lt_of_lt_of_le (Heap.lt_size e) z) (Nat.lt_irrefl _)
 have cellK:∀ x c,X.env.cells.lookup x=some c→∀ v,s.heap.IsCell c v→h'.IsCell c v:=λx c e v ⟨o,ho,hd⟩=>by
  have nch:c∉ch:=λz=>(hch c z).2.2.1 x c e rfl
  by_cases hc:c∈X.fs
  ·obtain ⟨sl,q⟩:=slot c o (I.cne x c e) hc nch ho (I.freeC x c e)
   exact ⟨_,q,hd⟩
  ·exact ⟨o,keep c o (I.cne x c e) hc nch ho (I.freeC x c e),hd⟩
 refine ⟨I.ok,I.os,hg,⟨λb o e n hb hx=>?_,λb o e n hb hx=>?_,λb o e n hx=>?_,λb o e hx=>?_,λb xs e=>tups b xs (I.base.tups b xs e),λb o xs e=>frzs b o xs (I.base.frzs b o xs e),λb ps e=>?_⟩,?_,λx c e=>?_,?_,λx c e=>?_,λp hp=>?_,hok,I.len⟩
 ·exact keep b o (neL b o e) hb (neC b o e hx) (I.base.keep b o e n hb hx) (I.base.free b o e n hx)
 ·obtain ⟨sl,e1⟩:=I.base.slot b o e n hb hx
  obtain ⟨sl',e2⟩:=slot b _ (neL b o e) hb (neC b o e hx) e1 (I.base.free b o e n hx)
  exact ⟨sl',e2⟩
 ·obtain ⟨o',e1⟩:=I.base.there b o e hx
  exact free b o' (neC b o e hx) e1 (I.base.free b o e n hx)
 ·obtain ⟨o',e1⟩:=I.base.there b o e hx
  exact there b o' (neC b o e hx) e1
 ·obtain ⟨m1,e1⟩:=I.base.tbls b ps e
  obtain ⟨m2,e2⟩:=tbls b _ e1
  exact ⟨m1++m2,by rw [e2,Array.append_assoc]⟩
 ·obtain ⟨m,hn,hl⟩:=I.loc
  refine ⟨m,ns m hn,λi x v e1 e2 e3=>?_⟩
  obtain ⟨u,r,l⟩:=hl i x v e1 e2 e3
  refine ⟨u,r,?_⟩
  rcases l with l | ⟨k,c,e,z⟩
  ·exact .inl l
  ·exact .inr ⟨k,c,e,cellK x c e _ z⟩
 ·obtain ⟨v,z⟩:=I.cell x c e
  exact ⟨v,cellK x c e v z⟩
 ·obtain ⟨m,⟨o,_,_,ho,_⟩,_⟩:=I.loc
  exact free _ o (λz=>(hch _ z).2.1 rfl) ho I.free
 ·obtain ⟨v,o,ho,hd⟩:=I.cell x c e
  exact free c o (λz=>(hch c z).2.2.1 x c e rfl) ho (I.freeC x c e)
 ·obtain ⟨e,n,ne,nf,d⟩:=I.pin p hp
  have nch:p.1∉ch:=λz=>(hch p.1 z).2.2.2 p hp rfl
  exact ⟨keep p.1 p.2 ne nf nch e n,free p.1 p.2 nch e n,ne,nf,d⟩
theorem Inv.un {t':Nat} (I:Inv X pins σ H s) (u:Un X.fs [] H H' s.heap h') (hok:HOk X.prog X.w H' h'):Inv X pins σ H' { s with heap:=h',toks:=t' }:=by
 obtain ⟨m,⟨o,es,ep,ho,r⟩,_⟩:=id I.loc
 obtain ⟨sl,hL⟩:=u.any ho I.free (by simp)
 exact I.step (g':=s.gens) (d':=s.drawn) (ch:=[]) (λ_ z=>nomatch z) (λb o _ hb _ e n=>u.keep b o e n hb (by simp)) (λb o _ hb _ e n=>u.slot b o e n hb (by simp)) (λb o _ e n=>u.free b o e n (by simp)) (λb o _ e=>u.there b o e (by simp)) u.tups u.frzs u.tbls (λm' hm=>by
  obtain ⟨o',es',ep',ho',r'⟩:=hm
  rw [ho] at ho'; cases ho'
  exact ⟨_,es',ep',hL,r'⟩) hok I.bare
theorem Inv.call {g':Array GenState} {t':Nat} {d':Drawn} {ch:List Addr} (I:Inv X pins σ H s) (u:Un (frs X.stack) ch H H' s.heap h') (hok:HOk X.prog X.w H' h') (hg:AllBare g')
  (hch:∀ b∈ch,(b∈X.ex∨X.s₀.heap.objs.size≤b)∧b≠X.env.locals∧(∀ x c,X.env.cells.lookup x=some c→c≠b)∧∀ p∈X.pn++pins,p.1≠b) :
  Inv X pins σ H' { s with heap:=h',gens:=g',drawn:=d',toks:=t' }:=by
 obtain ⟨m,⟨o,es,ep,ho,r⟩,_⟩:=id I.loc
 obtain ⟨sl,hL⟩:=u.any ho I.free λz=>(hch _ z).2.1 rfl
 exact I.step (ch:=ch) hch (λb o hL hb hc e n=>u.keep b o e n (λz=>(List.mem_cons.mp (I.stkSub b z)).elim hL hb) hc) (λb o _ _ hc e n=>u.any e n hc) (λb o hc e n=>u.free b o e n hc) (λb o hc e=>u.there b o e hc) u.tups u.frzs u.tbls (λm' hm=>by
  obtain ⟨o',es',ep',ho',r'⟩:=hm
  rw [ho] at ho'; cases ho'
  exact ⟨_,es',ep',hL,r'⟩) hok hg
theorem Inv.turned {t':Nat} {it:Addr} (I:Inv X pins σ H s) (k:∀ b o,b≠it→s.heap.get? b=some o→h'.get? b=some o) (hn:H it=none) (hL:it≠X.env.locals)
  (h1:it∈X.ex∨X.s₀.heap.objs.size≤it) (h2:∀ x c,X.env.cells.lookup x=some c→c≠it) (h3:∀ p∈X.pn++pins,p.1≠it):Inv X pins σ H { s with heap:=h',toks:=t' }:=by
 have nit:∀ b u,H b=some u→b≠it:=λb u e z=>by rw [z,hn] at e; cases e
 refine I.step (g':=s.gens) (d':=s.drawn) (ch:=[it]) (λb hb=>?_) (λb o _ _ hc e _=>k b o (λz=>hc (by simp [z])) e) (λb o _ _ hc e _=>⟨o.slots,k b o (λz=>hc (by simp [z])) e⟩) (λ_ _ _ _ n=>n)
  (λb o hc e=>⟨o,k b o (λz=>hc (by simp [z])) e⟩) (λ_ _ e=>e) (λ_ _ _ e=>e) (λb ps e=>⟨#[],by rw [e]; simp⟩) (λm hm=>?_) (λb u e=>?_) I.bare
 ·have e:b=it:=by simpa using hb
  subst e
  exact ⟨h1,hL,h2,h3⟩
 ·obtain ⟨o,es,ep,ho,r⟩:=hm
  exact ⟨o,es,ep,k _ o (Ne.symm hL) ho,r⟩
 ·refine (I.hok b u e).stay (λc v hc q=>k c v ?_ q) (λ_ q=>q) λ_ _ q=>q
  rcases hc with z | z
  ·rw [z]; exact nit b u e
  ·exact nit c _ z
theorem Inv.tok (I:Inv X pins σ H s) (t:Nat):Inv X pins σ H { s with toks:=t }:=I.un (h':=s.heap) (t':=t) Un.refl I.hok
theorem Inv.kept {t':Nat} (I:Inv X pins σ H s) (k:∀ b u,s.heap.get? b=some u→h'.get? b=some u):Inv X pins σ H { s with heap:=h',toks:=t' }:=I.un (Un.kept k) (I.hok.kept k)
theorem Inv.laid {a:Addr} {o:HO} {t':Nat} (I:Inv X pins σ H s) (k:∀ b u,s.heap.get? b=some u→h'.get? b=some u) (hp:s.heap.objs.size≤a) (new:ba X.prog X.w (upd H a o) h' a o) :
  Inv X pins σ (upd H a o) { s with heap:=h',toks:=t' }:=I.un (Un.laid k hp (I.hok.fresh hp)) (I.hok.laid k hp new)
theorem Inv.write {x e:Addr} {o:HO} {t':Nat} (I:Inv X pins σ H s) (mu:Mut (H x)) (he:e=x∨H e=some (.own x)) (k:∀ b u,b≠e→s.heap.get? b=some u→h'.get? b=some u) (heo:∃ u,h'.get? e=some u)
  (new:ba X.prog X.w (upd H x o) h' x o):Inv X pins σ (upd H x o) { s with heap:=h',toks:=t' }:=I.un (Un.write mu he k heo) (I.hok.write mu he k heo new)
theorem Inv.pins_of {pins':List (Addr×Obj)} (I:Inv X pins σ H s) (h:∀ p∈pins',s.heap.get? p.1=some p.2∧H p.1=none∧p.1≠X.env.locals∧p.1∉X.fs∧∀ v,p.2.data ≠ .cell v):Inv X pins' σ H s :=
 ⟨I.ok,I.os,I.bare,I.base,I.loc,I.cell,I.free,I.freeC,λp hp=>(List.mem_append.mp hp).elim (λz=>I.pin p (List.mem_append_left _ z)) (h p),I.hok,I.len⟩
theorem gP {N:List Str} (hN:N.Nodup) {i j:Nat} {x:Str} (a:N[i]? = some x) (b:N[j]? = some x):i=j:=by
 obtain ⟨h1,e1⟩:=List.getElem?_eq_some_iff.mp a
 obtain ⟨h2,e2⟩:=List.getElem?_eq_some_iff.mp b
 exact (List.getElem_inj hN).mp (e1.trans e2.symm)
theorem pB {M:Model} {A:Around} {E:Value→Shared→Prop} {i:Nat} {x:Str} {v:V} {u:Value} {Q:Unit→Shared→Prop} (I:Inv X pins σ H s) (hN:X.N.Nodup) (hi:X.N[i]? = some x) (hx:Loc X.env.scope x) (r:aA v u)
  (h:∀ s',Inv X pins (σ.set i (some v)) H s'→(∃ a,Heap.SameBut a s.heap s'.heap∧(a=X.env.locals∨X.env.cells.lookup x=some a))→Q () s') (hf:X.fn x=true∨X.env.scope.names.lookup x=some .local:=by first | exact .inl rfl | exact .inr rfl | assumption):wpAny M A (storeName X.env x u) Q E s:=by
 obtain ⟨m,hn,hl⟩:=id I.loc
 have hcls:(X.env.scope.kind == .class || (X.env.scope.kind == .module && X.env.locals != X.env.globals))=false:=by rw [I.ok.kind]; rfl
 have hiσ:i<σ.length:=by rw [I.len]; exact (List.getElem?_eq_some_iff.mp hi).1
 have cne:=I.cne
 have tracked:∀ {a:Addr} {h':Heap},(∃ o,s.heap.get? a=some o∧H a=none)→Heap.SameBut a s.heap h'→HOk X.prog X.w H h':=λ{a h'} ha hs b ob e=>by
  obtain ⟨_,_,hfree⟩:=ha
  refine (I.hok b ob e).stay (λc w' hc q=>(hs.2 c ?_).trans q) (λ_ q=>q) λ_ _ q=>q
  rintro rfl
  rcases hc with rfl | hc
  ·rw [hfree] at e; cases e
  ·rw [hfree] at hc; cases hc
 rcases hx with hk | hk
 ·refine wpAny_storeName_local hk hn (λh' hn' hs=>?_) hcls
  obtain ⟨oL,_,_,hoL,_⟩:=id hn
  refine h _ ⟨I.ok,I.os,I.bare,⟨λb o e n hb hx=>?_,λb o e n hb hx=>?_,I.base.free,λb o e hx=>?_,I.base.tups,I.base.frzs,I.base.tbls⟩,⟨_,hn',λj y v' e1 e2 e3=>?_⟩,λy c e=>?_,I.free,I.freeC,λp hp=>?_,tracked ⟨oL,hoL,I.free⟩ hs,by simpa using I.len⟩ ⟨_,hs,.inl rfl⟩
  ·exact (hs.2 b (Nat.ne_of_lt (Nat.lt_of_lt_of_le (Heap.lt_size e) I.ok.above))).trans (I.base.keep b o e n hb hx)
  ·obtain ⟨sl,e1⟩:=I.base.slot b o e n hb hx
   exact ⟨sl,(hs.2 b (Nat.ne_of_lt (Nat.lt_of_lt_of_le (Heap.lt_size e) I.ok.above))).trans e1⟩
  ·obtain ⟨o',e1⟩:=I.base.there b o e hx
   exact ⟨o',(hs.2 b (Nat.ne_of_lt (Nat.lt_of_lt_of_le (Heap.lt_size e) I.ok.above))).trans e1⟩
  ·by_cases hj:j=i
   ·subst hj
    rw [hi] at e1; cases e1
    rw [List.getElem?_set_self hiσ] at e2
    cases e2
    exact ⟨u,r,.inl ⟨hk,by simp⟩⟩
   ·rw [List.getElem?_set_ne (Ne.symm hj)] at e2
    obtain ⟨u',r',q⟩:=hl j y v' e1 e2 e3
    refine ⟨u',r',?_⟩
    rcases q with ⟨k,e⟩ | ⟨k,c,e,z⟩
    ·refine .inl ⟨k,?_⟩
     have:y≠x:=λe=>hj (gP hN e1 (e ▸ hi))
     simp [this,e]
    ·exact .inr ⟨k,c,e,z.sameBut hs (cne y c e)⟩
  ·obtain ⟨w',z⟩:=I.cell y c e
   exact ⟨w',z.sameBut hs (cne y c e)⟩
  ·obtain ⟨e,n,ne,nf,d⟩:=I.pin p hp
   exact ⟨(hs.2 p.1 ne).trans e,n,ne,nf,d⟩
 ·have hfn:X.fn x=true:=by
   rcases hf with z | z
   ·exact z
   ·rw [z] at hk; cases hk
  obtain ⟨c,hc⟩:=I.ok.has x (.inl hk)
  obtain ⟨w',z⟩:=I.cell x c hc
  refine wpAny_storeName_cell I.ok.kind hk hc z (λh' hc' hs=>?_)
  obtain ⟨oc,hoc,hocd⟩:=id z
  refine h { s with heap:=h' } ⟨I.ok,I.os,I.bare,⟨λb o e n hb hx=>?_,λb o e n hb hx=>?_,I.base.free,λb o e hx=>?_,I.base.tups,I.base.frzs,I.base.tbls⟩,⟨m,hn.sameBut hs (Ne.symm (cne x c hc)),λj y v' e1 e2 e3=>?_⟩,λy c' e=>?_,I.free,I.freeC,λp hp=>?_,tracked ⟨oc,hoc,I.freeC x c hc⟩ hs,by simpa using I.len⟩ ⟨c,hs,.inr hc⟩
  ·exact (hs.2 b (Nat.ne_of_lt (Nat.lt_of_lt_of_le (Heap.lt_size e) (I.ok.cab x c hfn hc)))).trans (I.base.keep b o e n hb hx)
  ·obtain ⟨sl,e1⟩:=I.base.slot b o e n hb hx
   exact ⟨sl,(hs.2 b (Nat.ne_of_lt (Nat.lt_of_lt_of_le (Heap.lt_size e) (I.ok.cab x c hfn hc)))).trans e1⟩
  ·obtain ⟨o',e1⟩:=I.base.there b o e hx
   exact ⟨o',(hs.2 b (Nat.ne_of_lt (Nat.lt_of_lt_of_le (Heap.lt_size e) (I.ok.cab x c hfn hc)))).trans e1⟩
  ·by_cases hj:j=i
   ·subst hj
    rw [hi] at e1; cases e1
    rw [List.getElem?_set_self hiσ] at e2
    cases e2
    exact ⟨u,r,.inr ⟨.inl hk,c,hc,hc'⟩⟩
   ·rw [List.getElem?_set_ne (Ne.symm hj)] at e2
    obtain ⟨u',r',q⟩:=hl j y v' e1 e2 e3
    refine ⟨u',r',?_⟩
    rcases q with q | ⟨k,c',e,z'⟩
    ·exact .inl q
    ·refine .inr ⟨k,c',e,z'.sameBut hs ?_⟩
     rintro rfl
     exact hj (gP hN e1 (I.ok.inj _ _ _ e hc ▸ hi))
  ·by_cases hcc:c'=c
   ·subst hcc; exact ⟨_,hc'⟩
   ·obtain ⟨w2,z2⟩:=I.cell y c' e
    exact ⟨w2,z2.sameBut hs hcc⟩
  ·obtain ⟨e,n,ne,nf,d⟩:=I.pin p hp
   refine ⟨(hs.2 p.1 ?_).trans e,n,ne,nf,d⟩
   intro q
   rw [q,hoc] at e
   have q':oc=p.2:=Option.some.inj e
   exact d w' (by rw [← q']; exact hocd)
theorem dy {M:Model} {A:Around} {E:Value→Shared→Prop} {i:Nat} {x:Str} {v:V} {u:Value} {Q:Unit→Shared→Prop} (I:Inv X pins σ H s) (hN:X.N.Nodup) (hi:X.N[i]? = some x) (hx:Loc X.env.scope x) (r:aA v u)
  (h:∀ s',Inv X pins (σ.set i (some v)) H s'→Q () s') (hf:X.fn x=true∨X.env.scope.names.lookup x=some .local:=by first | exact .inl rfl | exact .inr rfl | assumption):wpAny M A (storeName X.env x u) Q E s :=
 pB I hN hi hx r (λs' I' _=>h s' I') hf
theorem Inv.call' {s':Shared} {ch:List Addr} (I:Inv X pins σ H s) (ho:s'.os=s.os) (u:Un (frs X.stack) ch H H' s.heap s'.heap) (hok:HOk X.prog X.w H' s'.heap) (hg:AllBare s'.gens)
  (hch:∀ b∈ch,(b∈X.ex∨X.s₀.heap.objs.size≤b)∧b≠X.env.locals∧(∀ x c,X.env.cells.lookup x=some c→c≠b)∧∀ p∈X.pn++pins,p.1≠b):Inv X pins σ H' s':=by
 obtain ⟨h',g',d',t',o'⟩:=s'
 have e:o'=s.os:=ho
 subst e
 exact I.call (g':=g') (t':=t') (d':=d') u hok hg hch
end
noncomputable abbrev XK:=Value→Option Addr→Hp→Prop
noncomputable abbrev St:=List (Option V)
noncomputable abbrev VK:=V→Hp→Prop
noncomputable abbrev TE:=St→Hp→VK→Prop
noncomputable abbrev TT:=St→Hp→(Bool→Hp→Prop)→Prop
noncomputable abbrev TA:=St→Hp→(List V→Hp→Prop)→Prop
structure Ends where
 nx:St→Hp→Prop
 rt:VK
 bk:St→Hp→Prop:=λ_ _=>False
 ct:St→Hp→Prop:=λ_ _=>False
noncomputable abbrev TS:=Ends→St→Hp→Prop
noncomputable def EP (X:Cx) (pins:List (Addr×Obj)) (σ:St) (Q:VK) (u:Value) (s':Shared):Prop:=∃ v H',Inv X pins σ H' s'∧aA v u∧Q v H'
noncomputable def TP (X:Cx) (pins:List (Addr×Obj)) (σ:St) (Q:Bool→Hp→Prop) (b:Bool) (s':Shared):Prop:=∃ H',Inv X pins σ H' s'∧Q b H'
noncomputable def AP (X:Cx) (pins:List (Addr×Obj)) (σ:St) (Q:List V→Hp→Prop) (us:List Value) (s':Shared):Prop:=∃ vs H',Inv X pins σ H' s'∧au vs us∧Q vs H'
noncomputable def SP (X:Cx) (pins:List (Addr×Obj)) (D:Ends) (f:Flow) (s':Shared):Prop :=
 match f with
 | .next=>∃ σ' H',Inv X pins σ' H' s'∧D.nx σ' H'
 | .brk=>∃ σ' H',Inv X pins σ' H' s'∧D.bk σ' H'
 | .cont=>∃ σ' H',Inv X pins σ' H' s'∧D.ct σ' H'
 | .ret u=>∃ v σ' H',Inv X pins σ' H' s'∧aA v u∧D.rt v H'
noncomputable def PE (X:Cx) (e:Expr) (t:TE):Prop :=
 ∀ (pins:List (Addr×Obj)) (s:Shared) (σ:St) (H:Hp) (Q:VK),Inv X pins σ H s→t σ H Q→wpAny (model X.prog X.w) X.A (eval e X.env) (EP X pins σ Q) X.xe s
noncomputable def PT (X:Cx) (e:Expr) (t:TT):Prop :=
 ∀ (pins:List (Addr×Obj)) (s:Shared) (σ:St) (H:Hp) (Q:Bool→Hp→Prop),Inv X pins σ H s→t σ H Q→wpAny (model X.prog X.w) X.A (isTrue e X.env (eval e X.env)) (TP X pins σ Q) X.xe s
noncomputable def PW (X:Cx) (e:Expr) (t:TT):Prop :=
 ∀ (whole:Sem Value) (pins:List (Addr×Obj)) (s:Shared) (σ:St) (H:Hp) (Q:Bool→Hp→Prop),Inv X pins σ H s→t σ H Q→wpAny (model X.prog X.w) X.A (isTrue e X.env whole) (TP X pins σ Q) X.xe s
theorem PW.pt {X:Cx} {e:Expr} {t:TT} (h:PW X e t):PT X e t:=h _
noncomputable def PA (X:Cx) (es:List Expr) (t:TA):Prop :=
 ∀ (pos:Pos) (pins:List (Addr×Obj)) (s:Shared) (σ:St) (H:Hp) (Q:List V→Hp→Prop),Inv X pins σ H s→t σ H Q→wpAny (model X.prog X.w) X.A (spliced (backTo pos (starEach es X.env))) (AP X pins σ Q) X.xe s
noncomputable def PS (X:Cx) (st:Stmt) (t:TS):Prop :=
 ∀ (pins:List (Addr×Obj)) (s:Shared) (σ:St) (H:Hp) (D:Ends),Inv X pins σ H s→t D σ H→wpAny (model X.prog X.w) X.A (exec st X.env) (SP X pins D) X.xe s
noncomputable def PSs (X:Cx) (st:List Stmt) (t:TS):Prop :=
 ∀ (pins:List (Addr×Obj)) (s:Shared) (σ:St) (H:Hp) (D:Ends),Inv X pins σ H s→t D σ H→wpAny (model X.prog X.w) X.A (execs st X.env) (SP X pins D) X.xe s
theorem thn {α:Type} {t:Sem α} {Q Q':α→Shared→Prop} {M:Model} {A:Around} {E:Value→Shared→Prop} {s:Shared} (h:wpAny M A t Q E s) (hQ:∀ a s,Q a s→Q' a s):wpAny M A t Q' E s:=wpAny_mono h hQ λ_ _ x=>x
section
variable {X:Cx}
noncomputable def qC (i:Nat):TE:=λσ H Q=>∃ v,σ[i]? = some (some v)∧Q v H
noncomputable def tC (v:V):TE:=λ_ H Q=>Q v H
theorem vB {i:Nat} {x:Str} {pos:Pos} (hN:X.N[i]? = some x) (hv:Vis X.env.scope x) (hd:(x == ("__debug__":Str))=false:=by decide) (hcd:(x == ("__classdict__":Str))=false:=by decide):PE X (.Name x pos) (qC i):=by
 intro pins s σ H Q I h
 obtain ⟨v,e,h⟩:=h
 obtain ⟨m,hn,hl⟩:=I.loc
 obtain ⟨u,r,l⟩:=hl i x v hN e hv
 have fin:EP X pins σ Q u s:=⟨v,H,I,r,h⟩
 rcases l with ⟨hk,hm⟩ | ⟨hk,c,hc,hcell⟩
 ·exact wpAny_Name (wpAny_loadName_local I.ok.kind hk hn hm fin) hd
 ·rcases hk with hk | hk
  ·exact wpAny_Name (wpAny_loadName_cell I.ok.kind hk hc hcell fin) hd
  ·exact wpAny_Name (wpAny_loadName_free I.ok.kind hk hc hcell fin hcd) hd
theorem ai {i j pos}:PE X (.Constant (.int i) j pos) (tC (.int i)):=λ_ _ _ H _ I h=>wpAny_Constant_int ⟨.int i,H,I.tok _,⟨_,rfl⟩,h⟩
theorem dv {b j pos}:PE X (.Constant (.bool b) j pos) (tC (.bl b)):=λ_ _ _ H _ I h=>Constant_bool ⟨.bl b,H,I,rfl,h⟩
theorem cH {j pos}:PE X (.Constant .none j pos) (tC .non):=λ_ _ _ H _ I h=>Constant_none ⟨.non,H,I,rfl,h⟩
theorem aP {x j pos}:PE X (.Constant (.str x) j pos) (tC (.str x)):=λ_ _ _ H _ I h=>Calls.Constant_str ⟨.str x,H,I.tok _,⟨_,rfl⟩,h⟩
noncomputable def Gl (X:Cx) (x:Str):Prop:=X.env.kindOf x=some .globalImplicit
theorem gH {E:Value→Shared→Prop} {pins:List (Addr×Obj)} {s:Shared} {σ:St} {H:Hp} {x:Str} {u:Value} {pos:Pos} {Q:Value→Shared→Prop} (I:Inv X pins σ H s) (hg:Gl X x) (hm:X.mg x=some u) (h:Q u s)
  (hd:(x == ("__debug__":Str))=false:=by decide):wpAny (model X.prog X.w) X.A (eval (.Name x pos) X.env) Q E s :=
 Calls.Name_function_global I.ok.kind hg (Calls.loadGlobal_global (by rw [I.ok.glob]; exact I.mod.glob.keeps I.bk) hm h) hd
theorem dz {E:Value→Shared→Prop} {pins:List (Addr×Obj)} {s:Shared} {σ:St} {H:Hp} {x:Str} {u:Value} {pos:Pos} {Q:Value→Shared→Prop} (I:Inv X pins σ H s) (hg:Gl X x) (hm:X.mg x=none) (hv:bootBuiltins x=some u) (h:Q u s)
  (hn:x≠"__name__":=by decide) (hd:(x == ("__debug__":Str))=false:=by decide):wpAny (model X.prog X.w) X.A (eval (.Name x pos) X.env) Q E s:=by
 obtain ⟨mb,h1,h2⟩:=I.mod.blt
 exact Calls.Name_function_global I.ok.kind hg (Calls.loadGlobal_builtin (by rw [I.ok.glob]; exact I.mod.glob.keeps I.bk) hm (by rw [I.ok.blt]; exact h1.keeps I.bk) ((h2 x hn).trans hv) h) hd
theorem bg {x:Str} {v:V} {u:Value} {pos:Pos} (hg:Gl X x) (hm:X.mg x=some u) (r:aA v u) (hd:(x == ("__debug__":Str))=false:=by decide):PE X (.Name x pos) (tC v) :=
 λ_ _ _ H _ I h=>gH I hg hm ⟨v,H,I,r,h⟩ hd
theorem dL {x:Str} {v:V} {u:Value} {pos:Pos} (hg:Gl X x) (hm:X.mg x=none) (hv:bootBuiltins x=some u) (r:aA v u) (hn:x≠"__name__":=by decide) (hd:(x == ("__debug__":Str))=false:=by decide):PE X (.Name x pos) (tC v) :=
 λ_ _ _ H _ I h=>dz I hg hm hv ⟨v,H,I,r,h⟩ hn hd
variable {a b:Expr} {ta tb:TE} {pos:Pos}
noncomputable def PC (X:Cx) (op:CmpOp) (a b:Expr) (t:TE):Prop :=
 ∀ (pins:List (Addr×Obj)) (s:Shared) (σ:St) (H:Hp) (Q:VK),Inv X pins σ H s→t σ H Q →
  wpAny (model X.prog X.w) X.A (eval a X.env) (λv s₁=>wpAny (model X.prog X.w) X.A (eval b X.env) (λu s₂=>wpAny (model X.prog X.w) X.A (compareOp op v u) (EP X pins σ Q) X.xe s₂) X.xe s₁) X.xe s
noncomputable def tB (t:TE):TT:=λσ H Q=>t σ H λx H1=>∃ c,x = .bl c∧Q c H1
theorem vC {op:CmpOp} {t:TE} (h:PC X op a b t) (h1:behindInMarks op b=false:=by first | exact nobehind _ (by decide) (by decide) | rfl):PT X (.Compare a [op] [b] pos) (tB t):=by
 intro pins s σ H Q I hw
 refine wpAny_isTrue_Compare1 (thn (h pins s σ H _ I hw) λv s1 h1=>thn h1 λu s2 h2=>thn h2 λc s3 ⟨x,H1,I1,r1,q1⟩=>?_) h1
 obtain ⟨d,rfl,q⟩:=q1
 cases r1
 exact wpAny_truthy_bool ⟨H1,I1,q⟩
theorem ci {e:Expr} {t:TE} (h:PE X e t) (he:∀ whole,isTrue e X.env whole=(do let v ← whole; standAt e.pos; holding [v] (truthy v)):=by intro _; rfl):PT X e (tB t):=by
 intro pins s σ H Q I hw
 refine isTrue_plain (thn (h pins s σ H _ I hw) λv s1 ⟨x,H1,I1,r1,q1⟩=>?_) (he _)
 obtain ⟨d,rfl,q⟩:=q1
 cases r1
 exact wpAny_truthy_bool ⟨H1,I1,q⟩
variable {tA tB':TT} {rest:List Expr}
noncomputable def yx (t u:TT):TT:=λσ H Q=>t σ H λc H1=>if c=true then u σ H1 Q else Q false H1
noncomputable def tOr (t u:TT):TT:=λσ H Q=>t σ H λc H1=>if c=true then Q true H1 else u σ H1 Q
noncomputable def yy (t:TT):TT:=λσ H Q=>t σ H λc H1=>Q (!c) H1
theorem pw_and1 (ha:PT X a tA):PW X (.BoolOp .And [a] pos) tA:=by
 intro wh pins s σ H Q I h
 refine isTrue_and (thn (ha pins s σ H Q I h) λc s1 e=>?_)
 cases c with
 | true=>exact isTrue_and_nil e
 | false=>exact e
theorem pw_or1 (ha:PT X a tA):PW X (.BoolOp .Or [a] pos) tA:=by
 intro wh pins s σ H Q I h
 refine isTrue_or (thn (ha pins s σ H Q I h) λc s1 e=>?_)
 cases c with
 | false=>exact isTrue_or_nil e
 | true=>exact e
theorem pw_and (ha:PT X a tA) (hb:PW X (.BoolOp .And (b :: rest) pos) tB'):PW X (.BoolOp .And (a :: b :: rest) pos) (yx tA tB'):=by
 intro wh pins s σ H Q I h
 refine isTrue_and (thn (ha pins s σ H _ I h) λc s1 hpt=>?_)
 obtain ⟨H1,I1,q1⟩:=hpt
 cases c with
 | true=>exact hb wh pins s1 σ H1 Q I1 q1
 | false=>exact ⟨H1,I1,q1⟩
theorem pw_or (ha:PT X a tA) (hb:PW X (.BoolOp .Or (b :: rest) pos) tB'):PW X (.BoolOp .Or (a :: b :: rest) pos) (tOr tA tB'):=by
 intro wh pins s σ H Q I h
 refine isTrue_or (thn (ha pins s σ H _ I h) λc s1 hpt=>?_)
 obtain ⟨H1,I1,q1⟩:=hpt
 cases c with
 | true=>exact ⟨H1,I1,q1⟩
 | false=>exact hb wh pins s1 σ H1 Q I1 q1
theorem ca (ha:PT X a tA):PT X (.UnaryOp .Not a pos) (yy tA):=by
 intro pins s σ H Q I h
 exact isTrue_not (ha pins s σ H (λc H1=>Q (!c) H1) I h)
noncomputable def xE (ta tb:TE):TE:=λσ H Q=>ta σ H λx H1=>∃ c,x = .bl c∧if c=true then tb σ H1 Q else Q (.bl false) H1
noncomputable def yz (ta tb:TE):TE:=λσ H Q=>ta σ H λx H1=>∃ c,x = .bl c∧if c=true then Q (.bl true) H1 else tb σ H1 Q
noncomputable def xF (ta:TE):TE:=λσ H Q=>ta σ H λx H1=>∃ c,x = .bl c∧Q (.bl (!c)) H1
theorem fj {op} {t:TE} (h:PE X a t):PE X (.BoolOp op [a] pos) t:=λpins s σ H Q I hw=>BoolOp_one (h pins s σ H Q I hw)
theorem dY (ha:PE X a ta) (hb:PE X (.BoolOp .And (b :: rest) pos) tb):PE X (.BoolOp .And (a :: b :: rest) pos) (xE ta tb):=by
 intro pins s σ H Q I h
 refine BoolOp_and (thn (ha pins s σ H _ I h) λv s1 hpt=>?_)
 obtain ⟨x,H1,I1,r1,q1⟩:=hpt
 obtain ⟨c,rfl,q1⟩:=q1
 cases r1
 refine wpAny_truthy_bool ?_
 cases c with
 | true=>exact hb pins s1 σ H1 Q I1 q1
 | false=>exact ⟨.bl false,H1,I1,rfl,q1⟩
theorem xG (ha:PE X a ta) (hb:PE X (.BoolOp .Or (b :: rest) pos) tb):PE X (.BoolOp .Or (a :: b :: rest) pos) (yz ta tb):=by
 intro pins s σ H Q I h
 refine BoolOp_or (thn (ha pins s σ H _ I h) λv s1 hpt=>?_)
 obtain ⟨x,H1,I1,r1,q1⟩:=hpt
 obtain ⟨c,rfl,q1⟩:=q1
 cases r1
 refine wpAny_truthy_bool ?_
 cases c with
 | false=>exact hb pins s1 σ H1 Q I1 q1
 | true=>exact ⟨.bl true,H1,I1,rfl,q1⟩
theorem vD (ha:PE X a ta):PE X (.UnaryOp .Not a pos) (xF ta):=by
 intro pins s σ H Q I h
 refine UnaryOp_ (thn (ha pins s σ H _ I h) λv s1 hpt=>?_)
 obtain ⟨x,H1,I1,r1,q1⟩:=hpt
 obtain ⟨c,rfl,q1⟩:=q1
 cases r1
 exact not_of (wpAny_truthy_bool ⟨.bl (!c),H1,I1,rfl,q1⟩)
noncomputable def tIf (t:TT) (ta tb:TE):TE:=λσ H Q=>t σ H λc H1=>if c=true then ta σ H1 Q else tb σ H1 Q
theorem ku {c:Expr} (hc:PT X c tA) (ha:PE X a ta) (hb:PE X b tb):PE X (.IfExp c a b pos) (tIf tA ta tb):=by
 intro pins s σ H Q I h
 refine wpAny_IfExp (thn (hc pins s σ H _ I h) λd s1 hpt=>?_)
 obtain ⟨H1,I1,q1⟩:=hpt
 cases d with
 | true=>exact ha pins s1 σ H1 Q I1 q1
 | false=>exact hb pins s1 σ H1 Q I1 q1
end
noncomputable def SqL (K:PySem.W.Frag) (H:Hp) (a:Addr) (xs:List V):Prop :=
 Rd H a (.lst xs) ∨
  ∃ (o:Obj) (its:Array Value) (n:Nat),K.lookup a=some o∧o.cls = .type "list"∧o.dict=none∧o.data = .seq its n∧its.size≤sizeLine∧au xs its.toList
noncomputable def SqT (K:PySem.W.Frag) (H:Hp) (a:Addr) (xs:List V):Prop :=
 Rd H a (.tup xs) ∨
  ∃ (o:Obj) (its:Array Value) (n:Nat),K.lookup a=some o∧o.cls = .type "tuple"∧o.data = .seq its n∧its.size≤sizeLine∧au xs its.toList
noncomputable def yA:Value→Option V
 | .none=>some .non
 | .bool b=>some (.bl b)
 | .int i _=>some (.int i)
 | .str x _=>some (.str x)
 | .bytes b _=>some (.byt b)
 | .float b _=>some (.flt b)
 | .ref a=>some (.ref a)
 | .type n=>some (.ty n)
 | _=>none
theorem aA.abs {x:V} {u:Value} (r:aA x u):yA u=some x:=by
 cases x with
 | non=>cases r; rfl
 | bl _=>cases r; rfl
 | int _=>obtain ⟨t,rfl⟩:=r; rfl
 | str _=>obtain ⟨t,rfl⟩:=r; rfl
 | byt _=>obtain ⟨t,rfl⟩:=r; rfl
 | flt _=>obtain ⟨t,rfl⟩:=r; rfl
 | ref _=>cases r; rfl
 | ty _=>cases r; rfl
theorem aA.inj {x y:V} {u:Value} (r:aA x u) (q:aA y u):x=y:=Option.some.inj (r.abs.symm.trans q.abs)
theorem au.inj:∀ {xs ys:List V} {us:List Value},au xs us→au ys us→xs=ys
 | _,_,_,.nil,.nil=>rfl
 | _,_,_,.cons r t,.cons r' t'=>by rw [r.inj r',au.inj t t']
section
variable {X:Cx} {pins:List (Addr×Obj)} {σ:St} {H:Hp} {s:Shared} {a:Addr} {xs ys:List V}
theorem SqL.of {K:PySem.W.Frag} (h:H a=some (.lst xs)):SqL K H a xs:=.inl (.inl h)
theorem SqT.of {K:PySem.W.Frag} (h:H a=some (.tup xs)):SqT K H a xs:=.inl (.inl h)
theorem Inv.list (I:Inv X pins σ H s) (h:SqL X.K H a xs):∃ its:List Value,au xs its∧PlainL s.heap a its.toArray∧xs.length≤sizeLine:=by
 rcases h with h | ⟨o,its,n,hk,hc,hd,hs,hz,r⟩
 ·obtain ⟨z,its,n,r,e⟩:=h.ok I.hok
  exact ⟨its,r,⟨_,n,e,rfl,rfl,rfl⟩,z⟩
 ·refine ⟨its.toList,r,⟨o,n,I.kIn a o hk,hc,hd,by simpa using hs⟩,?_⟩
  have e:=r.length
  simp only [Array.length_toList] at e
  omega
theorem Inv.tuple (I:Inv X pins σ H s) (h:SqT X.K H a xs):∃ its:List Value,au xs its∧IsTup s.heap a its.toArray∧xs.length≤sizeLine:=by
 rcases h with h | ⟨o,its,n,hk,hc,hs,hz,r⟩
 ·obtain ⟨z,its,r,p⟩:=h.ok I.hok
  exact ⟨its,r,p,z⟩
 ·refine ⟨its.toList,r,⟨o,I.kIn a o hk,hc,n,by simpa using hs⟩,?_⟩
  have e:=r.length
  simp only [Array.length_toList] at e
  omega
theorem Inv.list_inj (I:Inv X pins σ H s) (h:SqL X.K H a xs) (h':SqL X.K H a ys):xs=ys:=by
 obtain ⟨its,r,⟨o,n,e,_,_,d⟩,_⟩:=I.list h
 obtain ⟨its',r',⟨o',n',e',_,_,d'⟩,_⟩:=I.list h'
 rw [e] at e'; cases e'
 rw [d] at d'
 injection d' with d1 _
 have:its=its':=by simpa using congrArg Array.toList d1
 subst this
 exact r.inj r'
theorem Inv.tuple_inj (I:Inv X pins σ H s) (h:SqT X.K H a xs) (h':SqT X.K H a ys):xs=ys:=by
 obtain ⟨its,r,⟨o,e,_,n,d⟩,_⟩:=I.tuple h
 obtain ⟨its',r',⟨o',e',_,n',d'⟩,_⟩:=I.tuple h'
 rw [e] at e'; cases e'
 rw [d] at d'
 injection d' with d1 _
 have:its=its':=by simpa using congrArg Array.toList d1
 subst this
 exact r.inj r'
end
noncomputable abbrev Cx.wish (X:Cx) (E:Value→Shared→Prop):Cx:={ X with xe:=E }
noncomputable abbrev Cx.nox (X:Cx):Cx:=X.wish λ_ _=>False
theorem Cx.Ok.wish {X:Cx} (ok:X.Ok) (E:Value→Shared→Prop):(X.wish E).Ok :=
 ⟨ok.mod,ok.kind,ok.glob,ok.blt,ok.above,ok.inj,ok.has,ok.cab,ok.hd,ok.frames,ok.stk,ok.exf,ok.bs,ok.bsz,ok.noex,ok.exfs,ok.funs,ok.frf⟩
theorem Cx.Ok.unwish {X:Cx} {E:Value→Shared→Prop} (ok:(X.wish E).Ok):X.Ok :=
 ⟨ok.mod,ok.kind,ok.glob,ok.blt,ok.above,ok.inj,ok.has,ok.cab,ok.hd,ok.frames,ok.stk,ok.exf,ok.bs,ok.bsz,ok.noex,ok.exfs,ok.funs,ok.frf⟩
section
variable {X:Cx} {pins:List (Addr×Obj)} {σ:St} {H:Hp} {s:Shared} {E:Value→Shared→Prop}
theorem Inv.wish (I:Inv X pins σ H s) (E:Value→Shared→Prop):Inv (X.wish E) pins σ H s:=⟨I.ok.wish E,I.os,I.bare,I.base,I.loc,I.cell,I.free,I.freeC,I.pin,I.hok,I.len⟩
theorem Inv.unwish (I:Inv (X.wish E) pins σ H s):Inv X pins σ H s:=⟨I.ok.unwish,I.os,I.bare,I.base,I.loc,I.cell,I.free,I.freeC,I.pin,I.hok,I.len⟩
theorem SP.unwish {D:Ends} {f:Flow} {s':Shared} (h:SP (X.wish E) pins D f s'):SP X pins D f s':=by
 cases f with
 | next=>obtain ⟨σ',H',I,q⟩:=h; exact ⟨σ',H',I.unwish,q⟩
 | brk=>obtain ⟨σ',H',I,q⟩:=h; exact ⟨σ',H',I.unwish,q⟩
 | cont=>obtain ⟨σ',H',I,q⟩:=h; exact ⟨σ',H',I.unwish,q⟩
 | ret u=>obtain ⟨v,σ',H',I,r,q⟩:=h; exact ⟨v,σ',H',I.unwish,r,q⟩
theorem PSs.nox {st:List Stmt} {t:TS} (h:PSs X.nox st t):PSs X st t:=λpins s σ H D I hw =>
 wpAny_mono (h pins s σ H D (I.wish _) hw) (λ_ _ q=>q.unwish) λ_ _ z=>False.elim z
end
section
variable {X:Cx} {st:Stmt} {rest:List Stmt} {t u:TS} {e:Expr} {te:TE} {pos:Pos}
noncomputable def xH:TS:=λD σ H=>D.nx σ H
noncomputable def tG (t u:TS):TS:=λD σ H=>t { D with nx:=u D } σ H
theorem aB:PSs X [] xH:=λ_ _ σ H _ I h=>wpAny_execs_nil ⟨σ,H,I,h⟩
theorem ah (h1:PS X st t) (h2:PSs X rest u):PSs X (st :: rest) (tG t u):=by
 intro pins s σ H D I h
 refine wpAny_execs_cons (thn (h1 pins s σ H { D with nx:=u D } I h) λf s1 q=>?_)
 cases f with
 | next =>
  obtain ⟨σ',H',I',q⟩:=q
  exact h2 pins s1 σ' H' D I' q
 | ret v=>exact q
 | brk=>exact q
 | cont=>exact q
theorem aj (h1:PS X st t):PSs X [st] t:=by
 intro pins s σ H D I h
 refine wpAny_execs_cons (thn (h1 pins s σ H D I h) λf s1 q=>?_)
 cases f with
 | next=>exact wpAny_execs_nil q
 | ret v=>exact q
 | brk=>exact q
 | cont=>exact q
noncomputable def vE:TS:=λD σ H=>D.bk σ H
theorem qD:PS X (.Break pos) vE:=λ_ _ σ H _ I h=>wpAny_Break ⟨σ,H,I,h⟩
theorem Inv.quiet {pins:List (Addr×Obj)} {σ:St} {H:Hp} {s:Shared} (I:Inv X pins σ H s):interactive X.env=false:=by simp [interactive,I.ok.kind]
noncomputable def xI (te:TE):TS:=λD σ H=>te σ H λ_ H1=>D.nx σ H1
theorem cp (he:PE X e te) (hs:swapsWith e none pos.line X.env=pure false:=by rfl):PS X (.Expr e pos) (xI te):=by
 intro pins s σ H D I h
 exact wpAny_Expr_any (thn (he pins s σ H _ I h) λv s1 ⟨x,H1,I1,r1,q1⟩=>⟨σ,H1,I1,q1⟩) I.quiet hs
noncomputable def yB (te:TE):TS:=λD σ H=>te σ H D.rt
theorem aq (he:PE X e te):PS X (.Return (some e) pos) (yB te):=by
 intro pins s σ H D I h
 exact wpAny_Return_some (thn (he pins s σ H _ I h) λv s1 ⟨x,H1,I1,r1,q1⟩=>⟨x,σ,H1,I1,r1,q1⟩)
noncomputable def yC (c:TT) (t u:TS):TS:=λD σ H=>c σ H λb H1=>if b=true then t D σ H1 else u D σ H1
theorem bj {c:Expr} {a b:List Stmt} {tc:TT} (hc:PT X c tc) (ha:PSs X a t) (hb:PSs X b u):PS X (.If c a b pos) (yC tc t u):=by
 intro pins s σ H D I h
 refine wpAny_If (thn (hc pins s σ H _ I h) λd s1 hpt=>?_)
 obtain ⟨H1,I1,q1⟩:=hpt
 cases d with
 | true=>exact ha pins s1 σ H1 D I1 q1
 | false=>exact hb pins s1 σ H1 D I1 q1
end
noncomputable abbrev TG:=V→St→Hp→(St→Hp→Prop)→Prop
noncomputable abbrev TGs:=List V→St→Hp→(St→Hp→Prop)→Prop
noncomputable def PG (X:Cx) (target:Expr) (t:TG):Prop :=
 ∀ (pins:List (Addr×Obj)) (s:Shared) (σ:St) (H:Hp) (v:V) (u:Value) (Q:St→Hp→Prop),Inv X pins σ H s→aA v u→t v σ H Q →
  wpAny (model X.prog X.w) X.A (assign target X.env u) (λ_ s'=>∃ σ' H',Inv X pins σ' H' s'∧Q σ' H') X.xe s
noncomputable def PGs (X:Cx) (ts:List Expr) (t:TGs):Prop :=
 ∀ (pins:List (Addr×Obj)) (s:Shared) (σ:St) (H:Hp) (vs:List V) (us:List Value) (Q:St→Hp→Prop),Inv X pins σ H s→au vs us→t vs σ H Q →
  wpAny (model X.prog X.w) X.A (assignInOrder ((assignEach ts X.env).map (·.2)) us) (λ_ s'=>∃ σ' H',Inv X pins σ' H' s'∧Q σ' H') X.xe s
section
variable {X:Cx} {pos:Pos}
noncomputable def bp (i:Nat):TG:=λv σ H Q=>Q (σ.set i (some v)) H
theorem aH {i:Nat} {x:Str} (hN:X.N.Nodup) (hi:X.N[i]? = some x) (hx:Loc X.env.scope x) (hf:X.fn x=true∨X.env.scope.names.lookup x=some .local:=by first | exact .inl rfl | exact .inr rfl | assumption):PG X (.Name x pos) (bp i):=by
 intro pins s σ H v u Q I r h
 exact wpAny_assign_Name (dy I hN hi hx r (λs' I'=>⟨_,H,I',h⟩) hf)
noncomputable def qE:TGs:=λvs σ H Q=>vs=[]∧Q σ H
noncomputable def eL (t:TG) (u:TGs):TGs:=λvs σ H Q=>∃ v r,vs=v :: r∧t v σ H λσ' H'=>u r σ' H' Q
theorem gI:PGs X [] qE:=by
 intro pins s σ H vs us Q I r h
 obtain ⟨e,h⟩:=h
 subst e
 cases r
 exact assignInOrder_nil ⟨σ,H,I,h⟩
theorem cf {e:Expr} {es:List Expr} {t:TG} {u:TGs} (h1:PG X e t) (h2:PGs X es u)
  (hs:(assignEach (e :: es) X.env).map (·.2)=assign e X.env :: (assignEach es X.env).map (·.2):=by rfl):PGs X (e :: es) (eL t u):=by
 intro pins s σ H vs us Q I r h
 obtain ⟨v,vr,e1,h⟩:=h
 subst e1
 cases r with
 | cons r rr =>
  rw [hs]
  refine assignInOrder_cons (thn (h1 pins s σ H _ _ _ I r h) λ_ s1 hpt=>?_)
  obtain ⟨σ1,H1,I1,q1⟩:=hpt
  exact h2 pins s1 σ1 H1 _ _ Q I1 rr q1
noncomputable def qF (K:PySem.W.Frag) (n:Nat) (t:TGs):TG:=λv σ H Q=>∃ a xs,v = .ref a∧SqT K H a xs∧xs.length=n∧t xs σ H Q
theorem jx {es:List Expr} {k:Nat} {t:TGs} {n:Nat} (hc:X.calm=true) (h:PGs X es t)
  (hn:(assignEach es X.env).length=n:=by rfl) (hst:(assignEach es X.env).findIdx? (·.1)=none:=by rfl):PG X (.Tuple es k pos) (qF X.K n t):=by
 intro pins s σ H v u Q I r hw
 obtain ⟨a,xs,e1,hq,hl,hw⟩:=hw
 subst e1
 cases r
 obtain ⟨its,rv,ht,hz⟩:=I.tuple hq
 refine assign_Tuple_tuple (I.ok.hd hc) ht (by simp [hn,← hl,rv.length]) hst λh' hx=>?_
 have I1:Inv X pins σ H { s with heap:=h' }:=I.kept (t':=s.toks) λb o e=>hx b o (Nat.ne_of_lt (Heap.lt_size e)) e
 exact h pins _ σ H xs _ Q I1 (by simpa using rv) hw
noncomputable def yD (te:TE) (g:TG):TS:=λD σ H=>te σ H λx H1=>g x σ H1 D.nx
theorem ar {i:Nat} {x:Str} {e:Expr} {te:TE} {pos':Pos} (hN:X.N.Nodup) (hi:X.N[i]? = some x) (hx:Loc X.env.scope x) (he:PE X e te) (hs:swapsWith e (some (.Name x pos')) pos.line X.env=pure false:=by rfl) (hf:X.fn x=true∨X.env.scope.names.lookup x=some .local:=by first | exact .inl rfl | exact .inr rfl | assumption) :
  PS X (.Assign [.Name x pos'] e pos) (yD te (bp i)):=by
 intro pins s σ H D I h
 refine wpAny_Assign_Name (thn (he pins s σ H _ I h) λv s1 ⟨y,H1,I1,r1,q1⟩=>?_) hs
 exact dy I1 hN hi hx r1 (λs2 I2=>⟨_,H1,I2,q1⟩) hf
noncomputable def qG (c:TT) (tb:TS):TS:=λD σ H=>∃ W:Nat→St→Hp→Prop,(∃ m,W m σ H)∧∀ m σ H,W m σ H →
 c σ H λb H1=>if b=true then ∃ N:St→Hp→Prop,(∀ σ' H',N σ' H'→∃ m',m'<m∧W m' σ' H')∧tb { D with nx:=N,ct:=N,bk:=D.nx } σ H1 else D.nx σ H1
theorem gQ {c:Expr} {body:List Stmt} {tc:TT} {tb:TS} (hp:PassesOwn (model X.prog X.w) X.A X.env X.xe) (hc:PT X c tc) (hb:PSs X body tb):PS X (.While c body [] pos) (qG tc tb):=by
 intro pins s σ H D I h
 obtain ⟨W,⟨m0,w0⟩,turn⟩:=h
 refine wpAny_While (codeAny_whileLoop (λn s'=>∃ σ' H',Inv X pins σ' H' s'∧W n σ' H') ?_ m0 ⟨σ,H,I,w0⟩)
 rintro n s1 ⟨σ1,H1,I1,w1⟩
 refine wpAny_passesOwn hp (thn (hc pins s1 σ1 H1 _ I1 (turn n σ1 H1 w1)) λb s2 hpt=>?_)
 obtain ⟨H2,I2,q2⟩:=hpt
 cases b with
 | true =>
  obtain ⟨N,hN,q2⟩:=q2
  rw [if_pos rfl]
  refine wpAny_passesOwn hp (thn (hb pins s2 σ1 H2 _ I2 q2) λf s3 q3=>?_)
  cases f with
  | next =>
   obtain ⟨σ3,H3,I3,n3⟩:=q3
   obtain ⟨m',hm,w3⟩:=hN σ3 H3 n3
   exact ⟨m',hm,σ3,H3,I3,w3⟩
  | cont =>
   obtain ⟨σ3,H3,I3,n3⟩:=q3
   obtain ⟨m',hm,w3⟩:=hN σ3 H3 n3
   exact ⟨m',hm,σ3,H3,I3,w3⟩
  | brk=>exact q3
  | ret v=>exact q3
 | false =>
  rw [if_neg Bool.false_ne_true]
  exact wpAny_execs_nil ⟨σ1,H2,I2,q2⟩
end
structure It where
 go:Nat→Hp→Prop
 yld:Nat→Hp→V→Hp→Prop
 stop:Nat→Hp→Prop
noncomputable def gB (X:Cx) (pins:List (Addr×Obj)) (H:Hp) (b:Addr):Prop :=
 H b=none∧b≠X.env.locals∧b∉X.fs∧(b∈X.ex∨X.s₀.heap.objs.size≤b)∧(∀ x c,X.env.cells.lookup x=some c→c≠b)∧∀ p∈X.pn++pins,p.1≠b
theorem Inv.fpOk {X:Cx} {pins:List (Addr×Obj)} {σ:St} {H H':Hp} {s:Shared} {b:Addr} (I:Inv X pins σ H s) (hb:s.heap.objs.size≤b) (hn:H' b=none):gB X pins H' b:=by
 refine ⟨hn,Nat.ne_of_gt (Nat.lt_of_lt_of_le I.lt hb),I.nofs hb,.inr (Nat.le_trans I.sz hb),λx c e z=>?_,λp hp z=>?_⟩
 ·obtain ⟨v,q⟩:=I.cell x c e
  exact absurd (Nat.lt_of_lt_of_le q.lt (by rw [z]; exact hb)) (Nat.lt_irrefl _)
 ·exact absurd (Nat.lt_of_lt_of_le (Heap.lt_size (I.pin p hp).1) (by rw [z]; exact hb)) (Nat.lt_irrefl _)
structure Turn (P:Program) (w:World) (K:PySem.W.Frag) (tg:Expr) (J:It) (fp:List Addr) (it:Addr) (tn:Nat→Heap→Prop):Prop where
 mem:it∈fp
 obj:∀ i h,tn i h→∀ b∈fp,∃ o,h.get? b=some o∧∀ v,o.data ≠ .cell v
 keep:∀ i h h',tn i h→(∀ b∈fp,∀ o,h.get? b=some o→h'.get? b=some o)→tn i h'
 item:∀ (X:Cx),X.prog=P→X.w=w→X.K=K→X.calm=true→∀ (i:Nat) (pins:List (Addr×Obj)) (s:Shared) (σ:St) (H:Hp) (E:Value→Shared→Prop),Inv X pins σ H s→(∀ b∈fp,gB X pins H b)→tn i s.heap→J.go i H →
  wpAny (model P w) X.A (pyNext (.ref it)) (λr s1=>∃ u,r=some u ∧
   wpAny (model P w) X.A (letOwnedTupleGo tg (.ref it) u) (λ_ s2=>∃ x H',Inv X pins σ H' s2∧aA x u∧J.yld i H x H'∧tn (i+1) s2.heap∧∀ b∈fp,H' b=none) E s1) E s
 done:∀ (X:Cx),X.prog=P→X.w=w→X.K=K→X.calm=true→∀ (i:Nat) (pins:List (Addr×Obj)) (s:Shared) (σ:St) (H:Hp) (E:Value→Shared→Prop),Inv X pins σ H s→(∀ b∈fp,gB X pins H b)→tn i s.heap→J.stop i H →
  wpAny (model P w) X.A (pyNext (.ref it)) (λr s1=>r=none∧Inv X pins σ H s1) E s
 self:∀ (A:Around) (i:Nat) (s:Shared) (Q:Value→Shared→Prop) (E:Value→Shared→Prop),tn i s.heap→Q (.ref it) s→wpAny (model P w) A (pyIter (.ref it)) Q E s
noncomputable abbrev TI:=St→Hp→(It→Hp→Prop)→Prop
noncomputable def PIE (X:Cx) (pins:List (Addr×Obj)) (σ:St) (tg:Expr) (R:It→Hp→Prop) (itv:Value) (s2:Shared):Prop :=
 ∃ (it:Addr) (fp:List Addr) (tn:Nat→Heap→Prop) (J:It) (H':Hp),itv = .ref it∧Inv X pins σ H' s2∧Turn X.prog X.w X.K tg J fp it tn∧tn 0 s2.heap∧(∀ b∈fp,gB X pins H' b)∧R J H'
noncomputable def PI (X:Cx) (tg iter:Expr) (wi:TI):Prop :=
 ∀ (pins:List (Addr×Obj)) (s:Shared) (σ:St) (H:Hp) (R:It→Hp→Prop),Inv X pins σ H s→wi σ H R →
  wpAny (model X.prog X.w) X.A (eval iter X.env) (λv s1=>wpAny (model X.prog X.w) X.A (pyIter v) (PIE X pins σ tg R) X.xe s1) X.xe s
theorem kx {M:Model} {A:Around} {E:Value→Shared→Prop} {s:Shared} {tg:Expr} {it:Addr} {u:Value} {o:Obj} {n:String} {vs:Array Value} {Q:Unit→Shared→Prop} (ho:s.heap.get? it=some o) (hc:o.cls = .type n) (hd:o.data = .fields vs)
  (hn:["enumerate","zip","dict_itemiterator","dict_reverseitemiterator","odict_iterator","itertools.zip_longest","itertools.pairwise"].contains n=false) (hQ:Q () s):wpAny M A (letOwnedTupleGo tg (.ref it) u) Q E s:=by
 unfold letOwnedTupleGo
 cases tg <;> first
  | exact wpAny_pure hQ
  | (cases u <;> first
    | exact wpAny_pure hQ
    | (refine wpAny_bind (wpAny_load ho ?_)
       rw [hc,hd]
       show wpAny M A (if (["enumerate","zip","dict_itemiterator","dict_reverseitemiterator","odict_iterator","itertools.zip_longest","itertools.pairwise"].contains n && vs[0]? == some (rawInt _))=true then _ else _) Q E s
       rw [if_neg (by intro h; rw [hn,Bool.false_and] at h; cases h)]
       exact wpAny_pure hQ))
noncomputable def Itl (K:PySem.W.Frag) (a:Addr):It :=
 ⟨λi H=>∃ xs x,SqL K H a xs∧xs[i]? = some x,λi H x H'=>H'=H∧∀ xs,SqL K H a xs→xs[i]? = some x,λi H=>∃ xs,SqL K H a xs∧xs.length≤i⟩
noncomputable def Itt (K:PySem.W.Frag) (a:Addr):It :=
 ⟨λi H=>∃ xs x,SqT K H a xs∧xs[i]? = some x,λi H x H'=>H'=H∧∀ xs,SqT K H a xs→xs[i]? = some x,λi H=>∃ xs,SqT K H a xs∧xs.length≤i⟩
noncomputable def Itr (lo:Int) (n:Nat):It:=⟨λi _=>i<n,λi H x H'=>H'=H∧x = .int (lo+i),λi _=>n≤i⟩
theorem pC {P:Program} {w:World} {K:PySem.W.Frag} {tg:Expr} (a it:Addr):Turn P w K tg (Itl K a) [it] it (λi h=>h.IsListIter it a i) where
 mem:=by simp
 obj:=λi h st b hb=>by
  have e:b=it:=by simpa using hb
  subst e
  obtain ⟨o,e,c,d⟩:=st
  exact ⟨o,e,λv z=>by rw [d] at z; cases z⟩
 keep:=λi h h' st k=>st.at λo e=>k it (by simp) o e
 item:=by
  intro X hP hw hK hc i pins s σ H E I hf st hg
  subst hP hw hK
  obtain ⟨xs,x,hq,hx⟩:=hg
  obtain ⟨its,rv,p,hz⟩:=I.list hq
  obtain ⟨u,hu,ru⟩:=rv.get hx
  obtain ⟨f0,f1,f2,f3,f4,f5⟩:=hf it (by simp)
  refine wpAny_pyNext_list_item st p.isList (x:=u) (by simpa using hu) λh' st' sb=>?_
  have I1:Inv X pins σ H { s with heap:=h' }:=I.turned (t':=s.toks) (λb o hb e=>(sb.2 b hb).trans e) f0 f1 f3 f4 f5
  obtain ⟨o,e,c,d⟩:=id st'
  exact ⟨u,rfl,kx (s:={ s with heap:=h' }) e c d (by decide) ⟨x,H,I1,ru,⟨rfl,λys hy=>by rw [I.list_inj hy hq]; exact hx⟩,st',λb hb=>(hf b hb).1⟩⟩
 done:=by
  intro X hP hw hK hc i pins s σ H E I hf st hg
  subst hP hw hK
  obtain ⟨xs,hq,hx⟩:=hg
  obtain ⟨its,rv,p,hz⟩:=I.list hq
  obtain ⟨f0,f1,f2,f3,f4,f5⟩:=hf it (by simp)
  have hl:=rv.length
  exact wpAny_pyNext_list_end (I.ok.hd hc) st p.isList (by simp; omega) λh' eb=>⟨rfl,I.turned (t':=s.toks) (λb o hb e=>eb b o hb e) f0 f1 f3 f4 f5⟩
 self:=λ_ _ _ _ _ st h=>wpAny_pyIter_listiter st h
theorem mY {P:Program} {w:World} {K:PySem.W.Frag} {tg:Expr} (a it:Addr):Turn P w K tg (Itt K a) [it] it (λi h=>h.IsTupleIter it a i) where
 mem:=by simp
 obj:=λi h st b hb=>by
  have e:b=it:=by simpa using hb
  subst e
  obtain ⟨o,e,c,d⟩:=st
  exact ⟨o,e,λv z=>by rw [d] at z; cases z⟩
 keep:=λi h h' st k=>st.at λo e=>k it (by simp) o e
 item:=by
  intro X hP hw hK hc i pins s σ H E I hf st hg
  subst hP hw hK
  obtain ⟨xs,x,hq,hx⟩:=hg
  obtain ⟨its,rv,p,hz⟩:=I.tuple hq
  obtain ⟨u,hu,ru⟩:=rv.get hx
  obtain ⟨f0,f1,f2,f3,f4,f5⟩:=hf it (by simp)
  refine wpAny_pyNext_tuple_item st (show s.heap.IsTuple a its.toArray from p) (x:=u) (by simpa using hu) λh' st' sb=>?_
  have I1:Inv X pins σ H { s with heap:=h' }:=I.turned (t':=s.toks) (λb o hb e=>(sb.2 b hb).trans e) f0 f1 f3 f4 f5
  obtain ⟨o,e,c,d⟩:=id st'
  exact ⟨u,rfl,kx (s:={ s with heap:=h' }) e c d (by decide) ⟨x,H,I1,ru,⟨rfl,λys hy=>by rw [I.tuple_inj hy hq]; exact hx⟩,st',λb hb=>(hf b hb).1⟩⟩
 done:=by
  intro X hP hw hK hc i pins s σ H E I hf st hg
  subst hP hw hK
  obtain ⟨xs,hq,hx⟩:=hg
  obtain ⟨its,rv,p,hz⟩:=I.tuple hq
  obtain ⟨f0,f1,f2,f3,f4,f5⟩:=hf it (by simp)
  have hl:=rv.length
  exact wpAny_pyNext_tuple_end (I.ok.hd hc) st (show s.heap.IsTuple a its.toArray from p) (by simp; omega) λh' eb=>⟨rfl,I.turned (t':=s.toks) (λb o hb e=>eb b o hb e) f0 f1 f3 f4 f5⟩
 self:=λ_ _ _ _ _ st h=>wpAny_pyIter_tupleiter st h
theorem mZ {P:Program} {w:World} {K:PySem.W.Frag} {tg:Expr} (it:Addr) (lo:Int) (n:Nat):Turn P w K tg (Itr lo n) [it] it (λi h=>IsRangeIter h it (lo+(i:Nat) * 1) ((n:Int) - (i:Nat)) 1) where
 mem:=by simp
 obj:=λi h st b hb=>by
  have e:b=it:=by simpa using hb
  subst e
  exact ⟨_,st,λv z=>by
   have z':Data.fields _=Data.cell v:=z
   cases z'⟩
 keep:=λi h h' st k=>k it (by simp) _ st
 item:=by
  intro X hP hw hK hc i pins s σ H E I hf st hg
  subst hP hw hK
  obtain ⟨f0,f1,f2,f3,f4,f5⟩:=hf it (by simp)
  have W:=Walks.range (prog:=X.prog) (w:=X.w) (I.ok.hd hc) it lo 1 n
  refine W.item i s _ _ hg st λv h' tk hv st' kk=>?_
  obtain ⟨t,rfl⟩:=hv
  have I1:Inv X pins σ H { s with heap:=h',toks:=tk }:=I.turned (λb o hb e=>kk b o (by simpa using hb) e) f0 f1 f3 f4 f5
  refine ⟨_,rfl,kx (s:={ s with heap:=h',toks:=tk }) (n:="range_iterator") st' rfl rfl (by decide) ⟨.int (lo+i),H,I1,⟨t,?_⟩,⟨rfl,rfl⟩,st',λb hb=>(hf b hb).1⟩⟩
  rw [Int.mul_one]
 done:=by
  intro X hP hw hK hc i pins s σ H E I hf st hg
  subst hP hw hK
  obtain ⟨f0,f1,f2,f3,f4,f5⟩:=hf it (by simp)
  exact wpAny_pyNext_range_end (I.ok.hd hc) st (by have:n≤i:=hg; omega) λh' eb=>⟨rfl,I.turned (t':=s.toks) (λb o hb e=>eb b o hb e) f0 f1 f3 f4 f5⟩
 self:=λ_ _ _ _ _ st h=>wpAny_pyIter_rangeiter st h
section
variable {X:Cx} {tg:Expr}
noncomputable def xJ (K:PySem.W.Frag) (tl:TE):TI:=λσ H R=>tl σ H λx H1=>∃ a,x = .ref a∧(∃ xs,SqL K H1 a xs)∧R (Itl K a) H1
noncomputable def yE (K:PySem.W.Frag) (tl:TE):TI:=λσ H R=>tl σ H λx H1=>∃ a,x = .ref a∧(∃ xs,SqT K H1 a xs)∧R (Itt K a) H1
theorem dg {l:Expr} {tl:TE} (hl:PE X l tl):PI X tg l (xJ X.K tl):=by
 intro pins s σ H R I h
 refine thn (hl pins s σ H _ I h) λv s1 hpt=>?_
 obtain ⟨x,H1,I1,r1,q1⟩:=hpt
 obtain ⟨a,e,⟨xs,hq⟩,q⟩:=q1
 subst e
 cases r1
 obtain ⟨its,rv,p,hz⟩:=I1.list hq
 refine wpAny_pyIter_list p.isList ?_
 refine ⟨s1.heap.objs.size,[s1.heap.objs.size],_,_,H1,rfl,I1.kept (t':=s1.toks) λb o e=>Heap.get?_push_of_some _ e,pC a _,⟨_,Heap.get?_push_size _ rfl,rfl,rfl⟩,λb hb=>?_,q⟩
 have e:b=s1.heap.objs.size:=by simpa using hb
 subst e
 exact I1.fpOk (Nat.le_refl _) (I1.hok.fresh (Nat.le_refl _))
theorem dZ {l:Expr} {tl:TE} (hl:PE X l tl):PI X tg l (yE X.K tl):=by
 intro pins s σ H R I h
 refine thn (hl pins s σ H _ I h) λv s1 hpt=>?_
 obtain ⟨x,H1,I1,r1,q1⟩:=hpt
 obtain ⟨a,e,⟨xs,hq⟩,q⟩:=q1
 subst e
 cases r1
 obtain ⟨its,rv,p,hz⟩:=I1.tuple hq
 refine wpAny_pyIter_tuple (show s1.heap.IsTuple a its.toArray from p) ?_
 refine ⟨s1.heap.objs.size,[s1.heap.objs.size],_,_,H1,rfl,I1.kept (t':=s1.toks) λb o e=>Heap.get?_push_of_some _ e,mY a _,⟨_,Heap.get?_push_size _ rfl,rfl,rfl⟩,λb hb=>?_,q⟩
 have e:b=s1.heap.objs.size:=by simpa using hb
 subst e
 exact I1.fpOk (Nat.le_refl _) (I1.hok.fresh (Nat.le_refl _))
theorem qH {pins:List (Addr×Obj)} {σ:St} {H:Hp} {s:Shared} {R:It→Hp→Prop} {E:Value→Shared→Prop} {lo hi:Int} {t u v:Tok} {tk:Nat} (I:Inv X pins σ H s) (h1:-(2 ^ 62)≤lo) (h2:lo<2 ^ 62) (h3:-(2 ^ 62)≤hi) (h4:hi<2 ^ 62)
  (q:R (Itr lo (hi - lo).toNat) H):wpAny (model X.prog X.w) X.A (pyIter (.ref s.heap.objs.size)) (PIE X pins σ tg R) E { s with heap:=s.heap.push { cls:=.type "range",data:=.fields #[.int lo t,.int hi u,.int 1 v] },toks:=tk }:=by
 refine wpAny_pyIter_range (IsRange.new ..) (small_one h1 h2 h3 h4) ?_
 have I1:Inv X pins σ H { s with heap:=s.heap.push { cls:=.type "range",data:=.fields #[.int lo t,.int hi u,.int 1 v] },toks:=tk }:=I.kept λb o e=>Heap.get?_push_of_some _ e
 refine ⟨(s.heap.push { cls:=.type "range",data:=.fields #[.int lo t,.int hi u,.int 1 v] }).objs.size,[(s.heap.push { cls:=.type "range",data:=.fields #[.int lo t,.int hi u,.int 1 v] }).objs.size],_,_,H,rfl,
  I1.kept (t':=tk) λb o e=>Heap.get?_push_of_some _ e,mZ _ lo (hi - lo).toNat,?_,λb hb=>?_,q⟩
 ·have e1:lo+((0:Nat):Int) * 1=lo:=by simp
  have e2:(((hi - lo).toNat:Nat):Int) - ((0:Nat):Int)=Builtin.Range.rangeSize lo hi 1:=by rw [rangeSize_one]; split <;> omega
  show IsRangeIter _ _ (lo+((0:Nat):Int) * 1) ((((hi - lo).toNat:Nat):Int) - ((0:Nat):Int)) 1
  rw [e1,e2]
  exact Heap.get?_push_size _ rfl
 ·have e:b=(s.heap.push { cls:=.type "range",data:=.fields #[.int lo t,.int hi u,.int 1 v] }).objs.size:=by simpa using hb
  subst e
  exact I1.fpOk (Nat.le_refl _) (I1.hok.fresh (Nat.le_refl _))
noncomputable def xK (ta:TA):TI:=λσ H R=>ta σ H λvs H1=>∃ j:Int,vs=[.int j]∧-(2 ^ 62)≤j∧j<2 ^ 62∧R (Itr 0 j.toNat) H1
theorem fk {a:Expr} {ta:TA} {p pos:Pos} (hg:Gl X "range") (hm:X.mg "range" = none) (ha:PA X [a] ta) (hs:starEach [a] X.env=[(false,eval a X.env)]:=by rfl):PI X tg (.Call (.Name "range" p) [a] [] pos) (xK ta):=by
 intro pins s σ H R I h
 refine Call_ (dz I hg hm boot_range (PyProof.Rows.callWith_type1 (thn (ha pos pins s σ H _ I h) λus s1 ⟨vs,H1,I1,r1,q1⟩=>?_) hs rfl))
 obtain ⟨j,e,q1,q2,q⟩:=q1
 subst e
 cases r1 with
 | cons r rr =>
  cases rr
  obtain ⟨t,rfl⟩:=r
  exact call_range_1 (qH I1 (by omega) (by omega) q1 q2 (by simpa using q))
noncomputable def yF (wi:TI) (g:TG) (tb:TS):TS:=λD σ H=>wi σ H λJ H1=>∃ W:Nat→Nat→St→Hp→Prop,(∃ m,W 0 m σ H1)∧∀ i m σ H,W i m σ H →
 (J.stop i H∧D.nx σ H)∨(J.go i H∧∃ N:St→Hp→Prop,(∀ σ' H',N σ' H'→∃ m',m'<m∧W (i+1) m' σ' H')∧∀ x H',J.yld i H x H'→g x σ H' λσ2 H2=>tb { D with nx:=N,ct:=N,bk:=D.nx } σ2 H2)
noncomputable def jy (fp:List Addr) (h:Heap):List (Addr×Obj):=fp.filterMap λb=>(h.get? b).map λo=>(b,o)
theorem cb {fp:List Addr} {h:Heap} {b:Addr} {o:Obj} (hb:b∈fp) (e:h.get? b=some o):(b,o)∈jy fp h:=List.mem_filterMap.mpr ⟨b,hb,by rw [e]; rfl⟩
theorem pD {fp:List Addr} {h:Heap} {p:Addr×Obj} (hp:p∈jy fp h):p.1∈fp∧h.get? p.1=some p.2:=by
 obtain ⟨b,hb,e⟩:=List.mem_filterMap.mp hp
 cases q:h.get? b with
 | none=>rw [q] at e; cases e
 | some o =>
  rw [q] at e
  have e':(b,o)=p:=Option.some.inj e
  subst e'
  exact ⟨hb,q⟩
theorem Inv.pinned {pins:List (Addr×Obj)} {σ:St} {H:Hp} {s:Shared} {fp:List Addr} (I:Inv X pins σ H s) (hf:∀ b∈fp,gB X pins H b) (ho:∀ b∈fp,∃ o,s.heap.get? b=some o∧∀ v,o.data ≠ .cell v):Inv X (pins++jy fp s.heap) σ H s :=
 I.pins_of λp hp=>(List.mem_append.mp hp).elim (λz=>I.pin p (List.mem_append_right _ z)) λz=>by
  obtain ⟨hb,e⟩:=pD z
  obtain ⟨f0,f1,f2,_⟩:=hf p.1 hb
  obtain ⟨o,e',d⟩:=ho p.1 hb
  rw [e] at e'; cases e'
  exact ⟨e,f0,f1,f2,d⟩
theorem Inv.unpinned {pins pl:List (Addr×Obj)} {σ:St} {H:Hp} {s:Shared} (I:Inv X (pins++pl) σ H s):Inv X pins σ H s:=I.pins_of λp hp=>I.pin p (List.mem_append_right _ (List.mem_append_left _ hp))
theorem dA {iter:Expr} {body:List Stmt} {wi:TI} {g:TG} {tb:TS} {pos:Pos} (hp:PassesOwn (model X.prog X.w) X.A X.env X.xe) (hc:X.calm=true) (hi:PI X tg iter wi) (hg:PG X tg g) (hb:PSs X body tb)
  (hs:∀ x,foldedSetIterable iter X.env x=pure x:=by intro _; rfl):PS X (.For tg iter body [] pos) (yF wi g tb):=by
 intro pins s σ H D I h
 refine wpAny_For (thn (hi pins s σ H _ I h) λv s1 h1=>thn h1 λitv s2 h2=>?_) hs
 obtain ⟨it,fp,tn,J,H2,e,I2,T,st2,f2,W,⟨m0,w0⟩,turn⟩:=h2
 subst e
 have stat:∀ {H':Hp},(∀ b∈fp,H' b=none)→∀ b∈fp,gB X pins H' b:=λhn b hb=>⟨hn b hb,(f2 b hb).2⟩
 refine codeAny_forLoop_any (λn s'=>∃ i σ' H',Inv X pins σ' H' s'∧tn i s'.heap∧(∀ b∈fp,H' b=none)∧W i n σ' H') ?_ m0 ⟨0,σ,H2,I2,st2,λb hb=>(f2 b hb).1,w0⟩
 rintro n s3 ⟨i,σ3,H3,I3,st3,fr3,w3⟩
 rcases turn i n σ3 H3 w3 with ⟨stop,qn⟩ | ⟨go,N,hN,step⟩
 ·refine wpAny_passesOwn hp (thn (T.done X rfl rfl rfl hc i pins s3 σ3 H3 X.xe I3 (stat fr3) st3 stop) λr s4 hpt=>?_)
  obtain ⟨hr,I4⟩:=hpt
  subst hr
  exact wpAny_execs_nil ⟨σ3,H3,I4,qn⟩
 ·refine wpAny_passesOwn hp (thn (T.item X rfl rfl rfl hc i pins s3 σ3 H3 X.xe I3 (stat fr3) st3 go) λr s4 hpt=>?_)
  obtain ⟨u,hr,h4⟩:=hpt
  subst hr
  refine wpAny_passesOwn hp (thn h4 λ_ s5 hpt=>?_)
  obtain ⟨x,H5,I5,r5,y5,st5,fr5⟩:=hpt
  have I5':=I5.pinned (stat fr5) (T.obj _ _ st5)
  refine wpAny_passesOwn hp (thn (hg _ s5 σ3 H5 x u _ I5' r5 (step x H5 y5)) λ_ s6 hpt=>?_)
  obtain ⟨σ6,H6,I6,q6⟩:=hpt
  refine wpAny_passesOwn hp (thn (hb _ s6 σ6 H6 _ I6 q6) λf s7 q7=>?_)
  have again:∀ {σ7:St} {H7:Hp},Inv X (pins++jy fp s5.heap) σ7 H7 s7→N σ7 H7→∃ m,m<n∧∃ i σ' H',Inv X pins σ' H' s7∧tn i s7.heap∧(∀ b∈fp,H' b=none)∧W i m σ' H':=λ{σ7 H7} I7 n7=>by
   obtain ⟨m',hm,w7⟩:=hN σ7 H7 n7
   refine ⟨m',hm,i+1,σ7,H7,I7.unpinned,T.keep _ _ _ st5 λb hb o e=>(I7.pin (b,o) (List.mem_append_right _ (List.mem_append_right _ (cb hb e)))).1,λb hb=>?_,w7⟩
   obtain ⟨o,e,d⟩:=T.obj _ _ st5 b hb
   exact (I7.pin (b,o) (List.mem_append_right _ (List.mem_append_right _ (cb hb e)))).2.1
  cases f with
  | next=>obtain ⟨σ7,H7,I7,n7⟩:=q7; exact again I7 n7
  | cont=>obtain ⟨σ7,H7,I7,n7⟩:=q7; exact again I7 n7
  | brk=>obtain ⟨σ7,H7,I7,q7⟩:=q7; exact ⟨σ7,H7,I7.unpinned,q7⟩
  | ret v=>obtain ⟨x7,σ7,H7,I7,r7,q7⟩:=q7; exact ⟨x7,σ7,H7,I7.unpinned,r7,q7⟩
end
theorem gR {K:PySem.W.Frag} {a:Addr} {xs:List V} {g:TG} {tb:TS} {D:Ends} {σ:St} {H:Hp} (Pv:Nat→St→Hp→Prop) (h0:Pv 0 σ H) (hl:∀ i σ H,i≤xs.length→Pv i σ H→SqL K H a xs)
  (hs:∀ i x σ H,xs[i]? = some x→Pv i σ H→g x σ H λσ2 H2=>tb { D with nx:=Pv (i+1),ct:=Pv (i+1),bk:=D.nx } σ2 H2) (hd:∀ σ H,Pv xs.length σ H→D.nx σ H) :
  ∃ W:Nat→Nat→St→Hp→Prop,(∃ m,W 0 m σ H)∧∀ i m σ H,W i m σ H →
   ((Itl K a).stop i H∧D.nx σ H)∨((Itl K a).go i H∧∃ N:St→Hp→Prop,(∀ σ' H',N σ' H'→∃ m',m'<m∧W (i+1) m' σ' H')∧∀ x H',(Itl K a).yld i H x H'→g x σ H' λσ2 H2=>tb { D with nx:=N,ct:=N,bk:=D.nx } σ2 H2):=by
 refine ⟨λi m σ H=>m=xs.length - i∧i≤xs.length∧Pv i σ H,⟨xs.length,by simp,Nat.zero_le _,h0⟩,?_⟩
 rintro i m σ H ⟨rfl,hi,p⟩
 have q:=hl i σ H hi p
 by_cases hlt:i<xs.length
 ·refine .inr ⟨⟨xs,xs[i],q,by simp [hlt]⟩,Pv (i+1),λσ' H' p'=>⟨xs.length - (i+1),by omega,rfl,hlt,p'⟩,λx H' y=>?_⟩
  obtain ⟨e,y⟩:=y
  subst e
  exact hs i x σ _ (y xs q) p
 ·have e:i=xs.length:=by omega
  subst e
  exact .inl ⟨⟨xs,q,Nat.le_refl _⟩,hd σ H p⟩
theorem nY {K:PySem.W.Frag} {a:Addr} {xs:List V} {g:TG} {tb:TS} {D:Ends} {σ:St} {H:Hp} (Pv:Nat→St→Hp→Prop) (h0:Pv 0 σ H) (hl:∀ i σ H,i≤xs.length→Pv i σ H→SqT K H a xs)
  (hs:∀ i x σ H,xs[i]? = some x→Pv i σ H→g x σ H λσ2 H2=>tb { D with nx:=Pv (i+1),ct:=Pv (i+1),bk:=D.nx } σ2 H2) (hd:∀ σ H,Pv xs.length σ H→D.nx σ H) :
  ∃ W:Nat→Nat→St→Hp→Prop,(∃ m,W 0 m σ H)∧∀ i m σ H,W i m σ H →
   ((Itt K a).stop i H∧D.nx σ H)∨((Itt K a).go i H∧∃ N:St→Hp→Prop,(∀ σ' H',N σ' H'→∃ m',m'<m∧W (i+1) m' σ' H')∧∀ x H',(Itt K a).yld i H x H'→g x σ H' λσ2 H2=>tb { D with nx:=N,ct:=N,bk:=D.nx } σ2 H2):=by
 refine ⟨λi m σ H=>m=xs.length - i∧i≤xs.length∧Pv i σ H,⟨xs.length,by simp,Nat.zero_le _,h0⟩,?_⟩
 rintro i m σ H ⟨rfl,hi,p⟩
 have q:=hl i σ H hi p
 by_cases hlt:i<xs.length
 ·refine .inr ⟨⟨xs,xs[i],q,by simp [hlt]⟩,Pv (i+1),λσ' H' p'=>⟨xs.length - (i+1),by omega,rfl,hlt,p'⟩,λx H' y=>?_⟩
  obtain ⟨e,y⟩:=y
  subst e
  exact hs i x σ _ (y xs q) p
 ·have e:i=xs.length:=by omega
  subst e
  exact .inl ⟨⟨xs,q,Nat.le_refl _⟩,hd σ H p⟩
theorem fm {lo:Int} {n:Nat} {g:TG} {tb:TS} {D:Ends} {σ:St} {H:Hp} (Pv:Nat→St→Hp→Prop) (h0:Pv 0 σ H)
  (hs:∀ i σ H,i<n→Pv i σ H→g (.int (lo+i)) σ H λσ2 H2=>tb { D with nx:=Pv (i+1),ct:=Pv (i+1),bk:=D.nx } σ2 H2) (hd:∀ σ H,Pv n σ H→D.nx σ H) :
  ∃ W:Nat→Nat→St→Hp→Prop,(∃ m,W 0 m σ H)∧∀ i m σ H,W i m σ H →
   ((Itr lo n).stop i H∧D.nx σ H)∨((Itr lo n).go i H∧∃ N:St→Hp→Prop,(∀ σ' H',N σ' H'→∃ m',m'<m∧W (i+1) m' σ' H')∧∀ x H',(Itr lo n).yld i H x H'→g x σ H' λσ2 H2=>tb { D with nx:=N,ct:=N,bk:=D.nx } σ2 H2):=by
 refine ⟨λi m σ H=>m=n - i∧i≤n∧Pv i σ H,⟨n,by simp,Nat.zero_le _,h0⟩,?_⟩
 rintro i m σ H ⟨rfl,hi,p⟩
 by_cases hlt:i<n
 ·refine .inr ⟨hlt,Pv (i+1),λσ' H' p'=>⟨n - (i+1),by omega,rfl,hlt,p'⟩,λx H' y=>?_⟩
  obtain ⟨e,y⟩:=y
  subst e y
  exact hs i σ _ hlt p
 ·have e:i=n:=by omega
  subst e
  exact .inl ⟨Nat.le_refl _,hd σ H p⟩
theorem gS {c:TT} {tb:TS} {D:Ends} {σ:St} {H:Hp} (Pv:St→Hp→Prop) (μ:St→Hp→Nat) (h0:Pv σ H)
  (hs:∀ σ H,Pv σ H→c σ H λb H1=>if b=true then tb { D with nx:=λσ' H'=>Pv σ' H'∧μ σ' H'<μ σ H,ct:=λσ' H'=>Pv σ' H'∧μ σ' H'<μ σ H,bk:=D.nx } σ H1 else D.nx σ H1)
  (mono:∀ σ H Q Q',(∀ b H1,Q b H1→Q' b H1)→c σ H Q→c σ H Q'):qG c tb D σ H:=by
 refine ⟨λm σ H=>m=μ σ H∧Pv σ H,⟨_,rfl,h0⟩,?_⟩
 rintro m σ H ⟨rfl,p⟩
 refine mono σ H _ _ (λb H1 q=>?_) (hs σ H p)
 cases b with
 | true=>exact ⟨_,λσ' H' ⟨p',l⟩=>⟨_,l,rfl,p'⟩,q⟩
 | false=>exact q
noncomputable abbrev R2:=V→V→Hp→VK→Prop
noncomputable def OpR (X:Cx) (f:Value→Value→Sem Value) (r:R2):Prop :=
 ∀ (pins:List (Addr×Obj)) (s:Shared) (σ:St) (H:Hp) (x y:V) (v u:Value) (Q:VK),Inv X pins σ H s→aA x v→aA y u→r x y H Q →
  wpAny (model X.prog X.w) X.A (f v u) (EP X pins σ Q) X.xe s
noncomputable def UnR (X:Cx) (f:Value→Sem Value) (r:V→Hp→VK→Prop):Prop :=
 ∀ (pins:List (Addr×Obj)) (s:Shared) (σ:St) (H:Hp) (x:V) (v:Value) (Q:VK),Inv X pins σ H s→aA x v→r x H Q →
  wpAny (model X.prog X.w) X.A (f v) (EP X pins σ Q) X.xe s
noncomputable def bG (X:Cx) (f:Value) (r:List V→Hp→VK→Prop):Prop :=
 ∀ (pins:List (Addr×Obj)) (s:Shared) (σ:St) (H:Hp) (xs:List V) (us:List Value) (Q:VK),Inv X pins σ H s→au xs us→r xs H Q →
  wpAny (model X.prog X.w) X.A (call f us) (EP X pins σ Q) X.xe s
noncomputable def yG (X:Cx) (r:V→Hp→(Bool→Hp→Prop)→Prop):Prop :=
 ∀ (pins:List (Addr×Obj)) (s:Shared) (σ:St) (H:Hp) (x:V) (v:Value) (Q:Bool→Hp→Prop),Inv X pins σ H s→aA x v→r x H Q →
  wpAny (model X.prog X.w) X.A (truthy v) (TP X pins σ Q) X.xe s
noncomputable def tOp (r:R2) (ta tb:TE):TE:=λσ H Q=>ta σ H λx H1=>tb σ H1 λy H2=>r x y H2 Q
noncomputable def tUn (r:V→Hp→VK→Prop) (ta:TE):TE:=λσ H Q=>ta σ H λx H1=>r x H1 Q
noncomputable def rI (C:Int→Int→Prop) (g:Int→Int→V):R2:=λx y H Q=>∃ i j,x = .int i∧y = .int j∧C i j∧Q (g i j) H
noncomputable def rI0 (g:Int→Int→V):R2:=λx y H Q=>∃ i j,x = .int i∧y = .int j∧Q (g i j) H
noncomputable def rU (g:Int→V):V→Hp→VK→Prop:=λx H Q=>∃ i,x = .int i∧Q (g i) H
section
variable {X:Cx} {a b c:Expr} {ta tb tc:TE} {pos:Pos}
theorem vF (ha:PE X a ta) (hb:PE X b tb) {pins:List (Addr×Obj)} {s:Shared} {σ:St} {H:Hp} {R:V→V→Hp→Prop} (I:Inv X pins σ H s)
  (h:ta σ H λx H1=>tb σ H1 λy H2=>R x y H2) {Q:Value→Shared→Prop} {f:Value→Value→Sem Value}
  (hf:∀ v u s2 x y H2,Inv X pins σ H2 s2→aA x v→aA y u→R x y H2→wpAny (model X.prog X.w) X.A (f v u) Q X.xe s2) :
  wpAny (model X.prog X.w) X.A (eval a X.env) (λv s₁=>wpAny (model X.prog X.w) X.A (eval b X.env) (λu s₂=>wpAny (model X.prog X.w) X.A (f v u) Q X.xe s₂) X.xe s₁) X.xe s:=by
 refine thn (ha pins s σ H _ I h) λv s1 hpt=>?_
 obtain ⟨x,H1,I1,r1,q1⟩:=hpt
 refine thn (hb pins s1 σ H1 _ I1 q1) λu s2 hpt=>?_
 obtain ⟨y,H2,I2,r2,q2⟩:=hpt
 exact hf v u s2 x y H2 I2 r1 r2 q2
theorem ao {op:Operator} {r:R2} (ho:OpR X (binaryOp op) r) (ha:PE X a ta) (hb:PE X b tb):PE X (.BinOp a op b pos) (tOp r ta tb):=by
 intro pins s σ H Q I h
 exact wpAny_BinOp (vF ha hb I h λv u s2 x y H2 I2 rx ry q=>ho pins s2 σ H2 x y v u Q I2 rx ry q)
theorem qI {op:UnaryOp} {r:V→Hp→VK→Prop} (ho:UnR X (unaryOp op) r) (ha:PE X a ta):PE X (.UnaryOp op a pos) (tUn r ta):=by
 intro pins s σ H Q I h
 exact UnaryOp_ (thn (ha pins s σ H _ I h) λv s1 ⟨x,H1,I1,r1,q1⟩=>ho pins s1 σ H1 x v Q I1 r1 q1)
theorem opI {f:Value→Value→Sem Value} {C:Int→Int→Prop} {g:Int→Int→Int}
  (rule:∀ (i j:Int) (t u:Tok) (s:Shared) (Q:Value→Shared→Prop) (E:Value→Shared→Prop),C i j→Q (.int (g i j) s.toks) { s with toks:=s.toks+1 }→wpAny (model X.prog X.w) X.A (f (.int i t) (.int j u)) Q E s) :
  OpR X f (rI C λi j=>.int (g i j)):=by
 intro pins s σ H x y v u Q I rx ry h
 obtain ⟨i,j,rfl,rfl,hc,q⟩:=h
 obtain ⟨t,rfl⟩:=rx
 obtain ⟨t',rfl⟩:=ry
 exact rule i j t t' s _ _ hc ⟨.int (g i j),H,I.tok _,⟨_,rfl⟩,q⟩
theorem yH {f:Value→Value→Sem Value} {g:Int→Int→Int}
  (rule:∀ (i j:Int) (t u:Tok) (s:Shared) (Q:Value→Shared→Prop) (E:Value→Shared→Prop),Q (.int (g i j) s.toks) { s with toks:=s.toks+1 }→wpAny (model X.prog X.w) X.A (f (.int i t) (.int j u)) Q E s) :
  OpR X f (rI0 λi j=>.int (g i j)):=by
 intro pins s σ H x y v u Q I rx ry h
 obtain ⟨i,j,rfl,rfl,q⟩:=h
 obtain ⟨t,rfl⟩:=rx
 obtain ⟨t',rfl⟩:=ry
 exact rule i j t t' s _ _ ⟨.int (g i j),H,I.tok _,⟨_,rfl⟩,q⟩
theorem vG {f:Value→Value→Sem Value} {g:Int→Int→Bool}
  (rule:∀ (i j:Int) (t u:Tok) (s:Shared) (Q:Value→Shared→Prop) (E:Value→Shared→Prop),Q (.bool (g i j)) s→wpAny (model X.prog X.w) X.A (f (.int i t) (.int j u)) Q E s) :
  OpR X f (rI0 λi j=>.bl (g i j)):=by
 intro pins s σ H x y v u Q I rx ry h
 obtain ⟨i,j,rfl,rfl,q⟩:=h
 obtain ⟨t,rfl⟩:=rx
 obtain ⟨t',rfl⟩:=ry
 exact rule i j t t' s _ _ ⟨.bl (g i j),H,I,rfl,q⟩
noncomputable def yI (i j:Int):Prop:=0<j∧j<1073741824
noncomputable def yJ (i j:Int):Prop:=0≤j∧j≤1000000∧i.natAbs<2 ^ 64
noncomputable def vH (i j:Int):Prop:=(-(2 ^ 64)<i∧i<2 ^ 64)∨(-(2 ^ 64)<j∧j<2 ^ 64)
theorem vH.ok {i j:Int} (h:vH i j):IntMulOk i j:=by
 rcases h with ⟨h1,h2⟩ | ⟨h1,h2⟩
 ·exact .of_left (intBits_le_64 h1 h2)
 ·exact .of_right (intBits_le_64 h1 h2)
theorem bc:OpR X (binaryOp .Add) (rI0 λi j=>.int (i+j)):=yH λ_ _ _ _ _ _ _ q=>add_int q
theorem cI:OpR X (binaryOp .Mult) (rI vH λi j=>.int (i * j)):=opI λ_ _ _ _ _ _ _ hc q=>mul_int q hc.ok
theorem gJ:OpR X (binaryOp .FloorDiv) (rI yI λi j=>.int (i / j)):=opI λi j _ _ _ _ _ hc q=>by
 have h1:(0:Int)<j:=hc.1
 have h2:j<1073741824:=hc.2
 exact floordiv_int (by omega) (by rw [Int.fdiv_eq_ediv_of_nonneg i (by omega)]; exact q) (.inl (PyProof.noPylong_small (by omega)))
theorem dh:OpR X (binaryOp .Mod) (rI (λ_ j=>0<j) λi j=>.int (i % j)):=opI λi j _ _ _ _ _ hc q=>by
 have h1:(0:Int)<j:=hc
 exact mod_int' (by omega) (by rw [Int.fmod_eq_emod_of_nonneg i (by omega)]; exact q)
theorem vI:OpR X (binaryOp .Pow) (rI yJ λi j=>.int (i ^ j.toNat)):=opI λ_ _ _ _ _ _ _ hc q=>pow_int_small hc.1 hc.2.1 hc.2.2 q
theorem unI {f:Value→Sem Value} {g:Int→Int}
  (rule:∀ (i:Int) (t:Tok) (s:Shared) (Q:Value→Shared→Prop) (E:Value→Shared→Prop),Q (.int (g i) s.toks) { s with toks:=s.toks+1 }→wpAny (model X.prog X.w) X.A (f (.int i t)) Q E s) :
  UnR X f (rU λi=>.int (g i)):=by
 intro pins s σ H x v Q I rx h
 obtain ⟨i,rfl,q⟩:=h
 obtain ⟨t,rfl⟩:=rx
 exact rule i t s _ _ ⟨.int (g i),H,I.tok _,⟨_,rfl⟩,q⟩
theorem na:UnR X (unaryOp .USub) (rU λi=>.int (-i)):=unI λ_ _ _ _ _ q=>neg_int q
end
noncomputable def xL:V→V→Bool
 | .non,.non=>true | .non,.int _=>true | .int _,.non=>true | .non,.bl _=>true | .bl _,.non=>true | .non,.str _=>true | .str _,.non=>true
 | .int _,.int _=>true | .bl _,.bl _=>true | .str _,.str _=>true | .byt _,.byt _=>true
 | .int _,.str _=>true | .str _,.int _=>true | .bl _,.str _=>true | .str _,.bl _=>true
 | _,_=>false
noncomputable def rEq:R2:=λx y H Q=>xL x y=true∧Q (.bl (decide (x=y))) H
noncomputable def rNe:R2:=λx y H Q=>xL x y=true∧Q (.bl (!decide (x=y))) H
theorem nZ {i j:Int}:decide (V.int i=V.int j)=(i == j):=by
 rw [Bool.eq_iff_iff]
 simp
theorem qJ {i j:Bool}:decide (V.bl i=V.bl j)=(i == j):=by
 rw [Bool.eq_iff_iff]
 simp
theorem oa {i j:Str}:decide (V.str i=V.str j)=(i == j):=by
 rw [Bool.eq_iff_iff]
 simp
theorem og {i j:Array UInt8}:decide (V.byt i=V.byt j)=(i.toList == j.toList):=by
 rw [Bool.eq_iff_iff]
 cases i
 cases j
 simp
section
variable {X:Cx} {a b c:Expr} {ta tb tc:TE} {pos:Pos}
theorem aJ {pins:List (Addr×Obj)} {σ:St} {H:Hp} {s:Shared} {Q:VK} {k k':Bool} (I:Inv X pins σ H s) (q:Q (.bl k) H) (e:k=k'):EP X pins σ Q (.bool k') s:=by
 subst e
 exact ⟨.bl k,H,I,rfl,q⟩
theorem dQ:OpR X (compareOp .Eq) rEq:=by
 intro pins s σ H x y v u Q I rx ry h
 obtain ⟨hs,q⟩:=h
 cases x with
 | non =>
  cases rx
  cases y with
  | non=>cases ry; exact PySem.EqNone.eq_none_none (aJ I q (by simp))
  | bl j=>cases ry; exact PySem.EqNone.eq_none_bool (aJ I q (by simp))
  | int j=>obtain ⟨t',rfl⟩:=ry; exact PySem.EqNone.eq_none_int (aJ I q (by simp))
  | str j=>obtain ⟨t',rfl⟩:=ry; exact PySem.EqNone.eq_none_str (aJ I q (by simp))
  | _=>exact absurd (show false=true from hs) Bool.false_ne_true
 | bl i =>
  cases rx
  cases y with
  | non=>cases ry; exact PySem.EqNone.eq_bool_none (aJ I q (by simp))
  | bl j=>cases ry; exact eq_bool (aJ I q qJ)
  | str j=>obtain ⟨t',rfl⟩:=ry; exact PySem.EqMixed.eq_bool_str (aJ I q (by simp))
  | _=>exact absurd (show false=true from hs) Bool.false_ne_true
 | int i =>
  obtain ⟨t,rfl⟩:=rx
  cases y with
  | non=>cases ry; exact PySem.EqNone.eq_int_none (aJ I q (by simp))
  | int j=>obtain ⟨t',rfl⟩:=ry; exact eq_int (aJ I q nZ)
  | str j=>obtain ⟨t',rfl⟩:=ry; exact PySem.EqMixed.eq_int_str (aJ I q (by simp))
  | _=>exact absurd (show false=true from hs) Bool.false_ne_true
 | str i =>
  obtain ⟨t,rfl⟩:=rx
  cases y with
  | non=>cases ry; exact PySem.EqNone.eq_str_none (aJ I q (by simp))
  | bl j=>cases ry; exact PySem.EqMixed.eq_str_bool (aJ I q (by simp))
  | int j=>obtain ⟨t',rfl⟩:=ry; exact PySem.EqMixed.eq_str_int (aJ I q (by simp))
  | str j=>obtain ⟨t',rfl⟩:=ry; exact eq_str (aJ I q oa)
  | _=>exact absurd (show false=true from hs) Bool.false_ne_true
 | byt i =>
  obtain ⟨t,rfl⟩:=rx
  cases y with
  | byt j=>obtain ⟨t',rfl⟩:=ry; exact PySem.W.eq_bytes (aJ I q og)
  | _=>exact absurd (show false=true from hs) Bool.false_ne_true
 | _=>cases y <;> exact absurd (show false=true from hs) Bool.false_ne_true
theorem gf:OpR X (compareOp .NotEq) rNe:=by
 intro pins s σ H x y v u Q I rx ry h
 obtain ⟨hs,q⟩:=h
 cases x with
 | non =>
  cases rx
  cases y with
  | non=>cases ry; exact PySem.EqNone.ne_none_none (aJ I q (by simp))
  | bl j=>cases ry; exact PySem.EqNone.ne_none_bool (aJ I q (by simp))
  | int j=>obtain ⟨t',rfl⟩:=ry; exact PySem.EqNone.ne_none_int (aJ I q (by simp))
  | str j=>obtain ⟨t',rfl⟩:=ry; exact PySem.EqNone.ne_none_str (aJ I q (by simp))
  | _=>exact absurd (show false=true from hs) Bool.false_ne_true
 | bl i =>
  cases rx
  cases y with
  | non=>cases ry; exact PySem.EqNone.ne_bool_none (aJ I q (by simp))
  | bl j=>cases ry; exact ne_bool (aJ I q (congrArg not qJ))
  | str j=>obtain ⟨t',rfl⟩:=ry; exact PySem.EqMixed.ne_bool_str (aJ I q (by simp))
  | _=>exact absurd (show false=true from hs) Bool.false_ne_true
 | int i =>
  obtain ⟨t,rfl⟩:=rx
  cases y with
  | non=>cases ry; exact PySem.EqNone.ne_int_none (aJ I q (by simp))
  | int j=>obtain ⟨t',rfl⟩:=ry; exact ne_int (aJ I q (congrArg not nZ))
  | str j=>obtain ⟨t',rfl⟩:=ry; exact PySem.EqMixed.ne_int_str (aJ I q (by simp))
  | _=>exact absurd (show false=true from hs) Bool.false_ne_true
 | str i =>
  obtain ⟨t,rfl⟩:=rx
  cases y with
  | non=>cases ry; exact PySem.EqNone.ne_str_none (aJ I q (by simp))
  | bl j=>cases ry; exact PySem.EqMixed.ne_str_bool (aJ I q (by simp))
  | int j=>obtain ⟨t',rfl⟩:=ry; exact PySem.EqMixed.ne_str_int (aJ I q (by simp))
  | str j=>obtain ⟨t',rfl⟩:=ry; exact ne_str (aJ I q (congrArg not oa))
  | _=>exact absurd (show false=true from hs) Bool.false_ne_true
 | byt i =>
  obtain ⟨t,rfl⟩:=rx
  cases y with
  | byt j=>obtain ⟨t',rfl⟩:=ry; exact PySem.W.ne_bytes (aJ I q (congrArg not og))
  | _=>exact absurd (show false=true from hs) Bool.false_ne_true
 | _=>cases y <;> exact absurd (show false=true from hs) Bool.false_ne_true
theorem ky:OpR X (compareOp .Lt) (rI0 λi j=>.bl (decide (i<j))):=vG λ_ _ _ _ _ _ _ q=>lt_int q
theorem iS:OpR X (compareOp .LtE) (rI0 λi j=>.bl (decide (i≤j))):=vG λ_ _ _ _ _ _ _ q=>le_int q
theorem xM:OpR X (compareOp .Gt) (rI0 λi j=>.bl (decide (j<i))):=vG λ_ _ _ _ _ _ _ q=>gt_int q
theorem iT:OpR X (compareOp .In) (λx y H Q=>∃ i j,x = .str i∧y = .str j∧Q (.bl (!(Builtin.Str.occurrences j i 0 j.length 1).isEmpty)) H):=by
 intro pins s σ H x y v u Q I rx ry h
 obtain ⟨i,j,rfl,rfl,q⟩:=h
 obtain ⟨t,rfl⟩:=rx
 obtain ⟨t',rfl⟩:=ry
 exact in_str (aJ I q rfl)
theorem fo:OpR X (compareOp .Is) (λx y H Q=>y = .non∧Q (.bl (decide (x = .non))) H):=by
 intro pins s σ H x y v u Q I rx ry h
 obtain ⟨rfl,q⟩:=h
 cases ry
 refine is_none_gen (aJ I q ?_)
 cases x <;> first
  | (cases rx; rfl)
  | (obtain ⟨t,rfl⟩:=rx; rfl)
theorem aG (b:Expr) {op:CmpOp} (h:op ≠ .In:=by decide) (h2:op ≠ .NotIn:=by decide):behindInMarks op b=false:=by
 have e1:(op == CmpOp.In)=false:=by cases op <;> first | rfl | exact absurd rfl h
 have e2:(op == CmpOp.NotIn)=false:=by cases op <;> first | rfl | exact absurd rfl h2
 cases b <;> simp [behindInMarks,e1,e2]
theorem cq {op:CmpOp} {r:R2} (ho:OpR X (compareOp op) r) (ha:PE X a ta) (hb:PE X b tb) (hm:behindInMarks op b=false):PE X (.Compare a [op] [b] pos) (tOp r ta tb):=by
 intro pins s σ H Q I h
 exact wpAny_Compare1 (vF ha hb I h λv u s2 x y H2 I2 rx ry q=>ho pins s2 σ H2 x y v u Q I2 rx ry q) hm
noncomputable def vd (t:TE):TT:=λσ H Q=>t σ H λx H'=>∃ k,x = .bl k∧Q k H'
theorem aE {op:CmpOp} {r:R2} (ho:OpR X (compareOp op) r) (ha:PE X a ta) (hb:PE X b tb) (hm:behindInMarks op b=false):PT X (.Compare a [op] [b] pos) (vd (tOp r ta tb)):=by
 intro pins s σ H Q I h
 refine wpAny_isTrue_Compare1 (thn (ha pins s σ H _ I h) λv s1 ⟨x,H1,I1,r1,q1⟩=>thn (hb pins s1 σ H1 _ I1 q1) λu s2 ⟨y,H2,I2,r2,q2⟩ =>
  thn (ho pins s2 σ H2 x y v u _ I2 r1 r2 q2) λc s3 ⟨z,H3,I3,r3,k,e,q3⟩=>?_) hm
 subst e
 cases r3
 exact wpAny_truthy_bool ⟨H3,I3,q3⟩
noncomputable def qK (r r':R2) (ta tb tc:TE):TE:=λσ H Q=>ta σ H λx H1=>tb σ H1 λy H2=>r x y H2 λz H3=>∃ k,z = .bl k ∧
 (if k=true then tc σ H3 λw' H4=>r' y w' H4 Q else Q (.bl false) H3)
theorem qL {op op':CmpOp} {r r':R2} (ho:OpR X (compareOp op) r) (ho':OpR X (compareOp op') r') (ha:PE X a ta) (hb:PE X b tb) (hc:PE X c tc)
  (hm:lastMarks [op,op'] [b,c]=false:=by with_unfolding_all rfl):PE X (.Compare a [op,op'] [b,c] pos) (qK r r' ta tb tc):=by
 intro pins s σ H Q I h
 refine Compare_chain (thn (ha pins s σ H _ I h) λv s1 ⟨x,H1,I1,r1,q1⟩=>chain_link (thn (hb pins s1 σ H1 _ I1 q1) λu s2 ⟨y,H2,I2,r2,q2⟩ =>
  thn (ho pins s2 σ H2 x y v u _ I2 r1 r2 q2) λd s3 ⟨z,H3,I3,r3,k,e,q3⟩=>?_)) hm
 subst e
 cases r3
 refine wpAny_truthy_bool ?_
 cases k with
 | false=>exact ite_ff ⟨.bl false,H3,I3,rfl,q3⟩
 | true=>exact ite_tt (chain_last (thn (hc pins s3 σ H3 _ I3 q3) λw' s4 ⟨z',H4,I4,r4,q4⟩=>ho' pins s4 σ H4 y z' u w' Q I4 r2 r4 q4))
theorem kD {op op':CmpOp} {r r':R2} (ho:OpR X (compareOp op) r) (ho':OpR X (compareOp op') r') (ha:PE X a ta) (hb:PE X b tb) (hc:PE X c tc)
  (hm:lastMarks [op,op'] [b,c]=false:=by with_unfolding_all rfl):PT X (.Compare a [op,op'] [b,c] pos) (vd (qK r r' ta tb tc)):=by
 intro pins s σ H Q I h
 refine isTrue_chain (thn (ha pins s σ H _ I h) λv s1 ⟨x,H1,I1,r1,q1⟩=>test_link (thn (hb pins s1 σ H1 _ I1 q1) λu s2 ⟨y,H2,I2,r2,q2⟩ =>
  thn (ho pins s2 σ H2 x y v u _ I2 r1 r2 q2) λd s3 ⟨z,H3,I3,r3,k,e,q3⟩=>?_)) hm
 subst e
 cases r3
 refine wpAny_truthy_bool ?_
 cases k with
 | false =>
  obtain ⟨k',e',q'⟩:=q3
  cases e'
  exact ite_ff ⟨H3,I3,q'⟩
 | true =>
  refine ite_tt (test_last (thn (hc pins s3 σ H3 _ I3 q3) λw' s4 ⟨z',H4,I4,r4,q4⟩=>thn (ho' pins s4 σ H4 y z' u w' _ I4 r2 r4 q4) λd' s5 hpt=>?_))
  obtain ⟨z2,H5,I5,r5,k2,e2,q5⟩:=hpt
  subst e2
  cases r5
  exact wpAny_truthy_bool ⟨H5,I5,q5⟩
noncomputable def xN (K:PySem.W.Frag) (x:V) (H:Hp) (k:Bool):Prop :=
 match x with
 | .non=>k=false
 | .bl b=>k=b
 | .int i=>k=(i != 0)
 | .str y=>y.length≤sizeLine∧k=((y.length:Int) != 0)
 | .byt y=>y.size≤sizeLine∧k=((y.size:Int) != 0)
 | .ref p=>(∃ xs,SqL K H p xs∧k = !xs.isEmpty)∨(∃ xs,SqT K H p xs∧k = !xs.isEmpty)∨∃ kvs,H p=some (.dK kvs)∧k = !kvs.isEmpty
 | _=>False
theorem nc {κ:Type} {kvs:List (κ×V)} {vs:List (κ×Value)} (r:KV kvs vs):(!vs.isEmpty) = !kvs.isEmpty:=by
 cases r <;> rfl
theorem gT {xs:List V} {its:List Value} (r:au xs its):(!its.toArray.isEmpty) = !xs.isEmpty:=by
 cases r <;> simp
theorem fq:(sizeLine:Nat)<2 ^ 63:=by rw [sizeLine_eq]; decide
theorem vJ:yG X (λx H Q=>∃ k,xN X.K x H k∧Q k H):=by
 intro pins s σ H x v Q I rx h
 obtain ⟨k,e,q⟩:=h
 have hl:=fq
 have hs:sizeLine=16777216:=sizeLine_eq
 cases x with
 | non =>
  cases rx
  have e':k=false:=e
  subst e'
  exact truthy_none ⟨H,I,q⟩
 | bl b =>
  cases rx
  have e':k=b:=e
  subst e'
  exact wpAny_truthy_bool ⟨H,I,q⟩
 | int i =>
  obtain ⟨t,rfl⟩:=rx
  have e':k=(i != 0):=e
  subst e'
  exact PySem.P.truthy_int ⟨H,I,q⟩
 | str y =>
  obtain ⟨t,rfl⟩:=rx
  obtain ⟨hy,e'⟩:y.length≤sizeLine∧k=((y.length:Int) != 0):=e
  subst e'
  exact PySem.P.truthy_str (by omega) ⟨H,I.tok _,q⟩
 | byt y =>
  obtain ⟨t,rfl⟩:=rx
  obtain ⟨hy,e'⟩:y.size≤sizeLine∧k=((y.size:Int) != 0):=e
  subst e'
  exact PySem.W.truthy_bytes (by omega) ⟨H,I.tok _,q⟩
 | ref p =>
  cases rx
  have e':(∃ xs,SqL X.K H p xs∧k = !xs.isEmpty)∨(∃ xs,SqT X.K H p xs∧k = !xs.isEmpty)∨∃ kvs,H p=some (.dK kvs)∧k = !kvs.isEmpty:=e
  rcases e' with ⟨xs,hx,e'⟩ | ⟨xs,hx,e'⟩ | ⟨kvs,hx,e'⟩
  ·subst e'
   obtain ⟨its,r,pl,hz⟩:=I.list hx
   have hlen:=r.length
   exact wpAny_truthy_list pl.isList (by simp only [List.size_toArray]; omega) ⟨H,I.tok _,by rw [gT r]; exact q⟩
  ·subst e'
   obtain ⟨its,r,pl,hz⟩:=I.tuple hx
   have hlen:=r.length
   exact truthy_tuple pl (by simp only [List.size_toArray]; omega) ⟨H,I.tok _,by rw [gT r]; exact q⟩
  ·subst e'
   obtain ⟨hz,hS,vs,r,m⟩:kvs.length≤sizeLine∧(p == sysModules)=false∧∃ vs,KV kvs vs∧s.heap.DictOf (aD X.prog X.w) p vs:=I.hok p _ hx
   have hlen:kvs.length=vs.length:=Paired.length r
   exact wpAny_truthy_dict hS m (by omega) ⟨H,I.tok _,by rw [nc r]; exact q⟩
 | _=>exact (show False from e).elim
theorem qM (ha:PE X a ta) (he:∀ whole,isTrue a X.env whole=(do let v ← whole; standAt a.pos; holding [v] (truthy v))) :
  PT X a (λσ H Q=>ta σ H λx H'=>∃ k,xN X.K x H' k∧Q k H'):=by
 intro pins s σ H Q I h
 exact isTrue_plain (thn (ha pins s σ H _ I h) λv s1 ⟨x,H1,I1,r1,q1⟩=>vJ pins s1 σ H1 x v Q I1 r1 q1) (he _)
theorem ax:OpR X (binaryOp .Add) (λx y H Q=>∃ i j,x = .str i∧y = .str j∧i.length+j.length≤sizeLine∧Q (.str (i++j)) H):=by
 intro pins s σ H x y v u Q I rx ry h
 obtain ⟨i,j,rfl,rfl,hz,q⟩:=h
 obtain ⟨t,rfl⟩:=rx
 obtain ⟨t',rfl⟩:=ry
 exact add_str (λt' tk=>⟨.str (i++j),H,I.tok _,⟨_,rfl⟩,q⟩) hz
theorem cy {x:V} {us:List Value} (r:au [x] us):∃ u,us=[u]∧aA x u:=by
 cases r with
 | cons r1 r2=>cases r2; exact ⟨_,rfl,r1⟩
theorem om {x y:V} {us:List Value} (r:au [x,y] us):∃ u w',us=[u,w']∧aA x u∧aA y w':=by
 cases r with
 | cons r1 r2 =>
  cases r2 with
  | cons r3 r4=>cases r4; exact ⟨_,_,rfl,r1,r3⟩
theorem eM:bG X (.type "str") (λxs H Q=>∃ i,xs=[.int i]∧i.natAbs.log2<1920∧Q (.str (toString i)) H):=by
 intro pins s σ H xs us Q I r h
 obtain ⟨i,rfl,hz,q⟩:=h
 obtain ⟨u,rfl,t,rfl⟩:=cy r
 exact PySem.P.str_of_int hz ⟨.str _,H,I.tok _,⟨_,rfl⟩,q⟩
end
structure ObjM (h:Heap) (x dx C:Addr) (mA:Str→Option Value):Prop where
 obj:h.get? x=some (PySem.W.instObj C dx)
 ns:h.Ns1 dx mA
 ne:dx≠x
theorem pE {h:Heap} {dx:Addr} {mA:Str→Option Value} (n:h.Ns1 dx mA):∃ od,h.get? dx=some od∧∀ name,PySem.W.lookIn name od=some (mA name):=by
 obtain ⟨o,es,ep,ho,hd,hk,_,hm⟩:=n
 refine ⟨o,ho,λname=>?_⟩
 have e:=hm name
 unfold nsFind findBy at e
 rw [← Array.find?_toList] at e
 unfold PySem.W.lookIn
 rw [hd]
 dsimp only
 split
 ·rename_i y q
  rw [q] at e
  exact congrArg some e
 ·rename_i q
  rw [q] at e
  have a:es.toList.any (·.refKey)=false:=by
   rw [List.any_eq_false]
   intro y hy
   obtain ⟨z,t,hkey⟩:=hk y (Array.mem_toList_iff.mp hy)
   simp [DictEntry.refKey,hkey]
  have a':¬ es.toList.any (·.refKey)=true:=by rw [a]; exact Bool.false_ne_true
  rw [if_neg a']
  exact congrArg some e
theorem ObjM.look {h:Heap} {x dx C:Addr} {mA:Str→Option Value} (I:ObjM h x dx C mA):∃ od,PySem.W.InstAt h x (PySem.W.instObj C dx) C (some od)∧∀ name,PySem.W.lookIn name od=some (mA name) :=
 let ⟨od,ho,hl⟩:=pE I.ns
 ⟨od,⟨I.obj,rfl,rfl,ho⟩,hl⟩
section
variable {prog:Program} {w:World} {A:Around} {E:Value→Shared→Prop} {s:Shared} {K:PySem.W.Frag} {x dx C f:Addr} {mA:Str→Option Value} {name:Str} {v:Value}
end
theorem dX.some_of {v:V} {o:Option Value} (r:dX (some v) o):∃ u,o=some u∧aA v u:=by
 cases o with
 | none=>exact (show False from r).elim
 | some u=>exact ⟨u,rfl,r⟩
theorem dX.none_of {o:Option Value} (r:dX none o):o=none:=by
 cases o with
 | none=>rfl
 | some u=>exact (show False from r).elim
section
variable {P:Program} {w:World} {H H':Hp} {h h':Heap} {a C dx:Addr} {fs fs':List (Str×V)}
theorem tH (hok:HOk P w H h) (e:H a=some (.ins C dx fs)):∃ mA,ObjM h a dx C mA∧(∀ f,dX (fs.lookup f) (mA f))∧PySem.Within mA (fs.map (·.1))∧fs.length≤1000∧H dx=some (.own a):=by
 obtain ⟨d,z,ne,ob,mA,n,r,q⟩:=(show ba P w H h a (.ins C dx fs) from hok a _ e)
 exact ⟨mA,⟨ob,n,ne⟩,r,q,z,d⟩
end
structure Cls (K:PySem.W.Frag) (C:Addr):Prop where
 pg:PySem.W.plainGet K C Str.empty=true
 hd:PySem.W.hasDictIn K C=true
 po:PySem.W.plainOver K C=true
 sa:PySem.W.findIn K (.ref C) "__setattr__" = some (some (.builtin "object.__setattr__"))
theorem Cls.get {K:PySem.W.Frag} {C:Addr} (c:Cls K C) (f:Str):PySem.W.plainGet K C f=true:=c.pg
section
variable {X:Cx} {pins:List (Addr×Obj)} {σ:St} {H:Hp} {s:Shared} {a C dx:Addr} {fs:List (Str×V)} {f:Str} {v:V} {A:Around} {E:Value→Shared→Prop}
end
section
variable {X:Cx} {o e value:Expr} {f:Str} {pos pos' tpos:Pos} {ta tv:TE}
end
section
variable {X:Cx} {pins:List (Addr×Obj)} {σ:St} {H:Hp} {s:Shared} {A:Around} {E:Value→Shared→Prop} {Q:Value→Shared→Prop} {c:Value} {b:Bool}
inductive TyOf (K:PySem.W.Frag) (H:Hp):V→Value→Prop where
 | non:TyOf K H .non (.type "NoneType")
 | bl (x:Bool):TyOf K H (.bl x) (.type "bool")
 | int (i:Int):TyOf K H (.int i) (.type "int")
 | str (x:Str):TyOf K H (.str x) (.type "str")
 | flt (x:UInt64):TyOf K H (.flt x) (.type "float")
 | lst {a:Addr} {xs:List V} (e:H a=some (.lst xs)):TyOf K H (.ref a) (.type "list")
 | frz {a:Addr} {o:Obj} {xs:List V} (e:H a=some (.frz o (.lst xs))):TyOf K H (.ref a) (.type "list")
 | tup {a:Addr} {xs:List V} (e:H a=some (.tup xs)):TyOf K H (.ref a) (.type "tuple")
 | dK {a:Addr} {kvs:List (Key×V)} (e:H a=some (.dK kvs)):TyOf K H (.ref a) (.type "dict")
 | dT {a:Addr} {kvs:List (List Key×V)} (e:H a=some (.dT kvs)):TyOf K H (.ref a) (.type "dict")
 | ins {a C dx:Addr} {fs:List (Str×V)} (e:H a=some (.ins C dx fs)) (cl:Cls K C) (ha:PySem.W.findIn K (.ref C) "__class__" = some (some (.builtin "object.__class__")))
   (hn:PySem.W.specialIn K (.builtin "object.__class__") "__get__" = some (some (.builtin "getset_descriptor.__get__"))) (htk:PySem.W.takesIn K (.builtin "object.__class__")=some true)
   (hm:PySem.W.mroIn K C (.type "object")=some true):TyOf K H (.ref a) (.ref C)
theorem pG {x:V} {u t:Value} (I:Inv X pins σ H s) (rx:aA x u) (ty:TyOf X.K H x t) (e:PySem.W.kitOne X.K t c=some b) (h:∀ tk,Q (.bool b) { s with toks:=tk }) :
  wpAny (model X.prog X.w) A (call (.builtin "isinstance") [u,c]) Q E s:=by
 cases ty with
 | non=>cases (show u=Value.none from rx); exact PySem.W.kia_one PySem.W.kitx_none I.kIn True.intro e (λz=>nomatch z) h
 | bl y=>cases (show u=Value.bool y from rx); exact PySem.W.kia_one PySem.W.kitx_bool I.kIn True.intro e (λz=>nomatch z) h
 | int i=>obtain ⟨t,q⟩:=(show ∃ t,u=Value.int i t from rx); cases q; exact PySem.W.kia_one PySem.W.kitx_int I.kIn True.intro e (λz=>nomatch z) h
 | str y=>obtain ⟨t,q⟩:=(show ∃ t,u=Value.str y t from rx); cases q; exact PySem.W.kia_one PySem.W.kitx_str I.kIn True.intro e (λz=>nomatch z) h
 | flt y=>obtain ⟨t,q⟩:=(show ∃ t,u=Value.float y t from rx); cases q; exact PySem.W.kia_one PySem.W.kitx_float I.kIn True.intro e (λz=>nomatch z) h
 | @lst a xs ea =>
  cases (show u=Value.ref a from rx)
  obtain ⟨_,_,n,_,h1⟩:=(show ba X.prog X.w H s.heap a (.lst xs) from I.hok a _ ea)
  exact PySem.W.kia_one PySem.W.kitx_list I.kIn ⟨_,h1,rfl⟩ e (λz=>nomatch z) h
 | @frz a ob xs ea =>
  cases (show u=Value.ref a from rx)
  obtain ⟨_,_,_,n,_,h1⟩:=(show ba X.prog X.w H s.heap a (.frz ob (.lst xs)) from I.hok a _ ea)
  exact PySem.W.kia_one PySem.W.kitx_list I.kIn ⟨_,h1,rfl⟩ e (λz=>nomatch z) h
 | @tup a xs ea =>
  cases (show u=Value.ref a from rx)
  obtain ⟨_,_,_,p⟩:=(show ba X.prog X.w H s.heap a (.tup xs) from I.hok a _ ea)
  obtain ⟨o,h1,h2,_⟩:=p
  exact PySem.W.kia_one PySem.W.kitx_tuple I.kIn ⟨o,h1,h2⟩ e (λz=>nomatch z) h
 | @dK a kvs ea =>
  cases (show u=Value.ref a from rx)
  obtain ⟨_,_,vs,_,p⟩:=(show ba X.prog X.w H s.heap a (.dK kvs) from I.hok a _ ea)
  obtain ⟨o,es,ep,h1,h2,_⟩:=p
  exact PySem.W.kia_one PySem.W.kitx_dict I.kIn ⟨o,h1,h2.1⟩ e (λz=>nomatch z) h
 | @dT a kvs ea =>
  cases (show u=Value.ref a from rx)
  obtain ⟨_,_,xs,_,o,es,ep,h1,h2,_⟩:=(show ba X.prog X.w H s.heap a (.dT kvs) from I.hok a _ ea)
  exact PySem.W.kia_one PySem.W.kitx_dict I.kIn ⟨o,h1,h2.1⟩ e (λz=>nomatch z) h
 | @ins a C dx fs ea cl ha hn htk hm =>
  cases (show u=Value.ref a from rx)
  obtain ⟨mA,O,_⟩:=tH I.hok ea
  obtain ⟨od,J,_⟩:=O.look
  exact PySem.W.kia_one (PySem.W.kitx_own (cl.get _) cl.hd ha hn htk hm) I.kIn J e (λz=>nomatch z) h
end
structure Room (k:Nat) (A:Around):Prop where
 hd:A.handled=none
 dp:A.depth+3 * k+5<recursionLimit
 un:A.units+16 * k+200<cLine
 gd:A.guards=some []
theorem Room.mono {j k:Nat} {A:Around} (r:Room k A) (h:j≤k):Room j A:=⟨r.hd,by have:=r.dp; omega,by have:=r.un; omega,r.gd⟩
theorem Room.deeper {k:Nat} {A:Around} (r:Room (k+1) A) (env:Env):Room k (A.deeper env) :=
 ⟨r.hd,by have:=r.dp; show A.depth+1+3 * k+5<_; omega,by have:=r.un; show A.units+3+16 * k+200<_; omega,r.gd⟩
theorem Room.in1 {k:Nat} {A:Around} (r:Room (k+1) A):Room k A.in1 :=
 ⟨r.hd,by have:=r.dp; show A.depth+3 * k+5<_; omega,by have:=r.un; show A.units+1+16 * k+200<_; omega,r.gd⟩
theorem Room.depth {k:Nat} {A:Around} (r:Room k A):A.depth<recursionLimit:=by have:=r.dp; omega
theorem Room.units {k:Nat} {A:Around} (r:Room k A):A.units+64<cLine:=by have:=r.un; omega
theorem Room.units0 {k:Nat} {A:Around} (r:Room k A):A.units<cLine:=by have:=r.un; omega
noncomputable def pH:TA:=λ_ H Q=>Q [] H
noncomputable def iU (ta:TE) (tr:TA):TA:=λσ H Q=>ta σ H λx H1=>tr σ H1 λxs H2=>Q (x :: xs) H2
section
variable {X:Cx} {e:Expr} {es:List Expr} {te:TE} {t:TA} {pos:Pos}
theorem ae:PA X [] pH:=λ_ _ _ _ H Q I h=>Calls.spliced_nil ⟨[],H,I,.nil,h⟩
theorem aa (ha:PE X e te) (hr:PA X es t) (hs:starEach (e :: es) X.env=(false,eval e X.env) :: starEach es X.env:=by rfl):PA X (e :: es) (iU te t):=by
 intro pos pins s σ H Q I h
 rw [hs]
 show wpAny _ _ (spliced ((false,eval e X.env) :: backTo pos (starEach es X.env))) _ _ s
 refine Calls.spliced_cons (thn (ha pins s σ H _ I h) λu s1 hpt=>?_)
 obtain ⟨x,H1,I1,r1,q1⟩:=hpt
 exact thn (hr pos pins s1 σ H1 _ I1 q1) λus s2 ⟨xs,H2,I2,r2,q2⟩=>⟨x :: xs,H2,I2,.cons r1 r2,q2⟩
noncomputable def yK (t:TA):TE:=λσ H Q=>t σ H λxs H1=>xs.length≤sizeLine∧∀ p,H1 p=none→Q (.ref p) (upd H1 p (.tup xs))
noncomputable def yL (t:TA):TE:=λσ H Q=>t σ H λxs H1=>xs.length≤sizeLine∧∀ p,H1 p=none→Q (.ref p) (upd H1 p (.lst xs))
theorem cz {x1} (h:PA X es t):PE X (.Tuple es x1 pos) (yK t):=by
 intro pins s σ H Q I hq
 refine wpAny_Tuple_spliced (thn (h pos pins s σ H _ I hq) λus s1 ⟨xs,H1,I1,r,z,q⟩=>⟨by rw [← r.length]; exact z,?_⟩)
 have hf:H1 s1.heap.objs.size=none:=I1.hok.fresh (Nat.le_refl _)
 refine ⟨.ref s1.heap.objs.size,upd H1 s1.heap.objs.size (.tup xs),I1.laid (t':=s1.toks) (λb u e=>Heap.get?_push_of_some _ e) (Nat.le_refl _) ?_,rfl,q _ hf⟩
 exact ⟨z,us,r,⟨_,Heap.get?_push_size _ rfl,rfl,_,rfl⟩⟩
theorem bv (h:PA X es t):PE X (.List es pos) (yL t):=by
 intro pins s σ H Q I hq
 refine wpAny_List_spliced (thn (h pos pins s σ H _ I hq) λus s1 ⟨xs,H1,I1,r,z,q⟩=>⟨by rw [← r.length]; exact z,?_⟩)
 have hf:H1 s1.heap.objs.size=none:=I1.hok.fresh (Nat.le_refl _)
 refine ⟨.ref s1.heap.objs.size,upd H1 s1.heap.objs.size (.lst xs),I1.laid (t':=s1.toks) (λb u e=>Heap.get?_push_of_some _ e) (Nat.le_refl _) ?_,rfl,q _ hf⟩
 exact ⟨z,us,0,r,Heap.get?_push_size _ rfl⟩
end
noncomputable abbrev Sp:=List V→Hp→VK→XK→Prop
noncomputable abbrev CXT:=List Env→Hp→Shared→XK→Value→Shared→Prop
structure Env0 (P:Program) (w:World) (K:PySem.W.Frag) (mg:Str→Option Value) (base:Heap) (A:Around) (outer:List Env) (s:Shared) (H:Hp):Prop where
 frames:A.frames=some outer
 mod:Mod K mg base
 bs:∀ b o,base.get? b=some o→s.heap.get? b=some o∧H b=none
 bsz:base.objs.size≤s.heap.objs.size
 funs:s.heap.FunFrames base outer
 frf:∀ b∈frs outer,H b=none
 hok:HOk P w H s.heap
 bare:AllBare s.gens
noncomputable def CE (outer:List Env) (P:Program) (w:World) (H:Hp) (s:Shared) (Q:VK) (u:Value) (s':Shared):Prop :=
 ∃ v H',s'.os=s.os∧AllBare s'.gens∧Un (frs outer) [] H H' s.heap s'.heap∧HOk P w H' s'.heap∧aA v u∧Q v H'
noncomputable def CR (CX:CXT) (outer:List Env) (P:Program) (w:World) (H:Hp) (s:Shared) (Q:VK) (E:XK) (r:Result) (s':Shared):Prop :=
 match r with
 | .ok (.ret u)=>CE outer P w H s Q u s'
 | .ok _=>False
 | .error e=>CX outer H s E e s'
structure FnOk (P:Program) (w:World) (K:PySem.W.Frag) (mg:Str→Option Value) (base:Heap) (CX:CXT) (k:Nat) (f:Addr) (fd:FuncData) (ps:List Str) (sp:Sp):Prop where
 len:∀ vs H Q E,sp vs H Q E→vs.length=ps.length
 run:∀ (A:Around) (outer:List Env) (s:Shared) (H:Hp) (args:Args) (us:List Value) (vs:List V) (Q:VK) (E:XK),Room k A→Env0 P w K mg base A outer s H→BindsTo s fd args (ps.zip us)→au vs us→sp vs H Q E →
  codeAny (model P w) A (.call (.ref f) args) (CR CX outer P w H s Q E) s
theorem Env0.in1 {P:Program} {w:World} {K:PySem.W.Frag} {mg:Str→Option Value} {base:Heap} {A:Around} {outer:List Env} {s:Shared} {H:Hp} (e:Env0 P w K mg base A outer s H) :
  Env0 P w K mg base A.in1 outer s H:=⟨e.frames,e.mod,e.bs,e.bsz,e.funs,e.frf,e.hok,e.bare⟩
section
variable {X:Cx} {pins:List (Addr×Obj)} {σ:St} {H:Hp} {s s':Shared}
theorem Inv.env0 (I:Inv X pins σ H s):Env0 X.prog X.w X.K X.mg X.base X.A X.stack s H :=
 ⟨I.ok.frames,I.ok.mod,I.bs,Nat.le_trans I.ok.bsz I.sz,I.stack,I.stkFree,I.hok,I.bare⟩
theorem Inv.after {Q:VK} {u:Value} (I:Inv X pins σ H s) (h:CE X.stack X.prog X.w H s Q u s'):EP X pins σ Q u s':=by
 obtain ⟨v,H',os,bare,un,hok,r,q⟩:=h
 obtain ⟨hh,g,d,t,os'⟩:=s'
 obtain rfl:os'=s.os:=os
 exact ⟨v,H',I.call (h':=hh) (g':=g) (d':=d) (t':=t) (ch:=[]) un hok bare (λb z=>absurd z (by simp)),r,q⟩
end
noncomputable def vf (sp:Sp) (dvs:List V) (E:XK) (t:TA):TE:=λσ H Q=>t σ H λvs H1=>sp (vs++dvs) H1 Q E
noncomputable def bq (K:PySem.W.Frag) (fd:FuncData) (ps:List Str) (ds:List Value):Prop :=
 ∀ (s:Shared) (us:List Value),K.In s.heap→(us++ds).length=ps.length→BindsTo s fd ⟨us,[]⟩ (ps.zip (us++ds))
theorem bq.all {K:PySem.W.Frag} {fd:FuncData} {ps:List Str} (h:∀ us:List Value,us.length=ps.length→bindArgs fd ⟨us,[]⟩=pure (ps.zip us)):bq K fd ps []:=λs us _ hl=>by
 rw [List.append_nil] at hl ⊢
 exact .of_eq (h us hl)
noncomputable def gU (CX:CXT) (X:Cx) (E:XK):Prop:=∀ (pins:List (Addr×Obj)) (σ:St) (H:Hp) (s:Shared) (e:Value) (s':Shared),Inv X pins σ H s→CX X.stack H s E e s'→X.xe e s'
section
variable {X:Cx} {CX:CXT} {k:Nat} {f C:Addr} {fd:FuncData} {ps:List Str} {sp:Sp} {dvs:List V} {ds:List Value} {E:XK} {x m:Str} {p pos apos:Pos} {e o:Expr} {es:List Expr} {ta:TE} {t:TA}
theorem vK {pins:List (Addr×Obj)} {σ:St} {H:Hp} {s:Shared} {Q:VK} {us:List Value} {vs:List V} (F:FnOk X.prog X.w X.K X.mg X.base CX k f fd ps sp) (hr:Room k X.A) (hb:bq X.K fd ps ds) (hd:au dvs ds) (hx:gU CX X E)
  (I:Inv X pins σ H s) (r:au vs us) (h:sp (vs++dvs) H Q E):wpAny (model X.prog X.w) X.A (call (.ref f) us) (EP X pins σ Q) X.xe s:=by
 have r2:au (vs++dvs) (us++ds):=r.append hd
 have hl:(us++ds).length=ps.length:=by rw [← r2.length]; exact F.len _ _ _ _ h
 refine wpAny_call (codeAny_mono (F.run X.A X.stack s H ⟨us,[]⟩ (us++ds) (vs++dvs) Q E hr I.env0 (hb s us I.kIn hl) r2 h) λr s' hq=>?_)
 cases r with
 | error e=>exact hx pins σ H s e s' I hq
 | ok fl =>
  cases fl with
  | ret u=>exact I.after hq
  | next=>exact False.elim hq
  | brk=>exact False.elim hq
  | cont=>exact False.elim hq
theorem am (F:FnOk X.prog X.w X.K X.mg X.base CX k f fd ps sp) (hr:Room k X.A) (hg:Gl X x) (hm:X.mg x=some (.ref f)) (hk:PySem.W.keepIn X.K (.ref f)=true) (hb:bq X.K fd ps ds) (hd:au dvs ds) (hx:gU CX X E)
  (ha:PA X (e :: es) t) (hdb:(x == ("__debug__":Str))=false:=by decide) (he:starEach (e :: es) X.env=(false,eval e X.env) :: starEach es X.env:=by rfl) (hpl:(backTo pos (starEach es X.env)).any (·.1)=false:=by rfl) :
  PE X (.Call (.Name x p) (e :: es) [] pos) (vf sp dvs E t):=by
 intro pins s σ H Q I h
 refine wpAny_Call_Name_kw (gH I hg hm ?_ hdb)
 refine PySem.W.callWith_K (h₀:=X.base) I.ok.mod.kin hk (thn (ha pos pins s σ H _ I h) λus s1 ⟨vs,H1,I1,r,q⟩=>⟨I1.kIn,?_⟩) he hpl
 exact vK F hr hb hd hx I1 r q
end
section
variable {X:Cx} {CX:CXT} {k:Nat} {f C:Addr} {fd:FuncData} {ps ks:List Str} {sp:Sp} {E:XK} {x m:Str} {p pos apos kpos:Pos} {e o:Expr} {es:List Expr} {kws:List Keyword} {te ta:TE} {t tk:TA} {nm:Option Str}
variable {g:List Value→List Value→List Value} {gV:List V→List V→List V}
end
structure FnScope (N P:List Str) (sc:Scope):Prop where
 kind:sc.kind = .function
 co:sc.isCoroutine=false
 gen:sc.isGenerator=false
 nd:N.Nodup
 pre:N.take P.length=P
 par:∀ x∈P,sc.names.lookup x=some .local∨sc.names.lookup x=some .cell
 nofree:∀ y∈sc.names,y.2 ≠ .free
theorem iV {kindOf:Str→Option NameKind} {x:Str}:∀ {binds:List (Str×Value)} {m:Str→Option Value},(∀ v,(x,v)∉binds)→bindL kindOf binds m x=m x
 | [],_,_=>rfl
 | (n,v) :: r,m,h=>by
  unfold bindL
  rw [iV λw hw=>h w (List.mem_cons_of_mem _ hw)]
  split
  ·have:x≠n:=by rintro rfl; exact h v List.mem_cons_self
   simp [this]
  ·rfl
theorem iW {kindOf:Str→Option NameKind} {x:Str}:∀ {binds:List (Str×Value)} {m:Str→Option Value},(∀ v,(x,v)∉binds)→bindC kindOf binds m x=m x
 | [],_,_=>rfl
 | (n,v) :: r,m,h=>by
  unfold bindC
  rw [iW λw hw=>h w (List.mem_cons_of_mem _ hw)]
  split
  ·rfl
  ·have:x≠n:=by rintro rfl; exact h v List.mem_cons_self
   simp [this]
theorem iX {kindOf:Str→Option NameKind} {x:Str} {v:Value}:∀ {P:List Str} {vs:List Value} {i:Nat} {m:Str→Option Value},P.Nodup→P[i]? = some x→vs[i]? = some v→kindOf x=some .local →
  bindL kindOf (P.zip vs) m x=some v
 | [],_,_,_,_,h,_,_=>by simp at h
 | _ :: _,[],_,_,_,_,h,_=>by simp at h
 | p :: P,w :: vs,0,m,nd,h1,h2,hk=>by
  simp at h1 h2; subst h1; subst h2
  show bindL kindOf ((p,w) :: P.zip vs) m p=_
  unfold bindL
  rw [iV λv hv=>(List.nodup_cons.mp nd).1 (List.of_mem_zip hv).1,if_pos hk]
  simp
 | p :: P,w :: vs,i+1,m,nd,h1,h2,hk=>by
  show bindL kindOf ((p,w) :: P.zip vs) m x=_
  unfold bindL
  exact iX (i:=i) (List.nodup_cons.mp nd).2 (by simpa using h1) (by simpa using h2) hk
theorem iY {kindOf:Str→Option NameKind} {x:Str} {v:Value}:∀ {P:List Str} {vs:List Value} {i:Nat} {m:Str→Option Value},P.Nodup→P[i]? = some x→vs[i]? = some v→kindOf x≠some .local →
  bindC kindOf (P.zip vs) m x=some v
 | [],_,_,_,_,h,_,_=>by simp at h
 | _ :: _,[],_,_,_,_,h,_=>by simp at h
 | p :: P,w :: vs,0,m,nd,h1,h2,hk=>by
  simp at h1 h2; subst h1; subst h2
  show bindC kindOf ((p,w) :: P.zip vs) m p=_
  unfold bindC
  rw [iW λv hv=>(List.nodup_cons.mp nd).1 (List.of_mem_zip hv).1,if_neg hk]
  simp
 | p :: P,w :: vs,i+1,m,nd,h1,h2,hk=>by
  show bindC kindOf ((p,w) :: P.zip vs) m x=_
  unfold bindC
  exact iY (i:=i) (List.nodup_cons.mp nd).2 (by simpa using h1) (by simpa using h2) hk
noncomputable def start (N:List Str) (vs:List V):St:=vs.map some++List.replicate (N.length - vs.length) none
noncomputable def iF (CX:CXT) (P:Program) (w:World) (K:PySem.W.Frag) (mg:Str→Option Value) (base:Heap) (N:List Str) (qual:Str) (scope:Scope) (f:Addr) (cd:Value) (A:Around) (outer:List Env) (s:Shared) (H:Hp) (E:XK):Cx where
 prog:=P
 w:=w
 K:=K
 mg:=mg
 base:=base
 A:=A.deeper (envOfC qual scope s.heap.objs.size f cd)
 N:=N
 s₀:=s
 H₀:=H
 env:=envOfC qual scope s.heap.objs.size f cd
 outer:=outer
 stack:=envOfC qual scope s.heap.objs.size f cd :: outer
 ex:=[]
 calm:=true
 fn:=λ_=>true
 pn:=[]
 xe:=λe s'=>wpAny (model P w) (A.deeper (envOfC qual scope s.heap.objs.size f cd)) (leaving (envOfC qual scope s.heap.objs.size f cd) e) (λ_ s''=>CX outer H s E e s'') (λe' s''=>CX outer H s E e' s'') s'
theorem kE {sc:Scope} {n:Nat} {x:Str} (h:sc.names.lookup x=some .cell):∃ c,(cellsFrom n sc.names []).lookup x=some c:=by
 have q:=PySem.W.cellsFrom_some sc.names n [] (.inl h)
 exact Option.isSome_iff_exists.mp q
theorem pI {CX:CXT} {P:Program} {w:World} {K:PySem.W.Frag} {mg:Str→Option Value} {base:Heap} {N ps:List Str} {qual:Str} {scope:Scope} {f:Addr} {cd:Value} {A:Around} {outer:List Env} {s s1:Shared} {H:Hp} {E:XK} {us:List Value} {vs:List V}
  (S:FnScope N ps scope) (hd:A.handled=none) (e0:Env0 P w K mg base A outer s H) (hl:vs.length=ps.length) (r:au vs us)
  (x:InCallC s s.heap.objs.size (bindL (envOfC qual scope s.heap.objs.size f cd).kindOf (ps.zip us) λ_=>none) (cellsFrom (s.heap.objs.size+1) scope.names []) (bindC (envOfC qual scope s.heap.objs.size f cd).kindOf (ps.zip us) λ_=>none) s1) :
  Inv (iF CX P w K mg base N qual scope f cd A outer s H E) [] (start N vs) H s1:=by
 have hpl:ps.length≤N.length:=by have:=congrArg List.length S.pre; rw [List.length_take] at this; omega
 obtain ⟨h1,tk,rfl,hk⟩:=x.done
 have noA:∀ b:Addr,b∉(iF CX P w K mg base N qual scope f cd A outer s H E).ex:=λb z=>absurd (show b∈([]:List Addr) from z) (by simp)
 refine ⟨⟨e0.mod,S.kind,rfl,rfl,Nat.le_refl _,λy z c h1 h2=>?_,λy hy=>?_,λy c _ h=>?_,λ_=>hd,Around.frames_deeper e0.frames,.inr ⟨rfl,rfl⟩,λb z=>absurd z (noA b),e0.bs,e0.bsz,λb _ _=>noA b,λb z=>absurd z (noA b),e0.funs,e0.frf⟩,
  rfl,e0.bare,Un.kept hk,⟨_,x.toInCall.ns,λi y v h1 h2 h3=>?_⟩,λy c h=>⟨_,x.cell y c h⟩,e0.hok.fresh (Nat.le_refl _),λy c h=>?_,λp hp=>absurd (show p∈([]:List (Addr×Obj)) from hp) (by simp),e0.hok.kept hk,?_⟩
 ·exact name_of_addr x.apart (PySem.mem_of_lookup h1) (PySem.mem_of_lookup h2)
 ·have hy:scope.names.lookup y=some .cell∨scope.names.lookup y=some .free:=hy
  rcases hy with hy | hy
  ·exact kE hy
  ·exact absurd rfl (S.nofree _ (PySem.mem_of_lookup hy))
 ·exact Nat.le_of_lt (x.above y c (PySem.mem_of_lookup h))
 ·have hi:i<vs.length:=by
   unfold start at h2
   by_cases hi:i<vs.length
   ·exact hi
   ·rw [List.getElem?_append_right (by simpa using hi)] at h2
    rw [List.getElem?_replicate] at h2
    split at h2 <;> cases h2
  have ha:vs[i]? = some v:=by
   unfold start at h2
   rw [List.getElem?_append_left (by simpa using hi),List.getElem?_map] at h2
   cases e:vs[i]? with
   | none=>rw [e] at h2; cases h2
   | some a=>rw [e] at h2; cases h2; rfl
  obtain ⟨u,hu,rv⟩:=r.get ha
  have hp:ps[i]? = some y:=by
   rw [← S.pre,List.getElem?_take_of_lt (by omega)]; exact h1
  have ndP:ps.Nodup:=by rw [← S.pre]; exact S.nd.sublist (List.take_sublist _ _)
  refine ⟨u,rv,?_⟩
  rcases S.par y (List.mem_of_getElem? hp) with k | k
  ·exact .inl ⟨k,iX ndP hp hu k⟩
  ·obtain ⟨c,e⟩:=kE (n:=s.heap.objs.size+1) k
   refine .inr ⟨.inl k,c,e,?_⟩
   have q:=x.cell y c e
   rw [iY ndP hp hu (by show scope.names.lookup y≠_; rw [k]; decide)] at q
   exact q
 ·exact e0.hok.fresh (Nat.le_of_lt (x.above y c (PySem.mem_of_lookup h)))
 ·unfold start
  show _=N.length
  rw [List.length_append,List.length_map,List.length_replicate]
  omega
theorem qN {CX:CXT} {P:Program} {w:World} {K:PySem.W.Frag} {mg:Str→Option Value} {base:Heap} {k:Nat} {f:Addr} {name qual:Str} {params:Arguments} {body:List Stmt} {scope:Scope} {dV kV doc pm cdv ct oc:Value} {an od:Option Addr}
  {osl:Array (Option Value)} {N ps:List Str} {sp:Sp} (lk:K.lookup f=some ⟨oc,od,.func (PySem.W.fnOf name qual params body scope dV kV doc pm an cdv ct),osl⟩) (hcd:PySem.W.codeIn K cdv qual=true) (S:FnScope N ps scope)
  (len:∀ vs H Q E,sp vs H Q E→vs.length=ps.length)
  (hbody:∀ (A:Around) (outer:List Env) (s:Shared) (H:Hp) (vs:List V) (Q:VK) (E:XK),Room k (A.deeper (envOfC qual scope s.heap.objs.size f cdv))→sp vs H Q E →
   ∃ t,PSs (iF CX P w K mg base N qual scope f cdv A outer s H E) body t∧t { nx:=λ_ H'=>Q .non H',rt:=Q } (start N vs) H) :
  FnOk P w K mg base CX (k+1) f (PySem.W.fnOf name qual params body scope dV kV doc pm an cdv ct) ps sp:=by
 refine ⟨len,λA outer s H args us vs Q E hr e0 hb r hsp=>?_⟩
 have hl:=len _ _ _ _ hsp
 have KX:K.In s.heap:=e0.mod.kin.keeps λb o e=>(e0.bs b o e).1
 have lim:s.heap.NoLimit:=e0.mod.nolimit.keeps λb o e=>(e0.bs b o e).1
 have hkind:∀ y∈ps.zip us,scope.names.lookup y.1=some .local∨(scope.names.lookup y.1=some .cell∧((cellsFrom (s.heap.objs.size+1) scope.names []).lookup y.1).isSome=true):=λ⟨n,v⟩ hy=>by
  rcases S.par n (List.of_mem_zip hy).1 with q | q
  ·exact .inl q
  ·exact .inr ⟨q,PySem.W.cellsFrom_some _ _ _ (.inl q)⟩
 refine codeAny_call_function hr.depth (KX _ _ lk) rfl S.co S.gen rfl (PySem.W.codeRec_of KX hcd) (hb _ _ _ _ ?_)
 refine wpAny_newFunctionEnv_cells S.kind hkind λenv he s1 x=>?_
 subst he
 refine ⟨lim.keeps x.toInCall.keep,codeAny_func ?_⟩
 obtain ⟨t,ht,hq⟩:=hbody A outer s H vs Q E (hr.deeper _) hsp
 have I:Inv (iF CX P w K mg base N qual scope f cdv A outer s H E) [] (start N vs) H s1:=pI S hr.hd e0 hl r x
 refine wpAny_mono (ht [] s1 (start N vs) H _ I hq) (λfl s' hs=>?_) λe s' hs=>hs
 have fin:∀ {σ':St} {H':Hp} {v:V} {u:Value},Inv (iF CX P w K mg base N qual scope f cdv A outer s H E) [] σ' H' s'→aA v u→Q v H'→CE outer P w H s Q u s' :=
  λ{σ' H' v u} J rv q=>⟨v,H',J.os,J.bare,J.base,J.hok,rv,q⟩
 cases fl with
 | ret u =>
  obtain ⟨v,σ',H',J,rv,q⟩:=hs
  exact fin J rv q
 | next =>
  obtain ⟨σ',H',J,q⟩:=hs
  exact fin (v:=V.non) (u:=Value.none) J rfl q
 | brk =>
  obtain ⟨_,_,_,q⟩:=hs
  exact False.elim q
 | cont =>
  obtain ⟨_,_,_,q⟩:=hs
  exact False.elim q
section
variable {X:Cx} {x:Str} {p pos:Pos} {e:Expr} {es:List Expr} {t:TA} {id T:String} {r:List V→Hp→VK→Prop}
noncomputable def tCB (r:List V→Hp→VK→Prop) (t:TA):TE:=λσ H Q=>t σ H λvs H1=>r vs H1 Q
theorem al (hc:bG X (.builtin id) r) (hg:Gl X x) (hm:X.mg x=none) (hv:bootBuiltins x=some (.builtin id)) (ha:PA X (e :: es) t) (hn:x≠"__name__":=by decide) (hdb:(x == ("__debug__":Str))=false:=by decide)
  (he:starEach (e :: es) X.env=(false,eval e X.env) :: starEach es X.env:=by rfl) (hpl:(backTo pos (starEach es X.env)).any (·.1)=false:=by rfl):PE X (.Call (.Name x p) (e :: es) [] pos) (tCB r t):=by
 intro pins s σ H Q I h
 refine wpAny_Call_Name_kw (dz I hg hm hv ?_ hn hdb)
 exact PyProof.Rows.callWith_builtin1 (thn (ha pos pins s σ H _ I h) λus s1 ⟨vs,H1,I1,r1,q1⟩=>hc pins s1 σ H1 vs us Q I1 r1 q1) he hpl
theorem bo (hc:bG X (.type T) r) (hg:Gl X x) (hm:X.mg x=none) (hv:bootBuiltins x=some (.type T)) (ha:PA X (e :: es) t) (hn:x≠"__name__":=by decide) (hdb:(x == ("__debug__":Str))=false:=by decide)
  (he:starEach (e :: es) X.env=(false,eval e X.env) :: starEach es X.env:=by rfl) (hpl:(backTo pos (starEach es X.env)).any (·.1)=false:=by rfl):PE X (.Call (.Name x p) (e :: es) [] pos) (tCB r t):=by
 intro pins s σ H Q I h
 refine wpAny_Call_Name_kw (dz I hg hm hv ?_ hn hdb)
 exact PyProof.Rows.callWith_type1 (thn (ha pos pins s σ H _ I h) λus s1 ⟨vs,H1,I1,r1,q1⟩=>hc pins s1 σ H1 vs us Q I1 r1 q1) he hpl
end
end L2
namespace HT
open PySem PyProof.Rows
section
open PySem.SeqAt
open PySem.AutoSeq1 (wpAny_loadPart')
open PySem.MeetsSeq PySem.MeetsSeq2 PySem.MeetsSeq3
end
section
variable {prog:Program} {w:World} {A:Around} {E:Value→Shared→Prop} {s:Shared}
noncomputable def sIx (n d:Nat):Option Int→Nat
 | none=>d
 | some v=>if v<0 then (v+(n:Int)).toNat else min v.toNat n
theorem kF (n d:Nat):sIx n d none=d:=rfl
theorem oo (n d k:Nat):sIx n d (some (k:Int))=min k n:=by
 show (if (k:Int)<0 then ((k:Int)+(n:Int)).toNat else min (k:Int).toNat n)=min k n
 rw [if_neg (by omega),Int.toNat_natCast]
theorem vL (n d:Nat) (hd:d≤n) (o:Option Int):sIx n d o≤n:=by
 cases o with
 | none=>exact hd
 | some v =>
  show (if v<0 then (v+(n:Int)).toNat else min v.toNat n)≤n
  by_cases hv:v<0
  ·rw [if_pos hv]; omega
  ·rw [if_neg hv]; exact Nat.min_le_right _ _
theorem oq (v:Int) (n d:Nat):(if v<0 then max (v+(n:Int)) 0 else min v (n:Int))=((sIx n d (some v):Nat):Int):=by
 show (if v<0 then max (v+(n:Int)) 0 else min v (n:Int))=(((if v<0 then (v+(n:Int)).toNat else min v.toNat n):Nat):Int)
 by_cases hv:v<0
 ·simp only [if_pos hv]; omega
 ·simp only [if_neg hv]; omega
theorem nh (lo hi:Option Int) (n:Nat):Builtin.Slice.sliceAdjust lo hi 1 (n:Int)=(((sIx n 0 lo:Nat):Int),((sIx n n hi:Nat):Int)):=by
 have h1:¬ ((1:Int)<0):=by omega
 unfold Builtin.Slice.sliceAdjust
 simp only [h1,if_false]
 refine Prod.ext ?_ ?_
 ·cases lo with
  | none=>rfl
  | some v=>exact oq v n 0
 ·cases hi with
  | none=>rfl
  | some v=>exact oq v n n
theorem nk (i j:Nat):Builtin.Slice.slicePlaces (i:Int) (j:Int) 1=j - i:=by
 unfold Builtin.Slice.slicePlaces
 have h1:(1:Int) > 0:=by omega
 simp only [h1,if_true,Int.ediv_one]
 split <;> omega
theorem gW {v:Value} {o:Option Int} {Q:Option Int→Shared→Prop} (p:IsPart v o) (h:Q o s):wpAny (model prog w) A (Builtin.Slice.slicePartIndex v) Q E s:=by
 cases p with
 | none=>exact slicePart_none h
 | int i t=>exact slicePart_int h
theorem cO {sl:Addr} {vl vu:Value} {lo hi:Option Int} {n:Nat} {Q:Int×Int×Nat→Shared→Prop} (hs:s.heap.IsSliceOf sl vl vu .none) (pl:IsPart vl lo) (pu:IsPart vu hi)
  (h:Q (((sIx n 0 lo:Nat):Int),1,sIx n n hi - sIx n 0 lo) s):wpAny (model prog w) A (Builtin.Slice.sliceApplied (.ref sl) (pure (n:Int))) Q E s:=by
 obtain ⟨os,hos,hcs,hds⟩:=id hs
 unfold Builtin.Slice.sliceApplied Builtin.Slice.sliceFields
 refine wpAny_bind (wpAny_bind (wpAny_field hos hds (x:=vl) rfl (wpAny_bind (wpAny_field hos hds (x:=vu) rfl (wpAny_bind (wpAny_field hos hds (x:=.none) rfl (wpAny_pure ?_)))))))
 refine wpAny_bind (slicePart_none ?_)
 show wpAny _ _ (if ((1:Int) == 0)=true then _ else _) _ _ s
 rw [if_neg (by decide)]
 refine wpAny_bind (gW pl (wpAny_bind (gW pu (wpAny_bind (wpAny_pure ?_)))))
 show wpAny _ _ (match Builtin.Slice.sliceAdjust lo hi 1 (n:Int) with | (lo,hi)=>pure (lo,(1:Int),Builtin.Slice.slicePlaces lo hi 1)) _ _ s
 rw [nh lo hi n]
 show wpAny _ _ (pure (((sIx n 0 lo:Nat):Int),(1:Int),Builtin.Slice.slicePlaces ((sIx n 0 lo:Nat):Int) ((sIx n n hi:Nat):Int) 1)) _ _ s
 rw [nk]
 exact wpAny_pure h
theorem qO (xs:Array Value) (i k:Nat):((List.range k).filterMap λ(m:Nat)=>xs[((i:Int)+(m:Int) * 1).toNat]?).toArray=((xs.toList.drop i).take k).toArray:=by
 have e:(λ(m:Nat)=>xs[((i:Int)+(m:Int) * 1).toNat]?)=λm=>xs[i+m]?:=by
  funext m
  have:((i:Int)+(m:Int) * 1).toNat=i+m:=by omega
  rw [this]
 rw [e]
 have:=pick_run xs i k
 rw [List.filterMap_map] at this
 have e2:((λx=>xs[x]?) ∘ λx=>i+x)=λm=>xs[i+m]?:=rfl
 rw [e2] at this
 rw [this]
theorem eN {t sl:Addr} {items:Array Value} {vl vu:Value} {lo hi:Option Int} {Q:Value→Shared→Prop} (ht:IsTup s.heap t items) (hs:s.heap.IsSliceOf sl vl vu .none) (pl:IsPart vl lo) (pu:IsPart vu hi)
  (hw:¬ (sIx items.size 0 lo=0∧sIx items.size items.size hi=items.size))
  (h:Q (.ref s.heap.objs.size) { s with heap:=s.heap.push { cls:=.type "tuple",data:=.seq ((items.toList.drop (sIx items.size 0 lo)).take (sIx items.size items.size hi - sIx items.size 0 lo)).toArray } })
  (hsz:items.size≤sizeLine):wpAny (model prog w) A (getItem (.ref t) (.ref sl)) Q E s:=by
 have htake:sizeOk (.seq ((items.toList.drop (sIx items.size 0 lo)).take (sIx items.size items.size hi - sIx items.size 0 lo)).toArray):=by
  show ((items.toList.drop (sIx items.size 0 lo)).take (sIx items.size items.size hi - sIx items.size 0 lo)).toArray.size≤sizeLine
  rw [List.size_toArray,List.length_take,List.length_drop,Array.length_toList]
  omega
 have hj:sIx items.size items.size hi≤items.size:=vL _ _ (Nat.le_refl _) hi
 obtain ⟨os,hos,hcs,hds⟩:=id hs
 have hTs:s.TypeIs (.ref sl) "slice":=⟨os,hos,hcs⟩
 unfold getItem
 try with_reducible refine wpAny_holding ?_
 first | refine wpAny_bind (wpAny_pure ?_) | skip
 refine wpAny_bind (wpAny_sequenceKey ht.typeIs (by decide) ?_)
 refine wpAny_bind (wpAny_callSpecial?_slot (name:=Str.ofString "__getitem__") ht.typeIs PyProof.Rows.slot_tuple_getitem
  (wpAny_call_entry PyProof.Rows.slot_tuple_getitem ht.typeIs entry_tuple_getitem ?_ (args_tuple_getitem _ _)))
 show wpAny _ _ (Builtin.Tuple.tupleItemsOf (.ref t) >>= _) _ _ s
 refine wpAny_bind (tupleItemsOf_ ht ?_)
 refine wpAny_bind (wpAny_typeOf hTs ?_)
 rw [if_pos (by decide)]
 refine wpAny_bind (cO hs pl pu ?_)
 have hno:¬ ((((sIx items.size 0 lo:Nat):Int) == 0 && (1:Int) == 1 && (sIx items.size items.size hi - sIx items.size 0 lo) == items.size)=true):=by
  intro q
  rw [Bool.and_eq_true,Bool.and_eq_true] at q
  have q1:((sIx items.size 0 lo:Nat):Int)=0:=eq_of_beq q.1.1
  have q2:sIx items.size items.size hi - sIx items.size 0 lo=items.size:=eq_of_beq q.2
  exact hw ⟨by omega,by omega⟩
 show wpAny _ _ (if (((sIx items.size 0 lo:Nat):Int) == 0 && (1:Int) == 1 && (sIx items.size items.size hi - sIx items.size 0 lo) == items.size)=true then _ else _) _ _ s
 rw [if_neg hno,qO]
 first
  | exact wpAny_bind (m:=Builtin.Tuple.tupleExact _) (wpAny_newObj_type (wpAny_pure ⟨_,rfl,wpAny_pure h⟩) htake)
  | exact wpAny_bind (m:=Builtin.Tuple.tupleExact _) (wpAny_newObj_type (wpAny_bind (wpAny_pure (wpAny_pure ⟨_,rfl,wpAny_pure h⟩))) htake)
  | exact wpAny_bind (wpAny_bind (m:=Builtin.Tuple.tupleExact _) (wpAny_newObj_type (wpAny_pure (wpAny_pure ⟨_,rfl,wpAny_pure h⟩)) htake))
  | exact wpAny_bind (wpAny_bind (m:=Builtin.Tuple.tupleExact _) (wpAny_newObj_type (wpAny_pure ⟨_,rfl,wpAny_pure h⟩) htake))
end
end HT
namespace L2
open PySem PySem.Spec PyProof.Rows
noncomputable abbrev TO:=St→Hp→(Option Int→Hp→Prop)→Prop
noncomputable def PO (X:Cx) (e:Option Expr) (t:TO):Prop :=
 ∀ (pins:List (Addr×Obj)) (s:Shared) (σ:St) (H:Hp) (Q:Option Int→Hp→Prop),Inv X pins σ H s→t σ H Q →
  wpAny (model X.prog X.w) X.A (evalPart e X.env) (λu s'=>∃ o H',Inv X pins σ H' s'∧IsPart u o∧Q o H') X.xe s
noncomputable def tI:TO:=λ_ H Q=>Q none H
noncomputable def xO (t:TE):TO:=λσ H Q=>t σ H λx H1=>∃ i,x = .int i∧Q (some i) H1
section
variable {X:Cx} {e:Expr} {te:TE} {lo hi:Option Expr} {tl th:TO} {pos p2:Pos}
theorem bn:PO X none tI:=by
 intro pins s σ H Q I h
 rw [evalPart_none]
 exact wpAny_pure ⟨none,H,I,.none,h⟩
theorem bh (h:PE X e te):PO X (some e) (xO te):=by
 intro pins s σ H Q I hw
 rw [evalPart_some]
 refine thn (h pins s σ H _ I hw) λu s1 hpt=>?_
 obtain ⟨x,H1,I1,r1,q1⟩:=hpt
 obtain ⟨i,rfl,q⟩:=q1
 obtain ⟨t,rfl⟩:=r1
 exact ⟨some i,H1,I1,.int i t,q⟩
noncomputable def SlR (X:Cx) (r:V→Option Int→Option Int→Hp→VK→Prop):Prop :=
 ∀ (pins:List (Addr×Obj)) (s:Shared) (σ:St) (H:Hp) (x:V) (v vl vu:Value) (lo hi:Option Int) (sl:Addr) (Q:VK),Inv X pins σ H s→aA x v→s.heap.IsSliceOf sl vl vu .none→IsPart vl lo→IsPart vu hi→r x lo hi H Q →
  ∃ T id,typeLookup (.type T) "__getitem__" = pure (some (.builtin id))∧s.TypeIs v T∧wpAny (model X.prog X.w) X.A (getItem v (.ref sl)) (EP X pins σ Q) X.xe s
theorem SlR.or {r r':V→Option Int→Option Int→Hp→VK→Prop} (h:SlR X r) (h':SlR X r'):SlR X (λx lo hi H Q=>r x lo hi H Q∨r' x lo hi H Q):=by
 intro pins s σ H x v vl vu lo hi sl Q I rx hs pl pu q
 rcases q with q | q
 ·exact h pins s σ H x v vl vu lo hi sl Q I rx hs pl pu q
 ·exact h' pins s σ H x v vl vu lo hi sl Q I rx hs pl pu q
noncomputable def tSl (r:V→Option Int→Option Int→Hp→VK→Prop) (te:TE) (tl th:TO):TE:=λσ H Q=>te σ H λx H1=>tl σ H1 λl H2=>th σ H2 λu H3=>r x l u H3 Q
theorem aT {r:V→Option Int→Option Int→Hp→VK→Prop} (hr:SlR X r) (he:PE X e te) (hl:PO X lo tl) (hu:PO X hi th):PE X (.Subscript e (.Slice lo hi none p2) pos) (tSl r te tl th):=by
 intro pins s σ H Q I h
 refine Subscript_ (thn (he pins s σ H _ I h) λv s1 hpt=>?_)
 obtain ⟨x,H1,I1,r1,q1⟩:=hpt
 refine wpAny_Slice (thn (hl pins s1 σ H1 _ I1 q1) λvl s2 ⟨l,H2,I2,pl,q2⟩=>thn (hu pins s2 σ H2 _ I2 q2) λvu s3 hpt=>?_)
 obtain ⟨u,H3,I3,pu,q3⟩:=hpt
 rw [evalPart_none]
 refine wpAny_pure ?_
 have I4:Inv X pins σ H3 { s3 with heap:=s3.heap.push { cls:=.type "slice",data:=.fields #[vl,vu,.none] } }:=I3.kept (t':=s3.toks) λb ob q=>Heap.get?_push_of_some _ q
 obtain ⟨T,id,hT,ht,hg⟩:=hr pins { s3 with heap:=s3.heap.push { cls:=.type "slice",data:=.fields #[vl,vu,.none] } } σ H3 x v vl vu l u s3.heap.objs.size Q I4 r1 (Heap.IsSliceOf.new ..) pl pu q3
 show wpAny (model X.prog X.w) X.A (subscriptTail e (.Slice lo hi none p2) v (.ref s3.heap.objs.size)) (EP X pins σ Q) X.xe { s3 with heap:=s3.heap.push { cls:=.type "slice",data:=.fields #[vl,vu,.none] } }
 exact tail_any (ops:=[.ref s3.heap.objs.size,v]) ht hT hg (by with_unfolding_all rfl)
noncomputable def gC (xs:List V) (lo hi:Option Int):List V:=(xs.drop (HT.sIx xs.length 0 lo)).take (HT.sIx xs.length xs.length hi - HT.sIx xs.length 0 lo)
theorem gg (xs:List V) (lo hi:Option Int):(gC xs lo hi).length≤xs.length:=by
 unfold gC
 rw [List.length_take,List.length_drop]
 omega
noncomputable def vM (K:PySem.W.Frag):V→Option Int→Option Int→Hp→VK→Prop:=λx lo hi H Q=>∃ a xs,x = .ref a∧SqT K H a xs ∧
 ¬ (HT.sIx xs.length 0 lo=0∧HT.sIx xs.length xs.length hi=xs.length)∧∀ p,H p=none→Q (.ref p) (upd H p (.tup (gC xs lo hi)))
theorem nq:SlR X (vM X.K):=by
 intro pins s σ H x v vl vu lo hi sl Q I rx hs pl pu h
 obtain ⟨a,xs,rfl,hx,hw,q⟩:=h
 cases rx
 obtain ⟨its,r,ht,hz⟩:=I.tuple hx
 have hlen:its.toArray.size=xs.length:=by rw [List.size_toArray]; exact r.length.symm
 refine ⟨"tuple",_,PyProof.Rows.slot_tuple_getitem.lookup,ht.typeIs,?_⟩
 refine HT.eN ht hs pl pu (by rw [hlen]; exact hw) ?_ (by rw [hlen]; exact hz)
 rw [hlen]
 refine ⟨.ref s.heap.objs.size,_,I.laid (t':=s.toks) (o:=.tup (gC xs lo hi)) (λb ob q=>Heap.get?_push_of_some _ q) (Nat.le_refl _) ?_,rfl,q _ (I.hok.fresh (Nat.le_refl _))⟩
 exact ⟨Nat.le_trans (gg xs lo hi) hz,_,(r.drop (HT.sIx xs.length 0 lo)).take (HT.sIx xs.length xs.length hi - HT.sIx xs.length 0 lo),IsTup.new _ _⟩
theorem au.nil_iff {xs:List V} {us:List Value} (r:au xs us):us=[]↔xs=[]:=by
 cases r with
 | nil=>simp
 | cons _ _=>simp
end
noncomputable def ixN (n:Nat) (i:Int):Option Nat:=if 0≤i then (if i<n then some i.toNat else none) else if -(n:Int)≤i then some (i+n).toNat else none
noncomputable def atI {α:Type} (xs:List α) (i:Int):Option α:=(ixN xs.length i).bind λj=>xs[j]?
theorem ou {n:Nat} {i:Int} {j:Nat} (h:ixN n i=some j):seqIndex? i n=some j∧j<n∧-(n:Int)≤i∧i<n:=by
 unfold ixN at h
 by_cases h0:0≤i
 ·rw [if_pos h0] at h
  by_cases h1:i<n
  ·rw [if_pos h1] at h
   have e:i.toNat=j:=Option.some.inj h
   exact ⟨by rw [seqIndex_of h0 h1,e],by omega,by omega,h1⟩
  ·rw [if_neg h1] at h; cases h
 ·rw [if_neg h0] at h
  by_cases h1:-(n:Int)≤i
  ·rw [if_pos h1] at h
   have e:(i+n).toNat=j:=Option.some.inj h
   exact ⟨by rw [seqIndex_neg (by omega) h1,e],by omega,h1,by omega⟩
  ·rw [if_neg h1] at h; cases h
theorem jz {α:Type} {xs:List α} {i:Int} {v:α} (h:atI xs i=some v):∃ j,seqIndex? i xs.length=some j∧xs[j]? = some v∧j<xs.length∧-(xs.length:Int)≤i∧i<xs.length:=by
 unfold atI at h
 cases e:ixN xs.length i with
 | none=>rw [e] at h; cases h
 | some j =>
  rw [e] at h
  obtain ⟨h1,h2,h3,h4⟩:=ou e
  exact ⟨j,h1,h,h2,h3,h4⟩
theorem jA {α:Type} {xs:List α} {j:Nat} {v:α} (h:xs[j]? = some v):atI xs (j:Int)=some v:=by
 have hj:j<xs.length:=(List.getElem?_eq_some_iff.mp h).1
 have e:ixN xs.length (j:Int)=some j:=by
  unfold ixN
  rw [if_pos (by omega),if_pos (by omega)]; simp
 unfold atI; rw [e]; exact h
theorem qP {α:Type} (xs:List α) (v:α):atI (xs++[v]) (-1)=some v:=by
 have hl:(xs++[v]).length=xs.length+1:=by simp
 have e:ixN (xs++[v]).length (-1)=some xs.length:=by
  unfold ixN
  rw [hl,if_neg (by decide),if_pos (by omega)]
  congr 1
  omega
 unfold atI
 rw [e]
 show (xs++[v])[xs.length]? = some v
 simp
noncomputable def tJ (b:Expr):Prop:=∀ o i,subscripted b false o i=operate [o,i] (getItem o i)
noncomputable def IxR (X:Cx) (r:R2):Prop :=
 ∀ (value slice:Expr) (pins:List (Addr×Obj)) (s:Shared) (σ:St) (H:Hp) (x y:V) (v u:Value) (Q:VK),Inv X pins σ H s→aA x v→aA y u→r x y H Q →
  subscripted slice false v u=operate [v,u] (getItem v u)→wpAny (model X.prog X.w) X.A (subscriptTail value slice v u) (EP X pins σ Q) X.xe s
noncomputable def MtR (X:Cx) (id:String) (r:V→List V→Hp→VK→Prop):Prop :=
 ∀ (pins:List (Addr×Obj)) (s:Shared) (σ:St) (H:Hp) (x:V) (xs:List V) (v:Value) (us:List Value) (Q:VK),Inv X pins σ H s→aA x v→au xs us→r x xs H Q →
  wpAny (model X.prog X.w) X.A (call (.builtin id) (v :: us)) (EP X pins σ Q) X.xe s
section
variable {X:Cx} {a b:Expr} {ta tb:TE} {pos:Pos}
theorem aC {r:R2} (hr:IxR X r) (ha:PE X a ta) (hb:PE X b tb) (hs:tJ b):PE X (.Subscript a b pos) (tOp r ta tb):=by
 intro pins s σ H Q I h
 exact Subscript_ (vF ha hb I h λv u s2 x y H2 I2 rx ry q=>hr a b pins s2 σ H2 x y v u Q I2 rx ry q (hs _ _))
noncomputable def yM (K:PySem.W.Frag):R2:=λx y H Q=>∃ p xs i v,x = .ref p∧y = .int i∧SqL K H p xs∧atI xs i=some v∧Q v H
noncomputable def iG (K:PySem.W.Frag):R2:=λx y H Q=>∃ p xs i v,x = .ref p∧y = .int i∧SqT K H p xs∧atI xs i=some v∧Q v H
noncomputable def yN:R2:=λx y H Q=>∃ z i c,x = .str z∧y = .int i∧z.length≤sizeLine∧atI z.cps.toList i=some c∧Q (.str ⟨#[c]⟩) H
theorem bx:IxR X (yM X.K):=by
 intro value slice pins s σ H x y v u Q I rx ry h hs
 obtain ⟨p,xs,i,z,rfl,rfl,hq,he,q⟩:=h
 cases rx
 obtain ⟨t,rfl⟩:=ry
 obtain ⟨its,r,pl,hz⟩:=I.list hq
 obtain ⟨j,h1,h2,h3,h4,h5⟩:=jz he
 obtain ⟨w,ew,rw'⟩:=r.get h2
 have hl:=r.length
 have hn:=fq
 have fin:EP X pins σ Q w s:=⟨z,H,I,rw',q⟩
 by_cases h0:0≤i
 ·have hj:i.toNat=j:=by
   rw [seqIndex_of h0 h5] at h1
   exact Option.some.inj h1
  exact item_listR pl.isList h0 (by omega) (by rw [hj]; simpa using ew) fin hs
 ·have hj:(i+(its.toArray.size:Int)).toNat=j:=by
   rw [seqIndex_neg (by omega) h4] at h1
   rw [List.size_toArray,← hl]
   exact Option.some.inj h1
  exact subscriptTail_builtinR (x:=w) pl.isList.typeIs slot_list_getitem.lookup
   (wpAny_getItem_list_neg (Q:=λr s'=>r=w∧EP X pins σ Q r s') pl.isList (by omega) (by rw [List.size_toArray] <;> omega) (by omega) (by rw [hj]; simpa using ew) ⟨rfl,fin⟩) hs
theorem aK:IxR X (iG X.K):=by
 intro value slice pins s σ H x y v u Q I rx ry h hs
 obtain ⟨p,xs,i,z,rfl,rfl,hq,he,q⟩:=h
 cases rx
 obtain ⟨t,rfl⟩:=ry
 obtain ⟨its,r,pl,hz⟩:=I.tuple hq
 obtain ⟨j,h1,h2,h3,h4,h5⟩:=jz he
 obtain ⟨w,ew,rw'⟩:=r.get h2
 have hl:=r.length
 have hn:=fq
 have fin:EP X pins σ Q w s:=⟨z,H,I,rw',q⟩
 exact subscriptTail_builtinR (x:=w) pl.typeIs slot_tuple_getitem.lookup
  (getItem_tuple (j:=j) (Q:=λr s'=>r=w∧EP X pins σ Q r s') pl (by omega) (by omega) (by rw [List.size_toArray,← hl]; exact h1) (by simpa using ew) ⟨rfl,fin⟩) hs
theorem qQ:IxR X yN:=by
 intro value slice pins s σ H x y v u Q I rx ry h hs
 obtain ⟨z,i,c,rfl,rfl,hz,he,q⟩:=h
 obtain ⟨t,rfl⟩:=rx
 obtain ⟨t',rfl⟩:=ry
 obtain ⟨j,h1,h2,h3,h4,h5⟩:=jz he
 have hl:z.cps.toList.length=z.length:=by simp [Str.length]
 rw [hl] at h1 h4 h5
 have hn:=fq
 exact tail_any (typeIs_str s z t) slot_str_getitem.lookup (getItem_str (c:=c) (by
  have e1:decide (i < -(2 ^ 63:Int))=false:=decide_eq_false (by omega)
  have e2:decide (i ≥ 2 ^ 63)=false:=decide_eq_false (by omega)
  rw [e1,e2,Bool.or_false]) (by rw [h1]; simpa using h2) ⟨.str ⟨#[c]⟩,H,I.tok _,⟨_,rfl⟩,q⟩) hs
theorem jB (lo hi:Option Int) (n:Nat):(sliceBounds lo hi none n).1=((HT.sIx n 0 lo:Nat):Int)∧(sliceBounds lo hi none n).2.1=((HT.sIx n n hi:Nat):Int)∧(sliceBounds lo hi none n).2.2=1:=by
 refine ⟨?_,?_,rfl⟩
 ·cases lo with
  | none=>simp [sliceBounds,HT.sIx]
  | some i =>
   simp only [sliceBounds,HT.sIx,Option.getD_none,show (1:Int) > 0 by decide,if_true]
   by_cases h:i<0
   ·simp only [h,if_true] <;> omega
   ·simp only [h,if_false] <;> omega
 ·cases hi with
  | none=>simp [sliceBounds,HT.sIx]
  | some i =>
   simp only [sliceBounds,HT.sIx,Option.getD_none,show (1:Int) > 0 by decide,if_true]
   by_cases h:i<0
   ·simp only [h,if_true] <;> omega
   ·simp only [h,if_false] <;> omega
theorem iH (its:List Value) (lo hi:Option Int):slicePick its.toArray lo hi none=((its.drop (HT.sIx its.length 0 lo)).take (HT.sIx its.length its.length hi - HT.sIx its.length 0 lo)).toArray:=by
 obtain ⟨h1,h2,h3⟩:=jB lo hi its.toArray.size
 unfold slicePick
 rw [h1,h2,h3]
 simp only [sliceRange_one,pick_run,List.size_toArray] <;> rfl
noncomputable def yO (K:PySem.W.Frag):V→Option Int→Option Int→Hp→VK→Prop:=λx lo hi H Q=>∃ a xs,x = .ref a∧SqL K H a xs∧∀ p,H p=none→Q (.ref p) (upd H p (.lst (gC xs lo hi)))
theorem tK:SlR X (yO X.K):=by
 intro pins s σ H x v vl vu lo hi sl Q I rx hs pl pu h
 obtain ⟨a,xs,rfl,hx,q⟩:=h
 cases rx
 obtain ⟨its,r,ht,hz⟩:=I.list hx
 have hlen:=r.length
 refine ⟨"list",_,slot_list_getitem.lookup,ht.isList.typeIs,?_⟩
 refine wpAny_getItem_list_slice ht.isList hs pl pu .none (by simp) ?_ (by rw [List.size_toArray] <;> omega)
 rw [iH,← hlen]
 refine ⟨.ref s.heap.objs.size,_,I.laid (t':=s.toks) (o:=.lst (gC xs lo hi)) (λb ob q=>Heap.get?_push_of_some _ q) (Nat.le_refl _) ?_,rfl,q _ (I.hok.fresh (Nat.le_refl _))⟩
 exact ⟨Nat.le_trans (gg xs lo hi) hz,_,0,(r.drop (HT.sIx xs.length 0 lo)).take (HT.sIx xs.length xs.length hi - HT.sIx xs.length 0 lo),Heap.get?_push_size _ rfl⟩
noncomputable def gX:V→Bool
 | .non=>true
 | .bl _=>true
 | .int _=>true
 | .str _=>true
 | _=>false
noncomputable def eqV:V→V→Bool
 | .non,.non=>true
 | .bl a,.bl b=>a == b
 | .bl a,.int b=>(if a then 1 else 0) == b
 | .int a,.bl b=>a == (if b then 1 else 0)
 | .int a,.int b=>a == b
 | .str a,.str b=>a == b
 | _,_=>false
theorem qR {A:Around} {s:Shared} {y x:V} {u v:Value} (ry:aA y u) (rx:aA x v) (fy:gX y=true) (fx:gX x=true):SeqAt.EqAt A s u v (eqV y x):=by
 cases y with
 | non =>
  cases ry
  cases x with
  | non=>cases rx; exact SeqAt.EqAt.same _
  | bl b=>cases rx; exact SeqAt.EqAt.none_bool b
  | int b=>obtain ⟨t,rfl⟩:=rx; exact SeqAt.EqAt.none_int b t
  | str b=>obtain ⟨t,rfl⟩:=rx; exact SeqAt.EqAt.none_str b t
  | _=>exact absurd (show false=true from fx) Bool.false_ne_true
 | bl a =>
  cases ry
  cases x with
  | non=>cases rx; exact SeqAt.EqAt.bool_none a
  | bl b=>cases rx; exact SeqAt.EqAt.bool_bool a b
  | int b=>obtain ⟨t,rfl⟩:=rx; exact SeqAt.EqAt.bool_int a b t
  | str b=>obtain ⟨t,rfl⟩:=rx; exact SeqAt.EqAt.bool_str a b t
  | _=>exact absurd (show false=true from fx) Bool.false_ne_true
 | int a =>
  obtain ⟨t',rfl⟩:=ry
  cases x with
  | non=>cases rx; exact SeqAt.EqAt.int_none a t'
  | bl b=>cases rx; exact SeqAt.EqAt.int_bool a t' b
  | int b=>obtain ⟨t,rfl⟩:=rx; exact SeqAt.EqAt.int_int a t' b t
  | str b=>obtain ⟨t,rfl⟩:=rx; exact SeqAt.EqAt.int_str a t' b t
  | _=>exact absurd (show false=true from fx) Bool.false_ne_true
 | str a =>
  obtain ⟨t',rfl⟩:=ry
  cases x with
  | non=>cases rx; exact SeqAt.EqAt.str_none a t'
  | bl b=>cases rx; exact SeqAt.EqAt.str_bool a t' b
  | int b=>obtain ⟨t,rfl⟩:=rx; exact SeqAt.EqAt.str_int a t' b t
  | str b=>obtain ⟨t,rfl⟩:=rx; exact SeqAt.EqAt.str_str a t' b t
  | _=>exact absurd (show false=true from fx) Bool.false_ne_true
 | _=>exact absurd (show false=true from fy) Bool.false_ne_true
theorem aR:bG X (.builtin "len") (λxs H Q=>∃ p ys,xs=[.ref p]∧(SqL X.K H p ys∨SqT X.K H p ys)∧Q (.int ys.length) H):=by
 intro pins s σ H xs us Q I r h
 obtain ⟨p,ys,rfl,hq,q⟩:=h
 obtain ⟨u,rfl,rx⟩:=cy r
 cases rx
 have hn:=fq
 rcases hq with hq | hq
 ·obtain ⟨its,r',pl,hz⟩:=I.list hq
  have hlen:=r'.length
  exact Calls.call_len_list pl.isList (by simp only [List.size_toArray] <;> omega) ⟨.int ys.length,H,I.tok _,⟨s.toks+1,by rw [List.size_toArray,hlen]⟩,q⟩
 ·obtain ⟨its,r',pl,hz⟩:=I.tuple hq
  have hlen:=r'.length
  exact len_tuple pl (by simp only [List.size_toArray] <;> omega) ⟨.int ys.length,H,I.tok _,⟨s.toks+1,by rw [List.size_toArray,hlen]⟩,q⟩
theorem cr:bG X (.builtin "len") (λxs H Q=>∃ z,xs=[.str z]∧z.length≤sizeLine∧Q (.int z.length) H):=by
 intro pins s σ H xs us Q I r h
 obtain ⟨z,rfl,hz,q⟩:=h
 obtain ⟨u,rfl,t,rfl⟩:=cy r
 have hn:=fq
 exact len_str (by omega) ⟨.int z.length,H,I.tok _,⟨_,rfl⟩,q⟩
theorem cJ:bG X (.type "tuple") (λxs H Q=>∃ p ys,xs=[.ref p]∧((SqL X.K H p ys∧∀ l,H l=none→Q (.ref l) (upd H l (.tup ys)))∨(SqT X.K H p ys∧Q (.ref p) H))):=by
 intro pins s σ H xs us Q I r h
 obtain ⟨p,ys,rfl,h⟩:=h
 obtain ⟨u,rfl,rx⟩:=cy r
 cases rx
 rcases h with ⟨hq,q⟩ | ⟨hq,q⟩
 ·obtain ⟨its,r',pl,hz⟩:=I.list hq
  have hlen:=r'.length
  refine call_tuple_list pl.isList (λh' kp=>?_) (by simp only [List.size_toArray] <;> omega)
  have I1:Inv X pins σ H { s with heap:=h' }:=I.kept (t':=s.toks) kp
  have I2:Inv X pins σ (upd H h'.objs.size (.tup ys)) { s with heap:=h'.push { cls:=.type "tuple",data:=.seq its.toArray } } :=
   I1.laid (t':=s.toks) (λb o e=>Heap.get?_push_of_some _ e) (Nat.le_refl _) (show ba X.prog X.w _ _ _ (.tup ys) from ⟨hz,its,r',IsTup.new _ _⟩)
  exact ⟨.ref h'.objs.size,_,I2,rfl,q _ (I1.hok.fresh (Nat.le_refl _))⟩
 ·obtain ⟨its,r',pl,hz⟩:=I.tuple hq
  exact call_tuple_same pl ⟨.ref p,H,I,rfl,q⟩
noncomputable def tyV (K:PySem.W.Frag) (T:String) (x:V) (H:Hp):Prop:=match x with
 | .str _=>T="str"
 | .int _=>T="int"
 | .ref p=>(T="list"∧∃ xs,SqL K H p xs)∨(T="tuple"∧∃ o,K.lookup p=some o∧o.cls = .type "tuple"∧o.dict=none) ∨
   (T="dict"∧((∃ kvs,H p=some (.dK kvs))∨∃ kvs,H p=some (.dT kvs)))∨(T="set"∧∃ S n,H p=some (.set S n))
 | _=>False
theorem qS {pins:List (Addr×Obj)} {σ:St} {H:Hp} {s:Shared} {T:String} {x:V} {v:Value} (I:Inv X pins σ H s) (r:aA x v) (ty:tyV X.K T x H) :
  s.TypeIs v T∧∀ a,v = .ref a→∃ ob,s.heap.get? a=some ob∧ob.dict=none:=by
 cases x with
 | str z =>
  obtain ⟨t,rfl⟩:=r
  cases (show T="str" from ty)
  exact ⟨typeIs_str s z t,λ_ e=>nomatch e⟩
 | int i =>
  obtain ⟨t,rfl⟩:=r
  cases (show T="int" from ty)
  exact ⟨typeIs_int s i t,λ_ e=>nomatch e⟩
 | ref p =>
  cases r
  rcases ty with ⟨rfl,xs,hq⟩ | ⟨rfl,o,hk,hc,hd⟩ | ⟨rfl,hk⟩ | ⟨rfl,S,n,hk⟩
  ·obtain ⟨its,_,pl,_⟩:=I.list hq
   refine ⟨pl.isList.typeIs,λa e=>?_⟩
   cases e
   obtain ⟨o,n,e,c,hd,_⟩:=pl
   exact ⟨o,e,hd⟩
  ·refine ⟨⟨o,I.kIn p o hk,hc⟩,λa e=>?_⟩
   cases e
   exact ⟨o,I.kIn _ o hk,hd⟩
  ·have z:∃ o,s.heap.get? p=some o∧o.ExactDict:=by
    rcases hk with ⟨kvs,hk⟩ | ⟨kvs,hk⟩
    ·obtain ⟨_,_,_,_,o,_,_,e,ex,_⟩:=I.hok p _ hk
     exact ⟨o,e,ex⟩
    ·obtain ⟨_,_,_,_,o,_,_,e,ex,_⟩:=I.hok p _ hk
     exact ⟨o,e,ex⟩
   obtain ⟨o,e,ex⟩:=z
   refine ⟨⟨o,e,ex.1⟩,λa e2=>?_⟩
   cases e2
   exact ⟨o,e,ex.2.1⟩
  ·obtain ⟨o,_,_,_,e,ex,_⟩:=I.hok p _ hk
   refine ⟨⟨o,e,ex.1⟩,λa e2=>?_⟩
   cases e2
   exact ⟨o,e,ex.2.1⟩
 | _=>exact False.elim ty
noncomputable def yP (K:PySem.W.Frag) (T:String) (r:V→List V→Hp→VK→Prop) (to:TE):TE:=λσ H Q=>to σ H λx H1=>tyV K T x H1∧r x [] H1 Q
noncomputable def tBM (K:PySem.W.Frag) (T:String) (r:V→List V→Hp→VK→Prop) (to:TE) (t:TA):TE:=λσ H Q=>to σ H λx H1=>tyV K T x H1∧t σ H1 λxs H2=>r x xs H2 Q
variable {o e:Expr} {es:List Expr} {to:TE} {t:TA} {name:Str} {apos cpos:Pos} {T id:String} {r:V→List V→Hp→VK→Prop}
theorem vN (pa:PlainAttrs T) (slot:Slot T name id) (hty:typeOf (.builtin id)=pure (.type "method_descriptor")) (hm:MtR X id r) (ho:PE X o to)
  (hbase:attributeBase o name X.env (eval o X.env)=eval o X.env:=by rfl) (hline:(apos.endLine == cpos.line)=true:=by rfl):PE X (.Call (.Attribute o name apos) [] [] cpos) (yP X.K T r to):=by
 intro pins s σ H Q I h
 refine wpAny_Call_method0_late hbase hline (thn (ho pins s σ H _ I h) λv s1 hpt=>?_)
 obtain ⟨x,H1,I1,r1,ty,q1⟩:=hpt
 obtain ⟨h1,h2⟩:=qS I1 r1 ty
 exact ⟨T,id,pa,slot,hty,h1,h2,Calls.callWith_builtin rfl (PySem.evalArgs_none (hm pins s1 σ H1 x [] v [] Q I1 r1 .nil q1))⟩
theorem bZ (pa:PlainAttrs T) (slot:Slot T name id) (hty:typeOf (.builtin id)=pure (.type "method_descriptor")) (hm:MtR X id r) (ho:PE X o to) (ha:PA X (e :: es) t)
  (hbase:attributeBase o name X.env (eval o X.env)=eval o X.env:=by rfl)
  (hfew:((backTo cpos (starEach (e :: es) X.env)).all (λx=>!x.1) && (backToKw cpos (keywordEach [] X.env)).all (λx=>x.1.isSome)
   && decide ((e :: es).length+([]:List Keyword).length+(if ([]:List Keyword).isEmpty then 0 else 1)<30))=true:=by rfl)
  (hline:(apos.endLine == cpos.line)=true:=by rfl) (hs:starEach (e :: es) X.env=(false,eval e X.env) :: starEach es X.env:=by rfl) (hplain:(backTo cpos (starEach es X.env)).any (·.1)=false:=by rfl) :
  PE X (.Call (.Attribute o name apos) (e :: es) [] cpos) (tBM X.K T r to t):=by
 intro pins s σ H Q I h
 refine wpAny_Call_method_late hbase hfew hline rfl (thn (ho pins s σ H _ I h) λv s1 hpt=>?_)
 obtain ⟨x,H1,I1,r1,ty,q1⟩:=hpt
 obtain ⟨h1,h2⟩:=qS I1 r1 ty
 refine ⟨T,id,pa,slot,hty,h1,h2,?_⟩
 have hA:=ha cpos pins s1 σ H1 _ I1 q1
 rw [hs] at hA ⊢
 refine Calls.callWith_builtin (by show (false || (backTo cpos (starEach es X.env)).any (·.1))=false; rw [hplain] <;> rfl) (Calls.evalArgs_plain ?_)
 exact thn hA λus s2 ⟨vs,H2,I2,r2,q2⟩=>hm pins s2 σ H2 x vs v us Q I2 r1 r2 q2
end
noncomputable def MtM (X:Cx) (id:String) (r:V→List V→Hp→VK→Prop):Prop :=
 ∀ (pins:List (Addr×Obj)) (s:Shared) (σ:St) (H:Hp) (x:V) (xs:List V) (v:Value) (us:List Value) (Q:VK),Inv X pins σ H s→aA x v→au xs us→r x xs H Q →
  wpAny (model X.prog X.w) X.A (call (.builtin id) (v :: us)) (EP X pins σ Q) X.xe s
theorem au.one:∀ {x:V} {us:List Value},au [x] us→∃ u,us=[u]∧aA x u
 | _,_,.cons r .nil=>⟨_,rfl,r⟩
theorem au.two:∀ {x y:V} {us:List Value},au [x,y] us→∃ u v,us=[u,v]∧aA x u∧aA y v
 | _,_,_,.cons r (.cons q .nil)=>⟨_,_,rfl,r,q⟩
theorem au.zero:∀ {us:List Value},au [] us→us=[]
 | _,.nil=>rfl
theorem au.dropLast {xs:List V} {us:List Value} (h:au xs us):au xs.dropLast us.dropLast:=by
 induction h with
 | nil=>exact .nil
 | cons r t ih =>
  cases t with
  | nil=>exact .nil
  | cons q t'=>exact .cons r ih
theorem au.eraseIdx:∀ {xs:List V} {us:List Value} (i:Nat),au xs us→au (xs.eraseIdx i) (us.eraseIdx i)
 | _,_,_,.nil=>.nil
 | _,_,0,.cons _ t=>t
 | _,_,i+1,.cons r t=>.cons r (au.eraseIdx i t)
theorem au.reverse {xs:List V} {us:List Value} (h:au xs us):au xs.reverse us.reverse:=by
 induction h with
 | nil=>exact .nil
 | cons r t ih=>rw [List.reverse_cons,List.reverse_cons]; exact au.append ih (.cons r .nil)
theorem nr {α:Type} (l:List α):l.eraseIdx (l.length - 1)=l.dropLast:=by
 induction l with
 | nil=>rfl
 | cons a r ih =>
  cases r with
  | nil=>rfl
  | cons b r =>
   have e:(a :: b :: r).length - 1=((b :: r).length - 1)+1:=by
    have h1:(a :: b :: r).length=r.length+2:=rfl
    have h2:(b :: r).length=r.length+1:=rfl
    omega
   rw [e,List.eraseIdx_cons_succ,ih]
   all_goals rfl
theorem iZ {α:Type}:∀ (l:List α) (i:Nat),(l.eraseIdx i).length≤l.length
 | [],_=>Nat.le_refl _
 | _ :: _,0=>Nat.le_succ _
 | _ :: r,i+1=>Nat.succ_le_succ (iZ r i)
section
variable {X:Cx} {pins:List (Addr×Obj)} {σ:St} {H:Hp} {s:Shared} {l b:Addr} {xs ys zs:List V}
theorem Inv.lset {its its':List Value} {n:Nat} {f:Array Value→Array Value} {t':Nat} (I:Inv X pins σ H s) (hH:H l=some (.lst xs))
  (e:s.heap.get? l=some { cls:=.type "list",data:=.seq its.toArray n }) (hf:f its.toArray=its'.toArray) (hv:au ys its') (hz:ys.length≤sizeLine) :
  Inv X pins σ (upd H l (.lst ys)) { s with heap:=s.heap.update l (Obj.mapSeq f),toks:=t' }:=by
 have q:=PySem.IsL.update e f
 rw [hf] at q
 refine I.write (x:=l) (e:=l) (by rw [hH]; exact trivial) (.inl rfl) (λb' u hb hu=>(Heap.get?_update_other s.heap (Obj.mapSeq f) (Ne.symm hb)).trans hu) ⟨_,q⟩ ?_
 exact ⟨hz,its',_,hv,q⟩
theorem Inv.lnew {its:List Value} {t':Nat} (I:Inv X pins σ H s) (hv:au ys its) (hz:ys.length≤sizeLine) :
  Inv X pins σ (upd H s.heap.objs.size (.lst ys)) { s with heap:=s.heap.push { cls:=.type "list",data:=.seq its.toArray },toks:=t' } :=
 I.laid (λ_ _ q=>Heap.get?_push_of_some _ q) (Nat.le_refl _) ⟨hz,its,0,hv,Heap.get?_push_size _ rfl⟩
theorem Inv.fresh (I:Inv X pins σ H s):H s.heap.objs.size=none:=I.hok.fresh (Nat.le_refl _)
theorem Inv.lstM (I:Inv X pins σ H s) (hH:H l=some (.lst xs)):xs.length≤sizeLine∧∃ (its:List Value) (n:Nat),au xs its∧xs.length=its.length∧s.heap.get? l=some { cls:=.type "list",data:=.seq its.toArray n }:=by
 obtain ⟨z,its,n,r,e⟩:=I.hok l _ hH
 exact ⟨z,its,n,r,r.length,e⟩
theorem qU {n:Nat} (h:n≤sizeLine):Builtin.List.listTooLong n=false:=by
 unfold Builtin.List.listTooLong
 exact decide_eq_false (by omega)
end
section
variable {X:Cx}
noncomputable def tL:V→List V→Hp→VK→Prop:=λx vs H Q=>∃ l xs y,x = .ref l∧vs=[y]∧H l=some (.lst xs)∧xs.length<sizeLine∧Q .non (upd H l (.lst (xs++[y])))
theorem bJ:MtM X "list.append" tL:=by
 intro pins s σ H x vs v us Q I rx rv h
 obtain ⟨l,xs,y,rfl,rfl,hH,hz,q⟩:=h
 cases rx
 obtain ⟨u,rfl,ru⟩:=rv.one
 obtain ⟨z,its,n,r,hl,e⟩:=I.lstM hH
 refine call_meets F.slot_list_append ⟨_,e,rfl⟩ F.entry_list_append (F.args_list_append_2 _ _) (PySem.list_append l its.toArray n u (by rw [List.size_toArray]; omega)) ⟨e,?_⟩
 refine ⟨.non,_,I.lset (its':=its++[u]) hH e (by simp) (r.append (.cons ru .nil)) ?_,rfl,q⟩
 rw [List.length_append,List.length_singleton]
 omega
noncomputable def tM:V→List V→Hp→VK→Prop:=λx vs H Q=>∃ l b xs zs,x = .ref l∧vs=[.ref b]∧H l=some (.lst xs)∧H b=some (.lst zs)∧xs.length+zs.length≤sizeLine∧Q .non (upd H l (.lst (xs++zs)))
theorem ja:MtM X "list.extend" tM:=by
 intro pins s σ H x vs v us Q I rx rv h
 obtain ⟨l,b,xs,zs,rfl,rfl,hH,hB,hz,q⟩:=h
 cases rx
 obtain ⟨u,rfl,ru⟩:=rv.one
 cases ru
 obtain ⟨z,its,n,r,hl,e⟩:=I.lstM hH
 obtain ⟨z2,its2,n2,r2,hl2,e2⟩:=I.lstM hB
 have hsz:its.toArray.size+its2.toArray.size≤sizeLine:=by rw [List.size_toArray,List.size_toArray]; omega
 have hlong:¬ (!its.toArray.isEmpty && Builtin.List.listTooLong (its.toArray.size+its2.toArray.size))=true:=by
  rw [qU hsz,Bool.and_false]
  exact Bool.false_ne_true
 refine call_meets F.slot_list_extend ⟨_,e,rfl⟩ F.entry_list_extend (F.args_list_extend_2 _ _)
  (AutoSeq1.list_extend_list_list_0 l its.toArray n b its2.toArray n2 hlong (by rw [List.size_toArray]; omega) (by omega)) ⟨e,e2,?_⟩
 refine ⟨.non,_,I.lset (its':=its++its2) hH e (by simp) (r.append r2) ?_,rfl,q⟩
 rw [List.length_append]
 omega
noncomputable def yQ:V→List V→Hp→VK→Prop:=λx vs H Q=>∃ l xs y,x = .ref l∧vs=[]∧H l=some (.lst xs)∧xs[xs.length - 1]? = some y∧Q y (upd H l (.lst xs.dropLast))
theorem vO:MtM X "list.pop" yQ:=by
 intro pins s σ H x vs v us Q I rx rv h
 obtain ⟨l,xs,y,rfl,rfl,hH,hy,q⟩:=h
 cases rx
 have hus:=rv.zero
 subst hus
 obtain ⟨z,its,n,r,hl,e⟩:=I.lstM hH
 obtain ⟨u,hu,ru⟩:=r.get hy
 have hy':its.toArray[its.toArray.size - 1]? = some u:=by
  show its.toArray[its.length - 1]? = some u
  rw [← Array.getElem?_toList,← hl]
  exact hu
 refine call_meets F.slot_list_pop ⟨_,e,rfl⟩ F.entry_list_pop (F.args_list_pop_1 _) (MeetsSeq.list_pop_last l its.toArray n u hy' (by rw [List.size_toArray]; omega)) ⟨e,?_⟩
 refine ⟨y,_,I.lset (its':=its.dropLast) hH e ?_ r.dropLast ?_,ru,q⟩
 ·show its.toArray.eraseIdxIfInBounds (its.toArray.size - 1)=its.dropLast.toArray
  rw [List.size_toArray,List.eraseIdxIfInBounds_toArray,nr]
 ·rw [List.length_dropLast]
  omega
noncomputable def vP:V→List V→Hp→VK→Prop:=λx vs H Q=>∃ l xs i k y,x = .ref l∧vs=[.int i]∧H l=some (.lst xs)∧-(2 ^ 63)≤i∧i<2 ^ 63∧seqIndex? i xs.length=some k∧xs[k]? = some y∧Q y (upd H l (.lst (xs.eraseIdx k)))
theorem qV:MtM X "list.pop" vP:=by
 intro pins s σ H x vs v us Q I rx rv h
 obtain ⟨l,xs,i,k,y,rfl,rfl,hH,h1,h2,hk,hy,q⟩:=h
 cases rx
 obtain ⟨u,rfl,ru⟩:=rv.one
 obtain ⟨t,rfl⟩:=ru
 obtain ⟨z,its,n,r,hl,e⟩:=I.lstM hH
 obtain ⟨w,hw,rw'⟩:=r.get hy
 refine call_meets F.slot_list_pop ⟨_,e,rfl⟩ F.entry_list_pop (F.args_list_pop_2 _ _)
  (MeetsSeq.list_pop_at l its.toArray n i t k w (fitsIndex_both h1 h2) (by rw [List.size_toArray,← hl]; exact hk) (by rw [← Array.getElem?_toList]; exact hw) (by rw [List.size_toArray]; omega)) ⟨e,?_⟩
 refine ⟨y,_,I.lset (its':=its.eraseIdx k) hH e ?_ (r.eraseIdx k) ?_,rw',q⟩
 ·show its.toArray.eraseIdxIfInBounds k=(its.eraseIdx k).toArray
  rw [List.eraseIdxIfInBounds_toArray]
 ·have:=iZ xs k
  omega
noncomputable def yR:R2:=λx y H Q=>∃ l b xs zs,x = .ref l∧y = .ref b∧H l=some (.lst xs)∧H b=some (.lst zs)∧xs.length+zs.length≤sizeLine∧∀ p,H p=none→Q (.ref p) (upd H p (.lst (xs++zs)))
theorem vQ:OpR X (binaryOp .Add) yR:=by
 intro pins s σ H x y v u Q I rx ry h
 obtain ⟨l,b,xs,zs,rfl,rfl,hH,hB,hz,q⟩:=h
 cases rx
 cases ry
 obtain ⟨z,its,n,r,hl,e⟩:=I.lstM hH
 obtain ⟨z2,its2,n2,r2,hl2,e2⟩:=I.lstM hB
 refine PySem.P.add_list e e2 ?_ (by rw [List.size_toArray,List.size_toArray]; omega)
 have ea:its.toArray++its2.toArray=(its++its2).toArray:=by simp
 rw [ea]
 exact ⟨.ref _,_,I.lnew (t':=s.toks) (r.append r2) (by rw [List.length_append]; omega),rfl,q _ I.fresh⟩
end
section
variable {prog:Program} {w:World} {A:Around} {E:Value→Shared→Prop} {s:Shared}
end
section
variable {X:Cx}
end
section
variable {κ:Type} [DecidableEq κ]
noncomputable def br (kvs:List (κ×V)) (k:κ):Option V:=(kvs.find? λkv=>decide (kv.1=k)).map (·.2)
noncomputable def cP (kvs:List (κ×V)) (k:κ) (v:V):List (κ×V) :=
 if (kvs.any λkv=>decide (kv.1=k))=true then kvs.map (λkv=>if kv.1=k then (kv.1,v) else kv) else kvs++[(k,v)]
noncomputable def cj (kvs:List (κ×V)) (k:κ):List (κ×V):=kvs.filter λkv=>decide (kv.1≠k)
theorem bd {p:κ×V} {r:List (κ×V)} {k:κ} (e:p.1=k):br (p :: r) k=some p.2:=by simp [br,List.find?_cons,e]
theorem aU {p:κ×V} {r:List (κ×V)} {k:κ} (e:¬ p.1=k):br (p :: r) k=br r k:=by simp [br,List.find?_cons,e]
theorem eO (k:κ):∀ kvs:List (κ×V),(kvs.any λkv=>decide (kv.1=k))=(br kvs k).isSome
 | []=>rfl
 | p :: r=>by
  rw [List.any_cons]
  by_cases e:p.1=k
  ·simp only [bd e,decide_eq_true e,Bool.true_or,Option.isSome_some]
  ·rw [aU e,decide_eq_false e,Bool.false_or]; exact eO k r
theorem kG (k j:κ) (y:V):∀ kvs:List (κ×V),br (kvs.map λkv=>if kv.1=k then (kv.1,y) else kv) j=(br kvs j).map λx=>if j=k then y else x
 | []=>rfl
 | p :: r=>by
  have ih:=kG k j y r
  rw [List.map_cons]
  by_cases h:p.1=k
  ·rw [if_pos h]
   by_cases e:p.1=j
   ·rw [bd (p:=(p.1,y)) e,bd e,Option.map_some,if_pos (e.symm.trans h)]
   ·rw [aU (p:=(p.1,y)) e,aU e,ih]
  ·rw [if_neg h]
   by_cases e:p.1=j
   ·rw [bd (p:=p) e,bd e,Option.map_some,if_neg (λz=>h (e.trans z))]
   ·rw [aU (p:=p) e,aU e,ih]
theorem jb (k j:κ) (y:V):∀ kvs:List (κ×V),br kvs k=none→br (kvs++[(k,y)]) j=if j=k then some y else br kvs j
 | [],_=>by
  by_cases e:k=j
  ·rw [if_pos e.symm]; exact bd (p:=(k,y)) e
  ·rw [if_neg (λz=>e z.symm)]; exact aU (p:=(k,y)) e
 | p :: r,hn=>by
  rw [List.cons_append]
  have hk:¬ p.1=k:=λz=>by rw [bd z] at hn; cases hn
  rw [aU hk] at hn
  have ih:=jb k j y r hn
  by_cases e:p.1=j
  ·rw [bd e,bd e,if_neg (λz=>hk (e.trans z))]
  ·rw [aU e,aU e,ih]
theorem kJ (kvs:List (κ×V)) (k j:κ) (y:V):br (cP kvs k y) j=if j=k then some y else br kvs j:=by
 unfold cP
 by_cases a:(kvs.any λkv=>decide (kv.1=k))=true
 ·rw [if_pos a,kG]
  rw [eO] at a
  by_cases e:j=k
  ·obtain ⟨x,hx⟩:=Option.isSome_iff_exists.mp a
   rw [if_pos e,e,hx,Option.map_some,if_pos rfl]
  ·rw [if_neg e]
   cases br kvs j with
   | none=>rfl
   | some x=>rw [Option.map_some,if_neg e]
 ·rw [if_neg a]
  refine jb k j y kvs ?_
  rw [eO] at a
  cases q:br kvs k with
  | none=>rfl
  | some x=>rw [q] at a; exact (a rfl).elim
theorem cD (kvs:List (κ×V)) (k:κ) (v:V):(cP kvs k v).length≤kvs.length+1:=by
 unfold cP
 split
 ·rw [List.length_map]; omega
 ·rw [List.length_append,List.length_cons,List.length_nil]; omega
theorem dX.isSome_eq {o:Option V} {u:Option Value} (r:dX o u):o.isSome=u.isSome:=by
 cases o with
 | none=>cases u with
  | none=>rfl
  | some _=>exact (show False from r).elim
 | some _=>cases u with
  | none=>exact (show False from r).elim
  | some _=>rfl
theorem KV.val {kvs:List (κ×V)} {vs:List (κ×Value)} (r:KV kvs vs) (k:κ):dX (br kvs k) (valueAt vs k):=by
 unfold KV at r
 induction r with
 | nil=>exact True.intro
 | @cons p q ps qs h t ih =>
  obtain ⟨h1,h2⟩:=h
  by_cases e:p.1=k
  ·have e':q.1=k:=h1.symm.trans e
   have b:valueAt (q :: qs) k=some q.2:=by simp [valueAt,List.find?_cons,e']
   rw [bd e,b]; exact h2
  ·have e':¬ q.1=k:=λz=>e (h1.trans z)
   have b:valueAt (q :: qs) k=valueAt qs k:=by simp [valueAt,List.find?_cons,e']
   rw [aU e,b]; exact ih
theorem KV.any {kvs:List (κ×V)} {vs:List (κ×Value)} (r:KV kvs vs) (k:κ):(kvs.any λkv=>decide (kv.1=k))=vs.any λkv=>decide (kv.1=k):=by
 unfold KV at r
 induction r with
 | nil=>rfl
 | cons h t ih=>rw [List.any_cons,List.any_cons,ih,h.1]
theorem KV.repl {kvs:List (κ×V)} {vs:List (κ×Value)} (r:KV kvs vs) (k:κ) {y:V} {u:Value} (ry:aA y u) :
  KV (kvs.map λkv=>if kv.1=k then (kv.1,y) else kv) (vs.map λkv=>if kv.1=k then (kv.1,u) else kv):=by
 unfold KV at r ⊢
 induction r with
 | nil=>exact .nil
 | @cons p q ps qs h t ih =>
  rw [List.map_cons,List.map_cons]
  refine .cons ?_ ih
  obtain ⟨h1,h2⟩:=h
  by_cases e:p.1=k
  ·rw [if_pos e,if_pos (h1.symm.trans e)]; exact ⟨h1,ry⟩
  ·rw [if_neg e,if_neg (λz=>e (h1.trans z))]; exact ⟨h1,h2⟩
theorem KV.put {kvs:List (κ×V)} {vs:List (κ×Value)} (r:KV kvs vs) (k:κ) {y:V} {u:Value} (ry:aA y u):KV (cP kvs k y) (stored vs k u):=by
 unfold cP stored
 rw [r.any k]
 by_cases e:(vs.any λkv=>decide (kv.1=k))=true
 ·rw [if_pos e,if_pos e]; exact r.repl k ry
 ·rw [if_neg e,if_neg e]; exact Paired.snoc r ⟨rfl,ry⟩
theorem KV.drop {kvs:List (κ×V)} {vs:List (κ×Value)} (r:KV kvs vs) (k:κ):KV (cj kvs k) (without vs k):=by
 unfold KV at r ⊢
 unfold cj without
 induction r with
 | nil=>exact .nil
 | @cons p q ps qs h t ih =>
  obtain ⟨h1,h2⟩:=h
  rw [List.filter_cons,List.filter_cons]
  by_cases e:p.1=k
  ·have a:¬ decide (p.1≠k)=true:=by simp [e]
   have b:¬ decide (q.1≠k)=true:=by simp [h1.symm.trans e]
   rw [if_neg a,if_neg b]; exact ih
  ·have e':¬ q.1=k:=λz=>e (h1.trans z)
   have a:decide (p.1≠k)=true:=by simp [e]
   have b:decide (q.1≠k)=true:=by simp [e']
   rw [if_pos a,if_pos b]; exact .cons ⟨h1,h2⟩ ih
theorem KV.length {kvs:List (κ×V)} {vs:List (κ×Value)} (r:KV kvs vs):kvs.length=vs.length:=Paired.length r
theorem kK (kvs:List (κ×V)) (k:κ):(cj kvs k).length≤kvs.length:=List.length_filter_le _ _
end
theorem eP {P:Program} {w:World} {k:Key} {u:Value} (r:aA (kV k) u):(aD P w).is k u=true:=by
 cases k with
 | inl i=>obtain ⟨t,e⟩:=(show ∃ t,u=Value.int i t from r); subst e; exact kq P w i t
 | inr x=>obtain ⟨t,e⟩:=(show ∃ t,u=Value.str x t from r); subst e; exact kr P w x t
theorem vR {a b:Key} (e:kV a=kV b):a=b:=by
 cases a with
 | inl i=>cases b with
  | inl j=>have e':V.int i=V.int j:=e; injection e' with e'; rw [e']
  | inr y=>exact nomatch (show V.int i=V.str y from e)
 | inr x=>cases b with
  | inl j=>exact nomatch (show V.str x=V.int j from e)
  | inr y=>have e':V.str x=V.str y:=e; injection e' with e'; rw [e']
theorem ow:∀ {a b:List Key},a.map kV=b.map kV→a=b
 | [],[],_=>rfl
 | [],_ :: _,e=>by simp at e
 | _ :: _,[],e=>by simp at e
 | x :: xs,y :: ys,e=>by
  rw [List.map_cons,List.map_cons] at e
  injection e with e1 e2
  rw [vR e1,ow e2]
theorem ft {P:Program} {w:World}:∀ {ks:List Key} {us:List Value},au (ks.map kV) us→ItemsAre (aD P w) ks us
 | [],_,r=>by rw [List.map_nil] at r; cases r; exact .nil
 | k :: ks,_,r=>by
  rw [List.map_cons] at r
  cases r with
  | cons h t=>exact .cons (eP h) (ft t)
noncomputable abbrev KT (H:Hp):List (List Key×V)→List (List Key×Addr×Value)→Prop:=Paired λp q=>p.1=q.1∧H q.2.1=some (.tup (p.1.map kV))∧aA p.2 q.2.2
theorem KT.val {H:Hp} {kvs:List (List Key×V)} {xs:List (List Key×Addr×Value)} (r:KT H kvs xs) (k:List Key):dX (br kvs k) ((atKey xs k).map (·.2)):=by
 induction r with
 | nil=>exact True.intro
 | @cons p q ps qs h t ih =>
  obtain ⟨h1,_,h2⟩:=h
  by_cases e:p.1=k
  ·have e':q.1=k:=h1.symm.trans e
   have b:atKey (q :: qs) k=some q.2:=by simp [atKey,List.find?_cons,e']
   rw [bd e,b]; exact h2
  ·have e':¬ q.1=k:=λz=>e (h1.trans z)
   have b:atKey (q :: qs) k=atKey qs k:=by simp [atKey,List.find?_cons,e']
   rw [aU e,b]; exact ih
theorem KT.repl {H:Hp} {kvs:List (List Key×V)} {xs:List (List Key×Addr×Value)} (r:KT H kvs xs) (k:List Key) {y:V} {u:Value} (ry:aA y u) :
  KT H (kvs.map λkv=>if kv.1=k then (kv.1,y) else kv) (xs.map (putAt k u)):=by
 induction r with
 | nil=>exact .nil
 | @cons p q ps qs h t ih =>
  rw [List.map_cons,List.map_cons]
  refine .cons ?_ ih
  obtain ⟨h1,h2,h3⟩:=h
  unfold putAt
  by_cases e:p.1=k
  ·rw [if_pos e,if_pos (h1.symm.trans e)]; exact ⟨h1,h2,ry⟩
  ·rw [if_neg e,if_neg (λz=>e (h1.trans z))]; exact ⟨h1,h2,h3⟩
theorem KT.put {H:Hp} {kvs:List (List Key×V)} {xs:List (List Key×Addr×Value)} (r:KT H kvs xs) (k:List Key) {b:Addr} {y:V} {u:Value} (hb:H b=some (.tup (k.map kV))) (ry:aA y u) :
  KT H (cP kvs k y) (storedH xs k b u):=by
 have e:(kvs.any λkv=>decide (kv.1=k))=(atKey xs k).isSome:=by
  rw [eO,(r.val k).isSome_eq,Option.isSome_map]
 unfold cP storedH
 rw [e]
 by_cases q:(atKey xs k).isSome=true
 ·rw [if_pos q,if_pos q]; exact r.repl k ry
 ·rw [if_neg q,if_neg q]; exact Paired.snoc r ⟨rfl,hb,ry⟩
theorem KT.keeps {H H':Hp} {kvs:List (List Key×V)} {xs:List (List Key×Addr×Value)} (r:KT H kvs xs) (ht:∀ b ys,H b=some (.tup ys)→H' b=some (.tup ys)):KT H' kvs xs :=
 Paired.mapP r λ_ _ z=>⟨z.1,ht _ _ z.2.1,z.2.2⟩
section
variable {P:Program} {w:World} {H:Hp} {h:Heap} {a:Addr}
theorem vg {u:HO} (ok:HOk P w H h) (e:Rd H a u):ba P w H h a u:=e.ok ok
theorem kM {kvs:List (Key×V)} (ok:HOk P w H h) (e:Rd H a (.dK kvs)):kvs.length≤sizeLine∧(a == sysModules)=false∧∃ vs,KV kvs vs∧h.DictOf (aD P w) a vs :=
 show ba P w H h a (.dK kvs) from vg ok e
theorem kQ {kvs:List (Key×V)} (ok:HOk P w H h) (e:H a=some (.dK kvs)):kvs.length≤sizeLine∧(a == sysModules)=false∧∃ vs,KV kvs vs∧h.DictOf (aD P w) a vs:=kM ok (.inl e)
theorem jC {ks:List Key} (ok:HOk P w H h) (e:H a=some (.tup (ks.map kV))):(tupleKind (aD P w)).is h ks a:=by
 obtain ⟨_,its,r,o,h1,h2,n,h3⟩:=(show ba P w H h a (.tup (ks.map kV)) from ok a _ e)
 exact ⟨o,its.toArray,n,h1,h2,h3,by simpa using ft r⟩
theorem kY {kvs:List (List Key×V)} (ok:HOk P w H h) (e:Rd H a (.dT kvs)):kvs.length≤sizeLine∧(a == sysModules)=false ∧
  ∃ xs,KT H kvs xs∧h.DictOfH (tupleKind (aD P w)) a xs:=by
 obtain ⟨z,y,xs,r,o,es,ep,h1,h2,h3,h4,h5⟩:=(show ba P w H h a (.dT kvs) from vg ok e)
 refine ⟨z,y,xs,r,o,es,ep,h1,h2,h3,h4,λx hx=>?_,h5⟩
 have all:∀ {l:List (List Key×V)} {m:List (List Key×Addr×Value)},KT H l m→∀ x∈m,(tupleKind (aD P w)).is h x.1 x.2.1:=by
  intro l m q
  induction q with
  | nil=>intro x hx; exact nomatch hx
  | @cons p q ps qs hq t ih =>
   intro x hx
   rcases List.mem_cons.mp hx with e | hx
   ·subst e
    exact jC ok (by rw [← hq.1]; exact hq.2.1)
   ·exact ih x hx
 exact all r x hx
theorem xP {kvs:List (List Key×V)} (ok:HOk P w H h) (e:H a=some (.dT kvs)):kvs.length≤sizeLine∧(a == sysModules)=false ∧
  ∃ xs,KT H kvs xs∧h.DictOfH (tupleKind (aD P w)) a xs:=kY ok (.inl e)
end
noncomputable def nu (H:Hp) (a:Addr) (y:V) (r:Option V):Prop :=
 (∃ kvs k,Rd H a (.dK kvs)∧y=kV k∧r=br kvs k)∨∃ kvs k b,Rd H a (.dT kvs)∧y = .ref b∧H b=some (.tup (k.map kV))∧r=br kvs k
noncomputable def xQ (H:Hp) (a:Addr) (y v:V) (H':Hp):Prop :=
 (∃ kvs k,H a=some (.dK kvs)∧y=kV k∧kvs.length<sizeLine∧H'=upd H a (.dK (cP kvs k v))) ∨
 ∃ kvs k b,H a=some (.dT kvs)∧y = .ref b∧H b=some (.tup (k.map kV))∧kvs.length<sizeLine∧H'=upd H a (.dT (cP kvs k v))
section
variable {X:Cx} {pins:List (Addr×Obj)} {σ:St} {H:Hp} {s:Shared} {a:Addr} {y v:V} {u r:Value} {o:Option V} {A:Around} {E:Value→Shared→Prop}
theorem Inv.big (I:Inv X pins σ H s):sysModules<s.heap.objs.size:=by
 have h:mainGlobals<s.heap.objs.size:=(I.mod.glob.keeps I.bk).lt
 exact Nat.lt_trans (by decide) h
theorem pJ {Q:Value→Shared→Prop} (hu:A.units+1<cLine) (I:Inv X pins σ H s) (g:nu H a y (some v)) (ry:aA y u) (h:∀ w' s',Inv X pins σ H s'→aA v w'→Q w' s') :
  wpAny (model X.prog X.w) A (getItem (.ref a) u) Q E s:=by
 rcases g with ⟨kvs,k,e,ey,l⟩ | ⟨kvs,k,b,e,ey,eb,l⟩
 ·subst ey
  obtain ⟨z,hd,vs,rel,dd⟩:=kM I.hok e
  obtain ⟨w',hw,rw'⟩:=dX.some_of (v:=v) (o:=valueAt vs k) (by rw [l]; exact rel.val k)
  exact wpAny_getItem_of (eP ry) dd.mapOf hw (h w' _ (I.tok _) rw')
 ·subst ey
  cases (show u=Value.ref b from ry)
  obtain ⟨z,hd,xs,rel,dd⟩:=kY I.hok e
  obtain ⟨w',hw,rw'⟩:=dX.some_of (v:=v) (o:=(atKey xs k).map (·.2)) (by rw [l]; exact rel.val k)
  obtain ⟨p,hp,hp2⟩:=Option.map_eq_some_iff.mp hw
  refine wpAny_getItem_heap (tupleKind_room_in1 hu) (jC I.hok eb) dd hp ?_
  rw [hp2]
  exact h w' _ (I.tok _) rw'
theorem tN {Q:Value→Shared→Prop} (hu:A.units+1<cLine) (I:Inv X pins σ H s) (g:nu H a y o) (ry:aA y u) (h:∀ s',Inv X pins σ H s'→Q (.bool (!o.isSome)) s') :
  wpAny (model X.prog X.w) A (compareOp .NotIn u (.ref a)) Q E s:=by
 rcases g with ⟨kvs,k,e,ey,l⟩ | ⟨kvs,k,b,e,ey,eb,l⟩
 ·subst ey
  obtain ⟨z,hd,vs,rel,dd⟩:=kM I.hok e
  refine wpAny_notIn_of (eP ry) hd dd.mapOf ?_
  rw [← (rel.val k).isSome_eq,← l]
  exact h _ (I.tok _)
 ·subst ey
  cases (show u=Value.ref b from ry)
  obtain ⟨z,hd,xs,rel,dd⟩:=kY I.hok e
  refine wpAny_notIn_heap (tupleKind_room_in1 hu) (jC I.hok eb) hd dd ?_
  have q:=(rel.val k).isSome_eq
  rw [Option.isSome_map] at q
  rw [← q,← l]
  exact h _ (I.tok _)
theorem eQ {h':Heap} {t':Nat} {ob:HO} (I:Inv X pins σ H s) (mu:Mut (H a)) (hs:Heap.SameBut a s.heap h') (he:∃ q,h'.get? a=some q) (new:ba X.prog X.w (upd H a ob) h' a ob) :
  Inv X pins σ (upd H a ob) { s with heap:=h',toks:=t' } :=
 I.write (x:=a) (e:=a) mu (.inl rfl) (λb q hb z=>(hs.2 b hb).trans z) he new
theorem gY {P:Program} {w:World} {H':Hp} {h':Heap} {kvs:List (Key×V)} {vs:List (Key×Value)} (z:kvs.length≤sizeLine) (hd:(a == sysModules)=false) (rel:KV kvs vs) (dd:h'.DictOf (aD P w) a vs) :
  ba P w H' h' a (.dK kvs):=⟨z,hd,vs,rel,dd⟩
theorem pK {H':Hp} {Q:Unit→Shared→Prop} (hu:A.units+1<cLine) (I:Inv X pins σ H s) (g:xQ H a y v H') (ry:aA y u) (rv:aA v r) (h:∀ s',Inv X pins σ H' s'→Q () s') :
  wpAny (model X.prog X.w) A (setItem (.ref a) u r) Q E s:=by
 rcases g with ⟨kvs,k,e,ey,l,eH⟩ | ⟨kvs,k,b,e,ey,eb,l,eH⟩
 ·subst ey eH
  obtain ⟨z,hd,vs,rel,dd⟩:=kQ I.hok e
  have hz:vs.length≤sizeLine:=by rw [← rel.length]; exact z
  have hl:(cP kvs k v).length≤sizeLine:=by have:=cD kvs k v; omega
  refine wpAny_setItem_pairs (hsz:=hz) (eP ry) dd λh' dd' hs=>h _ ?_
  have he:∃ q,h'.get? a=some q:=let ⟨q,_,_,hq,_⟩:=dd'; ⟨q,hq⟩
  exact eQ I (by rw [e]; exact True.intro) hs he (gY hl hd (rel.put k rv) dd')
 ·subst ey eH
  cases (show u=Value.ref b from ry)
  obtain ⟨z,hd,xs,rel,dd⟩:=xP I.hok e
  have hz:xs.length≤sizeLine:=by rw [← Paired.length rel]; exact z
  have hl:(cP kvs k v).length≤sizeLine:=by have:=cD kvs k v; omega
  refine wpAny_setItem_heap (hsz:=hz) (tupleKind_room_in1 hu) (jC I.hok eb) dd λh' dd' hs=>h _ ?_
  obtain ⟨q,es,ep,hq,h2,h3,h4,_,h5⟩:=dd'
  refine eQ I (by rw [e]; exact True.intro) hs ⟨q,hq⟩ ⟨hl,hd,_,(rel.put k eb rv).keeps λc ys ec=>?_,q,es,ep,hq,h2,h3,h4,h5⟩
  rw [ag (xC ec e (λz=>nomatch z))]
  exact ec
end
section
variable {X:Cx} {pins:List (Addr×Obj)} {σ:St} {H:Hp} {s:Shared} {a:Addr} {kvs:List (Key×V)} {k:Key} {u:Value} {A:Around} {E:Value→Shared→Prop}
theorem xR {v:V} {more:List Value} {Q:Value→Shared→Prop} (I:Inv X pins σ H s) (e:H a=some (.dK kvs)) (ry:aA (kV k) u) (l:br kvs k=some v) (hm:more=[]∨∃ x,more=[x])
  (h:∀ w' s',Inv X pins σ (upd H a (.dK (cj kvs k))) s'→aA v w'→Q w' s'):wpAny (model X.prog X.w) A (call (.builtin "dict.pop") (.ref a :: u :: more)) Q E s:=by
 obtain ⟨z,hd,vs,rel,dd⟩:=kQ I.hok e
 obtain ⟨w',hw,rw'⟩:=dX.some_of (v:=v) (o:=valueAt vs k) (by rw [← l]; exact rel.val k)
 have hp:(keyPart u).isSome=true:=by
  cases k with
  | inl i=>obtain ⟨t,q⟩:=(show ∃ t,u=Value.int i t from ry); subst q; rfl
  | inr x=>obtain ⟨t,q⟩:=(show ∃ t,u=Value.str x t from ry); subst q; rfl
 have ha:argsOk "dict.pop" ⟨.ref a :: u :: more,[]⟩:=by
  rcases hm with q | ⟨x,q⟩
  ·subst q; exact PySem.F.args_dict_pop_2 _ _
  ·subst q; exact PySem.F.args_dict_pop_3 _ _ _
 refine call_meetsIn PySem.F.slot_dict_pop dd.typeIs PySem.F.entry_dict_pop ha (meets_dict_pop_there (aD X.prog X.w) a (eP ry) more hm hp)
  ⟨vs,w',dd,by rw [← rel.length]; exact z,hw,λh' dd' hs=>h w' _ ?_ rw'⟩
 have he:∃ q,h'.get? a=some q:=let ⟨q,_,_,hq,_⟩:=dd'; ⟨q,hq⟩
 exact eQ I (by rw [e]; exact True.intro) hs he (gY (Nat.le_trans (kK kvs k) z) hd (rel.drop k) dd')
theorem vS {r:Value} {Q:Value→Shared→Prop} (I:Inv X pins σ H s) (e:H a=some (.dK kvs)) (ry:aA (kV k) u) (l:br kvs k=none) (h:∀ s',Inv X pins σ H s'→Q r s') :
  wpAny (model X.prog X.w) A (call (.builtin "dict.pop") [.ref a,u,r]) Q E s:=by
 obtain ⟨z,hd,vs,rel,dd⟩:=kQ I.hok e
 have hn:valueAt vs k=none:=dX.none_of (by rw [← l]; exact rel.val k)
 have hp:(keyPart u).isSome=true:=by
  cases k with
  | inl i=>obtain ⟨t,q⟩:=(show ∃ t,u=Value.int i t from ry); subst q; rfl
  | inr x=>obtain ⟨t,q⟩:=(show ∃ t,u=Value.str x t from ry); subst q; rfl
 exact call_meetsIn PySem.F.slot_dict_pop dd.typeIs PySem.F.entry_dict_pop (PySem.F.args_dict_pop_3 _ _ _) (meets_dict_pop_default (aD X.prog X.w) a (eP ry) hd hp r) ⟨vs,dd,hn,h _ (I.tok _)⟩
end
noncomputable def xS (i:Expr):Prop:=∀ ov iv,subscripted i false ov iv=operate [ov,iv] (getItem ov iv)
theorem tO {prog:Program} {w:World} {A:Around} {E:Value→Shared→Prop} {s:Shared} {env:Env} {value slice:Expr} {pos:Pos} {T id:String} {Q:Value→Shared→Prop}
  (hl:typeLookup (.type T) "__getitem__" = pure (some (.builtin id))) (hs:xS slice)
  (h:wpAny (model prog w) A (eval value env) (λo s₁=>wpAny (model prog w) A (eval slice env) (λi s₂=>s₂.TypeIs o T∧wpAny (model prog w) A (getItem o i) Q E s₂) E s₁) E s) :
  wpAny (model prog w) A (eval (.Subscript value slice pos) env) Q E s:=by
 refine Subscript_ (wpAny_mono h (λo s₁ h₁=>wpAny_mono h₁ (λi s₂ h₂=>?_) λ_ _ x=>x) λ_ _ x=>x)
 obtain ⟨hT,h₂⟩:=h₂
 unfold subscriptTail
 refine wpAny_bind ?_
 rw [getitemInPython_of_ne hT.not_modules]
 refine wpAny_bind (wpAny_specialOf hT hl ?_)
 have fin:wpAny (model prog w) A (subscripted slice false o i) (λr s₃=>wpAny (model prog w) A (letTemporaryGo value o r >>= λ_=>pure r) Q E s₃) E s₂:=by
  rw [hs o i]
  exact wpAny_operating (wpAny_mono h₂ (λr s₃ h₃=>wpAny_bind (wpAny_letTemporaryGo (wpAny_pure h₃))) λ_ _ x=>x)
 first
  | exact wpAny_pure (wpAny_bind fin)
  | exact wpAny_bind (wpAny_pure (wpAny_bind fin))
  | exact wpAny_bind fin
theorem kZ {X:Cx} {pins:List (Addr×Obj)} {σ:St} {H:Hp} {s:Shared} {a:Addr} {y:V} {o:Option V} (I:Inv X pins σ H s) (g:nu H a y o):s.TypeIs (.ref a) "dict":=by
 rcases g with ⟨kvs,k,e,_,_⟩ | ⟨kvs,k,b,e,_,_,_⟩
 ·obtain ⟨_,_,vs,_,dd⟩:=kM I.hok e
  exact dd.typeIs
 ·obtain ⟨_,_,xs,_,dd⟩:=kY I.hok e
  exact dd.typeIs
noncomputable def xU (td ty:TE):TE:=λσ H Q=>td σ H λx H1=>ty σ H1 λy H2=>∃ a v,x = .ref a∧nu H2 a y (some v)∧Q v H2
noncomputable def tP (ty td:TE):TE:=λσ H Q=>ty σ H λy H1=>td σ H1 λx H2=>∃ a o,x = .ref a∧nu H2 a y o∧Q (.bl (!o.isSome)) H2
noncomputable def xV (td ty tv:TE):TS:=λD σ H=>tv σ H λv H1=>td σ H1 λx H2=>ty σ H2 λy H3=>∃ a H4,x = .ref a∧xQ H3 a y v H4∧D.nx σ H4
section
variable {X:Cx} {o i e value:Expr} {pos pos' tpos:Pos} {td ty tv:TE}
theorem cE (hu:X.A.units+1<cLine) (ho:PE X o td) (hi:PE X i ty) (hs:xS i):PE X (.Subscript o i pos) (xU td ty):=by
 intro pins s σ H Q I h
 refine tO PySem.F.slot_dict_getitem.lookup hs (thn (ho pins s σ H _ I h) λu s1 ⟨x,H1,I1,rx,q1⟩=>thn (hi pins s1 σ H1 _ I1 q1) λiv s2 hpt=>?_)
 obtain ⟨y,H2,I2,ry,a,v,ex,g,q2⟩:=hpt
 subst ex
 obtain rfl:u=Value.ref a:=rx
 exact ⟨kZ I2 g,pJ hu I2 g ry λw' s3 I3 rw'=>⟨v,H2,I3,rw',q2⟩⟩
theorem pL (hu:X.A.units+1<cLine) (hi:PE X i ty) (ho:PE X o td):PC X .NotIn i o (tP ty td):=by
 intro pins s σ H Q I h
 refine thn (hi pins s σ H _ I h) λiv s1 ⟨y,H1,I1,ry,q1⟩=>thn (ho pins s1 σ H1 _ I1 q1) λu s2 hpt=>?_
 obtain ⟨x,H2,I2,rx,a,ov,ex,g,q2⟩:=hpt
 subst ex
 obtain rfl:u=Value.ref a:=rx
 exact tN hu I2 g ry λs3 I3=>⟨.bl (!ov.isSome),H2,I3,rfl,q2⟩
theorem tQ (hu:X.A.units+1<cLine) (ho:PE X o td) (hi:PE X i ty) (hv:PE X value tv) (hs:swapsWith value (some (.Subscript o i pos')) pos.line X.env=pure false) :
  PS X (.Assign [.Subscript o i pos'] value pos) (xV td ty tv):=by
 intro pins s σ H D I h
 refine wpAny_Assign_Subscript (thn (hv pins s σ H _ I h) λr s1 ⟨v,H1,I1,rv,q1⟩=>thn (ho pins s1 σ H1 _ I1 q1) λu s2 ⟨x,H2,I2,rx,q2⟩=>thn (hi pins s2 σ H2 _ I2 q2) λiv s3 ⟨y,H3,I3,ry,a,H4,ex,g,q3⟩=>?_) hs
 subst ex
 obtain rfl:u=Value.ref a:=rx
 exact pK hu I3 g ry rv λs4 I4=>⟨σ,H4,I4,q3⟩
end
theorem lc {P:Program} {w:World} {H:Hp} (h:Heap) (hb:sysModules<h.objs.size):ba P w H (h.push { cls:=.type "dict",data:=.dict #[] }) h.objs.size (.dK []) :=
 ⟨Nat.zero_le _,beq_eq_false_iff_ne.mpr (Ne.symm (Nat.ne_of_lt hb)),[],.nil,Heap.DictOf.new h⟩
noncomputable def vU:TE:=λ_ H Q=>∀ p,H p=none→Q (.ref p) (upd H p (.dK []))
section
variable {X:Cx} {pos:Pos}
theorem qW:PE X (.Dict [] [] pos) vU:=λpins s σ H Q I h =>
 wpAny_Dict_empty ⟨.ref s.heap.objs.size,_,I.laid (a:=s.heap.objs.size) (o:=.dK []) (t':=s.toks) (λ_ _ q=>Heap.get?_push_of_some _ q) (Nat.le_refl _) (lc s.heap I.big),rfl,h _ (I.hok.fresh (Nat.le_refl _))⟩
end
structure M2 (X:Cx) (o:Expr) (m:Str) (apos:Pos) (e f:Expr) (cpos:Pos):Prop where
 base:attributeBase o m X.env (eval o X.env)=eval o X.env
 few:((backTo cpos (starEach [e,f] X.env)).all (λx=>!x.1) && (backToKw cpos (keywordEach [] X.env)).all (λx=>x.1.isSome)
  && decide (([e,f]:List Expr).length+([]:List Keyword).length+(if ([]:List Keyword).isEmpty then 0 else 1)<30))=true
 line:(apos.endLine == cpos.line)=true
 trees:backTo cpos (starEach [e,f] X.env)=[(false,eval e X.env),(false,eval f X.env)]
noncomputable def IsD (H:Hp) (a:Addr):Prop:=(∃ kvs,Rd H a (.dK kvs))∨∃ kvs,Rd H a (.dT kvs)
theorem vV {X:Cx} {pins:List (Addr×Obj)} {σ:St} {H:Hp} {s:Shared} {a:Addr} (I:Inv X pins σ H s) (d:IsD H a) :
  s.TypeIs (.ref a) "dict"∧(∀ b,Value.ref a = .ref b→∃ ob,s.heap.get? b=some ob∧ob.dict=none)∧(a == sysModules)=false:=by
 rcases d with ⟨kvs,e⟩ | ⟨kvs,e⟩
 ·obtain ⟨_,hd,vs,_,dd⟩:=kM I.hok e
  refine ⟨dd.typeIs,λb q=>?_,hd⟩
  cases q
  obtain ⟨ob,_,_,h1,h2,_⟩:=dd
  exact ⟨ob,h1,h2.2.1⟩
 ·obtain ⟨_,hd,xs,_,dd⟩:=kY I.hok e
  refine ⟨dd.typeIs,λb q=>?_,hd⟩
  cases q
  obtain ⟨ob,_,_,h1,h2,_⟩:=dd
  exact ⟨ob,h1,h2.2.1⟩
section
variable {X:Cx} {pins:List (Addr×Obj)} {σ:St} {H:Hp} {s:Shared} {a:Addr} {y d:V} {u r:Value} {o:Option V} {A:Around} {E:Value→Shared→Prop}
end
noncomputable def vW (td ty tx:TE):TE:=λσ H Q=>td σ H λx H1=>∃ a,x = .ref a∧IsD H1 a∧ty σ H1 λy H2=>tx σ H2 λz H3=>∃ kvs k,H3 a=some (.dK kvs)∧y=kV k ∧
 (∀ v,br kvs k=some v→Q v (upd H3 a (.dK (cj kvs k))))∧(br kvs k=none→Q z H3)
section
variable {X:Cx} {o e f:Expr} {apos cpos:Pos} {td ty tx:TE}
theorem qX (ho:PE X o td) (he:PE X e ty) (hf:PE X f tx) (m:M2 X o "pop" apos e f cpos):PE X (.Call (.Attribute o "pop" apos) [e,f] [] cpos) (vW td ty tx):=by
 intro pins s σ H Q I h
 refine wpAny_Call_method m.base m.few m.line PySem.F.plainAttrs_dict PySem.F.slot_dict_pop PySem.F.type_dict_pop (thn (ho pins s σ H _ I h) λu s1 hpt=>?_)
 obtain ⟨x,H1,I1,rx,a,ex,d,q1⟩:=hpt
 subst ex
 obtain rfl:u=Value.ref a:=rx
 obtain ⟨t1,t2,_⟩:=vV I1 d
 refine ⟨t1,t2,?_⟩
 rw [m.trees]
 refine Calls.callWith_builtin rfl (Calls.evalArgs_plain (Calls.spliced_cons (thn (he pins s1 σ H1 _ I1 q1) λiv s2 ⟨y,H2,I2,ry,q2⟩ =>
  Calls.spliced_cons (thn (hf pins s2 σ H2 _ I2 q2) λfv s3 ⟨z,H3,I3,rz,kvs,k,ea,ey,q3,q4⟩=>Calls.spliced_nil ?_))))
 subst ey
 cases l:br kvs k with
 | some v=>exact xR I3 ea ry l (.inr ⟨fv,rfl⟩) λw' s4 I4 rw'=>⟨v,_,I4,rw',q3 v l⟩
 | none=>exact vS I3 ea ry l λs4 I4=>⟨z,H3,I4,rz,q4 l⟩
end
section
variable {X:Cx} {pins:List (Addr×Obj)} {σ:St} {H:Hp} {s:Shared} {a:Addr} {kvs:List (Key×V)} {A:Around} {E:Value→Shared→Prop}
end
section
variable {X:Cx} {pins:List (Addr×Obj)} {σ:St} {H:Hp} {s:Shared} {a:Addr} {y:V} {u:Value} {A:Around} {E:Value→Shared→Prop}
end
end L2
namespace Att
open PySem PySem.W PySem.Calls PyProof.Rows
theorem gE {P:Params} {h:Heap}:∀ (ns:List Int) (vs:List Value),WellAll P h vs (ns.map WData.int)→IntsAre vs ns:=by
 intro ns
 induction ns with
 | nil =>
  intro vs w
  rw [List.map_nil] at w
  cases w
  exact .nil
 | cons n ns ih =>
  intro vs w
  rw [List.map_cons] at w
  cases w with
  | cons a b =>
   cases a
   exact .cons _ _ (ih _ b)
theorem pM {l:OpenLaw} {n:Nat} (hn:l.most=some n) {P:Params} {h:Heap} {args:List WData} {vals:List Value}
  (hpre:l.row.toRowW.claim.pre args=true) (hwl:WellAll P h vals args) :
  ∃ a vs ns,vals=[Value.ref a]∧args=[WData.list (ns.map WData.int)]∧h.get? a=some { cls:=.type "list",data:=.seq vs.toArray }∧IntsAre vs ns∧ns.length≤n:=by
 have hsh:WShape.hasAll [] args [.list .int]=true:=(pre_splitW hpre).1
 have hc:l.pre.holds [] { args:=args }=true:=(pre_splitW hpre).2
 obtain ⟨d,r,rfl,h1,h2⟩:=hasAllW_cons hsh
 obtain rfl:=hasAllW_nil h2
 obtain ⟨xs,rfl,h3⟩:=hasW_list h1
 obtain ⟨ns,rfl⟩:=items_int h3
 have hlen:ns.length≤n:=by
  unfold OpenLaw.pre at hc
  have h4:(WTm.not (.lt (.lit (.int (n:Int))) (.len (.arg 0)))).holds [] { args:=[.list (ns.map .int)] }=true:=by
   have h4:=(holds_andW hc).1
   rw [hn] at h4
   exact h4
  have h5:=condW_of h4 (w_not (w_lt w_lit (w_len_list (w_arg rfl))))
  rw [List.length_map] at h5
  refine Nat.le_of_not_lt λq=>?_
  have q':(n:Int)<((ns.length:Nat):Int):=by omega
  first
   | (rw [decide_eq_true q'] at h5; exact absurd h5 (by decide))
   | (simp at h5; omega)
 cases hwl with
 | cons w1 w2 =>
  cases w2
  cases w1 with
  | list ho hall=>exact ⟨_,_,ns,rfl,rfl,ho,gE ns _ hall,hlen⟩
theorem pN (l:OpenLaw) (args:List WData):l.row.toRowW.claim.post args (.bool true) args=true :=
 postW_of (r:=l.row.toRowW) (X:=(true == true))
  (show WShape.has [] (.bool true) .bool=true by first | rfl | decide | simp [WShape.has,WShape.arms,WShape.armsAll])
  (show (WTm.eq .res (.lit (.bool true))).value [] { args:=args,res:=some (.bool true),after:=args }=some (.bool (true == true)) from w_eq_bool (w_res rfl) w_lit) rfl
theorem lh {l:OpenLaw} {n:Nat} {q:Program} {loose:List Str} {XP:(Str→Option Value)→Heap→Prop} {YP:World→Heap→Prop} {d:DefRec}
  (hn:l.most=some n) (hdf:d.params.defaults=[])
  (call:∀ (w:World) (s₀ s₁:Shared) (mg mb:Str→Option Value) (fa:Addr) (o:Obj) (pm cd doc:Value) (a:Addr) (vs:List Value) (ns:List Int),
   Ground q loose [] XP w s₀ mg mb s₁.heap→YP w s₁.heap →
   s₁.heap.get? fa=some o→o.data = .func (docDef d.name d.params d.body d.scope pm cd doc)→s₁.heap.CodeRec cd d.name→mg d.name=some (.ref fa) →
   s₁.heap.get? a=some { cls:=.type "list",data:=.seq vs.toArray }→IntsAre vs ns→ns.length≤n→s₁.gens = #[] →
   codeAny (model l.prog w) callerA (.call (.ref fa) ⟨[.ref a],[]⟩) (λr s'=>r = .ok (.ret (.bool true))∧OldK s₁.heap s'.heap∧s'.os=s₁.os∧AllBare s'.gens) s₁) :
  WalkO q loose XP YP l.row.toRowW d [] (λf vs=>PySem.call f vs):=by
 intro w s₀ s₁ mg mb G Y fa o pm cd doc dV kV ho hd hcd hD hmg hg args vals as hpre hlay hrd hwl hlo
 obtain rfl:dV = .none:=Dflts.none hD hdf
 obtain rfl:kV = .none:=Dflts.noKw hD
 obtain ⟨a,vs,ns,rfl,rfl,hobj,hints,hlen⟩:=pM hn hpre hwl
 refine enter_call (codeAny_mono (call w s₀ s₁ mg mb fa o pm cd doc a vs ns G Y ho (fd_plain hd) hcd hmg hobj hints hlen hg) λr s' hq=>?_)
 obtain ⟨rfl,h2,h3,h4⟩:=hq
 exact ⟨.inl ⟨.bool true,.bool true,[],rfl,λ_=>rfl,.bool true,pN l _,λ_=>⟨List.Pairwise.nil,λ_ hm=>(nomatch hm)⟩⟩,h2,h3,h4⟩
section
variable {prog:Program} {w:World} {A:Around} {E:Value→Shared→Prop} {s:Shared} {K:Frag}
end
end Att
namespace L2
open PySem PySem.Spec PyProof.Rows
theorem jc:∀ {vs:List Value} {ns:List Int},IntsAre vs ns→au (ns.map V.int) vs
 | _,_,.nil=>.nil
 | _,_,.cons n t h=>.cons ⟨t,rfl⟩ (jc h)
noncomputable def di (s:Stmt):Arguments:=match s with
 | .FunctionDef _ a _ _ _ _ _ _ _ _=>a
 | _=>{ posonlyargs:=[],args:=[],vararg:=none,kwonlyargs:=[],kw_defaults:=[],kwarg:=none,defaults:=[] }
noncomputable def bK (s:Stmt):List Stmt:=match s with
 | .FunctionDef _ _ b _ _ _ _ _ _ _=>b
 | _=>[]
noncomputable def ak (s:Stmt):Scope:=match s with
 | .FunctionDef _ _ _ _ _ _ sc _ _ _=>sc
 | _=>{ kind:=.function,names:=[],isGenerator:=false,isCoroutine:=false }
noncomputable abbrev CX0:CXT:=λ_ _ _ _ _ _=>False
noncomputable abbrev E0:XK:=λ_ _ _=>False
theorem aV {X:Cx}:gU CX0 X E0:=λ_ _ _ _ _ _ _ h=>h.elim
structure Fun (K:PySem.W.Frag) (x qual:Str) (st:Stmt) (f:Addr) (fd:FuncData):Prop where
 ex:∃ (oc:Value) (od:Option Addr) (kV doc pm:Value) (an:Option Addr) (cdv ct:Value) (osl:Array (Option Value)),
  fd=PySem.W.fnOf x qual (di st) (bK st) (ak st) .none kV doc pm an cdv ct∧K.lookup f=some ⟨oc,od,.func fd,osl⟩∧PySem.W.codeIn K cdv qual=true
 kp:PySem.W.keepIn K (.ref f)=true
section
variable {P:Program} {w:World} {K:PySem.W.Frag} {mg:Str→Option Value} {base:Heap}
theorem Fun.ok {x qual:Str} {st:Stmt} {f:Addr} {fd:FuncData} {N ps:List Str} {k:Nat} {sp:Sp} (F:Fun K x qual st f fd) (S:FnScope N ps (ak st)) (len:∀ vs H Q E,sp vs H Q E→vs.length=ps.length)
  (hbody:∀ (cdv:Value) (A:Around) (outer:List Env) (s:Shared) (H:Hp) (vs:List V) (Q:VK) (E:XK),Room k (A.deeper (envOfC qual (ak st) s.heap.objs.size f cdv))→sp vs H Q E →
   ∃ t,PSs (iF CX0 P w K mg base N qual (ak st) f cdv A outer s H E).nox (bK st) t∧t { nx:=λ_ H'=>Q .non H',rt:=Q } (start N vs) H):FnOk P w K mg base CX0 (k+1) f fd ps sp:=by
 obtain ⟨oc,od,kV,doc,pm,an,cdv,ct,osl,rfl,lk,hcd⟩:=F.ex
 refine qN lk hcd S len λA outer s H vs Q E hr hsp=>?_
 obtain ⟨t,h,q⟩:=hbody cdv A outer s H vs Q E hr hsp
 exact ⟨t,h.nox,q⟩
theorem Fun.binds {x qual:Str} {st:Stmt} {f:Addr} {fd:FuncData} {ps:List Str} (F:Fun K x qual st f fd)
  (h:∀ (kV doc pm:Value) (an:Option Addr) (cdv ct:Value) (us:List Value),us.length=ps.length→bindArgs (PySem.W.fnOf x qual (di st) (bK st) (ak st) .none kV doc pm an cdv ct) ⟨us,[]⟩=pure (ps.zip us)):bq K fd ps []:=by
 obtain ⟨oc,od,kV,doc,pm,an,cdv,ct,osl,rfl,lk,hcd⟩:=F.ex
 exact .all (h kV doc pm an cdv ct)
theorem vX {x qual:Str} {st:Stmt} {f:Addr} {oc:Value} {od an:Option Addr} {osl:Array (Option Value)} {kV doc pm cdv ct:Value} (l:K.lookup f=some ⟨oc,od,.func (PySem.W.fnOf x qual (di st) (bK st) (ak st) .none kV doc pm an cdv ct),osl⟩)
  (c:PySem.W.codeIn K cdv qual=true) (k:PySem.W.keepIn K (.ref f)=true):Fun K x qual st f (PySem.W.fnOf x qual (di st) (bK st) (ak st) .none kV doc pm an cdv ct):=⟨⟨oc,od,kV,doc,pm,an,cdv,ct,osl,rfl,l,c⟩,k⟩
end
theorem dB {A:Around} {k:Nat} (hr:Room k A):A.units+1<cLine:=Nat.lt_of_le_of_lt (Nat.add_le_add_left (by decide:1≤64) _) hr.units
theorem aQ {n:Nat} (h:n≤1000):n<sizeLine:=Nat.lt_of_le_of_lt h (by decide)
section
variable {X:Cx}
theorem pv (i:Nat) {x:Str} {pos:Pos} (hN:X.N[i]? = some x:=by rfl) (hv:Vis X.env.scope x:=by first | exact Or.inl rfl | exact Or.inr (Or.inl rfl) | exact Or.inr (Or.inr rfl)) (hd:(x == ("__debug__":Str))=false:=by decide)
  (hcd:(x == ("__classdict__":Str))=false:=by decide):PE X (.Name x pos) (qC i):=vB hN hv hd hcd
end
theorem aM {A B:Prop} (h:B):if false=true then A else B:=by
 rw [if_neg Bool.false_ne_true]
 exact h
theorem av {A B:Prop} (h:A):if true=true then A else B:=by
 rw [if_pos rfl]
 exact h
theorem xW {c A B:Prop} [Decidable c] (h1:c→A) (h2:¬ c→B):if c then A else B:=by
 by_cases h:c
 ·rw [if_pos h]
  exact h1 h
 ·rw [if_neg h]
  exact h2 h
theorem xX {c A B:Prop} [Decidable c] (hc:c) (h:B):if (!decide c)=true then A else B:=by
 rw [decide_eq_true hc]
 exact aM h
noncomputable def Same (H H':Hp):Prop:=∀ b o,H b=some o→H' b=some o
theorem Same.refl (H:Hp):Same H H:=λ_ _ h=>h
theorem Same.trans {H H1 H2:Hp} (a:Same H H1) (b:Same H1 H2):Same H H2:=λc o h=>b c o (a c o h)
theorem Same.free {H H':Hp} (e:Same H H') {l:Addr} (h:H' l=Option.none):H l=Option.none:=by
 cases q:H l with
 | none=>rfl
 | some o =>
  rw [e l o q] at h
  cases h
theorem Same.seq {K:PySem.W.Frag} {H H':Hp} {a:Addr} {xs:List V} (e:Same H H') (h:SqL K H a xs):SqL K H' a xs:=by
 rcases h with (h | ⟨o,h⟩) | h
 ·exact .inl (.inl (e _ _ h))
 ·exact .inl (.inr ⟨o,e _ _ h⟩)
 ·exact .inr h
section
variable {κ:Type} [DecidableEq κ]
theorem pO {p:κ×V} {r:List (κ×V)} {k:κ} (e:p.1=k):cj (p :: r) k=cj r k:=by
 unfold cj
 rw [List.filter_cons,if_neg (by simp [e])]
theorem pP {p:κ×V} {r:List (κ×V)} {k:κ} (e:¬ p.1=k):cj (p :: r) k=p :: cj r k:=by
 unfold cj
 rw [List.filter_cons,if_pos (by simp [e])]
end
structure LcOk (X:Cx) (scope:Scope) (cl:List (Str×Addr)):Prop where
 kind:scope.kind = .function
 clos:closureFor scope X.env=pure cl
 names:∀ x∈scope.names,x.2 = .local→scope.names.lookup x.1=some .local
 nocell:∀ x∈scope.names,x.2 ≠ .cell
 cells:∀ x c,cl.lookup x=some c→X.env.cells.lookup x=some c
 has:∀ x,((relabel scope X.env).names.lookup x=some .cell∨(relabel scope X.env).names.lookup x=some .free)→∃ c,cl.lookup x=some c
noncomputable abbrev cK (X:Cx) (N:List Str) (scope:Scope) (cl:List (Str×Addr)) (s:Shared) (H:Hp) (ex:List Addr):Cx :=
 { X with N:=N,s₀:=s,H₀:=H,env:=compEnvC scope cl s.heap.objs.size X.env,outer:=X.stack,stack:=X.stack,ex:=ex,fn:=λ_=>false,pn:=[],xe:=λ_ _=>False }
section
variable {X:Cx} {pins:List (Addr×Obj)} {σ:St} {H:Hp} {s:Shared} {N:List Str} {scope:Scope} {cl:List (Str×Addr)} {fp:List Addr}
theorem vh (I:Inv X pins σ H s) (L:LcOk X scope cl) (hf:∀ b∈fp,gB X pins H b) (ho:∀ b∈fp,b<s.heap.objs.size):(cK X N scope cl s H fp).Ok where
 mod:=I.ok.mod
 kind:=L.kind
 glob:=I.ok.glob
 blt:=I.ok.blt
 above:=Nat.le_refl _
 inj:=λx y c h1 h2=>I.ok.inj x y c (L.cells x c h1) (L.cells y c h2)
 has:=λx hx=>L.has x hx
 cab:=λx c h _=>absurd h (by simp)
 hd:=I.ok.hd
 frames:=I.ok.frames
 stk:=.inl rfl
 exf:=λb hb=>⟨Nat.ne_of_lt (ho b hb),λx c h=>(hf b hb).2.2.2.2.1 x c (L.cells x c h)⟩
 bs:=I.bs
 bsz:=Nat.le_trans I.ok.bsz I.sz
 noex:=λb o e hb=>by
  rcases (hf b hb).2.2.2.1 with z | z
  ·exact I.ok.noex b o e z
  ·exact absurd (Nat.lt_of_lt_of_le (Heap.lt_size e) (Nat.le_trans I.ok.bsz z)) (Nat.lt_irrefl _)
 exfs:=λb hb hs=>by
  rcases List.mem_cons.mp (I.stkSub b hs) with z | z
  ·exact (hf b hb).2.1 z
  ·exact (hf b hb).2.2.1 z
 funs:=I.stack
 frf:=I.stkFree
noncomputable def cu (k:Nat) (js:List Nat) (σ:St):St:=List.replicate k none++js.map λj=>(σ[j]?).getD none
theorem qY {h₁:Heap} {tk:Nat} {k:Nat} {js:List Nat} (I:Inv X pins σ H s) (L:LcOk X scope cl) (hf:∀ b∈fp,gB X pins H b) (ho:∀ b∈fp,b<s.heap.objs.size)
  (hns:∃ m,h₁.Ns s.heap.objs.size m) (hk:∀ b o,s.heap.get? b=some o→h₁.get? b=some o)
  (hN:N.length=k+js.length) (hj:∀ (i j:Nat) x,js[i]? = some j→N[k+i]? = some x→X.N[j]? = some x∧Vis X.env.scope x∧X.env.scope.names.lookup x≠some .local∧((relabel scope X.env).names.lookup x=some .cell∨(relabel scope X.env).names.lookup x=some .free)) :
  Inv (cK X N scope cl s H fp) [] (cu k js σ) H { s with heap:=h₁,toks:=tk }:=by
 obtain ⟨m,hm⟩:=hns
 have cellK:∀ c v,s.heap.IsCell c v→h₁.IsCell c v:=λc v ⟨o,e,d⟩=>⟨o,hk c o e,d⟩
 refine ⟨vh I L hf ho,rfl,I.bare,Un.kept hk,⟨m,hm,λi x v e1 e2 e3=>?_⟩,λx c e=>?_,I.hok.fresh (Nat.le_refl _),λx c e=>I.freeC x c (L.cells x c e),λp hp=>absurd (show p∈([]:List (Addr×Obj)) from hp) (by simp),I.hok.kept hk,?_⟩
 ·unfold cu at e2
  by_cases hi:i<k
  ·rw [List.getElem?_append_left (by simpa using hi),List.getElem?_replicate] at e2
   split at e2 <;> cases e2
  ·obtain ⟨i',rfl⟩:∃ i',i=k+i':=⟨i - k,by omega⟩
   rw [List.getElem?_append_right (by simp),List.length_replicate,Nat.add_sub_cancel_left,List.getElem?_map] at e2
   cases ej:js[i']? with
   | none=>rw [ej] at e2; cases e2
   | some j =>
    rw [ej] at e2
    have e2':(σ[j]?).getD none=some v:=Option.some.inj e2
    obtain ⟨h1,h2,h3,h4⟩:=hj i' j x ej e1
    have e4:σ[j]? = some (some v):=by
     cases q:σ[j]? with
     | none=>rw [q] at e2'; cases e2'
     | some y=>rw [q] at e2'; exact congrArg some e2'
    obtain ⟨m0,_,hl⟩:=I.loc
    obtain ⟨u,r,lk⟩:=hl j x v h1 e4 h2
    refine ⟨u,r,.inr ⟨h4,?_⟩⟩
    rcases lk with ⟨q,_⟩ | ⟨_,c,e5,e6⟩
    ·exact absurd q h3
    ·obtain ⟨c',e7⟩:=L.has x h4
     have:c'=c:=Option.some.inj ((L.cells x c' e7).symm.trans e5)
     subst this
     exact ⟨c',e7,cellK c' _ e6⟩
 ·obtain ⟨v,e1⟩:=I.cell x c (L.cells x c e)
  exact ⟨v,cellK c v e1⟩
 ·unfold cu
  rw [List.length_append,List.length_replicate,List.length_map]
  exact hN.symm
theorem vY {H':Hp} {σ':St} {s':Shared} {h':Heap} (I:Inv X pins σ H s) (hf:∀ b∈fp,gB X pins H b) (J:Inv (cK X N scope cl s H fp) [] σ' H' s') (hs:Heap.SameBut s.heap.objs.size s'.heap h'):Inv X pins σ H' { s' with heap:=h' }:=by
 have ne:∀ b o,s.heap.get? b=some o→b≠s.heap.objs.size:=λb o e=>Nat.ne_of_lt (Heap.lt_size e)
 have u:=J.base
 have u':Un (frs X.stack) fp H H' s.heap h' :=
  ⟨λb o e n hb hx=>(hs.2 b (ne b o e)).trans (u.keep b o e n hb hx),λb o e n hb hx=>by
   obtain ⟨sl,q⟩:=u.slot b o e n hb hx
   exact ⟨sl,(hs.2 b (ne b o e)).trans q⟩,u.free,λb o e hx=>by
   obtain ⟨o',q⟩:=u.there b o e hx
   exact ⟨o',(hs.2 b (ne b o e)).trans q⟩,u.tups,u.frzs,u.tbls⟩
 have nt:∀ b o,H' b=some o→b≠s.heap.objs.size:=λb o e z=>by
  have:=J.free
  rw [show (cK X N scope cl s H fp).env.locals=s.heap.objs.size from rfl,← z,e] at this
  cases this
 refine I.call' (s':={ s' with heap:=h' }) J.os u' (λb o e=>?_) J.bare λb hb=>?_
 ·refine (J.hok b o e).stay (λc v hc q=>(hs.2 c ?_).trans q) (λ_ q=>q) λ_ _ q=>q
  rcases hc with z | z
  ·rw [z]; exact nt b o e
  ·exact nt c _ z
 ·obtain ⟨f0,f1,f2,f3,f4,f5⟩:=hf b hb
  exact ⟨f3,f1,f4,f5⟩
end
section
variable {prog:Program} {w:World} {A:Around} {R:Result→Shared→Prop} {s:Shared}
noncomputable def ocW (prog:Program) (w:World) (A:Around) (oc:Option Expr) (env:Env) (K:Bool→Shared→Prop) (s:Shared):Prop:=match oc with
 | none=>K true s
 | some c=>wpAny (model prog w) A (isTrue c env (eval c env)) K (λ_ _=>False) s
theorem gZ (elt target iter c:Expr) (scope:Scope) (pos:Pos) (it acc:Value) (env:Env) :
  compTurn (.ListComp elt [⟨target,iter,[c],0⟩] scope pos) 0 it acc env=(standAt iter.pos >>= λ_=>pyNext it >>= λr=>match r with
   | none=>pure (.done .next)
   | some v=>letOwnedTupleGo target it v >>= λ_=>assign target env v >>= λ_ =>
    (forIn [c] true λc r=>if r=true then do let ok ← isTrue c env (eval c env); pure (ForInStep.yield ok) else pure (ForInStep.yield r)) >>= λok =>
    if ok=true then (eval elt env >>= λx=>call (.builtin "list.append") [acc,x] >>= λ_=>pure ()) >>= λ_ =>
     again (.compLoop (.ListComp elt [⟨target,iter,[c],0⟩] scope pos) 0 it acc env)
    else again (.compLoop (.ListComp elt [⟨target,iter,[c],0⟩] scope pos) 0 it acc env)):=by rfl
theorem tR {elt target iter:Expr} {oc:Option Expr} {scope:Scope} {pos:Pos} {it acc:Value} {env:Env} (I:Nat→Shared→Prop)
  (turn:∀ n s,I n s→wpAny (model prog w) A (pyNext it) (λr s₁=>match r with
   | none=>R (.ok .next) s₁
   | some v=>wpAny (model prog w) A (letOwnedTupleGo target it v) (λ_ s₂=>wpAny (model prog w) A (assign target env v) (λ_ s₃=>ocW prog w A oc env (λok s₃ =>
     if ok=true then wpAny (model prog w) A (eval elt env) (λx s₄ =>
      wpAny (model prog w) A (call (.builtin "list.append") [acc,x]) (λ_ s₅=>∃ m,m<n∧I m s₅) (λ_ _=>False) s₄) (λ_ _=>False) s₃
     else ∃ m,m<n∧I m s₃) s₃) (λ_ _=>False) s₂) (λ_ _=>False) s₁) (λ_ _=>False) s)
  (n:Nat) (h:I n s):codeAny (model prog w) A (.compLoop (.ListComp elt [⟨target,iter,oc.toList,0⟩] scope pos) 0 it acc env) R s:=by
 refine codeAny_loop rfl I (λn s hI=>?_) n h
 show wpAny _ _ ((compTurn (.ListComp elt [⟨target,iter,oc.toList,0⟩] scope pos) 0 it acc env).onRaise (λx=>do noteFrame x env; theTreesLotGoes x)) _ _ s
 refine wpAny_noted ?_
 cases oc with
 | none =>
  rw [show (none:Option Expr).toList=[] from rfl,compTurn_list1]
  refine wpAny_bind (wpAny_standAt (wpAny_bind (wpAny_mono (turn n s hI) (λr s₁ h₁=>?_) λ_ _ h'=>h'.elim)))
  cases r with
  | none=>exact wpAny_pure h₁
  | some v =>
   refine wpAny_bind (wpAny_mono h₁ (λ_ s₂ h₂=>wpAny_bind (wpAny_mono h₂ (λ_ s₃ h₃=>?_) λ_ _ h'=>h'.elim)) λ_ _ h'=>h'.elim)
   exact wpAny_bind (wpAny_bind (wpAny_mono (show wpAny _ _ _ _ _ _ from h₃) (λx s₃ h₃=>wpAny_bind (wpAny_mono h₃ (λ_ s₄ h₄=>wpAny_pure (wpAny_pure ⟨rfl,h₄⟩)) λ_ _ h'=>h'.elim)) λ_ _ h'=>h'.elim))
 | some c =>
  rw [show (some c).toList=[c] from rfl,gZ]
  refine wpAny_bind (wpAny_standAt (wpAny_bind (wpAny_mono (turn n s hI) (λr s₁ h₁=>?_) λ_ _ h'=>h'.elim)))
  cases r with
  | none=>exact wpAny_pure h₁
  | some v =>
   refine wpAny_bind (wpAny_mono h₁ (λ_ s₂ h₂=>wpAny_bind (wpAny_mono h₂ (λ_ s₃ h₃=>?_) λ_ _ h'=>h'.elim)) λ_ _ h'=>h'.elim)
   rw [List.forIn_cons]
   simp only [if_true]
   refine wpAny_bind (wpAny_bind (wpAny_bind (wpAny_mono (show wpAny _ _ _ _ _ _ from h₃) (λok s₄ h₄=>wpAny_pure ?_) λ_ _ h'=>h'.elim)))
   simp only [List.forIn_nil]
   refine wpAny_pure ?_
   cases ok with
   | true=>exact wpAny_bind (wpAny_bind (wpAny_mono (show wpAny _ _ _ _ _ _ from h₄) (λx s₃ h₃=>wpAny_bind (wpAny_mono h₃ (λ_ s₄ h₄=>wpAny_pure (wpAny_pure ⟨rfl,h₄⟩)) λ_ _ h'=>h'.elim)) λ_ _ h'=>h'.elim))
   | false=>exact wpAny_pure ⟨rfl,h₄⟩
end
noncomputable def LcW (k:Nat) (js:List Nat) (g:TG) (te:TE) (σ:St) (Q:VK) (J:It) (H1:Hp) (p:Addr):Prop:=∃ W:Nat→Nat→List V→St→Hp→Prop,
 (∃ m,W 0 m [] (cu k js σ) (upd H1 p (.lst [])))∧∀ i m ys σ' H',W i m ys σ' H'→(J.stop i H'∧Q (.ref p) H') ∨
  (J.go i H'∧ys.length<sizeLine∧∀ x H2,J.yld i H' x H2→g x σ' H2 λσ2 H3=>te σ2 H3 λy H4=>H4 p=some (.lst ys)∧∃ m',m'<m∧W (i+1) m' (ys++[y]) σ2 (upd H4 p (.lst (ys++[y]))))
noncomputable def tLc (k:Nat) (js:List Nat) (wi:TI) (g:TG) (te:TE):TE:=λσ H Q=>wi σ H λJ H1=>∀ p,H1 p=none→LcW k js g te σ Q J H1 p
noncomputable def vZ (k:Nat) (js:List Nat) (g:TG) (tc:TT) (te:TE) (σ:St) (Q:VK) (J:It) (H1:Hp) (p:Addr):Prop:=∃ W:Nat→Nat→List V→St→Hp→Prop,
 (∃ m,W 0 m [] (cu k js σ) (upd H1 p (.lst [])))∧∀ i m ys σ' H',W i m ys σ' H'→(J.stop i H'∧Q (.ref p) H') ∨
  (J.go i H'∧ys.length<sizeLine∧∀ x H2,J.yld i H' x H2→g x σ' H2 λσ2 H3=>tc σ2 H3 λb H4=>if b=true then te σ2 H4 λy H5=>H5 p=some (.lst ys)∧∃ m',m'<m∧W (i+1) m' (ys++[y]) σ2 (upd H5 p (.lst (ys++[y])))
   else ∃ m',m'<m∧W (i+1) m' ys σ2 H4)
noncomputable def ocT (X:Cx) (oc:Option Expr) (tc:TT):Prop:=match oc with
 | none=>∀ σ H K,tc σ H K→K true H
 | some c=>PT X c tc
theorem tS {X:Cx} {oc:Option Expr} {tc:TT} {pins:List (Addr×Obj)} {s:Shared} {σ:St} {H:Hp} {K:Bool→Hp→Prop} {K':Bool→Shared→Prop} (h:ocT X oc tc) (hx:X.xe=λ_ _=>False) (I:Inv X pins σ H s) (q:tc σ H K) (m:∀ b s',TP X pins σ K b s'→K' b s'):ocW X.prog X.w X.A oc X.env K' s:=by
 cases oc with
 | none=>exact m true s ⟨H,I,h σ H K q⟩
 | some c=>exact wpAny_mono (h pins s σ H K I q) m λ_ _ e=>by rw [hx] at e; exact e
section
variable {X:Cx} {N:List Str} {scope:Scope} {cl:List (Str×Addr)} {k:Nat} {js:List Nat}
theorem tT {elt tg iter:Expr} {oc:Option Expr} {pos q:Pos} {wi:TI} {g:TG} {tc:TT} {te:TE} {use:Option (Value→Sem Unit)} {Qc:Value→Shared→Prop} {Q:VK} {pins:List (Addr×Obj)} {s:Shared} {σ:St} {H:Hp} (hc:X.calm=true) (L:LcOk X scope cl) (hN:N.length=k+js.length)
  (hj:∀ (i j:Nat) x,js[i]? = some j→N[k+i]? = some x→X.N[j]? = some x∧Vis X.env.scope x∧X.env.scope.names.lookup x≠some .local∧((relabel scope X.env).names.lookup x=some .cell∨(relabel scope X.env).names.lookup x=some .free))
  (hi:PI X tg iter wi) (hg:∀ s H fp,PG (cK X N scope cl s H fp) tg g) (ht:∀ s H fp,ocT (cK X N scope cl s H fp) oc tc) (he:∀ s H fp,PE (cK X N scope cl s H fp) elt te)
  (hs:∀ x,foldedSetIterable iter X.env x=pure x) {Lw:It→Hp→Addr→Prop} (hL:∀ J H1 p,Lw J H1 p→vZ k js g tc te σ Q J H1 p) (I:Inv X pins σ H s) (h:wi σ H λJ H1=>∀ p,H1 p=none→Lw J H1 p)
  (fin:∀ {s0 s4:Shared} {Hx H3:Hp} {σ4:St} {fp:List Addr} {p:Addr},Inv X pins σ Hx s0→(∀ b∈fp,gB X pins Hx b)→Inv (cK X N scope cl s0 Hx fp) [] σ4 H3 s4→Q (.ref p) H3→compPost (model X.prog X.w) X.A X.xe use Qc (.ref p) s0.heap.objs.size (.ok .next) s4) :
  wpAny (model X.prog X.w) X.A (comprehension (.ListComp elt [⟨tg,iter,oc.toList,0⟩] scope pos) scope X.env q (newList []) false (eval iter X.env) use) Qc X.xe s:=by
 refine wpAny_comprehension_free rfl hs L.clos L.kind L.names ?_
 refine thn (hi pins s σ H _ I h) λv s1 h1=>thn h1 λitv s2 h2=>?_
 obtain ⟨it,fp,tn,J,H2,e,I2,T,st2,f2,hW⟩:=h2
 subst e
 have hfp:∀ b∈fp,b<s2.heap.objs.size:=λb hb=>by
  obtain ⟨o,e,_⟩:=T.obj _ _ st2 b hb
  exact Heap.lt_size e
 refine wpAny_newObj_type (wpAny_newFunctionEnv L.nocell (by intro y hy; simp at hy) (λh₁ hns hsb=>?_) L.kind)
 dsimp only at hns hsb ⊢
 obtain ⟨W,⟨m0,w0⟩,turn⟩:=hL _ _ _ (hW s2.heap.objs.size (I2.hok.fresh (Nat.le_refl _)))
 have I3:Inv X pins σ (upd H2 s2.heap.objs.size (.lst [])) { s2 with heap:=s2.heap.push { cls:=.type "list",dict:=none,data:=.seq ([]:List Value).toArray } }:=I2.lnew (t':=s2.toks) .nil (Nat.zero_le _)
 generalize hA:s2.heap.push { cls:=.type "list",dict:=none,data:=.seq ([]:List Value).toArray }=hpA at hns hsb I3 ⊢
 have hszA:hpA.objs.size=s2.heap.objs.size+1:=by rw [← hA,Heap.size_push]
 have keepA:∀ b o,s2.heap.get? b=some o→hpA.get? b=some o:=λb o e=>by rw [← hA]; exact Heap.get?_push_of_some _ e
 have f3:∀ b∈fp,gB X pins (upd H2 s2.heap.objs.size (.lst [])) b:=λb hb=>⟨by rw [ag (Nat.ne_of_lt (hfp b hb))]; exact (f2 b hb).1,(f2 b hb).2⟩
 have hfp3:∀ b∈fp,b<hpA.objs.size:=λb hb=>by rw [hszA]; exact Nat.lt_succ_of_lt (hfp b hb)
 have keep1:∀ b o,hpA.get? b=some o→h₁.get? b=some o:=λb o e=>hsb.extBut b o (Nat.ne_of_lt (Heap.lt_size e)) (Heap.get?_push_of_some _ e)
 have J0:=qY (N:=N) (k:=k) (js:=js) (tk:=s2.toks+([]:List (Str×Value)).length) I3 L f3 hfp3 ⟨_,hns⟩ keep1 hN hj
 have st1:tn 0 h₁:=T.keep _ _ _ st2 λb hb o e=>keep1 b o (keepA b o e)
 have stat:∀ {H':Hp},(∀ b∈fp,H' b=none)→∀ b∈fp,gB (cK X N scope cl { s2 with heap:=hpA } (upd H2 s2.heap.objs.size (.lst [])) fp) [] H' b:=λhn b hb =>
  ⟨hn b hb,Nat.ne_of_lt (hfp3 b hb),(vh (N:=N) I3 L f3 hfp3).exfs b hb,.inl hb,λx c h=>(f3 b hb).2.2.2.2.1 x c (L.cells x c h),λp hp=>absurd (show p∈([]:List (Addr×Obj)) from hp) (by simp)⟩
 have loop:codeAny (model X.prog X.w) X.A (.compLoop (.ListComp elt [⟨tg,iter,oc.toList,0⟩] scope pos) 0 (.ref it) (.ref s2.heap.objs.size) (compEnvC scope cl hpA.objs.size X.env))
   (compPost (model X.prog X.w) X.A X.xe use Qc (.ref s2.heap.objs.size) hpA.objs.size) { s2 with heap:=h₁,toks:=s2.toks+([]:List (Str×Value)).length }:=by
  refine tR (λn s'=>∃ i ys σ' H',Inv (cK X N scope cl { s2 with heap:=hpA } (upd H2 s2.heap.objs.size (.lst [])) fp) [] σ' H' s'∧tn i s'.heap∧(∀ b∈fp,H' b=none)∧W i n ys σ' H') ?_ m0 ⟨0,[],_,_,J0,st1,λb hb=>(f3 b hb).1,w0⟩
  rintro n s3 ⟨i,ys,σ3,H3,J3,st3,fr3,w3⟩
  rcases turn i n ys σ3 H3 w3 with ⟨stop,qn⟩ | ⟨go,hlen,step⟩
  ·refine thn (T.done (cK X N scope cl { s2 with heap:=hpA } (upd H2 s2.heap.objs.size (.lst [])) fp) rfl rfl rfl hc i [] s3 σ3 H3 (λ_ _=>False) J3 (stat fr3) st3 stop) λr s4 hpt=>?_
   obtain ⟨hr,J4⟩:=hpt
   subst hr
   exact fin I3 f3 J4 qn
  ·refine thn (T.item (cK X N scope cl { s2 with heap:=hpA } (upd H2 s2.heap.objs.size (.lst [])) fp) rfl rfl rfl hc i [] s3 σ3 H3 (λ_ _=>False) J3 (stat fr3) st3 go) λr s4 hpt=>?_
   obtain ⟨u,hr,h4⟩:=hpt
   subst hr
   refine thn h4 λ_ s5 hpt=>?_
   obtain ⟨x,H5,J5,r5,y5,st5,fr5⟩:=hpt
   have J5':=J5.pinned (stat fr5) (T.obj _ _ st5)
   refine thn (hg _ _ _ _ s5 σ3 H5 x u _ J5' r5 (step x H5 y5)) λ_ s6 hpt=>?_
   obtain ⟨σ6,H6,J6,q6⟩:=hpt
   refine tS (ht _ _ _) rfl J6 q6 λb s6 hpt=>?_
   obtain ⟨H6,J6,q6⟩:=hpt
   cases b with
   | true =>
    rw [if_pos rfl] at q6 ⊢
    refine thn (he _ _ _ _ s6 σ6 H6 _ J6 q6) λy s7 hpt=>?_
    obtain ⟨vy,H7,J7,r7,q7,m',hm',w7⟩:=hpt
    refine thn (bJ _ s7 σ6 H7 (.ref s2.heap.objs.size) [vy] _ _ (λ_ H8=>H8=upd H7 s2.heap.objs.size (.lst (ys++[vy]))) J7 rfl (.cons r7 .nil) ⟨_,ys,vy,rfl,rfl,q7,hlen,rfl⟩) λ_ s8 hpt=>?_
    obtain ⟨_,H8,J8,_,e8⟩:=hpt
    subst e8
    refine ⟨m',hm',i+1,ys++[vy],σ6,_,J8.unpinned,T.keep _ _ _ st5 λb hb o e=>(J8.pin (b,o) (List.mem_append_right _ (List.mem_append_right _ (cb hb e)))).1,λb hb=>?_,w7⟩
    obtain ⟨o,e,d⟩:=T.obj _ _ st5 b hb
    exact (J8.pin (b,o) (List.mem_append_right _ (List.mem_append_right _ (cb hb e)))).2.1
   | false =>
    rw [if_neg (by simp)] at q6 ⊢
    obtain ⟨m',hm',w7⟩:=q6
    refine ⟨m',hm',i+1,ys,σ6,_,J6.unpinned,T.keep _ _ _ st5 λb hb o e=>(J6.pin (b,o) (List.mem_append_right _ (List.mem_append_right _ (cb hb e)))).1,λb hb=>?_,w7⟩
    obtain ⟨o,e,d⟩:=T.obj _ _ st5 b hb
    exact (J6.pin (b,o) (List.mem_append_right _ (List.mem_append_right _ (cb hb e)))).2.1
 exact codeAny_compStart_list loop (T.self _ 0 _ _ _ st1 loop)
theorem tU {g:TG} {te:TE} {σ:St} {Q:VK} (J:It) (H1:Hp) (p:Addr) (h:LcW k js g te σ Q J H1 p):vZ k js g (λ_ H K=>K true H) te σ Q J H1 p:=by
 obtain ⟨W,w0,turn⟩:=h
 exact ⟨W,w0,turn⟩
theorem wb {elt tg iter:Expr} {oc:Option Expr} {pos:Pos} {wi:TI} {g:TG} {tc:TT} {te:TE} {Lw:St→VK→It→Hp→Addr→Prop} (hL:∀ {σ Q} J H1 p,Lw σ Q J H1 p→vZ k js g tc te σ Q J H1 p) (hc:X.calm=true) (L:LcOk X scope cl) (hN:N.length=k+js.length)
  (hj:∀ (i j:Nat) x,js[i]? = some j→N[k+i]? = some x→X.N[j]? = some x∧Vis X.env.scope x∧X.env.scope.names.lookup x≠some .local∧((relabel scope X.env).names.lookup x=some .cell∨(relabel scope X.env).names.lookup x=some .free))
  (hi:PI X tg iter wi) (hg:∀ s H fp,PG (cK X N scope cl s H fp) tg g) (ht:∀ s H fp,ocT (cK X N scope cl s H fp) oc tc) (he:∀ s H fp,PE (cK X N scope cl s H fp) elt te)
  (hs:∀ x,foldedSetIterable iter X.env x=pure x):PE X (.ListComp elt [⟨tg,iter,oc.toList,0⟩] scope pos) (λσ H Q=>wi σ H λJ H1=>∀ p,H1 p=none→Lw σ Q J H1 p):=by
 intro pins s σ H Q I h
 rw [eval_ListComp]
 exact tT hc L hN hj hi hg ht he hs hL I h λI3 f3 J4 qn=>let ⟨m,hm,_⟩:=J4.loc; ⟨m,hm,λh' hs'=>⟨.ref _,_,vY I3 f3 J4 hs',rfl,qn⟩⟩
theorem cF {elt tg iter:Expr} {pos:Pos} {wi:TI} {g:TG} {te:TE} (hc:X.calm=true) (L:LcOk X scope cl) (hN:N.length=k+js.length)
  (hj:∀ (i j:Nat) x,js[i]? = some j→N[k+i]? = some x→X.N[j]? = some x∧Vis X.env.scope x∧X.env.scope.names.lookup x≠some .local∧((relabel scope X.env).names.lookup x=some .cell∨(relabel scope X.env).names.lookup x=some .free))
  (hi:PI X tg iter wi) (hg:∀ s H fp,PG (cK X N scope cl s H fp) tg g) (he:∀ s H fp,PE (cK X N scope cl s H fp) elt te)
  (hs:∀ x,foldedSetIterable iter X.env x=pure x:=by intro _; rfl):PE X (.ListComp elt [⟨tg,iter,[],0⟩] scope pos) (tLc k js wi g te):=wb (oc:=none) tU hc L hN hj hi hg (λ_ _ _ _ _ _ h=>h) he hs
end
end L2
namespace TB
open PySem PySem.SetTable
noncomputable def adv (mask:Nat) (p:Probe):Probe :=
 if p.more > 0 then { p with j:=p.j+1,more:=p.more - 1 } else
 { p with j:=(leap mask p.i p.perturb).1,more:=runEnd mask (leap mask p.i p.perturb).1 - (leap mask p.i p.perturb).1,i:=(leap mask p.i p.perturb).1,perturb:=(leap mask p.i p.perturb).2 }
theorem ee (t:SetTable) (p:Probe):advance t p=adv t.mask p:=rfl
noncomputable def lvP (mask:Nat) (x:Nat×Nat):Probe:={ j:=x.1,more:=runEnd mask x.1 - x.1,i:=x.1,perturb:=x.2,dummy:=none }
noncomputable def st (mask:Nat) (h:Int):Probe:=lvP mask (bits h % (mask+1),bits h)
noncomputable def nth (mask:Nat):Probe→Nat→Probe
 | p,0=>p
 | p,n+1=>nth mask (adv mask p) n
theorem dj (mask:Nat):∀ (a b:Nat) (p:Probe),nth mask p (a+b)=nth mask (nth mask p a) b
 | 0,b,p=>by rw [Nat.zero_add]; rfl
 | a+1,b,p=>by
  rw [show a+1+b=(a+b)+1 by omega]
  show nth mask (adv mask p) (a+b)=nth mask (nth mask (adv mask p) a) b
  exact dj mask a b _
theorem qZ (mask:Nat) (p:Probe) (n:Nat):nth mask p (n+1)=adv mask (nth mask p n):=by
 rw [dj]; rfl
noncomputable def pos (mask:Nat) (h:Int) (n:Nat):Nat:=(nth mask (st mask h) n).j
theorem jd (mask:Nat):∀ (m:Nat) (p:Probe),p.more=m→nth mask p m={ p with j:=p.j+m,more:=0 }
 | 0,p,h=>by
  show p=_
  cases p; simp at h; subst h; rfl
 | m+1,p,h=>by
  show nth mask (adv mask p) m=_
  have e:adv mask p={ p with j:=p.j+1,more:=m }:=by
   unfold adv
   rw [if_pos (by omega),h]; rfl
  rw [e,jd mask m _ rfl]
  simp only [Probe.mk.injEq,and_true]
  omega
theorem ll (mask:Nat):∀ (m:Nat) (p:Probe),m≤p.more→nth mask p m={ p with j:=p.j+m,more:=p.more - m }
 | 0,p,h=>by
  show p=_
  cases p; rfl
 | m+1,p,h=>by
  show nth mask (adv mask p) m=_
  have e:adv mask p={ p with j:=p.j+1,more:=p.more - 1 }:=by
   unfold adv
   rw [if_pos (by omega)]
  rw [e,ll mask m _ (by show m≤p.more - 1; omega)]
  simp only [Probe.mk.injEq,and_true]
  omega
theorem eA (mask:Nat) (x:Nat×Nat):nth mask (lvP mask x) (runEnd mask x.1 - x.1+1)=lvP mask (leap mask x.1 x.2):=by
 have e:=jd mask (runEnd mask x.1 - x.1) (lvP mask x) rfl
 rw [qZ,e]
 unfold adv
 rw [if_neg (by simp)]
 rfl
theorem wc (mask i:Nat):runEnd mask i - i≤9:=by unfold runEnd; split <;> omega
noncomputable def lv (mask:Nat):Nat→Nat×Nat→Nat×Nat
 | 0,x=>x
 | k+1,x=>lv mask k (leap mask x.1 x.2)
theorem nv (mask:Nat):∀ (a b:Nat) (x:Nat×Nat),lv mask (a+b) x=lv mask b (lv mask a x)
 | 0,b,x=>by rw [Nat.zero_add]; rfl
 | a+1,b,x=>by
  rw [show a+1+b=(a+b)+1 by omega]
  exact nv mask a b _
theorem lr (mask:Nat):∀ (k:Nat) (x:Nat×Nat),∃ n,n≤10 * k∧nth mask (lvP mask x) n=lvP mask (lv mask k x)
 | 0,x=>⟨0,by omega,rfl⟩
 | k+1,x=>by
  obtain ⟨n,hn,e⟩:=lr mask k (leap mask x.1 x.2)
  refine ⟨(runEnd mask x.1 - x.1+1)+n,?_,?_⟩
  ·have:=wc mask x.1; omega
  ·rw [dj,eA]; exact e
theorem eB (mask:Nat):∀ (k:Nat) (x:Nat×Nat),(lv mask k x).2=x.2 / 32 ^ k
 | 0,x=>by simp [lv]
 | k+1,x=>by
  show (lv mask k (leap mask x.1 x.2)).2=_
  rw [eB mask k]
  show x.2 / 32 / 32 ^ k=_
  rw [Nat.div_div_eq_div_mul,Nat.pow_succ,Nat.mul_comm 32]
theorem ox (mask:Nat):∀ (k:Nat) (x:Nat×Nat),x.1≤mask→(lv mask k x).1≤mask
 | 0,x,h=>h
 | k+1,x,h=>ox mask k _ (by show (x.1 * 5+1+x.2 / 32) % (mask+1)≤mask; have:=Nat.mod_lt (x.1 * 5+1+x.2 / 32) (show 0<mask+1 by omega); omega)
theorem oy (h:Int):bits h<2 ^ 64:=by
 unfold bits
 have h1:=Int.emod_nonneg h (b:=2 ^ 64) (by decide)
 have h2:=Int.emod_lt_of_pos h (b:=2 ^ 64) (by decide)
 omega
noncomputable def eS (mask:Nat):Nat→Nat→Nat
 | 0,i=>i
 | k+1,i=>eS mask k ((i * 5+1) % (mask+1))
theorem hJ (mask:Nat):∀ (k i:Nat),lv mask k (i,0)=(eS mask k i,0)
 | 0,i=>rfl
 | k+1,i=>by
  show lv mask k ((i * 5+1+0 / 32) % (mask+1),0 / 32)=_
  simp only [Nat.zero_div,Nat.add_zero]
  exact hJ mask k _
noncomputable def Cyc (mask:Nat):Prop:=∀ i,i≤mask→∀ j,j≤mask→∃ k,k≤mask∧eS mask k i=j
theorem dM (mask:Nat):∀ (a b i:Nat),eS mask (a+b) i=eS mask b (eS mask a i)
 | 0,b,i=>by rw [Nat.zero_add]; rfl
 | a+1,b,i=>by
  rw [show a+1+b=(a+b)+1 by omega]
  exact dM mask a b _
noncomputable def tV (mask:Nat):Nat→Nat→List Nat
 | 0,_=>[]
 | n+1,i=>i :: tV mask n ((i * 5+1) % (mask+1))
theorem lw {mask j:Nat}:∀ {n i:Nat},j∈tV mask n i→∃ k,k<n∧eS mask k i=j
 | 0,_,h=>by simp [tV] at h
 | n+1,i,h=>by
  rcases List.mem_cons.mp h with e | e
  ·exact ⟨0,by omega,e.symm⟩
  ·obtain ⟨k,hk,e'⟩:=lw e
   exact ⟨k+1,by omega,e'⟩
theorem ra {mask:Nat} (h0:eS mask (mask+1) 0=0) (h:(List.range (mask+1)).all (λj=>(tV mask (mask+1) 0).contains j)=true):Cyc mask:=by
 have all:∀ j,j≤mask→∃ k,k≤mask∧eS mask k 0=j:=λj hj=>by
  rw [List.all_eq_true] at h
  have h1:=h j (List.mem_range.mpr (by omega))
  rw [List.contains_iff_mem] at h1
  obtain ⟨k,hk,e⟩:=lw h1
  exact ⟨k,by omega,e⟩
 intro i hi j hj
 obtain ⟨a,ha,ea⟩:=all i hi
 obtain ⟨b,hb,eb⟩:=all j hj
 by_cases hab:a≤b
 ·refine ⟨b - a,by omega,?_⟩
  rw [← ea,← dM,show a+(b - a)=b by omega]; exact eb
 ·refine ⟨mask+1 - a+b,by omega,?_⟩
  rw [← ea,← dM,show a+(mask+1 - a+b)=(mask+1)+b by omega,dM,h0]; exact eb
noncomputable def Mk (m:Nat):Prop:=m=7∨m=15∨m=31∨m=63∨m=127∨m=255
theorem Mk.cyc {m:Nat} (h:Mk m):Cyc m:=by
 rcases h with e | e | e | e | e | e <;> subst e <;> exact ra (by decide +kernel) (by decide +kernel)
theorem Mk.ge {m:Nat} (h:Mk m):7≤m∧m≤255:=by rcases h with e | e | e | e | e | e <;> subst e <;> omega
theorem Mk.odd {m:Nat} (h:Mk m):m % 2=1:=by rcases h with e | e | e | e | e | e <;> subst e <;> rfl
noncomputable def mkB (m:Nat):Bool:=m == 7 || m == 15 || m == 31 || m == 63 || m == 127 || m == 255
theorem wd:(List.range 256).all (λw=>mkB (sizeAbove w - 1) && decide (w≤sizeAbove w - 1) && decide (sizeAbove w≤256))=true:=by decide +kernel
theorem rb {w:Nat} (h:w≤255):Mk (sizeAbove w - 1)∧w≤sizeAbove w - 1∧sizeAbove w≤256:=by
 have h1:=(List.all_eq_true.mp wd) w (List.mem_range.mpr (by omega))
 rw [Bool.and_eq_true,Bool.and_eq_true,decide_eq_true_eq,decide_eq_true_eq] at h1
 refine ⟨?_,h1.1.2,h1.2⟩
 have h2:=h1.1.1
 unfold mkB at h2
 rw [Bool.or_eq_true,Bool.or_eq_true,Bool.or_eq_true,Bool.or_eq_true,Bool.or_eq_true,beq_iff_eq,beq_iff_eq,beq_iff_eq,beq_iff_eq,beq_iff_eq,beq_iff_eq] at h2
 rcases h2 with ((((h | h) | h) | h) | h) | h
 ·exact .inl h
 ·exact .inr (.inl h)
 ·exact .inr (.inr (.inl h))
 ·exact .inr (.inr (.inr (.inl h)))
 ·exact .inr (.inr (.inr (.inr (.inl h))))
 ·exact .inr (.inr (.inr (.inr (.inr h))))
theorem cover {mask:Nat} (c:Cyc mask) (h:Int) {j:Nat} (hj:j≤mask):∃ n,n<10 * turns mask∧pos mask h n=j:=by
 have h0:(lv mask 13 (bits h % (mask+1),bits h)).2=0:=by
  rw [eB]
  have:=oy h
  exact Nat.div_eq_of_lt (by have e:(32:Nat) ^ 13=36893488147419103232:=(by decide); rw [e]; show bits h<_; omega)
 have h1:(lv mask 13 (bits h % (mask+1),bits h)).1≤mask:=ox mask _ _ (by have:=Nat.mod_lt (bits h) (show 0<mask+1 by omega); show bits h % (mask+1)≤mask; omega)
 obtain ⟨k,hk,e⟩:=c _ h1 j hj
 obtain ⟨n,hn,en⟩:=lr mask (13+k) (bits h % (mask+1),bits h)
 refine ⟨n,by unfold turns; omega,?_⟩
 unfold pos st
 rw [en,nv]
 have ex:lv mask 13 (bits h % (mask+1),bits h)=((lv mask 13 (bits h % (mask+1),bits h)).1,0):=by rw [← h0]
 rw [ex,hJ]
 exact e
noncomputable def InT (mask:Nat) (p:Probe):Prop:=p.j+p.more≤mask
theorem fu {mask i:Nat} (h:i≤mask):runEnd mask i≤mask∧i≤runEnd mask i:=by unfold runEnd; split <;> omega
theorem tW {mask:Nat} {p:Probe} (h:InT mask p):InT mask (adv mask p):=by
 unfold adv InT at *
 split
 ·show p.j+1+(p.more - 1)≤mask; omega
 ·have hl:(leap mask p.i p.perturb).1≤mask:=by
   show (p.i * 5+1+p.perturb / 32) % (mask+1)≤mask
   have:=Nat.mod_lt (p.i * 5+1+p.perturb / 32) (show 0<mask+1 by omega)
   omega
  have:=fu hl
  show (leap mask p.i p.perturb).1+(runEnd mask (leap mask p.i p.perturb).1 - (leap mask p.i p.perturb).1)≤mask
  omega
theorem oz {mask:Nat}:∀ (n:Nat) {p:Probe},InT mask p→InT mask (nth mask p n)
 | 0,_,h=>h
 | n+1,_,h=>oz n (tW h)
theorem we {mask:Nat} {x:Nat×Nat} (h:x.1≤mask):InT mask (lvP mask x):=by
 have:=fu h
 show x.1+(runEnd mask x.1 - x.1)≤mask
 omega
theorem hU (mask:Nat) (h:Int) (n:Nat):pos mask h n≤mask:=by
 have:InT mask (nth mask (st mask h) n):=oz n (we (by have:=Nat.mod_lt (bits h) (show 0<mask+1 by omega); show bits h % (mask+1)≤mask; omega))
 unfold InT at this
 unfold pos
 omega
theorem lx (E:Nat→Prop):∀ N,E N→∃ n,n≤N∧E n∧∀ m,m<n→¬ E m
 | N,h=>by
  induction N using Nat.strongRecOn with
  | _ N ih =>
   by_cases z:∃ m,m<N∧E m
   ·obtain ⟨m,hm,e⟩:=z
    obtain ⟨n,hn,e',no⟩:=ih m hm e
    exact ⟨n,by omega,e',no⟩
   ·exact ⟨N,Nat.le_refl _,h,λm hm e=>z ⟨m,hm,e⟩⟩
theorem fw (mask:Nat):∀ (n:Nat) (p:Probe),(nth mask p n).dummy=p.dummy
 | 0,_=>rfl
 | n+1,p=>by
  show (nth mask (adv mask p) n).dummy=_
  rw [fw mask n]
  unfold adv
  split <;> rfl
theorem ly (t:SetTable) (ha:Nat→Int) (h:Int):∀ (n:Nat) (p:Probe) (fuel:Nat),n<fuel →
  (∀ m,m<n→∃ i,t.slot (nth t.mask p m).j = .live i∧(ha i == h)=false)→t.slot (nth t.mask p n).j = .empty →
  probe.go t ha h fuel p=some (.empty (nth t.mask p n).j p.dummy)
 | 0,p,fuel+1,_,_,e=>by
  have e':t.slot p.j = .empty:=e
  unfold probe.go
  rw [e']; rfl
 | n+1,p,fuel+1,hf,hl,e=>by
  obtain ⟨i,h1,h2⟩:=hl 0 (by omega)
  have h1':t.slot p.j = .live i:=h1
  unfold probe.go
  rw [h1']
  simp only [h2,Bool.false_eq_true,if_false,ee]
  rw [ly t ha h n (adv t.mask p) fuel (by omega) (λm hm=>hl (m+1) (by omega)) e]
  congr 2
  exact fw t.mask 1 p
theorem oA (t:SetTable) (ha:Nat→Int) (h:Int) (i:Nat):∀ (n:Nat) (p:Probe) (fuel:Nat),n<fuel →
  (∀ m,m<n→∃ i,t.slot (nth t.mask p m).j = .live i∧(ha i == h)=false)→t.slot (nth t.mask p n).j = .live i→(ha i == h)=true →
  probe.go t ha h fuel p=some (.candidate (nth t.mask p n).j i (nth t.mask p (n+1)))
 | 0,p,fuel+1,_,_,e,hh=>by
  have e':t.slot p.j = .live i:=e
  unfold probe.go
  rw [e']
  simp only [hh,if_true,ee]
  rfl
 | n+1,p,fuel+1,hf,hl,e,hh=>by
  obtain ⟨i',h1,h2⟩:=hl 0 (by omega)
  have h1':t.slot p.j = .live i':=h1
  unfold probe.go
  rw [h1']
  simp only [h2,Bool.false_eq_true,if_false,ee]
  rw [oA t ha h i n (adv t.mask p) fuel (by omega) (λm hm=>hl (m+1) (by omega)) e hh]
  rfl
theorem hV (xs:Array Nat) (j:Nat) (hs:∀ a b,a<b→b<xs.size→xs.getD a 0<xs.getD b 0):∀ (fuel lo hi:Nat),hi - lo≤fuel→lo≤hi→hi≤xs.size →
  (∀ k,k<lo→xs.getD k 0<j)→(∀ k,hi≤k→k<xs.size→j≤xs.getD k 0) →
  below.go xs j fuel lo hi≤xs.size∧(∀ k,k<below.go xs j fuel lo hi→xs.getD k 0<j)∧(∀ k,below.go xs j fuel lo hi≤k→k<xs.size→j≤xs.getD k 0)
 | 0,lo,hi,hf,hl,hh,h1,h2=>by
  have e:lo=hi:=by omega
  subst e
  exact ⟨hh,h1,h2⟩
 | fuel+1,lo,hi,hf,hl,hh,h1,h2=>by
  unfold below.go
  by_cases hlt:lo<hi
  ·rw [if_pos hlt]
   have hm:(lo+hi) / 2<hi:=by omega
   have hm2:lo≤(lo+hi) / 2:=by omega
   have eg:xs.getD ((lo+hi) / 2) j=xs.getD ((lo+hi) / 2) 0:=by
    rw [Array.getD_eq_getD_getElem?,Array.getD_eq_getD_getElem?,Array.getElem?_eq_getElem (by omega)]; rfl
   simp only [eg]
   split
   ·rename_i hc
    refine hV xs j hs fuel _ hi (by omega) (by omega) hh (λk hk=>?_) h2
    by_cases e:k=(lo+hi) / 2
    ·rw [e]; exact hc
    ·have:=hs k ((lo+hi) / 2) (by omega) (by omega); omega
   ·rename_i hc
    refine hV xs j hs fuel lo _ (by omega) (by omega) (by omega) h1 (λk hk hk2=>?_)
    by_cases e:k=(lo+hi) / 2
    ·rw [e]; omega
    ·have:=hs ((lo+hi) / 2) k (by omega) hk2; omega
  ·rw [if_neg hlt]
   have e:lo=hi:=by omega
   subst e
   exact ⟨hh,h1,h2⟩
noncomputable def Up (l:List Nat):Prop:=l.Pairwise (· < ·)
theorem wf {l:List Nat} (h:Up l) {a b:Nat} (hab:a<b) (hb:b<l.length):l.toArray.getD a 0<l.toArray.getD b 0:=by
 unfold Up at h
 have:=List.pairwise_iff_getElem.mp h a b (by omega) hb hab
 simp [Array.getD_eq_getD_getElem?,show a<l.length by omega,hb]
 exact this
theorem hX {l:List Nat} (h:Up l) (j:Nat):below l.toArray j≤l.length∧(∀ k (hk:k<l.length),k<below l.toArray j→l[k]<j)∧(∀ k (hk:k<l.length),below l.toArray j≤k→j≤l[k]):=by
 have:=hV l.toArray j (λa b hab hb=>wf h hab (by simpa using hb)) l.toArray.size 0 l.toArray.size (by omega) (by omega) (Nat.le_refl _) (by intro k hk; omega) (by intro k hk hk2; omega)
 unfold below
 refine ⟨by simpa using this.1,λk hk h1=>?_,λk hk h1=>?_⟩
 ·have:=this.2.1 k h1
  simpa [Array.getD_eq_getD_getElem?,hk] using this
 ·have:=this.2.2 k h1 (by simpa using hk)
  simpa [Array.getD_eq_getD_getElem?,hk] using this
structure Tb (t:SetTable) (l:List Nat):Prop where
 pl:t.place=l.toArray
 nd:t.dummies = #[]
 up:Up l
 le:∀ j∈l,j≤t.mask
theorem oB (j:Nat):has #[] j=false:=by
 unfold has; simp
theorem jD {t:SetTable} {l:List Nat} (T:Tb t l) {i j:Nat} (h:l[i]? = some j):t.slot j = .live i:=by
 obtain ⟨hi,e⟩:=List.getElem?_eq_some_iff.mp h
 obtain ⟨b1,b2,b3⟩:=hX T.up j
 have eb:below l.toArray j=i:=by
  rcases Nat.lt_trichotomy (below l.toArray j) i with z | z | z
  ·have:=b3 (below l.toArray j) (by omega) (Nat.le_refl _)
   have:=List.pairwise_iff_getElem.mp T.up (below l.toArray j) i (by omega) hi z
   omega
  ·exact z
  ·have:=b2 i hi z; omega
 unfold SetTable.slot
 rw [T.pl,eb]
 simp [h]
theorem rc {t:SetTable} {l:List Nat} (T:Tb t l) {j:Nat} (h:j∉l):t.slot j = .empty:=by
 unfold SetTable.slot
 rw [T.pl,T.nd,oB]
 have:¬ (l.toArray[below l.toArray j]? == some j)=true:=by
  intro z
  have z':l[below l.toArray j]? = some j:=by simpa using z
  exact h (List.mem_of_getElem? z')
 simp only [this,Bool.false_eq_true,if_false]
theorem pQ {l:List Nat} (h:Up l) {j:Nat} (hj:j∉l):Up (l.take (below l.toArray j)++j :: l.drop (below l.toArray j)):=by
 obtain ⟨b1,b2,b3⟩:=hX h j
 unfold Up
 rw [List.pairwise_append,List.pairwise_cons]
 have hsub1:(l.take (below l.toArray j)).Pairwise (· < ·):=List.Pairwise.sublist (List.take_sublist _ _) h
 have hsub2:(l.drop (below l.toArray j)).Pairwise (· < ·):=List.Pairwise.sublist (List.drop_sublist _ _) h
 have h1:∀ a∈l.take (below l.toArray j),a<j:=by
  intro a ha
  obtain ⟨k,hk,e⟩:=List.mem_iff_getElem.mp ha
  rw [List.length_take] at hk
  rw [List.getElem_take] at e
  rw [← e]
  exact b2 k (by omega) (by omega)
 have h2:∀ a∈l.drop (below l.toArray j),j<a:=by
  intro a ha
  have hne:a≠j:=λe=>hj (e ▸ List.mem_of_mem_drop ha)
  obtain ⟨k,hk,e⟩:=List.mem_iff_getElem.mp ha
  rw [List.length_drop] at hk
  rw [List.getElem_drop] at e
  have:=b3 (below l.toArray j+k) (by omega) (by omega)
  omega
 refine ⟨hsub1,⟨h2,hsub2⟩,λa ha b hb=>?_⟩
 rcases List.mem_cons.mp hb with rfl | hb
 ·exact h1 a ha
 ·have:=h1 a ha; have:=h2 b hb; omega
theorem wg {t:SetTable} {l:List Nat} (T:Tb t l) {j:Nat} (hj:j∉l) (hm:j≤t.mask):Tb (t.put j).1 (l.take (below l.toArray j)++j :: l.drop (below l.toArray j))∧(t.put j).2=below l.toArray j∧(t.put j).1.mask=t.mask:=by
 refine ⟨⟨?_,?_,pQ T.up hj,?_⟩,?_,rfl⟩
 ·show insertAt t.place (below t.place j) j=_
  rw [T.pl]
  apply Array.toList_inj.mp
  rw [SetTable.toList_insertAt]
 ·show (if has t.dummies j=true then _ else t.dummies) = #[]
  rw [T.nd,oB]; rfl
 ·intro a ha
  rcases List.mem_append.mp ha with h | h
  ·exact T.le a (List.mem_of_mem_take h)
  ·rcases List.mem_cons.mp h with rfl | h
   ·exact hm
   ·exact T.le a (List.mem_of_mem_drop h)
 ·show below t.place j=_
  rw [T.pl]
noncomputable def dR (mask:Nat) (zs:List (Nat×Int)):Prop:=∀ z∈zs,∃ n,pos mask z.2 n=z.1∧∀ m,m<n→pos mask z.2 m∈zs.map (·.1)
theorem dR.nil (mask:Nat):dR mask []:=by intro z hz; simp at hz
theorem dR.mono {mask:Nat} {zs ys:List (Nat×Int)} (h:dR mask zs) (new:Nat×Int) (hm:∀ z∈ys,z∈zs∨z=new) (hs:∀ z∈zs,z∈ys)
  (hn:∃ n,pos mask new.2 n=new.1∧∀ m,m<n→pos mask new.2 m∈zs.map (·.1)):dR mask ys:=by
 intro z hz
 have up:∀ j,j∈zs.map (·.1)→j∈ys.map (·.1):=λj hj=>by
  obtain ⟨y,hy,e⟩:=List.mem_map.mp hj
  exact List.mem_map.mpr ⟨y,hs y hy,e⟩
 rcases hm z hz with h1 | h1
 ·obtain ⟨n,e,p⟩:=h z h1
  exact ⟨n,e,λm hm=>up _ (p m hm)⟩
 ·subst h1
  obtain ⟨n,e,p⟩:=hn
  exact ⟨n,e,λm hm=>up _ (p m hm)⟩
noncomputable def emp (owner:Array (Option Nat)) (j:Nat):Bool:=(owner.getD j (some 0)).isNone
theorem je (mask:Nat) (owner:Array (Option Nat)):∀ (fuel:Nat) (x:Nat×Nat),x.1≤mask→(∃ k,k<fuel∧emp owner (lv mask k x).1=true) →
  ∃ j n,layClean.free mask owner fuel x.1 x.2=some j∧(nth mask (lvP mask x) n).j=j∧emp owner j=true∧∀ m,m<n→emp owner (nth mask (lvP mask x) m).j=false
 | 0,x,_,h=>by obtain ⟨k,hk,_⟩:=h; omega
 | fuel+1,x,hx,h=>by
  unfold layClean.free
  have hr:=fu hx
  have hpart:∀ m,m≤runEnd mask x.1 - x.1→(nth mask (lvP mask x) m).j=x.1+m:=λm hm=>by
   rw [ll mask m (lvP mask x) hm]; rfl
  cases e:(List.range (runEnd mask x.1+1 - x.1)).find? (λk=>(owner.getD (x.1+k) (some 0)).isNone) with
  | some k =>
   rw [List.find?_range_eq_some] at e
   obtain ⟨e1,e2,e3⟩:=e
   have hk:k≤runEnd mask x.1 - x.1:=by have:=List.mem_range.mp e2; omega
   refine ⟨x.1+k,k,rfl,hpart k hk,e1,λm hm=>?_⟩
   rw [hpart m (by omega)]
   have:=e3 m hm
   simpa [emp] using this
  | none =>
   rw [List.find?_range_eq_none] at e
   obtain ⟨k,hk,h1⟩:=h
   have hk0:k≠0:=by
    rintro rfl
    have:=e 0 (by omega)
    have h1':(owner.getD x.1 (some 0)).isNone=true:=h1
    rw [Nat.add_zero,h1'] at this
    simp at this
   obtain ⟨k',rfl⟩:∃ k',k=k'+1:=⟨k - 1,by omega⟩
   have hl:(leap mask x.1 x.2).1≤mask:=ox mask 1 x hx
   obtain ⟨j,n,f1,f2,f3,f4⟩:=je mask owner fuel (leap mask x.1 x.2) hl ⟨k',by omega,h1⟩
   refine ⟨j,(runEnd mask x.1 - x.1+1)+n,f1,?_,f3,λm hm=>?_⟩
   ·rw [dj,eA]; exact f2
   ·by_cases hm2:m≤runEnd mask x.1 - x.1
    ·rw [hpart m hm2]
     have:=e m (by omega)
     simpa [emp] using this
    ·obtain ⟨m',rfl⟩:∃ m',m=(runEnd mask x.1 - x.1+1)+m':=⟨m - (runEnd mask x.1 - x.1+1),by omega⟩
     rw [dj,eA]
     exact f4 m' (by omega)
theorem tX {mask:Nat} (c:Cyc mask) (owner:Array (Option Nat)) (h:Int) {j₀:Nat} (hj:j₀≤mask) (he:emp owner j₀=true) :
  ∃ j n,layClean.free mask owner (turns mask) (bits h % (mask+1)) (bits h)=some j∧pos mask h n=j∧emp owner j=true∧∀ m,m<n→emp owner (pos mask h m)=false:=by
 have h0:(lv mask 13 (bits h % (mask+1),bits h)).2=0:=by
  rw [eB]
  have:=oy h
  exact Nat.div_eq_of_lt (by have e:(32:Nat) ^ 13=36893488147419103232:=(by decide); rw [e]; show bits h<_; omega)
 have hx:bits h % (mask+1)≤mask:=by have:=Nat.mod_lt (bits h) (show 0<mask+1 by omega); omega
 have h1:(lv mask 13 (bits h % (mask+1),bits h)).1≤mask:=ox mask _ _ hx
 obtain ⟨k,hk,e⟩:=c _ h1 j₀ hj
 refine je mask owner (turns mask) (bits h % (mask+1),bits h) hx ⟨13+k,by unfold turns; omega,?_⟩
 rw [nv]
 have ex:lv mask 13 (bits h % (mask+1),bits h)=((lv mask 13 (bits h % (mask+1),bits h)).1,0):=by rw [← h0]
 rw [ex,hJ,e]
 exact he
noncomputable def live (mask:Nat) (owner:Array (Option Nat)):List (Nat×Nat):=(List.range (mask+1)).filterMap λj=>(owner.getD j none).map (j,·)
theorem dC {α β:Type} {f g:α→Option β}:∀ {l:List α},(∀ x∈l,g x=f x)→l.filterMap g=l.filterMap f
 | [],_=>rfl
 | x :: l,h=>by
  have ih:=dC (l:=l) λy hy=>h y (List.mem_cons_of_mem _ hy)
  have hx:=h x List.mem_cons_self
  cases e:f x with
  | none=>rw [List.filterMap_cons_none e,List.filterMap_cons_none (hx.trans e),ih]
  | some b=>rw [List.filterMap_cons_some e,List.filterMap_cons_some (hx.trans e),ih]
theorem dS {α β:Type} (f g:α→Option β) (a:α) (v:β) (hf:f a=none) (hg:g a=some v) (hne:∀ x,x≠a→g x=f x):∀ (l:List α),l.Nodup→a∈l →
  (l.filterMap g).Perm (v :: l.filterMap f)
 | [],_,h=>by simp at h
 | x :: l,hn,h=>by
  obtain ⟨h1,h2⟩:=List.nodup_cons.mp hn
  by_cases e:x=a
  ·subst e
   rw [List.filterMap_cons_some hg,List.filterMap_cons_none hf]
   have:l.filterMap g=l.filterMap f:=dC λy hy=>hne y (λe=>h1 (e ▸ hy))
   rw [this]
  ·have ha:a∈l:=by
    rcases List.mem_cons.mp h with z | z
    ·exact absurd z.symm e
    ·exact z
   have ih:=dS f g a v hf hg hne l h2 ha
   cases ef:f x with
   | none =>
    rw [List.filterMap_cons_none ef,List.filterMap_cons_none (by rw [hne x e,ef])]
    exact ih
   | some b =>
    rw [List.filterMap_cons_some ef,List.filterMap_cons_some (by rw [hne x e,ef])]
    exact (ih.cons b).trans (List.Perm.swap _ _ _)
structure Lay (mask:Nat) (owner:Array (Option Nat)) (hs:List Int):Prop where
 size:owner.size=mask+1
 perm:((live mask owner).map (·.2)).Perm (List.range hs.length)
 path:∀ j i,owner.getD j none=some i→∃ h,hs[i]? = some h∧∃ n,pos mask h n=j∧∀ m,m<n→emp owner (pos mask h m)=false
theorem eU {mask:Nat} {owner:Array (Option Nat)} (hs:owner.size=mask+1) {j:Nat} (hj:j≤mask):emp owner j=(owner.getD j none).isNone:=by
 unfold emp
 rw [Array.getD_eq_getD_getElem?,Array.getD_eq_getD_getElem?,Array.getElem?_eq_getElem (by omega)]
 rfl
theorem tY (mask:Nat):Lay mask (Array.replicate (mask+1) none) []:=by
 have e:∀ j,(Array.replicate (mask+1) (none:Option Nat)).getD j none=none:=λj=>by
  rw [Array.getD_eq_getD_getElem?,Array.getElem?_replicate]
  split <;> rfl
 refine ⟨by simp,?_,λj i h=>?_⟩
 ·have:live mask (Array.replicate (mask+1) none)=[]:=by
   unfold live
   rw [List.filterMap_eq_nil_iff]
   intro j _
   rw [e]; rfl
  rw [this]; simp
 ·rw [e] at h; cases h
theorem re {mask:Nat} {owner:Array (Option Nat)} {hs:List Int} (L:Lay mask owner hs) (hl:hs.length≤mask):∃ j,j≤mask∧emp owner j=true:=by
 by_cases h:∃ j,j≤mask∧emp owner j=true
 ·exact h
 ·exfalso
  have all:∀ j,j≤mask→∃ i,owner.getD j none=some i:=λj hj=>by
   cases e:owner.getD j none with
   | some i=>exact ⟨i,rfl⟩
   | none=>exact (h ⟨j,hj,by rw [eU L.size hj,e]; rfl⟩).elim
  have len:(live mask owner).length=mask+1:=by
   have key:∀ l:List Nat,(∀ j∈l,j≤mask)→(l.filterMap λj=>(owner.getD j none).map (j,·)).length=l.length:=by
    intro l
    induction l with
    | nil=>intro _; rfl
    | cons x l ih =>
     intro hl
     obtain ⟨i,e⟩:=all x (hl x (by simp))
     rw [List.filterMap_cons_some (by rw [e]; rfl),List.length_cons,List.length_cons,ih λj hj=>hl j (by simp [hj])]
   unfold live
   rw [key _ (λj hj=>by have:=List.mem_range.mp hj; omega),List.length_range]
  have:=L.perm.length_eq
  rw [List.length_map,List.length_range,len] at this
  omega
theorem eV {owner:Array (Option Nat)} {j k:Nat} {v:Option Nat} (hj:j<owner.size):(owner.setIfInBounds j v).getD k none=if k=j then v else owner.getD k none:=by
 rw [Array.getD_eq_getD_getElem?,Array.getD_eq_getD_getElem?,Array.getElem?_setIfInBounds]
 by_cases e:j=k
 ·subst e; simp [hj]
 ·rw [if_neg e,if_neg (λz=>e z.symm)]
theorem oC {mask:Nat} {owner:Array (Option Nat)} {j k i:Nat} (hs:owner.size=mask+1) (hj:j≤mask) (hk:k≤mask) (h:emp owner k=false):emp (owner.setIfInBounds j (some i)) k=false:=by
 rw [eU (by simpa using hs) hk,eV (by omega)]
 rw [eU hs hk] at h
 split
 ·rfl
 ·exact h
theorem rf {mask:Nat} (c:Cyc mask) {owner:Array (Option Nat)} {hs:List Int} (L:Lay mask owner hs) (hl:hs.length≤mask) (h:Int) :
  ∃ j,layClean.free mask owner (turns mask) (bits h % (mask+1)) (bits h)=some j∧Lay mask (owner.setIfInBounds j (some hs.length)) (hs++[h]):=by
 obtain ⟨j₀,hj₀,e₀⟩:=re L hl
 obtain ⟨j,n,e1,e2,e3,e4⟩:=tX c owner h hj₀ e₀
 have hj:j≤mask:=by rw [← e2]; exact hU mask h n
 have hjn:owner.getD j none=none:=by
  rw [eU L.size hj] at e3
  exact Option.isNone_iff_eq_none.mp e3
 refine ⟨j,e1,by simpa using L.size,?_,λk i hk=>?_⟩
 ·have p:=dS (λk=>(owner.getD k none).map (k,·)) (λk=>((owner.setIfInBounds j (some hs.length)).getD k none).map (k,·)) j (j,hs.length) (by simp [hjn])
   (by show ((owner.setIfInBounds j (some hs.length)).getD j none).map (j,·)=_; rw [eV (by rw [L.size]; omega),if_pos rfl]; rfl) (λx hx=>by show ((owner.setIfInBounds j (some hs.length)).getD x none).map (x,·)=(owner.getD x none).map (x,·); rw [eV (by rw [L.size]; omega),if_neg hx]) (List.range (mask+1)) List.nodup_range (List.mem_range.mpr (by omega))
  have p2:((live mask (owner.setIfInBounds j (some hs.length))).map (·.2)).Perm (hs.length :: (live mask owner).map (·.2)):=p.map (·.2)
  rw [List.length_append,List.length_singleton,List.range_succ]
  exact p2.trans ((L.perm.cons _).trans (List.perm_append_singleton _ _).symm)
 ·rw [eV (by rw [L.size]; omega)] at hk
  by_cases e:k=j
  ·subst e
   rw [if_pos rfl] at hk
   cases hk
   exact ⟨h,by simp,n,e2,λm hm=>oC L.size hj (hU _ _ _) (e4 m hm)⟩
  ·rw [if_neg e] at hk
   obtain ⟨h',a1,n',a2,a3⟩:=L.path k i hk
   have hi:i<hs.length:=(List.getElem?_eq_some_iff.mp a1).1
   exact ⟨h',by rw [List.getElem?_append_left hi]; exact a1,n',a2,λm hm=>oC L.size hj (hU _ _ _) (a3 m hm)⟩
theorem lz {mask:Nat} (c:Cyc mask) (hashes:Array Int) (hl:hashes.size≤mask+1):∃ owner,layClean mask hashes=some owner∧Lay mask owner hashes.toList:=by
 have key:∀ (r hs:List Int) (owner:Array (Option Nat)),Lay mask owner hs→hs.length+r.length≤mask+1 →
   ∃ owner',r.foldl (λacc h=>do
    let (owner,k) ← acc
    let j ← layClean.free mask owner (turns mask) (bits h % (mask+1)) (bits h)
    pure (owner.setIfInBounds j (some k),k+1)) (some (owner,hs.length))=some (owner',hs.length+r.length)∧Lay mask owner' (hs++r):=by
  intro r
  induction r with
  | nil=>intro hs owner L _; exact ⟨owner,rfl,by simpa using L⟩
  | cons h r ih =>
   intro hs owner L hle
   rw [List.length_cons] at hle
   obtain ⟨j,e,L'⟩:=rf c L (by omega) h
   obtain ⟨owner',e',L''⟩:=ih (hs++[h]) _ L' (by rw [List.length_append,List.length_singleton]; omega)
   refine ⟨owner',?_,by rw [List.append_assoc] at L''; exact L''⟩
   rw [List.foldl_cons]
   have eb:(do
    let (owner,k) ← some (owner,hs.length)
    let j ← layClean.free mask owner (turns mask) (bits h % (mask+1)) (bits h)
    pure (owner.setIfInBounds j (some k),k+1))=some (owner.setIfInBounds j (some hs.length),hs.length+1):=by
    show (layClean.free mask owner (turns mask) (bits h % (mask+1)) (bits h)).bind _=_
    rw [e]; rfl
   rw [eb]
   rw [List.length_append,List.length_singleton] at e'
   rw [e',List.length_cons]
   congr 2
   omega
 obtain ⟨owner',e,L⟩:=key hashes.toList [] _ (tY mask) (by simpa using hl)
 refine ⟨owner',?_,by simpa using L⟩
 unfold layClean
 rw [← Array.foldl_toList]
 have e2:(0:Nat)=([]:List Int).length:=rfl
 rw [e2,e]
 rfl
theorem pR {t:SetTable} {hashes:Array Int} {wanted:Nat} (c:Cyc (sizeAbove wanted - 1)) (hl:hashes.size≤sizeAbove wanted - 1+1) :
  ∃ (t':SetTable) (zs:List (Nat×Nat)),t.relaid hashes wanted=some (t',(zs.map (·.2)).toArray)∧t'.mask=sizeAbove wanted - 1∧t'.led=t.led∧t'.plain=t.plain ∧
   Tb t' (zs.map (·.1))∧(zs.map (·.2)).Perm (List.range hashes.size)∧dR t'.mask (zs.map λz=>(z.1,hashes.getD z.2 0)):=by
 obtain ⟨owner,e,L⟩:=lz c hashes hl
 refine ⟨{ mask:=sizeAbove wanted - 1,place:=((live (sizeAbove wanted - 1) owner).map (·.1)).toArray,dummies:=#[],finger:=t.finger,led:=t.led,moves:=t.movedTo (sizeAbove wanted - 1),plain:=t.plain },live (sizeAbove wanted - 1) owner,?_,rfl,rfl,rfl,⟨rfl,rfl,?_,?_⟩,?_,?_⟩
 ·unfold relaid laid
  rw [e]; rfl
 ·unfold Up live
  rw [List.map_filterMap]
  have e1:((List.range (sizeAbove wanted - 1+1)).filterMap λj=>((owner.getD j none).map (j,·)).map (·.1))=(List.range (sizeAbove wanted - 1+1)).filter λj=>(owner.getD j none).isSome:=by
   generalize List.range (sizeAbove wanted - 1+1)=l
   induction l with
   | nil=>rfl
   | cons x l ih =>
    cases ex:owner.getD x none with
    | none=>rw [List.filterMap_cons_none (by rw [ex]; rfl),List.filter_cons_of_neg (by simp [ex])]; exact ih
    | some i=>rw [List.filterMap_cons_some (b:=x) (by rw [ex]; rfl),List.filter_cons_of_pos (by simp [ex]),ih]
  rw [e1]
  exact List.Pairwise.sublist List.filter_sublist List.pairwise_lt_range
 ·intro j hj
  obtain ⟨z,hz,rfl⟩:=List.mem_map.mp hj
  unfold live at hz
  obtain ⟨k,hk,e1⟩:=List.mem_filterMap.mp hz
  cases ex:owner.getD k none with
  | none=>rw [ex] at e1; cases e1
  | some i =>
   rw [ex] at e1
   have e2:(k,i)=z:=Option.some.inj e1
   subst e2
   have:=List.mem_range.mp hk
   show k≤sizeAbove wanted - 1
   omega
 ·have:=L.perm
  rw [Array.length_toList] at this
  exact this
 ·intro y hy
  obtain ⟨z,hz,rfl⟩:=List.mem_map.mp hy
  have key:∀ z:Nat×Nat,z∈live (sizeAbove wanted - 1) owner↔z.1≤sizeAbove wanted - 1∧owner.getD z.1 none=some z.2:=by
   intro z
   unfold live
   rw [List.mem_filterMap]
   constructor
   ·rintro ⟨k,hk,e1⟩
    cases ex:owner.getD k none with
    | none=>rw [ex] at e1; cases e1
    | some i =>
     rw [ex] at e1
     have e2:(k,i)=z:=Option.some.inj e1
     subst e2
     have:=List.mem_range.mp hk
     exact ⟨by omega,ex⟩
   ·rintro ⟨h1,h2⟩
    exact ⟨z.1,List.mem_range.mpr (by omega),by rw [h2]; rfl⟩
  obtain ⟨z1,z2⟩:=(key z).mp hz
  obtain ⟨h,a1,n,a2,a3⟩:=L.path _ _ z2
  have eh:hashes.getD z.2 0=h:=by
   have a1':hashes[z.2]? = some h:=by simpa using a1
   rw [Array.getD_eq_getD_getElem?,a1']; rfl
  refine ⟨n,by rw [eh]; exact a2,λm hm=>?_⟩
  have:=a3 m hm
  have hle:=hU (sizeAbove wanted - 1) h m
  rw [eU L.size hle] at this
  cases ex:owner.getD (pos (sizeAbove wanted - 1) h m) none with
  | none=>rw [ex] at this; cases this
  | some i =>
   rw [List.map_map]
   show pos (sizeAbove wanted - 1) (hashes.getD z.2 0) m∈_
   rw [eh]
   exact List.mem_map.mpr ⟨(pos (sizeAbove wanted - 1) h m,i),(key _).mpr ⟨hle,ex⟩,rfl⟩
section
variable {prog:Program} {w:World} {K:Type} [DecidableEq K] {knd:KeyKind prog w K} {A:Around} {E:Value→Shared→Prop} {s:Shared}
theorem gF (n:Nat) {v:Value} (h:carriedByValue v=true):ofAClassStatement n v=pure false:=by
 cases v with
 | ref a=>simp [carriedByValue] at h
 | _=>cases n <;> rfl
theorem dU {ks:List K} {a:Addr} {Q:Bool→Shared→Prop} (hk:IsTupleKey knd s.heap ks a) (h:Q false s):wpAny (model prog w) A (ofAClassStatement 8 (.ref a)) Q E s:=by
 have hT:=hk.typeIs
 obtain ⟨o,items,n,ho,_,hd,hi⟩:=hk
 unfold ofAClassStatement
 refine wpAny_bind (wpAny_typeOf hT ?_)
 dsimp only
 rw [if_pos (by decide)]
 refine wpAny_bind (wpAny_pure ?_)
 simp only [Bool.not_true,Bool.false_eq_true,if_false]
 refine wpAny_bind (wpAny_seqItems ho hd ?_)
 dsimp only
 refine wpAny_bind ?_
 rw [← Array.forIn_toList]
 refine wpAny_forIn_list _ (λrest r s'=>r.1=none∧s'=s∧∀ v∈rest,carriedByValue v=true) _ ?_ ?_ _ _ ⟨rfl,rfl,hi.byValue⟩
 ·rintro v rest r s' ⟨hr,rfl,hall⟩
  rw [gF _ (hall v List.mem_cons_self)]
  refine wpAny_bind (wpAny_pure ?_)
  simp only [Bool.false_eq_true,if_false]
  exact wpAny_pure ⟨rfl,rfl,λu hu'=>hall u (List.mem_cons_of_mem _ hu')⟩
 ·rintro ⟨r1,r2⟩ s' ⟨hr,rfl,_⟩
  simp only at hr
  subst hr
  exact wpAny_pure h
theorem rg (n:Nat) {x:Value} (hx:x.scannable=true):∃ b,hashByValue n x=pure b:=⟨_,hashByValue_scannable n hx⟩
theorem pS {ks:List K} {a:Addr} {Q:Bool→Shared→Prop} (hk:IsTupleKey knd s.heap ks a) (hsc:∀ k v,knd.is k v=true→v.scannable=true) (h:∀ b,Q b s):wpAny (model prog w) A (hashByValue 8 (.ref a)) Q E s:=by
 have hT:=hk.typeIs
 obtain ⟨o,items,n,ho,_,hd,hi⟩:=hk
 have hall:∀ v∈items.toList,v.scannable=true:=by
  generalize items.toList=l at hi
  induction hi with
  | nil=>intro v hv; simp at hv
  | cons h1 _ ih =>
   intro v hv
   rcases List.mem_cons.mp hv with rfl | hv
   ·exact hsc _ _ h1
   ·exact ih v hv
 unfold hashByValue
 refine wpAny_bind (wpAny_specialOf hT F.slot_tuple_hash.lookup ?_)
 show wpAny _ _ (seqItems? (.ref a) >>= _) _ _ s
 refine wpAny_bind (wpAny_seqItems ho hd ?_)
 refine wpAny_bind ?_
 show wpAny _ _ (forIn items _ _) _ _ s
 rw [← Array.forIn_toList]
 refine wpAny_forIn_list _ (λrest r s'=>r.1=none∧s'=s∧∀ v∈rest,v.scannable=true) _ ?_ ?_ _ _ ⟨rfl,rfl,hall⟩
 ·rintro v rest r s' ⟨hr,rfl,hall⟩
  obtain ⟨b,e⟩:=rg 7 (hall v List.mem_cons_self)
  rw [e]
  refine wpAny_bind (wpAny_pure ?_)
  cases b with
  | true =>
   simp only [Bool.not_true,Bool.false_eq_true,if_false]
   exact wpAny_pure ⟨rfl,rfl,λu hu'=>hall u (List.mem_cons_of_mem _ hu')⟩
  | false =>
   simp only [Bool.not_false,if_true]
   exact wpAny_pure (wpAny_pure (h false))
 ·rintro ⟨r1,r2⟩ s' ⟨hr,rfl,_⟩
  simp only at hr
  subst hr
  exact wpAny_pure (h true)
theorem tZ {k:List K} {b:Addr} (hb:IsTupleKey knd s.heap k b) (stored:List Value) (hs:∀ v∈stored,∃ k' b',v = .ref b'∧IsTupleKey knd s.heap k' b') {Q:Bool→Shared→Prop} (h:Q false s) :
  wpAny (model prog w) A (searchCouldBeSeen (.ref b) stored) Q E s:=by
 unfold searchCouldBeSeen
 refine wpAny_bind ?_
 refine wpAny_forIn_list _ (λrest r s'=>r.1=none∧s'=s∧∀ v∈rest,∃ k' b',v = .ref b'∧IsTupleKey knd s.heap k' b') _ ?_ ?_ _ _ ⟨rfl,rfl,hs⟩
 ·rintro v rest r s' ⟨hr,rfl,hall⟩
  obtain ⟨k',b',rfl,hb'⟩:=hall v List.mem_cons_self
  have hall':=λu hu'=>hall u (List.mem_cons_of_mem _ hu')
  by_cases hv:(b == b')=true
  ·simp only [hv,Bool.true_or,if_true]
   exact wpAny_pure ⟨rfl,rfl,hall'⟩
  ·have hv':(b == b')=false:=by simpa using hv
   have hc:carriedByValue (.ref b)=false:=rfl
   simp only [hv',hc,Bool.false_and,Bool.or_false,Bool.false_eq_true,if_false]
   refine wpAny_bind (wpAny_eqIsQuiet_tuple hb ?_)
   simp only [Bool.not_true,Bool.false_eq_true,if_false]
   refine wpAny_bind (wpAny_eqIsQuiet_tuple hb' ?_)
   simp only [Bool.not_true,Bool.false_eq_true,if_false]
   refine wpAny_bind (dU hb ?_)
   simp only [Bool.false_eq_true,if_false]
   refine wpAny_bind (dU hb' ?_)
   simp only [Bool.false_eq_true,if_false]
   exact wpAny_pure ⟨rfl,rfl,hall'⟩
 ·rintro ⟨r1,r2⟩ s' ⟨hr,rfl,_⟩
  simp only at hr
  subst hr
  exact wpAny_pure h
end
section
variable {prog:Program} {w:World} {K:Type} [DecidableEq K] (knd:KeyKind prog w K)
noncomputable abbrev Ent (K:Type):=Nat×Addr×List K
noncomputable def ent (z:Ent K):Int×Value:=(tupleKeyHash knd z.2.2,.ref z.2.1)
noncomputable def pth (z:Ent K):Nat×Int:=(z.1,tupleKeyHash knd z.2.2)
structure TS (h:Heap) (a:Addr) (zs:List (Ent K)):Prop where
 ob:∃ o es ep t,h.get? a=some o∧o.ExactSet∧o.data = .set es ep t∧es.toList=zs.map (ent knd)∧Tb t (zs.map (·.1))∧Mk t.mask∧zs.length * 5<t.mask * 3∧dR t.mask (zs.map (pth knd))
 keys:∀ z∈zs,IsTupleKey knd h z.2.2 z.2.1
 nd:(zs.map (·.2.2)).Nodup
variable {knd}
variable {A:Around} {E:Value→Shared→Prop} {s:Shared}
theorem oD {t:SetTable} {l:List Nat} (T:Tb t l):t.fill=l.length:=by
 unfold SetTable.fill
 rw [T.pl,T.nd]; simp
theorem jE {t:SetTable} {l:List Nat} (T:Tb t l) {n:Nat} (hn:l.length=n) (hf:n≤t.mask):t.fits n=true:=by
 unfold SetTable.fits
 rw [oD T,T.pl]
 simp [hn,hf]
theorem hZ {mask:Nat} {h:Int} (n0 m:Nat):(nth mask (nth mask (st mask h) n0) m).j=pos mask h (n0+m):=by
 unfold pos; rw [dj]
theorem lA {a b:Addr} {o:Obj} {es:Array (Int×Value)} {ep:Nat} {t:SetTable} {zs:List (Ent K)} {k:List K} {Q:SetFound→Shared→Prop} (hu:A.units<cLine)
  (ho:s.heap.get? a=some o) (hd:o.data = .set es ep t) (hes:es.toList=zs.map (ent knd)) (T:Tb t (zs.map (·.1))) (hf:t.fits es.size=true) (hodd:t.gaveWay=false)
  (hk:∀ z∈zs,IsTupleKey knd s.heap z.2.2 z.2.1) (hb:IsTupleKey knd s.heap k b) {N:Nat} (hN:pos t.mask (tupleKeyHash knd k) N∉zs.map (·.1)) (hNb:N<10 * turns t.mask)
  (hN1:∀ m,m<N→pos t.mask (tupleKeyHash knd k) m∈zs.map (·.1))
  (q1:(∃ z∈zs,z.2.2=k)→Q (.there none) s) (q2:(∀ m,m<N→∀ z∈zs,z.1=pos t.mask (tupleKeyHash knd k) m→z.2.2≠k)→Q (.free (pos t.mask (tupleKeyHash knd k) N) false) s) :
  ∀ (d n0 fuel:Nat) (stand:Option SetTable.Probe),N - n0=d→n0≤N→d<fuel→stand.getD (t.probeStart (tupleKeyHash knd k))=nth t.mask (st t.mask (tupleKeyHash knd k)) n0 →
   (∀ m,m<n0→∀ z∈zs,z.1=pos t.mask (tupleKeyHash knd k) m→z.2.2≠k) →
   wpAny (model prog w) A (setSearchFrom a (.ref b) (tupleKeyHash knd k) true fuel stand) Q E s:=by
 intro d
 induction d using Nat.strongRecOn with
 | _ d ih =>
  intro n0 fuel stand hdd hn0 hfuel hst hpast
  obtain ⟨fuel,rfl⟩:∃ f,fuel=f+1:=⟨fuel - 1,by omega⟩
  unfold setSearchFrom
  refine wpAny_bind (wpAny_setState_of ho hd hf ?_)
  dsimp only
  rw [hodd]
  simp only [Bool.false_eq_true,if_false]
  rw [hst]
  have hget:∀ {i:Nat} {z:Ent K},zs[i]? = some z→es[i]? = some (ent knd z):=λ{i z} e=>by
   rw [← Array.getElem?_toList,hes,List.getElem?_map,e]; rfl
  obtain ⟨n,hn,hev,hno⟩:=lx (λm=>pos t.mask (tupleKeyHash knd k) (n0+m)∉zs.map (·.1)∨∃ z∈zs,z.1=pos t.mask (tupleKeyHash knd k) (n0+m)∧tupleKeyHash knd z.2.2=tupleKeyHash knd k) (N - n0)
   (.inl (by rw [show n0+(N - n0)=N by omega]; exact hN))
  have hlive:∀ m,pos t.mask (tupleKeyHash knd k) m∈zs.map (·.1)→∃ i z,t.slot (pos t.mask (tupleKeyHash knd k) m) = .live i∧zs[i]? = some z∧z.1=pos t.mask (tupleKeyHash knd k) m:=λm hm=>by
   obtain ⟨i,hi,e⟩:=List.mem_iff_getElem.mp hm
   have hi':i<zs.length:=by simpa using hi
   have e1:(zs.map (·.1))[i]? = some (pos t.mask (tupleKeyHash knd k) m):=by rw [List.getElem?_eq_getElem hi,e]
   refine ⟨i,zs[i],jD T e1,by simp [hi'],?_⟩
   rw [List.getElem_map] at e
   exact e
  have hskip:∀ m,m<n→∃ i,t.slot (nth t.mask (nth t.mask (st t.mask (tupleKeyHash knd k)) n0) m).j = .live i∧((es[i]?.map (·.1)).getD 0 == tupleKeyHash knd k)=false:=λm hm=>by
   have h1:pos t.mask (tupleKeyHash knd k) (n0+m)∈zs.map (·.1):=by
    by_cases z:pos t.mask (tupleKeyHash knd k) (n0+m)∈zs.map (·.1)
    ·exact z
    ·exact (hno m hm (.inl z)).elim
   obtain ⟨i,z,e1,e2,e3⟩:=hlive _ h1
   refine ⟨i,by rw [hZ]; exact e1,?_⟩
   rw [hget e2]
   show (tupleKeyHash knd z.2.2 == tupleKeyHash knd k)=false
   rw [beq_eq_false_iff_ne]
   intro e4
   exact hno m hm (.inr ⟨z,List.mem_of_getElem? e2,e3,e4⟩)
  by_cases hmem:pos t.mask (tupleKeyHash knd k) (n0+n)∈zs.map (·.1)
  ·
   have hcand:∃ z∈zs,z.1=pos t.mask (tupleKeyHash knd k) (n0+n)∧tupleKeyHash knd z.2.2=tupleKeyHash knd k:=by
    rcases hev with e | e
    ·exact (e hmem).elim
    ·exact e
   obtain ⟨i,z,e1,e2,e3⟩:=hlive _ hmem
   have hz:z∈zs:=List.mem_of_getElem? e2
   have hzh:tupleKeyHash knd z.2.2=tupleKeyHash knd k:=by
    obtain ⟨z',hz',f1,f2⟩:=hcand
    have hinj:z'=z:=by
     obtain ⟨i',hi',ei'⟩:=List.mem_iff_getElem.mp hz'
     have g1:(zs.map (·.1))[i']? = some (pos t.mask (tupleKeyHash knd k) (n0+n)):=by rw [List.getElem?_map,List.getElem?_eq_getElem hi',ei',← f1]; rfl
     have g2:=jD T g1
     rw [e1] at g2
     cases g2
     rw [List.getElem?_eq_getElem hi',ei'] at e2
     exact Option.some.inj e2
    rw [← hinj]; exact f2
   have hnN:n0+n<N:=by
    rcases Nat.lt_or_ge (n0+n) N with z' | z'
    ·exact z'
    ·have:n0+n=N:=by omega
     rw [this] at hmem; exact (hN hmem).elim
   have hp:=oA t (λi=>(es[i]?.map (·.1)).getD 0) (tupleKeyHash knd k) i n (nth t.mask (st t.mask (tupleKeyHash knd k)) n0) (10 * turns t.mask) (by omega) hskip (by rw [hZ]; exact e1)
    (by rw [hget e2]; show (tupleKeyHash knd z.2.2 == tupleKeyHash knd k)=true; rw [hzh]; simp)
   generalize hg:SetTable.probe t _ (tupleKeyHash knd k) (nth t.mask (st t.mask (tupleKeyHash knd k)) n0)=met
   have hmet:met=some (.candidate (nth t.mask (nth t.mask (st t.mask (tupleKeyHash knd k)) n0) n).j i (nth t.mask (nth t.mask (st t.mask (tupleKeyHash knd k)) n0) (n+1))):=hg.symm.trans hp
   subst hmet
   dsimp only
   have cont:wpAny (model prog w) A (match es[i]? with
      | some (_,y)=>do
       let equal ← holding [y] (eqBool y (.ref b))
       let (es',_,t') ← setState a
       if (true && equal)=true then return SetFound.there none
       let some same:=t'.sameMemory t.moves t.mask | unsupported "set.changed-during-lookup:is-the-new-block-at-the-old-address"
       let still ← match (if same then t'.slot (nth t.mask (nth t.mask (st t.mask (tupleKeyHash knd k)) n0) n).j else .empty) with
        | .live i'=>match es'[i']? with
         | some (_,y')=>do pure (if ← isSame y' y then some i' else none)
         | none=>pure none
        | _=>pure none
       match still with
       | none=>rule "set.search.anew"; setSearchFrom a (.ref b) (tupleKeyHash knd k) true fuel none
       | some i'=>if equal then return SetFound.there (some i') else setSearchFrom a (.ref b) (tupleKeyHash knd k) true fuel (some (nth t.mask (nth t.mask (st t.mask (tupleKeyHash knd k)) n0) (n+1)))
      | _=>unsupported "internal:set-entry") Q E s:=by
    rw [hget e2]
    show wpAny _ _ (holding [Value.ref z.2.1] (eqBool (.ref z.2.1) (.ref b)) >>= _) _ _ _
    refine wpAny_bind (wpAny_holding (wpAny_eqBool_tuple hu (hk z hz) hb ?_))
    refine wpAny_bind (wpAny_setState_of ho hd hf ?_)
    dsimp only
    by_cases hkk:z.2.2=k
    ·rw [decide_eq_true hkk]
     simp only [Bool.and_self,if_true]
     exact wpAny_pure (q1 ⟨z,hz,hkk⟩)
    ·rw [decide_eq_false hkk]
     simp only [Bool.and_false,Bool.false_eq_true,if_false]
     have hsm:t.sameMemory t.moves t.mask=some true:=by unfold SetTable.sameMemory; simp
     rw [hsm]
     simp only [if_true]
     rw [hZ,e1]
     dsimp only
     rw [hget e2]
     dsimp only
     refine wpAny_bind (wpAny_isSame_ref_self ?_)
     simp only [if_true]
     refine wpAny_bind (wpAny_pure ?_)
     dsimp only
     refine ih (N - (n0+n+1)) (by omega) (n0+n+1) fuel _ rfl (by omega) (by omega) ?_ ?_
     ·show nth t.mask (nth t.mask (st t.mask (tupleKeyHash knd k)) n0) (n+1)=_
      rw [← dj]; rfl
     ·intro m hm z' hz' e
      by_cases hlt:m<n0
      ·exact hpast m hlt z' hz' e
      ·intro hzk
       have hm2:pos t.mask (tupleKeyHash knd k) m∈zs.map (·.1):=List.mem_map.mpr ⟨z',hz',e⟩
       obtain ⟨m',rfl⟩:∃ m',m=n0+m':=⟨m - n0,by omega⟩
       rcases Nat.lt_or_ge m' n with hlt' | hge
       ·exact hno m' hlt' (.inr ⟨z',hz',e,by rw [hzk]⟩)
       ·have:m'=n:=by omega
        subst this
        obtain ⟨i',hi',ei'⟩:=List.mem_iff_getElem.mp hz'
        have g1:(zs.map (·.1))[i']? = some (pos t.mask (tupleKeyHash knd k) (n0+m')):=by rw [List.getElem?_map,List.getElem?_eq_getElem hi',ei',← e]; rfl
        have g2:=jD T g1
        rw [e1] at g2
        cases g2
        rw [List.getElem?_eq_getElem hi',ei'] at e2
        have:z'=z:=Option.some.inj e2
        exact hkk (this ▸ hzk)
   cases hl:t.led with
   | true =>
    simp only [Bool.not_true,Bool.false_eq_true,if_false]
    exact cont
   | false =>
    simp only [Bool.not_false,if_true]
    refine wpAny_bind (tZ hb _ ?_ ?_)
    ·intro v hv
     obtain ⟨e,he,rfl⟩:=List.mem_map.mp hv
     rw [Array.toList_filter,hes] at he
     obtain ⟨he1,_⟩:=List.mem_filter.mp he
     obtain ⟨z',hz',rfl⟩:=List.mem_map.mp he1
     exact ⟨z'.2.2,z'.2.1,rfl,hk z' hz'⟩
    ·simp only [Bool.false_eq_true,if_false]
     exact cont
  ·
   have hnN:n0+n=N:=by
    rcases Nat.lt_or_ge (n0+n) N with z | z
    ·exact (hmem (hN1 _ z)).elim
    ·omega
   have hp:=ly t (λi=>(es[i]?.map (·.1)).getD 0) (tupleKeyHash knd k) n (nth t.mask (st t.mask (tupleKeyHash knd k)) n0) (10 * turns t.mask) (by omega) hskip (by rw [hZ]; exact rc T hmem)
   generalize hg:SetTable.probe t _ (tupleKeyHash knd k) (nth t.mask (st t.mask (tupleKeyHash knd k)) n0)=met
   have hmet:met=some (.empty (nth t.mask (nth t.mask (st t.mask (tupleKeyHash knd k)) n0) n).j (nth t.mask (st t.mask (tupleKeyHash knd k)) n0).dummy):=hg.symm.trans hp
   subst hmet
   have hdm:(nth t.mask (st t.mask (tupleKeyHash knd k)) n0).dummy=none:=fw _ _ _
   rw [hdm]
   dsimp only
   rw [hZ,hnN]
   refine wpAny_pure (q2 λm hm z hz e hzk=>?_)
   by_cases hlt:m<n0
   ·exact hpast m hlt z hz e hzk
   ·obtain ⟨m',rfl⟩:∃ m',m=n0+m':=⟨m - n0,by omega⟩
    exact hno m' (by omega) (.inr ⟨z,hz,e,by rw [hzk]⟩)
end
theorem oE:∀ (n:Nat) (l:List Nat),(∀ j,j<n→j∈l)→n≤l.length
 | 0,_,_=>Nat.zero_le _
 | n+1,l,h=>by
  have hn:=h n (by omega)
  have ih:=oE n (l.erase n) λj hj=>(List.mem_erase_of_ne (by omega)).mpr (h j (by omega))
  rw [List.length_erase_of_mem hn] at ih
  have:0<l.length:=List.length_pos_of_mem hn
  omega
theorem nw (n:Nat) (l:List Nat) (h:l.length≤n):∃ j,j≤n∧j∉l:=by
 by_cases z:∃ j,j≤n∧j∉l
 ·exact z
 ·exfalso
  have:=oE (n+1) l λj hj=>by
   by_cases e:j∈l
   ·exact e
   ·exact (z ⟨j,by omega,e⟩).elim
  omega
section
variable {prog:Program} {w:World} {K:Type} [DecidableEq K] {knd:KeyKind prog w K} {A:Around} {E:Value→Shared→Prop} {s:Shared}
theorem IsTupleKey.same {h h':Heap} {ks:List K} {a d:Addr} {o:Obj} {es ep t} (x:IsTupleKey knd h ks a) (ho:h.get? d=some o) (hd:o.data = .set es ep t) (hs:Heap.SameBut d h h'):IsTupleKey knd h' ks a:=by
 obtain ⟨o',items,n,ho',hc,hd',hi⟩:=x
 have hne:a≠d:=by
  rintro rfl
  obtain rfl:o'=o:=Option.some.inj (ho'.symm.trans ho)
  rw [hd] at hd'; exact nomatch hd'
 exact ⟨o',items,n,(hs.2 a hne).trans ho',hc,hd',hi⟩
theorem rh {t:SetTable} {l:List Nat} (T:Tb t l) (b:Bool):Tb { t with plain:=b } l:=⟨T.pl,T.nd,T.up,T.le⟩
theorem stored {a:Addr} {o:Obj} {es:Array (Int×Value)} {ep:Nat} {t:SetTable} (ho:s.heap.get? a=some o) (hd:o.data = .set es ep t) (es':Array (Int×Value)) (t':SetTable) :
  (s.heap.update a (Obj.putSet es' t')).get? a=some { o with data:=.set es' (ep+1) t' }:=by
 have:=Heap.get?_update_self (Obj.putSet es' t') ho (by rw [putSet_of es' t' hd]; rfl)
 rw [putSet_of es' t' hd] at this; exact this
theorem ri {n:Nat} (h:n≤64):n≤sizeLine:=by rw [sizeLine_eq]; omega
theorem pU {a b:Addr} {zs:List (Ent K)} {k:List K} {Q:Bool→Shared→Prop} (hu:A.units<cLine) (hsc:∀ k v,knd.is k v=true→v.scannable=true) (hS:TS knd s.heap a zs) (hb:IsTupleKey knd s.heap k b) (hroom:zs.length<60)
  (h:∀ r h' zs',Heap.SameBut a s.heap h'→TS knd h' a zs'→((k∈zs.map (·.2.2)∧zs'=zs)∨(k∉zs.map (·.2.2)∧(zs'.map (·.2)).Perm ((b,k) :: zs.map (·.2))))→Q r { s with heap:=h' }) :
  wpAny (model prog w) A (setAddHashed a (.ref b) (tupleKeyHash knd k)) Q E s:=by
 obtain ⟨⟨o,es,ep,t,ho,hex,hd,hes,T,hmask,hfull,hpath⟩,hk,hnd⟩:=id hS
 have hlen:es.size=zs.length:=by rw [← Array.length_toList,hes,List.length_map]
 have hge:=hmask.ge
 have hle:zs.length≤t.mask:=by omega
 have hf:t.fits es.size=true:=jE T (by rw [List.length_map,hlen]) (by rw [hlen]; exact hle)
 have hodd:t.gaveWay=false:=by unfold SetTable.gaveWay; rw [hmask.odd]; rfl
 have cyc:=hmask.cyc
 obtain ⟨j₀,hj₀,hj₀'⟩:=nw t.mask (zs.map (·.1)) (by rw [List.length_map]; exact hle)
 obtain ⟨n₀,hn₀,en₀⟩:=cover cyc (tupleKeyHash knd k) hj₀
 obtain ⟨N,hNle,hN,hNno⟩:=lx (λm=>pos t.mask (tupleKeyHash knd k) m∉zs.map (·.1)) n₀ (by rw [en₀]; exact hj₀')
 have hN1:∀ m,m<N→pos t.mask (tupleKeyHash knd k) m∈zs.map (·.1):=λm hm=>by
  by_cases z:pos t.mask (tupleKeyHash knd k) m∈zs.map (·.1)
  ·exact z
  ·exact (hNno m hm z).elim
 have hturns:10 * turns t.mask<100000:=by unfold turns; omega
 unfold setAddHashed setAddHashedIn
 refine wpAny_holding (wpAny_bind (wpAny_setState_of ho hd hf ?_))
 dsimp only
 have hby:byScan (.ref b) es=false:=rfl
 rw [hby]
 simp only [Bool.false_eq_true,if_false]
 refine wpAny_bind ?_
 unfold setSearch
 refine lA hu ho hd hes T hf hodd hk hb hN (by omega) hN1 ?_ ?_ N 0 100000 none rfl (by omega) (by omega) rfl (λm hm=>by omega)
 ·intro hex'
  dsimp only
  have e:s={ s with heap:=s.heap }:=by cases s; rfl
  have hq:=h false s.heap zs (Heap.SameBut.refl a s.heap) hS (.inl ⟨by
   obtain ⟨z,hz,e⟩:=hex'
   exact List.mem_map.mpr ⟨z,hz,e⟩,rfl⟩)
  rw [e]; exact wpAny_pure hq
 ·intro hnone
  have hknew:k∉zs.map (·.2.2):=by
   intro hm
   obtain ⟨z,hz,ez⟩:=List.mem_map.mp hm
   obtain ⟨n,e1,e2⟩:=hpath (pth knd z) (List.mem_map.mpr ⟨z,hz,rfl⟩)
   have e1':pos t.mask (tupleKeyHash knd k) n=z.1:=by rw [← ez]; exact e1
   have e2':∀ m,m<n→pos t.mask (tupleKeyHash knd k) m∈zs.map (·.1):=λm hm=>by
    have:=e2 m hm
    rw [List.map_map] at this
    rw [← ez]; exact this
   have hnN:n<N:=by
    rcases Nat.lt_or_ge n N with z' | z'
    ·exact z'
    ·exfalso
     rcases Nat.lt_or_ge N n with z'' | z''
     ·exact hN (e2' N z'')
     ·have:n=N:=by omega
      subst this
      exact hN (by rw [e1']; exact List.mem_map.mpr ⟨z,hz,rfl⟩)
   exact hnone n hnN z hz e1'.symm ez
  dsimp only
  refine wpAny_bind (wpAny_setState_of ho hd hf ?_)
  dsimp only
  have hpl:pos t.mask (tupleKeyHash knd k) N≤t.mask:=hU _ _ _
  obtain ⟨T1,hp1,hm1⟩:=wg T hN hpl
  generalize hput:t.put (pos t.mask (tupleKeyHash knd k) N)=tp at T1 hp1 hm1 ⊢
  obtain ⟨t1,p⟩:=tp
  dsimp only at T1 hp1 hm1 ⊢
  obtain ⟨zs1,hzs1⟩:∃ zs1,zs1=zs.take p++(pos t.mask (tupleKeyHash knd k) N,b,k) :: zs.drop p:=⟨_,rfl⟩
  have hT1:zs1.map (·.1)=(zs.map (·.1)).take (below (zs.map (·.1)).toArray (pos t.mask (tupleKeyHash knd k) N))++(pos t.mask (tupleKeyHash knd k) N) :: (zs.map (·.1)).drop (below (zs.map (·.1)).toArray (pos t.mask (tupleKeyHash knd k) N)):=by
   rw [hzs1,← hp1]; simp [List.map_take,List.map_drop]
  rw [← hT1] at T1
  have hperm:zs1.Perm ((pos t.mask (tupleKeyHash knd k) N,b,k) :: zs):=by
   rw [hzs1]
   refine List.perm_middle.trans ?_
   rw [List.take_append_drop]
  have hlen1:zs1.length=zs.length+1:=by rw [hperm.length_eq,List.length_cons]
  have hes1:(insertAt es p (tupleKeyHash knd k,Value.ref b)).toList=zs1.map (ent knd):=by
   rw [SetTable.toList_insertAt,hes,hzs1]
   simp [List.map_take,List.map_drop,ent]
  have hpath1:dR t.mask (zs1.map (pth knd)):=by
   refine dR.mono hpath (pos t.mask (tupleKeyHash knd k) N,tupleKeyHash knd k) (λz hz=>?_) (λz hz=>?_) ⟨N,rfl,λm hm=>by rw [List.map_map]; exact hN1 m hm⟩
   ·obtain ⟨y,hy,rfl⟩:=List.mem_map.mp hz
    rcases List.mem_cons.mp (hperm.mem_iff.mp hy) with e | e
    ·right; rw [e]; rfl
    ·left; exact List.mem_map.mpr ⟨y,e,rfl⟩
   ·obtain ⟨y,hy,rfl⟩:=List.mem_map.mp hz
    exact List.mem_map.mpr ⟨y,hperm.mem_iff.mpr (List.mem_cons_of_mem _ hy),rfl⟩
  have hkeys1:∀ z∈zs1,IsTupleKey knd s.heap z.2.2 z.2.1:=λz hz=>by
   rcases List.mem_cons.mp (hperm.mem_iff.mp hz) with e | e
   ·rw [e]; exact hb
   ·exact hk z e
  have hkp1:(zs1.map (·.2.2)).Perm (k :: zs.map (·.2.2)):=hperm.map _
  have hkq1:(zs1.map (·.2)).Perm ((b,k) :: zs.map (·.2)):=hperm.map _
  have hnd1:(zs1.map (·.2.2)).Nodup:=hkp1.nodup_iff.mpr (List.nodup_cons.mpr ⟨hknew,hnd⟩)
  have hsz1:(insertAt es p (tupleKeyHash knd k,Value.ref b)).size=zs.length+1:=by rw [← Array.length_toList,hes1,List.length_map,hlen1]
  have tail:∀ t2:SetTable,Tb t2 (zs1.map (·.1))→t2.mask=t.mask→wpAny (model prog w) A (do
    storeSet a (insertAt es p (tupleKeyHash knd k,Value.ref b)) t2
    if (!false && t2.tooFull)=true then do
      setRelay a (SetTable.grown (es.size+1))
      pure true
     else pure true) Q E s:=by
   intro t2 T2 hm2
   refine wpAny_bind (wpAny_storeSet_of ho hd ?_ (by rw [hsz1]; exact ri (by omega)))
   have ho1:=stored ho hd (insertAt es p (tupleKeyHash knd k,Value.ref b)) t2
   have hsb1:=Heap.SameBut.update s.heap a (Obj.putSet (insertAt es p (tupleKeyHash knd k,Value.ref b)) t2)
   have hfill:t2.fill=zs.length+1:=by rw [oD T2,List.length_map,hlen1]
   by_cases hfull2:t2.tooFull=true
   ·rw [hfull2]
    simp only [Bool.not_false,Bool.and_self,if_true]
    refine wpAny_bind ?_
    unfold setRelay
    have hf2:t2.fits (insertAt es p (tupleKeyHash knd k,Value.ref b)).size=true:=jE T2 (by rw [List.length_map,hlen1,hsz1]) (by rw [hsz1,hm2]; omega)
    refine wpAny_bind (wpAny_setState_of ho1 rfl hf2 ?_)
    dsimp only
    obtain ⟨nn,hnn⟩:∃ nn,nn=zs.length+1:=⟨_,rfl⟩
    have hw:SetTable.grown (es.size+1)=nn * 4:=by rw [hlen,hnn]; unfold SetTable.grown; rw [if_neg (by omega)]
    obtain ⟨hmk,hsz,hsz256⟩:=rb (w:=nn * 4) (by omega)
    rw [hw]
    rw [if_neg (by rw [sizeLine_eq]; omega)]
    have hhs:((insertAt es p (tupleKeyHash knd k,Value.ref b)).map (·.1)).size=nn:=by rw [Array.size_map,hsz1,hnn]
    obtain ⟨t3,zi,hrel,hm3,hl3,hp3,T3,hperm3,hpath3⟩:=pR (t:=t2) (hashes:=(insertAt es p (tupleKeyHash knd k,Value.ref b)).map (·.1)) (wanted:=nn * 4) hmk.cyc (by rw [hhs]; omega)
    rw [hhs] at hperm3
    have hidx:∀ z∈zi,z.2<nn:=λz hz=>List.mem_range.mp (hperm3.mem_iff.mp (List.mem_map.mpr ⟨z,hz,rfl⟩))
    have hlen5:zs1.length=nn:=by rw [hlen1,hnn]
    obtain ⟨zs2,hzs2⟩:∃ zs2:List (Ent K),zs2=zi.map λz=>(z.1,(zs1.getD z.2 (0,0,[])).2):=⟨_,rfl⟩
    have hgetE:∀ i,i<nn→(insertAt es p (tupleKeyHash knd k,Value.ref b))[i]? = some (ent knd (zs1.getD i (0,0,[]))):=λi hi=>by
     rw [← Array.getElem?_toList,hes1,List.getElem?_map,List.getD_eq_getElem?_getD,List.getElem?_eq_getElem (by omega)]; rfl
    have hes2:(((zi.map (·.2)).toArray).filterMap (λi=>(insertAt es p (tupleKeyHash knd k,Value.ref b))[i]?)).toList=zs2.map (ent knd):=by
     rw [Array.toList_filterMap,hzs2]
     show (zi.map (·.2)).filterMap _=_
     rw [List.filterMap_map,List.map_map]
     have:∀ l:List (Nat×Nat),(∀ z∈l,z.2<nn)→l.filterMap ((λi=>(insertAt es p (tupleKeyHash knd k,Value.ref b))[i]?) ∘ λx=>x.2)=l.map (ent knd ∘ λz=>(z.1,(zs1.getD z.2 (0,0,[])).2)):=by
      intro l
      induction l with
      | nil=>intro _; rfl
      | cons x l ih =>
       intro hl
       rw [List.filterMap_cons_some (b:=ent knd (zs1.getD x.2 (0,0,[]))) (by show (insertAt es p (tupleKeyHash knd k,Value.ref b))[x.2]? = _; exact hgetE _ (hl x (by simp))),List.map_cons,ih λz hz=>hl z (by simp [hz])]
       rfl
     exact this zi hidx
    have hsz2:(((zi.map (·.2)).toArray).filterMap (λi=>(insertAt es p (tupleKeyHash knd k,Value.ref b))[i]?)).size=nn:=by
     rw [← Array.length_toList,hes2,List.length_map,hzs2,List.length_map]
     have:=hperm3.length_eq
     rw [List.length_map,List.length_range] at this
     exact this
    refine wpAny_bind ?_
    rw [hrel]
    show wpAny _ _ (@ite _ _ _ _ _) _ _ _
    rw [if_neg (by rw [hsz2,hsz1,hnn]; simp)]
    refine wpAny_pure ?_
    dsimp only
    refine wpAny_storeSet_of ho1 rfl ?_ (by rw [hsz2]; exact ri (by omega))
    have ho2:=stored (s:={ s with heap:=s.heap.update a (Obj.putSet (insertAt es p (tupleKeyHash knd k,Value.ref b)) t2) }) ho1 rfl (((zi.map (·.2)).toArray).filterMap (λi=>(insertAt es p (tupleKeyHash knd k,Value.ref b))[i]?)) t3
    have hsb2:=hsb1.trans (Heap.SameBut.update (s.heap.update a (Obj.putSet (insertAt es p (tupleKeyHash knd k,Value.ref b)) t2)) a (Obj.putSet (((zi.map (·.2)).toArray).filterMap (λi=>(insertAt es p (tupleKeyHash knd k,Value.ref b))[i]?)) t3))
    have hkq2:(zs2.map (·.2)).Perm (zs1.map (·.2)):=by
     rw [hzs2,List.map_map]
     have e1:zi.map ((λz:Ent K=>z.2) ∘ λz=>(z.1,(zs1.getD z.2 (0,0,[])).2))=(zi.map (·.2)).map λi=>(zs1.getD i (0,0,[])).2:=by rw [List.map_map]; rfl
     have e2:zs1.map (·.2)=(List.range nn).map λi=>(zs1.getD i (0,0,[])).2:=by
      apply List.ext_getElem?
      intro i
      rw [List.getElem?_map,List.getElem?_map]
      by_cases hi:i<nn
      ·rw [List.getElem?_eq_getElem (by omega),List.getElem?_range hi]
       have e3:zs1.getD i (0,0,[])=zs1[i]'(by omega):=by rw [List.getD_eq_getElem?_getD,List.getElem?_eq_getElem (by omega)]; rfl
       show some (zs1[i]'(by omega)).2=some (zs1.getD i (0,0,[])).2
       rw [e3]
      ·rw [List.getElem?_eq_none (by omega),List.getElem?_eq_none (by rw [List.length_range]; omega)]; rfl
     rw [e1,e2]
     exact hperm3.map _
    have hkp2:(zs2.map (·.2.2)).Perm (zs1.map (·.2.2)):=by
     have:=hkq2.map (·.2)
     rw [List.map_map,List.map_map] at this
     exact this
    have hmem2:∀ z∈zs2,∃ y∈zs1,y.2=z.2:=λz hz=>by
     rw [hzs2] at hz
     obtain ⟨y,hy,rfl⟩:=List.mem_map.mp hz
     have:=hidx y hy
     refine ⟨zs1[y.2]'(by omega),List.getElem_mem _,?_⟩
     rw [List.getD_eq_getElem?_getD,List.getElem?_eq_getElem (by omega)]; rfl
    refine wpAny_pure (h true _ zs2 hsb2 ⟨⟨_,_,_,t3,ho2,hex,rfl,hes2,?_,by rw [hm3]; exact hmk,?_,?_⟩,λz hz=>?_,hkp2.nodup_iff.mpr hnd1⟩ (.inr ⟨hknew,hkq2.trans hkq1⟩))
    ·have e1:zs2.map (·.1)=zi.map (·.1):=by rw [hzs2,List.map_map]; rfl
     rw [e1]; exact T3
    ·have:zs2.length=nn:=by
      have:=hkp2.length_eq
      rw [List.length_map,List.length_map,hlen5] at this
      exact this
     rw [this,hm3]; omega
    ·have e1:zs2.map (pth knd)=zi.map λz=>(z.1,((insertAt es p (tupleKeyHash knd k,Value.ref b)).map (·.1)).getD z.2 0):=by
      rw [hzs2,List.map_map]
      apply List.map_congr_left
      intro z hz
      show (z.1,tupleKeyHash knd (zs1.getD z.2 (0,0,[])).2.2)=_
      congr 1
      rw [Array.getD_eq_getD_getElem?,Array.getElem?_map,hgetE _ (hidx z hz)]; rfl
     rw [e1]; exact hpath3
    ·obtain ⟨y,hy,e⟩:=hmem2 z hz
     rw [← e]
     exact IsTupleKey.same (hkeys1 y hy) ho hd hsb2
   ·have hnf:t2.tooFull=false:=by simpa using hfull2
    rw [hnf]
    simp only [Bool.and_false,Bool.false_eq_true,if_false]
    refine wpAny_pure (h true _ zs1 hsb1 ⟨⟨_,_,_,t2,ho1,hex,rfl,hes1,T2,by rw [hm2]; exact hmask,?_,by rw [hm2]; exact hpath1⟩,λz hz=>IsTupleKey.same (hkeys1 z hz) ho hd hsb1,hnd1⟩ (.inr ⟨hknew,hkq1⟩))
    unfold SetTable.tooFull at hnf
    rw [decide_eq_false_iff_not,hfill] at hnf
    rw [hlen1]; omega
  cases hpl2:t1.plain with
  | true =>
   simp only [if_true]
   refine wpAny_bind (pS hb hsc λbb=>?_)
   cases bb with
   | true =>
    simp only [if_true]
    exact tail t1 T1 hm1
   | false =>
    simp only [Bool.false_eq_true,if_false]
    exact tail _ (rh T1 false) hm1
  | false =>
   simp only [Bool.false_eq_true,if_false]
   refine wpAny_bind (wpAny_pure ?_)
   simp only [if_true]
   exact tail t1 T1 hm1
end
theorem jf {α:Type} [DecidableEq α]:∀ l:List α,¬ l.Nodup→∃ l':List α,l'.length+1=l.length∧∀ x∈l,x∈l'
 | [],h=>(h List.nodup_nil).elim
 | x :: r,h=>by
  by_cases hx:x∈r
  ·refine ⟨r,rfl,λy hy=>?_⟩
   rcases List.mem_cons.mp hy with e | e
   ·rw [e]; exact hx
   ·exact e
  ·have hr:¬ r.Nodup:=λz=>h (List.nodup_cons.mpr ⟨hx,z⟩)
   obtain ⟨r',e,s⟩:=jf r hr
   refine ⟨x :: r',by simp [← e],λy hy=>?_⟩
   rcases List.mem_cons.mp hy with e' | e'
   ·rw [e']; simp
   ·exact List.mem_cons_of_mem _ (s y e')
theorem lB {α:Type} [DecidableEq α] {z l:List α} (hz:z.Nodup) (h:∀ x,x∈z↔x∈l):z.length=l.length↔l.Nodup:=by
 constructor
 ·intro e
  by_cases hl:l.Nodup
  ·exact hl
  ·obtain ⟨l',e',s⟩:=jf l hl
   have:=List.Nodup.length_le_of_subset hz (λx hx=>s x ((h x).mp hx))
   omega
 ·intro hl
  exact ((List.perm_ext_iff_of_nodup hz hl).mpr h).length_eq
section
variable {prog:Program} {w:World} {K:Type} [DecidableEq K] {knd:KeyKind prog w K} {A:Around} {R:Result→Shared→Prop} {I:Addr} {fp wr:List Addr} {G:Array GenState→Array GenState→Prop} {n:Nat} {P:Nat→Value→Prop} {St:Nat→Shared→Prop}
theorem ia {wr:List Addr} {s s':Shared} {k:List K} {b:Addr} (m:Moved wr G s s') (hb:b∉wr) (h:IsTupleKey knd s.heap k b):IsTupleKey knd s'.heap k b:=by
 obtain ⟨o,items,n,ho,r⟩:=h
 exact ⟨o,items,n,m.heap b o hb ho,r⟩
theorem lC {wr:List Addr} {s s':Shared} {S:Addr} {zs:List (Ent K)} (m:Moved wr G s s') (hS:S∉wr) (hz:∀ z∈zs,z.2.1∉wr) (h:TS knd s.heap S zs):TS knd s'.heap S zs:=by
 obtain ⟨⟨o,es,ep,t,ho,r⟩,hk,hn⟩:=h
 exact ⟨⟨o,es,ep,t,m.heap S o hS ho,r⟩,λz hz'=>ia m (hz z hz') (hk z hz'),hn⟩
theorem cL (W:WalksS prog w A.in1 I fp wr G n P St) (S:Addr) (hSf:S∉fp) (hu:A.in1.units<cLine) (hsc:∀ k v,knd.is k v=true→v.scannable=true) (key:Nat→List K) (ad:Nat→Addr)
  (hval:∀ i v,P i v→v = .ref (ad i)) (had:∀ i,i<n→ad i∉S :: fp) (hn:n≤60) :
  ∀ (k i:Nat) (s:Shared) (zs:List (Ent K)),n - i=k→i≤n→St i s→TS knd s.heap S zs→zs.length≤i→(∀ z∈zs,∃ j,j<n∧z.2.1=ad j)→(∀ k',k'∈zs.map (·.2.2)↔∃ j,j<i∧key j=k')→(∀ j,j<n→IsTupleKey knd s.heap (key j) (ad j)) →
   (∀ s' zs',Moved (S :: wr) G s s'→TS knd s'.heap S zs'→zs'.length≤n→(∀ k',k'∈zs'.map (·.2.2)↔∃ j,j<n∧key j=k')→R (.ok (.ret .none)) s') →
   codeAny (model prog w) A (.builtin "set.update.loop" ⟨[.ref S,.ref I],[]⟩) R s:=by
 have hSw:S∉wr:=λh=>hSf (W.sub _ h)
 have hsub:∀ b∈wr,b∈S :: wr:=λb hb=>List.mem_cons_of_mem _ hb
 have hadw:∀ i,i<n→ad i∉wr:=λi hi h=>had i hi (List.mem_cons_of_mem _ (W.sub _ h))
 have hadS:∀ i,i<n→ad i≠S:=λi hi h=>had i hi (by rw [h]; exact List.mem_cons_self)
 intro k
 induction k with
 | zero =>
  intro i s zs hk hi hst hS hl hza hmem hks hR
  have hin:i=n:=by omega
  subst hin
  refine codeAny_builtin PyProof.Rows.F.entry_set_update_loop ?_
  rw [Around.under_plainId PyProof.Rows.F.plain_set_update_loop _]
  show wpAny _ A.in1 (pyNext (.ref I) >>= _) _ _ s
  refine wpAny_bind (W.done s _ _ hst λs' hm=>?_)
  show wpAny _ A.in1 (ret Value.none) _ _ s'
  exact wpAny_pure (hR s' zs (hm.mono hsub) (lC hm hSw (λz hz=>by obtain ⟨j,hj,e⟩:=hza z hz; rw [e]; exact hadw j hj) hS) hl hmem)
 | succ k ih =>
  intro i s zs hk hi hst hS hl hza hmem hks hR
  have hlt:i<n:=by omega
  refine codeAny_builtin PyProof.Rows.F.entry_set_update_loop ?_
  rw [Around.under_plainId PyProof.Rows.F.plain_set_update_loop _]
  show wpAny _ A.in1 (pyNext (.ref I) >>= _) _ _ s
  refine wpAny_bind (W.item i s _ _ hlt hst λv s' hP hst' hm=>?_)
  have hv:=hval i v hP
  subst hv
  have hS':TS knd s'.heap S zs:=lC hm hSw (λz hz=>by obtain ⟨j,hj,e⟩:=hza z hz; rw [e]; exact hadw j hj) hS
  have hks':∀ j,j<n→IsTupleKey knd s'.heap (key j) (ad j):=λj hj=>ia hm (hadw j hj) (hks j hj)
  show wpAny _ A.in1 (holding [Value.ref (ad i)] (setAdd S (.ref (ad i))) >>= _) _ _ s'
  refine wpAny_bind (wpAny_holding ?_)
  unfold setAdd
  refine wpAny_holding ?_
  refine wpAny_bind (wpAny_pyHash_tuple hu (hks' i hlt) ?_)
  refine pU (s:={ s' with toks:=s'.toks+((key i).length+1) }) hu hsc hS' (hks' i hlt) (by omega) λr h' zs' hsb hS2 hor=>?_
  have hsb':Heap.SameBut S s'.heap h':=hsb
  have hlen':zs'.length≤i+1:=by
   rcases hor with ⟨_,e⟩ | ⟨_,e⟩
   ·rw [e]; omega
   ·have:=e.length_eq
    rw [List.length_map,List.length_cons,List.length_map] at this
    omega
  have hor2:(key i∈zs.map (·.2.2)∧zs'=zs)∨(zs'.map (·.2.2)).Perm (key i :: zs.map (·.2.2)):=by
   rcases hor with e | ⟨_,e⟩
   ·exact .inl e
   ·have:=e.map (·.2)
    rw [List.map_map,List.map_cons,List.map_map] at this
    exact .inr this
  have hmem':∀ k',k'∈zs'.map (·.2.2)↔∃ j,j<i+1∧key j=k':=λk'=>by
   rcases hor2 with ⟨hin,e⟩ | e
   ·rw [e,hmem k']
    constructor
    ·rintro ⟨j,hj,e'⟩; exact ⟨j,by omega,e'⟩
    ·rintro ⟨j,hj,e'⟩
     by_cases hji:j=i
     ·rw [← e',hji]; exact (hmem _).mp hin
     ·exact ⟨j,by omega,e'⟩
   ·rw [e.mem_iff,List.mem_cons,hmem k']
    constructor
    ·rintro (e' | ⟨j,hj,e'⟩)
     ·exact ⟨i,by omega,e'.symm⟩
     ·exact ⟨j,by omega,e'⟩
    ·rintro ⟨j,hj,e'⟩
     by_cases hji:j=i
     ·left; rw [← e',hji]
     ·exact .inr ⟨j,by omega,e'⟩
  have hkeep:∀ b o,b∉S :: wr→s'.heap.get? b=some o→h'.get? b=some o:=λb o hb e=>by
   rw [hsb'.2 b (λz:b=S=>hb (by rw [z]; exact List.mem_cons_self))]; exact e
  have hks2:∀ j,j<n→IsTupleKey knd h' (key j) (ad j):=λj hj=>by
   obtain ⟨o,items,m,ho,r⟩:=hks' j hj
   exact ⟨o,items,m,(hsb'.2 _ (hadS j hj)).trans ho,r⟩
  have hza2:∀ z∈zs',∃ j,j<n∧z.2.1=ad j:=by
   rcases hor with ⟨_,e⟩ | ⟨_,e⟩
   ·rw [e]; exact hza
   ·intro z hz
    have hz2:z.2∈zs'.map (·.2):=List.mem_map.mpr ⟨z,hz,rfl⟩
    rcases List.mem_cons.mp (e.mem_iff.mp hz2) with e' | e'
    ·exact ⟨i,hlt,by rw [e']⟩
    ·obtain ⟨y,hy,ey⟩:=List.mem_map.mp e'
     obtain ⟨j,hj,ej⟩:=hza y hy
     exact ⟨j,hj,by rw [← ey]; exact ej⟩
  refine wpAny_pure ⟨plainId_quiet PyProof.Rows.F.plain_set_update_loop _,ih (i+1) _ zs' (by omega) hlt (W.frame _ s' _ _ hst' (Nat.le_add_right _ _) λb hb o e=>?_) hS2 hlen' hza2 hmem' hks2 λs'' zs'' hm'' hS'' hl'' hmm''=>?_⟩
  ·rw [hsb'.2 b (λh:b=S=>hSf (by rw [← h]; exact hb))]; exact e
  ·refine hR s'' zs'' (Moved.trans W.gtrans ((hm.mono hsub).then_heap (Nat.le_add_right _ _) λb o hb e=>?_) hm'') hS'' hl'' hmm''
   rw [hsb'.2 b (λh:b=S=>hb (by rw [h]; exact List.mem_cons_self))]; exact e
end
section
variable {prog:Program} {w:World} {K:Type} [DecidableEq K] {knd:KeyKind prog w K} {A:Around} {E:Value→Shared→Prop} {s:Shared}
theorem rk {h:Heap} {a:Addr} (led:Bool) (ho:h.get? a=some { cls:=.type "set",dict:=none,data:=.set #[] 0 (.fresh 0 0 led) }):TS knd h a [] :=
 ⟨⟨_,#[],0,_,ho,⟨rfl,rfl,rfl⟩,rfl,rfl,⟨rfl,rfl,List.Pairwise.nil,λ_ h=>by simp at h⟩,Or.inl rfl,(by show 0<21; decide),dR.nil _⟩,λ_ h=>by simp at h,List.nodup_nil⟩
set_option maxRecDepth 100000 in
set_option maxHeartbeats 3200000 in
theorem gG {l:Addr} {items:Array Value} {key:Nat→List K} {ad:Nat→Addr} {Q:Value→Shared→Prop}
  (hh:A.handled=none) (hu:A.units+4<cLine) (hsc:∀ k v,knd.is k v=true→v.scannable=true) (hl:s.heap.IsList l items) (hi:∀ (i:Nat) (v:Value),items[i]? = some v→v=Value.ref (ad i)) (hk:∀ i,i<items.size→IsTupleKey knd s.heap (key i) (ad i)) (hb:items.size≤60)
  (h:∀ (h':Heap) (tk:Nat) (zs:List (Ent K)),TS knd h' s.heap.objs.size zs→zs.length≤items.size→(∀ k',k'∈zs.map (·.2.2)↔∃ j,j<items.size∧key j=k') →
   (∀ b o,b<s.heap.objs.size→s.heap.get? b=some o→h'.get? b=some o)→Q (.ref s.heap.objs.size) { s with heap:=h',toks:=tk }) :
  wpAny (model prog w) A (call (.type "set") [.ref l]) Q E s:=by
 obtain ⟨c,tl,hmro⟩:=F.called_set.mro
 have hmade:=F.called_set.made
 have hsub:=F.called_set.sub
 refine wpAny_call (codeAny_of_tree ?_)
 show wpAny _ _ (callAny (.type "set") _) _ _ _
 refine wpAny_pure ⟨Code.quiet_builtin _ (by decide +kernel),codeAny_builtin F.entry_type_call ?_⟩
 rw [Around.under_plain (weight_type_call_type "set" [.ref l] []) rfl]
 have h1:=F.called_set.notType
 have h2:=F.called_set.canCreate
 have hct:=F.typeCall_set_1 (.ref l)
 repeat (any_goals (first | assumption | wp_step))
 refine codeAny_mono (code_set_new_1 (.ref l) (E:=E) (Q₁:=λobj s₁=>∃ led:Bool,obj = .ref s.heap.objs.size∧s₁={ s with heap:=s.heap.push { cls:=.type "set",dict:=none,data:=.set #[] 0 (.fresh 0 0 led) } }) λled=>⟨led,rfl,rfl⟩) λr s₁ hr=>?_
 cases r with
 | error e=>exact hr
 | ok fl =>
  cases fl with
  | ret obj =>
   obtain ⟨led,rfl,rfl⟩:=hr
   have hS:(s.heap.push { cls:=.type "set",dict:=none,data:=.set #[] 0 (.fresh 0 0 led) }).get? s.heap.objs.size=some { cls:=.type "set",dict:=none,data:=.set #[] 0 (.fresh 0 0 led) }:=Heap.get?_push_size _ rfl
   have hT:Shared.TypeIs { s with heap:=s.heap.push { cls:=.type "set",dict:=none,data:=.set #[] 0 (.fresh 0 0 led) } } (.ref s.heap.objs.size) "set":=⟨_,hS,rfl⟩
   have hli:=F.called_set.init.lookup
   have hbi:=F.called_set.init.bind (.ref s.heap.objs.size)
   repeat (any_goals (first | assumption | wp_step))
   refine codeAny_mono (codeAny_call_builtin (R:=wants (λr s₂=>r = .none∧∃ h' tk zs,s₂={ s with heap:=h',toks:=tk }∧TS knd h' s.heap.objs.size zs∧zs.length≤items.size∧(∀ k',k'∈zs.map (·.2.2)↔∃ j,j<items.size∧key j=k') ∧
     (∀ b o,b<s.heap.objs.size→s.heap.get? b=some o→h'.get? b=some o)) E) F.called_set.init.plain F.entry_set_init (check_set_init_1 hT ?_)) λr₂ s₂ hr₂=>?_
   ·obtain ⟨ol,hol,hcl,nl,hdl⟩:=hl
    obtain ⟨ocls,odict,odata,oslots⟩:=ol
    simp only at hcl hdl
    subst hcl; subst hdl
    have hol':(s.heap.push { cls:=.type "set",dict:=none,data:=.set #[] 0 (.fresh 0 0 led) }).get? l=some { cls:=.type "list",dict:=odict,data:=.seq items nl,slots:=oslots }:=Heap.get?_push_of_some _ hol
    have hsls:=F.sub_list_set
    have hslf:=F.sub_list_frozenset
    have hne:(Value.type "list" == Value.type "dict")=false:=by decide
    have hl1:(s.heap.push { cls:=.type "set",dict:=none,data:=.set #[] 0 (.fresh 0 0 led) }).IsList l items:=⟨_,hol',rfl,nl,rfl⟩
    unfold Builtin.«set.__init__» noKeywords Builtin.Frozenset.updateFrom
    generalize hPI:pyIter=PI
    wp_walk
    subst hPI
    refine wpAny_pyIter_list hl1 ?_
    refine wpAny_bind (wpAny_runValue ?_)
    have hlS:l<s.heap.objs.size:=Heap.lt_size hol
    have hh3:A.in1.in1.in1.handled=none:=by simp [hh]
    have hneI:l≠(s.heap.push { cls:=.type "set",dict:=none,data:=.set #[] 0 (.fresh 0 0 led) }).objs.size:=by
     rw [Heap.size_push]; exact Nat.ne_of_lt (Nat.lt_succ_of_lt hlS)
    have hSf:s.heap.objs.size∉[(s.heap.push { cls:=.type "set",dict:=none,data:=.set #[] 0 (.fresh 0 0 led) }).objs.size,l]:=by
     rw [Heap.size_push]; simp only [List.mem_cons,List.mem_singleton,List.not_mem_nil,or_false,not_or]
     exact ⟨Nat.ne_of_lt (Nat.lt_succ_self _),Nat.ne_of_gt hlS⟩
    have hadlt:∀ i,i<items.size→ad i<s.heap.objs.size:=λi hi'=>by
     obtain ⟨o,_,_,ho,_⟩:=hk i hi'
     exact Heap.lt_size ho
    have hadl:∀ i,i<items.size→ad i≠l:=λi hi' e=>by
     obtain ⟨o,_,_,ho,hc,_⟩:=hk i hi'
     rw [e,hol] at ho
     cases ho
     have h':Value.type "list" = Value.type "tuple":=hc
     injection h' with h'
     exact absurd h' (by decide)
    have had:∀ i,i<items.size→ad i∉s.heap.objs.size :: [(s.heap.push { cls:=.type "set",dict:=none,data:=.set #[] 0 (.fresh 0 0 led) }).objs.size,l]:=λi hi'=>by
     rw [Heap.size_push]
     have q1:ad i<s.heap.objs.size:=hadlt i hi'
     have q2:=hadl i hi'
     simp only [List.mem_cons,List.mem_singleton,List.not_mem_nil,or_false,not_or]
     exact ⟨Nat.ne_of_lt q1,Nat.ne_of_lt (Nat.lt_succ_of_lt q1),q2⟩
    refine cL (knd:=knd) ((Walks.list hh3 _ l hneI items).toS) s.heap.objs.size
     hSf (by simp [Around.in1_units]; omega) hsc key ad hi had hb (items.size - 0) 0 _ [] (by omega) (Nat.zero_le _)
     ⟨⟨_,Heap.get?_push_size _ rfl,rfl,rfl⟩,(hl1.push _)⟩ ?hS0 (Nat.zero_le _) (λ_ h=>by simp at h) (λk'=>⟨λh=>by simp at h,λ⟨j,hj,_⟩=>by omega⟩) ?hks ?hR
    case hS0 =>
     exact rk led (Heap.get?_push_of_some _ hS)
    case hks =>
     intro j hj
     obtain ⟨o,its,m,ho,r⟩:=hk j hj
     exact ⟨o,its,m,Heap.get?_push_of_some _ (Heap.get?_push_of_some _ ho),r⟩
    case hR =>
     intro s' zs hm hS' hl' hm'
     obtain ⟨h',g',d',tk',os'⟩:=s'
     have eg:g'=s.gens:=hm.gens
     have ed:d'=s.drawn:=hm.drawn
     have eo:os'=s.os:=hm.os
     subst eg; subst ed; subst eo
     show wpAny _ _ _ _ _ _
     refine wpAny_pure ?_
     show wpAny _ _ (ret Value.none) _ _ _
     refine wpAny_pure ⟨rfl,h',tk',zs,rfl,hS',hl',hm',λb o hb e=>?_⟩
     have hb1:b≠s.heap.objs.size:=Nat.ne_of_lt hb
     have hb2:b≠(s.heap.push { cls:=.type "set",dict:=none,data:=.set #[] 0 (.fresh 0 0 led) }).objs.size:=by
      rw [Heap.size_push]; exact Nat.ne_of_lt (Nat.lt_succ_of_lt hb)
     exact hm.heap b o (by simp only [List.mem_cons,List.mem_singleton,List.not_mem_nil,or_false,not_or]; exact ⟨hb1,hb2⟩) (Heap.get?_push_of_some _ (Heap.get?_push_of_some _ e))
   ·cases r₂ with
    | error e=>exact hr₂
    | ok fl₂ =>
     cases fl₂ with
     | ret r =>
      obtain ⟨rfl,h',tk,zs,rfl,hS',hl',hm',hk'⟩:=hr₂
      repeat (any_goals (first | assumption | wp_step))
      exact h _ _ zs hS' hl' hm' hk'
     | _=>exact hr₂.elim
  | _=>exact hr.elim
end
end TB
namespace SRT
open PySem PySem.W PyProof.Rows
noncomputable def run {α:Type} (f:Nat→Nat→Bool):KasT α→α
 | .ret a=>a
 | .ask i j k=>run f (k (f i j))
theorem cQ {α β:Type} (f:Nat→Nat→Bool) (g:α→KasT β):∀ t:KasT α,run f (t.bind g)=run f (g (run f t))
 | .ret a=>rfl
 | .ask i j k=>cQ f g (k (f i j))
noncomputable def path {α:Type} (f:Nat→Nat→Bool) (n:Nat):KasT α→Prop
 | .ret _=>True
 | .ask i j k=>i<n∧j<n∧path f n (k (f i j))
theorem cw {α β:Type} {f:Nat→Nat→Bool} {n:Nat} {g:α→KasT β}:∀ {t:KasT α},path f n t→path f n (g (run f t))→path f n (t.bind g)
 | .ret a,_,h=>h
 | .ask i j k,h,h'=>⟨h.1,h.2.1,cw (t:=k (f i j)) h.2.2 h'⟩
theorem oF {α:Type} {f:Nat→Nat→Bool} {n:Nat} {cmp:Nat→Nat→(Bool→Shared→Prop)→Shared→Prop} {s:Shared} (hc:∀ i j C,i<n→j<n→C (f i j) s→cmp i j C s) (Q:α→Shared→Prop):∀ t:KasT α,path f n t→Q (run f t) s→t.kasWp cmp Q s
 | .ret a,_,h=>h
 | .ask i j k,p,h=>hc i j _ p.1 p.2.1 (oF hc Q (k (f i j)) p.2.2 h)
structure Ord (f:Nat→Nat→Bool) (n:Nat):Prop where
 irr:∀ i,i<n→f i i=false
 tr:∀ i j k,i<n→j<n→k<n→f i j=true→f j k=true→f i k=true
 tot:∀ i j,i<n→j<n→i≠j→f i j=true∨f j i=true
section
variable {f:Nat→Nat→Bool} {n:Nat}
structure Row (n:Nat) (p:Array Nat):Prop where
 perm:p.toList.Perm (List.range n)
theorem Row.size {p:Array Nat} (r:Row n p):p.size=n:=by have:=r.perm.length_eq; simpa using this
theorem Row.lt {p:Array Nat} (r:Row n p) {i:Nat} (hi:i<n):p.getD i 0<n:=by
 have hs:=r.size
 have:p.getD i 0∈p.toList:=by
  rw [Array.getD_eq_getD_getElem?,Array.getElem?_eq_getElem (by omega)]
  exact Array.getElem_mem_toList (by omega)
 exact List.mem_range.mp (r.perm.mem_iff.mp this)
theorem Row.ne {p:Array Nat} (r:Row n p) {i j:Nat} (hi:i<n) (hj:j<n) (hij:i≠j):p.getD i 0≠p.getD j 0:=by
 have hs:=r.size
 have nd:p.toList.Nodup:=r.perm.nodup_iff.mpr List.nodup_range
 rw [Array.getD_eq_getD_getElem?,Array.getD_eq_getD_getElem?,Array.getElem?_eq_getElem (by omega),Array.getElem?_eq_getElem (by omega)]
 intro e
 have e':p.toList[i]'(by simpa using (by omega:i<p.size))=p.toList[j]'(by simpa using (by omega:j<p.size)):=by simpa using e
 exact hij ((List.getElem_inj nd).mp e')
theorem Row.rev {p:Array Nat} (r:Row n p) (i j:Nat):Row n (kas_rev p i j):=⟨(Array.perm_iff_toList_perm.mp (mirror_perm p i j _)).trans r.perm⟩
theorem Row.bub {p:Array Nat} (r:Row n p) (i j:Nat):Row n (bubble p i j):=⟨(Array.perm_iff_toList_perm.mp (bubble_perm p i j)).trans r.perm⟩
noncomputable def Up (f:Nat→Nat→Bool) (p:Array Nat) (m:Nat):Prop:=∀ i j,i<j→j<m→f (p.getD i 0) (p.getD j 0)=true
theorem ua (O:Ord f n) {p:Array Nat} (r:Row n p) {m:Nat} (hm:m<n) (h1:1≤m) (u:Up f p m) (h:f (p.getD m 0) (p.getD (m - 1) 0)=false):Up f p (m+1):=by
 have hl:f (p.getD (m - 1) 0) (p.getD m 0)=true:=by
  rcases O.tot _ _ (r.lt (i:=m) hm) (r.lt (i:=m - 1) (by omega)) (r.ne hm (by omega) (by omega)) with z | z
  ·rw [h] at z; cases z
  ·exact z
 intro i j hij hj
 by_cases e:j=m
 ·subst e
  by_cases e2:i=j - 1
  ·rw [e2]; exact hl
  ·exact O.tr _ _ _ (r.lt (by omega)) (r.lt (by omega)) (r.lt hm) (u i (j - 1) (by omega) (by omega)) hl
 ·exact u i j hij (by omega)
theorem jF (O:Ord f n) {p:Array Nat} (r:Row n p):∀ (fuel m:Nat),1≤m→m+fuel≤n→Up f p m →
  m≤run f (kas_asc p fuel m)∧run f (kas_asc p fuel m)≤m+fuel∧Up f p (run f (kas_asc p fuel m))∧(run f (kas_asc p fuel m)<m+fuel→f (p.getD (run f (kas_asc p fuel m)) 0) (p.getD (run f (kas_asc p fuel m) - 1) 0)=true)
 | 0,m,_,_,u=>⟨Nat.le_refl _,Nat.le_refl _,u,λh=>absurd h (by simp [kas_asc,run])⟩
 | fuel+1,m,h1,hm,u=>by
  cases e:f (p.getD m 0) (p.getD (m - 1) 0) with
  | true =>
   have er:run f (kas_asc p (fuel+1) m)=m:=by
    show run f (if f (p.getD m 0) (p.getD (m - 1) 0)=true then KasT.ret m else kas_asc p fuel (m+1))=m
    rw [e,if_pos rfl]; rfl
   rw [er]
   exact ⟨Nat.le_refl _,by omega,u,λ_=>e⟩
  | false =>
   have er:run f (kas_asc p (fuel+1) m)=run f (kas_asc p fuel (m+1)):=by
    show run f (if f (p.getD m 0) (p.getD (m - 1) 0)=true then KasT.ret m else kas_asc p fuel (m+1))=_
    rw [e,if_neg (by simp)]
   rw [er]
   obtain ⟨a1,a2,a3,a4⟩:=jF O r fuel (m+1) (by omega) (by omega) (ua O r (by omega) h1 u e)
   exact ⟨by omega,by omega,a3,λh=>a4 (by omega)⟩
noncomputable def wm (f:Nat→Nat→Bool) (p:Array Nat) (m:Nat):Prop:=∀ i j,i<j→j<m→f (p.getD j 0) (p.getD i 0)=true
theorem jG (O:Ord f n) {p:Array Nat} (r:Row n p):∀ (fuel m:Nat),1≤m→m+fuel≤n→wm f p m →
  ∃ m',run f (kas_desc fuel p m 0)=(p,m',0)∧m≤m'∧m'≤m+fuel∧wm f p m'
 | 0,m,_,_,u=>⟨m,rfl,Nat.le_refl _,Nat.le_refl _,u⟩
 | fuel+1,m,h1,hm,u=>by
  cases e:f (p.getD m 0) (p.getD (m - 1) 0) with
  | true =>
   have er:run f (kas_desc (fuel+1) p m 0)=run f (kas_desc fuel p (m+1) 0):=by
    show run f (if f (p.getD m 0) (p.getD (m - 1) 0)=true then (if 0 > 0 then _ else kas_desc fuel p (m+1) 0) else _)=_
    rw [e,if_pos rfl,if_neg (by omega)]
   rw [er]
   obtain ⟨m',a1,a2,a3,a4⟩:=jG O r fuel (m+1) (by omega) (by omega) (by
    intro i j hij hj
    by_cases ej:j=m
    ·subst ej
     by_cases e2:i=j - 1
     ·rw [e2]; exact e
     ·exact O.tr _ _ _ (r.lt (by omega)) (r.lt (i:=j - 1) (by omega)) (r.lt (by omega)) e (u i (j - 1) (by omega) (by omega))
    ·exact u i j hij (by omega))
   exact ⟨m',a1,by omega,by omega,a4⟩
  | false =>
   have e2:f (p.getD (m - 1) 0) (p.getD m 0)=true:=by
    rcases O.tot _ _ (r.lt (i:=m) (by omega)) (r.lt (i:=m - 1) (by omega)) (r.ne (by omega) (by omega) (by omega)) with z | z
    ·rw [e] at z; cases z
    ·exact z
   have er:run f (kas_desc (fuel+1) p m 0)=(p,m,0):=by
    show run f (if f (p.getD m 0) (p.getD (m - 1) 0)=true then _ else KasT.ask (p.getD (m - 1) 0) (p.getD m 0) λd=>if d=true then .ret (p,m,0) else kas_desc fuel p (m+1) (0+1))=_
    rw [e,if_neg (by simp)]
    show run f (if f (p.getD (m - 1) 0) (p.getD m 0)=true then KasT.ret (p,m,0) else kas_desc fuel p (m+1) (0+1))=_
    rw [e2,if_pos rfl]; rfl
   exact ⟨m,er,Nat.le_refl _,by omega,u⟩
theorem oG {p:Array Nat} {m:Nat} (hm:m≤p.size) (k:Nat) (hk:k<m):(kas_rev p 0 m).getD k 0=p.getD (m - 1 - k) 0:=by
 unfold kas_rev
 rw [Array.getD_eq_getD_getElem?,getElem?_mirror_all hm k,if_pos ⟨by omega,hk⟩,Array.getD_eq_getD_getElem?]
 congr 2
 omega
theorem wp {p:Array Nat} {m:Nat} (hm:m≤p.size) (d:wm f p m):Up f (kas_rev p 0 m) m:=by
 intro i j hij hj
 rw [oG hm i (by omega),oG hm j hj]
 exact d _ _ (by omega) (by omega)
theorem lD (O:Ord f n) {p:Array Nat} (r:Row n p) (h2:1≤n):∃ m p',run f (kas_count n p)=(m,p')∧1≤m∧m≤n∧Row n p'∧Up f p' m:=by
 obtain ⟨a1,a2,a3,a4⟩:=jF O r (n - 1) 1 (by omega) (by omega) (by intro i j hij hj; omega)
 have er:run f (kas_count n p)=run f (if (run f (kas_asc p (n - 1) 1) == n)=true then KasT.ret (run f (kas_asc p (n - 1) 1),p) else if run f (kas_asc p (n - 1) 1) > 1 then .ask (p.getD 0 0) (p.getD (run f (kas_asc p (n - 1) 1) - 1) 0) λc=>if c=true then .ret (run f (kas_asc p (n - 1) 1),p) else kas_descPart (run f (kas_asc p (n - 1) 1)) n (kas_rev p 0 (run f (kas_asc p (n - 1) 1)))
  else kas_descPart (run f (kas_asc p (n - 1) 1)) n p):=by
  unfold kas_count
  rw [cQ]
 rw [er]
 generalize run f (kas_asc p (n - 1) 1)=m at a1 a2 a3 a4 ⊢
 by_cases e:m=n
 ·rw [if_pos (by simp [e])]
  exact ⟨m,p,rfl,a1,by omega,r,a3⟩
 ·rw [if_neg (by simpa using e)]
  by_cases e1:m > 1
  ·rw [if_pos e1]
   refine ⟨m,p,?_,a1,by omega,r,a3⟩
   show run f (if f (p.getD 0 0) (p.getD (m - 1) 0)=true then KasT.ret (m,p) else _)=_
   rw [a3 0 (m - 1) (by omega) (by omega),if_pos rfl]; rfl
  ·rw [if_neg e1]
   have em:m=1:=by omega
   subst em
   have hd:=a4 (by omega)
   unfold kas_descPart
   obtain ⟨m',b1,b2,b3,b4⟩:=jG O r (n - (1+1)) (1+1) (by omega) (by omega) (by
    intro i j hij hj
    have:i=0∧j=1:=by omega
    rw [this.1,this.2]; exact hd)
   rw [cQ,b1]
   dsimp only
   rw [if_neg (by omega)]
   unfold kas_tail3
   have hs:=r.size
   have ur:=wp (f:=f) (by omega:m'≤p.size) b4
   obtain ⟨c1,c2,c3,c4⟩:=jF O (r.rev 0 m') (n - m') m' (by omega) (by omega) ur
   rw [cQ]
   exact ⟨_,_,rfl,by omega,by omega,r.rev 0 m',c3⟩
theorem eW (O:Ord f n) {p:Array Nat} (r:Row n p) {k:Nat} (hk:k<n) (u:Up f p k):∀ (fuel l r':Nat),r' - l≤fuel→l≤r'→r'≤k →
  (∀ i,i<l→f (p.getD i 0) (p.getD k 0)=true)→(∀ i,r'≤i→i<k→f (p.getD k 0) (p.getD i 0)=true) →
  run f (kas_place p k fuel l r')≤k∧(∀ i,i<run f (kas_place p k fuel l r')→f (p.getD i 0) (p.getD k 0)=true)∧(∀ i,run f (kas_place p k fuel l r')≤i→i<k→f (p.getD k 0) (p.getD i 0)=true)
 | 0,l,r',h1,h2,h3,h4,h5=>by
  have:l=r':=by omega
  subst this
  exact ⟨h3,h4,h5⟩
 | fuel+1,l,r',h1,h2,h3,h4,h5=>by
  unfold kas_place
  by_cases e:l ≥ r'
  ·rw [if_pos e]
   have:l=r':=by omega
   subst this
   exact ⟨h3,h4,h5⟩
  ·rw [if_neg e]
   have hmid:(l+r') / 2<k:=by omega
   cases c:f (p.getD k 0) (p.getD ((l+r') / 2) 0) with
   | true =>
    have er:run f (KasT.ask (p.getD k 0) (p.getD ((l+r') / 2) 0) λc=>if c=true then kas_place p k fuel l ((l+r') / 2) else kas_place p k fuel ((l+r') / 2+1) r')=run f (kas_place p k fuel l ((l+r') / 2)):=by
     show run f (if f (p.getD k 0) (p.getD ((l+r') / 2) 0)=true then _ else _)=_
     rw [c,if_pos rfl]
    rw [er]
    refine eW O r hk u fuel l _ (by omega) (by omega) (by omega) h4 (λi hi hik=>?_)
    by_cases ei:i=(l+r') / 2
    ·rw [ei]; exact c
    ·exact O.tr _ _ _ (r.lt hk) (r.lt (i:=(l+r') / 2) (by omega)) (r.lt (by omega)) c (u _ _ (by omega) hik)
   | false =>
    have er:run f (KasT.ask (p.getD k 0) (p.getD ((l+r') / 2) 0) λc=>if c=true then kas_place p k fuel l ((l+r') / 2) else kas_place p k fuel ((l+r') / 2+1) r')=run f (kas_place p k fuel ((l+r') / 2+1) r'):=by
     show run f (if f (p.getD k 0) (p.getD ((l+r') / 2) 0)=true then _ else _)=_
     rw [c,if_neg (by simp)]
    rw [er]
    have c':f (p.getD ((l+r') / 2) 0) (p.getD k 0)=true:=by
     rcases O.tot _ _ (r.lt (i:=k) hk) (r.lt (i:=(l+r') / 2) (by omega)) (r.ne hk (by omega) (by omega)) with z | z
     ·rw [c] at z; cases z
     ·exact z
    refine eW O r hk u fuel _ r' (by omega) (by omega) h3 (λi hi=>?_) h5
    by_cases ei:i=(l+r') / 2
    ·rw [ei]; exact c'
    ·exact O.tr _ _ _ (r.lt (by omega)) (r.lt (i:=(l+r') / 2) (by omega)) (r.lt hk) (u i _ (by omega) (by omega)) c'
theorem gK {p:Array Nat} {k l:Nat} (hk:k<p.size) (hl:l≤k) (i:Nat):(bubble p k (k - l)).getD i 0=if i=l then p.getD k 0 else if l<i∧i≤k then p.getD (i - 1) 0 else p.getD i 0:=by
 simp only [Array.getD_eq_getD_getElem?]
 rw [getElem?_bubble hk (k - l) (by omega) i]
 have e:k - (k - l)=l:=by omega
 rw [e]
 by_cases h1:i=l
 ·rw [if_pos h1,if_pos h1]
 ·rw [if_neg h1,if_neg h1]
  by_cases h2:l<i∧i≤k
  ·rw [if_pos h2,if_pos h2]
  ·rw [if_neg h2,if_neg h2]
theorem rm (O:Ord f n):∀ (fuel:Nat) (p:Array Nat) (k:Nat),Row n p→k+fuel=n→Up f p k→Row n (run f (kas_bin fuel p k))∧Up f (run f (kas_bin fuel p k)) n
 | 0,p,k,r,hk,u=>by
  have:k=n:=by omega
  subst this
  exact ⟨r,u⟩
 | fuel+1,p,k,r,hk,u=>by
  have hkn:k<n:=by omega
  obtain ⟨a1,a2,a3⟩:=eW O r hkn u k 0 k (by omega) (by omega) (Nat.le_refl _) (λi hi=>by omega) (λi h1 h2=>by omega)
  have er:run f (kas_bin (fuel+1) p k)=run f (kas_bin fuel (bubble p k (k - run f (kas_place p k k 0 k))) (k+1)):=by
   show run f ((kas_place p k k 0 k).bind λl=>kas_bin fuel (bubble p k (k - l)) (k+1))=_
   rw [cQ]
  rw [er]
  generalize run f (kas_place p k k 0 k)=l at a1 a2 a3 ⊢
  have hs:=r.size
  refine rm O fuel _ (k+1) (r.bub _ _) (by omega) ?_
  intro i j hij hj
  rw [gK (by omega) a1 i,gK (by omega) a1 j]
  by_cases ei:i=l
  ·rw [if_pos ei,if_neg (by omega),if_pos ⟨by omega,by omega⟩]
   exact a3 (j - 1) (by omega) (by omega)
  ·rw [if_neg ei]
   by_cases ej:j=l
   ·rw [if_pos ej,if_neg (by omega)]
    exact a2 i (by omega)
   ·rw [if_neg ej]
    by_cases hi2:l<i∧i≤k
    ·rw [if_pos hi2,if_pos ⟨by omega,by omega⟩]
     exact u _ _ (by omega) (by omega)
    ·rw [if_neg hi2]
     by_cases hj2:l<j∧j≤k
     ·rw [if_pos hj2]
      by_cases e3:i=j - 1
      ·omega
      ·exact u i (j - 1) (by omega) (by omega)
     ·rw [if_neg hj2]
      exact u i j hij (by omega)
theorem ib {p:Array Nat} (r:Row n p):∀ (fuel m:Nat),1≤m→m+fuel≤n→path f n (kas_asc p fuel m)
 | 0,m,_,_=>trivial
 | fuel+1,m,h1,hm=>by
  refine ⟨r.lt (by omega),r.lt (by omega),?_⟩
  show path f n (if f (p.getD m 0) (p.getD (m - 1) 0)=true then KasT.ret m else kas_asc p fuel (m+1))
  split
  ·exact trivial
  ·exact ib r fuel (m+1) (by omega) (by omega)
theorem jg (O:Ord f n) {p:Array Nat} (r:Row n p):∀ (fuel m:Nat),1≤m→m+fuel≤n→path f n (kas_desc fuel p m 0)
 | 0,m,_,_=>trivial
 | fuel+1,m,h1,hm=>by
  refine ⟨r.lt (by omega),r.lt (by omega),?_⟩
  show path f n (if f (p.getD m 0) (p.getD (m - 1) 0)=true then (if 0 > 0 then _ else kas_desc fuel p (m+1) 0) else KasT.ask (p.getD (m - 1) 0) (p.getD m 0) λd=>if d=true then .ret (p,m,0) else kas_desc fuel p (m+1) (0+1))
  cases e:f (p.getD m 0) (p.getD (m - 1) 0) with
  | true =>
   rw [if_pos rfl,if_neg (by omega)]
   exact jg O r fuel (m+1) (by omega) (by omega)
  | false =>
   rw [if_neg (by simp)]
   have e2:f (p.getD (m - 1) 0) (p.getD m 0)=true:=by
    rcases O.tot _ _ (r.lt (i:=m) (by omega)) (r.lt (i:=m - 1) (by omega)) (r.ne (by omega) (by omega) (by omega)) with z | z
    ·rw [e] at z; cases z
    ·exact z
   refine ⟨r.lt (by omega),r.lt (by omega),?_⟩
   dsimp only
   rw [e2,if_pos rfl]
   exact trivial
theorem ny (O:Ord f n) {p:Array Nat} (r:Row n p) (h2:1≤n):path f n (kas_count n p):=by
 obtain ⟨a1,a2,a3,a4⟩:=jF O r (n - 1) 1 (by omega) (by omega) (by intro i j hij hj; omega)
 unfold kas_count
 refine cw (ib r _ _ (by omega) (by omega)) ?_
 generalize run f (kas_asc p (n - 1) 1)=m at a1 a2 a3 a4 ⊢
 by_cases e:m=n
 ·rw [if_pos (by simp [e])]; exact trivial
 ·rw [if_neg (by simpa using e)]
  by_cases e1:m > 1
  ·rw [if_pos e1]
   refine ⟨r.lt (by omega),r.lt (by omega),?_⟩
   dsimp only
   rw [a3 0 (m - 1) (by omega) (by omega),if_pos rfl]; exact trivial
  ·rw [if_neg e1]
   have em:m=1:=by omega
   subst em
   have hd:=a4 (by omega)
   unfold kas_descPart
   refine cw (jg O r _ _ (by omega) (by omega)) ?_
   obtain ⟨m',b1,b2,b3,b4⟩:=jG O r (n - (1+1)) (1+1) (by omega) (by omega) (by
    intro i j hij hj
    have:i=0∧j=1:=by omega
    rw [this.1,this.2]; exact hd)
   rw [b1]
   dsimp only
   rw [if_neg (by omega)]
   unfold kas_tail3
   exact cw (ib (r.rev 0 m') _ _ (by omega) (by omega)) trivial
theorem eD {p:Array Nat} (r:Row n p) {k:Nat} (hk:k<n):∀ (fuel l r':Nat),r'≤k→path f n (kas_place p k fuel l r')
 | 0,l,r',_=>trivial
 | fuel+1,l,r',h=>by
  unfold kas_place
  by_cases e:l ≥ r'
  ·rw [if_pos e]; exact trivial
  ·rw [if_neg e]
   refine ⟨r.lt hk,r.lt (by omega),?_⟩
   dsimp only
   split
   ·exact eD r hk fuel _ _ (by omega)
   ·exact eD r hk fuel _ _ h
theorem lE (O:Ord f n):∀ (fuel:Nat) (p:Array Nat) (k:Nat),Row n p→k+fuel=n→Up f p k→path f n (kas_bin fuel p k)
 | 0,p,k,r,hk,u=>trivial
 | fuel+1,p,k,r,hk,u=>by
  have hkn:k<n:=by omega
  show path f n ((kas_place p k k 0 k).bind λl=>kas_bin fuel (bubble p k (k - l)) (k+1))
  refine cw (eD r hkn _ _ _ (Nat.le_refl _)) ?_
  obtain ⟨a1,a2,a3⟩:=eW O r hkn u k 0 k (by omega) (by omega) (Nat.le_refl _) (λi hi=>by omega) (λi h1 h2=>by omega)
  generalize run f (kas_place p k k 0 k)=l at a1 a2 a3 ⊢
  have hs:=r.size
  refine lE O fuel _ (k+1) (r.bub _ _) (by omega) ?_
  intro i j hij hj
  rw [gK (by omega) a1 i,gK (by omega) a1 j]
  by_cases ei:i=l
  ·rw [if_pos ei,if_neg (by omega),if_pos ⟨by omega,by omega⟩]
   exact a3 (j - 1) (by omega) (by omega)
  ·rw [if_neg ei]
   by_cases ej:j=l
   ·rw [if_pos ej,if_neg (by omega)]
    exact a2 i (by omega)
   ·rw [if_neg ej]
    by_cases hi2:l<i∧i≤k
    ·rw [if_pos hi2,if_pos ⟨by omega,by omega⟩]
     exact u _ _ (by omega) (by omega)
    ·rw [if_neg hi2]
     by_cases hj2:l<j∧j≤k
     ·rw [if_pos hj2]
      by_cases e3:i=j - 1
      ·omega
      ·exact u i (j - 1) (by omega) (by omega)
     ·rw [if_neg hj2]
      exact u i j hij (by omega)
theorem pV (O:Ord f n) (h:1≤n):path f n (kas_sort n):=by
 have r0:Row n (List.toArray (List.range n)):=⟨by simp⟩
 obtain ⟨m,p',e,h1,h2,r,u⟩:=lD O r0 h
 unfold kas_sort
 refine cw (ny O r0 h) ?_
 rw [e]
 dsimp only
 by_cases hm:m<n
 ·rw [if_pos hm]
  have:max m 1=m:=by omega
  rw [this]
  exact lE O (n - m) p' m r (by omega) u
 ·rw [if_neg hm]; exact trivial
theorem uc (O:Ord f n) (h:1≤n):Row n (run f (kas_sort n))∧Up f (run f (kas_sort n)) n:=by
 have r0:Row n (List.toArray (List.range n)):=⟨by simp⟩
 obtain ⟨m,p',e,h1,h2,r,u⟩:=lD O r0 h
 unfold kas_sort
 rw [cQ,e]
 dsimp only
 by_cases hm:m<n
 ·rw [if_pos hm]
  have:max m 1=m:=by omega
  rw [this]
  exact rm O (n - m) p' m r (by omega) u
 ·rw [if_neg hm]
  have:m=n:=by omega
  subst this
  exact ⟨r,u⟩
end
section
variable {prog:Program} {w:World} {A:Around} {E:Value→Shared→Prop} {s:Shared}
theorem ud {vs:List Value} (h:vs.length<2):((vs.toArray.zip vs.toArray).map (·.2)).toList=(List.toArray ((List.toArray (List.range vs.length)).toList.map λi=>vs.getD i Value.none)).toList:=by
 cases vs with
 | nil=>simp
 | cons v r =>
  cases r with
  | nil=>simp
  | cons u r=>exact absurd h (by simp)
theorem jH {f:Nat→Nat→Bool} {a:Addr} {vs:List Value} {n:Nat} {κ:SortKind} {P:PySem.Fin→Shared→Prop} (O:Ord f vs.length) (ho:s.heap.get? a=some (seqObj "list" vs.toArray n)) (h64:vs.length<64)
  (hk:∀ s':Shared,(∀ b o,b≠a→s.heap.get? b=some o→s'.heap.get? b=some o)→∀ Q:SortKind→Shared→Prop,2≤vs.length→Q κ s'→wpAny (model prog w) A (keyKind' vs.toArray) Q (λ_ _=>False) s')
  (hlt:∀ s':Shared,(∀ b o,b≠a→s.heap.get? b=some o→s'.heap.get? b=some o)→∀ (i j:Nat) (C:Bool→Shared→Prop),i<vs.length→j<vs.length→C (f i j) s'→wpAny (model prog w) A (keyLt' κ (vs.getD i Value.none) (vs.getD j Value.none)) C (λ_ _=>False) s')
  (h:∀ p:Array Nat,Row vs.length p→Up f p vs.length→P (.done (.ret .none)) { s with heap:=sortedHeap s.heap a vs (List.toArray (p.toList.map λi=>vs.getD i Value.none)) }) :
  wpAny (model prog w) A (Builtin.«list.sort» ⟨[.ref a],[]⟩) P E s:=by
 have ha:a<s.heap.objs.size:=Heap.lt_size ho
 have s1:=Heap.SameBut.update s.heap a (Obj.mapSeq λ_=>(#[]:Array Value))
 obtain ⟨e1,ho1⟩:∃ e1,(s.heap.update a (Obj.mapSeq λ_=>(#[]:Array Value))).get? a=some (seqObj "list" #[] e1):=⟨_,get?_update_seq ho λ_=>#[]⟩
 rw [list_sort_plain]
 refine wpAny_bind (listItems_at ho rfl ?_)
 refine wpAny_bind (listUpdate_at ho rfl ?_ (by rw [List.size_toArray,sizeLine_eq]; omega) (Nat.zero_le _))
 refine wpAny_bind (seqEpoch_at ho1 rfl ?_)
 refine wpAny_bind (wpAny_newTuple ?_ (by show vs.length≤_; rw [sizeLine_eq]; omega))
 refine wpAny_bind (wpAny_newList ?_ (Nat.zero_le _))
 refine wpAny_holding ?_
 have ho6:(((s.heap.update a (Obj.mapSeq λ_=>(#[]:Array Value))).push (seqObj "tuple" vs.toArray 0)).push (seqObj "list" #[] 0)).get? a=some (seqObj "list" #[] e1):=Heap.get?_push_of_some _ (Heap.get?_push_of_some _ ho1)
 have keep:∀ b o,b≠a→s.heap.get? b=some o→(((s.heap.update a (Obj.mapSeq λ_=>(#[]:Array Value))).push (seqObj "tuple" vs.toArray 0)).push (seqObj "list" #[] 0)).get? b=some o:=λb o hb e =>
  Heap.get?_push_of_some _ (Heap.get?_push_of_some _ ((s1.2 b hb).trans e))
 show wpAny (model prog w) A _ P E { s with heap:=((s.heap.update a (Obj.mapSeq λ_=>(#[]:Array Value))).push (seqObj "tuple" vs.toArray 0)).push (seqObj "list" #[] 0) }
 dsimp only
 by_cases hn2:vs.toArray.size<2
 ·rw [if_pos hn2,if_pos hn2]
  refine wpAny_bind (wpAny_pure ?_)
  rw [StateT.run_pure]
  refine wpAny_bind (wpAny_pure ?_)
  dsimp only
  have hn2':vs.length<2:=by simpa using hn2
  have hr:Row vs.length (List.toArray (List.range vs.length)):=⟨by simp⟩
  have hu:Up f (List.toArray (List.range vs.length)) vs.length:=λi j hij hj=>by omega
  have e2:(arrOf (SortSt.mk' general' (vs.toArray.zip vs.toArray) #[] 7 none)).map (·.2)=List.toArray ((List.toArray (List.range vs.length)).toList.map λi=>vs.getD i Value.none):=by
   show (vs.toArray.zip vs.toArray).map (·.2)=_
   apply Array.toList_inj.mp
   exact ud hn2'
  refine wpAny_bind (seqEpoch_at ho6 rfl ?_)
  rw [e2]
  refine wpAny_bind (listUpdate_at ho6 rfl ?_ (Nat.zero_le _) (by rw [List.size_toArray,List.length_map,Array.length_toList,hr.size,sizeLine_eq]; omega))
  show wpAny _ _ (if (e1 != e1)=true then _ else _) _ _ _
  simp only [bne_self_eq_false,Bool.false_eq_true,if_false]
  exact wpAny_pure (h _ hr hu)
 ·have hn2':2≤vs.length:=by rw [List.size_toArray] at hn2; omega
  rw [if_neg hn2,if_neg hn2]
  refine wpAny_bind (wpAny_mono (hk { s with heap:=((s.heap.update a (Obj.mapSeq λ_=>(#[]:Array Value))).push (seqObj "tuple" vs.toArray 0)).push (seqObj "list" #[] 0) } keep (λk' s'=>k'=κ∧s'={ s with heap:=((s.heap.update a (Obj.mapSeq λ_=>(#[]:Array Value))).push (seqObj "tuple" vs.toArray 0)).push (seqObj "list" #[] 0) }) hn2' ⟨rfl,rfl⟩) (λκ' s0 hes=>?_) λ_ _ x=>x.elim)
  obtain ⟨ek,es⟩:=hes
  subst ek es
  obtain ⟨hrow,hup⟩:=uc O (by omega:1≤vs.length)
  refine wpAny_bind (wpAny_mono (kat_run (Q:=λst' s'=>∃ p:Array Nat,p.size=vs.length∧arrOf st'=p.map (kas_item (vs.toArray.zip vs.toArray))∧failedOf st'=none∧p=run f (kas_sort vs.length)∧s'={ s with heap:=((s.heap.update a (Obj.mapSeq λ_=>(#[]:Array Value))).push (seqObj "tuple" vs.toArray 0)).push (seqObj "list" #[] 0) })
   rfl hn2' h64 (λp' st' s' a1 a2 a3 a4=>⟨p',a1,a2,a3,a4⟩) (oF (n:=vs.length) (λi j C hi hj hC=>hlt _ keep i j C hi hj hC) (λp s'=>p=run f (kas_sort vs.length)∧s'={ s with heap:=((s.heap.update a (Obj.mapSeq λ_=>(#[]:Array Value))).push (seqObj "tuple" vs.toArray 0)).push (seqObj "list" #[] 0) }) _ (pV O (by omega)) ⟨rfl,rfl⟩)) ?_ λ_ _ e=>e)
  rintro ⟨⟨⟩,st'⟩ s' ⟨p,hp,har,hf,ep,es⟩
  subst es
  dsimp only
  have hout:=kat_snds (ks:=vs) rfl har
  refine wpAny_bind (seqEpoch_at ho6 rfl ?_)
  rw [hout]
  refine wpAny_bind (listUpdate_at ho6 rfl ?_ (Nat.zero_le _) (by rw [List.size_toArray,List.length_map,Array.length_toList,hp,sizeLine_eq]; omega))
  rw [hf]
  simp only [bne_self_eq_false,Bool.false_eq_true,if_false]
  rw [ep]
  exact wpAny_pure (h _ hrow hup)
theorem lG {l:Addr} {vs:List Value} {Q:List Value→Shared→Prop} (hl:IsTup s.heap l vs.toArray)
  (h:Q vs { s with heap:=(s.heap.push (seqObj "list" #[] 0)).update s.heap.objs.size (Obj.mapSeq (· ++ vs.toArray)) }) (hsz:vs.length≤sizeLine) :
  wpAny (model prog w) A (collect (.ref l)) Q E s:=by
 obtain ⟨o,ho,hc,n,hd⟩:=id hl
 unfold collect
 refine wpAny_bind (wpAny_runValue (codeAny_builtin entry_proto_collect' ?_))
 show wpAny _ _ (do again (.builtin "list.__iadd__" ⟨[← newList [],.ref l],[]⟩)) _ _ s
 refine wpAny_bind (wpAny_newList (wpAny_pure ⟨Code.quiet_builtin _ (by decide +kernel),codeAny_builtin entry_list_iadd' ?_⟩))
 show wpAny _ _ (Builtin.List.listExtendWith (.ref s.heap.objs.size) (.ref l) (.ref s.heap.objs.size)) _ _ { s with heap:=s.heap.push (seqObj "list" #[] 0) }
 unfold Builtin.List.listExtendWith
 have ho':(s.heap.push (seqObj "list" #[] 0)).get? l=some o:=Heap.get?_push_of_some _ ho
 refine wpAny_bind (wpAny_typeOf (T:="tuple") ⟨o,ho',hc⟩ ?_)
 have ht:(Value.type "tuple" == Value.type "tuple")=true:=by rfl
 rw [if_pos (by rw [ht]; simp)]
 refine wpAny_bind (listItems_at ho' hd ?_)
 refine wpAny_bind (listItems_at (xs:=#[]) (n:=0) (Heap.get?_push_size _ rfl) rfl ?_)
 rw [if_neg (by simp)]
 refine wpAny_bind (listUpdate_at (xs:=#[]) (n:=0) (Heap.get?_push_size _ rfl) rfl ?_ (Nat.zero_le _) (by show (#[]++vs.toArray).size≤sizeLine+1; simp only [Array.size_append,List.size_toArray,List.length_nil]; omega))
 refine wpAny_pure ?_
 show wpAny (model prog w) A (do
   let o ← load s.heap.objs.size
   match o.data with
   | .seq xs _=>pure xs.toList
   | _=>unsupported "internal:collect") Q E { s with heap:=(s.heap.push (seqObj "list" #[] 0)).update s.heap.objs.size (Obj.mapSeq (· ++ vs.toArray)) }
 refine wpAny_bind (wpAny_load (get?_update_seq (Heap.get?_push_size _ rfl) _) ?_)
 show wpAny _ _ (pure ((#[]:Array Value)++vs.toArray).toList) Q E _
 rw [show ((#[]:Array Value)++vs.toArray).toList=vs by simp]
 exact wpAny_pure h
theorem lH {l:Addr} {vs:List Value} {Q:List Value→Shared→Prop} (hl:s.heap.IsList l vs.toArray∨IsTup s.heap l vs.toArray)
  (h:Q vs { s with heap:=(s.heap.push (seqObj "list" #[] 0)).update s.heap.objs.size (Obj.mapSeq (· ++ vs.toArray)) }) (hsz:vs.length≤sizeLine) :
  wpAny (model prog w) A (collect (.ref l)) Q E s:=by
 rcases hl with hl | hl
 ·exact collect_list hl h hsz
 ·exact lG hl h hsz
theorem ic {f:Nat→Nat→Bool} {l:Addr} {vs:List Value} {κ:SortKind} {Q:Value→Shared→Prop} (O:Ord f vs.length) (hl:s.heap.IsList l vs.toArray∨IsTup s.heap l vs.toArray) (h64:vs.length<64)
  (hk:∀ (A':Around) (s':Shared),A'.units≤A.units+2→(∀ b o,s.heap.get? b=some o→s'.heap.get? b=some o)→∀ Q:SortKind→Shared→Prop,2≤vs.length→Q κ s'→wpAny (model prog w) A' (keyKind' vs.toArray) Q (λ_ _=>False) s')
  (hlt:∀ (A':Around) (s':Shared),A'.units≤A.units+2→(∀ b o,s.heap.get? b=some o→s'.heap.get? b=some o)→∀ (i j:Nat) (C:Bool→Shared→Prop),i<vs.length→j<vs.length→C (f i j) s'→wpAny (model prog w) A' (keyLt' κ (vs.getD i Value.none) (vs.getD j Value.none)) C (λ_ _=>False) s')
  (h:∀ (p:Array Nat) (h':Heap),Row vs.length p→Up f p vs.length→(∀ b o,s.heap.get? b=some o→h'.get? b=some o)→s.heap.objs.size≤s.heap.objs.size+1→(∃ k,h'.get? (s.heap.objs.size+1)=some (seqObj "list" (List.toArray (p.toList.map λi=>vs.getD i Value.none)) k))→Q (.ref (s.heap.objs.size+1)) { s with heap:=h' }) :
  wpAny (model prog w) A (call (.builtin "sorted") [.ref l]) Q E s:=by
 refine Calls.call_function_entry kind_sorted plain_sorted entry_sorted (args_sorted1 _) ?_
 unfold Builtin.«sorted»
 refine wpAny_bind (m:=checkCount "sorted" 1 1 _) (wpAny_pure ?_)
 refine wpAny_bind (lH hl ?_ (by rw [sizeLine_eq]; omega))
 refine wpAny_bind (wpAny_newList ?_ (by rw [sizeLine_eq]; omega))
 have hsz:((s.heap.push (seqObj "list" #[] 0)).update s.heap.objs.size (Obj.mapSeq (· ++ vs.toArray))).objs.size=s.heap.objs.size+1:=by
  rw [Heap.size_update,size_push']
 have hoL:(((s.heap.push (seqObj "list" #[] 0)).update s.heap.objs.size (Obj.mapSeq (· ++ vs.toArray))).push (seqObj "list" vs.toArray 0)).get? (s.heap.objs.size+1)=some (seqObj "list" vs.toArray 0):=by
  rw [← hsz]; exact Heap.get?_push_size _ rfl
 have keep:∀ b o,s.heap.get? b=some o→(((s.heap.push (seqObj "list" #[] 0)).update s.heap.objs.size (Obj.mapSeq (· ++ vs.toArray))).push (seqObj "list" vs.toArray 0)).get? b=some o:=λb o q=>by
  have hlt:b<s.heap.objs.size:=Heap.lt_size q
  rw [Heap.get?_push_ne _ _ _ (by rw [hsz]; exact Nat.ne_of_lt (Nat.lt_succ_of_lt hlt)),Heap.get?_update_ne _ _ _ _ (Nat.ne_of_lt hlt),Heap.get?_push_ne _ _ _ (Nat.ne_of_lt hlt)]
  exact q
 have neD:∀ b o,s.heap.get? b=some o→b≠s.heap.objs.size+1:=λb o q=>Nat.ne_of_lt (Nat.lt_succ_of_lt (Heap.lt_size q))
 show wpAny _ _ _ _ _ { s with heap:=((s.heap.push (seqObj "list" #[] 0)).update s.heap.objs.size (Obj.mapSeq (· ++ vs.toArray))).push (seqObj "list" vs.toArray 0) }
 rw [hsz]
 refine wpAny_bind (wpAny_holding (wpAny_call_entry slot_list_sort ⟨_,hoL,rfl⟩ entry_list_sort (jH (κ:=κ) (s:={ s with heap:=((s.heap.push (seqObj "list" #[] 0)).update s.heap.objs.size (Obj.mapSeq (· ++ vs.toArray))).push (seqObj "list" vs.toArray 0) }) O hoL h64 ?_ ?_ λp hr hu=>⟨_,rfl,?_⟩) (args_list_sort _)))
 ·intro s' hs' Q' h2 hq
  exact hk _ s' (by simp [Around.in1_units]) (λb o e=>hs' b o (neD b o e) (keep b o e)) Q' h2 hq
 ·intro s' hs' i j C hi hj hC
  exact hlt _ s' (by simp [Around.in1_units]) (λb o e=>hs' b o (neD b o e) (keep b o e)) i j C hi hj hC
 ·refine wpAny_pure ⟨_,rfl,h p _ hr hu (λb o e=>?_) (Nat.le_succ _) ?_⟩
  ·unfold sortedHeap
   rw [Heap.get?_update_ne _ _ _ _ (neD b o e)]
   refine Heap.get?_push_of_some _ (Heap.get?_push_of_some _ ?_)
   rw [Heap.get?_update_ne _ _ _ _ (neD b o e)]
   exact keep b o e
  ·unfold sortedHeap
   obtain ⟨e1,ho1⟩:∃ e1,((((s.heap.push (seqObj "list" #[] 0)).update s.heap.objs.size (Obj.mapSeq (· ++ vs.toArray))).push (seqObj "list" vs.toArray 0)).update (s.heap.objs.size+1) (Obj.mapSeq λ_=>(#[]:Array Value))).get? (s.heap.objs.size+1)=some (seqObj "list" #[] e1):=⟨_,get?_update_seq hoL λ_=>#[]⟩
   exact ⟨_,get?_update_seq (Heap.get?_push_of_some _ (Heap.get?_push_of_some _ ho1)) _⟩
theorem pW {f:Nat→Nat→Bool} {l:Addr} {vs:List Value} {κ:SortKind} {Q:Value→Shared→Prop} (O:Ord f vs.length) (hl:s.heap.IsList l vs.toArray) (h64:vs.length<64)
  (hk:∀ (A':Around) (s':Shared),A'.units≤A.units+2→(∀ b o,s.heap.get? b=some o→s'.heap.get? b=some o)→∀ Q:SortKind→Shared→Prop,2≤vs.length→Q κ s'→wpAny (model prog w) A' (keyKind' vs.toArray) Q (λ_ _=>False) s')
  (hlt:∀ (A':Around) (s':Shared),A'.units≤A.units+2→(∀ b o,s.heap.get? b=some o→s'.heap.get? b=some o)→∀ (i j:Nat) (C:Bool→Shared→Prop),i<vs.length→j<vs.length→C (f i j) s'→wpAny (model prog w) A' (keyLt' κ (vs.getD i Value.none) (vs.getD j Value.none)) C (λ_ _=>False) s')
  (h:∀ (p:Array Nat) (h':Heap),Row vs.length p→Up f p vs.length→(∀ b o,s.heap.get? b=some o→h'.get? b=some o)→s.heap.objs.size≤s.heap.objs.size+1→(∃ k,h'.get? (s.heap.objs.size+1)=some (seqObj "list" (List.toArray (p.toList.map λi=>vs.getD i Value.none)) k))→Q (.ref (s.heap.objs.size+1)) { s with heap:=h' }) :
  wpAny (model prog w) A (call (.builtin "sorted") [.ref l]) Q E s:=ic O (.inl hl) h64 hk hlt h
end
end SRT
namespace L2
open PySem PySem.Spec PyProof.Rows
section
variable {X:Cx} {tg:Expr}
theorem jI:∀ {bs:List Bool} {us:List Value},au (bs.map V.bl) us→us=bs.map Value.bool
 | [],_,.nil=>rfl
 | b :: bs,_,.cons r t=>by
  have e:_=Value.bool b:=r
  rw [e,jI t]; rfl
theorem eX (hc:X.calm=true):bG X (.builtin "all") (λxs H Q=>∃ a,∃ bs:List Bool,xs=[.ref a]∧SqL X.K H a (bs.map V.bl)∧Q (.bl (bs.all id)) H):=by
 intro pins s σ H xs us Q I r h
 obtain ⟨a,bs,rfl,hq,q⟩:=h
 obtain ⟨u,rfl,ru⟩:=cy r
 cases ru
 obtain ⟨its,rv,pl,hz⟩:=I.list hq
 have e:=jI rv
 subst e
 refine call_all_walk (wpAny_pyIter_list pl.isList ?_)
 have hlt:a<s.heap.objs.size:=by obtain ⟨o,e,_⟩:=pl.isList; exact Heap.lt_size e
 have hne:a≠s.heap.objs.size:=Nat.ne_of_lt hlt
 refine ⟨s.heap.objs.size,_,_,_,_,_,λi=>bs.getD i false,rfl,Walks.list (by simp [I.ok.hd hc]) s.heap.objs.size a hne (bs.map Value.bool).toArray,⟨⟨_,Heap.get?_push_size _ rfl,rfl,rfl⟩,pl.isList.push _⟩,?_,?_⟩
 ·intro i v s' Q' E' hP hQ
  have hP':(bs.map Value.bool)[i]? = some v:=by simpa using hP
  rw [List.getElem?_map] at hP'
  cases eb:bs[i]? with
  | none=>rw [eb] at hP'; cases hP'
  | some b =>
   rw [eb] at hP'
   have ev:Value.bool b=v:=Option.some.inj hP'
   subst ev
   refine wpAny_truthy_bool ?_
   have hQ':Q' (bs.getD i false) s':=hQ
   rw [List.getD_eq_getElem?_getD,eb] at hQ'
   exact hQ'
 ·intro h' tk hk
  refine ⟨.bl (bs.all id),H,I.kept (t':=tk) (λb o e=>hk b o (by simp only [List.mem_singleton]; exact Nat.ne_of_lt (Heap.lt_size e)) (Heap.get?_push_of_some _ e)),?_,q⟩
  have e1:((List.range (bs.map Value.bool).toArray.size).all λi=>bs.getD i false)=bs.all id:=by
   rw [List.size_toArray,List.length_map]
   rw [Bool.eq_iff_iff,List.all_eq_true,List.all_eq_true]
   constructor
   ·intro hh x hx
    obtain ⟨i,hi,e⟩:=List.mem_iff_getElem.mp hx
    have:=hh i (List.mem_range.mpr hi)
    rw [List.getD_eq_getElem?_getD,List.getElem?_eq_getElem hi,e] at this
    exact this
   ·intro hh i hi
    have hi':=List.mem_range.mp hi
    rw [List.getD_eq_getElem?_getD,List.getElem?_eq_getElem hi']
    exact hh _ (List.getElem_mem hi')
  show _=Value.bool _
  rw [e1]
theorem rn:OpR X (compareOp .Is) (λx y H Q=>∃ a b,x = .bl a∧y = .bl b∧Q (.bl (decide (a=b))) H):=by
 intro pins s σ H x y v u Q I rx ry h
 obtain ⟨a,b,rfl,rfl,q⟩:=h
 cases (show v=Value.bool a from rx)
 cases (show u=Value.bool b from ry)
 show wpAny _ _ (do let r ← isSame (.bool a) (.bool b); pure (Value.bool r)) _ _ s
 refine wpAny_bind (wpAny_isSame_plain (by rfl) (wpAny_pure ⟨.bl (decide (a=b)),H,I,?_,q⟩))
 show _=Value.bool _
 cases a <;> cases b <;> rfl
theorem cg:bG X (.builtin "isinstance") (λxs H Q=>∃ x n t b,xs=[x,.ty n]∧TyOf X.K H x t∧PySem.W.kitOne X.K t (.type n)=some b∧Q (.bl b) H):=by
 intro pins s σ H xs us Q I r h
 obtain ⟨x,n,t,b,rfl,ty,e,q⟩:=h
 obtain ⟨u,u',rfl,ru,ru'⟩:=om r
 cases (show u'=Value.type n from ru')
 exact pG I ru ty e λtk=>⟨.bl b,H,I.tok tk,rfl,q⟩
noncomputable def Its (x:Str):It:=⟨λi _=>i<x.cps.size,λi H v H'=>H'=H∧∃ c,x.cps[i]? = some c∧v = .str ⟨#[c]⟩,λi _=>x.cps.size≤i⟩
theorem ro {P:Program} {w:World} {K:PySem.W.Frag} (x:Str) (t:Tok) (it:Addr):Turn P w K tg (Its x) [it] it (λi h=>h.IsStrIter it (strIterType x) x t i) where
 mem:=by simp
 obj:=λi h st b hb=>by
  have e:b=it:=by simpa using hb
  subst e
  obtain ⟨o,e,c,d⟩:=st
  exact ⟨o,e,λv z=>by rw [d] at z; cases z⟩
 keep:=λi h h' st k=>by
  obtain ⟨o,e,r⟩:=st
  exact ⟨o,k it (by simp) o e,r⟩
 item:=by
  intro X hP hw hK hc i pins s σ H E I hf st hg
  subst hP hw hK
  obtain ⟨f0,f1,f2,f3,f4,f5⟩:=hf it (by simp)
  have hg':i<x.cps.size:=hg
  have fin:∀ (h':Heap) (tk:Nat),h'.IsStrIter it (strIterType x) x t (i+1)→Heap.SameBut it s.heap h'→∃ u',some (Value.str ⟨#[x.cps[i]]⟩ s.toks)=some u'∧wpAny (model X.prog X.w) X.A (letOwnedTupleGo tg (.ref it) u') (λ_ s2=>∃ y H',Inv X pins σ H' s2∧aA y u'∧(Its x).yld i H y H'∧s2.heap.IsStrIter it (strIterType x) x t (i+1)∧∀ b∈[it],H' b=none) E { s with heap:=h',toks:=tk }:=λh' tk st' sb=>by
   have I1:Inv X pins σ H { s with heap:=h',toks:=tk }:=I.turned (t':=tk) (λb o hb e=>(sb.2 b hb).trans e) f0 f1 f3 f4 f5
   obtain ⟨o,e,c,d⟩:=id st'
   refine ⟨_,rfl,kx (s:={ s with heap:=h',toks:=tk }) e c d ?_ ⟨.str ⟨#[x.cps[i]]⟩,H,I1,⟨_,rfl⟩,⟨rfl,x.cps[i],by simp [hg'],rfl⟩,st',λb hb=>(hf b hb).1⟩⟩
   unfold strIterType
   split <;> decide
  cases ha:x.cps.all (· < 128) with
  | true =>
   have et:strIterType x="str_ascii_iterator":=by simp [strIterType,ha]
   rw [et] at st fin ⊢
   exact wpAny_pyNext_ascii_item st (c:=x.cps[i]) (by simp [hg']) λh' st' sb=>fin h' _ st' sb
  | false =>
   have et:strIterType x="str_iterator":=by simp [strIterType,ha]
   rw [et] at st fin ⊢
   exact wpAny_pyNext_wide_item st (c:=x.cps[i]) (by simp [hg']) λh' st' sb=>fin h' _ st' sb
 done:=by
  intro X hP hw hK hc i pins s σ H E I hf st hg
  subst hP hw hK
  obtain ⟨f0,f1,f2,f3,f4,f5⟩:=hf it (by simp)
  have hg':x.cps.size≤i:=hg
  cases ha:x.cps.all (· < 128) with
  | true =>
   have et:strIterType x="str_ascii_iterator":=by simp [strIterType,ha]
   rw [et] at st
   exact wpAny_pyNext_ascii_end (I.ok.hd hc) st (by simp [hg']) λh' eb=>⟨rfl,I.turned (t':=s.toks) (λb o hb e=>eb b o hb e) f0 f1 f3 f4 f5⟩
  | false =>
   have et:strIterType x="str_iterator":=by simp [strIterType,ha]
   rw [et] at st
   exact wpAny_pyNext_wide_end (I.ok.hd hc) st (by simp [hg']) λh' eb=>⟨rfl,I.turned (t':=s.toks) (λb o hb e=>eb b o hb e) f0 f1 f3 f4 f5⟩
 self:=λA i s Q E st h=>by
  cases ha:x.cps.all (· < 128) with
  | true =>
   have et:strIterType x="str_ascii_iterator":=by simp [strIterType,ha]
   rw [et] at st
   exact wpAny_pyIter_striter_ascii st h
  | false =>
   have et:strIterType x="str_iterator":=by simp [strIterType,ha]
   rw [et] at st
   exact wpAny_pyIter_striter_wide st h
noncomputable def yS (tl:TE):TI:=λσ H R=>tl σ H λv H1=>∃ x,v = .str x∧R (Its x) H1
theorem rq {l:Expr} {tl:TE} (hl:PE X l tl):PI X tg l (yS tl):=by
 intro pins s σ H R I h
 refine thn (hl pins s σ H _ I h) λv s1 hpt=>?_
 obtain ⟨y,H1,I1,r1,q1⟩:=hpt
 obtain ⟨x,e,q⟩:=q1
 subst e
 obtain ⟨t,rfl⟩:=r1
 refine wpAny_pyIter_strU ?_
 refine ⟨s1.heap.objs.size,[s1.heap.objs.size],_,_,H1,rfl,I1.kept (t':=s1.toks) λb o e=>Heap.get?_push_of_some _ e,ro x t _,⟨_,Heap.get?_push_size _ rfl,rfl,rfl⟩,λb hb=>?_,q⟩
 have e:b=s1.heap.objs.size:=by simpa using hb
 subst e
 exact I1.fpOk (Nat.le_refl _) (I1.hok.fresh (Nat.le_refl _))
theorem rA {pins:List (Addr×Obj)} {σ:St} {H:Hp} {s:Shared} {a:Addr} {ks:List Key} (I:Inv X pins σ H s) (h:H a=some (.tup (ks.map kV))) (P:Program) (w:World):IsTupleKey (aD P w) s.heap ks a:=by
 obtain ⟨_,its,r,o,e,c,n,d⟩:=I.hok a _ h
 exact ⟨o,its.toArray,n,e,c,d,by simpa using ft r⟩
theorem cS:∀ {as:List Addr} {us:List Value},au (as.map V.ref) us→us=as.map Value.ref
 | [],_,.nil=>rfl
 | b :: bs,_,.cons r t=>by
  have e:_=Value.ref b:=r
  rw [e,cS t]; rfl
theorem iI (hu:X.A.units+1<cLine):OpR X (compareOp .NotIn) (λx y H Q=>∃ a p ks,∃ kss:List (Addr×List Key),x = .ref a∧H a=some (.tup (ks.map kV))∧y = .ref p∧SqL X.K H p ((kss.map (·.1)).map V.ref) ∧
  (∀ z∈kss,H z.1=some (.tup (z.2.map kV)))∧Q (.bl (!(kss.any λz=>decide (z.2=ks)))) H):=by
 intro pins s σ H x y v u Q I rx ry h
 obtain ⟨a,p,ks,kss,rfl,ha,rfl,hq,hk,q⟩:=h
 cases rx
 cases ry
 obtain ⟨its,rv,pl,hz⟩:=I.list hq
 have e:=cS rv
 subst e
 let e:Value→Bool:=λv=>match v with | .ref b=>((kss.find? λz=>z.1 == b).map λz=>decide (z.2=ks)).getD false | _=>false
 have he:∀ z∈kss,e (.ref z.1)=decide (z.2=ks):=λz hz'=>by
  show ((kss.find? λy=>y.1 == z.1).map λz=>decide (z.2=ks)).getD false=_
  cases ef:kss.find? λy=>y.1 == z.1 with
  | none=>have:=List.find?_eq_none.mp ef z hz'; simp at this
  | some y =>
   have h1:=List.find?_some ef
   have h2:=List.mem_of_find?_eq_some ef
   have e1:y.1=z.1:=by simpa using h1
   have e2:=hk y h2
   rw [e1,hk z hz'] at e2
   have e3:z.2.map kV=y.2.map kV:=by injection (Option.some.inj e2)
   rw [ow e3]; rfl
 refine SeqAt.notIn_listAt e pl.isList (λy hy=>?_) ⟨.bl _,H,I,rfl,?_⟩
 ·have hy':y∈(kss.map (·.1)).map Value.ref:=by simpa using hy
  obtain ⟨b,hb,rfl⟩:=List.mem_map.mp hy'
  obtain ⟨z,hz',rfl⟩:=List.mem_map.mp hb
  rw [he z hz']
  intro prog w E' Q' hQ
  exact wpAny_eqBool_tuple (knd:=aD prog w) (by simp; exact hu) (rA I (hk z hz') prog w) (rA I ha prog w) hQ
 ·have e1:(((kss.map (·.1)).map Value.ref).toArray.any e)=kss.any λz=>decide (z.2=ks):=by
   rw [List.any_toArray,List.any_map,List.any_map]
   apply Bool.eq_iff_iff.mpr
   rw [List.any_eq_true,List.any_eq_true]
   constructor
   ·rintro ⟨z,hz',h1⟩; exact ⟨z,hz',by rw [← he z hz']; exact h1⟩
   ·rintro ⟨z,hz',h1⟩; exact ⟨z,hz',by show e (.ref z.1)=true; rw [he z hz']; exact h1⟩
  rw [e1]
  exact q
noncomputable def jJ (a:Addr) (n:Nat) (h:Heap):Prop:=∃ o es ep t,h.get? a=some o∧o.ExactSet∧o.data = .set es ep t∧t.fits es.size=true∧es.size=n
theorem rB (P:Program) (w:World):∀ k v,(aD P w).is k v=true→v.scannable=true:=λk v h=>by
 rcases aS h with ⟨i,t,_,rfl⟩ | ⟨x,t,_,rfl⟩ <;> rfl
theorem iJ (hc:X.calm=true) (hu:X.A.units+4<cLine):bG X (.type "set") (λxs H Q=>∃ p,∃ kss:List (Addr×List Key),xs=[.ref p]∧SqL X.K H p ((kss.map (·.1)).map V.ref)∧(∀ z∈kss,H z.1=some (.tup (z.2.map kV)))∧kss.length≤60 ∧
  ∀ n,n≤kss.length→(n=kss.length↔(kss.map (·.2)).Nodup)→∀ q,H q=none→Q (.ref q) (upd H q (.ext (jJ q n)))):=by
 intro pins s σ H xs us Q I r h
 obtain ⟨p,kss,rfl,hq,hk,hl,q⟩:=h
 obtain ⟨u,rfl,ru⟩:=cy r
 cases ru
 obtain ⟨its,rv,pl,hz⟩:=I.list hq
 have e:=cS rv
 subst e
 have hsz:(((kss.map (·.1)).map Value.ref).toArray).size=kss.length:=by simp
 have hget:∀ i,i<kss.length→kss.getD i (0,[])∈kss:=λi hi=>by
  rw [List.getD_eq_getElem?_getD,List.getElem?_eq_getElem hi]; exact List.getElem_mem hi
 refine TB.gG (knd:=aD X.prog X.w) (key:=λi=>(kss.getD i (0,[])).2) (ad:=λi=>(kss.getD i (0,[])).1) (I.ok.hd hc) hu (rB _ _) pl.isList (λi v hv=>?_) (λi hi=>?_) (by rw [hsz]; exact hl) λh' tk zs hS hzl hm hkeep=>?_
 ·have hv':((kss.map (·.1)).map Value.ref)[i]? = some v:=by simpa using hv
  rw [List.getElem?_map,List.getElem?_map] at hv'
  rw [List.getD_eq_getElem?_getD]
  cases ei:kss[i]? with
  | none=>rw [ei] at hv'; cases hv'
  | some z=>rw [ei] at hv'; exact (Option.some.inj hv').symm
 ·exact rA I (hk _ (hget i (by omega))) _ _
 ·rw [hsz] at hm hzl
  have hcount:zs.length=kss.length↔(kss.map (·.2)).Nodup:=by
   have:=TB.lB (z:=zs.map (·.2.2)) (l:=kss.map (·.2)) hS.nd λk'=>by
    rw [hm k']
    constructor
    ·rintro ⟨j,hj,e⟩
     rw [← e]
     exact List.mem_map.mpr ⟨_,hget j hj,rfl⟩
    ·intro h1
     obtain ⟨z,hz',e⟩:=List.mem_map.mp h1
     obtain ⟨j,hj,e2⟩:=List.mem_iff_getElem.mp hz'
     exact ⟨j,hj,by rw [List.getD_eq_getElem?_getD,List.getElem?_eq_getElem hj,e2]; exact e⟩
   rw [List.length_map,List.length_map] at this
   exact this
  obtain ⟨⟨o,es,ep,t,ho,hex,hd,hes,T,hmask,hfull,hpath⟩,_,_⟩:=hS
  have hlen:es.size=zs.length:=by rw [← Array.length_toList,hes,List.length_map]
  have hf:t.fits es.size=true:=TB.jE T (by rw [List.length_map,hlen]) (by rw [hlen]; omega)
  refine ⟨.ref s.heap.objs.size,_,I.laid (t':=tk) (o:=.ext (jJ s.heap.objs.size zs.length)) (λb o e=>hkeep b o (Heap.lt_size e) e) (Nat.le_refl _) ⟨⟨o,es,ep,t,ho,hex,hd,hf,hlen⟩,⟨o,ho⟩,?_⟩,rfl,q zs.length hzl hcount _ (I.hok.fresh (Nat.le_refl _))⟩
  rintro h1 h2 ⟨o,es,ep,t,a1,a2⟩ hh
  exact ⟨o,es,ep,t,hh o a1,a2⟩
theorem lI:bG X (.builtin "len") (λxs H Q=>∃ p n,xs=[.ref p]∧H p=some (.ext (jJ p n))∧n≤60∧Q (.int n) H):=by
 intro pins s σ H xs us Q I r h
 obtain ⟨p,n,rfl,hp,hn,q⟩:=h
 obtain ⟨u,rfl,ru⟩:=cy r
 cases ru
 obtain ⟨⟨o,es,ep,t,ho,hex,hd,hf,hlen⟩,_,_⟩:=I.hok p _ hp
 refine call_len_set ho hex hd hf (by rw [hlen]; omega) ⟨.int n,H,I.tok _,?_,q⟩
 rw [hlen]
 exact ⟨_,rfl⟩
noncomputable def ue:V→List V→Hp→VK→Prop:=λx vs H Q=>∃ d kvs k y,x = .ref d∧vs=[kV k,y]∧H d=some (.dK kvs)∧kvs.length<sizeLine∧(∀ v,br kvs k=some v→Q v H)∧(br kvs k=none→Q y (upd H d (.dK (cP kvs k y))))
theorem iK:MtM X "dict.setdefault" ue:=by
 intro pins s σ H x vs v us Q I rx rv h
 obtain ⟨d,kvs,k,y,rfl,rfl,hd,hz,q1,q2⟩:=h
 cases rx
 obtain ⟨u,u',rfl,ru,ru'⟩:=rv.two
 obtain ⟨z,hs,ws,rel,dd⟩:=kQ I.hok hd
 have hzw:ws.length≤sizeLine:=by rw [← rel.length]; exact z
 refine call_meetsIn F.slot_dict_setdefault dd.typeIs F.entry_dict_setdefault (F.args_dict_setdefault_3 _ _ _) (kt_meets_setdefault (aD X.prog X.w) d (eP ru) hs u') ⟨ws,dd,hzw,λw' hw=>?_,λhw h' dd' sb=>?_⟩
 ·have:=rel.val k
  rw [hw] at this
  cases e:br kvs k with
  | none=>rw [e] at this; cases this
  | some v =>
   rw [e] at this
   exact ⟨v,H,I.tok _,this,q1 v e⟩
 ·have:=rel.val k
  rw [hw] at this
  cases e:br kvs k with
  | some v=>rw [e] at this; cases this
  | none =>
   have he:∃ q,h'.get? d=some q:=let ⟨q,_,_,hq,_⟩:=dd'; ⟨q,hq⟩
   have hl:(cP kvs k y).length≤sizeLine:=by have:=cD kvs k y; omega
   exact ⟨y,_,eQ I (by rw [hd]; exact True.intro) sb he (gY hl hs (rel.put k ru') dd'),ru',q2 e⟩
theorem pX:bG X (.type "range") (λxs H Q=>∃ i j,xs=[.int i,.int j]∧∀ p,H p=none→Q (.ref p) (upd H p (.rng i j))):=by
 intro pins s σ H xs us Q I r h
 obtain ⟨i,j,rfl,q⟩:=h
 obtain ⟨u,u',rfl,⟨t,rfl⟩,⟨t',rfl⟩⟩:=om r
 refine call_range_2 ⟨.ref s.heap.objs.size,_,I.laid (t':=s.toks+1) (o:=.rng i j) (λb ob q=>Heap.get?_push_of_some _ q) (Nat.le_refl _) ?_,rfl,q _ (I.hok.fresh (Nat.le_refl _))⟩
 exact ⟨t,t',_,Heap.get?_push_size _ rfl⟩
theorem nA {lo:Int} {n:Nat} {acc:Array Value} (h:ItemsOf (λi v=>∃ t,v = .int (lo+i * 1) t) acc n):au ((List.range n).map λk=>V.int (lo+(k:Nat))) acc.toList:=by
 obtain ⟨h1,h2⟩:=h
 have key:∀ (l:List Value) (k:Nat),(∀ (i:Nat) (v:Value),l[i]? = some v→∃ t,v=Value.int (lo+(k+i:Nat)) t)→au ((List.range' k l.length).map λk=>V.int (lo+(k:Nat))) l:=by
  intro l
  induction l with
  | nil=>intro k _; exact .nil
  | cons v l ih =>
   intro k hv
   rw [List.length_cons,List.range'_succ,List.map_cons]
   refine .cons ?_ (ih (k+1) λi w hw=>?_)
   ·obtain ⟨t,e⟩:=hv 0 v rfl
    exact ⟨t,e⟩
   ·obtain ⟨t,e⟩:=hv (i+1) w hw
    exact ⟨t,by rw [e,show k+(i+1)=k+1+i by omega]⟩
 have hl:acc.toList.length=n:=by simpa using h1
 have:=key acc.toList 0 λi v hv=>by
  have hv':acc[i]? = some v:=by simpa using hv
  obtain ⟨t,e⟩:=h2 i v hv'
  exact ⟨t,by rw [e,Int.mul_one,Nat.zero_add]⟩
 rw [hl] at this
 rw [List.range_eq_range']
 exact this
theorem iL (hc:X.calm=true):bG X (.type "list") (λxs H Q=>∃ p i j,xs=[.ref p]∧H p=some (.rng i j)∧(-(2 ^ 62)≤i∧i<2 ^ 62∧-(2 ^ 62)≤j∧j<2 ^ 62)∧(j - i).toNat≤1000 ∧
  ∀ l,H l=none→Q (.ref l) (upd H l (.lst ((List.range (j - i).toNat).map λk=>V.int (i+(k:Nat)))))):=by
 intro pins s σ H xs us Q I r h
 obtain ⟨p,i,j,rfl,hp,⟨b1,b2,b3,b4⟩,hn,q⟩:=h
 obtain ⟨u,rfl,rx⟩:=cy r
 cases rx
 obtain ⟨t,t',t'',e⟩:=(show ba X.prog X.w H s.heap p (.rng i j) from I.hok p _ hp)
 have hsz:Builtin.Range.rangeSize i j 1=((j - i).toNat:Nat):=by rw [rangeSize_one]; split <;> omega
 refine call_list_range (n:=(j - i).toNat) (I.ok.hd hc) e (small_one b1 b2 b3 b4) hsz (by omega) λh' tk acc c' kp hg hi=>?_
 refine ⟨.ref s.heap.objs.size,_,I.laid (t':=tk) kp (Nat.le_refl _) (show ba X.prog X.w _ h' _ (.lst _) from ⟨?_,acc.toList,c',nA hi,by simpa using hg⟩),rfl,q _ (I.hok.fresh (Nat.le_refl _))⟩
 rw [List.length_map,List.length_range,sizeLine_eq]; omega
theorem eY {prog:Program} {w:World} {A:Around} {E:Value→Shared→Prop} {s:Shared} {t sl:Addr} {items:Array Value} {vl vu:Value} {lo hi:Option Int} {Q:Value→Shared→Prop} (ht:IsTup s.heap t items) (hs:s.heap.IsSliceOf sl vl vu .none) (pl:IsPart vl lo) (pu:IsPart vu hi)
  (hw:HT.sIx items.size 0 lo=0∧HT.sIx items.size items.size hi=items.size) (h:Q (.ref t) s):wpAny (model prog w) A (getItem (.ref t) (.ref sl)) Q E s:=by
 obtain ⟨os,hos,hcs,hds⟩:=id hs
 have hTs:s.TypeIs (.ref sl) "slice":=⟨os,hos,hcs⟩
 unfold getItem
 try with_reducible refine wpAny_holding ?_
 first | refine wpAny_bind (wpAny_pure ?_) | skip
 refine wpAny_bind (wpAny_sequenceKey ht.typeIs (by decide) ?_)
 refine wpAny_bind (wpAny_callSpecial?_slot (name:=Str.ofString "__getitem__") ht.typeIs PyProof.Rows.slot_tuple_getitem
  (wpAny_call_entry PyProof.Rows.slot_tuple_getitem ht.typeIs entry_tuple_getitem ?_ (args_tuple_getitem _ _)))
 show wpAny _ _ (Builtin.Tuple.tupleItemsOf (.ref t) >>= _) _ _ s
 refine wpAny_bind (tupleItemsOf_ ht ?_)
 refine wpAny_bind (wpAny_typeOf hTs ?_)
 rw [if_pos (by decide)]
 refine wpAny_bind (HT.cO hs pl pu ?_)
 have hyes:((((HT.sIx items.size 0 lo:Nat):Int) == 0 && (1:Int) == 1 && (HT.sIx items.size items.size hi - HT.sIx items.size 0 lo) == items.size)=true):=by
  rw [hw.1,hw.2]; simp
 show wpAny _ _ (if (((HT.sIx items.size 0 lo:Nat):Int) == 0 && (1:Int) == 1 && (HT.sIx items.size items.size hi - HT.sIx items.size 0 lo) == items.size)=true then _ else _) _ _ s
 rw [if_pos hyes]
 refine wpAny_bind ?_
 unfold Builtin.Tuple.tupleIsExact
 refine wpAny_bind (wpAny_typeOf ht.typeIs (wpAny_pure ?_))
 rw [if_pos (by decide)]
 exact wpAny_bind (wpAny_rule (wpAny_pure ⟨_,rfl,wpAny_pure h⟩))
theorem nB:SlR X (λx lo hi H Q=>∃ a xs,x = .ref a∧SqT X.K H a xs∧HT.sIx xs.length 0 lo=0∧HT.sIx xs.length xs.length hi=xs.length∧Q (.ref a) H):=by
 intro pins s σ H x v vl vu lo hi sl Q I rx hs pl pu h
 obtain ⟨a,xs,rfl,hx,h1,h2,q⟩:=h
 cases rx
 obtain ⟨its,r,ht,hz⟩:=I.tuple hx
 have hlen:its.toArray.size=xs.length:=by rw [List.size_toArray]; exact r.length.symm
 exact ⟨"tuple",_,PyProof.Rows.slot_tuple_getitem.lookup,ht.typeIs,eY ht hs pl pu (by rw [hlen]; exact ⟨h1,h2⟩) ⟨.ref a,H,I,rfl,q⟩⟩
theorem ie (hu:X.A.units<cLine):OpR X (compareOp .Eq) (λx y H Q=>∃ a b xs,x = .ref a∧y = .ref b∧SqL X.K H a xs∧SqL X.K H b []∧Q (.bl (decide (xs=[]))) H):=by
 intro pins s σ H x y v u Q I rx ry h
 obtain ⟨a,b,xs,rfl,rfl,ha,hb,q⟩:=h
 cases rx
 cases ry
 obtain ⟨its,r1,ht,_⟩:=I.list ha
 obtain ⟨its2,r2,hb',_⟩:=I.list hb
 cases r2
 by_cases e:xs=[]
 ·subst e
  cases r1
  refine SeqAt.eq_listAt (e:=λ_=>true) ht.isList hb'.isList rfl hu (λj h1 h2=>absurd h2 (by simp)) ⟨.bl _,H,I,?_,q⟩
  rfl
 ·have e2:its≠[]:=λz=>e (r1.nil_iff.mp z)
  have e3:its.length≠0:=λz=>e2 (List.length_eq_zero_iff.mp z)
  refine SeqAt.eq_list_lengthsAt ht.isList hb'.isList (by simp [e3]) hu ⟨.bl _,H,I,?_,q⟩
  show _=Value.bool _
  simp [e]
end
end L2
namespace ZT
open PySem PySem.SeqAt
section
variable {prog:Program} {w:World} {A:Around} {E:Value→Shared→Prop} {s:Shared}
theorem eE {it t:Addr} {i:Nat} {items:Array Value} {x:Value} {Q:Value→Shared→Prop} (hi:s.heap.IsTupleIter it t i) (ht:s.heap.IsTuple t items) (hx:items[i]? = some x)
  (q:∀ g,g.IsTupleIter it t (i+1)→Heap.SameBut it s.heap g→Q x { s with heap:=g }):wpAny (model prog w) A (Builtin.SmallTypes.nextOf (.ref it)) Q E s:=by
 obtain ⟨oi,e1,e2,e3⟩:=id hi
 obtain ⟨ot,e4,_,k,e5⟩:=ht
 unfold Builtin.SmallTypes.nextOf
 refine wpAny_bind (wpAny_callSpecial?_slot (name:=Str.ofString "__next__") hi.typeIs F.slot_tuple_iterator_next (wpAny_call_entry F.slot_tuple_iterator_next hi.typeIs F.entry_tuple_iterator_next ?body (F.args_tuple_iterator_next_1 _)))
 case body =>
  refine wpAny_bind (m:=field (.ref it) 0) (wpAny_field e1 e3 (x:=.ref t) rfl ?_)
  rw [if_neg (show ¬ ((Value.ref t == Value.none)=true) by simp)]
  refine wpAny_bind (m:=field (.ref it) 1) (wpAny_field e1 e3 (x:=.int i 0) rfl ?_)
  refine wpAny_bind (m:=seqItems? (.ref t)) (wpAny_seqItems e4 e5 ?_)
  simp only [Int.toNat_natCast,hx]
  have up:(Obj.mapFields (·.setIfInBounds 1 (rawInt ((i:Int)+1))) oi).data = .fields #[.ref t,.int ((i+1:Nat):Int) 0]:=by rw [Obj.data_mapFields e3]; simp [rawInt]
  exact wpAny_bind (wpAny_setField e1 e3 (by simp) (wpAny_pure ⟨x,rfl,wpAny_pure (q _ ⟨_,Heap.get?_update_self _ e1 (Obj.isFreed_of_fields (Obj.data_mapFields e3 _)),(Obj.cls_mapFields ..).trans e2,up⟩ (Heap.SameBut.update ..))⟩))
theorem jh {it t:Addr} {i:Nat} {items:Array Value} {Q:Value→Shared→Prop} (hh:A.handled=none) (hi:s.heap.IsTupleIter it t i) (ht:s.heap.IsTuple t items) (hx:items[i]? = none)
  (q:∀ g e,Heap.ExtBut it s.heap g→(∃ o,g.get? e=some o∧o.cls = .type "StopIteration")→E (.ref e) { s with heap:=g }):wpAny (model prog w) A (Builtin.SmallTypes.nextOf (.ref it)) Q E s:=by
 obtain ⟨oi,e1,e2,e3⟩:=id hi
 obtain ⟨ot,e4,_,k,e5⟩:=ht
 unfold Builtin.SmallTypes.nextOf
 refine wpAny_bind (wpAny_callSpecial?_slot (name:=Str.ofString "__next__") hi.typeIs F.slot_tuple_iterator_next (wpAny_call_entry F.slot_tuple_iterator_next hi.typeIs F.entry_tuple_iterator_next ?body (F.args_tuple_iterator_next_1 _)))
 case body =>
  refine wpAny_bind (m:=field (.ref it) 0) (wpAny_field e1 e3 (x:=.ref t) rfl ?_)
  rw [if_neg (show ¬ ((Value.ref t == Value.none)=true) by simp)]
  refine wpAny_bind (m:=field (.ref it) 1) (wpAny_field e1 e3 (x:=.int i 0) rfl ?_)
  refine wpAny_bind (m:=seqItems? (.ref t)) (wpAny_seqItems e4 e5 ?_)
  simp only [Int.toNat_natCast,hx]
  refine wpAny_bind (wpAny_rule (wpAny_bind (wpAny_setField e1 e3 (by simp) ?_)))
  refine wpAny_bind (m:=newExc (.type "StopIteration") []) ?_
  unfold newExc newTuple
  refine wpAny_bind (wpAny_newObj_type (hd:=by size_fits) ?_)
  refine wpAny_bind (m:=firstArgMember _ _) (wpAny_of_eq (a:=Value.none) (by first | rfl | (unfold firstArgMember; rfl)) (wpAny_newObj_type (hd:=by size_fits) ?_))
  unfold raiseNew
  refine wpAny_bind (wpAny_handled ?_)
  first | rw [show A.in1.handled=none from hh] | rw [hh]
  exact wpAny_bind (wpAny_pure (wpAny_throw (q _ _ (((Heap.SameBut.update ..).extBut.push _).push _) ⟨_,Heap.get?_push_size _ rfl,rfl⟩)))
structure Rec (h:Heap) (z a b i1 i2 t1 t2:Addr) (out:Value) (k:Nat):Prop where
 zz:IsZip h z a b out
 ti:IsPair h a (.ref i1) (.ref i2)
 to:∃ u v,IsPair h b u v
 n1:h.IsTupleIter i1 t1 k
 n2:h.IsTupleIter i2 t2 k
structure Apart (z a b i1 i2 t1 t2:Nat):Prop where
 az:a≠z
 bz:b≠z
 z1:i1≠z
 z2:i2≠z
 ab:a≠b
 a1:a≠i1
 a2:a≠i2
 b1:b≠i1
 b2:b≠i2
 d12:i1≠i2
 tz:t1≠z∧t2≠z
 tb:t1≠b∧t2≠b
 t1n:t1≠i1∧t2≠i1
 t2n:t1≠i2∧t2≠i2
theorem rC (n t1 t2:Nat) (h1:t1<n) (h2:t2<n):Apart (n+4) (n+2) (n+3) n (n+1) t1 t2 :=
 ⟨by omega,by omega,by omega,by omega,by omega,by omega,by omega,by omega,by omega,by omega,⟨by omega,by omega⟩,⟨by omega,by omega⟩,⟨by omega,by omega⟩,⟨by omega,by omega⟩⟩
theorem pY {z a b i1 i2 t1 t2:Addr} {k:Nat} {xs ys:Array Value} {x y:Value} {Q:Value→Shared→Prop} (D:Apart z a b i1 i2 t1 t2) (R:Rec s.heap z a b i1 i2 t1 t2 .none k) (h1:s.heap.IsTuple t1 xs) (h2:s.heap.IsTuple t2 ys)
  (hx:xs[k]? = some x) (hy:ys[k]? = some y)
  (q:∀ g,Rec g z a b i1 i2 t1 t2 (rawInt s.heap.objs.size) (k+1)→IsPair g s.heap.objs.size x y→(∀ c o,c≠z→c≠b→c≠i1→c≠i2→s.heap.get? c=some o→g.get? c=some o)→Q (.ref s.heap.objs.size) { s with heap:=g }) :
  wpAny (model prog w) A (Builtin.«zip.__next__» ⟨[.ref z],[]⟩) (λfin s'=>∃ v,fin = .done (.ret v)∧Q v s') E s:=by
 obtain ⟨hz,hti,⟨u,v,hto⟩,n1,n2⟩:=R
 refine wpAny_bind (m:=field (.ref z) 2) (wpAny_field hz rfl (x:=.bool false) rfl ?_)
 refine wpAny_bind (m:=field (.ref z) 3) (wpAny_field hz rfl (x:=.ref a) rfl ?_)
 refine wpAny_bind (m:=seqItems? (.ref a)) (wpAny_seqItems hti rfl ?_)
 refine wpAny_bind (m:=Builtin.SmallTypes.ownedTupleIsFree (.ref z)) ?_
 unfold Builtin.SmallTypes.ownedTupleIsFree
 refine wpAny_bind (wpAny_field hz rfl (x:=.none) rfl (wpAny_pure ?_))
 simp only [if_true]
 refine wpAny_bind (wpAny_rule (wpAny_bind (wpAny_field hz rfl (x:=.ref b) rfl (wpAny_bind (wpAny_setField_rec hz (by simp) λg1 z1 s1=>?_)))))
 have z1':IsZip g1 z a b .ellipsis:=z1
 refine wpAny_bind ?_
 simp only [List.zipIdx_cons,List.zipIdx_nil,List.forIn_cons,List.forIn_nil]
 refine wpAny_bind (wpAny_bind (wpAny_onRaise (wpAny_bind (m:=Builtin.SmallTypes.nextOf (.ref i1)) (eE (n1.extBut s1.extBut D.z1) (h1.extBut s1.extBut D.tz.1) hx λg2 m1 s2=>wpAny_pure ?_))))
 have to2:IsPair g2 b u v:=s2.extBut _ _ D.b1 (s1.extBut _ _ D.bz hto)
 refine wpAny_bind (wpAny_seqItems to2 rfl (wpAny_bind (wpAny_updateSeq_pair to2 λg3 to3 s3=>wpAny_bind (wpAny_letGo (wpAny_pure ?_)))))
 have to3':IsPair g3 b x v:=to3
 refine wpAny_bind (wpAny_bind (wpAny_onRaise (wpAny_bind (m:=Builtin.SmallTypes.nextOf (.ref i2)) (eE (((n2.extBut s1.extBut D.z2).extBut s2.extBut D.d12.symm).extBut s3.extBut D.b2.symm)
  (((h2.extBut s1.extBut D.tz.2).extBut s2.extBut D.t1n.2).extBut s3.extBut D.tb.2) hy λg4 m2 s4=>wpAny_pure ?_))))
 have to4:IsPair g4 b x v:=s4.extBut _ _ D.b2 to3'
 refine wpAny_bind (wpAny_seqItems to4 rfl (wpAny_bind (wpAny_updateSeq_pair to4 λg5 to5 s5=>wpAny_bind (wpAny_letGo (wpAny_pure (wpAny_pure ?_))))))
 have to5':IsPair g5 b x y:=to5
 refine wpAny_bind (wpAny_seqItems to5' rfl (wpAny_bind (wpAny_newTuple ?_)))
 have size5:g5.objs.size=s.heap.objs.size:=by rw [s5.1,s4.1,s3.1,s2.1,s1.1]
 have keep5:∀ c o,c≠z→c≠b→c≠i1→c≠i2→s.heap.get? c=some o→g5.get? c=some o:=λc o c1 c2 c3 c4 e=>s5.extBut _ _ c2 (s4.extBut _ _ c4 (s3.extBut _ _ c2 (s2.extBut _ _ c3 (s1.extBut _ _ c1 e))))
 have z5:IsZip g5 z a b .ellipsis:=s5.extBut _ _ D.bz.symm (s4.extBut _ _ D.z2.symm (s3.extBut _ _ D.bz.symm (s2.extBut _ _ D.z1.symm z1')))
 have m15:g5.IsTupleIter i1 t1 (k+1):=((m1.extBut s3.extBut D.b1.symm).extBut s4.extBut D.d12).extBut s5.extBut D.b1.symm
 have m25:g5.IsTupleIter i2 t2 (k+1):=m2.extBut s5.extBut D.b2.symm
 have ti5:IsPair g5 a (.ref i1) (.ref i2):=keep5 _ _ D.az D.ab D.a1 D.a2 hti
 refine wpAny_bind (m:=Builtin.SmallTypes.ownedTupleHandOut (.ref z) (.ref g5.objs.size)) ?_
 unfold Builtin.SmallTypes.ownedTupleHandOut
 have z6:IsZip (g5.push { cls:=.type "tuple",data:=.seq #[x,y] }) z a b .ellipsis:=Heap.get?_push_of_some _ z5
 refine wpAny_bind (wpAny_setField_rec z6 (by simp) λg7 z7 s7=>?_)
 have z7':IsZip g7 z a b (rawInt g5.objs.size):=z7
 refine wpAny_setField_rec z7' (by simp) λg8 z8 s8=>?_
 have z8':IsZip g8 z a b (rawInt g5.objs.size):=z8
 have up:∀ c o,c≠z→g5.get? c=some o→g8.get? c=some o:=λc o c1 e=>s8.extBut _ _ c1 (s7.extBut _ _ c1 (Heap.get?_push_of_some _ e))
 have nz:g5.objs.size≠z:=Nat.ne_of_gt (Heap.lt_size z5)
 have new8:IsPair g8 g5.objs.size x y:=s8.extBut _ _ nz (s7.extBut _ _ nz (Heap.get?_push_size _ rfl))
 rw [size5] at z8' new8
 refine wpAny_pure ⟨_,rfl,?_⟩
 show Q (.ref g5.objs.size) _
 rw [size5]
 exact q g8 ⟨z8',up _ _ D.az ti5,⟨_,_,up _ _ D.bz to5'⟩,(let ⟨o,e,r⟩:=m15; ⟨o,up _ o D.z1 e,r⟩),(let ⟨o,e,r⟩:=m25; ⟨o,up _ o D.z2 e,r⟩)⟩ new8 λc o c1 c2 c3 c4 e=>up c o c1 (keep5 c o c1 c2 c3 c4 e)
theorem rD {z a b i1 i2 t1 t2:Addr} {k:Nat} {xs ys:Array Value} {Q:PySem.Fin→Shared→Prop} (hh:A.handled=none) (D:Apart z a b i1 i2 t1 t2) (R:Rec s.heap z a b i1 i2 t1 t2 .none k) (h1:s.heap.IsTuple t1 xs) (h2:s.heap.IsTuple t2 ys)
  (hend:xs[k]? = none∨ys[k]? = none)
  (q:∀ g e,(∀ c o,c≠z→c≠b→c≠i1→c≠i2→s.heap.get? c=some o→g.get? c=some o)→(∃ o,g.get? e=some o∧o.cls = .type "StopIteration")→E (.ref e) { s with heap:=g }) :
  wpAny (model prog w) A (Builtin.«zip.__next__» ⟨[.ref z],[]⟩) Q E s:=by
 obtain ⟨hz,hti,⟨u,v,hto⟩,n1,n2⟩:=R
 refine wpAny_bind (m:=field (.ref z) 2) (wpAny_field hz rfl (x:=.bool false) rfl ?_)
 refine wpAny_bind (m:=field (.ref z) 3) (wpAny_field hz rfl (x:=.ref a) rfl ?_)
 refine wpAny_bind (m:=seqItems? (.ref a)) (wpAny_seqItems hti rfl ?_)
 refine wpAny_bind (m:=Builtin.SmallTypes.ownedTupleIsFree (.ref z)) ?_
 unfold Builtin.SmallTypes.ownedTupleIsFree
 refine wpAny_bind (wpAny_field hz rfl (x:=.none) rfl (wpAny_pure ?_))
 simp only [if_true]
 refine wpAny_bind (wpAny_rule (wpAny_bind (wpAny_field hz rfl (x:=.ref b) rfl (wpAny_bind (wpAny_setField_rec hz (by simp) λg1 z1 s1=>?_)))))
 have z1':IsZip g1 z a b .ellipsis:=z1
 refine wpAny_bind ?_
 simp only [List.zipIdx_cons,List.zipIdx_nil,List.forIn_cons,List.forIn_nil]
 refine wpAny_bind (wpAny_bind (wpAny_onRaise ?_))
 refine wpAny_bind (m:=Builtin.SmallTypes.nextOf (.ref i1)) ?_
 cases hx:xs[k]? with
 | none =>
  refine jh hh (n1.extBut s1.extBut D.z1) (h1.extBut s1.extBut D.tz.1) hx λg2 e s2 he=>?_
  obtain ⟨oe,e1,e2⟩:=he
  have z2':IsZip g2 z a b .ellipsis:=s2 _ _ D.z1.symm z1'
  have ne:e≠z:=λc=>by rw [c,z2'] at e1; cases e1; simp at e2
  exact wpAny_setField_rec z2' (by simp) λg3 _ s3=>q g3 e (λc o c1 _ c3 _ h=>s3.extBut _ _ c1 (s2 _ _ c3 (s1.extBut _ _ c1 h))) ⟨oe,s3.extBut _ _ ne e1,e2⟩
 | some x =>
  have hy:ys[k]? = none:=hend.resolve_left (by rw [hx]; simp)
  refine eE (n1.extBut s1.extBut D.z1) (h1.extBut s1.extBut D.tz.1) hx λg2 m1 s2=>wpAny_pure ?_
  have to2:IsPair g2 b u v:=s2.extBut _ _ D.b1 (s1.extBut _ _ D.bz hto)
  refine wpAny_bind (wpAny_seqItems to2 rfl (wpAny_bind (wpAny_updateSeq_pair to2 λg3 to3 s3=>wpAny_bind (wpAny_letGo (wpAny_pure ?_)))))
  refine wpAny_bind (wpAny_bind (wpAny_onRaise (wpAny_bind (m:=Builtin.SmallTypes.nextOf (.ref i2)) (jh hh (((n2.extBut s1.extBut D.z2).extBut s2.extBut D.d12.symm).extBut s3.extBut D.b2.symm)
   (((h2.extBut s1.extBut D.tz.2).extBut s2.extBut D.t1n.2).extBut s3.extBut D.tb.2) hy λg4 e s4 he=>?_))))
  obtain ⟨oe,e1,e2⟩:=he
  have z4':IsZip g4 z a b .ellipsis:=s4 _ _ D.z2.symm (s3.extBut _ _ D.bz.symm (s2.extBut _ _ D.z1.symm z1'))
  have ne:e≠z:=λc=>by rw [c,z4'] at e1; cases e1; simp at e2
  exact wpAny_setField_rec z4' (by simp) λg5 _ s5=>q g5 e (λc o c1 c2 c3 c4 h=>s5.extBut _ _ c1 (s4 _ _ c4 (s3.extBut _ _ c2 (s2.extBut _ _ c3 (s1.extBut _ _ c1 h))))) ⟨oe,s5.extBut _ _ ne e1,e2⟩
theorem nC {z a b i1 i2 t1 t2:Addr} {k:Nat} {xs ys:Array Value} {x y:Value} {Q:Option Value→Shared→Prop} (D:Apart z a b i1 i2 t1 t2) (R:Rec s.heap z a b i1 i2 t1 t2 .none k) (h1:s.heap.IsTuple t1 xs) (h2:s.heap.IsTuple t2 ys)
  (hx:xs[k]? = some x) (hy:ys[k]? = some y)
  (q:∀ g,Rec g z a b i1 i2 t1 t2 (rawInt s.heap.objs.size) (k+1)→IsPair g s.heap.objs.size x y→(∀ c o,c≠z→c≠b→c≠i1→c≠i2→s.heap.get? c=some o→g.get? c=some o)→Q (some (.ref s.heap.objs.size)) { s with heap:=g }) :
  wpAny (model prog w) A (pyNext (.ref z)) Q E s:=by
 have hT:s.TypeIs (.ref z) "zip":=⟨_,R.zz,rfl⟩
 unfold pyNext
 exact wpAny_bind (wpAny_attempt (wpAny_callSpecial?_slot (name:=Str.ofString "__next__") hT F.slot_zip_next (wpAny_call_entry F.slot_zip_next hT F.entry_zip_next (pY D R h1 h2 hx hy λg r n k=>wpAny_pure (q g r n k)) (F.args_zip_next_1 _))))
theorem pZ {z a b i1 i2 t1 t2:Addr} {k:Nat} {xs ys:Array Value} {Q:Option Value→Shared→Prop} (hh:A.handled=none) (D:Apart z a b i1 i2 t1 t2) (R:Rec s.heap z a b i1 i2 t1 t2 .none k) (h1:s.heap.IsTuple t1 xs) (h2:s.heap.IsTuple t2 ys)
  (hend:xs[k]? = none∨ys[k]? = none) (q:∀ g,(∀ c o,c≠z→c≠b→c≠i1→c≠i2→s.heap.get? c=some o→g.get? c=some o)→Q none { s with heap:=g }):wpAny (model prog w) A (pyNext (.ref z)) Q E s:=by
 have hT:s.TypeIs (.ref z) "zip":=⟨_,R.zz,rfl⟩
 unfold pyNext
 refine wpAny_bind (wpAny_attempt (wpAny_callSpecial?_slot (name:=Str.ofString "__next__") hT F.slot_zip_next (wpAny_call_entry F.slot_zip_next hT F.entry_zip_next (rD hh D R h1 h2 hend λg e k he=>?_) (F.args_zip_next_1 _))))
 obtain ⟨o,e1,e2⟩:=he
 exact wpAny_bind (wpAny_isInstance (T:="StopIteration") (b:=true) ⟨o,e1,e2⟩ isSubtype_stop (wpAny_pure (q g k)))
noncomputable def made (h:Heap) (t1 t2:Addr):Heap :=
 ((((h.push { cls:=.type "tuple_iterator",data:=.fields #[.ref t1,.int 0 0] }).push { cls:=.type "tuple_iterator",data:=.fields #[.ref t2,.int 0 0] }).push { cls:=.type "tuple",data:=.seq #[.ref h.objs.size,.ref (h.objs.size+1)] }).push
  { cls:=.type "tuple",data:=.seq #[.none,.none] }).push { cls:=.type "zip",data:=.fields #[.none,.bool false,.bool false,.ref (h.objs.size+2),.ref (h.objs.size+3)] }
theorem uf (t1 t2:Addr) (xs ys:Array Value):Meets (Builtin.«zip.__new__» ⟨[.type "zip",.ref t1,.ref t2],[]⟩) (λ_ R s=>s.heap.IsTuple t1 xs∧s.heap.IsTuple t2 ys∧R (.ok (.ret (.ref (s.heap.objs.size+4)))) { s with heap:=made s.heap t1 t2 }) :=
 .of_wp λprog w A R s h=>by
  obtain ⟨hp,g,d,tk,os⟩:=s
  obtain ⟨k1,k2,h⟩:=h
  have hsub:=sub_zip
  have u1:Heap.IsTuple (Shared.heap ⟨hp,g,d,tk,os⟩) t1 xs:=k1
  have u2:Heap.IsTuple (Shared.heap ⟨hp.push { cls:=.type "tuple_iterator",data:=.fields #[.ref t1,.int 0 0] },g,d,tk,os⟩) t2 ys:=Heap.IsTuple.push k2 _
  wp_walk using wpAny_pyIter_tuple u1,wpAny_pyIter_tuple u2
  refine ⟨_,rfl,?_⟩
  unfold made at h
  simp only [Heap.size_push]
  exact h
theorem rE {t1 t2:Addr} {xs ys:Array Value} {Q:Value→Shared→Prop} (h1:s.heap.IsTuple t1 xs) (h2:s.heap.IsTuple t2 ys)
  (q:Q (.ref (s.heap.objs.size+4)) { s with heap:=made s.heap t1 t2 }):wpAny (model prog w) A (call (.type "zip") [.ref t1,.ref t2]) Q E s:=by
 refine callType_new F.called_zip (by decide) (F.typeCall_zip_2 _ _) (F.newCall_zip_2 _ _) (λobj=>F.args_object_init_3 obj _ _) F.entry_zip_new (uf t1 t2 xs ys) ⟨h1,h2,?_⟩
 have e:(made s.heap t1 t2).get? (s.heap.objs.size+4)=some { cls:=.type "zip",data:=.fields #[.none,.bool false,.bool false,.ref (s.heap.objs.size+2),.ref (s.heap.objs.size+3)] }:=by
  unfold made
  have:=Heap.get?_push_size ((((s.heap.push { cls:=.type "tuple_iterator",data:=.fields #[.ref t1,.int 0 0] }).push { cls:=.type "tuple_iterator",data:=.fields #[.ref t2,.int 0 0] }).push { cls:=.type "tuple",data:=.seq #[.ref s.heap.objs.size,.ref (s.heap.objs.size+1)] }).push { cls:=.type "tuple",data:=.seq #[.none,.none] })
   (o:={ cls:=.type "zip",data:=.fields #[.none,.bool false,.bool false,.ref (s.heap.objs.size+2),.ref (s.heap.objs.size+3)] }) rfl
  simpa only [Heap.size_push] using this
 exact ⟨⟨_,e,rfl⟩,q⟩
end
end ZT
namespace L2
open PySem PySem.Spec PyProof.Rows
section
variable {X:Cx} {tg:Expr}
noncomputable def Itz (K:PySem.W.Frag) (t1 t2:Addr):It :=
 ⟨λi H=>∃ xs ys x y,SqT K H t1 xs∧SqT K H t2 ys∧xs[i]? = some x∧ys[i]? = some y,λi H v H'=>∃ p x y,H p=none∧v = .ref p∧(∀ xs,SqT K H t1 xs→xs[i]? = some x)∧(∀ ys,SqT K H t2 ys→ys[i]? = some y)∧H'=upd H p (.tup [x,y]),
  λi H=>∃ xs ys,SqT K H t1 xs∧SqT K H t2 ys∧(xs.length≤i∨ys.length≤i)⟩
theorem rF {P:Program} {w:World} {K:PySem.W.Frag} {es:List Expr} {k:Nat} {p0:Pos} (z a b i1 i2 t1 t2:Addr) (D:ZT.Apart z a b i1 i2 t1 t2) :
  Turn P w K (.Tuple es k p0) (Itz K t1 t2) [z,a,b,i1,i2] z (λi h=>ZT.Rec h z a b i1 i2 t1 t2 .none i) where
 mem:=by simp
 obj:=λi h R c hc=>by
  obtain ⟨z1,z2,⟨u,v,z3⟩,⟨o4,z4,_,z4'⟩,⟨o5,z5,_,z5'⟩⟩:=R
  simp only [List.mem_cons,List.not_mem_nil,or_false] at hc
  rcases hc with rfl | rfl | rfl | rfl | rfl
  ·exact ⟨_,z1,λv z=>nomatch z⟩
  ·exact ⟨_,z2,λv z=>nomatch z⟩
  ·exact ⟨_,z3,λv z=>nomatch z⟩
  ·exact ⟨_,z4,λv z=>by rw [z4'] at z; cases z⟩
  ·exact ⟨_,z5,λv z=>by rw [z5'] at z; cases z⟩
 keep:=λi h h' R kp=>by
  obtain ⟨z1,z2,⟨u,v,z3⟩,⟨o4,z4,r4⟩,⟨o5,z5,r5⟩⟩:=R
  exact ⟨kp _ (by simp) _ z1,kp _ (by simp) _ z2,⟨u,v,kp _ (by simp) _ z3⟩,⟨o4,kp _ (by simp) _ z4,r4⟩,⟨o5,kp _ (by simp) _ z5,r5⟩⟩
 item:=by
  intro X hP hw hK hc i pins s σ H E I hf st hg
  subst hP hw hK
  obtain ⟨xs,ys,x,y,hq1,hq2,hx,hy⟩:=hg
  obtain ⟨its1,rv1,k1,_⟩:=I.tuple hq1
  obtain ⟨its2,rv2,k2,_⟩:=I.tuple hq2
  obtain ⟨u1,hu1,ru1⟩:=rv1.get hx
  obtain ⟨u2,hu2,ru2⟩:=rv2.get hy
  refine ZT.nC D st k1 k2 (x:=u1) (y:=u2) (by simpa using hu1) (by simpa using hu2) λg R' new kp=>⟨_,rfl,?_⟩
  refine wpAny_letOwnedTupleGo_zip R'.zz λg' z' sb=>?_
  have nz:s.heap.objs.size≠z:=Nat.ne_of_gt (Heap.lt_size st.zz)
  have kp':∀ c o,c≠z→c≠b→c≠i1→c≠i2→s.heap.get? c=some o→g'.get? c=some o:=λc o c1 c2 c3 c4 e=>(sb.2 c c1).trans (kp c o c1 c2 c3 c4 e)
  have kpO:∀ c o,c∉[z,a,b,i1,i2]→s.heap.get? c=some o→g'.get? c=some o:=λc o hn e=>kp' c o (λq=>hn (by simp [q])) (λq=>hn (by simp [q])) (λq=>hn (by simp [q])) (λq=>hn (by simp [q])) e
  have hnot:∀ c o,H c=some o→c∉[z,a,b,i1,i2]:=λc o e hm=>by rw [(hf c hm).1] at e; cases e
  have nsz:∀ c o,s.heap.get? c=some o→c≠s.heap.objs.size:=λc o e=>Nat.ne_of_lt (Heap.lt_size e)
  have trk:∀ c o,H c=some o→c≠s.heap.objs.size:=λc o e=>Nat.ne_of_lt (I.hok.lt e)
  have new':g'.get? s.heap.objs.size=some { cls:=.type "tuple",data:=.seq #[u1,u2] }:=(sb.2 _ nz).trans new
  have R2:ZT.Rec g' z a b i1 i2 t1 t2 .none (i+1):=by
   obtain ⟨_,z2,⟨u,v,z3⟩,⟨o4,z4,r4⟩,⟨o5,z5,r5⟩⟩:=R'
   exact ⟨z',(sb.2 _ D.az).trans z2,⟨u,v,(sb.2 _ D.bz).trans z3⟩,⟨o4,(sb.2 _ D.z1).trans z4,r4⟩,⟨o5,(sb.2 _ D.z2).trans z5,r5⟩⟩
  have okH:HOk X.prog X.w (upd H s.heap.objs.size (.tup [x,y])) g':=λc o e=>by
   by_cases ec:c=s.heap.objs.size
   ·subst ec
    rw [ac] at e
    cases e
    exact ⟨by show 2≤sizeLine; rw [sizeLine_eq]; decide,[u1,u2],.cons ru1 (.cons ru2 .nil),⟨_,new',rfl,0,rfl⟩⟩
   ·rw [ag ec] at e
    refine (I.hok c o e).stay (λd v hd q=>kpO d v ?_ q) (λd q=>by rw [ag (trk d _ q)]; exact q) λd zs q=>by rw [ag (trk d _ q)]; exact q
    rcases hd with rfl | hd
    ·exact hnot _ _ e
    ·exact hnot _ _ hd
  have I2:Inv X pins σ (upd H s.heap.objs.size (.tup [x,y])) { s with heap:=g' }:=by
   refine I.step (g':=s.gens) (t':=s.toks) (d':=s.drawn) (ch:=[z,a,b,i1,i2]) (λc hc'=>?_) (λc o _ _ hn e _=>kpO c o hn e) (λc o _ _ hn e _=>⟨o.slots,kpO c o hn e⟩) (λc o _ e n=>by rw [ag (nsz c o e)]; exact n) (λc o hn e=>⟨o,kpO c o hn e⟩)
    (λc zs q=>by rw [ag (trk c _ q)]; exact q) (λc o u q=>by rw [ag (trk c _ q)]; exact q) (λc ps q=>⟨#[],by rw [ag (trk c _ q),q]; simp⟩) (λm hm=>?_) okH I.bare
   ·obtain ⟨f0,f1,f2,f3,f4,f5⟩:=hf c hc'
    exact ⟨f3,f1,f4,f5⟩
   ·obtain ⟨o,es',ep,ho,r⟩:=hm
    exact ⟨o,es',ep,kpO _ o (λhm'=>(hf _ hm').2.1 rfl) ho,r⟩
  refine ⟨.ref s.heap.objs.size,_,I2,rfl,⟨s.heap.objs.size,x,y,I.hok.fresh (Nat.le_refl _),rfl,λzs hz=>?_,λzs hz=>?_,rfl⟩,R2,λc hc'=>?_⟩
  ·rw [I.tuple_inj hz hq1]; exact hx
  ·rw [I.tuple_inj hz hq2]; exact hy
  ·obtain ⟨o,e,_⟩:∃ o,s.heap.get? c=some o∧True:=by
    obtain ⟨z1,z2,⟨u,v,z3⟩,⟨o4,z4,_⟩,⟨o5,z5,_⟩⟩:=st
    simp only [List.mem_cons,List.not_mem_nil,or_false] at hc'
    rcases hc' with rfl | rfl | rfl | rfl | rfl
    ·exact ⟨_,z1,trivial⟩
    ·exact ⟨_,z2,trivial⟩
    ·exact ⟨_,z3,trivial⟩
    ·exact ⟨_,z4,trivial⟩
    ·exact ⟨_,z5,trivial⟩
   rw [ag (nsz c o e)]
   exact (hf c hc').1
 done:=by
  intro X hP hw hK hc i pins s σ H E I hf st hg
  subst hP hw hK
  obtain ⟨xs,ys,hq1,hq2,hle⟩:=hg
  obtain ⟨its1,rv1,k1,_⟩:=I.tuple hq1
  obtain ⟨its2,rv2,k2,_⟩:=I.tuple hq2
  have e1:=rv1.length
  have e2:=rv2.length
  refine ZT.pZ (I.ok.hd hc) D st k1 k2 (by rcases hle with h | h; left; simp; omega; right; simp; omega) λg kp=>⟨rfl,?_⟩
  have kpO:∀ c o,c∉[z,a,b,i1,i2]→s.heap.get? c=some o→g.get? c=some o:=λc o hn e=>kp c o (λq=>hn (by simp [q])) (λq=>hn (by simp [q])) (λq=>hn (by simp [q])) (λq=>hn (by simp [q])) e
  have hnot:∀ c o,H c=some o→c∉[z,a,b,i1,i2]:=λc o e hm=>by rw [(hf c hm).1] at e; cases e
  refine I.step (g':=s.gens) (t':=s.toks) (d':=s.drawn) (ch:=[z,a,b,i1,i2]) (λc hc'=>?_) (λc o _ _ hn e _=>kpO c o hn e) (λc o _ _ hn e _=>⟨o.slots,kpO c o hn e⟩) (λc o _ e n=>n) (λc o hn e=>⟨o,kpO c o hn e⟩)
   (λc zs q=>q) (λc o u q=>q) (λc ps q=>⟨#[],by rw [q]; simp⟩) (λm hm=>?_) (λc o e=>?_) I.bare
  ·obtain ⟨f0,f1,f2,f3,f4,f5⟩:=hf c hc'
   exact ⟨f3,f1,f4,f5⟩
  ·obtain ⟨o,es',ep,ho,r⟩:=hm
   exact ⟨o,es',ep,kpO _ o (λhm'=>(hf _ hm').2.1 rfl) ho,r⟩
  ·refine (I.hok c o e).stay (λd v hd q=>kpO d v ?_ q) (λd q=>q) λd zs q=>q
   rcases hd with rfl | hd
   ·exact hnot _ _ e
   ·exact hnot _ _ hd
 self:=λA i s Q E st hq=>wpAny_pyIter_zip st.zz hq
theorem wq {es:List Expr} {k:Nat} {p0:Pos} {a b:Expr} {ta:TA} {p pos:Pos} (hg:Gl X "zip") (hm:X.mg "zip" = none) (ha:PA X [a,b] ta) (hs:starEach [a,b] X.env=[(false,eval a X.env),(false,eval b X.env)]:=by rfl) (hs2:starEach [b] X.env=[(false,eval b X.env)]:=by rfl) :
  PI X (.Tuple es k p0) (.Call (.Name "zip" p) [a,b] [] pos) (λσ H R=>ta σ H λvs H1=>∃ t1 t2 xs ys,vs=[.ref t1,.ref t2]∧H1 t1=some (.tup xs)∧H1 t2=some (.tup ys)∧R (Itz X.K t1 t2) H1):=by
 intro pins s σ H R I h
 refine Call_ (dz I hg hm boot_zip (PyProof.Rows.callWith_type1 (thn (ha pos pins s σ H _ I h) λus s1 ⟨vs,H1,I1,r1,q1⟩=>?_) (by rw [hs,hs2]) (by rw [hs2]; rfl)))
 obtain ⟨t1,t2,xs,ys,e,ht1,ht2,q⟩:=q1
 subst e
 obtain ⟨u1,u2,rfl,ru1,ru2⟩:=om r1
 cases ru1
 cases ru2
 obtain ⟨its1,rv1,k1,hz1⟩:=I1.tuple (SqT.of ht1)
 obtain ⟨its2,rv2,k2,hz2⟩:=I1.tuple (SqT.of ht2)
 refine ZT.rE k1 k2 ?_
 generalize hn:s1.heap.objs.size=n
 have keep:∀ c o,s1.heap.get? c=some o→(ZT.made s1.heap t1 t2).get? c=some o:=λc o e=>by
  unfold ZT.made
  exact Heap.get?_push_of_some _ (Heap.get?_push_of_some _ (Heap.get?_push_of_some _ (Heap.get?_push_of_some _ (Heap.get?_push_of_some _ e))))
 have rec0:ZT.Rec (ZT.made s1.heap t1 t2) (n+4) (n+2) (n+3) n (n+1) t1 t2 .none 0:=by
  subst hn
  unfold ZT.made
  refine ⟨?_,?_,⟨.none,.none,?_⟩,⟨{ cls:=.type "tuple_iterator",data:=.fields #[.ref t1,.int 0 0] },?_,rfl,rfl⟩,⟨{ cls:=.type "tuple_iterator",data:=.fields #[.ref t2,.int 0 0] },?_,rfl,rfl⟩⟩
  ·have:=Heap.get?_push_size ((((s1.heap.push { cls:=.type "tuple_iterator",data:=.fields #[.ref t1,.int 0 0] }).push { cls:=.type "tuple_iterator",data:=.fields #[.ref t2,.int 0 0] }).push { cls:=.type "tuple",data:=.seq #[.ref s1.heap.objs.size,.ref (s1.heap.objs.size+1)] }).push { cls:=.type "tuple",data:=.seq #[.none,.none] })
    (o:={ cls:=.type "zip",data:=.fields #[.none,.bool false,.bool false,.ref (s1.heap.objs.size+2),.ref (s1.heap.objs.size+3)] }) rfl
   simpa only [Heap.size_push] using this
  ·refine Heap.get?_push_of_some _ (Heap.get?_push_of_some _ ?_)
   have:=Heap.get?_push_size ((s1.heap.push { cls:=.type "tuple_iterator",data:=.fields #[.ref t1,.int 0 0] }).push { cls:=.type "tuple_iterator",data:=.fields #[.ref t2,.int 0 0] }) (o:={ cls:=.type "tuple",data:=.seq #[.ref s1.heap.objs.size,.ref (s1.heap.objs.size+1)] }) rfl
   simpa only [Heap.size_push] using this
  ·refine Heap.get?_push_of_some _ ?_
   have:=Heap.get?_push_size (((s1.heap.push { cls:=.type "tuple_iterator",data:=.fields #[.ref t1,.int 0 0] }).push { cls:=.type "tuple_iterator",data:=.fields #[.ref t2,.int 0 0] }).push { cls:=.type "tuple",data:=.seq #[.ref s1.heap.objs.size,.ref (s1.heap.objs.size+1)] }) (o:={ cls:=.type "tuple",data:=.seq #[.none,.none] }) rfl
   simpa only [Heap.size_push] using this
  ·exact Heap.get?_push_of_some _ (Heap.get?_push_of_some _ (Heap.get?_push_of_some _ (Heap.get?_push_of_some _ (Heap.get?_push_size _ rfl))))
  ·refine Heap.get?_push_of_some _ (Heap.get?_push_of_some _ (Heap.get?_push_of_some _ ?_))
   have:=Heap.get?_push_size (s1.heap.push { cls:=.type "tuple_iterator",data:=.fields #[.ref t1,.int 0 0] }) (o:={ cls:=.type "tuple_iterator",data:=.fields #[.ref t2,.int 0 0] }) rfl
   simpa only [Heap.size_push] using this
 have l1:t1<n:=by rw [← hn]; exact I1.hok.lt ht1
 have l2:t2<n:=by rw [← hn]; exact I1.hok.lt ht2
 have D:=ZT.rC n t1 t2 l1 l2
 refine wpAny_pyIter_zip rec0.zz ?_
 refine ⟨n+4,[n+4,n+2,n+3,n,n+1],_,Itz X.K t1 t2,H1,rfl,I1.kept (t':=s1.toks) keep,rF _ _ _ _ _ _ _ D,rec0,λc hc=>?_,q⟩
 have hle:s1.heap.objs.size≤c:=by
  rw [hn]
  simp only [List.mem_cons,List.not_mem_nil,or_false] at hc
  rcases hc with rfl | rfl | rfl | rfl | rfl
  ·exact Nat.le_add_right _ _
  ·exact Nat.le_add_right _ _
  ·exact Nat.le_add_right _ _
  ·exact Nat.le_refl _
  ·exact Nat.le_add_right _ _
 exact I1.fpOk hle (I1.hok.fresh hle)
end
section
variable {X:Cx}
noncomputable abbrev iM:=Addr×Int×List V
noncomputable def numAt (zs:List iM) (i:Nat):Int:=(zs.getD i (0,0,[])).2.1
theorem rG {zs:List iM} (h:(zs.map (·.2.1)).Nodup):SRT.Ord (λi j=>decide (numAt zs i<numAt zs j)) zs.length:=by
 refine ⟨λi _=>by simp,λi j k _ _ _ h1 h2=>?_,λi j hi hj hij=>?_⟩
 ·simp only [decide_eq_true_eq] at *; omega
 ·simp only [decide_eq_true_eq]
  have:numAt zs i≠numAt zs j:=by
   unfold numAt
   rw [List.getD_eq_getElem?_getD,List.getD_eq_getElem?_getD,List.getElem?_eq_getElem hi,List.getElem?_eq_getElem hj]
   intro e
   have e':(zs.map (·.2.1))[i]'(by simpa using hi)=(zs.map (·.2.1))[j]'(by simpa using hj):=by simpa using e
   exact hij ((List.getElem_inj h).mp e')
  omega
theorem lJ {prog:Program} {w:World} {A:Around} {s:Shared} {b:Bool} {Q:Bool→Shared→Prop} (h:Q false s):∀ (l:List Value) (i:Nat),PySem.W.KatLex prog w A b false Q (l.zip l) i s
 | [],i=>h
 | v :: l,i=>PySem.W.kat_cons (SeqAt.EqAt.same v prog w _ _ (PySem.W.kat_yes (lJ h l (i+1))))
theorem eZ:bG X (.builtin "sorted") (λxs H Q=>∃ l,∃ zs:List iM,xs=[.ref l]∧(SqL X.K H l ((zs.map (·.1)).map V.ref)∨SqT X.K H l ((zs.map (·.1)).map V.ref))∧(∀ z∈zs,H z.1=some (.tup (.int z.2.1 :: z.2.2)))∧(zs.map (·.2.1)).Nodup∧zs.length<64 ∧
  ∀ zs':List iM,zs'.Perm zs→zs'.Pairwise (λa b=>a.2.1<b.2.1)→∀ p,H p=none→Q (.ref p) (upd H p (.lst ((zs'.map (·.1)).map V.ref)))):=by
 intro pins s σ H xs us Q I r h
 obtain ⟨l,zs,rfl,hq,hk,hnd,h64,q⟩:=h
 obtain ⟨u,rfl,ru⟩:=cy r
 cases ru
 obtain ⟨its,rv,pl⟩:∃ its,au ((zs.map (·.1)).map V.ref) its∧(s.heap.IsList l its.toArray∨IsTup s.heap l its.toArray):=by
  rcases hq with hq | hq
  ·obtain ⟨its,rv,pl,hz⟩:=I.list hq
   exact ⟨its,rv,.inl pl.isList⟩
  ·obtain ⟨its,rv,pl,hz⟩:=I.tuple hq
   exact ⟨its,rv,.inr pl⟩
 have e:=cS rv
 subst e
 have hlen:((zs.map (·.1)).map Value.ref).length=zs.length:=by simp
 have hobj:∀ z∈zs,∃ o its n t,s.heap.get? z.1=some o∧o.cls = .type "tuple"∧o.data = .seq its n∧its.toList = .int z.2.1 t :: its.toList.drop 1:=λz hz'=>by
  obtain ⟨_,its,rr,o,e1,e2,n,e3⟩:=I.hok z.1 _ (hk z hz')
  cases rr with
  | cons r1 r2 =>
   obtain ⟨t,rfl⟩:=r1
   exact ⟨o,_,n,t,e1,e2,e3,by simp⟩
 have hget:∀ i,i<zs.length→((zs.map (·.1)).map Value.ref).getD i Value.none = .ref (zs.getD i (0,0,[])).1∧zs.getD i (0,0,[])∈zs:=λi hi=>by
  rw [List.getD_eq_getElem?_getD,List.getD_eq_getElem?_getD,List.getElem?_map,List.getElem?_map,List.getElem?_eq_getElem hi]
  exact ⟨rfl,List.getElem_mem hi⟩
 refine SRT.ic (κ:=tuples' true) (f:=λi j=>decide (numAt zs i<numAt zs j)) (by rw [hlen]; exact rG hnd) pl (by rw [hlen]; exact h64) ?kind ?less ?fin
 case kind =>
  intro A' s' _ kp Q' h2 hQ'
  have key:∀ ys:List iM,(∀ z∈ys,z∈zs)→∃ fs:List Value,PySem.W.KatTups s'.heap ((ys.map (·.1)).map Value.ref) fs∧fs.length=ys.length∧∀ v∈fs,∃ i t,v=Value.int i t:=by
   intro ys
   induction ys with
   | nil=>intro _; exact ⟨[],PySem.W.KatTups.nil,rfl,λv hv=>by simp at hv⟩
   | cons z ys ih =>
    intro hm
    obtain ⟨fs,h1,h2',h3⟩:=ih λy hy=>hm y (by simp [hy])
    obtain ⟨o,its,n,t,e1,e2,e3,e4⟩:=hobj z (hm z (by simp))
    refine ⟨.int z.2.1 t :: fs,PySem.W.KatTups.cons (kp _ _ e1) e2 e3 ?_ h1,by simp [h2'],λv hv=>?_⟩
    ·rw [← Array.getElem?_toList,e4]; rfl
    ·rcases List.mem_cons.mp hv with rfl | hv
     ·exact ⟨_,_,rfl⟩
     ·exact h3 v hv
  obtain ⟨fs,h1,h2',h3⟩:=key zs λz hz'=>hz'
  refine PySem.W.kat_kind (T:=.type "int") h1 (by rw [h2']; rw [hlen] at h2; omega) (λv hv=>?_) (by rfl) hQ'
  obtain ⟨i,t,rfl⟩:=h3 v hv
  exact .now
 case less =>
  intro A' s' _ kp i j C hi hj hC
  rw [hlen] at hi hj
  obtain ⟨gi,mi⟩:=hget i hi
  obtain ⟨gj,mj⟩:=hget j hj
  rw [gi,gj]
  obtain ⟨oi,ii,ni,ti,a1,a2,a3,a4⟩:=hobj _ mi
  obtain ⟨oj,ij,nj,tj,b1,b2,b3,b4⟩:=hobj _ mj
  refine PySem.W.kat_lt (kp _ _ a1) a3 (kp _ _ b1) b3 ?_
  by_cases hij:i=j
  ·subst hij
   rw [a1] at b1
   cases b1
   rw [a3] at b3
   cases b3
   have:C false s':=by simpa using hC
   have e2:decide (ii.size<ii.size)=false:=by simp
   rw [e2]
   exact lJ this _ _
  ·have hne:numAt zs i≠numAt zs j:=by
    rcases (rG hnd).tot i j hi hj hij with h1 | h1 <;> simp only [decide_eq_true_eq] at h1 <;> omega
   rw [a4,b4]
   refine PySem.W.kat_cons (wpAny_eqBool_int ?_)
   have e2:((zs.getD i (0,0,[])).2.1 == (zs.getD j (0,0,[])).2.1)=false:=beq_eq_false_iff_ne.mpr hne
   rw [e2]
   refine PySem.W.kat_no ?_
   exact PySem.W.kat_lt_int hC
 case fin =>
  intro p h' hrow hup kp _ hg
  obtain ⟨c,hg⟩:=hg
  rw [hlen] at hrow hup
  obtain ⟨zs',hzs'⟩:∃ zs',zs'=p.toList.map λi=>zs.getD i (0,0,[]):=⟨_,rfl⟩
  have hperm:zs'.Perm zs:=by
   rw [hzs']
   refine (hrow.perm.map _).trans ?_
   have:(List.range zs.length).map (λi=>zs.getD i (0,0,[]))=zs:=by
    apply List.ext_getElem?
    intro i
    rw [List.getElem?_map]
    by_cases hi:i<zs.length
    ·rw [List.getElem?_range hi,List.getElem?_eq_getElem hi]
     show some (zs.getD i (0,0,[]))=_
     rw [List.getD_eq_getElem?_getD,List.getElem?_eq_getElem hi]; rfl
    ·rw [List.getElem?_eq_none (by rw [List.length_range]; omega),List.getElem?_eq_none (by omega)]; rfl
   rw [this]
  have hpl:p.size=zs.length:=hrow.size
  have hpw:zs'.Pairwise (λa b=>a.2.1<b.2.1):=by
   rw [List.pairwise_iff_getElem]
   intro i j hi hj hij
   have hi':i<p.size:=by rw [hzs',List.length_map,Array.length_toList] at hi; exact hi
   have hj':j<p.size:=by rw [hzs',List.length_map,Array.length_toList] at hj; exact hj
   have:=hup i j hij (by omega)
   simp only [decide_eq_true_eq,numAt] at this
   rw [Array.getD_eq_getD_getElem?,Array.getD_eq_getD_getElem?,Array.getElem?_eq_getElem hi',Array.getElem?_eq_getElem hj'] at this
   simpa [hzs'] using this
  have hout:(List.toArray (p.toList.map λi=>((zs.map (·.1)).map Value.ref).getD i Value.none))=((zs'.map (·.1)).map Value.ref).toArray:=by
   congr 1
   rw [hzs']
   simp only [List.map_map]
   apply List.map_congr_left
   intro i hi
   have hi':i<zs.length:=List.mem_range.mp (hrow.perm.mem_iff.mp hi)
   have:=(hget i hi').1
   simp only [List.map_map] at this
   exact this
  rw [hout] at hg
  have hv:au ((zs'.map (·.1)).map V.ref) ((zs'.map (·.1)).map Value.ref):=by
   generalize zs'.map (·.1)=as
   induction as with
   | nil=>exact .nil
   | cons a as ih=>exact .cons rfl ih
  refine ⟨.ref (s.heap.objs.size+1),_,I.laid (t':=s.toks) (o:=.lst ((zs'.map (·.1)).map V.ref)) kp (Nat.le_succ _) ⟨?_,_,c,hv,hg⟩,rfl,q zs' hperm hpw _ (I.hok.fresh (Nat.le_succ _))⟩
  rw [List.length_map,List.length_map,hperm.length_eq,sizeLine_eq]; omega
theorem fz:bG X (.builtin "sorted") (λxs H Q=>∃ l,∃ zs:List iM,xs=[.ref l]∧SqL X.K H l ((zs.map (·.1)).map V.ref)∧(∀ z∈zs,H z.1=some (.tup (.int z.2.1 :: z.2.2)))∧(zs.map (·.2.1)).Nodup∧zs.length<64 ∧
  ∀ zs':List iM,zs'.Perm zs→zs'.Pairwise (λa b=>a.2.1<b.2.1)→∀ p,H p=none→Q (.ref p) (upd H p (.lst ((zs'.map (·.1)).map V.ref)))) :=
 λpins s σ H xs us Q I r ⟨l,zs,e,hq,h⟩=>eZ pins s σ H xs us Q I r ⟨l,zs,e,.inl hq,h⟩
end
theorem jK {scope:Scope} {env:Env} (h:∀ y∈scope.names,y.2 ≠ .free):relabel scope env=scope:=by
 unfold relabel
 rw [map_eq_self (l:=scope.names) (λx hx=>by
  obtain ⟨n,k⟩:=x
  have:(k == NameKind.free)=false:=by simpa using h _ hx
  simp [this])]
theorem cM {X:Cx} {scope:Scope} (hk:scope.kind = .function) (hf:∀ y∈scope.names,y.2 ≠ .free) (hc:∀ y∈scope.names,y.2 ≠ .cell) (hn:∀ x∈scope.names,x.2 = .local→scope.names.lookup x.1=some .local):LcOk X scope [] :=
 ⟨hk,closureFor_none hf,hn,hc,λx c h=>by simp at h,λx h=>by
  rw [jK hf] at h
  rcases h with h | h
  ·exact absurd rfl (hc _ (PySem.mem_of_lookup h))
  ·exact absurd rfl (hf _ (PySem.mem_of_lookup h))⟩
theorem ji {k:Nat} {js:List Nat} {J:It} {g:TG} {te:TE} {σ:St} {H1:Hp} {Q:VK} {p:Addr} (n:Nat) (hn:n≤1000) (Pv:Nat→List V→St→Hp→Prop) (h0:Pv 0 [] (cu k js σ) (upd H1 p (.lst [])))
  (hy:∀ i ys σ' H',Pv i ys σ' H'→ys.length≤i) (go:∀ i ys σ' H',i<n→Pv i ys σ' H'→J.go i H') (stop:∀ ys σ' H',Pv n ys σ' H'→J.stop n H'∧Q (.ref p) H')
  (step:∀ i ys σ' H',i<n→Pv i ys σ' H'→∀ x H2,J.yld i H' x H2→g x σ' H2 λσ2 H3=>te σ2 H3 λy H4=>H4 p=some (.lst ys)∧Pv (i+1) (ys++[y]) σ2 (upd H4 p (.lst (ys++[y]))))
  (mg:∀ x σ H (Q Q':St→Hp→Prop),(∀ σ H,Q σ H→Q' σ H)→g x σ H Q→g x σ H Q') (me:∀ σ H (Q Q':VK),(∀ y H,Q y H→Q' y H)→te σ H Q→te σ H Q') :
  LcW k js g te σ Q J H1 p:=by
 refine ⟨λi m ys σ' H'=>m=n - i∧i≤n∧Pv i ys σ' H',⟨n,by simp,Nat.zero_le _,h0⟩,?_⟩
 rintro i m ys σ' H' ⟨rfl,hi,hp⟩
 by_cases hlt:i<n
 ·refine .inr ⟨go i ys σ' H' hlt hp,?_,λx H2 y=>?_⟩
  ·have:=hy i ys σ' H' hp
   exact Nat.lt_of_le_of_lt this (aQ (by omega))
  ·refine mg _ _ _ _ _ (λσ2 H3 h3=>me _ _ _ _ (λz H4 h4=>⟨h4.1,n - (i+1),by omega,rfl,hlt,h4.2⟩) h3) (step i ys σ' H' hlt hp x H2 y)
 ·have e:i=n:=by omega
  subst e
  exact .inl (stop ys σ' H' hp)
theorem af {H:Hp} {p:Addr} {o:HO} (h:H p=none):Same H (upd H p o):=λb u e=>by rw [ag (aw e h)]; exact e
theorem bt {H:Hp} {p a:Addr} {o u:HO} (h:H p=none) (e:H a=some u):upd H p o a=some u:=by rw [ag (aw e h)]; exact e
theorem ay {H0 H:Hp} {p:Addr} {o:HO} (h0:H0 p=none) (s:Same H0 H):Same H0 (upd H p o):=λb u e=>by
 rw [ag (aw e h0)]
 exact s b u e
structure Fly (P:Program) (w:World) (outer:List Env) (H:Hp) (s:Shared) (H':Hp) (ea C:Addr) (s':Shared):Prop where
 os:s'.os=s.os
 bare:AllBare s'.gens
 un:Un (frs outer) [] H H' s.heap s'.heap
 new:H' ea=none
 fly:∃ B a0,Heap.FlyingW B outer ea (.ref C) a0 s'.heap∧HOk P w H' B∧(∀ b o,s.heap.get? b=some o→H b=none→b∉frs outer→B.get? b=some o) ∧
  ∀ b o,s.heap.get? b=some o→b∉frs outer→∃ o',B.get? b=some o'
noncomputable def CX1 (P:Program) (w:World):CXT:=λouter H s E e s'=>∃ ea C H',e = .ref ea∧Fly P w outer H s H' ea C s'∧E (.ref C) none H'
theorem ba.ex {P:Program} {w:World} {H:Hp} {h:Heap} {a:Addr} {o:HO} (x:ba P w H h a o):∃ ob,h.get? a=some ob:=by
 cases o with
 | lst xs=>obtain ⟨_,_,_,_,e⟩:=x; exact ⟨_,e⟩
 | tup xs=>obtain ⟨_,_,_,ob,e,_⟩:=x; exact ⟨ob,e⟩
 | dK kvs=>obtain ⟨_,_,_,_,o,_,_,e,_⟩:=x; exact ⟨_,e⟩
 | dT kvs=>obtain ⟨_,_,_,_,o,_,_,e,_⟩:=x; exact ⟨_,e⟩
 | set S n=>obtain ⟨o,_,_,_,e,_⟩:=x; exact ⟨_,e⟩
 | ins C dx fs=>obtain ⟨_,_,_,e,_⟩:=x; exact ⟨_,e⟩
 | own y=>obtain ⟨_,e⟩:=x; exact ⟨_,e⟩
 | xd fs=>obtain ⟨_,⟨_,_,_,e,_⟩,_⟩:=x; exact ⟨_,e⟩
 | rng lo hi=>obtain ⟨_,_,_,e⟩:=x; exact ⟨_,e⟩
 | frz ob u=>obtain ⟨e,_⟩:=x; exact ⟨_,e⟩
 | tbl ps=>exact ⟨_,(show h.get? a=some _ from x)⟩
 | met f y=>exact ⟨_,(show h.get? a=some _ from x)⟩
 | ext φ=>obtain ⟨_,⟨_,e⟩,_⟩:=x; exact ⟨_,e⟩
theorem rH {P:Program} {w:World} {H:Hp} {h:Heap} {l:List Addr} (x:HOk P w H h) (hl:∀ b∈l,H b=none):HOk P w H (PySem.W.hideAll h l):=λa o e =>
 (x a o e).stay (λb u hb q=>PySem.W.hideAll_get l q λz=>by
  have:=hl b z
  rcases hb with hb | hb
  ·rw [hb,e] at this; cases this
  ·rw [hb] at this; cases this) (λ_ q=>q) λ_ _ q=>q
section
variable {P:Program} {w:World} {l:List Env} {H H':Hp} {h1 h2 h3 B:Heap} {ea:Addr} {cls a0:Value}
theorem lK (un:Un (frs l) [] H H' h1 h2) (fl:Heap.FlyingW B l ea cls a0 h2) (hB:HOk P w H' B) (kp:∀ b o,h1.get? b=some o→H b=none→b∉frs l→B.get? b=some o) (th:∀ b o,h1.get? b=some o→b∉frs l→∃ o',B.get? b=some o')
  (st:B.StaysIn h3) (hs:h2.UpToSlots h3):Un (frs l) [] H H' h1 h3∧HOk P w H' h3:=by
 refine ⟨⟨λb o e n hb _=>st b o (kp b o e n hb),λb o e n hb hx=>?_,un.free,λb o e _=>?_,un.tups,un.frzs,un.tbls⟩,hB.kept st⟩
 ·obtain ⟨sl,q⟩:=un.slot b o e n hb hx
  obtain ⟨_,o',ho',hd⟩:=fl.2.2.1.mem hb
  rw [q] at ho'
  cases ho'
  obtain ⟨sl',q'⟩:=hs b _ q hd
  exact ⟨sl',q'⟩
 ·by_cases hb:b∈frs l
  ·obtain ⟨_,o',ho',hd⟩:=fl.2.2.1.mem hb
   obtain ⟨sl',q'⟩:=hs b _ ho' hd
   exact ⟨_,q'⟩
  ·obtain ⟨o',q⟩:=th b o e hb
   exact ⟨o',st b o' q⟩
end
section
variable {X:Cx} {pins:List (Addr×Obj)} {σ:St} {H H':Hp} {s s':Shared} {ea C:Addr} {E:XK}
theorem Inv.fly_up (I:Inv X pins σ H s) (hex:X.ex=[]) (J:Inv X pins σ H' s') (new:H' ea=none) {B:Heap} {a0:Value} (fl:Heap.FlyingW B X.outer ea (.ref C) a0 s'.heap) (hB:HOk X.prog X.w H' B)
  (kp:∀ b o,s.heap.get? b=some o→H b=none→b∉frs X.stack→B.get? b=some o) (th:∀ b o,s.heap.get? b=some o→b∉frs X.stack→∃ o',B.get? b=some o'):Fly X.prog X.w X.outer X.H₀ X.s₀ H' ea C s':=by
 have ub:=I.base
 rw [hex] at ub
 have uj:=J.base
 rw [hex] at uj
 have ne:∀ b o,X.s₀.heap.get? b=some o→b∉frs X.outer→b∉frs X.stack:=λb o e n hb=>by
  rcases List.mem_cons.mp (I.stkSub b hb) with z | z
  ·have:=Heap.lt_size e
   rw [z] at this
   exact absurd (Nat.lt_of_lt_of_le this I.ok.above) (Nat.lt_irrefl _)
  ·exact n z
 refine ⟨J.os,J.bare,uj,new,B,a0,fl,hB,λb o e n hb=>?_,λb o e hb=>?_⟩
 ·exact kp b o (ub.keep b o e n hb (by simp)) (ub.free b o e n (by simp)) (ne b o e hb)
 ·obtain ⟨o',q⟩:=ub.there b o e (by simp)
  exact th b o' q (ne b o e hb)
structure Lv (X:Cx) (E:XK):Prop where
 ex:X.ex=[]
 stk:X.stack=X.env :: X.outer
 fr:X.env.frame=some X.env.locals
 xe:X.xe=λe s'=>wpAny (model X.prog X.w) X.A (leaving X.env e) (λ_ s''=>CX1 X.prog X.w X.outer X.H₀ X.s₀ E e s'') (λe' s''=>CX1 X.prog X.w X.outer X.H₀ X.s₀ E e' s'') s'
theorem cT {P:Program} {w:World} {K:PySem.W.Frag} {mg:Str→Option Value} {base:Heap} {N:List Str} {qual:Str} {scope:Scope} {f:Addr} {cd:Value} {A:Around} {outer:List Env} {s:Shared} {H:Hp} {E:XK} :
  Lv (iF (CX1 P w) P w K mg base N qual scope f cd A outer s H E) E:=⟨rfl,rfl,rfl,rfl⟩
theorem jj (L:Lv X E):gU (CX1 X.prog X.w) X E:=by
 intro pins σ H s e s' I h
 obtain ⟨ea,C,H',rfl,F,hE⟩:=h
 rw [L.xe]
 obtain ⟨B,a0,fl,hB,kp,th⟩:=id F.fly
 have fl':=fl
 rw [L.stk] at fl'
 refine wpAny_leaves_onW (by rw [I.ok.frames,L.stk]) L.fr fl' λh' fl2 hs=>?_
 obtain ⟨u,ok⟩:=lK F.un fl hB kp th fl2.1 hs
 have J:Inv X pins σ H' { s' with heap:=h' }:=I.call' (s':={ s' with heap:=h' }) F.os u ok F.bare λb z=>absurd z (by simp)
 exact ⟨ea,C,H',rfl,I.fly_up L.ex J F.new fl2 hB kp th,hE⟩
theorem Inv.ground (I:Inv X pins σ H s):(PySem.W.hideAll s.heap (frs X.stack)).StaysIn s.heap∧s.heap.FunFrames (PySem.W.hideAll s.heap (frs X.stack)) X.stack∧HOk X.prog X.w H (PySem.W.hideAll s.heap (frs X.stack)) :=
 ⟨λb o q=>PySem.W.of_hideAll _ q,PySem.W.funFrames_hide I.stack λenv he b hb=>List.mem_filterMap.mpr ⟨env,he,hb⟩,rH I.hok I.stkFree⟩
theorem xY (L:Lv X E) (I:Inv X pins σ H s) {h':Heap} {vs:List Value} (hx:Heap.MadeExcOf s.heap h' ea (.ref C) vs) (hE:E (.ref C) none H):X.xe (.ref ea) { s with heap:=h' }:=by
 rw [L.xe]
 obtain ⟨g1,g2,g3⟩:=I.ground
 have g2':s.heap.FunFrames (PySem.W.hideAll s.heap (frs X.stack)) (X.env :: X.outer):=L.stk ▸ g2
 refine wpAny_leaves_madeW (s:={ s with heap:=h' }) (by rw [I.ok.frames,L.stk]) L.fr g1 g2' hx λh'' t fl _ _ hs=>?_
 have hs':s.heap.UpToSlots h'':=(Heap.UpToSlots.of_keeps hx.keeps).trans hs
 have u:Un (frs X.stack) [] H H s.heap h'':=⟨λb o e n hb _=>fl.1 b o (PySem.W.hideAll_get _ e hb),λb o e n hb _=>by
   obtain ⟨_,o',ho',hd⟩:=g2.mem hb
   rw [e] at ho'
   cases ho'
   exact hs' b o e hd,λb o e n _=>n,λb o e _=>by
   by_cases hb:b∈frs X.stack
   ·obtain ⟨_,o',ho',hd⟩:=g2.mem hb
    obtain ⟨sl,q⟩:=hs' b o' ho' hd
    exact ⟨_,q⟩
   ·exact ⟨o,fl.1 b o (PySem.W.hideAll_get _ e hb)⟩,λ_ _ q=>q,λ_ _ _ q=>q,λb ps q=>⟨#[],by simpa using q⟩⟩
 have J:Inv X pins σ H { s with heap:=h'' }:=I.call' (s':={ s with heap:=h'' }) rfl u (g3.kept fl.1) I.bare λb z=>absurd z (by simp)
 have new:H ea=none:=by
  cases q:H ea with
  | none=>rfl
  | some o =>
   obtain ⟨ob,e⟩:=(I.hok ea o q).ex
   have h2:=hx.new
   rw [e] at h2
   cases h2
 exact ⟨ea,C,H,rfl,I.fly_up L.ex J new fl g3 (λb o e _ hb=>PySem.W.hideAll_get _ e hb) λb o e hb=>⟨o,PySem.W.hideAll_get _ e hb⟩,hE⟩
end
end L2
namespace XI
open PySem PySem.Spec PySem.W
section
variable {prog:Program} {w:World} {A:Around} {E:Value→Shared→Prop} {h:Heap} {g:Array GenState} {d:Drawn} {t:Nat} {os:OsState} {a:Addr} {o:Obj} {vs:Array Value}
 {nm q:Str} {C N:Addr} {bs bm:List Value} {hdct:Bool} {sn:List Str} {sub:List Value} {ab:Bool} {col:Option Bool} {dd:Option Addr} {k0 k1 k2 k3 k5:Option Value} {newId:String}
theorem qb {R:Result→Shared→Prop} (hC:h.get? C=some (excClassObj nm q C N bs bm hdct sn sub ab col dd k0 k1 k2 k3 k5 newId)) (hb:bm.contains (.type "object")=true)
  (hx:h.get? a=some o) (hc:o.cls = .ref C) (hq:R (.ok (.ret (.ref C))) ⟨h,g,d,t,os⟩) :
  codeAny (model prog w) A (.call (.builtin "getset_descriptor.__get__") ⟨[.builtin "object.__class__",.ref a,.ref C],[]⟩) R ⟨h,g,d,t,os⟩:=by
 have hT5:(⟨h,g,d,t,os⟩:Shared).TypeIs (.builtin "object.__class__") "getset_descriptor":=F.typeOf_object_class
 have hcB:(Value.ref C :: bm).contains (.type (".".intercalate ("object.__class__".cutAt '.').dropLast))=true:=by
  rw [F.owner_object_class,List.contains_cons,hb]; rfl
 refine codeAny_call_builtin F.slot_gs_get.plain F.entry_gs_get (F.slot_gs_get.check _ _ _ _ _ _ _ _ hT5 (F.args_gs_get _ _ _) ?_)
 repeat (any_goals (first | assumption | (with_reducible refine wpAny_loadPart_at hx ?_; rw [hc]) | (with_reducible refine wpAny_isSubtype_exc hC ?_; rw [hcB]) | wp_step))
 refine ⟨Code.quiet_builtin _ (by decide +kernel),codeAny_builtin F.entry_object_class ?_⟩
 repeat (any_goals (first | assumption | (with_reducible refine wpAny_loadPart_at hx ?_; rw [hc]) | wp_step))
theorem rJ {M:Model} {nameV:Value} {Q:Unit→Shared→Prop} (hC:h.get? C=some (excClassObj nm q C N bs bm hdct sn sub ab col dd k0 k1 k2 k3 k5 newId)) (hb:bm.contains (.type "BaseException")=true)
  (hx:h.get? a=some o) (hc:o.cls = .ref C) (hq:Q () ⟨h,g,d,t,os⟩):wpAny M A (checkBuiltinCall "BaseException.__getattribute__" ⟨[.ref a,nameV],[]⟩) Q E ⟨h,g,d,t,os⟩:=by
 have hk:builtinKind "BaseException.__getattribute__" = some .slot:=by decide +kernel
 have hsplit:splitId "BaseException.__getattribute__" = some ("BaseException","__getattribute__"):=by decide +kernel
 have hcB:(Value.ref C :: bm).contains (.type "BaseException")=true:=by rw [List.contains_cons,hb]; rfl
 have ha:=F.args_bexc_ga (.ref a) nameV
 simp only [checkBuiltinCall,hk,hsplit]
 refine wpAny_bind ?_
 ·unfold isInstance
  repeat (first | (with_reducible refine wpAny_loadPart_at hx ?_; rw [hc]) | (with_reducible refine wpAny_isSubtype_exc hC ?_; rw [hcB]) | wp_step)
  exact hq
theorem lL {tk:Tok} {Q:Fin→Shared→Prop} (hC:h.get? C=some (excClassObj nm q C N bs bm hdct sn sub ab col dd k0 k1 k2 k3 k5 newId)) (hb:bm.contains (.type "object")=true)
  (LC:Looks (model prog w) h (typeLookup (.ref C) "__class__") (some (.builtin "object.__class__"))) (hx:h.get? a=some o) (hc:o.cls = .ref C) (hq:Q (.done (.ret (.ref C))) ⟨h,g,d,t,os⟩) :
  wpAny (model prog w) A (Builtin.«object.__getattribute__» ⟨[.ref a,.str "__class__" tk],[]⟩) Q E ⟨h,g,d,t,os⟩:=by
 have hT5:(⟨h,g,d,t,os⟩:Shared).TypeIs (.builtin "object.__class__") "getset_descriptor":=F.typeOf_object_class
 have f5:=F.typeOf_object_class
 have f6:=F.slot_gs_get.lookup
 have f7:=F.slot_gs_set.lookup
 repeat (any_goals (first | assumption | (with_reducible refine wpAny_loadPart_at hx ?_; rw [hc]) | with_reducible refine LC.at ?_ | wp_step))
 refine qb hC hb hx hc ?_
 repeat (any_goals (first | assumption | wp_step))
theorem nD {Q:Option Value→Shared→Prop} (hC:h.get? C=some (excClassObj nm q C N bs bm hdct sn sub ab col dd k0 k1 k2 k3 k5 newId)) (hb:bm.contains (.type "object")=true) (hbb:bm.contains (.type "BaseException")=true)
  (LG:Looks (model prog w) h (typeLookup (.ref C) "__getattribute__") (some (.builtin "BaseException.__getattribute__"))) (LA:Looks (model prog w) h (typeLookup (.ref C) "__getattr__") none)
  (LC:Looks (model prog w) h (typeLookup (.ref C) "__class__") (some (.builtin "object.__class__"))) (hx:h.get? a=some o) (hc:o.cls = .ref C) (hq:Q (some (.ref C)) ⟨h,g,d,t+1,os⟩) :
  wpAny (model prog w) A (getAttr? (.ref a) "__class__") Q E ⟨h,g,d,t,os⟩:=by
 have f3:=F.attr_ValueError.ga.bind (.ref a)
 have hx0:(false && onTheHeap (Value.builtin "BaseException.__getattribute__"))=false:=rfl
 have hx2:(Value.builtin "BaseException.__getattribute__" == Value.builtin "object.__getattribute__")=false:=by decide +kernel
 have hx1:(onTheHeap (Value.ref C) && Value.builtin "BaseException.__getattribute__" == Value.builtin "object.__getattribute__")=false:=by rw [hx2]; rfl
 unfold getAttr? getAttrBy?
 repeat (any_goals (first | assumption | (with_reducible refine wpAny_loadPart_at hx ?_; rw [hc]) | with_reducible refine LG.at ?_ | with_reducible refine LA.at ?_ | wp_step))
 refine codeAny_call_builtin F.attr_ValueError.ga.plain F.entry_bexc_ga (rJ hC hbb hx hc (lL hC hb LC hx hc ?_))
 repeat (any_goals (first | assumption | wp_step))
end
noncomputable def qc (K:Frag) (C:Addr):Bool:=ktsIn K C "object" && findIn K (.ref C) "__getattribute__" == some (some (.builtin "BaseException.__getattribute__")) && findIn K (.ref C) "__getattr__" == some none && findIn K (.ref C) "__class__" == some (some (.builtin "object.__class__"))
noncomputable def gh (e C:Addr) (h:Heap):Prop:=∃ o vs,h.get? e=some o∧o.cls = .ref C∧o.data = .fields vs
theorem lM {K:Frag} {e C:Addr} (q:qc K C=true):KitX K (.ref e) (.ref C) (gh e C):=by
 unfold qc at q
 simp only [Bool.and_eq_true,beq_iff_eq] at q
 obtain ⟨⟨⟨q1,q2⟩,q3⟩,q4⟩:=q
 refine ⟨λM h X p=>?_,λM h X p=>?_,λh tp dd its n sl X htp=>?_,λ{prog w A E Q s} X p hq=>?_⟩
 ·obtain ⟨o,vs,h1,h2,_⟩:=p
  exact h2 ▸ (Looks.ld h1).andThen .now
 ·obtain ⟨nm,q',N,bs,bm,hdct,sn,sub,ab,col,dd,k0,k1,k2,k3,k5,newId,hC,_,_⟩:=kts_cls X q1
  intro A' Q' E' s' k q
  unfold isType loadHead
  exact wpAny_bind (wpAny_loadPart (k _ _ hC) (wpAny_pure q))
 ·obtain ⟨nm,q',N,bs,bm,hdct,sn,sub,ab,col,dd',k0,k1,k2,k3,k5,newId,hC,_,_⟩:=kts_cls X q1
  refine Bool.eq_false_iff.mpr λz=>?_
  have e:C=tp:=Value.ref.inj (beq_iff_eq.mp z)
  subst e
  have z2:Value.type "type" = Value.type "tuple":=congrArg Obj.cls (Option.some.inj (hC.symm.trans htp))
  injection z2 with z3
  exact absurd z3 (by decide)
 ·obtain ⟨h0,g,d,t,os⟩:=s
  obtain ⟨o,vs,h1,h2,_⟩:=p
  obtain ⟨nm,q',N,bs,bm,hdct,sn,sub,ab,col,dd,k0,k1,k2,k3,k5,newId,hC,hb1,hb2⟩:=kts_cls X q1
  exact nD hC hb2 hb1 (looks_findIn X q2) (looks_findIn X q3) (looks_findIn X q4) h1 h2 hq
end XI
namespace L2
open PySem PySem.Spec PyProof.Rows
section
variable {X:Cx}
abbrev bmV:List Value:=[.type "ValueError",.type "Exception",.type "BaseException",.type "object"]
noncomputable abbrev xZ (X:Cx) (x:Str) (C:Addr):Prop:=OwnCls x C bmV "ValueError.__new__" X.mg X.base
noncomputable def wt (C:Addr) (E:XK) (ta:TE):TS:=λ_ σ H=>iU ta pH σ H λvs H1=>vs.length≤sizeLine∧E (.ref C) none H1
theorem cU {E:XK} (L:Lv X E) {x:Str} {C:Addr} {np cpos pos:Pos} {a:Expr} {ta:TE} (O:xZ X x C) (hh:X.A.handled=none) (hg:Gl X x) (ha:PE X a ta) (hs:starEach [a] X.env=[(false,eval a X.env)]:=by rfl)
  (hd:(x == ("__debug__":Str))=false:=by decide):PS X (.Raise (some (.Call (.Name x np) [a] [] cpos)) none pos) (wt C E ta):=by
 intro pins s σ H D I h
 obtain ⟨tl,N,nm,q,bs,hdct,sn,sub,ab,col,dd,k0,k1,k2,k3,k5,mN,hC,hN,hni,T⟩:=O.obj
 refine wpAny_Raise_call_subT (C:=C) (nm:=nm) (q:=q) (N:=N) (bs:=bs) (bm:=tl) (hdct:=hdct) (sn:=sn) (sub:=sub) (ab:=ab) (col:=col) (dd:=dd) (k0:=k0) (k1:=k1) (k2:=k2) (k3:=k3) (k5:=k5)
  PySem.F.excBase_ValueError (mN:=mN) (T.hasType PySem.F.excBase_ValueError.hasBase) hh (by rw [hs]; rfl) hni (gH I hg O.bound ⟨rfl,?_⟩ hd)
 have hA:PA X [a] (iU ta pH):=aa ha ae hs
 have h':=hA cpos pins s σ H (λvs H1=>vs.length≤sizeLine∧E (.ref C) none H1) I h
 rw [hs] at h' ⊢
 refine Calls.evalArgs_plain (thn h' λus s2 hpt=>?_)
 obtain ⟨vs,H2,I2,r2,q2⟩:=hpt
 exact ⟨rfl,by rw [← r2.length]; exact q2.1,I2.bk _ _ hC,hN.keeps I2.bk,T.keeps I2.bk,λh' e hx=>xY L I2 hx q2.2⟩
noncomputable abbrev TX:=St→Hp→VK→XK→Prop
noncomputable def XP (X:Cx) (pins:List (Addr×Obj)) (σ:St) (E:XK) (e:Value) (s':Shared):Prop:=∃ ea C H' H1 s1,e = .ref ea∧Inv X pins σ H1 s1∧Fly X.prog X.w X.stack H1 s1 H' ea C s'∧E (.ref C) none H'
noncomputable def PX (X:Cx) (e:Expr) (t:TX):Prop :=
 ∀ (pins:List (Addr×Obj)) (s:Shared) (σ:St) (H:Hp) (Q:VK) (E:XK),Inv X pins σ H s→t σ H Q E→wpAny (model X.prog X.w) X.A (eval e X.env) (EP X pins σ Q) (XP X pins σ E) s
noncomputable def wu (sp:Sp) (t:TA):TX:=λσ H Q E=>t σ H λvs H1=>sp vs H1 Q E
theorem ug (hno:∀ e s,¬ X.xe e s) {k:Nat} {f:Addr} {fd:FuncData} {ps:List Str} {sp:Sp} {x:Str} {p pos:Pos} {e:Expr} {es:List Expr} {t:TA} (F:FnOk X.prog X.w X.K X.mg X.base (CX1 X.prog X.w) k f fd ps sp) (hr:Room k X.A) (hg:Gl X x) (hm:X.mg x=some (.ref f)) (hk:PySem.W.keepIn X.K (.ref f)=true) (hb:bq X.K fd ps [])
  (ha:PA X (e :: es) t) (hdb:(x == ("__debug__":Str))=false:=by decide) (he:starEach (e :: es) X.env=(false,eval e X.env) :: starEach es X.env:=by rfl) (hpl:(backTo pos (starEach es X.env)).any (·.1)=false:=by rfl) :
  PX X (.Call (.Name x p) (e :: es) [] pos) (wu sp t):=by
 intro pins s σ H Q E I h
 refine wpAny_Call_Name_kw (gH I hg hm ?_ hdb)
 refine PySem.W.callWith_K (h₀:=X.base) I.ok.mod.kin hk (wpAny_mono (ha pos pins s σ H _ I h) (λus s1 ⟨vs,H1,I1,r,q⟩=>⟨I1.kIn,?_⟩) λ_ _ z=>absurd z (hno _ _)) he hpl
 have hl:us.length=ps.length:=by rw [← r.length]; exact F.len _ _ _ _ q
 have hb':=hb s1 us I1.kIn (by rw [List.append_nil]; exact hl)
 rw [List.append_nil] at hb'
 refine wpAny_call (codeAny_mono (F.run X.A X.stack s1 H1 ⟨us,[]⟩ us vs Q E hr I1.env0 hb' r q) λr s' hq=>?_)
 cases r with
 | error e =>
  obtain ⟨ea,C,H',rfl,fl,hE⟩:=hq
  exact ⟨ea,C,H',H1,s1,rfl,I1,fl,hE⟩
 | ok fl =>
  cases fl with
  | ret u=>exact I1.after hq
  | next=>exact False.elim hq
  | brk=>exact False.elim hq
  | cont=>exact False.elim hq
theorem uh {M:Model} {A:Around} {E:Value→Shared→Prop} {nm q:Str} {C N:Addr} {bs bm:List Value} {hdct:Bool} {sn:List Str} {sub:List Value} {ab:Bool} {col:Option Bool} {dd:Option Addr} {k0 k1 k2 k3 k5:Option Value} {newId:String}
  {h:Heap} {g:Array GenState} {d:Drawn} {t:Nat} {os:OsState} {e T:Addr} {oe:Obj} {Q:Bool→Shared→Prop}
  (hT:h.get? T=some (excClassObj nm q T N bs bm hdct sn sub ab col dd k0 k1 k2 k3 k5 newId)) (hbase:bm.contains (.type "BaseException")=true) (LCT:PySem.W.Looks M h (isSubtype (.ref C) (.ref T)) true) (he:h.get? e=some oe) (hcls:oe.cls = .ref C)
  (hq:Q true ⟨h,g,d,t,os⟩):wpAny M A (excMatches (.ref e) (.ref T)) Q E ⟨h,g,d,t,os⟩:=by
 have hcB:(Value.ref T :: bm).contains (.type "BaseException")=true:=by rw [List.contains_cons,hbase,Bool.or_true]
 have f:=tc_notTuple
 unfold excMatches
 repeat (first | (with_reducible refine wpAny_loadPart_at he ?_; rw [hcls]) | with_reducible refine LCT.at ?_ | with_reducible refine wpAny_loadPart_at hT ?_ | (with_reducible refine wpAny_isSubtype_exc hT ?_; rw [hcB]) | wp_step)
 exact hq
end
section
variable {X:Cx} {pins:List (Addr×Obj)} {σ:St} {H:Hp} {s:Shared}
theorem Inv.forget (I:Inv X pins σ H s) {l:Nat} {n:Str} {h':Heap} {m:Str→Option Value} {v:Option Value} {tk:Nat} (hN:X.N.Nodup) (hl:X.N[l]? = some n) (hm:s.heap.Ns X.env.locals m)
  (hn':h'.Ns X.env.locals (λx=>if x=n then v else m x)) (hs:Heap.SameBut X.env.locals s.heap h'):Inv X pins (σ.set l none) H { s with heap:=h',toks:=tk }:=by
 obtain ⟨m0,hn,hlk⟩:=id I.loc
 have em:∀ x,m0 x=m x:=λx=>by
  obtain ⟨o,es,ep,e1,e2,e3,e4⟩:=hn
  obtain ⟨o',es',ep',f1,f2,f3,f4⟩:=hm
  rw [e1] at f1
  cases f1
  rw [e2] at f2
  cases f2
  rw [← e4,← f4]
 have hlσ:l<σ.length:=by rw [I.len]; exact (List.getElem?_eq_some_iff.mp hl).1
 have cne:=I.cne
 have ne:∀ b o,X.s₀.heap.get? b=some o→b≠X.env.locals:=λb o e=>Nat.ne_of_lt (Nat.lt_of_lt_of_le (Heap.lt_size e) I.ok.above)
 refine ⟨I.ok,I.os,I.bare,⟨λb o e n hb hx=>(hs.2 b (ne b o e)).trans (I.base.keep b o e n hb hx),λb o e n hb hx=>?_,I.base.free,λb o e hx=>?_,I.base.tups,I.base.frzs,I.base.tbls⟩,⟨_,hn',λj y v' e1 e2 e3=>?_⟩,λy c e=>?_,I.free,I.freeC,λp hp=>?_,λb ob e=>?_,by simpa using I.len⟩
 ·obtain ⟨sl,e1⟩:=I.base.slot b o e n hb hx
  exact ⟨sl,(hs.2 b (ne b o e)).trans e1⟩
 ·obtain ⟨o',e1⟩:=I.base.there b o e hx
  exact ⟨o',(hs.2 b (ne b o e)).trans e1⟩
 ·by_cases hj:j=l
  ·subst hj
   rw [List.getElem?_set_self hlσ] at e2
   cases e2
  ·rw [List.getElem?_set_ne (Ne.symm hj)] at e2
   obtain ⟨u',r',q⟩:=hlk j y v' e1 e2 e3
   refine ⟨u',r',?_⟩
   rcases q with ⟨k,e⟩ | ⟨k,c,e,z⟩
   ·refine .inl ⟨k,?_⟩
    have hy:y≠n:=λe=>hj (gP hN e1 (e ▸ hl))
    show (if y=n then v else m y)=some u'
    rw [if_neg hy,← em]
    exact e
   ·exact .inr ⟨k,c,e,z.sameBut hs (cne y c e)⟩
 ·obtain ⟨w',z⟩:=I.cell y c e
  exact ⟨w',z.sameBut hs (cne y c e)⟩
 ·obtain ⟨p1,p2,p3,p4,p5⟩:=I.pin p hp
  exact ⟨(hs.2 p.1 p3).trans p1,p2,p3,p4,p5⟩
 ·refine (I.hok b ob e).stay (λc w' hc q=>(hs.2 c ?_).trans q) (λ_ q=>q) λ_ _ q=>q
  rintro rfl
  rcases hc with hc | hc
  ·rw [← hc,I.free] at e; cases e
  ·rw [I.free] at hc; cases hc
theorem Inv.caught {H':Hp} {ea C:Addr} {s':Shared} {B h6:Heap} {a0:Value} (I:Inv X pins σ H s) (F:Fly X.prog X.w X.stack H s H' ea C s') (fl:Heap.FlyingW B X.stack ea (.ref C) a0 s'.heap) (hB:HOk X.prog X.w H' B)
  (kp:∀ b o,s.heap.get? b=some o→H b=none→b∉frs X.stack→B.get? b=some o) (th:∀ b o,s.heap.get? b=some o→b∉frs X.stack→∃ o',B.get? b=some o') (f6:Heap.FlyingW B X.stack ea (.ref C) a0 h6) (hs:s'.heap.UpToSlots h6) :
  Inv X pins σ (upd H' ea (.ext (XI.gh ea C))) { s' with heap:=h6 }:=by
 obtain ⟨u,ok⟩:=lK F.un fl hB kp th f6.1 hs
 obtain ⟨oe,vs,g1,g2,g3,_⟩:=f6.first
 have ne:∀ b o,s.heap.get? b=some o→b≠ea:=λb o e z=>by
  by_cases hb:b∈frs X.stack
  ·obtain ⟨_,o',ho',hd⟩:=f6.2.2.1.mem hb
   rw [z,g1] at ho'
   cases ho'
   exact hd _ g3
  ·obtain ⟨o',q⟩:=th b o e hb
   rw [z,f6.2.1] at q
   cases q
 have ner:∀ b u,H' b=some u→b≠ea:=λb u e z=>by rw [z,F.new] at e; cases e
 refine I.call' (s':={ s' with heap:=h6 }) F.os ⟨u.keep,u.slot,λb o e n hx=>?_,u.there,λb xs e=>?_,λb o v e=>?_,λb ps e=>?_⟩ (λb ob e=>?_) F.bare λb z=>absurd z (by simp)
 ·rw [ag (ne b o e)]; exact u.free b o e n hx
 ·have:=u.tups b xs e
  rw [ag (ner b _ this)]; exact this
 ·have:=u.frzs b o v e
  rw [ag (ner b _ this)]; exact this
 ·obtain ⟨more,this⟩:=u.tbls b ps e
  exact ⟨more,by rw [ag (ner b _ this)]; exact this⟩
 ·by_cases hb:b=ea
  ·subst hb
   rw [ac] at e
   cases e
   refine ⟨⟨oe,vs,g1,g2,g3⟩,⟨oe,g1⟩,λh1 h2 ⟨o,vs,a1,a2,a3⟩ k=>⟨o,vs,k o a1,a2,a3⟩⟩
  ·rw [ag hb] at e
   exact (ok b ob e).stay (λ_ _ _ q=>q) (λc q=>by rw [ag (ner c _ q)]; exact q) λc xs q=>by rw [ag (ner c _ q)]; exact q
end
section
variable {X:Cx}
structure TryOk (X:Cx):Prop where
 no:∀ e s,¬ X.xe e s
 stk:X.stack=X.env :: X.outer
 fr:X.env.frame=some X.env.locals
noncomputable def yT (i j l:Nat) (T:Addr) (K:PySem.W.Frag) (te:TX):TS:=λD σ H=>te σ H (λv H1=>D.nx (σ.set i (some v)) H1)
 (λcl _ H'=>∃ C,cl = .ref C∧PySem.W.subIn K (.ref C) (.ref T)=some true∧∀ ea,H' ea=none→D.nx (((σ.set l (some (.ref ea))).set j (some (.ref ea))).set l none) (upd H' ea (.ext (XI.gh ea C))))
theorem wv (Y:TryOk X) {i j l:Nat} {a b n x:Str} {T:Addr} {e:Expr} {te:TX} {pa pb pn px p1 p2 p3 p4:Pos} (hN:X.N.Nodup) (hi:X.N[i]? = some a) (hj:X.N[j]? = some b) (hl:X.N[l]? = some n)
  (la:X.env.scope.names.lookup a=some .local) (lb:X.env.scope.names.lookup b=some .local) (ln:X.env.scope.names.lookup n=some .local) (he:PX X e te) (hg:Gl X x) (hm:X.mg x=some (.ref T)) (hT:PySem.W.ktsIn X.K T "BaseException" = true)
  (hs:swapsWith e (some (.Name a pa)) p1.line X.env=pure false:=by rfl) (hs2:swapsWith (.Name n pn) (some (.Name b pb)) p2.line X.env=pure false:=by rfl) (hdx:(x == ("__debug__":Str))=false:=by decide) (hdn:(n == ("__debug__":Str))=false:=by decide) :
  PS X (.Try [.Assign [.Name a pa] e p1] [.ExceptHandler (some (.Name x px)) (some n) [.Assign [.Name b pb] (.Name n pn) p2] p3] [] [] p4) (yT i j l T X.K te):=by
 intro pins s σ H D I h
 refine wpAny_Try_except ?_
 refine wpAny_execs_cons (wpAny_Assign_Name (wpAny_mono (he pins s σ H _ _ I h) (λv s1 ⟨y,H1,I1,r1,q1⟩=>?_) λev s1 hx=>?_) hs)
 ·exact dy I1 hN hi (.inl la) r1 (λs2 I2=>wpAny_execs_nil (wpAny_execs_nil ⟨_,H1,I2,q1⟩)) (.inr la)
 ·obtain ⟨ea,C,H',H1,s0,rfl,I1,F,⟨C',eC,hsub,hk⟩⟩:=hx
  cases eC
  obtain ⟨B,a0,fl,hB,kp,th⟩:=id F.fly
  have frm:X.A.frames=some (X.env :: X.outer):=by rw [I1.ok.frames,Y.stk]
  have fl':=fl
  rw [Y.stk] at fl'
  refine wpAny_looks_onW frm Y.fr fl' λh4 held4 hs4=>?_
  refine wpAny_landsW held4 λh5 fl5 hs5=>?_
  have sm5:s1.heap.UpToSlots h5:=hs4.trans hs5
  have fl5':Heap.FlyingW B X.stack ea (.ref C) a0 h5:=by rw [Y.stk]; exact fl5
  have J5:=I1.caught F fl hB kp th fl5' sm5
  obtain ⟨ob,hob,hobc⟩:=fl5.there
  obtain ⟨nm,q',N,bs,bm,hdct,sn,sub,ab,col,dd,k0,k1,k2,k3,k5,newId,hTo,hbase,_⟩:=PySem.W.kts_cls J5.kIn hT
  obtain ⟨hp1,g1,d1,t1,os1⟩:=s1
  refine wpAny_handleBy_cons (codeAny_handlers_test ?_) (by intro q; cases q)
  refine Calls.Name_function_global J5.ok.kind hg (Calls.loadGlobal_global (by rw [J5.ok.glob]; exact J5.mod.glob.keeps J5.bk) hm ?_) hdx
  refine uh hTo hbase (PySem.W.looks_subIn J5.kIn hsub) hob hobc ?_
  refine codeAny_handlers_suite_as ?_
  refine lands_againW (s:=⟨h5,g1,d1,t1,os1⟩) fl5 λh6 fl6 hs6=>?_
  have fl6':Heap.FlyingW B X.stack ea (.ref C) a0 h6:=by rw [Y.stk]; exact fl6
  have J6:=I1.caught F fl hB kp th fl6' (sm5.trans hs6)
  refine dy J6 hN hl (.inl ln) (v:=.ref ea) rfl (λs2 J7=>?_) (.inr ln)
  obtain ⟨m7,hn7,lk7⟩:=id J7.loc
  have hlσ:l<σ.length:=by rw [I.len]; exact (List.getElem?_eq_some_iff.mp hl).1
  obtain ⟨u7,r7,q7⟩:=lk7 l n (.ref ea) hl (List.getElem?_set_self hlσ) (.inl ln)
  cases (show u7=Value.ref ea from r7)
  have hm7:X.env.kindOf n=some .local∧m7 n=some (.ref ea):=by
   rcases q7 with z | ⟨z,_⟩
   ·exact z
   ·exfalso
    have z':X.env.scope.names.lookup n=some .cell∨X.env.scope.names.lookup n=some .free:=z
    rw [ln] at z'
    rcases z' with z' | z' <;> cases z'
  refine wpAny_execs_cons (wpAny_Assign_Name (wpAny_Name (wpAny_loadName_local J7.ok.kind hm7.1 hn7 hm7.2 ?_) hdn) hs2)
  refine dy J7 hN hj (.inl lb) (v:=.ref ea) rfl (λs3 J8=>wpAny_execs_nil ?_) (.inr lb)
  obtain ⟨m8,hn8,_⟩:=id J8.loc
  have hcls:(X.env.scope.kind == .class || (X.env.scope.kind == .module && X.env.locals != X.env.globals))=false:=by rw [J8.ok.kind]; rfl
  refine wpAny_nameGoes_keeps hm7.1 hn8 hcls λh9 v9 hn9 hs9=>?_
  exact ⟨_,_,J8.forget hN hl hn8 hn9 hs9,hk ea F.new⟩
end
end L2
namespace DL
open PySem PySem.Spec PyProof.Rows
theorem ig:entryFor table "dict.update.loop" = some Builtin.«dict.update.loop»:=entryFor_of_tree (by kernel_rfl)
theorem dk:plainId "dict.update.loop" = true:=by decide +kernel
theorem jL:typeLookup (.type "list") "keys" = pure none:=by rw [typeLookup_type,builtinLookup_eq_fast]; kernel_rfl
section
variable {prog:Program} {w:World} {A:Around} {E:Value→Shared→Prop} {s:Shared}
theorem ui {a:Addr} {xs:Array Value} {k:Nat} {sl:Array (Option Value)} {u:Tok} {Q:Value→Shared→Prop} (hx:s.heap.get? a=some { cls:=.type "list",dict:=none,data:=.seq xs k,slots:=sl }) (hA:A.handled=none)
  (h:∀ h' tk e,Heap.NewExcOf s.heap h' e "AttributeError"→E (.ref e) { s with heap:=h',toks:=tk }) :
  wpAny (model prog w) A (getAttrBy (.ref a) (.str "keys" u) false) Q E s:=by
 obtain ⟨hp,g,d,tk,os⟩:=s
 have hT:∀ tk',(⟨hp,g,d,tk',os⟩:Shared).TypeIs (.ref a) "list":=λ_=>⟨_,hx,rfl⟩
 have f1:=sub_AttributeError
 have f3:=F.slot_list_getattribute.lookup
 have f4:=F.slot_list_getattribute.bind (.ref a)
 have f5:=am_list_getattr_none
 unfold getAttrBy
 repeat (any_goals (first | assumption | exact hT _ | ((with_reducible show wpAny _ _ (call (Value.builtin "list.__getattribute__") _ _) _ _ _); refine call_meets F.slot_list_getattribute (hT _) am_entry_list_getattribute (F.args_list_getattribute_2 _ _) (meets_getattribute_miss_list a xs k sl "keys" _ jL (by decide) (by size_fits)) ⟨hx,hA,λh' tk' e hx'=>?_⟩) | wp_step))
 obtain ⟨t',u',he⟩:=hx'.there
 show wpAny _ _ (getattributeRaised _ _ _ _ _ _ _) _ _ _
 unfold getattributeRaised
 repeat (any_goals (first | assumption | wp_step))
 exact h _ _ _ hx'.of
theorem uk {a:Addr} {xs:Array Value} {k:Nat} {sl:Array (Option Value)} {Q:Option Value→Shared→Prop} (hx:s.heap.get? a=some { cls:=.type "list",dict:=none,data:=.seq xs k,slots:=sl }) (hA:A.handled=none)
  (h:∀ h' tk,(∀ b o,s.heap.get? b=some o→h'.get? b=some o)→Q none { s with heap:=h',toks:=tk }) :
  wpAny (model prog w) A (getAttr? (.ref a) "keys") Q E s:=by
 obtain ⟨hp,g,d,tk,os⟩:=s
 have f1:=sub_AttributeError
 unfold getAttr? getAttrBy?
 repeat (any_goals (first | assumption | ((with_reducible show wpAny _ _ (getAttrBy _ _ false) _ _ _); refine ui (s:=⟨hp,g,d,_,os⟩) hx hA λh' tk' e hx'=>?_) | wp_step))
 obtain ⟨⟨oc,od,odt,osl⟩,vs,he,hc,_,_⟩:=hx'.there
 simp only at hc
 subst hc
 repeat (any_goals (first | assumption | with_reducible refine wpAny_loadPart_at he ?_ | wp_step))
 exact h h' tk' λb o e=>hx'.keeps b o e
end
section
variable {prog:Program} {w:World} {A:Around} {E:Value→Shared→Prop} {R:Result→Shared→Prop} {I:Addr} {fp wr:List Addr} {G:Array GenState→Array GenState→Prop} {n:Nat} {P:Nat→Value→Prop} {St:Nat→Shared→Prop}
theorem qd (W:WalksS prog w A.in1 I fp wr G n P St) (d:Addr) (hdf:d∉fp) (ad:Nat→Addr) (kk vv:Nat→Value) (hval:∀ i v,P i v→v = .ref (ad i)) (had:∀ i,i<n→ad i∉d :: wr)
  (D:Nat→Heap→Prop) (hD:∀ i (h h':Heap),D i h→(∀ b o,b∉wr→h.get? b=some o→h'.get? b=some o)→D i h')
  (step:∀ i (s:Shared) (E:Value→Shared→Prop) (Q:Unit→Shared→Prop),i<n→D i s.heap→(∀ h' tk,s.toks≤tk→Heap.SameBut d s.heap h'→D (i+1) h'→Q () { s with heap:=h',toks:=tk })→wpAny (model prog w) A.in1 (dictSet d (kk i) (vv i)) Q E s) :
  ∀ (k i:Nat) (s:Shared) (tk:Tok),n - i=k→i≤n→St i s→D i s.heap→(∀ j,j<n→IsTup s.heap (ad j) #[kk j,vv j]) →
   (∀ s',Moved (d :: wr) G s s'→D n s'.heap→R (.ok (.ret .none)) s') →
   codeAny (model prog w) A (.builtin "dict.update.loop" ⟨[.ref d,.ref I,.int i tk,.none],[]⟩) R s:=by
 have hdw:d∉wr:=λh=>hdf (W.sub _ h)
 have hsub:∀ b∈wr,b∈d :: wr:=λb hb=>List.mem_cons_of_mem _ hb
 have hadw:∀ i,i<n→ad i∉wr:=λi hi h=>had i hi (List.mem_cons_of_mem _ h)
 have hadd:∀ i,i<n→ad i≠d:=λi hi h=>had i hi (by rw [h]; exact List.mem_cons_self)
 intro k
 induction k with
 | zero =>
  intro i s tk hk hi hst hDi htp hR
  have hin:i=n:=by omega
  subst hin
  refine codeAny_builtin ig ?_
  rw [Around.under_plainId dk _]
  show wpAny _ A.in1 (pyNext (.ref I) >>= _) _ _ s
  refine wpAny_bind (W.done s _ _ hst λs' hm=>?_)
  show wpAny _ A.in1 (Builtin.Dict.addKeywords d [] >>= λ_=>ret Value.none) _ _ s'
  exact wpAny_bind (wpAny_pure (wpAny_pure (hR s' (hm.mono hsub) (hD _ _ _ hDi hm.heap))))
 | succ k ih =>
  intro i s tk hk hi hst hDi htp hR
  have hlt:i<n:=by omega
  refine codeAny_builtin ig ?_
  rw [Around.under_plainId dk _]
  show wpAny _ A.in1 (pyNext (.ref I) >>= _) _ _ s
  refine wpAny_bind (W.item i s _ _ hlt hst λv s' hP hst' hm=>?_)
  have hv:=hval i v hP
  subst hv
  have hDi':D i s'.heap:=hD _ _ _ hDi hm.heap
  have htp':∀ j,j<n→IsTup s'.heap (ad j) #[kk j,vv j]:=λj hj=>by
   obtain ⟨o,ho,r⟩:=htp j hj
   exact ⟨o,hm.heap _ o (hadw j hj) ho,r⟩
  obtain ⟨ot,hot,hct,nt,hdt⟩:=htp' i hlt
  have hT:s'.TypeIs (.ref (ad i)) "tuple":=⟨ot,hot,hct⟩
  refine wpAny_bind (wpAny_holding ?_)
  refine wpAny_bind (wpAny_tryCatch ?_)
  unfold Builtin.Dict.pairItems
  refine wpAny_bind (wpAny_typeOf hT ?_)
  rw [if_pos (by decide)]
  generalize hDS:dictSet=DS
  obtain ⟨hp,g,dr,t,os⟩:=s'
  obtain ⟨ocls,odict,odata,oslots⟩:=ot
  simp only at hct hdt
  subst hct hdt
  repeat (any_goals (first | assumption | with_reducible refine wpAny_loadPart_at hot ?_ | wp_step))
  subst hDS
  refine step i _ _ _ hlt hDi' λh' tk' htk hsb hD'=>?_
  have hsb':Heap.SameBut d hp h':=hsb
  have hkeep:∀ b o,b∉d :: wr→hp.get? b=some o→h'.get? b=some o:=λb o hb e=>by
   rw [hsb'.2 b (λz:b=d=>hb (by rw [z]; exact List.mem_cons_self))]; exact e
  refine wpAny_pure ⟨plainId_quiet dk _,?_⟩
  refine ih (i+1) _ _ (by omega) hlt (W.frame _ _ _ _ hst' htk λb hb o e=>?_) hD' (λj hj=>?_) λs'' hm'' hD''=>?_
  ·rw [hsb'.2 b (λh:b=d=>hdf (by rw [← h]; exact hb))]; exact e
  ·obtain ⟨o,ho,r⟩:=htp' j hj
   exact ⟨o,hkeep _ o (had j hj) ho,r⟩
  ·exact hR s'' (Moved.trans W.gtrans ((hm.mono hsub).then_heap htk λb o hb e=>hkeep b o hb e) hm'') hD''
end
section
variable {prog:Program} {w:World} {A:Around} {E:Value→Shared→Prop} {s:Shared}
theorem ik {l:Addr} {items:Array Value} {nl:Nat} {sl:Array (Option Value)} {Q:Value→Shared→Prop} (hh:A.handled=none) (hl:s.heap.get? l=some { cls:=.type "list",dict:=none,data:=.seq items nl,slots:=sl })
  (ad:Nat→Addr) (kk vv:Nat→Value) (hi:∀ (i:Nat) (v:Value),items[i]? = some v→v=Value.ref (ad i)) (ht:∀ i,i<items.size→IsTup s.heap (ad i) #[kk i,vv i])
  (D:Nat→Heap→Prop) (hD0:∀ h',h'.get? s.heap.objs.size=some { cls:=.type "dict",data:=.dict #[] }→(∀ b o,s.heap.get? b=some o→h'.get? b=some o)→D 0 h')
  (hD:∀ i (h h':Heap),D i h→(∀ b o,b≤s.heap.objs.size→h.get? b=some o→h'.get? b=some o)→D i h')
  (step:∀ i (s':Shared) (E:Value→Shared→Prop) (Q:Unit→Shared→Prop),i<items.size→D i s'.heap→(∀ h' tk,s'.toks≤tk→Heap.SameBut s.heap.objs.size s'.heap h'→D (i+1) h'→Q () { s' with heap:=h',toks:=tk }) →
   wpAny (model prog w) A.in1.in1 (dictSet s.heap.objs.size (kk i) (vv i)) Q E s')
  (h:∀ h' tk,D items.size h'→(∀ b o,s.heap.get? b=some o→h'.get? b=some o)→Q (.ref s.heap.objs.size) { s with heap:=h',toks:=tk }) :
  wpAny (model prog w) A (call (.type "dict") [.ref l]) Q E s:=by
 refine callType_codes (Q₁:=λobj s₁=>obj = .ref s.heap.objs.size∧s₁={ s with heap:=s.heap.push { cls:=.type "dict",data:=.dict #[] } }) F.kt_called_dict (F.kt_typeCall_dict_1 _) F.entry_dict_init (kt_code_dict_new _ ⟨rfl,rfl⟩) ?_
 rintro obj s₁ ⟨rfl,rfl⟩
 have hnew:(s.heap.push { cls:=.type "dict",data:=.dict #[] }).get? s.heap.objs.size=some { cls:=.type "dict",data:=.dict #[] }:=Heap.get?_push_size _ rfl
 have hTd:Shared.TypeIs { s with heap:=s.heap.push { cls:=.type "dict",data:=.dict #[] } } (.ref s.heap.objs.size) "dict":=⟨_,hnew,rfl⟩
 have hl':(s.heap.push { cls:=.type "dict",data:=.dict #[] }).get? l=some { cls:=.type "list",dict:=none,data:=.seq items nl,slots:=sl }:=Heap.get?_push_of_some _ hl
 have hTl:Shared.TypeIs { s with heap:=s.heap.push { cls:=.type "dict",data:=.dict #[] } } (.ref l) "list":=⟨_,hl',rfl⟩
 refine ⟨hTd,F.args_dict_init_2 _ _,?_⟩
 unfold Builtin.«dict.__init__»
 refine wpAny_bind ?_
 unfold Builtin.Dict.selfAndRest
 refine wpAny_bind (wpAny_notOrdered_dict hTd ?_)
 show wpAny _ _ (pure (s.heap.objs.size,[Value.ref l])) _ _ _
 refine wpAny_pure ?_
 show wpAny _ _ (Builtin.Dict.updateFrom "dict.__init__" s.heap.objs.size (.ref l) [] .none) _ _ _
 unfold Builtin.Dict.updateFrom
 refine wpAny_bind (wpAny_typeOf hTl ?_)
 rw [if_pos (by decide)]
 refine wpAny_bind (uk (s:={ s with heap:=s.heap.push { cls:=.type "dict",data:=.dict #[] } }) hl' (show A.in1.in1.handled=none by simp [hh]) λh1 tk1 hk1=>?_)
 have hk1':∀ b o,(s.heap.push { cls:=.type "dict",data:=.dict #[] }).get? b=some o→h1.get? b=some o:=hk1
 have hL1:h1.IsList l items:=⟨_,hk1' _ _ hl',rfl,nl,rfl⟩
 rw [if_pos (show (none:Option Value).isNone=true from rfl)]
 refine wpAny_bind (wpAny_rule ?_)
 refine wpAny_bind (wpAny_pyIter_list hL1 ?_)
 have hlS:l<s.heap.objs.size:=Heap.lt_size hl
 have hS1:s.heap.objs.size<h1.objs.size:=Heap.lt_size (hk1' _ _ hnew)
 have k0:∀ b o,s.heap.get? b=some o→h1.get? b=some o:=λb o e=>hk1' b o (Heap.get?_push_of_some _ e)
 have hadlt:∀ i,i<items.size→ad i<s.heap.objs.size:=λi hi'=>by
  obtain ⟨o,ho,_⟩:=ht i hi'
  exact Heap.lt_size ho
 refine wpAny_pure ⟨plainId_quiet dk _,qd (A:=A.in1) ((Walks.list (show A.in1.in1.handled=none by simp [hh]) h1.objs.size l (Nat.ne_of_lt (Nat.lt_trans hlS hS1)) items).toS) s.heap.objs.size ?hdf ad kk vv hi ?had D ?hD' (λi s' E Q hi' hDi hq=>step i s' E Q hi' hDi hq)
  (items.size - 0) 0 _ 0 (by omega) (Nat.zero_le _) ⟨⟨_,Heap.get?_push_size _ rfl,rfl,rfl⟩,hL1.push _⟩ ?hD0' ?ht' λs' hm hDn=>?_⟩
 case hdf =>
  simp only [List.mem_cons,List.not_mem_nil,or_false,not_or]
  exact ⟨Nat.ne_of_lt hS1,Nat.ne_of_gt hlS⟩
 case had =>
  intro i hi'
  simp only [List.mem_cons,List.not_mem_nil,or_false,not_or]
  exact ⟨Nat.ne_of_lt (hadlt i hi'),Nat.ne_of_lt (Nat.lt_trans (hadlt i hi') hS1)⟩
 case hD' =>
  intro i g g' hDi hk
  refine hD i g g' hDi λb o hb e=>hk b o ?_ e
  simp only [List.mem_cons,List.not_mem_nil,or_false]
  exact Nat.ne_of_lt (Nat.lt_of_le_of_lt hb hS1)
 case hD0' =>
  exact hD0 _ (Heap.get?_push_of_some _ (hk1' _ _ hnew)) λb o e=>Heap.get?_push_of_some _ (k0 b o e)
 case ht' =>
  intro j hj
  obtain ⟨o,ho,r⟩:=ht j hj
  exact ⟨o,Heap.get?_push_of_some _ (k0 _ _ ho),r⟩
 obtain ⟨h',g',d',tk',os'⟩:=s'
 have eg:g'=s.gens:=hm.gens
 have ed:d'=s.drawn:=hm.drawn
 have eo:os'=s.os:=hm.os
 subst eg; subst ed; subst eo
 refine ⟨rfl,h h' tk' hDn λb o e=>?_⟩
 have hb:b<s.heap.objs.size:=Heap.lt_size e
 refine hm.heap b o ?_ (Heap.get?_push_of_some _ (k0 b o e))
 simp only [List.mem_cons,List.not_mem_nil,or_false,not_or]
 exact ⟨Nat.ne_of_lt hb,Nat.ne_of_lt (Nat.lt_trans hb hS1)⟩
end
end DL
namespace L2
open PySem PySem.Spec PyProof.Rows
section
variable {X:Cx}
theorem rK {pins:List (Addr×Obj)} {σ:St} {H:Hp} {s:Shared} (I:Inv X pins σ H s) {a:Addr} {x y:V} (h:H a=some (.tup [x,y])):∃ u v,aA x u∧aA y v∧IsTup s.heap a #[u,v]:=by
 obtain ⟨_,its,r,ht⟩:=I.hok a _ h
 cases r with
 | cons r1 r =>
  cases r with
  | cons r2 r=>cases r; exact ⟨_,_,r1,r2,by simpa using ht⟩
theorem rL {κ:Type} {pins:List (Addr×Obj)} {σ:St} {H:Hp} {s:Shared} (I:Inv X pins σ H s) {zs:List (Addr×κ×V)} (kf:Addr×κ×V→V) (hk:∀ z∈zs,H z.1=some (.tup [kf z,z.2.2])) :
  ∃ f:Addr×κ×V→Value×Value,∀ z∈zs,aA (kf z) (f z).1∧aA z.2.2 (f z).2∧IsTup s.heap z.1 #[(f z).1,(f z).2]:=by
 have hch:∀ z:Addr×κ×V,∃ p:Value×Value,z∈zs→aA (kf z) p.1∧aA z.2.2 p.2∧IsTup s.heap z.1 #[p.1,p.2]:=λz=>by
  by_cases hz':z∈zs
  ·obtain ⟨u,v,a,b,c⟩:=rK I (hk z hz')
   exact ⟨(u,v),λ_=>⟨a,b,c⟩⟩
  ·exact ⟨(.none,.none),λh=>absurd h hz'⟩
 exact ⟨λz=>Classical.choose (hch z),λz hz=>Classical.choose_spec (hch z) hz⟩
theorem bM {α:Type} {l:List α} {i:Nat} {d:α} (h:i<l.length):l.getD i d∈l∧l[i]? = some (l.getD i d):=by
 rw [List.getD_eq_getElem?_getD,List.getElem?_eq_getElem h]
 exact ⟨List.getElem_mem h,rfl⟩
theorem qf {κ:Type} {zs:List (Addr×κ×V)} {d:Addr×κ×V} {i:Nat} {v:Value} (h:(((zs.map (·.1)).map Value.ref).toArray)[i]? = some v):v=Value.ref (zs.getD i d).1:=by
 have h':((zs.map (·.1)).map Value.ref)[i]? = some v:=by simpa using h
 rw [List.getElem?_map,List.getElem?_map] at h'
 rw [List.getD_eq_getElem?_getD]
 cases e:zs[i]? with
 | none=>rw [e] at h'; cases h'
 | some z=>rw [e] at h'; exact (Option.some.inj h').symm
theorem cV {α:Type} {l:List α} {i:Nat} {x:α} (h:l[i]? = some x):l.take (i+1)=l.take i++[x]:=by rw [List.take_succ,h]; rfl
theorem qg {α κ:Type} {l:List α} {f:α→κ} {i:Nat} {x:α} (hn:(l.map f).Nodup) (h:l[i]? = some x):f x∉(l.take i).map f:=by
 intro hm
 obtain ⟨y,hy,e⟩:=List.mem_map.mp hm
 obtain ⟨j,hj,e2⟩:=List.mem_iff_getElem.mp hy
 have hj':j<i:=by rw [List.length_take] at hj; omega
 have hi:i<l.length:=(List.getElem?_eq_some_iff.mp h).1
 have e3:(l.map f)[j]'(by rw [List.length_map]; omega)=(l.map f)[i]'(by rw [List.length_map]; omega):=by
  rw [List.getElem_map,List.getElem_map]
  rw [List.getElem_take] at e2
  rw [e2,e,(List.getElem?_eq_some_iff.mp h).2]
 have:=(List.getElem_inj hn).mp e3
 omega
theorem gk (hc:X.calm=true):bG X (.type "dict") (λxs H Q=>∃ l,∃ zs:List (Addr×Key×V),xs=[.ref l]∧H l=some (.lst ((zs.map (·.1)).map V.ref))∧(∀ z∈zs,H z.1=some (.tup [kV z.2.1,z.2.2]))∧zs.length≤1000 ∧
  (zs.map (·.2.1)).Nodup∧((∀ d o,H d=none→Q (.ref d) (upd H d (.frz o (.dK (zs.map (·.2))))))∨∀ d,H d=none→Q (.ref d) (upd H d (.dK (zs.map (·.2)))))):=by
 intro pins s σ H xs us Q I r h
 obtain ⟨l,zs,rfl,hl,hk,hz,hnd,q⟩:=h
 obtain ⟨u,rfl,ru⟩:=cy r
 cases ru
 obtain ⟨_,its,nl,rv,ho⟩:=I.hok l _ hl
 have e:=cS rv
 subst e
 obtain ⟨f,hf⟩:=rL I (λz=>kV z.2.1) hk
 have hsz:(((zs.map (·.1)).map Value.ref).toArray).size=zs.length:=by simp
 refine DL.ik (s:=s) (I.ok.hd hc) ho (λi=>(zs.getD i (0,.inl 0,.non)).1) (λi=>(f (zs.getD i (0,.inl 0,.non))).1) (λi=>(f (zs.getD i (0,.inl 0,.non))).2) (λi v hv=>qf hv) (λi hi=>?_)
  (λi h'=>h'.DictOf (aD X.prog X.w) s.heap.objs.size ((zs.take i).map λz=>(z.2.1,(f z).2))) (λh' hg _=>?_) (λi g g' hd hk=>?_) (λi s' E Q hi hd hq=>?_) λh' tk hd hkeep=>?_
 ·rw [hsz] at hi
  exact (hf _ (bM hi).1).2.2
 ·exact ⟨_,#[],0,hg,⟨rfl,rfl,rfl⟩,rfl,λ_ he=>by simp at he,Pairs.nil,List.nodup_nil⟩
 ·obtain ⟨o,es,ep,ho,r⟩:=hd
  exact ⟨o,es,ep,hk _ o (Nat.le_refl _) ho,r⟩
 ·rw [hsz] at hi
  obtain ⟨hm,hg⟩:=bM (d:=((0,.inl 0,.non):Addr×Key×V)) hi
  refine wpAny_dictSet_pairs (hsz:=by rw [List.length_map,List.length_take]; have:=aQ hz; omega) (k:=(zs.getD i (0,.inl 0,.non)).2.1) (eP (hf _ hm).1) hd λh' hd' hs=>hq h' _ (Nat.le_succ _) hs ?_
  have e1:=cV hg
  have e2:=qg hnd hg
  rw [e1,List.map_append]
  unfold stored at hd'
  rw [if_neg] at hd'
  ·exact hd'
  ·intro ha
   obtain ⟨p,hp,he⟩:=List.any_eq_true.mp ha
   obtain ⟨z,hz',rfl⟩:=List.mem_map.mp hp
   exact e2 (List.mem_map.mpr ⟨z,hz',of_decide_eq_true he⟩)
 ·rw [hsz,List.take_length] at hd
  obtain ⟨ob,hob⟩:∃ ob,h'.get? s.heap.objs.size=some ob:=let ⟨o,_,_,ho,_⟩:=hd; ⟨o,ho⟩
  have hrel:KV (zs.map (·.2)) (zs.map λz=>(z.2.1,(f z).2)):=by
   have:∀ ys:List (Addr×Key×V),(∀ z∈ys,z∈zs)→KV (ys.map (·.2)) (ys.map λz=>(z.2.1,(f z).2)):=by
    intro ys
    induction ys with
    | nil=>intro _; exact .nil
    | cons z ys ih=>intro hm; exact .cons ⟨rfl,(hf z (hm z (by simp))).2.1⟩ (ih λy hy=>hm y (by simp [hy]))
   exact this zs λz hz=>hz
  have hdk:∀ H':Hp,ba X.prog X.w H' h' s.heap.objs.size (.dK (zs.map (·.2))):=λH'=>gY (Nat.le_of_lt (aQ (by rw [List.length_map]; exact hz))) (beq_eq_false_iff_ne.mpr (Ne.symm (Nat.ne_of_lt I.big))) hrel hd
  rcases q with q | q
  ·exact ⟨.ref s.heap.objs.size,_,I.laid (t':=tk) (o:=.frz ob (.dK (zs.map (·.2)))) hkeep (Nat.le_refl _) ⟨hob,hdk _⟩,rfl,q _ ob (I.hok.fresh (Nat.le_refl _))⟩
  ·exact ⟨.ref s.heap.objs.size,_,I.laid (t':=tk) (o:=.dK (zs.map (·.2))) hkeep (Nat.le_refl _) (hdk _),rfl,q _ (I.hok.fresh (Nat.le_refl _))⟩
theorem nE (hc:X.calm=true):bG X (.type "dict") (λxs H Q=>∃ l,∃ zs:List (Addr×Key×V),xs=[.ref l]∧H l=some (.lst ((zs.map (·.1)).map V.ref))∧(∀ z∈zs,H z.1=some (.tup [kV z.2.1,z.2.2]))∧zs.length≤1000∧(zs.map (·.2.1)).Nodup∧∀ d o,H d=none→Q (.ref d) (upd H d (.frz o (.dK (zs.map (·.2)))))) :=
 λpins s σ H xs us Q I r ⟨l,zs,h1,h2,h3,h4,h5,q⟩=>gk hc pins s σ H xs us Q I r ⟨l,zs,h1,h2,h3,h4,h5,.inl q⟩
theorem lN (hc:X.calm=true):bG X (.type "dict") (λxs H Q=>∃ l,∃ zs:List (Addr×Key×V),xs=[.ref l]∧H l=some (.lst ((zs.map (·.1)).map V.ref))∧(∀ z∈zs,H z.1=some (.tup [kV z.2.1,z.2.2]))∧zs.length≤1000∧(zs.map (·.2.1)).Nodup∧∀ d,H d=none→Q (.ref d) (upd H d (.dK (zs.map (·.2))))) :=
 λpins s σ H xs us Q I r ⟨l,zs,h1,h2,h3,h4,h5,q⟩=>gk hc pins s σ H xs us Q I r ⟨l,zs,h1,h2,h3,h4,h5,.inr q⟩
end
noncomputable def ww (h:Heap) (d:Addr) (es:Array DictEntry) (ep:Nat):Prop:=∃ o,h.get? d=some o∧o.ExactDict∧o.data = .dict es ep
section
variable {prog:Program} {w:World} {A:Around} {E:Value→Shared→Prop} {s:Shared}
theorem rM {d:Addr} {es:Array DictEntry} {ep:Nat} {Q:Value→Shared→Prop} (hd:(d == sysModules)=false) (hm:ww s.heap d es ep)
  (hQ:Q (.ref s.heap.objs.size) { s with heap:=s.heap.push { cls:=.type "dict_keyiterator",data:=.fields #[.ref d,.int 0 0,.int es.size 0,.int ep 0] } }) :
  wpAny (model prog w) A (pyIter (.ref d)) Q E s:=by
 obtain ⟨o,ho,hc,hdat⟩:=id hm
 have hT:s.TypeIs (.ref d) "dict":=⟨o,ho,hc.1⟩
 refine wpAny_pyIter_slot hT PySem.F.slot_dict_iter (wpAny_call_entry PySem.F.slot_dict_iter hT PySem.F.entry_dict_iter ?_ (PySem.F.args_dict_iter_1 _))
 unfold Builtin.«dict.__iter__»
 refine wpAny_bind ?_
 unfold Builtin.Dict.dictSlotNone
 refine wpAny_bind (wpAny_notOrdered_dict hT ?_)
 show wpAny _ _ (pure (Value.ref d)) _ _ s
 refine wpAny_pure ?_
 show wpAny _ _ (Builtin.Dict.showsAll d >>= _) _ _ s
 unfold Builtin.Dict.showsAll
 rw [if_neg (by rw [hd]; exact Bool.false_ne_true)]
 refine wpAny_bind (wpAny_pure ?_)
 refine wpAny_bind (wpAny_dictEntries ho hdat ?_)
 refine wpAny_bind (wpAny_dictEpoch ho hdat ?_)
 refine wpAny_bind (wpAny_newObj_type (wpAny_pure ⟨_,rfl,"dict_keyiterator",_,⟨_,Heap.get?_push_size _ rfl,rfl⟩,PySem.F.slot_dict_keyiterator_next.lookup,?_⟩))
 simpa [rawInt] using hQ
theorem rN {it d:Addr} {i ep:Nat} {es:Array DictEntry} {e:DictEntry} {Q:Option Value→Shared→Prop} (hit:s.heap.IsKeyIter it d i es.size ep) (hm:ww s.heap d es ep) (hx:es[i]? = some e)
  (hQ:∀ h',h'.IsKeyIter it d (i+1) es.size ep→Heap.SameBut it s.heap h'→Q (some e.key) { s with heap:=h' }) :
  wpAny (model prog w) A (pyNext (.ref it)) Q E s:=by
 obtain ⟨o,ho,hc,hd⟩:=id hit
 obtain ⟨od,hod,hcd,hdd⟩:=id hm
 unfold pyNext
 refine wpAny_bind (wpAny_attempt (wpAny_callSpecial?_slot (name:=Str.ofString "__next__") hit.typeIs PySem.F.slot_dict_keyiterator_next
  (wpAny_call_entry PySem.F.slot_dict_keyiterator_next hit.typeIs PySem.F.entry_dict_keyiterator_next ?_ (PySem.F.args_dict_keyiterator_next_1 _))))
 refine wpAny_bind (wpAny_pure ?_)
 refine wpAny_bind ?_
 refine wpAny_bind ?_
 first | refine wpAny_bind (wpAny_typeNameOfWhole_keyiter hit.typeIs (wpAny_pure ?_)) | refine wpAny_bind (wpAny_typeNameOf_keyiter hit.typeIs (wpAny_pure ?_))
 refine wpAny_bind (wpAny_fieldsOf ho hd ?_)
 have hown:Builtin.Dict_items.ownsTuple "dict_keyiterator" = false:=by decide
 simp only [hown,Bool.false_eq_true,if_false]
 show wpAny _ _ (if (Value.ref d == Value.none)=true then _ else _) _ _ s
 rw [if_neg (show ¬ ((Value.ref d == Value.none)=true) from Bool.false_ne_true)]
 refine wpAny_bind (wpAny_pure ?_)
 refine wpAny_bind (wpAny_dictEntries hod hdd ?_)
 rw [if_neg (by simp)]
 refine wpAny_bind (wpAny_pure ?_)
 refine wpAny_bind (wpAny_dictEpoch hod hdd ?_)
 rw [if_neg (by simp)]
 refine wpAny_pure ?_
 have hlt':i<es.size:=(Array.getElem?_eq_some_iff.mp hx).1
 have he:es[i]=e:=(Array.getElem?_eq_some_iff.mp hx).2
 simp only [show ¬ ((i:Int)<0) from by omega,if_false,Int.toNat_natCast,Array.getElem?_eq_getElem hlt']
 refine wpAny_bind ?_
 first | refine wpAny_bind (wpAny_typeNameOfWhole_keyiter hit.typeIs (wpAny_pure ?_)) | refine wpAny_bind (wpAny_typeNameOf_keyiter hit.typeIs (wpAny_pure ?_))
 refine wpAny_bind (wpAny_isOneOf_keyiter hit.typeIs ?_)
 show wpAny _ _ (setField (.ref it) 1 (rawInt ((i:Int)+1)) >>= _) _ _ s
 refine wpAny_bind (wpAny_setField ho hd (by simp) ?_)
 have hit':(s.heap.update it (Obj.mapFields (·.setIfInBounds 1 (rawInt ((i:Int)+1))))).IsKeyIter it d (i+1) es.size ep :=
  ⟨_,Heap.get?_update_self _ ho (Obj.isFreed_of_fields (Obj.data_mapFields hd _)),(Obj.cls_mapFields ..).trans hc,by rw [Obj.data_mapFields hd]; simp [rawInt]⟩
 refine wpAny_bind (wpAny_holding ?_)
 refine wpAny_bind (wpAny_isOneOf_keyiter (s:={ s with heap:=s.heap.update it (Obj.mapFields (·.setIfInBounds 1 (rawInt ((i:Int)+1)))) }) hit'.typeIs ?_)
 show wpAny _ _ (pure es[i].key) _ _ _
 rw [he]
 exact wpAny_pure (wpAny_pure ⟨_,rfl,wpAny_pure (hQ _ hit' (Heap.SameBut.update ..))⟩)
theorem ul {it d:Addr} {i ep:Nat} {es:Array DictEntry} {Q:Option Value→Shared→Prop} (hh:A.handled=none) (hit:s.heap.IsKeyIter it d i es.size ep) (hm:ww s.heap d es ep) (hge:es.size≤i)
  (hQ:∀ h',Heap.ExtBut it s.heap h'→Q none { s with heap:=h' }):wpAny (model prog w) A (pyNext (.ref it)) Q E s:=by
 obtain ⟨o,ho,hc,hd⟩:=id hit
 obtain ⟨od,hod,hcd,hdd⟩:=id hm
 unfold pyNext
 refine wpAny_bind (wpAny_attempt (wpAny_callSpecial?_slot (name:=Str.ofString "__next__") hit.typeIs PySem.F.slot_dict_keyiterator_next
  (wpAny_call_entry PySem.F.slot_dict_keyiterator_next hit.typeIs PySem.F.entry_dict_keyiterator_next ?_ (PySem.F.args_dict_keyiterator_next_1 _))))
 refine wpAny_bind (wpAny_pure ?_)
 refine wpAny_bind ?_
 refine wpAny_bind ?_
 first | refine wpAny_bind (wpAny_typeNameOfWhole_keyiter hit.typeIs (wpAny_pure ?_)) | refine wpAny_bind (wpAny_typeNameOf_keyiter hit.typeIs (wpAny_pure ?_))
 refine wpAny_bind (wpAny_fieldsOf ho hd ?_)
 have hown:Builtin.Dict_items.ownsTuple "dict_keyiterator" = false:=by decide
 simp only [hown,Bool.false_eq_true,if_false]
 show wpAny _ _ (if (Value.ref d == Value.none)=true then _ else _) _ _ s
 rw [if_neg (show ¬ ((Value.ref d == Value.none)=true) from Bool.false_ne_true)]
 refine wpAny_bind (wpAny_pure ?_)
 refine wpAny_bind (wpAny_dictEntries hod hdd ?_)
 rw [if_neg (by simp)]
 refine wpAny_bind (wpAny_pure ?_)
 refine wpAny_bind (wpAny_dictEpoch hod hdd ?_)
 rw [if_neg (by simp)]
 refine wpAny_pure ?_
 simp only [show ¬ ((i:Int)<0) from by omega,if_false,Int.toNat_natCast,Array.getElem?_eq_none hge]
 refine wpAny_bind ?_
 first | refine wpAny_bind (wpAny_typeNameOfWhole_keyiter hit.typeIs (wpAny_pure ?_)) | refine wpAny_bind (wpAny_typeNameOf_keyiter hit.typeIs (wpAny_pure ?_))
 show wpAny _ _ (setField (.ref it) 0 .none >>= _) _ _ s
 refine wpAny_bind (wpAny_setField ho hd (by simp) ?_)
 show wpAny _ _ (newExc (.type "StopIteration") [] >>= _) _ _ _
 refine wpAny_bind ?_
 simp only [newExc,newTuple]
 refine wpAny_bind (wpAny_newObj_type ?_ (by size_fits))
 refine wpAny_bind (m:=firstArgMember _ _) (wpAny_of_eq (a:=Value.none) (by first | rfl | (simp only [firstArgMember]; rfl)) ?_)
 refine wpAny_newObj_type ?_ (by size_fits)
 simp only [raiseNew]
 refine wpAny_bind (wpAny_handled ?_)
 rw [show A.in1.handled=none from hh]
 refine wpAny_bind (wpAny_pure (wpAny_throw ?_))
 refine wpAny_bind (wpAny_isInstance (T:="StopIteration") (b:=true) ⟨_,Heap.get?_push_size _ rfl,rfl⟩ isSubtype_stop ?_)
 exact wpAny_pure (hQ _ (((Heap.SameBut.update ..).extBut.push _).push _))
end
noncomputable def Itk (d:Addr) (o:Obj) (u:HO) (ks:List V):It:=⟨λi H=>H d=some (.frz o u)∧i<ks.length,λi H x H'=>H'=H∧ks[i]? = some x,λi H=>H d=some (.frz o u)∧ks.length≤i⟩
theorem qh {P:Program} {w:World} {K:PySem.W.Frag} {tg:Expr} {d it:Addr} {o:Obj} {u:HO} {es:Array DictEntry} {ep:Nat} {ks:List V} (hx:o.ExactDict) (hd:o.data = .dict es ep) (hv:au ks (es.toList.map (·.key))) :
  Turn P w K tg (Itk d o u ks) [it] it (λi h=>h.IsKeyIter it d i es.size ep) where
 mem:=by simp
 obj:=λi h st b hb=>by
  have e:b=it:=by simpa using hb
  subst e
  obtain ⟨o,e,c,d⟩:=st
  exact ⟨o,e,λv z=>by rw [d] at z; cases z⟩
 keep:=λi h h' st k=>st.at λo e=>k it (by simp) o e
 item:=by
  intro X hP hw hK hc i pins s σ H E I hf st hg
  subst hP hw hK
  obtain ⟨hH,hi⟩:=hg
  have ho:=(I.hok d _ hH).1
  have hl:ks.length=es.size:=by rw [hv.length,List.length_map,Array.length_toList]
  have hi':i<es.size:=by omega
  obtain ⟨v,hv1,hv2⟩:=hv.get (List.getElem?_eq_getElem hi)
  obtain ⟨f0,f1,f2,f3,f4,f5⟩:=hf it (by simp)
  have ev:v=es[i].key:=by
   rw [List.getElem?_map,Array.getElem?_toList,Array.getElem?_eq_getElem hi'] at hv1
   exact (Option.some.inj hv1).symm
  refine rN st ⟨o,ho,hx,hd⟩ (Array.getElem?_eq_getElem hi') λh' st' sb=>?_
  have I1:Inv X pins σ H { s with heap:=h' }:=I.turned (t':=s.toks) (λb o hb e=>(sb.2 b hb).trans e) f0 f1 f3 f4 f5
  obtain ⟨oi,e,c,dd⟩:=id st'
  exact ⟨_,rfl,kx (s:={ s with heap:=h' }) e c dd (by decide) ⟨ks[i],H,I1,ev ▸ hv2,⟨rfl,List.getElem?_eq_getElem hi⟩,st',λb hb=>(hf b hb).1⟩⟩
 done:=by
  intro X hP hw hK hc i pins s σ H E I hf st hg
  subst hP hw hK
  obtain ⟨hH,hi⟩:=hg
  have ho:=(I.hok d _ hH).1
  have hl:ks.length=es.size:=by rw [hv.length,List.length_map,Array.length_toList]
  obtain ⟨f0,f1,f2,f3,f4,f5⟩:=hf it (by simp)
  exact ul (I.ok.hd hc) st ⟨o,ho,hx,hd⟩ (by omega) λh' eb=>⟨rfl,I.turned (t':=s.toks) (λb o hb e=>eb b o hb e) f0 f1 f3 f4 f5⟩
 self:=λ_ _ _ _ _ st h=>wpAny_pyIter_keyiter st h
section
variable {X:Cx} {tg:Expr}
noncomputable def iDF (td:TE):TI:=λσ H R=>td σ H λv H1=>∃ d o kvs,v = .ref d∧H1 d=some (.frz o (.dK kvs))∧R (Itk d o (.dK kvs) (kvs.map λp=>kV p.1)) H1
theorem vi {l:Expr} {tl:TE} (hl:PE X l tl):PI X tg l (iDF tl):=by
 intro pins s σ H R I h
 refine thn (hl pins s σ H _ I h) λv s1 hpt=>?_
 obtain ⟨x,H1,I1,r1,q1⟩:=hpt
 obtain ⟨d,o,kvs,e,hH,q⟩:=q1
 subst e
 cases r1
 obtain ⟨ho,_,hsm,vs,rel,o',es,ep,ho',hx,hd,hk,hp,hn⟩:=I1.hok d _ hH
 rw [ho] at ho'
 cases ho'
 refine rM hsm ⟨o,ho,hx,hd⟩ ?_
 refine ⟨s1.heap.objs.size,[s1.heap.objs.size],_,_,H1,rfl,I1.kept (t':=s1.toks) λb o e=>Heap.get?_push_of_some _ e,qh hx hd ?_,⟨_,Heap.get?_push_size _ rfl,rfl,rfl⟩,λb hb=>?_,q⟩
 ·have key:∀ (es:List DictEntry) (vs:List (Key×Value)) (kvs:List (Key×V)),Pairs (aD X.prog X.w) es vs→KV kvs vs→au (kvs.map λp=>kV p.1) (es.map (·.key)):=by
   intro es vs kvs hp
   induction hp generalizing kvs with
   | nil=>intro r; cases r; exact .nil
   | cons h1 h2 _ ih =>
    intro r
    cases r with
    | cons r1 r2 =>
     refine .cons ?_ (ih _ r2)
     dsimp only
     rw [r1.1]
     rcases aS h1 with ⟨i,t,e1,e2⟩ | ⟨x,t,e1,e2⟩
     ·rw [e1,e2]; exact ⟨t,rfl⟩
     ·rw [e1,e2]; exact ⟨t,rfl⟩
  exact key _ _ _ hp rel
 ·have e:b=s1.heap.objs.size:=by simpa using hb
  subst e
  exact I1.fpOk (Nat.le_refl _) (I1.hok.fresh (Nat.le_refl _))
end
theorem qi:typeLookup (.type "list_reverseiterator") "__len__" = pure none:=by rw [typeLookup_type,builtinLookup_eq_fast]; kernel_rfl
theorem rO:typeLookup (.type "list_reverseiterator") "__length_hint__" = pure (some (.builtin "list_reverseiterator.__length_hint__")):=by rw [typeLookup_type,builtinLookup_eq_fast]; kernel_rfl
theorem um:isSubtype (.type "list_reverseiterator") (.type "list_reverseiterator")=pure true:=by rw [isSubtype_type]; kernel_rfl
section
variable {prog:Program} {w:World} {A:Around} {E:Value→Shared→Prop} {s:Shared}
theorem lO {I l:Addr} {items:Array Value} {Q:List Value→Shared→Prop} (hh:A.handled=none) (hI:s.heap.IsRevIter I l ((items.size:Int) - 1)) (hl:s.heap.IsList l items) (hne:l≠I) (hn:items.size≤sizeLine)
  (hQ:∀ h' tk acc,(∀ b o,b≠I→s.heap.get? b=some o→h'.get? b=some o)→acc=items.toList.reverse→Q acc { s with heap:=h',toks:=tk }):wpAny (model prog w) A (collect (.ref I)) Q E s:=by
 have W:=(Walks.listRev (prog:=prog) (w:=w) (show A.in1.handled=none by simp [hh]) I l hne items).toS
 obtain ⟨oI,hoI,_⟩:=id hI
 obtain ⟨oL,hoL,_⟩:=id hl
 have ltI:I<s.heap.objs.size:=Heap.lt_size hoI
 have ltL:l<s.heap.objs.size:=Heap.lt_size hoL
 have hSf:s.heap.objs.size∉[I,l]:=by
  simp only [List.mem_cons,List.not_mem_nil,or_false,not_or]
  exact ⟨Nat.ne_of_gt ltI,Nat.ne_of_gt ltL⟩
 have hSI:s.heap.objs.size≠I:=Nat.ne_of_gt ltI
 have key:∀ (s':Shared) (acc:Array Value),Moved [I] (λa b=>b=a) s s'→ItemsOf (λi v=>items[items.size - 1 - i]? = some v) acc items.size→Q acc.toList s':=by
  intro s' acc hm hacc
  obtain ⟨h',g',d',tk',os'⟩:=s'
  have eg:g'=s.gens:=hm.gens
  have ed:d'=s.drawn:=hm.drawn
  have eo:os'=s.os:=hm.os
  subst eg; subst ed; subst eo
  refine hQ h' tk' acc.toList (λb o hb e=>hm.heap b o (by simpa using hb) e) ?_
  apply List.ext_getElem?
  intro i
  rw [Array.getElem?_toList]
  by_cases hi:i<items.size
  ·have hi':i<acc.size:=by rw [hacc.1]; exact hi
   have ha:acc[i]? = some acc[i]:=Array.getElem?_eq_getElem hi'
   rw [List.getElem?_reverse (by simpa using hi),ha,Array.length_toList,Array.getElem?_toList]
   exact (hacc.2 i _ ha).symm
  ·rw [Array.getElem?_eq_none (by rw [hacc.1]; omega),List.getElem?_eq_none (by simp; omega)]
 have st0:∀ o,(λ(i:Nat) (h:Heap)=>i≤items.size∧h.IsRevIter I l ((items.size:Int) - 1 - (i:Int))∧h.IsList l items) 0 (s.heap.push o):=λo=>by
  refine ⟨Nat.zero_le _,?_,?_⟩
  ·rw [show (items.size:Int) - 1 - ((0:Nat):Int)=(items.size:Int) - 1 by omega]
   exact hI.at λo' e=>Heap.get?_push_of_some _ e
  ·exact hl.push _
 unfold collect
 refine wpAny_bind (wpAny_runValue (codeAny_builtin PySem.F.entry_proto_collect ?_))
 rw [Around.under_plainId PySem.F.plain_proto_collect _]
 show wpAny _ A.in1 (newList [] >>= λl=>again (.builtin "list.__iadd__" ⟨[l,.ref I],[]⟩)) _ _ s
 refine wpAny_bind (wpAny_newObj_type (wpAny_pure ⟨plainId_quiet PySem.F.plain_list_iadd _,codeAny_builtin PySem.F.entry_list_iadd ?_⟩))
 rw [Around.under_plainId PySem.F.plain_list_iadd _]
 have hTI:Shared.TypeIs { s with heap:=s.heap.push { cls:=.type "list",data:=.seq ([]:List Value).toArray } } (.ref I) "list_reverseiterator":=((st0 _).2.1).typeIs
 have h1:Builtin.List.listSameRef (.ref s.heap.objs.size) (.ref I)=false:=by simp [Builtin.List.listSameRef,hSI]
 show wpAny _ A.in1 (Builtin.List.listExtendWith (.ref s.heap.objs.size) (.ref I) (.ref s.heap.objs.size)) _ _ _
 unfold Builtin.List.listExtendWith
 refine wpAny_bind (wpAny_typeOf hTI ?_)
 rw [if_neg (by rw [h1]; decide)]
 refine wpAny_bind (W.self 0 _ _ _ (st0 _) (wpAny_bind (wpAny_holding ?_)))
 unfold Builtin.List.listLengthHint
 refine wpAny_bind (wpAny_specialOf hTI qi ?_)
 show wpAny _ A.in1 (specialOf (Value.ref I) (Str.ofString "__length_hint__") >>= _) _ _ _
 refine wpAny_bind (wpAny_specialOf hTI rO ?_)
 generalize hid:("list_reverseiterator.__length_hint__":String)=id0
 wp_delta
 rw [show splitId id0=some ("list_reverseiterator","__length_hint__") from by subst hid; decide +kernel]
 subst hid
 refine wpAny_bind (wpAny_isInstance (b:=true) hTI um (wpAny_pure ?_))
 rw [if_neg (by decide)]
 have hS:(s.heap.push { cls:=.type "list",data:=.seq ([]:List Value).toArray }).get? s.heap.objs.size=some { cls:=.type "list",data:=.seq ([]:List Value).toArray }:=Heap.get?_push_size _ rfl
 refine wpAny_pure ⟨plainId_quiet PySem.F.plain_extend_loop _,codeAny_extend_loopS W hn _ hSf _ items.size 0 _ _ _ rfl (Nat.zero_le _) (st0 _) hS (ItemsOf.nil _) λs' acc c hm hS' hacc=>?_⟩
 show wpAny _ A (load s.heap.objs.size >>= _) _ _ s'
 exact wpAny_bind (wpAny_load hS' (wpAny_pure (key s' acc (Moved.drop_new (o:={ cls:=.type "list",data:=.seq ([]:List Value).toArray }) (tk:=s.toks) hm (Nat.le_refl _)) hacc)))
theorem il {I l:Addr} {items:Array Value} {Q:Value→Shared→Prop} (hh:A.handled=none) (hI:s.heap.IsRevIter I l ((items.size:Int) - 1)) (hl:s.heap.IsList l items) (hne:l≠I) (hn:items.size≤sizeLine)
  (hQ:∀ (h':Heap) (tk:Nat),(∀ b o,b≠I→s.heap.get? b=some o→h'.get? b=some o)→Q (.ref h'.objs.size) { s with heap:=h'.push { cls:=.type "tuple",data:=.seq items.toList.reverse.toArray },toks:=tk }) :
  wpAny (model prog w) A (call (.type "tuple") [.ref I]) Q E s:=by
 refine callType_codes (Q₁:=λobj s₁=>s₁.TypeIs obj "tuple"∧Q obj s₁) PySem.F.called_tuple (PySem.F.typeCall_tuple_1 _) PySem.F.entry_object_init ?_ λobj s₁ h₁=>?_
 ·refine codeAny_of_tree ?_
  show wpAny _ A.in1.in1 (do checkBuiltinCall "tuple.__new__" ⟨[.type "tuple",.ref I],[]⟩; again (.builtin "tuple.__new__" ⟨[.type "tuple",.ref I],[]⟩)) _ _ s
  refine wpAny_bind (wpAny_of_eq (PySem.F.newCall_tuple_1 _) (wpAny_pure ⟨plainId_quiet PySem.F.plain_tuple_new _,codeAny_builtin PySem.F.entry_tuple_new ?_⟩))
  rw [Around.under_plainId PySem.F.plain_tuple_new _]
  have hsub:=sub_tuple_self
  have hinit:=init_tuple_lookup
  have hmh:=madeHere_tuple
  have hTI:s.TypeIs (.ref I) "list_reverseiterator":=hI.typeIs
  wp_walk using wpAny_typeOf hTI,lO (show A.in1.in1.handled=none by simp [hh]) hI hl hne hn
  intro h' tk acc hk hacc
  subst hacc
  refine wpAny_bind (wpAny_pure ?_)
  show wpAny _ _ (Builtin.Tuple.tupleExact items.toList.reverse.toArray >>= λv=>ret v) _ _ _
  unfold Builtin.Tuple.tupleExact
  have hsz:items.toList.reverse.toArray.size≤sizeLine:=by simpa using hn
  exact wpAny_bind (wpAny_newObj_type (wpAny_pure ⟨⟨_,Heap.get?_push_size _ rfl,rfl⟩,hQ h' tk hk⟩) hsz)
 ·exact ⟨h₁.1,PySem.F.args_object_init_2 obj _,object_init_meets PySem.F.called_tuple.init.lookup PySem.F.called_tuple.made (by decide) prog w A.in1 _ s₁ ⟨h₁.1,rfl,h₁.2⟩⟩
end
section
variable {X:Cx}
noncomputable def uo (te:TE):TE:=λσ H Q=>iU te pH σ H λvs H1=>∃ l ys,vs=[.ref l]∧H1 l=some (.lst ys)∧∀ p,H1 p=none→Q (.ref p) (upd H1 p (.tup ys.reverse))
theorem qj {e:Expr} {te:TE} {q1 q2 p1 p2:Pos} (hc:X.calm=true) (hg:Gl X "tuple") (hm:X.mg "tuple" = none) (hg':Gl X "reversed") (hm':X.mg "reversed" = none) (he:PE X e te)
  (s1:starEach [e] X.env=[(false,eval e X.env)]:=by rfl) (s2:starEach [.Call (.Name "reversed" q1) [e] [] p1] X.env=[(false,eval (.Call (.Name "reversed" q1) [e] [] p1) X.env)]:=by rfl) :
  PE X (.Call (.Name "tuple" q2) [.Call (.Name "reversed" q1) [e] [] p1] [] p2) (uo te):=by
 intro pins s σ H Q I h
 refine wpAny_Call_Name_kw (dz I hg hm PyProof.Rows.boot_tuple ?_ (by decide) (by decide))
 refine PyProof.Rows.callWith_type1 ?_ s2 rfl
 rw [s2]
 refine Calls.spliced_cons ?_
 refine wpAny_Call_Name_kw (dz I hg' hm' PyProof.Rows.boot_reversed ?_ (by decide) (by decide))
 have hA:PA X [e] (iU te pH):=aa he ae s1
 refine PyProof.Rows.callWith_type1 (thn (hA p1 pins s σ H _ I h) λus s3 ⟨vs,H1,I1,r1,q1⟩=>?_) s1 rfl
 obtain ⟨l,ys,rfl,hl,q⟩:=q1
 obtain ⟨u,rfl,ru⟩:=cy r1
 cases ru
 obtain ⟨hz,its,n,rv,ho⟩:=I1.hok l _ hl
 have hL:s3.heap.IsList l its.toArray:=⟨_,ho,rfl,n,rfl⟩
 have hlen:its.toArray.size≤sizeLine:=by rw [List.size_toArray,← rv.length]; exact hz
 refine call_reversed_list hL (Calls.spliced_nil ?_)
 have ltl:l<s3.heap.objs.size:=Heap.lt_size ho
 refine il (s:={ s3 with heap:=s3.heap.push (revObj l ((its.toArray.size:Int) - 1)) }) (items:=its.toArray) (I.ok.hd hc) ⟨_,Heap.get?_push_size _ rfl,rfl,rfl⟩ (hL.push _) (Nat.ne_of_lt ltl) hlen λh' tk hk=>?_
 have k0:∀ b o,s3.heap.get? b=some o→h'.get? b=some o:=λb o e=>hk b o (Nat.ne_of_lt (Heap.lt_size e)) (Heap.get?_push_of_some _ e)
 have I2:Inv X pins σ H1 { s3 with heap:=h',toks:=tk }:=I1.kept (t':=tk) k0
 have er:its.toArray.toList.reverse.toArray=its.reverse.toArray:=by simp
 rw [er]
 have I3:Inv X pins σ (upd H1 h'.objs.size (.tup ys.reverse)) { s3 with heap:=h'.push { cls:=.type "tuple",data:=.seq its.reverse.toArray },toks:=tk } :=
  I2.laid (t':=tk) (λb o e=>Heap.get?_push_of_some _ e) (Nat.le_refl _) (show ba X.prog X.w _ _ _ (.tup ys.reverse) from ⟨by rw [List.length_reverse]; exact hz,its.reverse,rv.reverse,IsTup.new _ _⟩)
 exact ⟨.ref h'.objs.size,_,I3,rfl,q _ (I2.hok.fresh (Nat.le_refl _))⟩
end
end L2
namespace HT
open PySem PyProof.Rows
noncomputable def dD (x y:Str):Bool:=decide (x.cps.toList<y.cps.toList)
noncomputable def bA:List Str→List Str→Bool
 | [],[]=>false
 | [],_ :: _=>true
 | _ :: _,[]=>false
 | x :: xs,y :: ys=>if x=y then bA xs ys else dD x y
theorem cx (x y:Str) (xs ys:List Str):bA (x :: xs) (y :: ys)=if x=y then bA xs ys else dD x y:=rfl
theorem jM:bA [] []=false:=rfl
theorem iN (y:Str) (ys:List Str):bA [] (y :: ys)=true:=rfl
theorem iO (x:Str) (xs:List Str):bA (x :: xs) []=false:=rfl
theorem uq {x y:Str} (h:x.cps.toList=y.cps.toList):x=y:=by
 obtain ⟨x⟩:=x
 obtain ⟨y⟩:=y
 congr
 exact Array.toList_inj.mp h
theorem qk (x:Str):dD x x=false:=decide_eq_false (List.lt_irrefl _)
theorem rP {x y z:Str} (h1:dD x y=true) (h2:dD y z=true):dD x z=true:=by
 unfold dD at *
 rw [decide_eq_true_eq] at *
 exact List.lt_trans h1 h2
theorem ql {x y:Str} (h:x≠y):dD x y=true∨dD y x=true:=by
 unfold dD
 rw [decide_eq_true_eq,decide_eq_true_eq]
 rcases Decidable.em (x.cps.toList<y.cps.toList) with a | a
 ·exact .inl a
 ·refine .inr ?_
  have hle:y.cps.toList≤x.cps.toList:=List.not_lt.mp a
  rcases Decidable.em (y.cps.toList<x.cps.toList) with b | b
  ·exact b
  ·have hle2:x.cps.toList≤y.cps.toList:=List.not_lt.mp b
   exact absurd (uq (List.le_antisymm hle2 hle)) h
theorem bD:∀ p:List Str,bA p p=false
 | []=>rfl
 | x :: p=>by rw [cx,if_pos rfl]; exact bD p
theorem gL:∀ {p q r:List Str},bA p q=true→bA q r=true→bA p r=true
 | [],[],_,h,_=>by cases h
 | [],_ :: _,[],_,h=>by cases h
 | [],_ :: _,_ :: _,_,_=>rfl
 | _ :: _,[],_,h,_=>by cases h
 | _ :: _,_ :: _,[],_,h=>by cases h
 | x :: p,y :: q,z :: r,h1,h2=>by
  rw [cx] at h1 h2 ⊢
  by_cases a:x=y
  ·subst a
   rw [if_pos rfl] at h1
   by_cases b:x=z
   ·rw [if_pos b] at h2 ⊢
    exact gL h1 h2
   ·rw [if_neg b] at h2 ⊢
    exact h2
  ·rw [if_neg a] at h1
   by_cases b:y=z
   ·subst b
    rw [if_neg a]
    exact h1
   ·rw [if_neg b] at h2
    have h3:=rP h1 h2
    have c:x≠z:=λe=>by
     subst e
     rw [qk] at h3
     cases h3
    rw [if_neg c]
    exact h3
theorem lP:∀ {p q:List Str},p≠q→bA p q=true∨bA q p=true
 | [],[],h=>absurd rfl h
 | [],_ :: _,_=>.inl rfl
 | _ :: _,[],_=>.inr rfl
 | x :: p,y :: q,h=>by
  rw [cx,cx]
  by_cases a:x=y
  ·subst a
   rw [if_pos rfl,if_pos rfl]
   exact lP λe=>h (by rw [e])
  ·rw [if_neg a,if_neg (Ne.symm a)]
   exact ql a
theorem rQ (A:Around) (s:Shared) (a:Str) (t:Tok) (c:Str) (u:Tok):∃ e,SeqAt.EqAt A s (.str a t) (.str c u) e∧(e=true↔a=c) :=
 ⟨decide (a=c),λprog w E Q h=>wpAny_eqBool_str h,by simp⟩
theorem rR (A:Around) (s:Shared) (a:Str) (t:Tok) (c:Str) (u:Tok) (prog:Program) (w:World) (E:Value→Shared→Prop) (Q:Value→Shared→Prop) (h:Q (.bool (dD a c)) s) :
  wpAny (model prog w) A (richCompare .Lt (.str a t) (.str c u)) Q E s :=
 (PyProof.Rows.lt_str h:wpAny (model prog w) A (compareOp .Lt (.str a t) (.str c u)) Q E s)
section
open PySem.SeqAt
open PySem.AutoSeq1 (wpAny_loadPart')
open PySem.MeetsSeq PySem.MeetsSeq2 PySem.MeetsSeq3
theorem iP (l b:Addr) (items items2:Array Value) (n n2:Nat) (dd dd2:Option Addr) (sl sl2:Array (Option Value)) (ns ms:List Str) (hi:StrsAre items.toList ns) (hj:StrsAre items2.toList ms) :
  Meets (Builtin.«tuple.__lt__» ⟨[.ref l,.ref b],[]⟩)
   (λ_ R s=>s.heap.get? l=some { cls:=.type "tuple",dict:=dd,data:=.seq items n,slots:=sl }∧s.heap.get? b=some { cls:=.type "tuple",dict:=dd2,data:=.seq items2 n2,slots:=sl2 } ∧
    R (.ok (.ret (.bool (bA ns ms)))) s) :=
 .of_wp λprog w A R s h=>by
  obtain ⟨hp,g,d,tk,os⟩:=s; obtain ⟨hl,hb,h⟩:=h
  have f2:=AutoSeq1.sub_tuple_tuple
  have z1:items.size=ns.length:=by rw [← hi.length]; simp
  have z2:items2.size=ms.length:=by rw [← hj.length]; simp
  wp_walk using wpAny_loadPart' hl,wpAny_loadPart' hb,wpAny_forIn_list _ (λrest b s'=>b.1=none∧s'=⟨hp,g,d,tk,os⟩∧∃ (vs ws:List Value) (ns' ms':List Str),rest=vs.zip ws ∧
   StrsAre vs ns'∧StrsAre ws ms'∧ns'.length+items2.size=ms'.length+items.size∧R (.ok (.ret (.bool (bA ns' ms')))) ⟨hp,g,d,tk,os⟩) _
  case turn =>
   rintro ⟨y,x⟩ rest b s' ⟨hb',rfl,vs,ws,ns',ms',hz,hvi,hwi,hlen,hR⟩
   cases hvi with
   | nil=>rw [List.zip_nil_left] at hz; cases hz
   | cons a t hvi' =>
    cases hwi with
    | nil=>rw [List.zip_nil_right] at hz; cases hz
    | cons c u hwi' =>
     rw [List.zip_cons_cons] at hz
     injection hz with hyx hrest
     injection hyx with hy hx
     subst hy hx
     rw [cx] at hR
     simp only [List.length_cons] at hlen
     obtain ⟨e,he,hiff⟩:=rQ A.in1 ⟨hp,g,d,tk,os⟩ a t c u
     refine wpAny_bind (he prog w _ _ ?_)
     cases e with
     | true =>
      rw [if_pos (hiff.mp rfl)] at hR
      wp_walk
      exact ⟨rfl,rfl,_,_,_,_,hrest,hvi',hwi',by omega,hR⟩
     | false =>
      rw [if_neg (λq=>absurd (hiff.mpr q) Bool.false_ne_true)] at hR
      have hri:=rR A.in1 ⟨hp,g,d,tk,os⟩ a t c u prog w
      wp_walk using hri
      exact ⟨_,rfl,by simpa using hR⟩
  case fin =>
   rintro ⟨b1,b2⟩ s' ⟨hb',rfl,vs,ws,ns',ms',hz,hvi,hwi,hlen,hR⟩
   simp only at hb'
   subst hb'
   have hv:bA ns' ms'=decide (items.size<items2.size):=by
    cases hvi with
    | nil =>
     cases hwi with
     | nil =>
      simp only [List.length_nil] at hlen
      rw [jM]
      exact (decide_eq_false (by omega)).symm
     | cons c u hw =>
      simp only [List.length_nil,List.length_cons] at hlen
      rw [iN]
      exact (decide_eq_true (by omega)).symm
    | cons a t hv =>
     cases hwi with
     | nil =>
      simp only [List.length_nil,List.length_cons] at hlen
      rw [iO]
      exact (decide_eq_false (by omega)).symm
     | cons c u hw =>
      rw [List.zip_cons_cons] at hz
      cases hz
   rw [hv] at hR
   wp_walk
   exact ⟨_,rfl,by simpa [Builtin.Tuple.tupleCompareSizes] using hR⟩
  case h =>
   exact ⟨rfl,rfl,items.toList,items2.toList,ns,ms,rfl,hi,hj,by omega,h⟩
end
section
variable {prog:Program} {w:World} {A:Around} {E:Value→Shared→Prop} {s:Shared}
theorem nF {l b:Addr} {items items2:Array Value} {ns ms:List Str} {Q:Value→Shared→Prop} (hl:IsTup s.heap l items) (hb:IsTup s.heap b items2) (hi:StrsAre items.toList ns) (hj:StrsAre items2.toList ms)
  (hu:A.units<cLine) (h:Q (.bool (bA ns ms)) s):wpAny (model prog w) A (compareOp .Lt (.ref l) (.ref b)) Q E s:=by
 obtain ⟨⟨cls,dd,data,sl⟩,ho,hc,n,hd⟩:=id hl
 obtain ⟨⟨cls2,dd2,data2,sl2⟩,ho2,hc2,n2,hd2⟩:=id hb
 simp only at hc hd hc2 hd2
 subst hc hd hc2 hd2
 exact richCompare_meets_room (op:=.Lt) ⟨_,ho,rfl⟩ ⟨_,ho2,rfl⟩ PySem.F.slot_tuple_lt PySem.F.entry_tuple_lt (PySem.F.args_tuple_lt_2 _ _) (iP l b items items2 n n2 dd dd2 sl sl2 ns ms hi hj)
  ⟨ho,ho2,show Value.bool (bA ns ms)≠Value.notImplemented∧Q (.bool (bA ns ms)) s from ⟨(λx=>nomatch x),h⟩⟩ hu
end
end HT
namespace L2
open PySem PySem.Spec PyProof.Rows
section
variable {X:Cx}
theorem qm {α:Type} {zs:List α} {val:α→V} {d:α}:∀ {us:List Value},au (zs.map val) us→∀ (ps:List Nat),(∀ i∈ps,i<zs.length)→au ((ps.map λi=>zs.getD i d).map val) (ps.map λi=>us.getD i Value.none):=by
 intro us rv ps
 induction ps with
 | nil=>intro _; exact .nil
 | cons i ps ih =>
  intro h
  refine .cons ?_ (ih λj hj=>h j (by simp [hj]))
  have hi:=h i (by simp)
  obtain ⟨u,hu,r⟩:=rv.get (i:=i) (x:=val (zs.getD i d)) (by rw [List.getElem?_map,(bM (d:=d) hi).2]; rfl)
  have:us.getD i Value.none=u:=by rw [List.getD_eq_getElem?_getD,hu]; rfl
  show aA (val (zs.getD i d)) (us.getD i Value.none)
  rw [this]
  exact r
theorem lQ {α:Type} {zs:List α} {val:α→V} {d:α} {us:List Value} {f:α→α→Bool} {l:Addr} {pins:List (Addr×Obj)} {σ:St} {H:Hp} {s:Shared} {Q:VK} {κ:SortKind} {E:Value→Shared→Prop} (I:Inv X pins σ H s) (rv:au (zs.map val) us)
  (O:SRT.Ord (λi j=>f (zs.getD i d) (zs.getD j d)) zs.length) (pl:s.heap.IsList l us.toArray) (h64:zs.length<64)
  (hk:∀ (A':Around) (s':Shared),A'.units≤X.A.units+2→(∀ b o,s.heap.get? b=some o→s'.heap.get? b=some o)→∀ Q:SortKind→Shared→Prop,2≤zs.length→Q κ s'→wpAny (model X.prog X.w) A' (keyKind' us.toArray) Q (λ_ _=>False) s')
  (hlt:∀ (A':Around) (s':Shared),A'.units≤X.A.units+2→(∀ b o,s.heap.get? b=some o→s'.heap.get? b=some o)→∀ (i j:Nat) (C:Bool→Shared→Prop),i<zs.length→j<zs.length→C (f (zs.getD i d) (zs.getD j d)) s'→wpAny (model X.prog X.w) A' (keyLt' κ (us.getD i Value.none) (us.getD j Value.none)) C (λ_ _=>False) s')
  (q:∀ zs':List α,zs'.Perm zs→zs'.Pairwise (λa b=>f a b=true)→∀ p,H p=none→Q (.ref p) (upd H p (.lst (zs'.map val)))):wpAny (model X.prog X.w) X.A (call (.builtin "sorted") [.ref l]) (EP X pins σ Q) E s:=by
 have hlen:us.length=zs.length:=by rw [← rv.length,List.length_map]
 refine SRT.pW (κ:=κ) (f:=λi j=>f (zs.getD i d) (zs.getD j d)) (by rw [hlen]; exact O) pl (by rw [hlen]; exact h64) (λA' s' h1 h2 Q' h3=>hk A' s' h1 h2 Q' (by omega)) (λA' s' h1 h2 i j C hi hj=>hlt A' s' h1 h2 i j C (by omega) (by omega)) ?_
 intro p h' hrow hup kp _ hg
 obtain ⟨c,hg⟩:=hg
 rw [hlen] at hrow hup
 have hin:∀ i∈p.toList,i<zs.length:=λi hi=>List.mem_range.mp (hrow.perm.mem_iff.mp hi)
 have hperm:(p.toList.map λi=>zs.getD i d).Perm zs:=by
  refine (hrow.perm.map _).trans ?_
  have:(List.range zs.length).map (λi=>zs.getD i d)=zs:=by
   apply List.ext_getElem?
   intro i
   rw [List.getElem?_map]
   by_cases hi:i<zs.length
   ·rw [List.getElem?_range hi,(bM (d:=d) hi).2]; rfl
   ·rw [List.getElem?_eq_none (by rw [List.length_range]; omega),List.getElem?_eq_none (by omega)]; rfl
  rw [this]
 have hpl:p.size=zs.length:=hrow.size
 have hpw:(p.toList.map λi=>zs.getD i d).Pairwise (λa b=>f a b=true):=by
  rw [List.pairwise_iff_getElem]
  intro i j hi hj hij
  have hi':i<p.size:=by rw [List.length_map,Array.length_toList] at hi; exact hi
  have hj':j<p.size:=by rw [List.length_map,Array.length_toList] at hj; exact hj
  have:=hup i j hij (by omega)
  simp only [] at this
  rw [Array.getD_eq_getD_getElem?,Array.getD_eq_getD_getElem?,Array.getElem?_eq_getElem hi',Array.getElem?_eq_getElem hj'] at this
  simpa using this
 refine ⟨.ref (s.heap.objs.size+1),_,I.laid (t':=s.toks) (o:=.lst ((p.toList.map λi=>zs.getD i d).map val)) kp (Nat.le_succ _) ⟨?_,_,c,qm rv p.toList hin,hg⟩,rfl,q _ hperm hpw _ (I.hok.fresh (Nat.le_succ _))⟩
 rw [List.length_map,hperm.length_eq,sizeLine_eq]; omega
structure Cp where
 a:Addr
 t:Addr
 p:List Str
 n:Int
noncomputable def rS (H:Hp) (z:Cp):Prop:=H z.a=some (.tup [.ref z.t,.int z.n])∧H z.t=some (.tup (z.p.map V.str))
theorem oH:∀ {ps:List Str} {us:List Value},au (ps.map V.str) us→StrsAre us ps
 | [],_,.nil=>.nil
 | p :: ps,_,.cons ⟨t,e⟩ r=>by subst e; exact .cons p t (oH r)
theorem dw (hu:X.A.units+8<cLine):bG X (.builtin "sorted") (λxs H Q=>∃ l,∃ zs:List Cp,xs=[.ref l]∧H l=some (.lst (zs.map λz=>V.ref z.a))∧(∀ z∈zs,rS H z)∧(zs.map (·.p)).Nodup∧zs.length<64 ∧
  ∀ zs':List Cp,zs'.Perm zs→zs'.Pairwise (λa b=>HT.bA a.p b.p=true)→∀ p,H p=none→Q (.ref p) (upd H p (.lst (zs'.map λz=>V.ref z.a)))):=by
 intro pins s σ H xs us Q I r h
 obtain ⟨l,zs,rfl,hl,hk,hnd,h64,q⟩:=h
 obtain ⟨u,rfl,ru⟩:=cy r
 cases ru
 obtain ⟨_,its,n,rv,ho⟩:=I.hok l _ hl
 let d:Cp:=⟨0,0,[],0⟩
 have hlen:its.length=zs.length:=by rw [← rv.length,List.length_map]
 have gi:∀ i,i<zs.length→its.getD i Value.none = .ref (zs.getD i d).a:=λi hi=>by
  obtain ⟨v,hv,r⟩:=rv.get (i:=i) (x:=.ref (zs.getD i d).a) (by rw [List.getElem?_map,(bM (d:=d) hi).2]; rfl)
  cases r
  rw [List.getD_eq_getElem?_getD,hv]; rfl
 have eits:its=zs.map λz=>Value.ref z.a:=by
  have key:∀ (l:List Cp) (us:List Value),au (l.map λz=>V.ref z.a) us→us=l.map λz=>Value.ref z.a:=by
   intro l
   induction l with
   | nil=>intro us r; cases r; rfl
   | cons z l ih =>
    intro us r
    cases r with
    | cons r1 r2 =>
     rw [ih _ r2]
     cases r1
     rfl
  exact key zs its rv
 have hobj:∀ z∈zs,∃ t',IsTup s.heap z.a #[.ref z.t,.int z.n t']:=λz hz=>by
  obtain ⟨u,v,r1,r2,ht⟩:=rK I (hk z hz).1
  cases r1
  obtain ⟨t',rfl⟩:=r2
  exact ⟨t',ht⟩
 have htup:∀ z∈zs,∃ ws:List Value,StrsAre ws z.p∧IsTup s.heap z.t ws.toArray:=λz hz=>by
  obtain ⟨_,ws,r1,ht⟩:=I.hok z.t _ (hk z hz).2
  exact ⟨ws,oH r1,ht⟩
 have kept:∀ {s':Shared} {a:Addr} {xs:Array Value},(∀ b o,s.heap.get? b=some o→s'.heap.get? b=some o)→IsTup s.heap a xs→IsTup s'.heap a xs:=λk ⟨o,e,r⟩=>⟨o,k _ o e,r⟩
 refine lQ (val:=λz:Cp=>V.ref z.a) (d:=d) (f:=λa b=>HT.bA a.p b.p) (κ:=tuples' false) I rv ⟨λi _=>HT.bD _,λi j k _ _ _ h1 h2=>HT.gL h1 h2,λi j hi hj hij=>HT.lP ?_⟩ ⟨_,ho,rfl,n,rfl⟩ h64 (λA' s' _ kp Q' h2 hQ=>?_) (λA' s' hA kp i j C hi hj hC=>?_) q
 ·intro e
  have e':(zs.map (·.p))[i]'(by simpa using hi)=(zs.map (·.p))[j]'(by simpa using hj):=by
   have h1:=(bM (d:=d) hi).2
   have h2:=(bM (d:=d) hj).2
   rw [List.getElem_map,List.getElem_map,(List.getElem?_eq_some_iff.mp h1).2,(List.getElem?_eq_some_iff.mp h2).2]
   exact e
  exact hij ((List.getElem_inj hnd).mp e')
 ·have key:∀ ys:List Cp,(∀ z∈ys,z∈zs)→PySem.W.KatTups s'.heap (ys.map λz=>Value.ref z.a) (ys.map λz=>Value.ref z.t):=by
   intro ys
   induction ys with
   | nil=>intro _; exact PySem.W.KatTups.nil
   | cons z ys ih =>
    intro hm
    obtain ⟨t',o,e1,e2,n',e3⟩:=hobj z (hm z (by simp))
    exact PySem.W.KatTups.cons (kp _ _ e1) e2 e3 rfl (ih λy hy=>hm y (by simp [hy]))
  rw [eits]
  refine PySem.W.kat_kind (T:=.type "tuple") (key zs λz hz=>hz) (by rw [List.length_map]; omega) (λv hv=>?_) (by rfl) hQ
  obtain ⟨z,hz,rfl⟩:=List.mem_map.mp hv
  obtain ⟨ws,_,o,e1,e2,_⟩:=htup z hz
  exact e2 ▸ (PySem.W.Looks.ld (kp _ _ e1)).andThen .now
 ·rw [gi i hi,gi j hj]
  have mi:=(bM (d:=d) hi).1
  have mj:=(bM (d:=d) hj).1
  generalize zs.getD i d=zi at mi hC ⊢
  generalize zs.getD j d=zj at mj hC ⊢
  obtain ⟨ti,oi,a1,a2,ni,a3⟩:=hobj zi mi
  obtain ⟨tj,oj,b1,b2,nj,b3⟩:=hobj zj mj
  refine PySem.W.kat_lt (kp _ _ a1) a3 (kp _ _ b1) b3 ?_
  obtain ⟨wi,si,pi⟩:=htup zi mi
  obtain ⟨wj,sj,pj⟩:=htup zj mj
  have hu1:A'.units<cLine:=by omega
  have ki:IsTupleKey (aD X.prog X.w) s'.heap (zi.p.map Sum.inr) zi.t:=by
   obtain ⟨o,its',n',ho',r⟩:=rA (ks:=zi.p.map Sum.inr) I (by rw [List.map_map]; exact (hk zi mi).2) X.prog X.w
   exact ⟨o,its',n',kp _ _ ho',r⟩
  have kj:IsTupleKey (aD X.prog X.w) s'.heap (zj.p.map Sum.inr) zj.t:=by
   obtain ⟨o,its',n',ho',r⟩:=rA (ks:=zj.p.map Sum.inr) I (by rw [List.map_map]; exact (hk zj mj).2) X.prog X.w
   exact ⟨o,its',n',kp _ _ ho',r⟩
  refine PySem.W.kat_cons (wpAny_eqBool_tuple (knd:=aD X.prog X.w) hu1 ki kj ?_)
  by_cases e:zi.p=zj.p
  ·rw [e,decide_eq_true rfl]
   have hC':C false s':=by rw [e,HT.bD] at hC; exact hC
   have en:zi=zj:=by
    obtain ⟨x,hx,ex⟩:=List.mem_iff_getElem.mp mi
    obtain ⟨y,hy,ey⟩:=List.mem_iff_getElem.mp mj
    have e':(zs.map (·.p))[x]'(by simpa using hx)=(zs.map (·.p))[y]'(by simpa using hy):=by rw [List.getElem_map,List.getElem_map,ex,ey]; exact e
    have:=(List.getElem_inj hnd).mp e'
    subst this
    rw [← ex,← ey]
   subst en
   refine PySem.W.kat_yes (PySem.W.kat_cons (wpAny_eqBool_int ?_))
   rw [beq_self_eq_true]
   exact PySem.W.kat_yes (PySem.W.kat_nil (by simpa using hC'))
  ·have hne:¬ (zi.p.map Sum.inr:List Key)=zj.p.map Sum.inr:=λz=>e (by
    have:=congrArg (List.map λk:Key=>match k with | .inr x=>x | .inl _=>Str.empty) z
    simpa [List.map_map,Function.comp_def] using this)
   rw [decide_eq_false hne]
   refine PySem.W.kat_no (PySem.W.kat_one _ _ ?_)
   exact HT.nF (kept kp pi) (kept kp pj) (by simpa using si) (by simpa using sj) hu1 hC
end
noncomputable def lR (H:Hp):Nat→V→V→Prop
 | 0,x,y=>x=y∧gX x=true
 | n+1,x,y=>(x=y∧gX x=true)∨∃ a b xs ys,x = .ref a∧y = .ref b∧H a=some (.tup xs)∧H b=some (.tup ys)∧xs.length=ys.length∧∀ (i:Nat) x' y',xs[i]? = some x'→ys[i]? = some y'→lR H n x' y'
theorem lS {x:V} (f:gX x=true):eqV x x=true:=by
 cases x <;> first | rfl | (simp [eqV]; done) | (exact absurd (show false=true from f) Bool.false_ne_true)
theorem nG {H:Hp} {n:Nat} {x y:V} (h:x=y∧gX x=true):lR H n x y:=by
 cases n with
 | zero=>exact h
 | succ n=>exact .inl h
section
variable {X:Cx} {pins:List (Addr×Obj)} {σ:St} {H:Hp} {s:Shared}
theorem rT (I:Inv X pins σ H s):∀ (n:Nat) {A:Around} {x y:V} {u v:Value},aA x u→aA y v→lR H n x y→A.units+n<cLine→SeqAt.EqAt A s u v true:=by
 intro n
 induction n with
 | zero =>
  intro A x y u v ru rv h hu
  obtain ⟨e,f⟩:=h
  subst e
  have:=qR (A:=A) (s:=s) ru rv f f
  rw [lS f] at this
  exact this
 | succ n ih =>
  intro A x y u v ru rv h hu
  rcases h with ⟨e,f⟩ | ⟨a,b,xs,ys,rfl,rfl,ha,hb,hl,hx⟩
  ·subst e
   have:=qR (A:=A) (s:=s) ru rv f f
   rw [lS f] at this
   exact this
  ·cases ru
   cases rv
   by_cases hab:a=b
   ·subst hab
    exact SeqAt.EqAt.same _
   ·obtain ⟨_,us,r1,t1⟩:=I.hok a _ ha
    obtain ⟨_,ws,r2,t2⟩:=I.hok b _ hb
    have l1:=r1.length
    have l2:=r2.length
    have:=SeqAt.RcAt.tuples (A:=A) (s:=s) (e:=λ_=>true) t1 t2 (by omega) (λj h1 h2=>by
     have h1':j<xs.length:=by rw [l1]; simpa using h1
     have h2':j<ys.length:=by rw [l2]; simpa using h2
     obtain ⟨u',hu1,hu2⟩:=r1.get (List.getElem?_eq_getElem h1')
     obtain ⟨v',hv1,hv2⟩:=r2.get (List.getElem?_eq_getElem h2')
     have e1:us.toArray[j]=u':=by
      have:us[j]? = some us.toArray[j]:=by rw [List.getElem?_eq_getElem (by simpa using h1)]; simp
      rw [hu1] at this
      exact (Option.some.inj this).symm
     have e2:ws.toArray[j]=v':=by
      have:ws[j]? = some ws.toArray[j]:=by rw [List.getElem?_eq_getElem (by simpa using h2)]; simp
      rw [hv1] at this
      exact (Option.some.inj this).symm
     rw [e1,e2]
     exact ih hu2 hv2 (hx j _ _ (List.getElem?_eq_getElem h1') (List.getElem?_eq_getElem h2')) (by simp [Around.in1_units]; omega))
    have e3:((List.range (min us.toArray.size ws.toArray.size)).all (λ_=>true) && us.toArray.size == ws.toArray.size)=true:=by
     have:us.toArray.size=ws.toArray.size:=by simp only [List.size_toArray]; omega
     simp [this]
    rw [e3] at this
    exact SeqAt.EqAt.of_refs hab this
end
section
variable {X:Cx}
noncomputable def im (H:Hp) (xs ys:List V):Prop:=xs.length=ys.length∧∀ (i:Nat) x y,xs[i]? = some x→ys[i]? = some y→lR H 3 x y
theorem lU {pins:List (Addr×Obj)} {σ:St} {H:Hp} {s:Shared} (I:Inv X pins σ H s) {xs ys:List V} {us ws:List Value} (r1:au xs us) (r2:au ys ws) (h:im H xs ys) {A:Around} (hu:A.units+3<cLine) :
  ∀ j (h1:j<us.toArray.size) (h2:j<ws.toArray.size),SeqAt.EqAt A s us.toArray[j] ws.toArray[j] true:=λj h1 h2=>by
 have h1':j<xs.length:=by rw [r1.length]; simpa using h1
 have h2':j<ys.length:=by rw [r2.length]; simpa using h2
 obtain ⟨u',hu1,hu2⟩:=r1.get (List.getElem?_eq_getElem h1')
 obtain ⟨v',hv1,hv2⟩:=r2.get (List.getElem?_eq_getElem h2')
 have e1:us.toArray[j]=u':=by
  have:us[j]? = some us.toArray[j]:=by rw [List.getElem?_eq_getElem (by simpa using h1)]; simp
  rw [hu1] at this
  exact (Option.some.inj this).symm
 have e2:ws.toArray[j]=v':=by
  have:ws[j]? = some ws.toArray[j]:=by rw [List.getElem?_eq_getElem (by simpa using h2)]; simp
  rw [hv1] at this
  exact (Option.some.inj this).symm
 rw [e1,e2]
 exact rT I 3 hu2 hv2 (h.2 j _ _ (List.getElem?_eq_getElem h1') (List.getElem?_eq_getElem h2')) hu
theorem wx (hu:X.A.units+4<cLine):OpR X (compareOp .NotEq) (λx y H Q=>rNe x y H Q∨(∃ a b xs ys,x = .ref a∧y = .ref b∧im H xs ys∧((H a=some (.lst xs)∧H b=some (.lst ys))∨(H a=some (.tup xs)∧H b=some (.tup ys)))∧Q (.bl false) H)):=by
 intro pins s σ H x y v u Q I rx ry h
 rcases h with h | ⟨a,b,xs,ys,rfl,rfl,hx,h,q⟩
 ·exact gf pins s σ H x y v u Q I rx ry h
 ·cases rx
  cases ry
  rcases h with ⟨ha,hb⟩ | ⟨ha,hb⟩
  ·obtain ⟨_,us,n1,r1,o1⟩:=I.hok a _ ha
   obtain ⟨_,ws,n2,r2,o2⟩:=I.hok b _ hb
   have hl:=hx.1
   have l1:=r1.length
   have l2:=r2.length
   refine SeqAt.RcNeAt.lists (e:=λ_=>true) ⟨_,o1,rfl,n1,rfl⟩ ⟨_,o2,rfl,n2,rfl⟩ (by simp only [List.size_toArray]; omega) (by omega) (lU I r1 r2 hx (by simp [Around.in1_units]; omega)) _ _ _ _ ⟨.bl false,H,I,?_,q⟩
   show _=Value.bool false
   simp
  ·obtain ⟨_,us,r1,t1⟩:=I.hok a _ ha
   obtain ⟨_,ws,r2,t2⟩:=I.hok b _ hb
   have hl:=hx.1
   have l1:=r1.length
   have l2:=r2.length
   refine SeqAt.RcNeAt.tuples (e:=λ_=>true) t1 t2 (by omega) (lU I r1 r2 hx (by simp [Around.in1_units]; omega)) _ _ _ _ ⟨.bl false,H,I,?_,q⟩
   show _=Value.bool false
   have:us.toArray.size=ws.toArray.size:=by simp only [List.size_toArray]; omega
   simp [this]
theorem ya {A:Around} {s:Shared} {bs:List Bool}:∀ y,y∈(bs.map Value.bool).toArray→SeqAt.EqAt A s y (.bool true) (y == .bool true):=λy hy=>by
 have hy':y∈bs.map Value.bool:=by simpa using hy
 obtain ⟨b,_,rfl⟩:=List.mem_map.mp hy'
 have:=SeqAt.EqAt.bool_bool (A:=A) (s:=s) b true
 cases b <;> exact this
theorem rV:MtM X "list.count" (λx vs H Q=>∃ l,∃ bs:List Bool,x = .ref l∧vs=[.bl true]∧H l=some (.lst (bs.map V.bl))∧Q (.int (bs.count true:Nat)) H):=by
 intro pins s σ H x vs v us Q I rx rv h
 obtain ⟨l,bs,rfl,rfl,hl,q⟩:=h
 cases rx
 obtain ⟨u,rfl,ru⟩:=cy rv
 cases (show u=Value.bool true from ru)
 obtain ⟨_,its,n,r,ho⟩:=I.hok l _ hl
 have e:=jI r
 subst e
 refine call_meets PySem.F.slot_list_count ⟨_,ho,rfl⟩ PySem.F.entry_list_count (PySem.F.args_list_count_2 _ _) (SeqAt.list_countAt l _ n none #[] (.bool true) (λy=>y == .bool true)) ⟨ho,ya,⟨.int (bs.count true:Nat),H,I.tok _,?_,q⟩⟩
 have:((bs.map Value.bool).toArray.toList.countP λy=>y == .bool true)=bs.count true:=by
  rw [List.count]
  simp only [List.countP_map]
  congr 1
  funext b
  cases b <;> rfl
 rw [this]
 exact ⟨_,rfl⟩
theorem be:bG X (.builtin "isinstance") (λxs H Q=>∃ ea C c b,xs=[.ref ea,c]∧H ea=some (.ext (XI.gh ea C))∧XI.qc X.K C=true∧((∃ n,c = .ty n∧PySem.W.kitOne X.K (.ref C) (.type n)=some b)∨(∃ D,c = .ref D∧PySem.W.kitOne X.K (.ref C) (.ref D)=some b))∧Q (.bl b) H):=by
 intro pins s σ H xs us Q I r h
 obtain ⟨ea,C,c,b,rfl,hH,hxc,hc,q⟩:=h
 obtain ⟨u,u',rfl,ru,ru'⟩:=om r
 cases ru
 obtain ⟨hex,_,_⟩:=I.hok ea _ hH
 rcases hc with ⟨n,rfl,e⟩ | ⟨D,rfl,e⟩
 ·cases (show u'=Value.type n from ru')
  exact PySem.W.kia_one (XI.lM hxc) I.kIn hex e (λz=>nomatch z) λtk=>⟨.bl b,H,I.tok tk,rfl,q⟩
 ·cases (show u'=Value.ref D from ru')
  exact PySem.W.kia_one (XI.lM hxc) I.kIn hex e (λz=>nomatch z) λtk=>⟨.bl b,H,I.tok tk,rfl,q⟩
end
section
variable {prog:Program} {w:World} {A:Around} {E:Value→Shared→Prop} {s:Shared}
end
section
variable {P:Program} {w:World}
end
section
variable {X:Cx} {o e:Expr} {td ty:TE} {apos cpos:Pos}
end
noncomputable def Ext (p:Addr) (H H':Hp):Prop:=∀ b o,b≠p→H b=some o→H' b=some o
theorem Ext.of {p:Addr} {H H':Hp} (s:Same H H'):Ext p H H':=λb o _ e=>s b o e
theorem Ext.upd {p:Addr} {H:Hp} {o:HO}:Ext p H (upd H p o):=λb u hb e=>by rw [ag hb]; exact e
theorem Ext.trans {p:Addr} {H H1 H2:Hp} (a:Ext p H H1) (b:Ext p H1 H2):Ext p H H2:=λc o hc e=>b c o hc (a c o hc e)
noncomputable def yb (te:TE):Prop:=∀ σ H (Q Q':VK),(∀ y H,Q y H→Q' y H)→te σ H Q→te σ H Q'
theorem jN {js:List Nat} {J:It} {te:TE} {σ:St} {H1:Hp} {Q:VK} {p:Addr} {fr:List (Option V)} (n:Nat) (hn:n≤1000) (hp:H1 p=none) (hfr:cu 1 js σ=none :: fr) (R:Nat→V→Hp→Prop) (hR:∀ i y H H',R i y H→Ext p H H'→R i y H')
  (go:∀ i H',i<n→Same H1 H'→J.go i H') (stop:∀ H',Same H1 H'→J.stop n H') (me:yb te)
  (step:∀ i H' x H2,i<n→Same H1 H'→(∃ ys,H' p=some (.lst ys))→J.yld i H' x H2→H2=H'∧te (some x :: fr) H' λy H4=>Same H' H4∧R i y H4)
  (fin:∀ ys H',Same H1 H'→H' p=some (.lst ys)→ys.length=n→(∀ (j:Nat) y,ys[j]? = some y→R j y H')→Q (.ref p) H'):LcW 1 js (bp 0) te σ Q J H1 p:=by
 refine ji (k:=1) (js:=js) (J:=J) (p:=p) n hn (λi ys σ' H'=>(∃ o,σ'=o :: fr)∧Same H1 H'∧H' p=some (.lst ys)∧ys.length=i∧∀ (j:Nat) y,ys[j]? = some y→R j y H') ⟨⟨none,hfr⟩,af hp,ac,rfl,λj y h=>by simp at h⟩
  (λi ys σ' H' h=>by have:=h.2.2.2.1; omega) (λi ys σ' H' hi h=>go i H' hi h.2.1) (λys σ' H' h=>⟨stop H' h.2.1,fin ys H' h.2.1 h.2.2.1 h.2.2.2.1 h.2.2.2.2⟩) (λi ys σ' H' hi h x H2 hy=>?_) ?_ me
 ·obtain ⟨⟨o,rfl⟩,s1,hl,hlen,hrs⟩:=h
  obtain ⟨rfl,ht⟩:=step i H' x H2 hi s1 ⟨ys,hl⟩ hy
  refine me _ _ _ _ (λy H4 h4=>?_) ht
  obtain ⟨s4,r4⟩:=h4
  refine ⟨s4 _ _ hl,⟨some x,rfl⟩,ay hp (s1.trans s4),ac,by rw [List.length_append,hlen]; rfl,λj z hz=>?_⟩
  have ex:Ext p H2 (upd H4 p (.lst (ys++[y]))):=(Ext.of s4).trans Ext.upd
  by_cases hj:j<ys.length
  ·rw [List.getElem?_append_left hj] at hz
   exact hR _ _ _ _ (hrs j z hz) ex
  ·rw [List.getElem?_append_right (by omega)] at hz
   have hj':j - ys.length=0:=by
    cases e:j - ys.length with
    | zero=>rfl
    | succ m=>rw [e] at hz; simp at hz
   rw [hj'] at hz
   have ez:y=z:=by simpa using hz
   subst ez
   have ej:j=i:=by omega
   subst ej
   exact hR _ _ _ _ r4 Ext.upd
 ·intro _ _ _ _ _ m q
  exact m _ _ q
theorem fA {H:Hp} {p q:Addr} (hp:∃ ys,H p=some (.lst ys)) (hq:H q=none):q≠p:=λe=>by
 obtain ⟨ys,h⟩:=hp
 rw [← e,hq] at h
 cases h
section
variable {X:Cx}
theorem dO {M:Model} {A:Around} {E:Value→Shared→Prop} {s:Shared} {env:Env} {value:Expr} {pos:Pos} {Q:Value→Shared→Prop}
  (h:wpAny M A (eval value env) (λv s₁=>wpAny M A (pyReprObj v) (λv' s₂=>wpAny M A (formatField v' Str.empty) Q E s₂) E s₁) E s):wpAny M A (eval (.FormattedValue value 114 none pos) env) Q E s:=by
 show wpAny M A (do let v ← eval value env; standAt pos; formatted pos (← holding [v] (converted 114 v)) none) Q E s
 refine wpAny_bind (wpAny_mono h (λv s₁ h₁=>?_) λ_ _ x=>x)
 refine wpAny_bind (wpAny_standAt ?_)
 show wpAny _ _ (do let v' ← holding [v] (pyReprObj v); formatField v' Str.empty) Q E s₁
 exact wpAny_bind (wpAny_holding h₁)
end
section
variable {X:Cx} {N:List Str} {scope:Scope} {cl:List (Str×Addr)} {k:Nat} {js:List Nat}
end
section
variable {X:Cx} {tg:Expr}
theorem yU {E:XK} (L:Lv X E):PassesOwn (model X.prog X.w) X.A X.env X.xe:=by
 rw [L.xe]; exact PassesOwn.leaving
end
theorem Same.seqT {K:PySem.W.Frag} {H H':Hp} {a:Addr} {xs:List V} (e:Same H H') (h:SqT K H a xs):SqT K H' a xs:=by
 rcases h with (h | ⟨o,h⟩) | h
 ·exact .inl (.inl (e _ _ h))
 ·exact .inl (.inr ⟨o,e _ _ h⟩)
 ·exact .inr h
structure Src (J:It) (H1:Hp) (xs:List V):Prop where
 go:∀ i H',i<xs.length→Same H1 H'→J.go i H'
 stop:∀ H',Same H1 H'→J.stop xs.length H'
 yl:∀ i H' x H2,i<xs.length→Same H1 H'→J.yld i H' x H2→H2=H'∧xs[i]? = some x
theorem ut {K:PySem.W.Frag} {a:Addr} {xs:List V} {H1:Hp} (h:SqT K H1 a xs):Src (Itt K a) H1 xs :=
 ⟨λi H' hi s=>⟨xs,xs[i],s.seqT h,List.getElem?_eq_getElem hi⟩,λH' s=>⟨xs,s.seqT h,Nat.le_refl _⟩,λi H' x H2 _ s ⟨e,y⟩=>⟨e,y xs (by subst e; exact s.seqT h)⟩⟩
theorem jO {K:PySem.W.Frag} {a:Addr} {xs:List V} {H1:Hp} (h:SqL K H1 a xs):Src (Itl K a) H1 xs :=
 ⟨λi H' hi s=>⟨xs,xs[i],s.seq h,List.getElem?_eq_getElem hi⟩,λH' s=>⟨xs,s.seq h,Nat.le_refl _⟩,λi H' x H2 _ s ⟨e,y⟩=>⟨e,y xs (by subst e; exact s.seq h)⟩⟩
theorem Paired.snoc {α β:Type} {R:α→β→Prop}:∀ {as:List α} {bs:List β} {a:α} {b:β},Paired R as bs→R a b→Paired R (as++[a]) (bs++[b])
 | _,_,_,_,.nil,h=>.cons h .nil
 | _,_,_,_,.cons r t,h=>.cons r (Paired.snoc t h)
theorem jP {α:Type} {js:List Nat} {J:It} {te:TE} {σ:St} {H1:Hp} {Q:VK} {p:Addr} {fr:List (Option V)} (zs:List α) (val:α→V) (hn:zs.length≤1000) (hp:H1 p=none) (S:Src J H1 (zs.map val)) (hfr:cu 1 js σ=none :: fr) (R:α→V→Hp→Prop)
  (hR:∀ z y H H',R z y H→Ext p H H'→R z y H')
  (elt:∀ z H' (k:VK),z∈zs→Same H1 H'→(∃ ys,H' p=some (.lst ys))→(∀ y H4,Same H' H4→R z y H4→k y H4)→te (some (val z) :: fr) H' k)
  (fin:∀ ys H',Same H1 H'→H' p=some (.lst ys)→Paired (λz y=>R z y H') zs ys→Q (.ref p) H'):LcW 1 js (bp 0) te σ Q J H1 p:=by
 have grow:∀ {as:List α} {ys:List V} {H H':Hp},Ext p H H'→Paired (λz y=>R z y H) as ys→Paired (λz y=>R z y H') as ys:=λex r=>Paired.mapP r λa b h=>hR a b _ _ h ex
 have hlen:∀ {as:List α} {ys:List V} {H:Hp},Paired (λz y=>R z y H) as ys→ys.length=as.length:=λr=>(Paired.length r).symm
 refine ⟨λi m ys σ' H'=>m=zs.length - i∧i≤zs.length∧(∃ o,σ'=o :: fr)∧Same H1 H'∧H' p=some (.lst ys)∧Paired (λz y=>R z y H') (zs.take i) ys,⟨zs.length,by simp,Nat.zero_le _,⟨none,hfr⟩,af hp,ac,.nil⟩,?_⟩
 rintro i m ys σ' H' ⟨rfl,hi,⟨o,rfl⟩,s1,hl,hys⟩
 by_cases hlt:i<zs.length
 ·have hlt':i<(zs.map val).length:=by rw [List.length_map]; exact hlt
  refine .inr ⟨S.go i H' hlt' s1,?_,λx H2 hy=>?_⟩
  ·have h1:ys.length≤zs.length:=by
    rw [hlen hys,List.length_take]; omega
   exact Nat.lt_of_le_of_lt h1 (aQ hn)
  ·obtain ⟨rfl,hx⟩:=S.yl i H' x H2 hlt' s1 hy
   have gz:zs[i]? = some zs[i]:=List.getElem?_eq_getElem hlt
   have mz:=List.mem_of_getElem? gz
   rw [List.getElem?_map,gz] at hx
   have ex:val zs[i]=x:=Option.some.inj hx
   have et:zs.take (i+1)=zs.take i++[zs[i]]:=cV gz
   subst ex
   generalize zs[i]=z at gz mz et ⊢
   refine elt z H2 _ mz s1 ⟨ys,hl⟩ λy H5 s5 r5=>⟨s5 _ _ hl,zs.length - (i+1),by omega,rfl,hlt,⟨_,rfl⟩,ay hp (s1.trans s5),ac,?_⟩
   rw [et]
   exact Paired.snoc (grow ((Ext.of s5).trans Ext.upd) hys) (hR _ _ _ _ r5 Ext.upd)
 ·have e:i=zs.length:=by omega
  subst e
  have st:=S.stop H' s1
  rw [List.length_map] at st
  refine .inl ⟨st,fin ys H' s1 hl ?_⟩
  rw [List.take_length] at hys
  exact hys
theorem qo {α β:Type} {R:α→V→Prop} {val:β→V} {S:α→β→Prop} {zs:List α} {ys:List V} (h:Paired R zs ys) (f:∀ z y,z∈zs→R z y→∃ b,y=val b∧S z b) :
  ∃ bs:List (α×β),bs.map (·.1)=zs∧ys=bs.map (λx=>val x.2)∧∀ x∈bs,S x.1 x.2:=by
 induction h with
 | nil=>exact ⟨[],rfl,rfl,by simp⟩
 | @cons a y as bs r _ ih =>
  obtain ⟨cs,e1,e2,e3⟩:=ih λz y hz=>f z y (by simp [hz])
  obtain ⟨b,e,s⟩:=f _ _ (by simp) r
  refine ⟨(a,b) :: cs,by rw [List.map_cons,e1],by rw [List.map_cons,← e2,e],λx hx=>?_⟩
  rcases List.mem_cons.mp hx with rfl | hx
  ·exact s
  ·exact e3 x hx
theorem dl {α:Type} {R:α→V→Prop} {f:α→V} {zs:List α} {ys:List V} (h:Paired R zs ys) (hf:∀ z y,z∈zs→R z y→y=f z):ys=zs.map f:=by
 induction h with
 | nil=>rfl
 | cons r _ ih=>rw [List.map_cons,← ih λz y hz=>hf z y (by simp [hz]),hf _ _ (by simp) r]
theorem yc {X:Cx}:gU (CX1 X.prog X.w) X E0:=λ_ _ _ _ _ _ _ ⟨_,_,_,_,_,h⟩=>h.elim
end L2
namespace TW
structure Nd (S:Type) where
 num:Int
 par:Int
 nm:S
 st:Option Int
section
variable {S:Type}
inductive Reach (ns:List (Nd S)) (f:Int):Nd S→Prop where
 | base {n:Nd S}:n∈ns→n.par=f→Reach ns f n
 | step {m n:Nd S}:Reach ns f m→m.st=none→n∈ns→n.par=m.num→Reach ns f n
theorem Reach.mem {ns:List (Nd S)} {f:Int} {n:Nd S} (h:Reach ns f n):n∈ns:=by
 cases h <;> assumption
theorem Reach.mono {ns ms:List (Nd S)} {f:Int} {n:Nd S} (h:Reach ns f n) (hs:∀ x∈ns,x∈ms):Reach ms f n:=by
 induction h with
 | base hm hp=>exact .base (hs _ hm) hp
 | step _ hf hm hp ih=>exact .step ih hf (hs _ hm) hp
noncomputable def io (ns:List (Nd S)) (k:Int):List (Nd S):=ns.filter λn=>decide (n.par=k)
noncomputable def cW (dn:List Int) (n:Nd S):Bool:=decide (n.par∈dn)
structure Walk (ns:List (Nd S)) (f:Int) (dn:List Int) (fd:List (Nd S)) (pd:List Int):Prop where
 perm:fd.Perm (ns.filter (cW dn))
 reach:∀ n∈fd,Reach ns f n
 cover:∀ k,(k∈pd∨k∈dn)↔(k=f∨∃ m∈fd,m.st=none∧m.num=k)
theorem Walk.start (ns:List (Nd S)) (f:Int):Walk ns f [] [] [f]:=by
 refine ⟨?_,by simp,λk=>by simp⟩
 have e:ns.filter (cW [])=[]:=by
  rw [List.filter_eq_nil_iff]; intro a _; simp [cW]
 rw [e]
theorem dE {α:Type} (p q:α→Bool) (hd:∀ x,p x=true→q x=true→False):∀ l:List α,
  (l.filter p++l.filter q).Perm (l.filter λx=>p x || q x)
 | []=>by simp
 | x :: l=>by
  have ih:=dE p q hd l
  cases hp:p x with
  | true =>
   have hq:q x=false:=by
    cases h:q x with
    | false=>rfl
    | true=>exact (hd x hp h).elim
   rw [List.filter_cons_of_pos hp,List.filter_cons_of_neg (by simp [hq]),List.filter_cons_of_pos (by simp [hp])]
   exact List.Perm.cons x ih
  | false =>
   cases hq:q x with
   | true =>
    rw [List.filter_cons_of_neg (by simp [hp]),List.filter_cons_of_pos hq,List.filter_cons_of_pos (by simp [hq])]
    exact List.perm_middle.trans (List.Perm.cons x ih)
   | false =>
    rw [List.filter_cons_of_neg (by simp [hp]),List.filter_cons_of_neg (by simp [hq]),List.filter_cons_of_neg (by simp [hp,hq])]
    exact ih
noncomputable def jQ (ns:List (Nd S)) (dn:List Int) (x:Int):List (Nd S):=if x∈dn then [] else io ns x
noncomputable def aF (l:List (Nd S)):List Int:=(l.filter λn=>n.st.isNone).map (·.num)
theorem gm {l:List (Nd S)} {k:Int}:k∈aF l↔∃ m∈l,m.st=none∧m.num=k:=by
 unfold aF
 rw [List.mem_map]
 constructor
 ·rintro ⟨m,hm,e⟩
  rw [List.mem_filter] at hm
  exact ⟨m,hm.1,by simpa using hm.2,e⟩
 ·rintro ⟨m,hm,h,e⟩
  exact ⟨m,List.mem_filter.mpr ⟨hm,by simp [h]⟩,e⟩
theorem Walk.turn {ns:List (Nd S)} {f x:Int} {dn:List Int} {fd:List (Nd S)} {pd:List Int} (w:Walk ns f dn fd (pd++[x])) :
  Walk ns f (x :: dn) (fd++jQ ns dn x) (pd++aF (jQ ns dn x)):=by
 have hx:=(w.cover x).mp (.inl (by simp))
 by_cases hd:x∈dn
 ·have eh:jQ ns dn x=[]:=by unfold jQ; rw [if_pos hd]
  rw [eh]
  refine ⟨?_,by simpa using w.reach,λk=>?_⟩
  ·have e:ns.filter (cW (x :: dn))=ns.filter (cW dn):=by
    apply List.filter_congr
    intro n _
    simp only [cW,List.mem_cons,decide_eq_decide]
    constructor
    ·rintro (h | h)
     ·rw [h]; exact hd
     ·exact h
    ·exact .inr
   rw [e,List.append_nil]; exact w.perm
  ·have c:=w.cover k
   rw [List.append_nil,← c]
   simp only [aF,List.filter_nil,List.map_nil,List.append_nil,List.mem_append,List.mem_cons,List.not_mem_nil,or_false]
   constructor
   ·rintro (h | h | h)
    ·exact .inl (.inl h)
    ·exact .inl (.inr h)
    ·exact .inr h
   ·rintro ((h | h) | h)
    ·exact .inl h
    ·exact .inr (.inl h)
    ·exact .inr (.inr h)
 ·have eh:jQ ns dn x=io ns x:=by unfold jQ; rw [if_neg hd]
  rw [eh]
  refine ⟨?_,λn hn=>?_,λk=>?_⟩
  ·have e:ns.filter (cW (x :: dn))=ns.filter λn=>cW dn n || decide (n.par=x):=by
    apply List.filter_congr
    intro n _
    rw [Bool.eq_iff_iff]
    simp only [cW,List.mem_cons,decide_eq_true_eq,Bool.or_eq_true]
    constructor
    ·rintro (h | h)
     ·exact .inr h
     ·exact .inl h
    ·rintro (h | h)
     ·exact .inr h
     ·exact .inl h
   rw [e]
   refine (List.Perm.append_right _ w.perm).trans (dE _ _ (λy h1 h2=>?_) ns)
   simp only [cW,decide_eq_true_eq] at h1 h2
   rw [h2] at h1; exact hd h1
  ·rcases List.mem_append.mp hn with h | h
   ·exact w.reach n h
   ·unfold io at h
    rw [List.mem_filter] at h
    obtain ⟨hm,hp⟩:=h
    simp only [decide_eq_true_eq] at hp
    rcases hx with e | ⟨m,hm',hf,e⟩
    ·exact .base hm (hp.trans e)
    ·exact .step (w.reach m hm') hf hm (hp.trans e.symm)
  ·have c:=w.cover k
   simp only [List.mem_append,List.mem_cons,List.not_mem_nil,or_false] at c ⊢
   rw [gm]
   constructor
   ·rintro ((h | ⟨m,hm,h1,h2⟩) | h | h)
    ·rcases c.mp (.inl (.inl h)) with e | ⟨m,hm,z⟩
     ·exact .inl e
     ·exact .inr ⟨m,.inl hm,z⟩
    ·exact .inr ⟨m,.inr hm,h1,h2⟩
    ·rcases c.mp (.inl (.inr h)) with e | ⟨m,hm,z⟩
     ·exact .inl e
     ·exact .inr ⟨m,.inl hm,z⟩
    ·rcases c.mp (.inr h) with e | ⟨m,hm,z⟩
     ·exact .inl e
     ·exact .inr ⟨m,.inl hm,z⟩
   ·rintro (e | ⟨m,hm | hm,z⟩)
    ·rcases c.mpr (.inl e) with (h | h) | h
     ·exact .inl (.inl h)
     ·exact .inr (.inl h)
     ·exact .inr (.inr h)
    ·rcases c.mpr (.inr ⟨m,hm,z⟩) with (h | h) | h
     ·exact .inl (.inl h)
     ·exact .inr (.inl h)
     ·exact .inr (.inr h)
    ·exact .inl (.inr ⟨m,hm,z⟩)
theorem Walk.len {ns:List (Nd S)} {f:Int} {dn:List Int} {fd:List (Nd S)} {pd:List Int} (w:Walk ns f dn fd pd):fd.length≤ns.length:=by
 rw [w.perm.length_eq]; exact List.length_filter_le _ _
theorem cG (l:List (Nd S)):(aF l).length≤l.length:=by
 unfold aF; rw [List.length_map]; exact List.length_filter_le _ _
theorem Walk.mem {ns:List (Nd S)} {f:Int} {dn:List Int} {fd:List (Nd S)} (w:Walk ns f dn fd []) (n:Nd S):n∈fd↔Reach ns f n:=by
 constructor
 ·exact w.reach n
 ·have cov:∀ k,(k=f∨∃ m∈fd,m.st=none∧m.num=k)→k∈dn:=λk h=>by
   rcases (w.cover k).mpr h with z | z
   ·simp at z
   ·exact z
  have back:∀ x,x∈ns→x.par∈dn→x∈fd:=λx hx hp=>w.perm.mem_iff.mpr (List.mem_filter.mpr ⟨hx,by simp [cW,hp]⟩)
  intro h
  induction h with
  | base hm hp=>exact back _ hm (cov _ (.inl hp))
  | step _ hf hm hp ih=>exact back _ hm (cov _ (.inr ⟨_,ih,hf,hp.symm⟩))
theorem Walk.all {ns:List (Nd S)} {f:Int} {dn:List Int} {fd:List (Nd S)} (w:Walk ns f dn fd []):fd.length=ns.length↔∀ n∈ns,Reach ns f n:=by
 rw [w.perm.length_eq]
 constructor
 ·intro h n hn
  have e:ns.filter (cW dn)=ns:=by
   rw [List.filter_eq_self]
   exact List.length_filter_eq_length_iff.mp h
  have:n∈ns.filter (cW dn):=by rw [e]; exact hn
  exact (w.mem n).mp (w.perm.mem_iff.mpr this)
 ·intro h
  rw [List.length_filter_eq_length_iff]
  intro n hn
  have:=w.perm.mem_iff.mp ((w.mem n).mpr (h n hn))
  exact (List.mem_filter.mp this).2
noncomputable def ip (ns:List (Nd S)):Prop:=ns.Pairwise λa b=>a.num<b.num
noncomputable def cN (ns:List (Nd S)):Prop:=(ns.map λn=>(n.par,n.nm)).Nodup
structure Tree (ns:List (Nd S)):Prop where
 rise:ip ns
 own:cN ns
 down:∀ n∈ns,Reach ns 0 n
noncomputable def adj:List (Nd S)→Bool
 | a :: b :: r=>decide (a.num<b.num) && adj (b :: r)
 | _=>true
theorem jR:∀ ns:List (Nd S),adj ns=true↔ip ns
 | []=>by simp [adj,ip]
 | [a]=>by simp [adj,ip]
 | a :: b :: r=>by
  have ih:=jR (b :: r)
  unfold adj
  rw [Bool.and_eq_true,ih,decide_eq_true_eq]
  unfold ip
  rw [List.pairwise_cons (a:=a)]
  constructor
  ·rintro ⟨h,p⟩
   refine ⟨λx hx=>?_,p⟩
   rcases List.mem_cons.mp hx with rfl | hx
   ·exact h
   ·have:=(List.pairwise_cons.mp p).1 x hx
    omega
  ·rintro ⟨h,p⟩
   exact ⟨h b (by simp),p⟩
theorem oJ:∀ ns:List (Nd S),adj ns=((ns.zip (ns.drop 1)).all λp=>decide (p.1.num<p.2.num))
 | []=>rfl
 | [a]=>rfl
 | a :: b :: r=>by
  have ih:=oJ (b :: r)
  unfold adj
  rw [ih]
  rfl
inductive Built:List (Nd S)→Prop where
 | nil:Built []
 | snoc {l:List (Nd S)} {n:Nd S}:Built l→(n.par=0∨∃ m∈l,m.st=none∧m.num=n.par)→Built (l++[n])
theorem Built.down {l:List (Nd S)} (b:Built l):∀ n∈l,Reach l 0 n:=by
 induction b with
 | nil=>simp
 | @snoc l n b h ih =>
  intro x hx
  have up:∀ y∈l,y∈l++[n]:=λy hy=>List.mem_append_left _ hy
  rcases List.mem_append.mp hx with hx | hx
  ·exact (ih x hx).mono up
  ·have e:x=n:=by simpa using hx
   subst e
   rcases h with h | ⟨m,hm,hf,he⟩
   ·exact .base (by simp) h
   ·exact .step ((ih m hm).mono up) hf (by simp) he.symm
theorem uu {l t:List (Nd S)} (b:Built l) (p:t.Perm l) (hr:t.Pairwise λa b=>a.num≤b.num) (hn:(l.map (·.num)).Nodup) (ho:cN l):Tree t:=by
 refine ⟨?_,?_,λn hn'=>?_⟩
 ·have hn':(t.map (·.num)).Nodup:=((p.map _).nodup_iff).mpr hn
  unfold List.Nodup at hn'
  rw [List.pairwise_map] at hn'
  unfold ip
  exact hr.imp₂ (λa b h1 h2=>by omega) hn'
 ·unfold cN
  exact ((p.map _).nodup_iff).mpr ho
 ·exact (b.down n (p.mem_iff.mp hn')).mono λx hx=>p.mem_iff.mpr hx
theorem rW {t:List (Nd S)} (h:ip t) {a b:Nd S} (ha:a∈t) (hb:b∈t) (e:a.num=b.num):a=b:=by
 unfold ip at h
 induction t with
 | nil=>simp at ha
 | cons x r ih =>
  rw [List.pairwise_cons] at h
  rcases List.mem_cons.mp ha with ea | ha'
  ·rcases List.mem_cons.mp hb with eb | hb'
   ·rw [ea,eb]
   ·have:=h.1 b hb'; rw [← ea] at this; omega
  ·rcases List.mem_cons.mp hb with eb | hb'
   ·have:=h.1 a ha'; rw [← eb] at this; omega
   ·exact ih h.2 ha' hb'
end
end TW
namespace TW
section
variable {S:Type}
inductive PathTo (ns:List (Nd S)):Int→List S→Prop where
 | top:PathTo ns 0 []
 | node {n:Nd S} {p:List S}:n∈ns→PathTo ns n.par p→PathTo ns n.num (p++[n.nm])
structure Tree1 (ns:List (Nd S)):Prop extends Tree ns where
 pos:∀ n∈ns,1≤n.num
theorem Tree1.inj {ns:List (Nd S)} (T:Tree1 ns) {a b:Nd S} (ha:a∈ns) (hb:b∈ns) (e:a.num=b.num):a=b:=rW T.rise ha hb e
theorem PathTo.zero {ns:List (Nd S)} (T:Tree1 ns) {k:Int} {p:List S} (h:PathTo ns k p) (e:k=0):p=[]:=by
 cases h with
 | top=>rfl
 | @node n p hm _=>have:=T.pos n hm; omega
theorem PathTo.inv {ns:List (Nd S)} (T:Tree1 ns) {k:Int} {p:List S} (h:PathTo ns k p) {n:Nd S} (hn:n∈ns) (e:k=n.num):∃ q,p=q++[n.nm]∧PathTo ns n.par q:=by
 cases h with
 | top=>have:=T.pos n hn; omega
 | @node m q hm hq =>
  have:m=n:=T.inj hm hn e
  subst this
  exact ⟨q,rfl,hq⟩
theorem PathTo.uniq {ns:List (Nd S)} (T:Tree1 ns) {k:Int} {p:List S} (h:PathTo ns k p):∀ {q:List S},PathTo ns k q→p=q:=by
 induction h with
 | top=>intro q hq; exact (hq.zero T rfl).symm
 | @node n p hm _ ih =>
  intro q hq
  obtain ⟨q',e,hq'⟩:=hq.inv T hm rfl
  rw [e,ih hq']
theorem PathTo.ex {ns:List (Nd S)} (T:Tree1 ns) {n:Nd S} (hn:n∈ns):∃ p,PathTo ns n.num p:=by
 have key:∀ x,Reach ns 0 x→∃ p,PathTo ns x.num p:=by
  intro x r
  induction r with
  | base hm hp=>exact ⟨_,.node hm (by rw [hp]; exact .top)⟩
  | step _ _ hm hp ih =>
   obtain ⟨p,h⟩:=ih
   exact ⟨_,.node hm (by rw [hp]; exact h)⟩
 exact key n (T.down n hn)
theorem PathTo.key {ns:List (Nd S)} (T:Tree1 ns):∀ {p:List S} {k j:Int},PathTo ns k p→PathTo ns j p→k=j:=by
 have main:∀ (m:Nat) {p:List S} {k j:Int},p.length=m→PathTo ns k p→PathTo ns j p→k=j:=by
  intro m
  induction m with
  | zero =>
   intro p k j hl h1 h2
   have e:p=[]:=List.length_eq_zero_iff.mp hl
   subst e
   have z:∀ {k:Int} {q:List S},PathTo ns k q→q=[]→k=0:=by
    intro k q h e
    cases h with
    | top=>rfl
    | node _ _=>simp at e
   rw [z h1 rfl,z h2 rfl]
  | succ m ih =>
   intro p k j hl h1 h2
   have z:∀ {k:Int} {q:List S},PathTo ns k q→q=p→∃ n q',n∈ns∧n.num=k∧p=q'++[n.nm]∧PathTo ns n.par q':=by
    intro k q h e
    cases h with
    | top=>rw [← e] at hl; simp at hl
    | @node n q' hm hq'=>exact ⟨n,q',hm,rfl,e.symm,hq'⟩
   obtain ⟨n,q,hn,e1,e2,hq⟩:=z h1 rfl
   obtain ⟨n',q',hn',e1',e2',hq'⟩:=z h2 rfl
   have e3:q++[n.nm]=q'++[n'.nm]:=e2.symm.trans e2'
   obtain ⟨e4,e5⟩:=List.append_inj' e3 rfl
   subst e4
   have e6:n.nm=n'.nm:=by simpa using e5
   have e7:n.par=n'.par:=ih (by rw [e2] at hl; simpa using hl) hq hq'
   have ho:=T.own
   have:n=n':=by
    unfold cN at ho
    obtain ⟨i,hi,gi⟩:=List.mem_iff_getElem.mp hn
    obtain ⟨j',hj,gj⟩:=List.mem_iff_getElem.mp hn'
    have:(ns.map λn=>(n.par,n.nm))[i]'(by simpa using hi)=(ns.map λn=>(n.par,n.nm))[j']'(by simpa using hj):=by
     rw [List.getElem_map,List.getElem_map,gi,gj,e6,e7]
    have hij:=(List.getElem_inj ho).mp this
    subst hij
    rw [← gi,← gj]
   rw [← e1,← e1',this]
 intro p k j h1 h2
 exact main p.length rfl h1 h2
theorem PathTo.chain {ns:List (Nd S)} (T:Tree1 ns) {k:Int} {p:List S} (h:PathTo ns k p):∃ l:List Int,l.length=p.length∧l.Nodup∧∀ x∈l,x∈ns.map (·.num)∧∃ q,PathTo ns x q∧q.length≤p.length:=by
 induction h with
 | top=>exact ⟨[],rfl,List.nodup_nil,by simp⟩
 | @node n p hm hp ih =>
  obtain ⟨l,e,nd,hx⟩:=ih
  refine ⟨n.num :: l,by simp [e],List.nodup_cons.mpr ⟨λhin=>?_,nd⟩,λx hx'=>?_⟩
  ·obtain ⟨_,q,hq,hl⟩:=hx _ hin
   have:=hq.uniq T (.node hm hp)
   rw [this] at hl
   simp at hl
   omega
  ·rcases List.mem_cons.mp hx' with e' | h'
   ·rw [e']
    exact ⟨List.mem_map.mpr ⟨n,hm,rfl⟩,_,.node hm hp,Nat.le_refl _⟩
   ·obtain ⟨a,q,b,c⟩:=hx x h'
    exact ⟨a,q,b,by simp; omega⟩
theorem PathTo.len {ns:List (Nd S)} (T:Tree1 ns) {k:Int} {p:List S} (h:PathTo ns k p):p.length≤ns.length:=by
 obtain ⟨l,e,nd,hx⟩:=h.chain T
 rw [← e]
 have:=List.Nodup.length_le_of_subset nd (λx hx'=>(hx x hx').1)
 rw [List.length_map] at this
 exact this
end
end TW
namespace TW
section
variable {S:Type}
end
end TW
namespace TW
section
variable {S:Type}
end
end TW
namespace TW
section
variable {S:Type}
end
end TW
namespace L2
open PySem PySem.Spec PyProof.Rows
section
variable {P:Program} {w:World} {K:PySem.W.Frag} {mg:Str→Option Value} {base:Heap}
theorem Fun.okX {x qual:Str} {st:Stmt} {f:Addr} {fd:FuncData} {N ps:List Str} {k:Nat} {sp:Sp} (F:Fun K x qual st f fd) (S:FnScope N ps (ak st)) (len:∀ vs H Q E,sp vs H Q E→vs.length=ps.length)
  (hbody:∀ (cdv:Value) (A:Around) (outer:List Env) (s:Shared) (H:Hp) (vs:List V) (Q:VK) (E:XK),Room k (A.deeper (envOfC qual (ak st) s.heap.objs.size f cdv))→sp vs H Q E →
   ∃ t,PSs (iF (CX1 P w) P w K mg base N qual (ak st) f cdv A outer s H E) (bK st) t∧t { nx:=λ_ H'=>Q .non H',rt:=Q } (start N vs) H):FnOk P w K mg base (CX1 P w) (k+1) f fd ps sp:=by
 obtain ⟨oc,od,kV,doc,pm,an,cdv,ct,osl,rfl,lk,hcd⟩:=F.ex
 exact qN lk hcd S len λA outer s H vs Q E hr hsp=>hbody cdv A outer s H vs Q E hr hsp
theorem LcOk.mk' {X:Cx} {scope:Scope} {cl:List (Str×Addr)} (fs:List Str) (hk:scope.kind = .function) (hc:closureFor scope X.env=pure cl) (hn:∀ x∈scope.names,x.2 = .local→scope.names.lookup x.1=some .local) (hnc:∀ x∈scope.names,x.2 ≠ .cell)
  (hcl:∀ y∈cl,X.env.cells.lookup y.1=some y.2) (hfs:cl.map (·.1)=fs) (hall:scope.names.all (λy=>!(y.2 == .free) || fs.contains y.1)=true):LcOk X scope cl:=by
 refine ⟨hk,hc,hn,hnc,λx c h=>hcl (x,c) (PySem.mem_of_lookup h),λx h=>?_⟩
 have hm:∃ k,(x,k)∈(relabel scope X.env).names∧(k = .cell∨k = .free):=by
  rcases h with h | h
  ·exact ⟨_,PySem.mem_of_lookup h,.inl rfl⟩
  ·exact ⟨_,PySem.mem_of_lookup h,.inr rfl⟩
 obtain ⟨k,hm,hk'⟩:=hm
 unfold relabel at hm
 obtain ⟨⟨y,k0⟩,hy,e⟩:=List.mem_map.mp hm
 have hfree:x=y∧k0 = .free:=by
  cases k0 with
  | free =>
   simp only at e
   split at e
   ·injection e with e1 e2; exact ⟨e1.symm,rfl⟩
   ·injection e with e1 e2; exact ⟨e1.symm,rfl⟩
  | cell=>exact absurd rfl (hnc _ hy)
  | _ =>
   exfalso
   have e2:k=_:=(congrArg Prod.snd e).symm
   simp at e2
   rcases hk' with z | z <;> rw [z] at e2 <;> cases e2
 obtain ⟨rfl,rfl⟩:=hfree
 have:=List.all_eq_true.mp hall _ hy
 have hin:fs.contains x=true:=by simpa using this
 rw [← hfs] at hin
 have hmem:x∈cl.map (·.1):=List.contains_iff_mem.mp hin
 cases e:cl.lookup x with
 | some c=>exact ⟨c,rfl⟩
 | none =>
  exfalso
  obtain ⟨y,hy,ey⟩:=List.mem_map.mp hmem
  have:=List.lookup_eq_none_iff.mp e y hy
  rw [ey] at this
  simp at this
end
end L2
namespace TK
open PySem L2
noncomputable abbrev Nd:=TW.Nd Str
noncomputable def stV:Option Int→V
 | none=>.non
 | some i=>.int i
noncomputable def vals (n:Nd):List V:=[.int n.num,.int n.par,.str n.nm,stV n.st]
noncomputable abbrev ZN:=List (Addr×Nd)
noncomputable def aN (zs:ZN):List V:=(zs.map (·.1)).map V.ref
noncomputable def nds (zs:ZN):List Nd:=zs.map (·.2)
noncomputable def At (H:Hp) (zs:ZN):Prop:=∀ z∈zs,H z.1=some (.tup (vals z.2))
theorem At.same {H H':Hp} {zs:ZN} (h:At H zs) (s:Same H H'):At H' zs:=λz hz=>s _ _ (h z hz)
theorem aL (zs:ZN):(aN zs).length=zs.length:=by simp [aN]
theorem aW (zs:ZN):(nds zs).length=zs.length:=by simp [nds]
theorem bu {zs:ZN} {i:Nat} {x:V} (h:(aN zs)[i]? = some x):∃ z,zs[i]? = some z∧x = .ref z.1:=by
 unfold aN at h
 rw [List.getElem?_map,List.getElem?_map] at h
 cases e:zs[i]? with
 | none=>rw [e] at h; cases h
 | some z=>rw [e] at h; exact ⟨z,rfl,(Option.some.inj h).symm⟩
theorem cX {zs:ZN} {i:Nat} {z:Addr×Nd} (h:zs[i]? = some z):(aN zs)[i]? = some (.ref z.1):=by
 unfold aN
 rw [List.getElem?_map,List.getElem?_map,h]; rfl
theorem at0 (n:Nd):atI (vals n) 0=some (.int n.num):=rfl
theorem at1 (n:Nd):atI (vals n) 1=some (.int n.par):=rfl
theorem at2 (n:Nd):atI (vals n) 2=some (.str n.nm):=rfl
theorem at3 (n:Nd):atI (vals n) 3=some (stV n.st):=rfl
theorem nH {σ:St} (h:σ.length=2):∃ a b,σ=[a,b]:=by
 match σ,h with
 | [a,b],_=>exact ⟨a,b,rfl⟩
theorem nI {σ:St} (h:σ.length=1):∃ a,σ=[a]:=by
 match σ,h with
 | [a],_=>exact ⟨a,rfl⟩
theorem aI {n:Nat} (h:n≤1000):n≤sizeLine:=Nat.le_of_lt (aQ h)
theorem le2:2≤sizeLine:=aI (by decide)
theorem rX {A:Around} {k:Nat} (hr:Room k A):A.units+4<cLine:=Nat.lt_of_le_of_lt (Nat.add_le_add_left (by decide:4≤64) _) hr.units
noncomputable def plK (n:Nd):List Key:=[.inl n.par,.inr n.nm]
theorem qp (zs:List Nd):(zs.map plK).Nodup↔TW.cN zs:=by
 unfold TW.cN List.Nodup
 rw [List.pairwise_map,List.pairwise_map]
 have e:∀ a b:Nd,(plK a≠plK b)=((a.par,a.nm)≠(b.par,b.nm)):=λa b=>by
  simp [plK]
 simp only [e]
noncomputable def ins (zs:ZN) (k:Int):ZN:=zs.filter λz=>decide (z.2.par=k)
theorem oK (zs:ZN) (k:Int):nds (ins zs k)=TW.io (nds zs) k:=by
 unfold nds ins TW.io
 rw [List.filter_map]
 rfl
theorem dF (zs:ZN) (z:Addr×Nd) (k:Int):ins (zs++[z]) k=if z.2.par=k then ins zs k++[z] else ins zs k:=by
 unfold ins
 rw [List.filter_append]
 by_cases h:z.2.par=k
 ·rw [if_pos h,List.filter_cons_of_pos (by simp [h])]; rfl
 ·rw [if_neg h,List.filter_cons_of_neg (by simp [h])]; simp
theorem uv {zs:ZN} {k:Int} {z:Addr×Nd} (h:z∈ins zs k):z∈zs:=(List.mem_filter.mp h).1
theorem jk (zs:ZN) (z:Addr×Nd):aN (zs++[z])=aN zs++[.ref z.1]:=by simp [aN]
structure Mem (H0 H:Hp) (d:Addr) (L:Int→Addr) (kvs:List (Key×V)) (xs:ZN) (dn:List Int):Prop where
 dict:H d=some (.dK kvs)
 d0:H0 d=none
 len:kvs.length≤xs.length
 val:∀ k:Int,br kvs (Sum.inl k:Key)=if k∈dn∨ins xs k=[] then none else some (.ref (L k))
 at':∀ k,k∉dn→ins xs k≠[]→H (L k)=some (.lst (aN (ins xs k)))∧H0 (L k)=none
 inj:∀ k k',k∉dn→k'∉dn→ins xs k≠[]→ins xs k'≠[]→L k=L k'→k=k'
 same:Same H0 H
theorem Mem.grow {H0 H H':Hp} {d:Addr} {L:Int→Addr} {kvs:List (Key×V)} {xs:ZN} {dn:List Int} (m:Mem H0 H d L kvs xs dn) (s:Same H H'):Mem H0 H' d L kvs xs dn :=
 ⟨s _ _ m.dict,m.d0,m.len,m.val,λk h1 h2=>⟨s _ _ (m.at' k h1 h2).1,(m.at' k h1 h2).2⟩,m.inj,m.same.trans s⟩
theorem Mem.other {H0 H:Hp} {d p:Addr} {L:Int→Addr} {kvs:List (Key×V)} {xs:ZN} {dn:List Int} {is:List Int} {o:HO} (m:Mem H0 H d L kvs xs dn) (hp:H p=some (.lst (is.map V.int))) (h0:H0 p=none):Mem H0 (upd H p o) d L kvs xs dn:=by
 refine ⟨?_,m.d0,m.len,m.val,λk h1 h2=>⟨?_,(m.at' k h1 h2).2⟩,m.inj,ay h0 m.same⟩
 ·rw [ag]
  ·exact m.dict
  ·intro e; have:=m.dict; rw [e,hp] at this; cases this
 ·have e1:=(m.at' k h1 h2).1
  rw [ag]
  ·exact e1
  ·intro e
   rw [e,hp] at e1
   injection e1 with e1
   injection e1 with e1
   have hne:=h2
   cases hk:ins xs k with
   | nil=>exact h2 hk
   | cons a r =>
    rw [hk] at e1
    cases is with
    | nil=>simp [aN] at e1
    | cons i r'=>simp [aN] at e1
theorem Mem.start {H0:Hp} {d:Addr} (h:H0 d=none):Mem H0 (upd H0 d (.dK [])) d (λ_=>d) [] [] [] :=
 ⟨ac,h,by simp,λk=>by rw [if_pos (.inr rfl)]; rfl,λk _ h=>absurd rfl h,λk k' _ _ h=>absurd rfl h,af h⟩
theorem Mem.hit {H0 H:Hp} {d:Addr} {L:Int→Addr} {kvs:List (Key×V)} {xs:ZN} {z:Addr×Nd} (m:Mem H0 H d L kvs xs []) (hp:ins xs z.2.par≠[]) :
  Mem H0 (upd H (L z.2.par) (.lst (aN (ins xs z.2.par)++[.ref z.1]))) d L kvs (xs++[z]) []:=by
 have e1:=(m.at' z.2.par (by simp) hp)
 have hd:d≠L z.2.par:=λe=>by
  have:=m.dict
  rw [e,e1.1] at this
  cases this
 have ne:∀ k,ins (xs++[z]) k=[]↔ins xs k=[]:=λk=>by
  rw [dF]
  by_cases h:z.2.par=k
  ·rw [if_pos h]
   subst h
   simp [hp]
  ·rw [if_neg h]
 refine ⟨by rw [ag hd]; exact m.dict,m.d0,by have:=m.len; simp; omega,λk=>?_,λk h1 h2=>?_,λk k' _ _ h2 h3 e=>m.inj k k' (by simp) (by simp) (λh=>h2 ((ne k).mpr h)) (λh=>h3 ((ne k').mpr h)) e,ay e1.2 m.same⟩
 ·rw [m.val k]
  simp only [ne k]
 ·have h2':ins xs k≠[]:=λh=>h2 ((ne k).mpr h)
  refine ⟨?_,(m.at' k h1 h2').2⟩
  by_cases h:z.2.par=k
  ·subst h
   rw [ac,dF,if_pos rfl,jk]
  ·rw [ag,dF,if_neg h]
   ·exact (m.at' k h1 h2').1
   ·intro e
    exact h (m.inj _ _ (by simp) (by simp) hp h2' e.symm)
theorem Mem.fresh {H0 H:Hp} {d q:Addr} {L:Int→Addr} {kvs:List (Key×V)} {xs:ZN} {z:Addr×Nd} (m:Mem H0 H d L kvs xs []) (hp:ins xs z.2.par=[]) (hq:H q=none) :
  Mem H0 (upd (upd (upd H q (.lst [])) d (.dK (cP kvs (Sum.inl z.2.par:Key) (.ref q)))) q (.lst ([]++[.ref z.1]))) d (λk=>if k=z.2.par then q else L k) (cP kvs (Sum.inl z.2.par:Key) (.ref q)) (xs++[z]) []:=by
 have hdq:d≠q:=λe=>by
  have:=m.dict
  rw [e,hq] at this
  cases this
 have lq:∀ k,ins xs k≠[]→L k≠q:=λk h e=>by
  have:=(m.at' k (by simp) h).1
  rw [e,hq] at this
  cases this
 have ld:∀ k,ins xs k≠[]→L k≠d:=λk h e=>by
  have:=(m.at' k (by simp) h).1
  rw [e,m.dict] at this
  cases this
 have q0:H0 q=none:=m.same.free hq
 have e2:∀ k,k≠z.2.par→ins (xs++[z]) k=ins xs k:=λk h=>by rw [dF,if_neg (λe=>h e.symm)]
 have e3:ins (xs++[z]) z.2.par=[z]:=by rw [dF,if_pos rfl,hp]; rfl
 refine ⟨by rw [ag hdq,ac],m.d0,?_,λk=>?_,λk h1 h2=>?_,λk k' _ _ h2 h3 e=>?_,?_⟩
 ·have h1:=m.len
  have h2:=cD kvs (Sum.inl z.2.par:Key) (.ref q)
  rw [List.length_append,List.length_singleton]
  omega
 ·rw [kJ]
  by_cases h:k=z.2.par
  ·subst h
   rw [if_pos rfl,if_neg (by rw [e3]; simp),if_pos rfl]
  ·rw [if_neg (λe=>h (Sum.inl.inj e)),m.val k,e2 k h,if_neg h]
 ·by_cases h:k=z.2.par
  ·subst h
   simp only [if_true]
   exact ⟨by rw [ac,e3]; rfl,q0⟩
  ·rw [e2 k h] at h2
   simp only [if_neg h]
   refine ⟨?_,(m.at' k h1 h2).2⟩
   rw [ag (lq k h2),ag (ld k h2),ag (lq k h2),e2 k h]
   exact (m.at' k h1 h2).1
 ·by_cases h:k=z.2.par
  ·by_cases h':k'=z.2.par
   ·rw [h,h']
   ·rw [e2 k' h'] at h3
    simp only [if_pos h,if_neg h'] at e
    exact absurd e.symm (lq k' h3)
  ·rw [e2 k h] at h2
   by_cases h':k'=z.2.par
   ·simp only [if_neg h,if_pos h'] at e
    exact absurd e (lq k h2)
   ·rw [e2 k' h'] at h3
    simp only [if_neg h,if_neg h'] at e
    exact m.inj k k' (by simp) (by simp) h2 h3 e
 ·exact ay q0 (ay m.d0 (m.same.trans (af hq)))
theorem qr {κ:Type} [DecidableEq κ] (kvs:List (κ×V)) (k j:κ):br (cj kvs k) j=if j=k then none else br kvs j:=by
 induction kvs with
 | nil=>simp [cj,br]
 | cons p r ih =>
  by_cases e:p.1=k
  ·rw [pO e,ih]
   by_cases h:j=k
   ·rw [if_pos h,if_pos h]
   ·rw [if_neg h,if_neg h,aU (λz=>h (z.symm.trans e))]
  ·rw [pP e]
   by_cases h:p.1=j
   ·rw [bd h,if_neg (λz=>e (h.trans z)),bd h]
   ·rw [aU h,ih,aU h]
theorem Mem.drop {H0 H:Hp} {d:Addr} {L:Int→Addr} {kvs:List (Key×V)} {xs:ZN} {dn:List Int} (m:Mem H0 H d L kvs xs dn) (x:Int):Mem H0 (upd H d (.dK (cj kvs (Sum.inl x:Key)))) d L (cj kvs (Sum.inl x:Key)) xs (x :: dn):=by
 have ld:∀ k,k∉dn→ins xs k≠[]→L k≠d:=λk h0 h e=>by
  have:=(m.at' k h0 h).1
  rw [e,m.dict] at this
  cases this
 have no:∀ k,k∉x :: dn→k∉dn:=λk h h'=>h (List.mem_cons_of_mem _ h')
 refine ⟨ac,m.d0,Nat.le_trans (kK _ _) m.len,λk=>?_,λk h1 h2=>?_,λk k' h0 h1 h2 h3 e=>m.inj k k' (no k h0) (no k' h1) h2 h3 e,ay m.d0 m.same⟩
 ·rw [qr,m.val k]
  by_cases h:k=x
  ·rw [if_pos (by rw [h]),if_pos (.inl (by rw [h]; simp))]
  ·rw [if_neg (λe=>h (Sum.inl.inj e))]
   simp [h]
 ·rw [ag (ld k (no k h1) h2)]
  exact m.at' k (no k h1) h2
theorem Mem.skip {H0 H:Hp} {d:Addr} {L:Int→Addr} {kvs:List (Key×V)} {xs:ZN} {dn:List Int} (m:Mem H0 H d L kvs xs dn) {x:Int} (hx:x∈dn∨ins xs x=[]):Mem H0 H d L kvs xs (x :: dn):=by
 have no:∀ k,k∉x :: dn→k∉dn:=λk h h'=>h (List.mem_cons_of_mem _ h')
 refine ⟨m.dict,m.d0,m.len,λk=>?_,λk h1 h2=>m.at' k (no k h1) h2,λk k' h0 h1 h2 h3 e=>m.inj k k' (no k h0) (no k' h1) h2 h3 e,m.same⟩
 rw [m.val k]
 by_cases h:k=x
 ·subst h
  rw [if_pos hx,if_pos (.inl (by simp))]
 ·simp [h]
theorem rY {Q:VK} {H0 H:Hp} {d q:Addr} {L:Int→Addr} {kvs:List (Key×V)} {zs:ZN} {dn:List Int} {x:Int} (m:Mem H0 H d L kvs zs dn) (hq:H q=some (.lst []))
  (k:∀ hl Hc kvs' hs,Mem H0 Hc d L kvs' zs (x :: dn)→Hc hl=some (.lst (aN hs))→nds hs=TW.jQ (nds zs) dn x→(∀ z∈hs,z∈zs)→(∀ p,p≠d→Hc p=H p)→(hs=[]→hl=q)→Q (.ref hl) Hc) :
  ∃ kvs k,H d=some (.dK kvs)∧V.int x=kV k∧(∀ v,br kvs k=some v→Q v (upd H d (.dK (cj kvs k))))∧(br kvs k=none→Q (.ref q) H):=by
 refine ⟨kvs,.inl x,m.dict,rfl,λv hv=>?_,λhn=>?_⟩
 ·rw [m.val x] at hv
  by_cases h:x∈dn∨ins zs x=[]
  ·rw [if_pos h] at hv; cases hv
  ·rw [if_neg h] at hv
   have h1:x∉dn:=λz=>h (.inl z)
   have h2:ins zs x≠[]:=λz=>h (.inr z)
   cases hv
   have a:=(m.at' x h1 h2).1
   have ld:L x≠d:=λe=>by rw [e,m.dict] at a; cases a
   refine k (L x) _ _ (ins zs x) (m.drop x) (by rw [ag ld]; exact a) ?_ (λz hz=>uv hz) (λp hp=>ag hp) (λe=>absurd e h2)
   rw [oK]; unfold TW.jQ; rw [if_neg h1]
 ·rw [m.val x] at hn
  by_cases h:x∈dn∨ins zs x=[]
  ·refine k q _ _ [] (m.skip h) hq ?_ (by simp) (λp _=>rfl) (λ_=>rfl)
   unfold TW.jQ
   by_cases h1:x∈dn
   ·rw [if_pos h1]; rfl
   ·rw [if_neg h1]
    rcases h with h | h
    ·exact absurd h h1
    ·rw [← oK,h]
  ·rw [if_neg h] at hn; cases hn
theorem oM {H:Hp} {p hl:Addr} {hs:ZN} {is:List Int} (hp:H p=some (.lst (is.map V.int))) (h:H hl=some (.lst (aN hs))) (hne:hs≠[]):hl≠p:=by
 intro e
 rw [e,hp] at h
 injection h with h
 injection h with h
 cases hs with
 | nil=>exact hne rfl
 | cons a r =>
  cases is with
  | nil=>simp [aN] at h
  | cons i r'=>simp [aN] at h
noncomputable def fb (H:Hp) (p:Addr):Nat:=match H p with
 | some (.lst xs)=>xs.length
 | _=>0
theorem cY {H:Hp} {p:Addr} {xs:List V} (h:H p=some (.lst xs)):fb H p=xs.length:=by unfold fb; rw [h]
noncomputable def cA (l:List Nd):List V:=(l.map (·.num)).map V.int
noncomputable def fc (K:PySem.W.Frag) (H:Hp) (a:Addr):Prop:=∃ ns:List Int,SqL K H a (ns.map V.int)
theorem fc.same {K:PySem.W.Frag} {H H':Hp} {a:Addr} (h:fc K H a) (s:Same H H'):fc K H' a:=let ⟨ns,e⟩:=h; ⟨ns,s.seq e⟩
theorem lV {ns:List Int} {i:Int} (h0:0≤i) (h1:i<ns.length):∃ j,atI (ns.map V.int) i=some (.int j):=by
 refine ⟨ns[i.toNat]'(by omega),?_⟩
 have:=jA (xs:=ns.map V.int) (j:=i.toNat) (v:=.int (ns[i.toNat]'(by omega))) (by rw [List.getElem?_map,List.getElem?_eq_getElem (by omega)]; rfl)
 rw [show ((i.toNat:Nat):Int)=i by omega] at this
 exact this
noncomputable def Has (P:Program) (w:World) (K:PySem.W.Frag) (mg:Str→Option Value) (base:Heap) (k:Nat) (x:Str) (ps:List Str) (sp:Sp):Prop:=∃ f fd,FnOk P w K mg base CX0 k f fd ps sp∧mg x=some (.ref f)∧PySem.W.keepIn K (.ref f)=true∧bq K fd ps []
noncomputable def wz (n:Nd):Prop:=1≤n.num∧n.num≤12∧(n.nm="a"∨n.nm="b"∨n.nm="c"∨n.nm="abcde")∧(n.st=none∨n.st=some 0∨n.st=some 1∨n.st=some 2∨n.st=some 999)
structure Bd (zs:ZN) (lf:List Int):Prop where
 built:TW.Built (nds zs)
 nd:((nds zs).map (·.num)++lf).Nodup
 rng:∀ x∈lf,1≤x∧x≤12
 own:TW.cN (nds zs)
 ok:∀ z∈zs,wz z.2
theorem Bd.skip {zs:ZN} {lf:List Int} (b:Bd zs lf) (i:Nat):Bd zs (lf.eraseIdx i) :=
 ⟨b.built,List.Nodup.sublist (List.Sublist.append (List.Sublist.refl _) (List.eraseIdx_sublist lf i)) b.nd,λx hx=>b.rng x ((List.eraseIdx_sublist lf i).mem hx),b.own,b.ok⟩
theorem iq:∀ {l:List Int} {i:Nat} {x:Int},l[i]? = some x→(x :: l.eraseIdx i).Perm l
 | a :: l,0,x,h=>by
  have:a=x:=by simpa using h
  subst this
  exact List.Perm.refl _
 | a :: l,i+1,x,h=>by
  have h':l[i]? = some x:=by simpa using h
  exact (List.Perm.swap a x _).trans (List.Perm.cons a (iq h'))
 | [],i,x,h=>by simp at h
theorem Bd.add {zs:ZN} {lf:List Int} {i:Nat} {q:Addr} {n:Nd} (b:Bd zs lf) (hi:lf[i]? = some n.num) (hp:n.par∈(0:Int) :: TW.aF (nds zs)) (ho:∀ z∈zs,¬ (z.2.par=n.par∧z.2.nm=n.nm))
  (h3:n.nm="a"∨n.nm="b"∨n.nm="c"∨n.nm="abcde") (h4:n.st=none∨n.st=some 0∨n.st=some 1∨n.st=some 2∨n.st=some 999):Bd (zs++[(q,n)]) (lf.eraseIdx i):=by
 have e:nds (zs++[(q,n)])=nds zs++[n]:=by simp [nds]
 have pm:=iq hi
 refine ⟨?_,?_,λx hx=>b.rng x ((List.eraseIdx_sublist lf i).mem hx),?_,λz hz=>?_⟩
 ·rw [e]
  refine .snoc b.built ?_
  rcases List.mem_cons.mp hp with h | h
  ·exact .inl h
  ·exact .inr (TW.gm.mp h)
 ·rw [e,List.map_append,List.append_assoc]
  exact ((List.Perm.append_left _ pm).nodup_iff).mpr b.nd
 ·rw [e]
  unfold TW.cN
  rw [List.map_append,List.nodup_append]
  refine ⟨b.own,by simp,λx hx y hy=>?_⟩
  have ey:y=(n.par,n.nm):=by simpa using hy
  subst ey
  obtain ⟨m,hm,rfl⟩:=List.mem_map.mp hx
  obtain ⟨z,hz,rfl⟩:=List.mem_map.mp hm
  intro h
  injection h with h1 h2
  exact ho z hz ⟨h1,h2⟩
 ·rcases List.mem_append.mp hz with h | h
  ·exact b.ok z h
  ·have ez:z=(q,n):=by simpa using h
   subst ez
   have:=b.rng n.num (List.mem_of_getElem? hi)
   exact ⟨this.1,this.2,h3,h4⟩
noncomputable def tp (z:Addr×Nd):iM:=(z.1,z.2.num,[.int z.2.par,.str z.2.nm,stV z.2.st])
noncomputable def un (t:iM):Addr×Nd:=(t.1,match t.2.2 with
 | [.int p,.str s,.int i]=>⟨t.2.1,p,s,some i⟩
 | [.int p,.str s,_]=>⟨t.2.1,p,s,none⟩
 | _=>⟨0,0,"",none⟩)
theorem vj (z:Addr×Nd):un (tp z)=z:=by
 obtain ⟨a,⟨n,p,s,st⟩⟩:=z
 cases st <;> rfl
theorem back {zs:ZN} {ts:List iM} (h:ts.Perm (zs.map tp)):(ts.map un).Perm zs∧(ts.map un).map tp=ts:=by
 constructor
 ·have:=h.map un
  rw [List.map_map] at this
  have e:zs.map (un ∘ tp)=zs.map id:=List.map_congr_left λz _=>vj z
  rw [e,List.map_id] at this
  exact this
 ·rw [List.map_map,List.map_congr_left (g:=id)]
  ·simp
  ·intro t ht
   obtain ⟨z,_,rfl⟩:=List.mem_map.mp (h.mem_iff.mp ht)
   show tp (un (tp z))=tp z
   rw [vj]
theorem oN (zs:ZN):((zs.map tp).map (·.1)).map V.ref=aN zs:=by
 unfold aN
 simp only [List.map_map]
 rfl
theorem wA {n:Nat} {j:Int} (h0:0≤j) (h1:j<n):seqIndex? j n=some j.toNat:=(ou (by unfold ixN; rw [if_pos h0,if_pos h1])).1
theorem jl:∀ (l:List Int) (i:Nat),(l.map V.int).eraseIdx i=(l.eraseIdx i).map V.int
 | [],i=>by simp
 | a :: l,0=>rfl
 | a :: l,i+1=>by
  show V.int a :: (l.map V.int).eraseIdx i=V.int a :: (l.eraseIdx i).map V.int
  rw [jl l i]
theorem uw {ns:List Int} {i:Int} (h0:0≤i) (h1:i<ns.length):∃ x∈ns,atI (ns.map V.int) i=some (.int x):=by
 refine ⟨ns[i.toNat]'(by omega),List.getElem_mem _,?_⟩
 have:=jA (xs:=ns.map V.int) (j:=i.toNat) (v:=.int (ns[i.toNat]'(by omega))) (by rw [List.getElem?_map,List.getElem?_eq_getElem (by omega)]; rfl)
 rw [show ((i.toNat:Nat):Int)=i by omega] at this
 exact this
theorem ux {j:Int} (h0:0≤j) (h1:j<4):∃ x:Str,(x="a"∨x="b"∨x="c"∨x="abcde")∧atI [V.str "a",.str "b",.str "c",.str "abcde"] j=some (.str x):=by
 obtain rfl | rfl | rfl | rfl:j=0∨j=1∨j=2∨j=3:=by omega
 ·exact ⟨"a",.inl rfl,rfl⟩
 ·exact ⟨"b",.inr (.inl rfl),rfl⟩
 ·exact ⟨"c",.inr (.inr (.inl rfl)),rfl⟩
 ·exact ⟨"abcde",.inr (.inr (.inr rfl)),rfl⟩
theorem uy {j:Int} (h0:0≤j) (h1:j<4):∃ i:Int,(some i=none∨some i=some (0:Int)∨some i=some 1∨some i=some 2∨some i=some 999)∧atI [V.int 0,.int 1,.int 2,.int 999] j=some (.int i):=by
 obtain rfl | rfl | rfl | rfl:j=0∨j=1∨j=2∨j=3:=by omega
 ·exact ⟨0,.inr (.inl rfl),rfl⟩
 ·exact ⟨1,.inr (.inr (.inl rfl)),rfl⟩
 ·exact ⟨2,.inr (.inr (.inr (.inl rfl))),rfl⟩
 ·exact ⟨999,.inr (.inr (.inr (.inr rfl))),rfl⟩
structure Sta (H:Hp) (pl pf pn:Addr) (Hx:Hp) (lf fs:List Int) (zs:ZN):Prop where
 same:Same H Hx
 l:Hx pl=some (.lst (lf.map V.int))
 f:Hx pf=some (.lst (fs.map V.int))
 n:Hx pn=some (.lst (aN zs))
 nd:At Hx zs
 l0:H pl=none
 f0:H pf=none
 n0:H pn=none
 lf':pl≠pf
 ln':pl≠pn
 fn':pf≠pn
theorem Sta.grow {H Hx Hy:Hp} {pl pf pn:Addr} {lf fs:List Int} {zs:ZN} (a:Sta H pl pf pn Hx lf fs zs) (s:Same Hx Hy):Sta H pl pf pn Hy lf fs zs :=
 ⟨a.same.trans s,s _ _ a.l,s _ _ a.f,s _ _ a.n,a.nd.same s,a.l0,a.f0,a.n0,a.lf',a.ln',a.fn'⟩
theorem At.over {H:Hp} {p:Addr} {xs:List V} {o:HO} {zs:ZN} (h:At H zs) (hp:H p=some (.lst xs)):At (upd H p o) zs:=λz hz=>by
 rw [ag]
 ·exact h z hz
 ·intro e
  have:=h z hz
  rw [e,hp] at this
  cases this
theorem Sta.pop {H Hx:Hp} {pl pf pn:Addr} {lf fs:List Int} {zs:ZN} (a:Sta H pl pf pn Hx lf fs zs) (lf2:List Int):Sta H pl pf pn (upd Hx pl (.lst (lf2.map V.int))) lf2 fs zs :=
 ⟨ay a.l0 a.same,ac,by rw [ag (Ne.symm a.lf')]; exact a.f,by rw [ag (Ne.symm a.ln')]; exact a.n,a.nd.over a.l,a.l0,a.f0,a.n0,a.lf',a.ln',a.fn'⟩
theorem Sta.fold {H Hx:Hp} {pl pf pn:Addr} {lf fs:List Int} {zs:ZN} (a:Sta H pl pf pn Hx lf fs zs) (x:Int):Sta H pl pf pn (upd Hx pf (.lst (fs.map V.int++[.int x]))) lf (fs++[x]) zs :=
 ⟨ay a.f0 a.same,by rw [ag a.lf']; exact a.l,by rw [ac]; simp,by rw [ag (Ne.symm a.fn')]; exact a.n,a.nd.over a.f,a.l0,a.f0,a.n0,a.lf',a.ln',a.fn'⟩
theorem Sta.node {H Hx:Hp} {pl pf pn q:Addr} {lf fs:List Int} {zs:ZN} {n:Nd} (a:Sta H pl pf pn Hx lf fs zs) (hq:Hx q=some (.tup (vals n))):Sta H pl pf pn (upd Hx pn (.lst (aN zs++[.ref q]))) lf fs (zs++[(q,n)]) :=
 ⟨ay a.n0 a.same,by rw [ag a.ln']; exact a.l,by rw [ag a.fn']; exact a.f,by rw [ac,jk],(λz hz=>by
  rcases List.mem_append.mp hz with h | h
  ·exact a.nd.over a.n z h
  ·have ez:z=(q,n):=by simpa using h
   subst ez
   rw [ag]
   ·exact hq
   ·intro e
    have e':q=pn:=e
    rw [e',a.n] at hq
    cases hq),a.l0,a.f0,a.n0,a.lf',a.ln',a.fn'⟩
noncomputable def lf0 (m:Int):List Int:=(List.range (m+4 - 1).toNat).map λk=>(1:Int)+(k:Nat)
theorem uz {m:Int} (h:0≤m):((lf0 m).length:Int)=m+3:=by unfold lf0; rw [List.length_map,List.length_range]; omega
theorem uA {m:Int} (h:m≤9):∀ x∈lf0 m,1≤x∧x≤12:=λx hx=>by
 unfold lf0 at hx
 obtain ⟨k,hk,rfl⟩:=List.mem_map.mp hx
 have:=List.mem_range.mp hk
 omega
theorem wB (m:Int):(lf0 m).Nodup:=by
 unfold lf0 List.Nodup
 rw [List.pairwise_map]
 exact List.nodup_range.imp λh e=>h (by omega)
theorem Bd.zero {m:Int} (h:m≤9):Bd [] (lf0 m):=⟨.nil,by show (([]:List Int)++lf0 m).Nodup; rw [List.nil_append]; exact wB m,uA h,by unfold TW.cN nds; simp,by simp⟩
noncomputable def dm (zs:ZN):List (Key×V):=zs.map λz=>((Sum.inl z.2.num:Key),V.ref z.1)
theorem jS {zs:ZN} (hn:((nds zs).map (·.num)).Nodup) {z:Addr×Nd} (hz:z∈zs):br (dm zs) (Sum.inl z.2.num:Key)=some (.ref z.1):=by
 induction zs with
 | nil=>simp at hz
 | cons y zs ih =>
  have hn':y.2.num∉(nds zs).map (·.num)∧((nds zs).map (·.num)).Nodup:=by simpa [nds] using hn
  show br (((Sum.inl y.2.num:Key),V.ref y.1) :: dm zs) _=_
  rcases List.mem_cons.mp hz with e | hz'
  ·subst e
   exact bd rfl
  ·rw [aU]
   ·exact ih hn'.2 hz'
   ·intro e
    injection e with e
    exact hn'.1 (List.mem_map.mpr ⟨z.2,List.mem_map.mpr ⟨z,hz',rfl⟩,e.symm⟩)
noncomputable def nJ (H:Hp) (d:Addr) (zs:ZN):Prop:=∃ o,H d=some (.frz o (.dK (dm zs)))
theorem nJ.same {H H':Hp} {d:Addr} {zs:ZN} (h:nJ H d zs) (s:Same H H'):nJ H' d zs:=let ⟨o,e⟩:=h; ⟨o,s _ _ e⟩
theorem nJ.get {H:Hp} {d:Addr} {zs:ZN} (h:nJ H d zs) (hn:((nds zs).map (·.num)).Nodup) {z:Addr×Nd} (hz:z∈zs):nu H d (.int z.2.num) (some (.ref z.1)):=by
 obtain ⟨o,e⟩:=h
 exact .inl ⟨dm zs,Sum.inl z.2.num,.inr ⟨o,e⟩,rfl,(jS hn hz).symm⟩
theorem dq {ns:List Nd} (T:TW.Tree1 ns):(ns.map (·.num)).Nodup:=by
 have h:=T.rise
 unfold TW.ip at h
 unfold List.Nodup
 rw [List.pairwise_map]
 exact h.imp λh e=>by omega
theorem uB {ys:List V} {zs:ZN} {H:Hp} {p:Addr} {g:Addr×Nd→List V} (hlen:ys.length=zs.length) (h:∀ (i:Nat) y,ys[i]? = some y→∃ q z,zs[i]? = some z∧y = .ref q∧q≠p∧H q=some (.tup (g z))) :
  ∃ as:List (Addr×(Addr×Nd)),as.map (·.2)=zs∧ys=(as.map (·.1)).map V.ref∧∀ a∈as,a.1≠p∧H a.1=some (.tup (g a.2)):=by
 induction ys generalizing zs with
 | nil =>
  have:zs=[]:=List.length_eq_zero_iff.mp hlen.symm
  subst this
  exact ⟨[],rfl,rfl,by simp⟩
 | cons y ys ih =>
  cases zs with
  | nil=>simp at hlen
  | cons z zs =>
   obtain ⟨as,e1,e2,e3⟩:=ih (zs:=zs) (by simpa using hlen) λi x hx=>by simpa using h (i+1) x (by simpa using hx)
   obtain ⟨q,z',f1,f2,f3,f4⟩:=h 0 y rfl
   have:z=z':=by simpa using f1
   subst this
   refine ⟨(q,z) :: as,by simp [e1],by simp [e2,f2],λa ha=>?_⟩
   rcases List.mem_cons.mp ha with rfl | ha
   ·exact ⟨f3,f4⟩
   ·exact e3 a ha
theorem rZ {κ:Type} [DecidableEq κ] {kvs:List (κ×V)} (hn:(kvs.map (·.1)).Nodup) {k:κ} {v:V} (h:(k,v)∈kvs):br kvs k=some v:=by
 induction kvs with
 | nil=>simp at h
 | cons y kvs ih =>
  have hn':y.1∉kvs.map (·.1)∧(kvs.map (·.1)).Nodup:=by simpa using hn
  rcases List.mem_cons.mp h with e | h'
  ·subst e; exact bd rfl
  ·rw [aU]
   ·exact ih hn'.2 h'
   ·intro e
    exact hn'.1 (List.mem_map.mpr ⟨_,h',e.symm⟩)
theorem oO {zs:ZN} {k:Int} {q:List Str} (T:TW.Tree1 (nds zs)) (h:TW.PathTo (nds zs) k q) (hk:k≠0):∃ z∈zs,z.2.num=k∧∃ q',q=q'++[z.2.nm]∧TW.PathTo (nds zs) z.2.par q':=by
 cases h with
 | top=>exact absurd rfl hk
 | @node n q' hm hq' =>
  obtain ⟨z,hz,rfl⟩:=List.mem_map.mp hm
  exact ⟨z,hz,rfl,q',rfl,hq'⟩
noncomputable def lW (P:Program) (w:World) (K:PySem.W.Frag) (mg:Str→Option Value) (base:Heap) (k:Nat) (x:Str) (ps:List Str) (sp:Sp):Prop:=∃ f fd,FnOk P w K mg base (CX1 P w) k f fd ps sp∧mg x=some (.ref f)∧PySem.W.keepIn K (.ref f)=true∧bq K fd ps []
structure Tre (H:Hp) (t:Addr) (zs:ZN):Prop where
 tup:H t=some (.tup (aN zs))
 nod:At H zs
 tr:TW.Tree1 (nds zs)
 len:zs.length≤30
theorem Tre.same {H H':Hp} {t:Addr} {zs:ZN} (h:Tre H t zs) (s:Same H H'):Tre H' t zs:=⟨s _ _ h.tup,h.nod.same s,h.tr,h.len⟩
theorem _root_.L2.Same.rd {H H':Hp} (s:Same H H') {a:Addr} {u:HO} (r:Rd H a u):Rd H' a u:=by
 rcases r with r | ⟨o,r⟩
 ·exact .inl (s _ _ r)
 ·exact .inr ⟨o,s _ _ r⟩
noncomputable def ck (as:List (Addr×(Addr×Nd))):List (Key×V):=as.map λa=>((Sum.inl a.2.2.num:Key),V.ref a.1)
noncomputable def cZ (n:Nd):List V:=[.int n.par,.str n.nm,stV n.st]
structure Book (H:Hp) (d:Addr) (as:List (Addr×(Addr×Nd))) (zs:ZN):Prop where
 dict:Rd H d (.dK (ck as))
 of:as.map (·.2)=zs
 at':∀ a∈as,H a.1=some (.tup (cZ a.2.2))
theorem Book.same {H H':Hp} {d:Addr} {as:List (Addr×(Addr×Nd))} {zs:ZN} (b:Book H d as zs) (s:Same H H'):Book H' d as zs:=⟨s.rd b.dict,b.of,λa ha=>s _ _ (b.at' a ha)⟩
theorem nK {as:List (Addr×(Addr×Nd))} {zs:ZN} (h:as.map (·.2)=zs):(ck as).map (·.1)=((nds zs).map (·.num)).map (Sum.inl:Int→Key):=by
 rw [← h]; unfold ck nds; simp only [List.map_map]; rfl
theorem se {as:List (Addr×(Addr×Nd))} {zs:ZN} (h:as.map (·.2)=zs) (hn:((nds zs).map (·.num)).Nodup):((ck as).map (·.1)).Nodup:=by
 rw [nK h]
 unfold List.Nodup at hn ⊢
 rw [List.pairwise_map]
 exact hn.imp λh e=>h (by injection e)
theorem Book.get {H:Hp} {d:Addr} {as:List (Addr×(Addr×Nd))} {zs:ZN} (b:Book H d as zs) (hn:((nds zs).map (·.num)).Nodup) {z:Addr×Nd} (hz:z∈zs):∃ q,nu H d (.int z.2.num) (some (.ref q))∧H q=some (.tup (cZ z.2)):=by
 have:z∈as.map (·.2):=by rw [b.of]; exact hz
 obtain ⟨a,ha,rfl⟩:=List.mem_map.mp this
 refine ⟨a.1,.inl ⟨ck as,Sum.inl a.2.2.num,b.dict,rfl,?_⟩,b.at' a ha⟩
 exact (rZ (se b.of hn) (List.mem_map.mpr ⟨a,ha,rfl⟩)).symm
noncomputable def nL (ns:List Nd) (k:Int):Nat:=open Classical in if h:∃ p,TW.PathTo ns k p then (Classical.choose h).length else 0
theorem oP {ns:List Nd} (T:TW.Tree1 ns) {k:Int} {p:List Str} (h:TW.PathTo ns k p):nL ns k=p.length:=by
 unfold nL
 have hx:∃ p,TW.PathTo ns k p:=⟨p,h⟩
 rw [dif_pos hx]
 rw [(Classical.choose_spec hx).uniq T h]
theorem yV (n:Nd):atI (cZ n) 0=some (.int n.par):=rfl
theorem yW (n:Nd):atI (cZ n) 1=some (.str n.nm):=rfl
noncomputable abbrev jm (x:Str) (mg:Str→Option Value) (base:Heap) (C:Addr):Prop:=PyProof.Rows.OwnCls x C bmV "ValueError.__new__" mg base
theorem bQ {zs:ZN} {z:Addr×Nd} (h:z∈zs):z.2∈nds zs:=List.mem_map.mpr ⟨z,h,rfl⟩
theorem ir {zs:ZN} {n:Nd} (h:n∈nds zs):∃ z∈zs,z.2=n:=List.mem_map.mp h
theorem yd (n:Nd):atI (cZ n) 2=some (stV n.st):=rfl
end TK
namespace L2
open PySem PySem.Spec PyProof.Rows
section
variable {X:Cx}
end
end L2
namespace TB
open PySem PySem.SetTable
section
variable {prog:Program} {w:World} {A:Around} {E:Value→Shared→Prop} {s:Shared}
end
section
variable {prog:Program} {w:World} {A:Around} {R:Result→Shared→Prop} {I:Addr} {fp wr:List Addr} {G:Array GenState→Array GenState→Prop} {n:Nat} {P:Nat→Value→Prop} {St:Nat→Shared→Prop}
end
section
variable {prog:Program} {w:World} {A:Around} {E:Value→Shared→Prop} {s:Shared}
end
end TB
namespace SRT
open PySem PySem.W PyProof.Rows
section
variable {prog:Program} {w:World} {A:Around} {E:Value→Shared→Prop} {s:Shared}
end
end SRT
namespace L2
open PySem PySem.Spec PyProof.Rows
section
variable {X:Cx}
end
end L2
namespace TB
open PySem PySem.SetTable
section
variable {prog:Program} {w:World} {A:Around} {E:Value→Shared→Prop} {s:Shared}
end
end TB
namespace L2
open PySem PySem.Spec PyProof.Rows
section
variable {X:Cx}
end
end L2
namespace TW
section
variable {S:Type}
end
end TW
namespace TW
section
variable {S:Type}
end
end TW
namespace L2
open PySem PySem.Spec PyProof.Rows
theorem lX {α:Type} {k:Nat} {js:List Nat} {J:It} {g:TG} {te:TE} {σ:St} {H1:Hp} {Q:VK} {p:Addr} {fr:List (Option V)} (zs:List α) (val:α→V) (hn:zs.length≤1000) (hp:H1 p=none) (S:Src J H1 (zs.map val)) (hfr:∃ σ0:St,σ0.length=k∧cu k js σ=σ0++fr) (R:α→V→Hp→Prop)
  (hR:∀ z y H H',R z y H→Ext p H H'→R z y H')
  (elt:∀ z (σ0:St) H' (kk:St→VK),σ0.length=k→z∈zs→Same H1 H'→(∃ ys,H' p=some (.lst ys))→(∀ σ2 y H4,(∃ σ0':St,σ0'.length=k∧σ2=σ0'++fr)→Same H' H4→R z y H4→kk σ2 y H4)→g (val z) (σ0++fr) H' λσ2 H3=>te σ2 H3 (kk σ2))
  (fin:∀ ys H',Same H1 H'→H' p=some (.lst ys)→Paired (λz y=>R z y H') zs ys→Q (.ref p) H'):LcW k js g te σ Q J H1 p:=by
 have grow:∀ {as:List α} {ys:List V} {H H':Hp},Ext p H H'→Paired (λz y=>R z y H) as ys→Paired (λz y=>R z y H') as ys:=λex r=>Paired.mapP r λa b h=>hR a b _ _ h ex
 have hlen:∀ {as:List α} {ys:List V} {H:Hp},Paired (λz y=>R z y H) as ys→ys.length=as.length:=λr=>(Paired.length r).symm
 refine ⟨λi m ys σ' H'=>m=zs.length - i∧i≤zs.length∧(∃ σ0:St,σ0.length=k∧σ'=σ0++fr)∧Same H1 H'∧H' p=some (.lst ys)∧Paired (λz y=>R z y H') (zs.take i) ys,⟨zs.length,by simp,Nat.zero_le _,hfr,af hp,ac,.nil⟩,?_⟩
 rintro i m ys σ' H' ⟨rfl,hi,⟨σ0,hσ0,rfl⟩,s1,hl,hys⟩
 by_cases hlt:i<zs.length
 ·have hlt':i<(zs.map val).length:=by rw [List.length_map]; exact hlt
  refine .inr ⟨S.go i H' hlt' s1,?_,λx H2 hy=>?_⟩
  ·have h1:ys.length≤zs.length:=by
    rw [hlen hys,List.length_take]; omega
   exact Nat.lt_of_le_of_lt h1 (aQ hn)
  ·obtain ⟨rfl,hx⟩:=S.yl i H' x H2 hlt' s1 hy
   have gz:zs[i]? = some zs[i]:=List.getElem?_eq_getElem hlt
   have mz:=List.mem_of_getElem? gz
   rw [List.getElem?_map,gz] at hx
   have ex:val zs[i]=x:=Option.some.inj hx
   have et:zs.take (i+1)=zs.take i++[zs[i]]:=cV gz
   subst ex
   generalize zs[i]=z at gz mz et ⊢
   refine elt z σ0 H2 _ hσ0 mz s1 ⟨ys,hl⟩ λσ2 y H5 hσ2 s5 r5=>⟨s5 _ _ hl,zs.length - (i+1),by omega,rfl,hlt,hσ2,ay hp (s1.trans s5),ac,?_⟩
   rw [et]
   exact Paired.snoc (grow ((Ext.of s5).trans Ext.upd) hys) (hR _ _ _ _ r5 Ext.upd)
 ·have e:i=zs.length:=by omega
  subst e
  have st:=S.stop H' s1
  rw [List.length_map] at st
  refine .inl ⟨st,fin ys H' s1 hl ?_⟩
  rw [List.take_length] at hys
  exact hys
end L2
namespace TK
open PySem L2
noncomputable instance decNd:DecidableEq (TW.Nd Str):=λa b=>Classical.propDecidable _
end TK
namespace L2
open PySem PySem.Spec PyProof.Rows
section
variable {X:Cx}
end
end L2
namespace TW
section
variable {S:Type}
end
end TW
namespace L2
open PySem PySem.Spec PyProof.Rows
end L2
namespace TK
open PySem L2
theorem uC (o:Option Int):gX (stV o)=true:=by cases o <;> rfl
theorem nM (H:Hp) (n:Nd) (k:Nat):∀ (i:Nat) x y,(vals n)[i]? = some x→(vals n)[i]? = some y→lR H k x y:=λi x y h1 h2=>by
 have e:x=y:=Option.some.inj (h1.symm.trans h2)
 subst e
 refine nG ⟨rfl,?_⟩
 match i,h1 with
 | 0,h=>cases h; rfl
 | 1,h=>cases h; rfl
 | 2,h=>cases h; rfl
 | 3,h=>cases h; exact uC _
 | i+4,h=>simp [vals] at h
theorem lY {H:Hp} {us ws:ZN} (h:nds us=nds ws) (hu:At H us) (hw:At H ws):im H (aN us) (aN ws):=by
 refine ⟨by rw [aL,aL,← aW us,← aW ws,h],λi x y hx hy=>?_⟩
 obtain ⟨a,ga,rfl⟩:=bu hx
 obtain ⟨b,gb,rfl⟩:=bu hy
 have e:a.2=b.2:=by
  have h1:(nds us)[i]? = some a.2:=by unfold nds; rw [List.getElem?_map,ga]; rfl
  have h2:(nds ws)[i]? = some b.2:=by unfold nds; rw [List.getElem?_map,gb]; rfl
  rw [h,h2] at h1
  exact (Option.some.inj h1).symm
 refine .inr ⟨a.1,b.1,_,_,rfl,rfl,hu a (List.mem_of_getElem? ga),hw b (List.mem_of_getElem? gb),rfl,?_⟩
 rw [e]
 exact nM H b.2 2
end TK
namespace L2
open PySem PySem.Spec PyProof.Rows
section
variable {X:Cx}
end
section
variable {X:Cx} {CX:CXT} {k:Nat} {f C:Addr} {fd:FuncData} {ps:List Str} {sp:Sp} {dvs:List V} {ds:List Value} {E:XK} {x m:Str} {p pos apos:Pos} {e o:Expr} {es:List Expr} {ta:TE} {t:TA}
end
section
variable {X:Cx}
end
end L2
namespace TK
open PySem L2
end TK
namespace L2
open PySem PySem.Spec PyProof.Rows
section
variable {X:Cx}
end
end L2
namespace L2
open PySem PySem.Spec PyProof.Rows Builtin.Str
theorem jn:∀ l:List (Str×Tok),au ((l.map (·.1)).map V.str) (strValues l)
 | []=>.nil
 | p :: l=>.cons ⟨p.2,rfl⟩ (jn l)
section
variable {X:Cx}
theorem qt (x y:Str):(Txt.split x y).length≤x.length+2:=by
 have h:=StrLaws.occ_length_le_len x y 0 x.length (x.length+1)
 unfold Txt.split
 split
 ·show 1≤_; omega
 ·split
  ·show 1≤_; omega
  ·rw [length_partsBetween]; omega
noncomputable def wC:V→List V→Hp→VK→Prop:=λx vs H Q=>∃ y z,x = .str y∧vs=[.str z]∧(z.length == 0)=false∧y.length≤5000∧∀ p,H p=none→Q (.ref p) (upd H p (.lst ((Txt.split y z).map V.str)))
theorem jo:MtM X "str.split" wC:=by
 intro pins s σ H x xs v us Q I rx rv h
 obtain ⟨y,z,rfl,rfl,hz,hy,q⟩:=h
 obtain ⟨t,rfl⟩:=rx
 obtain ⟨u,rfl,ru⟩:=rv.one
 obtain ⟨u,rfl⟩:=ru
 have hsz:y.length≤sizeLine:=by rw [sizeLine_eq]; omega
 have hn:=qt y z
 have fin:∀ (l:List (Str×Tok)) (tk:Nat),l.map (·.1)=Txt.split y z→EP X pins σ Q (.ref s.heap.objs.size) { s with heap:=s.heap.push { cls:=.type "list",data:=.seq (strValues l).toArray },toks:=tk }:=λl tk e=>by
  refine ⟨.ref s.heap.objs.size,_,I.laid (t':=tk) (o:=.lst ((Txt.split y z).map V.str)) (λb o e=>Heap.get?_push_of_some _ e) (Nat.le_refl _) ?_,rfl,q _ (I.hok.fresh (Nat.le_refl _))⟩
  refine ⟨by rw [List.length_map,sizeLine_eq]; omega,strValues l,0,?_,Heap.get?_push_size _ rfl⟩
  rw [← e]
  exact jn l
 cases h1:(decide (y.length<z.length) || decide (strKind y<strKind z))
 ·cases hf:(occurrences y z 0 y.length (y.length+1)).isEmpty
  ·have e:Txt.split y z=partsBetween y (occurrences y z 0 y.length (y.length+1)) z.length:=(if_neg (ne_true_of_eq_false h1)).trans (if_neg (ne_true_of_eq_false hf))
   refine call_meets F.slot_str_split (typeIs_str _ _ _) F.entry_str_split (F.args_str_split_2 _ _) (meets_str_split_sep y z t u h1 hz hf hsz (by rw [← e,sizeLine_eq]; omega)) ?_
   show wants (EP X pins σ Q) _ _ { s with toks:=_,heap:=s.heap.push { cls:=.type "list",data:=.seq (strsFrom s.toks (partsBetween y (occurrences y z 0 y.length (y.length+1)) z.length)).toArray } }
   rw [strsFrom_eq]
   exact fin _ _ ((numbered_texts _ _).trans e.symm)
  ·exact call_meets F.slot_str_split (typeIs_str _ _ _) F.entry_str_split (F.args_str_split_2 _ _) (meets_str_split_not_found y z t u h1 hz hf) (fin [(y,t)] s.toks ((if_neg (ne_true_of_eq_false h1)).trans (if_pos hf)).symm)
 ·exact call_meets F.slot_str_split (typeIs_str _ _ _) F.entry_str_split (F.args_str_split_2 _ _) (meets_str_split_cannot_occur y z t u h1) (fin [(y,t)] s.toks (if_pos h1).symm)
theorem uD:MtM X "str.endswith" (λx vs H Q=>∃ y z,x = .str y∧vs=[.str z]∧Q (.bl (Txt.endswith y z)) H):=by
 intro pins s σ H x xs v us Q I rx rv h
 obtain ⟨y,z,rfl,rfl,q⟩:=h
 obtain ⟨t,rfl⟩:=rx
 obtain ⟨u,rfl,ru⟩:=rv.one
 obtain ⟨u,rfl⟩:=ru
 exact SC.endswith ⟨.bl _,H,I,rfl,q⟩
noncomputable def dG (y z:Str):List Str:=match lastOccurrence y z 0 y.length with
 | some i=>[strSub y 0 i,z,strSub y (i+z.length) y.length]
 | none=>[Str.empty,Str.empty,y]
theorem sf:MtM X "str.rpartition" (λx vs H Q=>∃ y z,x = .str y∧vs=[.str z]∧(z.length == 0)=false∧y.length≤5000∧∀ p,H p=none→Q (.ref p) (upd H p (.tup ((dG y z).map V.str)))):=by
 intro pins s σ H x xs v us Q I rx rv h
 obtain ⟨y,z,rfl,rfl,hz,hy,q⟩:=h
 obtain ⟨t,rfl⟩:=rx
 obtain ⟨u,rfl,ru⟩:=rv.one
 obtain ⟨u,rfl⟩:=ru
 have hsz:y.length≤sizeLine:=by rw [sizeLine_eq]; omega
 have fin:∀ (its:List Value) (tk:Nat),au ((dG y z).map V.str) its→EP X pins σ Q (.ref s.heap.objs.size) { s with heap:=s.heap.push { cls:=.type "tuple",data:=.seq its.toArray },toks:=tk }:=λits tk r=>by
  refine ⟨.ref s.heap.objs.size,_,I.laid (t':=tk) (o:=.tup ((dG y z).map V.str)) (λb o e=>Heap.get?_push_of_some _ e) (Nat.le_refl _) ?_,rfl,q _ (I.hok.fresh (Nat.le_refl _))⟩
  refine ⟨?_,its,r,IsTup.new _ _⟩
  unfold dG
  split <;> (show 3≤sizeLine; rw [sizeLine_eq]; decide)
 refine call_meets F.slot_str_rpartition (typeIs_str _ _ _) F.entry_str_rpartition (F.args_str_rpartition_2 _ _) (meets_str_rpartition y z t u hz hsz) ?_
 unfold dG at fin
 show wants (EP X pins σ Q) _ _ _
 cases e:lastOccurrence y z 0 y.length with
 | none =>
  simp only [e] at fin ⊢
  exact fin _ _ (.cons ⟨_,rfl⟩ (.cons ⟨_,rfl⟩ (.cons ⟨_,rfl⟩ .nil)))
 | some i =>
  simp only [e] at fin ⊢
  exact fin _ _ (.cons ⟨_,rfl⟩ (.cons ⟨_,rfl⟩ (.cons ⟨_,rfl⟩ .nil)))
theorem lZ:MtM X "str.join" (λx vs H Q=>∃ z l,∃ texts:List Str,x = .str z∧vs=[.ref l]∧H l=some (.lst (texts.map V.str))∧JoinOk z texts=true∧Q (.str (Txt.join z texts)) H):=by
 intro pins s σ H x xs v us Q I rx rv h
 obtain ⟨z,l,texts,rfl,rfl,hl,hok,q⟩:=h
 obtain ⟨t,rfl⟩:=rx
 obtain ⟨u,rfl,ru⟩:=rv.one
 cases ru
 obtain ⟨z0,its,n,r,ho⟩:=I.hok l _ hl
 obtain ⟨ls,e1,e2⟩:∃ ls:List (Str×Tok),strValues ls=its∧ls.map (·.1)=texts:=by
  clear ho q hok hl z0
  induction texts generalizing its with
  | nil=>cases r; exact ⟨[],rfl,rfl⟩
  | cons a rest ih =>
   cases r with
   | cons r1 r2 =>
    obtain ⟨tk,rfl⟩:=r1
    obtain ⟨ls,e1,e2⟩:=ih _ r2
    exact ⟨(a,tk) :: ls,by rw [← e1]; rfl,by rw [← e2]; rfl⟩
 subst e1
 exact SC.join (l:=ls) ⟨_,ho,rfl,n,rfl⟩ e2 hok λt' k=>⟨.str _,H,I.tok _,⟨_,rfl⟩,q⟩
theorem qu:bG X (.type "int") (λxs H Q=>∃ y n,xs=[.str y]∧y.length≤640∧PySem.intText? y=some n∧Q (.int n) H):=by
 intro pins s σ H xs us Q I r h
 obtain ⟨y,n,rfl,hl,hn,q⟩:=h
 obtain ⟨u,rfl,ru⟩:=cy r
 obtain ⟨t,rfl⟩:=ru
 exact PySem.W.KIN.call_text hn hl ⟨.int n,H,I.tok _,⟨_,rfl⟩,q⟩
theorem ce:SlR X (λx lo hi H Q=>∃ y,x = .str y∧y.length≤5000∧Q (.str (StrLaws.sliceText y lo hi)) H):=by
 intro pins s σ H x v vl vu lo hi sl Q I rx hs pl pu h
 obtain ⟨y,rfl,hy,q⟩:=h
 obtain ⟨t,rfl⟩:=rx
 have hsz:y.length≤sizeLine:=by rw [sizeLine_eq]; omega
 have go:∀ (l u:Option (Int×Tok)),s.heap.IsSlice sl l u none→wpAny (model X.prog X.w) X.A (getItem (.str y t) (.ref sl)) (EP X pins σ (λv H'=>v = .str (StrLaws.sliceText y (l.map (·.1)) (u.map (·.1)))∧H'=H)) X.xe s:=λl u h=>by
  refine wpAny_getItem_str_slice (l:=l) (u:=u) (st:=none) h rfl (post_val_or_str ⟨?_,λt' k=>⟨.str _,H,I.tok _,⟨t',rfl⟩,rfl,rfl⟩⟩)
  exact Nat.le_trans (Txt.slice_le y _ _) hsz
 have fin:∀ {z:Str},wpAny (model X.prog X.w) X.A (getItem (.str y t) (.ref sl)) (EP X pins σ (λv H'=>v = .str z∧H'=H)) X.xe s→Q (.str z) H→wpAny (model X.prog X.w) X.A (getItem (.str y t) (.ref sl)) (EP X pins σ Q) X.xe s:=λh q=>wpAny_mono h (λv s' ⟨x,H',J,r,e1,e2⟩=>⟨x,H',J,r,by rw [e1,e2]; exact q⟩) λ_ _ e=>e
 refine ⟨"str",_,F.slot_str_getitem.lookup,typeIs_str _ _ _,?_⟩
 cases pl with
 | none=>cases pu with
  | none=>exact fin (go none none hs) q
  | @int j tj=>exact fin (go none (some (j,tj)) hs) q
 | @int i ti=>cases pu with
  | none=>exact fin (go (some (i,ti)) none hs) q
  | @int j tj=>exact fin (go (some (i,ti)) (some (j,tj)) hs) q
noncomputable abbrev TFX:=Str→St→Hp→VK→Prop
noncomputable def PFX (X:Cx) (ps:List Expr) (t:TFX):Prop :=
 ∀ (out:Str) (pins:List (Addr×Obj)) (s:Shared) (σ:St) (H:Hp) (Q:VK),Inv X pins σ H s→t out σ H Q→wpAny (model X.prog X.w) X.A (joinParts out (evalEach ps X.env)) (EP X pins σ Q) X.xe s
theorem fE:PFX X [] (λout σ H Q=>out.length≤sizeLine∧Q (.str out) H):=by
 intro out pins s σ H Q I h
 exact joinParts_nilE (joinParts_nil ⟨.str _,H,I.tok _,⟨_,rfl⟩,h.2⟩ h.1)
theorem cB {x:Str} {j:Nat} {p:Pos} {ps:List Expr} {t:TFX} (h:PFX X ps t):PFX X (.Constant (.str x) j p :: ps) (λout σ H Q=>(out++x).length≤sizeLine∧t (out++x) σ H Q):=by
 intro out pins s σ H Q I hq
 refine joinParts_cons (Calls.Constant_str ?_)
 exact ⟨hq.1,h _ pins _ σ H Q (I.tok _) hq.2⟩
theorem sh {e:Expr} {te:TE} {p:Pos} {ps:List Expr} {t:TFX} (he:PE X e te) (h:PFX X ps t):PFX X (.FormattedValue e (-1) none p :: ps) (λout σ H Q=>te σ H λv H1=>∃ x:Str,v = .str x∧x.length≤sizeLine∧(out++x).length≤sizeLine∧t (out++x) σ H1 Q):=by
 intro out pins s σ H Q I hq
 refine joinParts_cons (FormattedValue_plain (thn (he pins _ σ H _ I hq) λv s1 hpt=>?_))
 obtain ⟨y,H1,I1,r1,q1⟩:=hpt
 obtain ⟨x,rfl,h1,h2,q⟩:=q1
 obtain ⟨tk,rfl⟩:=r1
 exact formatField_str (λt' tk=>⟨h2,h _ pins _ σ H1 Q (I1.tok _) q⟩) h1
theorem nN {e:Expr} {te:TE} {p:Pos} {ps:List Expr} {t:TFX} (he:PE X e te) (h:PFX X ps t):PFX X (.FormattedValue e (-1) none p :: ps) (λout σ H Q=>te σ H λv H1=>∃ i:Int,v = .int i∧i.natAbs.log2<1920∧(out++Str.ofString (toString i)).length≤sizeLine∧t (out++Str.ofString (toString i)) σ H1 Q):=by
 intro out pins s σ H Q I hq
 refine joinParts_cons (FormattedValue_plain (thn (he pins _ σ H _ I hq) λv s1 hpt=>?_))
 obtain ⟨y,H1,I1,r1,q1⟩:=hpt
 obtain ⟨i,rfl,h1,h2,q⟩:=q1
 obtain ⟨tk,rfl⟩:=r1
 exact formatField_int_small h1 ⟨h2,h _ pins _ σ H1 Q (I1.tok _) q⟩
theorem gM {e:Expr} {te:TE} {p:Pos} {ps:List Expr} {t:TFX} (he:PE X e te) (h:PFX X ps t):PFX X (.FormattedValue e 114 none p :: ps) (λout σ H Q=>te σ H λv H1=>∃ x:Str,v = .str x∧(reprText x).length≤sizeLine∧(out++reprText x).length≤sizeLine∧t (out++reprText x) σ H1 Q):=by
 intro out pins s σ H Q I hq
 refine joinParts_cons (dO (thn (he pins _ σ H _ I hq) λv s1 hpt=>?_))
 obtain ⟨y,H1,I1,r1,q1⟩:=hpt
 obtain ⟨x,rfl,h1,h2,q⟩:=q1
 obtain ⟨tk,rfl⟩:=r1
 exact wpAny_pyReprObj_str (formatField_str (λt' tk'=>⟨h2,h _ pins _ σ H1 Q (I1.tok _) q⟩) h1) h1
noncomputable def tFx (t:TFX):TE:=λσ H Q=>t Str.empty σ H Q
theorem jp {p1 p2:Expr} {ps:List Expr} {pos:Pos} {t:TFX} (h:PFX X (p1 :: p2 :: ps) t):PE X (.JoinedStr (p1 :: p2 :: ps) pos) (tFx t):=by
 intro pins s σ H Q I hq
 exact JoinedStr_many (h Str.empty pins s σ H Q I hq)
end
end L2
namespace TW
section
variable {S:Type}
end
end TW
namespace TW
section
variable {S:Type}
section
variable {q:S→Bool} {t:List (Nd S)}
end
end
end TW
namespace TW
section
variable {S:Type}
section
variable {t u:List (Nd S)} {k g:Int}
end
section
variable {t u:List (Nd S)} {g:Int→Int}
end
end
end TW
namespace TK
open PySem L2
noncomputable abbrev Wt:=List Str×Nd
structure Wk (t:List Nd) (ws:List Wt):Prop where
 up:ws.Pairwise (λa b=>HT.bA a.1 b.1=true)
 mem:∀ p n,(p,n)∈ws↔n∈t∧TW.PathTo t n.num p
theorem wD {α:Type} {R:α→α→Prop} (irr:∀ a,¬ R a a) (asy:∀ a b,R a b→¬ R b a):∀ {l m:List α},l.Pairwise R→m.Pairwise R→(∀ x,x∈l↔x∈m)→l=m
 | [],[],_,_,_=>rfl
 | [],b :: m,_,_,h=>absurd ((h b).mpr List.mem_cons_self) List.not_mem_nil
 | a :: l,[],_,_,h=>absurd ((h a).mp List.mem_cons_self) List.not_mem_nil
 | a :: l,b :: m,h1,h2,h=>by
  obtain ⟨a1,a2⟩:=List.pairwise_cons.mp h1
  obtain ⟨b1,b2⟩:=List.pairwise_cons.mp h2
  have e:a=b:=by
   rcases List.mem_cons.mp ((h a).mp List.mem_cons_self) with e | ha
   ·exact e
   ·rcases List.mem_cons.mp ((h b).mpr List.mem_cons_self) with e | hb
    ·exact e.symm
    ·exact absurd (a1 b hb) (asy b a (b1 a ha))
  subst e
  rw [wD irr asy a2 b2 λx=>?_]
  have hx:=h x
  rw [List.mem_cons,List.mem_cons] at hx
  constructor
  ·intro hl
   rcases hx.mp (.inr hl) with e | hm
   ·subst e; exact absurd (a1 x hl) (irr x)
   ·exact hm
  ·intro hm
   rcases hx.mpr (.inr hm) with e | hl
   ·subst e; exact absurd (b1 x hm) (irr x)
   ·exact hl
section
variable {t u:List Nd} {ws vs:List Wt}
theorem uE (a:Wt):¬ HT.bA a.1 a.1=true:=by rw [HT.bD]; simp
theorem uF (a b:Wt) (h1:HT.bA a.1 b.1=true):¬ HT.bA b.1 a.1=true:=λh2=>by
 have:=HT.gL h1 h2
 rw [HT.bD] at this; cases this
theorem Wk.one (h:Wk t ws) (h':Wk t vs):ws=vs:=wD (R:=λa b:Wt=>HT.bA a.1 b.1=true) uE uF h.up h'.up λx=>by rw [show x=(x.1,x.2) from rfl,h.mem,h'.mem]
theorem Wk.node (T:TW.Tree1 t) (h:Wk t ws) {a b:Wt} (ha:a∈ws) (hb:b∈ws) (e:a.2.num=b.2.num):a=b:=by
 obtain ⟨a1,a2⟩:=(h.mem a.1 a.2).mp ha
 obtain ⟨b1,b2⟩:=(h.mem b.1 b.2).mp hb
 have e1:=T.inj a1 b1 e
 rw [e1] at a2
 exact Prod.ext (a2.uniq T b2) e1
theorem Wk.path (h:Wk t ws) {a b:Wt} (ha:a∈ws) (hb:b∈ws) (e:a.1=b.1):a=b:=by
 have key:∀ {l:List Wt},l.Pairwise (λa b=>HT.bA a.1 b.1=true)→∀ {a b:Wt},a∈l→b∈l→a.1=b.1→a=b:=by
  intro l hl
  induction hl with
  | nil=>intro a b ha; exact (List.not_mem_nil ha).elim
  | @cons x l hx _ ih =>
   intro a b ha hb e
   rcases List.mem_cons.mp ha with ea | ha <;> rcases List.mem_cons.mp hb with eb | hb
   ·rw [ea,eb]
   ·have:=hx b hb; rw [← ea,e,HT.bD] at this; cases this
   ·have:=hx a ha; rw [← eb,← e,HT.bD] at this; cases this
   ·exact ih ha hb e
 exact key h.up ha hb e
theorem Wk.nums (T:TW.Tree1 t) (h:Wk t ws):(ws.map (·.2.num)).Nodup:=by
 unfold List.Nodup
 rw [List.pairwise_map]
 refine List.Pairwise.imp_of_mem (R:=λa b=>HT.bA a.1 b.1=true) (λ{a b} ha hb hab e=>?_) h.up
 have:=h.node T ha hb e
 rw [this,HT.bD] at hab
 cases hab
end
section
variable {t u:List Nd} {wo wn:List Wt}
end
section
variable {t u:List Nd} {wo wn:List Wt} {g:Int→Int}
end
section
variable {t u:List Nd} {wo wn:List Wt} {ns:List Int}
end
section
variable {t u:List Nd} {wo wn:List Wt} {G:Int}
end
section
variable {t u:List Nd} {wo wn p:List Wt} {w:Wt} {s:Int}
end
section
variable {t u v:List Nd} {wo wn:List Wt} {G:Int} {g:Int→Int}
theorem ma {a b:List Nd} (ha:TW.ip a) (hb:TW.ip b) (h:∀ x,x∈a↔x∈b):a=b :=
 wD (R:=λa b:Nd=>a.num<b.num) (λa=>Int.lt_irrefl _) (λa b h1 h2=>Int.lt_asymm h1 h2) ha hb h
end
section
variable {t:List Nd}
end
section
variable {t u:List Nd} {wo wn:List Wt}
end
noncomputable abbrev sg (x:Str):List Nat:=x.cps.toList
noncomputable def ch (c:Nat):Str:=⟨#[c]⟩
theorem eF {x y:Str} (h:sg x=sg y):x=y:=Str.ext' (Array.toList_inj.mp h)
theorem bf (x y:Str):sg (x++y)=sg x++sg y:=by show (x.cps++y.cps).toList=_; rw [Array.toList_append]
theorem bi (x:Str):(sg x).length=x.length:=rfl
theorem ap (x y:Str):(x++y).length=x.length+y.length:=Str.length_append x y
theorem oQ {c:Nat}:∀ {a b r s:List Nat},c∉a→c∉b→a++c :: r=b++c :: s→a=b∧r=s
 | [],[],_,_,_,_,h=>⟨rfl,by injection h⟩
 | [],x :: b,_,_,_,hb,h=>by
  injection h with h1 _
  exact absurd (h1 ▸ List.mem_cons_self) hb
 | x :: a,[],_,_,ha,_,h=>by
  injection h with h1 _
  exact absurd (h1 ▸ List.mem_cons_self) ha
 | x :: a,y :: b,r,s,ha,hb,h=>by
  injection h with h1 h2
  obtain ⟨e1,e2⟩:=oQ (λz=>ha (List.mem_cons_of_mem _ z)) (λz=>hb (List.mem_cons_of_mem _ z)) h2
  exact ⟨by rw [h1,e1],e2⟩
theorem sk {c:Nat} {a b r:List Nat} (hb:c∉b) (h:a++c :: r=b):False:=hb (by rw [← h]; simp)
theorem fe (c:Nat) (x y:Str) (r:List Str):sg (Str.join (ch c) (x :: y :: r))=sg x++c :: sg (Str.join (ch c) (y :: r)):=by
 show sg (x++ch c++Str.join (ch c) (y :: r))=_
 rw [bf,bf]
 show sg x++[c]++_=_
 simp
theorem mf {c:Nat}:∀ {ps qs:List Str},ps≠[]→qs≠[]→(∀ p∈ps,c∉sg p)→(∀ p∈qs,c∉sg p)→Str.join (ch c) ps=Str.join (ch c) qs→ps=qs
 | [],_,h,_,_,_,_=>absurd rfl h
 | _,[],_,h,_,_,_=>absurd rfl h
 | [x],[y],_,_,_,_,h=>by rw [show x=y from h]
 | [x],y :: z :: r,_,_,hp,_,h=>by
  have h:=congrArg sg h
  rw [fe] at h
  exact (sk (hp x List.mem_cons_self) h.symm).elim
 | x :: z :: r,[y],_,_,_,hq,h=>by
  have h:=congrArg sg h
  rw [fe] at h
  exact (sk (hq y List.mem_cons_self) h).elim
 | x :: z :: r,y :: u :: s,_,_,hp,hq,h=>by
  have h:=congrArg sg h
  rw [fe,fe] at h
  obtain ⟨e1,e2⟩:=oQ (hp x List.mem_cons_self) (hq y List.mem_cons_self) h
  have:=mf (c:=c) (ps:=z :: r) (qs:=u :: s) (by simp) (by simp) (λp h=>hp p (List.mem_cons_of_mem _ h)) (λp h=>hq p (List.mem_cons_of_mem _ h)) (eF e2)
  rw [eF e1,this]
theorem iu (x y:Str):Txt.split x y≠[]:=by
 unfold Txt.split
 split
 ·simp
 ·split
  ·simp
  ·intro h
   have:=PySem.length_partsBetween x (Builtin.Str.occurrences x y 0 x.length (x.length+1)) y.length
   rw [h] at this
   cases this
theorem iw {c:Nat} {x:Str} {ps:List Str} (h0:ps≠[]) (hp:∀ p∈ps,c∉sg p) (h:Str.join (ch c) ps=x):Txt.split x (ch c)=ps :=
 mf (iu _ _) h0 (λp hp'=>StrLaws.split_free x c p hp') hp ((StrLaws.join_split x (ch c)).trans h.symm)
noncomputable def uG (x:Str):Bool:=(sg x).all λc=>decide (48≤c∧c≤57)
noncomputable def dP (x:Str):Bool:=(decide (1≤x.length) && decide (x.length≤9)) && uG x && !(decide ((sg x).head? = some 48) && decide (x≠ch 48))
noncomputable def aX (x:Str):Option Int:=if dP x=true then some ((PySem.NumText.digitsVal (sg x):Nat):Int) else none
theorem mh {x:Str} (h:uG x=true):PySem.NumText.AllDigits (sg x):=λc hc=>of_decide_eq_true (List.all_eq_true.mp h c hc)
theorem fF {x:Str} (h:dP x=true):PySem.intText? x=some ((PySem.NumText.digitsVal (sg x):Nat):Int)∧x.length≤9:=by
 unfold dP at h
 rw [Bool.and_eq_true,Bool.and_eq_true,Bool.and_eq_true] at h
 obtain ⟨⟨⟨h1,h2⟩,h3⟩,_⟩:=h
 have h1:=of_decide_eq_true h1
 have h2:=of_decide_eq_true h2
 exact ⟨PySem.intText_digits (mh h3) (λe=>by have e:sg x=[]:=e; rw [← bi,e] at h1; simp at h1) (by omega),h2⟩
noncomputable def nt (n:Int):Str:=Str.ofString (toString n)
theorem sm (m:Nat):sg (nt (m:Int))=(Nat.toDigits 10 m).map Char.toNat:=PySem.W.KIN.signs_num m
theorem jT {n:Int} (h0:0≤n):∀ c∈sg (nt n),48≤c∧c≤57:=by
 obtain ⟨m,rfl⟩:=Int.eq_ofNat_of_zero_le h0
 intro c hc
 rw [sm] at hc
 obtain ⟨k,hk,rfl⟩:=List.mem_map.mp hc
 exact PyProof.Rows.digit_range (Nat.isDigit_of_mem_toDigits (by decide) (by decide) hk)
theorem iQ {m:Nat} (h:10≤m):∃ c r,Nat.toDigits 10 m=c :: r∧c ≠ '0':=by
 induction m using Nat.strongRecOn with
 | _ m ih =>
  have hm:m % 10<10:=Nat.mod_lt m (by decide)
  have t:Nat.toDigits 10 (m / 10)++Nat.toDigits 10 (m % 10)=Nat.toDigits 10 (10 * (m / 10)+m % 10):=Nat.toDigits_append_toDigits (by decide) (by omega) hm
  rw [Nat.div_add_mod] at t
  by_cases h2:10≤m / 10
  ·obtain ⟨c,r,e,hc⟩:=ih (m / 10) (by omega) h2
   exact ⟨c,r++Nat.toDigits 10 (m % 10),by rw [← t,e]; rfl,hc⟩
  ·rw [Nat.toDigits_of_lt_base (by omega:m / 10<10)] at t
   refine ⟨_,_,t.symm,?_⟩
   have:∀ d:Nat,d<10→1≤d→Nat.digitChar d ≠ '0':=by decide
   exact this _ (by omega) (by omega)
theorem dH {n:Int} (h0:0≤n) (h1:n<10 ^ 9):aX (nt n)=some n∧1≤(nt n).length∧(nt n).length≤9:=by
 have hd:=jT h0
 obtain ⟨m,rfl⟩:=Int.eq_ofNat_of_zero_le h0
 have hm:m<10 ^ 9:=by omega
 have e:=sm m
 have l1:(Nat.toDigits 10 m).length≤9:=by
  have:=(Nat.length_toDigits_le_iff (b:=10) (k:=9) (n:=m) (by decide) (by decide)).mpr hm
  exact this
 have l0:1≤(Nat.toDigits 10 m).length:=by
  have:=PySem.toDigits_len_ge 10 m
  omega
 have hl:(nt (m:Int)).length=(Nat.toDigits 10 m).length:=by rw [← bi,e,List.length_map]
 have hok:dP (nt (m:Int))=true:=by
  unfold dP
  rw [Bool.and_eq_true,Bool.and_eq_true,Bool.and_eq_true]
  refine ⟨⟨⟨decide_eq_true (by omega),decide_eq_true (by omega)⟩,List.all_eq_true.mpr λc hc=>decide_eq_true (hd c hc)⟩,?_⟩
  by_cases hz:10≤m
  ·obtain ⟨c,r,er,hc⟩:=iQ hz
   rw [e,er]
   have:¬ c.toNat=48:=λz=>hc (Char.toNat_inj.mp z)
   simp [this]
  ·rw [Nat.toDigits_of_lt_base (by omega:m<10)] at e
   by_cases h0:m=0
   ·subst h0
    have:nt ((0:Nat):Int)=ch 48:=eF (by rw [e]; rfl)
    rw [this]
    decide
   ·have:(Nat.digitChar m).toNat≠48:=(by decide:∀ d:Nat,d<10→1≤d→(Nat.digitChar d).toNat≠48) m (by omega) (by omega)
    rw [e]
    simp [this]
 refine ⟨?_,by omega,by omega⟩
 unfold aX
 rw [if_pos hok,e,PySem.W.KIN.val_back]
noncomputable def aO (l:Str):Option (Int×Str×Option Int):=match Txt.split l (ch 32) with
 | [a,b]=>if Txt.endswith b (ch 47)=true then (aX a).map λn=>(n,StrLaws.sliceText b none (some (-1)),none) else none
 | [a,b,c]=>match aX a with
  | none=>none
  | some n=>(aX c).map λs=>(n,b,some s)
 | _=>none
noncomputable def rp0 (y:Str):Str:=(dG y (ch 47)).getD 0 Str.empty
noncomputable def rp2 (y:Str):Str:=(dG y (ch 47)).getD 2 Str.empty
theorem so (y:Str):∃ m,dG y (ch 47)=[rp0 y,m,rp2 y]:=by
 unfold rp0 rp2 dG
 split <;> exact ⟨_,rfl⟩
noncomputable abbrev Gn:=Str→Option Int
noncomputable def ff (g:Gn) (x:Str) (n:Int):Gn:=λy=>if y=x then some n else g y
noncomputable def aY (g:Gn):List Str→Option (List Nd)
 | []=>some []
 | l :: ls=>match aO l with
  | none=>none
  | some (n,x,st)=>match g (rp0 x) with
   | none=>none
   | some p=>(aY (ff g x n) ls).map λr=>⟨n,p,rp2 x,st⟩ :: r
noncomputable def gn0:Gn:=λx=>if x=Str.empty then some 0 else none
noncomputable def bE (x:Str):Option (List Str):=if (Txt.split x (ch 10)).getLast? = some Str.empty then some (Txt.split x (ch 10)).dropLast else none
noncomputable def plc:List Str→Str
 | []=>Str.empty
 | x :: r=>ch 47++x++plc r
noncomputable def stx:Option Int→Str
 | none=>ch 47
 | some i=>ch 32++nt i
noncomputable def lnT (w:Wt):Str:=nt w.2.num++ch 32++plc w.1++stx w.2.st
noncomputable def txt:List Wt→Str
 | []=>Str.empty
 | w :: ws=>lnT w++ch 10++txt ws
structure NodR (n:Nd):Prop where
 num:1≤n.num∧n.num<10 ^ 9
 nm:n.nm≠Str.empty∧∀ c∈sg n.nm,97≤c∧c≤122
 st:∀ i,n.st=some i→0≤i∧i≤999
noncomputable def fG (p:List Str):Prop:=∀ x∈p,x≠Str.empty∧∀ c∈sg x,97≤c∧c≤122
theorem nO:∀ {p:List Str},fG p→∀ c∈sg (plc p),c=47∨(97≤c∧c≤122)
 | [],_,c,h=>by cases h
 | x :: r,hp,c,h=>by
  rw [show plc (x :: r)=ch 47++x++plc r from rfl,bf,bf] at h
  rcases List.mem_append.mp h with h | h
  ·rcases List.mem_append.mp h with h | h
   ·exact .inl (List.mem_singleton.mp h)
   ·exact .inr ((hp x List.mem_cons_self).2 c h)
  ·exact nO (λy hy=>hp y (List.mem_cons_of_mem _ hy)) c h
theorem ix:∀ (p:List Str) (x:Str),plc (p++[x])=plc p++ch 47++x
 | [],x=>by
  show ch 47++x++Str.empty=Str.empty++ch 47++x
  rw [Str.append_empty,Str.empty_append]
 | y :: r,x=>by
  show ch 47++y++plc (r++[x])=ch 47++y++plc r++ch 47++x
  rw [ix r x]
  simp only [Str.append_assoc]
theorem sq {s:Option Int} (h:∀ i,s=some i→0≤i∧i≤999):∀ c∈sg (stx s),c=47∨c=32∨(48≤c∧c≤57):=λc hc=>by
 cases s with
 | none=>exact .inl (List.mem_singleton.mp hc)
 | some i =>
  rw [show stx (some i)=ch 32++nt i from rfl,bf] at hc
  rcases List.mem_append.mp hc with hc | hc
  ·exact .inr (.inl (List.mem_singleton.mp hc))
  ·exact .inr (.inr (jT (h i rfl).1 c hc))
theorem fJ {p:List Str} {x:Str} (hx:∀ c∈sg x,97≤c∧c≤122):rp0 (plc (p++[x]))=plc p∧rp2 (plc (p++[x]))=x:=by
 rw [ix]
 generalize plc p=a
 have h1:∀ i,StrLaws.At (a++ch 47++x) (ch 47) (a++ch 47++x).length i↔(sg (a++ch 47++x))[i]? = some 47:=λi=>StrLaws.subAt_one _ 47 i
 have e:sg (a++ch 47++x)=sg a++47 :: sg x:=by rw [bf,bf]; show sg a++[47]++_=_; simp
 have hn:∀ k,a.length<k→¬ (sg (a++ch 47++x))[k]? = some 47:=λk hk h=>by
  rw [e,List.getElem?_append_right (by rw [bi]; omega)] at h
  have:∃ j,k - (sg a).length=j+1:=⟨k - (sg a).length - 1,by rw [bi]; omega⟩
  obtain ⟨j,ej⟩:=this
  rw [ej,List.getElem?_cons_succ] at h
  have:=hx 47 (List.mem_of_getElem? h)
  omega
 have hat:(sg (a++ch 47++x))[a.length]? = some 47:=by rw [e,List.getElem?_append_right (by rw [bi]; exact Nat.le_refl _),bi,Nat.sub_self]; rfl
 have hl:Builtin.Str.lastOccurrence (a++ch 47++x) (ch 47) 0 (a++ch 47++x).length=some a.length:=by
  rcases StrLaws.last_spec (a++ch 47++x) (ch 47) with ⟨_,h⟩ | ⟨i,h,h2,h3⟩
  ·exact absurd ((h1 a.length).mpr hat) (h _)
  ·rw [h]
   congr 1
   rcases Nat.lt_trichotomy i a.length with z | z | z
   ·exact absurd ((h1 a.length).mpr hat) (h3 _ z)
   ·exact z
   ·exact absurd ((h1 i).mp h2) (hn i z)
 have ln:(a++ch 47++x).length=a.length+1+x.length:=by rw [ap,ap]; rfl
 unfold rp0 rp2 dG
 rw [hl]
 constructor
 ·refine eF ?_
  show sg (Builtin.Str.strSub _ 0 a.length)=_
  show (Builtin.Str.strSub (a++ch 47++x) 0 a.length).cps.toList=_
  rw [StrLaws.strSub_toList]
  show ((sg (a++ch 47++x)).drop 0).take (a.length - 0)=sg a
  rw [e,List.drop_zero,Nat.sub_zero,← bi,List.take_left]
 ·refine eF ?_
  show (Builtin.Str.strSub (a++ch 47++x) (a.length+1) (a++ch 47++x).length).cps.toList=_
  rw [StrLaws.strSub_toList]
  show ((sg (a++ch 47++x)).drop (a.length+1)).take _=sg x
  rw [e,show sg a++47 :: sg x=(sg a++[47])++sg x by simp,show a.length+1=(sg a++[47]).length by rw [List.length_append,bi]; rfl,List.drop_left,List.take_of_length_le]
  rw [ln,List.length_append,bi,bi]
  show x.length≤a.length+1+x.length - (a.length+1)
  omega
theorem jU {p:List Str} (h:p≠[]):plc p≠Str.empty:=by
 cases p with
 | nil=>exact absurd rfl h
 | cons x r =>
  intro e
  have:=congrArg sg e
  rw [show plc (x :: r)=ch 47++x++plc r from rfl,bf,bf] at this
  cases this
theorem uH:∀ {p q:List Str},fG p→fG q→plc p=plc q→p=q:=by
 have key:∀ (n:Nat) {p q:List Str},p.length≤n→fG p→fG q→plc p=plc q→p=q:=by
  intro n
  induction n with
  | zero =>
   intro p q hl _ _ e
   have:p=[]:=List.length_eq_zero_iff.mp (by omega)
   subst this
   cases q with
   | nil=>rfl
   | cons y r=>exact absurd e.symm (jU (by simp))
  | succ n ih =>
   intro p q hl hp hq e
   rcases List.eq_nil_or_concat p with rfl | ⟨p',x,rfl⟩
   ·cases q with
    | nil=>rfl
    | cons y r=>exact absurd e.symm (jU (by simp))
   ·rcases List.eq_nil_or_concat q with rfl | ⟨q',y,rfl⟩
    ·exact absurd e (jU (by simp))
    ·rw [List.concat_eq_append] at hl hp e ⊢
     rw [List.concat_eq_append] at hq e ⊢
     have h1:=fJ (p:=p') (hp x (by simp)).2
     have h2:=fJ (p:=q') (hq y (by simp)).2
     rw [e,h2.1,h2.2] at h1
     rw [ih (by rw [List.length_append] at hl; simp at hl; omega) (λz hz=>hp z (by simp [hz])) (λz hz=>hq z (by simp [hz])) h1.1.symm,h1.2]
 exact λ{p q}=>key p.length (Nat.le_refl _)
theorem wE (c:Nat):sg (ch c)=[c]:=rfl
theorem uI (a:Str) (c:Nat):Txt.endswith (a++ch c) (ch c)=true:=by
 unfold Txt.endswith
 have l1:(a++ch c).length=a.length+1:=ap _ _
 have l2:(ch c).length=1:=rfl
 rw [StrLaws.subAt_eq,l1,l2,Nat.add_sub_cancel]
 show (decide (0+1≤a.length+1) && (((sg (a++ch c)).drop a.length).take 1 == sg (ch c)))=true
 rw [bf,← bi,List.drop_left,wE]
 simp
theorem sr (a:Str) (c:Nat):StrLaws.sliceText (a++ch c) none (some (-1))=a:=by
 have l1:(a++ch c).length=a.length+1:=ap _ _
 rw [StrLaws.sliceText_to_neg (by decide) (by rw [l1]; omega)]
 refine eF ?_
 show List.take _ (List.drop 0 (sg (a++ch c)))=sg a
 rw [l1,List.drop_zero,bf,show ((-1:Int)+((a.length+1:Nat):Int) - 0).toNat=(sg a).length by rw [bi]; omega,List.take_left]
theorem jV {n:Int} (h:0≤n) {c:Nat} (hc:c<48∨57<c):c∉sg (nt n):=λz=>by have:=jT h c z; omega
theorem ml {p:List Str} (hp:fG p) {c:Nat} (h1:c≠47) (h2:c<97):c∉sg (plc p):=λz=>by
 rcases nO hp c z with h | h
 ·exact h1 h
 ·omega
theorem fg {a b:Str} {c:Nat} (ha:c∉sg a) (hb:c∉sg b):c∉sg (a++b):=λz=>by
 rw [bf] at z
 rcases List.mem_append.mp z with z | z
 ·exact ha z
 ·exact hb z
theorem ss {w:Wt} (hn:NodR w.2) (hp:fG w.1):aO (lnT w)=some (w.2.num,plc w.1,w.2.st):=by
 obtain ⟨h1,h2⟩:=hn.num
 have e1:=(dH (by omega:0≤w.2.num) h2).1
 have f1:32∉sg (nt w.2.num):=jV (by omega) (.inl (by decide))
 have f2:32∉sg (plc w.1):=ml hp (by decide) (by decide)
 unfold aO lnT
 cases hs:w.2.st with
 | none =>
  have:Txt.split (nt w.2.num++ch 32++plc w.1++stx none) (ch 32)=[nt w.2.num,plc w.1++ch 47]:=iw (by simp) (λp hp'=>by
   rcases List.mem_cons.mp hp' with rfl | hp'
   ·exact f1
   ·rw [List.mem_singleton.mp hp']
    exact fg f2 (by rw [wE]; decide)) (by
   show nt w.2.num++ch 32++(plc w.1++ch 47)=nt w.2.num++ch 32++plc w.1++ch 47
   simp only [Str.append_assoc])
  rw [this]
  show (if Txt.endswith (plc w.1++ch 47) (ch 47)=true then _ else _)=_
  rw [if_pos (uI _ _),e1,sr]
  rfl
 | some i =>
  obtain ⟨i0,i1⟩:=hn.st i hs
  have f3:32∉sg (nt i):=jV i0 (.inl (by decide))
  have e2:=(dH i0 (by omega:i<10 ^ 9)).1
  have:Txt.split (nt w.2.num++ch 32++plc w.1++stx (some i)) (ch 32)=[nt w.2.num,plc w.1,nt i]:=iw (by simp) (λp hp'=>by
   rcases List.mem_cons.mp hp' with rfl | hp'
   ·exact f1
   ·rcases List.mem_cons.mp hp' with rfl | hp'
    ·exact f2
    ·rw [List.mem_singleton.mp hp']; exact f3) (by
   show nt w.2.num++ch 32++(plc w.1++ch 32++nt i)=nt w.2.num++ch 32++plc w.1++(ch 32++nt i)
   simp only [Str.append_assoc])
  rw [this]
  show (match aX (nt w.2.num) with | none=>none | some n=>(aX (nt i)).map λs=>(n,plc w.1,some s))=_
  rw [e1,e2]
  rfl
theorem uJ {w:Wt} (hn:NodR w.2) (hp:fG w.1):10∉sg (lnT w):=by
 obtain ⟨h1,h2⟩:=hn.num
 unfold lnT
 refine fg (fg (fg (jV (by omega) (.inl (by decide))) (by rw [wE]; decide)) (ml hp (by decide) (by decide))) λz=>?_
 have:=sq hn.st 10 z
 omega
theorem mm:∀ ws:List Wt,Str.join (ch 10) (ws.map lnT++[Str.empty])=txt ws
 | []=>rfl
 | w :: ws=>by
  obtain ⟨y,r,e⟩:∃ y r,ws.map lnT++[Str.empty]=y :: r:=by
   cases ws with
   | nil=>exact ⟨_,_,rfl⟩
   | cons v vs=>exact ⟨_,_,rfl⟩
  have ih:=mm ws
  rw [List.map_cons,List.cons_append,e] at *
  show lnT w++ch 10++Str.join (ch 10) (y :: r)=lnT w++ch 10++txt ws
  rw [ih]
theorem jq {ws:List Wt} (h:∀ w∈ws,NodR w.2∧fG w.1):bE (txt ws)=some (ws.map lnT):=by
 have:Txt.split (txt ws) (ch 10)=ws.map lnT++[Str.empty]:=iw (by simp) (λp hp=>by
  rcases List.mem_append.mp hp with hp | hp
  ·obtain ⟨w,hw,rfl⟩:=List.mem_map.mp hp
   exact uJ (h w hw).1 (h w hw).2
  ·rw [List.mem_singleton.mp hp]
   show 10∉[]
   simp) (mm ws)
 unfold bE
 rw [this,if_pos (by simp),List.dropLast_concat]
section
variable {t:List Nd} {ws:List Wt}
theorem Wk.pth (W:Wk t ws) (h:∀ n∈t,NodR n) {w:Wt} (hw:w∈ws):NodR w.2∧fG w.1:=by
 obtain ⟨h1,h2⟩:=(W.mem w.1 w.2).mp hw
 refine ⟨h _ h1,?_⟩
 clear hw
 generalize w.2.num=k at h2
 generalize w.1=p at h2 ⊢
 induction h2 with
 | top=>exact λx hx=>by cases hx
 | @node n p hn _ ih =>
  intro x hx
  rcases List.mem_append.mp hx with hx | hx
  ·exact ih x hx
  ·rw [List.mem_singleton.mp hx]
   exact (h n hn).nm
theorem iy (T:TW.Tree1 t) (W:Wk t ws) (h:∀ n∈t,NodR n):∀ (vs us:List Wt),ws=us++vs→∀ g:Gn,g Str.empty=some 0→(∀ u∈us,g (plc u.1)=some u.2.num)→aY g (vs.map lnT)=some (vs.map (·.2))
 | [],_,_,_,_,_=>rfl
 | v :: vs,us,e,g,g0,gu=>by
  have hv:v∈ws:=by rw [e]; simp
  obtain ⟨hn,hp⟩:=W.pth h hv
  obtain ⟨h1,h2⟩:=(W.mem v.1 v.2).mp hv
  obtain ⟨q,eq,hq⟩:=h2.inv T h1 rfl
  have nm:=(h _ h1).nm
  have rp:=fJ (p:=q) nm.2
  rw [← eq] at rp
  have hg:g (plc q)=some v.2.par:=by
   by_cases h0:v.2.par=0
   ·rw [h0] at hq
    rw [hq.zero T rfl,h0]
    exact g0
   ·obtain ⟨m,hm,em,_⟩:∃ m∈t,m.num=v.2.par∧m.st=none:=by
     cases T.down v.2 h1 with
     | base _ e=>exact absurd e h0
     | step h hs _ e=>exact ⟨_,h.mem,e.symm,hs⟩
    rw [← em] at hq
    have hw:(q,m)∈ws:=(W.mem q m).mpr ⟨hm,hq⟩
    have lt:HT.bA q v.1=true:=by
     rw [eq]
     have:∀ l:List Str,HT.bA l (l++[v.2.nm])=true:=λl=>by
      induction l with
      | nil=>rfl
      | cons a l ih=>rw [List.cons_append,HT.cx,if_pos rfl]; exact ih
     exact this q
    rw [e] at hw
    rcases List.mem_append.mp hw with hw | hw
    ·rw [← em]; exact gu _ hw
    ·exfalso
     rcases List.mem_cons.mp hw with hw | hw
     ·rw [← hw,HT.bD] at lt; cases lt
     ·have up:=W.up
      rw [e,List.pairwise_append,List.pairwise_cons] at up
      have:=HT.gL lt (up.2.1.1 _ hw)
      rw [HT.bD] at this
      cases this
  have vne:v.1≠[]:=by rw [eq]; simp
  have ih:=iy T W h vs (us++[v]) (by rw [e]; simp) (ff g (plc v.1) v.2.num) (by unfold ff; rw [if_neg λz=>jU vne z.symm]; exact g0) (λu hu=>by
   unfold ff
   rcases List.mem_append.mp hu with hu | hu
   ·split
    ·rename_i z
     have hu':u∈ws:=by rw [e]; exact List.mem_append_left _ hu
     have:=W.path hu' hv (uH (W.pth h hu').2 hp z)
     rw [this]
    ·exact gu u hu
   ·rw [List.mem_singleton.mp hu,if_pos rfl])
  rw [List.map_cons]
  show (match aO (lnT v) with | none=>none | some (n,x,st)=>_)=_
  rw [ss hn hp]
  show (match g (rp0 (plc v.1)) with | none=>none | some p=>(aY (ff g (plc v.1) v.2.num) (vs.map lnT)).map λr=>(⟨v.2.num,p,rp2 (plc v.1),v.2.st⟩:Nd) :: r)=_
  rw [rp.1,hg,rp.2]
  show (aY (ff g (plc v.1) v.2.num) (vs.map lnT)).map _=_
  rw [ih]
  rfl
theorem da (T:TW.Tree1 t) (W:Wk t ws) (h:∀ n∈t,NodR n):∃ ls,bE (txt ws)=some ls∧aY gn0 ls=some (ws.map (·.2)) :=
 ⟨_,jq λw hw=>W.pth h hw,iy T W h ws [] rfl gn0 rfl λu hu=>by cases hu⟩
end
theorem vk:∀ (cs:List Nat) (a:Nat),(∀ c∈cs,48≤c∧c≤57)→cs.foldl (λacc c=>acc * 10+(c - 48)) a<(a+1) * 10 ^ cs.length
 | [],a,_=>by simp
 | c :: r,a,h=>by
  have h1:=h c List.mem_cons_self
  have:=vk r (a * 10+(c - 48)) λd hd=>h d (List.mem_cons_of_mem _ hd)
  rw [List.foldl_cons,List.length_cons]
  refine Nat.lt_of_lt_of_le this ?_
  rw [Nat.pow_succ,Nat.mul_comm (10 ^ r.length) 10,← Nat.mul_assoc]
  exact Nat.mul_le_mul_right _ (by omega)
theorem su {x:Str} {n:Int} (h:aX x=some n):0≤n∧n<10 ^ 9:=by
 unfold aX at h
 split at h
 ·rename_i hx
  injection h with h
  subst h
  have hl:=(fF hx).2
  unfold dP at hx
  rw [Bool.and_eq_true,Bool.and_eq_true,Bool.and_eq_true] at hx
  have:=vk (sg x) 0 (mh hx.1.2)
  have h2:(0+1) * 10 ^ (sg x).length≤10 ^ 9:=by
   rw [Nat.zero_add,Nat.one_mul]
   exact Nat.pow_le_pow_right (by decide) hl
  have h3:PySem.NumText.digitsVal (sg x)<10 ^ 9:=Nat.lt_of_lt_of_le this h2
  exact ⟨Int.natCast_nonneg _,by omega⟩
 ·cases h
theorem qv {l x:Str} {n:Int} {st:Option Int} (e:aO l=some (n,x,st)):0≤n∧n<10 ^ 9:=by
 unfold aO at e
 generalize Txt.split l (ch 32)=ws at e
 match ws,e with
 | [a,b],e =>
  have e:(if Txt.endswith b (ch 47)=true then (aX a).map λn=>(n,StrLaws.sliceText b none (some (-1)),(none:Option Int)) else none)=some (n,x,st):=e
  split at e
  ·cases ha:aX a with
   | none=>rw [ha] at e; cases e
   | some k =>
    rw [ha] at e
    injection e with e
    injection e with e _
    rw [← e]
    exact su ha
  ·cases e
 | [a,b,c],e =>
  have e:(match aX a with | none=>none | some n=>(aX c).map λs=>(n,b,some s))=some (n,x,st):=e
  cases ha:aX a with
  | none=>rw [ha] at e; cases e
  | some k =>
   rw [ha] at e
   cases hc:aX c with
   | none=>rw [hc] at e; cases e
   | some k2 =>
    rw [hc] at e
    injection e with e
    injection e with e _
    rw [← e]
    exact su ha
theorem gr {R:Nd→Prop}:∀ {ls:List Str} {g:Gn} {ns:List Nd},(∀ l∈ls,∀ n x st p,aO l=some (n,x,st)→R ⟨n,p,rp2 x,st⟩)→aY g ls=some ns→(∀ n∈ns,R n)∧ns.length=ls.length
 | [],_,ns,_,h=>by
  injection h with h
  subst h
  exact ⟨λn h=>(nomatch h),rfl⟩
 | l :: ls,g,ns,hR,h=>by
  have h:(match aO l with | none=>none | some (n,x,st)=>match g (rp0 x) with | none=>none | some p=>(aY (ff g x n) ls).map λr=>(⟨n,p,rp2 x,st⟩:Nd) :: r)=some ns:=h
  cases hp:aO l with
  | none=>rw [hp] at h; cases h
  | some z =>
   obtain ⟨n,x,st⟩:=z
   rw [hp] at h
   have h:(match g (rp0 x) with | none=>none | some p=>(aY (ff g x n) ls).map λr=>(⟨n,p,rp2 x,st⟩:Nd) :: r)=some ns:=h
   cases hg:g (rp0 x) with
   | none=>rw [hg] at h; cases h
   | some p =>
    rw [hg] at h
    have h:((aY (ff g x n) ls).map λr=>(⟨n,p,rp2 x,st⟩:Nd) :: r)=some ns:=h
    cases hn:aY (ff g x n) ls with
    | none=>rw [hn] at h; cases h
    | some r =>
     rw [hn] at h
     injection h with h
     subst h
     obtain ⟨h1,h2⟩:=gr (λl' h'=>hR l' (List.mem_cons_of_mem _ h')) hn
     exact ⟨λm hm=>by
      rcases List.mem_cons.mp hm with rfl | hm
      ·exact hR l List.mem_cons_self n x st p hp
      ·exact h1 m hm,by rw [List.length_cons,List.length_cons,h2]⟩
noncomputable def cm (x:Str) (t:List Nd) (ws:List Wt):Prop:=TW.Tree1 t∧(∀ n∈t,NodR n)∧Wk t ws∧txt ws=x
theorem cm.mem {x:Str} {t:List Nd} {ws:List Wt} (h:cm x t ws) (n:Nd):n∈ws.map (·.2)↔n∈t:=by
 obtain ⟨T,_,W,_⟩:=h
 constructor
 ·intro h
  obtain ⟨w,hw,rfl⟩:=List.mem_map.mp h
  exact ((W.mem w.1 w.2).mp hw).1
 ·intro h
  obtain ⟨p,hp⟩:=TW.PathTo.ex T h
  exact List.mem_map.mpr ⟨(p,n),(W.mem p n).mpr ⟨h,hp⟩,rfl⟩
theorem cm.sorted {x:Str} {t:List Nd} {ws:List Wt} (h:cm x t ws) {us ns:List Nd} {ls:List Str} (el:bE x=some ls) (en:aY gn0 ls=some ns) (hp:us.Perm ns) (hu:us.Pairwise λa b=>a.num≤b.num):us=t:=by
 obtain ⟨T,R,W,E⟩:=h
 obtain ⟨l1,a1,b1⟩:=da T W R
 rw [E,el] at a1
 injection a1 with a1
 rw [← a1,en] at b1
 injection b1 with b1
 have hn:((ws.map (·.2)).map (·.num)).Nodup:=by rw [List.map_map]; exact Wk.nums T W
 rw [← b1] at hn
 have hn:(us.map (·.num)).Nodup:=(hp.map _).nodup_iff.mpr hn
 unfold List.Nodup at hn
 rw [List.pairwise_map] at hn
 refine ma (List.Pairwise.imp₂ (λa b h1 h2=>by omega) hu hn) T.rise λn=>?_
 rw [hp.mem_iff,b1,cm.mem ⟨T,R,W,E⟩]
theorem cm.one {x:Str} {t u:List Nd} {ws vs:List Wt} (h:cm x t ws) (h':cm x u vs):t=u:=by
 obtain ⟨T,R,W,E⟩:=h
 obtain ⟨T',R',W',E'⟩:=h'
 obtain ⟨l1,a1,b1⟩:=da T W R
 obtain ⟨l2,a2,b2⟩:=da T' W' R'
 rw [E,← E',a2] at a1
 injection a1 with a1
 rw [← a1,b2] at b1
 injection b1 with b1
 refine ma T.rise T'.rise λn=>?_
 rw [← cm.mem ⟨T,R,W,E⟩,← cm.mem ⟨T',R',W',E'⟩,b1]
noncomputable def bY (a x:Str):Prop:=(sg a).Sublist (sg x)
theorem oR (x:Str) {j:Int} (h0:0≤j):bY (StrLaws.sliceText x none (some j)) x:=by
 have key:∀ j:Int,0≤j→j≤(sg x).length→bY (StrLaws.sliceText x none (some j)) x:=λj h0 h1=>by
  unfold bY
  rw [StrLaws.sliceText_to ⟨h0,h1⟩]
  show ((List.take (j - 0).toNat (List.drop 0 (sg x))).toArray.toList).Sublist (sg x)
  rw [List.toList_toArray]
  exact (List.take_sublist _ _).trans (List.drop_sublist _ _)
 by_cases h:j≤(sg x).length
 ·exact key j h0 h
 ·have e:StrLaws.sliceText x none (some j)=StrLaws.sliceText x none (some ((x.length:Nat):Int)):=by
   unfold StrLaws.sliceText
   rw [PyProof.Rows.sliceIdx_hi_beyond _ (show (x.length:Int)≤j by rw [← bi]; omega)]
  rw [e]
  exact key _ (by omega) (Int.le_refl _)
theorem fK (x:Str) {i:Int} (h0:0≤i):bY (StrLaws.sliceText x (some i) none) x:=by
 have key:∀ i:Int,0≤i→i≤(sg x).length→bY (StrLaws.sliceText x (some i) none) x:=λi h0 h1=>by
  unfold bY
  rw [StrLaws.sliceText_from ⟨h0,h1⟩]
  show ((List.take _ (List.drop i.toNat (sg x))).toArray.toList).Sublist (sg x)
  rw [List.toList_toArray]
  exact (List.take_sublist _ _).trans (List.drop_sublist _ _)
 by_cases h:i≤(sg x).length
 ·exact key i h0 h
 ·have e:StrLaws.sliceText x (some i) none=StrLaws.sliceText x (some ((x.length:Nat):Int)) none:=by
   unfold StrLaws.sliceText
   rw [PyProof.Rows.sliceIdx_lo_beyond _ (show (x.length:Int)≤i by rw [← bi]; omega)]
  rw [e]
  exact key _ (by omega) (Int.le_refl _)
theorem bY.len {a x:Str} (h:bY a x):a.length≤x.length:=h.length_le
theorem bY.cnt {a x:Str} (h:bY a x):(sg a).count 10≤(sg x).count 10:=h.count_le 10
theorem bY.mem {a x:Str} (h:bY a x) {c:Nat} (hc:c∈sg a):c∈sg x:=h.subset hc
theorem bY.self (x:Str):bY x x:=List.Sublist.refl _
theorem bY.emp (x:Str):bY Str.empty x:=List.nil_sublist _
structure Spd (x y:Str):Prop where
 len:y.length≤2 * x.length+1
 cnt:(sg y).count 10≤2 * (sg x).count 10+1
 mem:∀ c∈sg y,c∈sg x∨c<128
theorem Spd.of3 {x a s b:Str} (ha:bY a x) (hb:bY b x) (hs:s.length≤1) (hc:∀ c∈sg s,c<128):Spd x (a++s++b):=by
 have h1:=ha.len
 have h2:=hb.len
 have h3:=ha.cnt
 have h4:=hb.cnt
 have h5:(sg s).count 10≤1:=Nat.le_trans List.count_le_length hs
 refine ⟨by rw [ap,ap]; omega,by rw [bf,bf,List.count_append,List.count_append]; omega,λc h=>?_⟩
 rw [bf,bf] at h
 rcases List.mem_append.mp h with h | h
 ·rcases List.mem_append.mp h with h | h
  ·exact .inl (ha.mem h)
  ·exact .inr (hc c h)
 ·exact .inl (hb.mem h)
theorem Spd.of2 {x a b:Str} (ha:bY a x) (hb:bY b x):Spd x (a++b):=by
 have:=Spd.of3 (s:=Str.empty) ha hb (Nat.zero_le _) (λc h=>nomatch h)
 rw [Str.append_empty] at this
 exact this
theorem Spd.sign_ {x s a:Str} (ha:bY a x) (hs:s.length≤1) (hc:∀ c∈sg s,c<128):Spd x (s++a)∧Spd x (a++s):=by
 have h1:=Spd.of3 (s:=s) (bY.emp x) ha hs hc
 have h2:=Spd.of3 (s:=s) ha (bY.emp x) hs hc
 rw [Str.empty_append] at h1
 rw [Str.append_empty] at h2
 exact ⟨h1,h2⟩
theorem mq {c:Nat}:∀ {ps:List Str},ps≠[]→(∀ p∈ps,c∉sg p)→(sg (Str.join (ch c) ps)).count c+1=ps.length
 | [],h,_=>absurd rfl h
 | [x],_,h=>by
  show (sg x).count c+1=1
  rw [List.count_eq_zero.mpr (h x List.mem_cons_self)]
 | x :: y :: r,_,h=>by
  have:=mq (c:=c) (ps:=y :: r) (by simp) λp hp=>h p (List.mem_cons_of_mem _ hp)
  rw [fe,List.count_append,List.count_cons_self,List.count_eq_zero.mpr (h x List.mem_cons_self),List.length_cons]
  omega
theorem fM (x:Str) (c:Nat):(sg x).count c+1=(Txt.split x (ch c)).length:=by
 have:=mq (iu x (ch c)) (λp hp=>StrLaws.split_free x c p hp)
 rw [StrLaws.join_split] at this
 exact this
noncomputable def top (i:Nat):Stmt:=PySem.Challenge.pw_treewatch_k70_whole_texts.main.body.getD i (.Pass ⟨0,0,0,0⟩)
noncomputable abbrev iz:Stmt:=top 17
noncomputable abbrev oS:Stmt:=top 18
noncomputable abbrev jW:Stmt:=top 19
noncomputable abbrev sv:Stmt:=top 20
noncomputable abbrev sw:Stmt:=top 21
noncomputable abbrev wF:Stmt:=top 22
noncomputable abbrev wG:Stmt:=top 23
noncomputable abbrev sx:Stmt:=top 24
noncomputable abbrev wH:Stmt:=top 25
noncomputable abbrev wI:Stmt:=top 26
noncomputable abbrev uK:Stmt:=top 27
noncomputable abbrev bV:Stmt:=top 28
noncomputable abbrev fQ:Stmt:=top 32
noncomputable abbrev fV:Stmt:=top 33
noncomputable abbrev eG:Stmt:=top 34
noncomputable abbrev dI:Stmt:=top 35
noncomputable abbrev eI:Stmt:=top 36
noncomputable abbrev eJ:Stmt:=top 37
noncomputable abbrev nP:Stmt:=top 38
noncomputable abbrev sy:Stmt:=top 40
noncomputable abbrev sA:Stmt:=top 41
noncomputable abbrev fY:Stmt:=top 42
noncomputable abbrev sB:Stmt:=top 43
noncomputable abbrev nQ:Stmt:=top 44
noncomputable abbrev dt:Stmt:=top 46
noncomputable abbrev du:Stmt:=top 47
noncomputable abbrev dJ:Stmt:=top 48
noncomputable abbrev sC:Stmt:=top 49
noncomputable abbrev uL:Stmt:=top 50
structure Txt (mg:Str→Option Value):Prop where
 isin:mg "isinstance" = none
 dict:mg "dict" = none
 len:mg "len" = none
 tuple:mg "tuple" = none
 list:mg "list" = none
 range:mg "range" = none
 sorted:mg "sorted" = none
 reversed:mg "reversed" = none
 ValueError:mg "ValueError" = none
 str:mg "str" = none
 set:mg "set" = none
 max:mg "max" = none
 min:mg "min" = none
 sum:mg "sum" = none
 zip:mg "zip" = none
 enumerate:mg "enumerate" = none
 all:mg "all" = none
 int:mg "int" = none
 bool:mg "bool" = none
 top:∃ t,mg "TOP" = some (.int 0 t)
 letters:∃ t,mg "LETTERS" = some (.str "abcdefghijklmnopqrstuvwxyz" t)
 longest:∃ t,mg "LONGEST_NAME" = some (.int 5 t)
 greatest:∃ t,mg "GREATEST_STAMP" = some (.int 999 t)
 figures:∃ t,mg "FIGURES" = some (.str "0123456789" t)
 mostF:∃ t,mg "MOST_FIGURES" = some (.int 9 t)
section
variable {P:Program} {w:World} {K:PySem.W.Frag} {mg:Str→Option Value} {base:Heap}
noncomputable def sD:Sp:=λvs H Q _=>∃ t f zs,vs=[.ref t,.int f]∧H t=some (.tup (aN zs))∧At H zs∧zs.length≤100∧∀ fd dn l H',TW.Walk (nds zs) f dn fd []→H' l=some (.lst (cA fd))→Same H H'→Q (.ref l) H'
theorem iA:FnScope ["nodes","folder","members","node","found","pending","here"] ["nodes","folder"] (ak wG):=⟨rfl,rfl,rfl,by decide +kernel,rfl,by decide +kernel,by decide +kernel⟩
theorem wJ {f:Addr} {fd:FuncData} (F:Fun K "numbers_inside" "numbers_inside" wG f fd) (T:Txt mg):FnOk P w K mg base CX0 1 f fd ["nodes","folder"] sD:=by
 refine F.ok iA (λvs H Q E h=>?_) (λcdv A outer s H vs Q E hr h=>?_)
 ·obtain ⟨t,f,zs,rfl,_⟩:=h
  rfl
 ·obtain ⟨t,f,zs,rfl,ht,hA,hl,k⟩:=h
  refine ⟨_,ah (ar (i:=2) iA.nd rfl (Or.inl rfl) qW)
   (ah (dA PassesOwn.never rfl (dZ (pv 0)) (aH (i:=3) iA.nd rfl (Or.inl rfl)) (aj (cp (bZ PySem.F.plainAttrs_list PySem.F.slot_list_append PySem.F.type_list_append bJ
     (bZ PySem.F.plainAttrs_dict PySem.F.slot_dict_setdefault PySem.F.type_dict_setdefault iK (pv 2) (aa (aC aK (pv 3) ai (λ_ _=>rfl)) (aa (bv ae) ae))) (aa (pv 3) ae)))))
   (ah (ar (i:=4) iA.nd rfl (Or.inl rfl) (bv ae))
   (ah (ar (i:=5) iA.nd rfl (Or.inl rfl) (bv (aa (pv 1) ae)))
   (ah (gQ PassesOwn.never (qM (pv 5) (λ_=>rfl))
    (ah (ar (i:=6) iA.nd rfl (Or.inl rfl) (qX (pv 2) (vN PySem.F.plainAttrs_list PySem.F.slot_list_pop PySem.F.type_list_pop vO (pv 5)) (bv ae) ⟨rfl,rfl,rfl,rfl⟩))
    (aj (dA PassesOwn.never rfl (dg (pv 6)) (aH (i:=3) iA.nd rfl (Or.inl rfl))
     (ah (cp (bZ PySem.F.plainAttrs_list PySem.F.slot_list_append PySem.F.type_list_append bJ (pv 4) (aa (aC aK (pv 3) ai (λ_ _=>rfl)) ae)))
     (aj (bj (aE fo (aC aK (pv 3) ai (λ_ _=>rfl)) cH (aG _)) (aj (cp (bZ PySem.F.plainAttrs_list PySem.F.slot_list_append PySem.F.type_list_append bJ (pv 5) (aa (aC aK (pv 3) ai (λ_ _=>rfl)) ae)))) aB)))))))
   (aj (aq (pv 4))))))),?_⟩
  refine λd hd=>?_
  have z100:∀ {n:Nat},n≤100→n<sizeLine:=λh=>aQ (by omega)
  refine ⟨_,rfl,t,rfl,⟨_,SqT.of (bt hd ht)⟩,nY (xs:=aN zs) (λi σ H'=>∃ L kvs on,σ=[some (.ref t),some (.int f),some (.ref d),on,none,none,none]∧Mem H H' d L kvs (zs.take i) [])
   ⟨_,_,_,rfl,Mem.start hd⟩ (λi σ H' _ h=>?_) (λi x σ H' hx h=>?_) (λσ H' h=>?_)⟩
  ·obtain ⟨_,_,_,_,m⟩:=h
   exact SqT.of (m.same _ _ ht)
  ·obtain ⟨L,kvs,on,rfl,m⟩:=h
   obtain ⟨z,gz,rfl⟩:=bu hx
   have mz:=List.mem_of_getElem? gz
   have ez:zs.take (i+1)=zs.take i++[z]:=by rw [List.take_succ,gz]; rfl
   have hkl:kvs.length≤100:=by have:=m.len; rw [List.length_take] at this; omega
   refine ⟨_,rfl,.inr (.inr (.inl ⟨rfl,.inl ⟨_,m.dict⟩⟩)),_,rfl,z.1,_,_,_,rfl,rfl,SqT.of (m.same _ _ (hA z mz)),at1 z.2,Nat.zero_le _,λq hq=>?_⟩
   have m':=m.grow (af (o:=.lst []) hq)
   refine ⟨d,kvs,.inl z.2.par,.ref q,rfl,rfl,m'.dict,z100 hkl,λv hv=>?_,λhn=>?_⟩
   ·rw [m.val] at hv
    by_cases h:z.2.par∈([]:List Int)∨ins (zs.take i) z.2.par=[]
    ·rw [if_pos h] at hv; cases hv
    ·rw [if_neg h] at hv
     cases hv
     have h2:ins (zs.take i) z.2.par≠[]:=λz=>h (.inr z)
     have a:=(m'.at' z.2.par (by simp) h2).1
     refine ⟨.inl ⟨rfl,_,SqL.of a⟩,_,rfl,_,_,_,rfl,rfl,a,?_,?_⟩
     ·refine z100 ?_
      rw [aL]
      exact Nat.le_trans (List.Sublist.length_le (List.Sublist.trans List.filter_sublist (List.take_sublist _ _))) hl
     ·refine ⟨L,kvs,_,rfl,?_⟩
      rw [ez]
      exact m'.hit h2
   ·rw [m.val] at hn
    by_cases h:z.2.par∈([]:List Int)∨ins (zs.take i) z.2.par=[]
    ·have h2:ins (zs.take i) z.2.par=[]:=h.resolve_left (by simp)
     have hqd:q≠d:=λe=>by rw [e,m.dict] at hq; cases hq
     have a:upd (upd H' q (.lst [])) d (.dK (cP kvs (Sum.inl z.2.par:Key) (.ref q))) q=some (.lst []):=by rw [ag hqd]; exact ac
     refine ⟨.inl ⟨rfl,_,SqL.of a⟩,_,rfl,q,[],_,rfl,rfl,a,z100 (Nat.zero_le _),?_⟩
     have fr:=m.fresh (z:=z) h2 hq
     rw [← ez] at fr
     exact ⟨_,_,_,rfl,fr⟩
    ·rw [if_neg h] at hn; cases hn
  ·obtain ⟨L,kvs,on,rfl,m⟩:=h
   rw [aL,List.take_length] at m
   refine ⟨Nat.zero_le _,λpf hpf=>⟨_,rfl,aI (by simp),λpp hpp=>?_⟩⟩
   have m1:=(m.grow (af (o:=.lst []) hpf)).grow (af (o:=.lst [.int f]) hpp)
   have hpf0:H pf=none:=m.same.free hpf
   have hne:pp≠pf:=λe=>by rw [e,ac] at hpp; cases hpp
   have hpp0:H pp=none:=by rw [ag hne] at hpp; exact m.same.free hpp
   dsimp only [bp,tG]
   refine gS (λσ H'=>∃ L kvs dn fd pd on oh,σ=[some (.ref t),some (.int f),some (.ref d),on,some (.ref pf),some (.ref pp),oh]∧pd.length≤fd.length+1∧Mem H H' d L kvs zs dn∧TW.Walk (nds zs) f dn fd pd∧H' pf=some (.lst (cA fd))∧H' pp=some (.lst (pd.map V.int)))
    (λσ H'=>2 * (zs.length - fb H' pf)+fb H' pp) ⟨L,kvs,[],[],[f],_,_,rfl,Nat.le_refl _,m1,TW.Walk.start _ _,by rw [ag (Ne.symm hne),ac]; rfl,ac⟩ (λσ H' h=>?_) ?_
   ·obtain ⟨L,kvs,dn,fd,pd,on,oh,rfl,hpl,m,wk,ef,ep⟩:=h
    refine ⟨_,rfl,_,.inl ⟨_,SqL.of ep,rfl⟩,?_⟩
    by_cases hpd:pd=[]
    ·subst hpd
     exact aM ⟨_,rfl,k fd dn pf H' wk ef m.same⟩
    ·obtain ⟨pd',x,rfl⟩:∃ pd' x,pd=pd'++[x]:=⟨pd.dropLast,pd.getLast hpd,(List.dropLast_concat_getLast hpd).symm⟩
     have et:(!((pd'++[x]).map V.int).isEmpty)=true:=by simp
     rw [if_pos et]
     have elast:((pd'++[x]).map V.int)[((pd'++[x]).map V.int).length - 1]? = some (.int x):=by simp
     have edrop:((pd'++[x]).map V.int).dropLast=pd'.map V.int:=by simp
     refine ⟨_,rfl,d,rfl,.inl ⟨_,Rd.of m.dict⟩,_,rfl,.inl ⟨rfl,_,SqL.of ep⟩,pp,_,.int x,rfl,rfl,ep,elast,Nat.zero_le _,λq hq=>?_⟩
     rw [edrop] at hq ⊢
     have m2:=(m.other (o:=.lst (pd'.map V.int)) ep hpp0).grow (af (o:=.lst []) hq)
     have hqp:q≠pp:=λe=>by rw [e,ac] at hq; cases hq
     have hqf:q≠pf:=λe=>by rw [e,ag (Ne.symm hne),ef] at hq; cases hq
     refine rY m2 ac λhl Hc kvs' hs m3 ehl eh hsub hkeep hnil=>?_
     have df:pf≠d:=λe=>by have:=m.dict; rw [← e,ef] at this; cases this
     have dp:pp≠d:=λe=>by have:=m.dict; rw [← e,ep] at this; cases this
     have ef3:Hc pf=some (.lst (cA fd)):=by rw [hkeep pf df,ag (Ne.symm hqf),ag (Ne.symm hne)]; exact ef
     have ep3:Hc pp=some (.lst (pd'.map V.int)):=by rw [hkeep pp dp,ag (Ne.symm hqp),ac]
     have hlf:hl≠pf:=by
      by_cases h:hs=[]
      ·rw [hnil h]; exact hqf
      ·exact oM ef3 ehl h
     have hlp:hl≠pp:=by
      by_cases h:hs=[]
      ·rw [hnil h]; exact hqp
      ·exact oM ep3 ehl h
     have wk':=wk.turn
     rw [← eh] at wk'
     have hlen:=wk'.len
     rw [List.length_append,aW,aW] at hlen
     rw [List.length_append,List.length_singleton] at hpl
     refine ⟨_,rfl,hl,rfl,⟨_,SqL.of ehl⟩,gR (xs:=aN hs) (λj σ H'=>∃ on,σ=[some (.ref t),some (.int f),some (.ref d),on,some (.ref pf),some (.ref pp),some (.ref hl)]∧Mem H H' d L kvs' zs (x :: dn)∧H' hl=some (.lst (aN hs)) ∧
      H' pf=some (.lst (cA (fd++nds (hs.take j))))∧H' pp=some (.lst ((pd'++TW.aF (nds (hs.take j))).map V.int))) ⟨_,rfl,m3,ehl,by rw [ef3]; simp [nds],by rw [ep3]; simp [nds,TW.aF]⟩
      (λj σ H' _ h=>?_) (λj y σ H' hy h=>?_) (λσ H' h=>?_)⟩
     ·obtain ⟨_,_,_,e,_⟩:=h
      exact SqL.of e
     ·obtain ⟨on,rfl,m4,e1,e2,e3⟩:=h
      obtain ⟨z,gz,rfl⟩:=bu hy
      have mz:=hsub z (List.mem_of_getElem? gz)
      have ez:hs.take (j+1)=hs.take j++[z]:=by rw [List.take_succ,gz]; rfl
      have l1:(cA (fd++nds (hs.take j))).length≤100:=by
       unfold cA
       rw [List.length_map,List.length_map,List.length_append,aW,List.length_take]; omega
      have l2:((pd'++TW.aF (nds (hs.take j))).map V.int).length≤1000:=by
       have:=TW.cG (nds (hs.take j))
       rw [aW,List.length_take] at this
       rw [List.length_map,List.length_append]; omega
      have g0:∀ {Hx:Hp},Same H Hx→Hx z.1=some (.tup (vals z.2)):=λs=>s _ _ (hA z mz)
      have e4:cA (fd++nds (hs.take (j+1)))=cA (fd++nds (hs.take j))++[.int z.2.num]:=by rw [ez]; simp [cA,nds]
      have m5:Mem H (upd H' pf (.lst (cA (fd++nds (hs.take j))++[.int z.2.num]))) d L kvs' zs (x :: dn):=m4.other e2 hpf0
      have e5:(upd H' pf (.lst (cA (fd++nds (hs.take j))++[.int z.2.num]))) hl=some (.lst (aN hs)):=by rw [ag hlf]; exact e1
      have e6:(upd H' pf (.lst (cA (fd++nds (hs.take j))++[.int z.2.num]))) pp=some (.lst ((pd'++TW.aF (nds (hs.take j))).map V.int)):=by rw [ag hne]; exact e3
      refine ⟨_,rfl,.inl ⟨rfl,_,SqL.of e2⟩,_,rfl,z.1,_,_,_,rfl,rfl,SqT.of (g0 m4.same),at0 z.2,pf,_,_,rfl,rfl,e2,z100 l1,?_⟩
      refine ⟨_,rfl,z.1,_,_,_,rfl,rfl,SqT.of (g0 m5.same),at3 z.2,rfl,_,rfl,?_⟩
      cases est:z.2.st with
      | none =>
       have e7:TW.aF (nds (hs.take (j+1)))=TW.aF (nds (hs.take j))++[z.2.num]:=by rw [ez]; simp [TW.aF,nds,est]
       refine av ⟨_,rfl,.inl ⟨rfl,_,SqL.of e6⟩,_,rfl,z.1,_,_,_,rfl,rfl,SqT.of (g0 m5.same),at0 z.2,pp,_,_,rfl,rfl,e6,aQ l2,?_⟩
       refine ⟨_,rfl,m5.other e6 hpp0,by rw [ag hlp]; exact e5,by rw [ag (Ne.symm hne),ac,e4],?_⟩
       rw [ac,e7]
       simp
      | some i =>
       have e7:TW.aF (nds (hs.take (j+1)))=TW.aF (nds (hs.take j)):=by rw [ez]; simp [TW.aF,nds,est]
       refine aM ⟨_,rfl,m5,e5,by rw [ac,e4],?_⟩
       rw [e6,e7]
     ·obtain ⟨on,rfl,m4,e1,e2,e3⟩:=h
      rw [aL,List.take_length] at e2 e3
      refine ⟨⟨L,kvs',x :: dn,_,_,on,_,rfl,?_,m4,wk',e2,e3⟩,?_⟩
      ·have:=TW.cG (nds hs)
       rw [aW] at this
       rw [List.length_append,List.length_append,aW]; omega
      show 2 * (zs.length - fb H' pf)+fb H' pp<_
      rw [cY e2,cY e3,cY ef,cY ep]
      have:=TW.cG (nds hs)
      rw [aW] at this
      simp only [cA,List.length_map,List.length_append,aW,List.length_singleton]
      omega
   ·rintro σ H Q Q' mo ⟨v,e,k,tv,q⟩
    exact ⟨v,e,k,tv,mo _ _ q⟩
end
end TK
namespace L2
open PySem PySem.Spec PyProof.Rows
theorem Inv.freeze {X:Cx} {pins:List (Addr×Obj)} {σ:St} {H:Hp} {s:Shared} {d:Addr} {kvs:List (Key×V)} (I:Inv X pins σ H s) (hH:H d=some (.dK kvs)):∃ o,Inv X pins σ (upd H d (.frz o (.dK kvs))) s:=by
 obtain ⟨hz,hsm,vs,rel,o,es,ep,ho,hx,hd,hk,hp,hn⟩:=I.hok d _ hH
 exact ⟨o,I.write (t':=s.toks) (x:=d) (e:=d) (by rw [hH]; trivial) (.inl rfl) (λ_ _ _ q=>q) ⟨o,ho⟩ ⟨ho,hz,hsm,vs,rel,o,es,ep,ho,hx,hd,hk,hp,hn⟩⟩
noncomputable def yX (t:TS):TS:=λD σ H=>∃ d kvs,H d=some (.dK kvs)∧∀ o,t D σ (upd H d (.frz o (.dK kvs)))
theorem qw {X:Cx} {st:Stmt} {t:TS} (hs:PS X st t):PS X st (yX t):=λpins s σ H D I ⟨d,kvs,h,ht⟩=>by
 obtain ⟨o,I2⟩:=I.freeze h
 exact hs pins s σ _ D I2 (ht o)
theorem uM {x:Str} {H1:Hp}:Src (Its x) H1 (x.cps.toList.map λc=>V.str ⟨#[c]⟩) :=
 ⟨λi H' hi s=>by rw [List.length_map,Array.length_toList] at hi; exact hi,λH' s=>by rw [List.length_map,Array.length_toList]; exact Nat.le_refl x.cps.size,λi H' v H2 hi s ⟨e,c,hc,ev⟩=>⟨e,by
  rw [List.getElem?_map]
  have hc':x.cps.toList[i]? = some c:=by simpa using hc
  rw [hc',ev]; rfl⟩⟩
end L2
namespace L2
open PySem
section
variable {X:Cx} {scope:Scope} {x:Str} {px pos:Pos} {elt iter c:Expr} {wi:TI} {te:TE} {tc:TT} {cl:List (Str×Addr)} {js:List Nat} {fs:List Str}
end
end L2
namespace TK
open PySem L2
theorem szl {n:Nat} (h:n≤100000):n≤sizeLine:=by rw [sizeLine_eq]; omega
structure TxOk (x:Str):Prop where
 len:x.length≤900
 low:∀ c∈sg x,c<16 ^ 8
theorem TxOk.rep {x:Str} (h:TxOk x):(reprText x).length≤10002:=by
 have:=PySem.StrLaws.reprText_len x h.low
 have:=h.len
 omega
noncomputable def wK:Str:="0123456789"
theorem wL (c:Nat):(!(Builtin.Str.occurrences wK ⟨#[c]⟩ 0 wK.length 1).isEmpty)=decide (48≤c∧c≤57):=by
 rw [StrLaws.found_one,Bool.eq_iff_iff,decide_eq_true_eq,decide_eq_true_eq]
 show c∈[48,49,50,51,52,53,54,55,56,57]↔_
 simp only [List.mem_cons,List.not_mem_nil,or_false]
 omega
section
variable {P:Program} {w:World} {K:PySem.W.Frag} {mg:Str→Option Value} {base:Heap}
noncomputable def sE (C:Addr):Sp:=λvs H Q E=>∃ x:Str,vs=[.str x]∧TxOk x∧(∀ n,aX x=some n→∀ H',Same H H'→Q (.int n) H')∧(aX x=none→∀ H',Same H H'→E (.ref C) none H')
theorem ye:FnScope ["text"] ["text"] (ak dI):=⟨rfl,rfl,rfl,by decide +kernel,rfl,by decide +kernel,by decide +kernel⟩
theorem wM {f C:Addr} {fd:FuncData} (F:Fun K "number_in" "number_in" dI f fd) (T:Txt mg) (O:jm "NoText" mg base C):FnOk P w K mg base (CX1 P w) 1 f fd ["text"] (sE C):=by
 obtain ⟨tl,hL⟩:=T.figures
 obtain ⟨tn,hN⟩:=T.mostF
 refine F.okX ye (λvs H Q E h=>?_) (λcdv A outer s H vs Q E hr h=>?_)
 ·obtain ⟨v,rfl,_⟩:=h
  rfl
 ·obtain ⟨x,rfl,ok,qn,qe⟩:=h
  have rl:=ok.rep
  have xl:=ok.len
  refine ⟨_,ah (bj (PW.pt (pw_or (ca (kD iS iS ai (al cr rfl T.len PySem.boot_len (aa (pv 0) ae)) (bg (v:=.int 9) rfl hN ⟨_,rfl⟩)))
    (pw_or1 (ca (ci (al (eX rfl) rfl T.all PyProof.Rows.boot_all (aa (cF (N:=["sign"]) (k:=1) (js:=[]) (g:=bp 0) rfl (cM rfl (by decide +kernel) (by decide +kernel) (by decide +kernel)) rfl (λi j x h=>by simp at h)
    (rq (pv 0)) (λs H fp=>aH (i:=0) (show (["sign"]:List Str).Nodup by decide +kernel) rfl (Or.inl rfl) (Or.inr rfl)) (λs H fp=>cq iT (pv 0) (bg (v:=.str wK) rfl hL ⟨_,rfl⟩) (by with_unfolding_all rfl))) ae)) (λ_=>rfl))))))
   (aj (cU cT O hr.hd rfl (jp (gM (pv 0) (cB fE))))) aB)
   (ah (bj (PW.pt (pw_and (aE dQ (aC qQ (pv 0) ai (λ_ _=>rfl)) aP (aG _)) (pw_and1 (aE gf (pv 0) aP (aG _))))) (aj (cU cT O hr.hd rfl (jp (cB (gM (pv 0) (cB fE)))))) aB)
   (aj (aq (bo qu rfl T.int PyProof.Rows.boot_int (aa (pv 0) ae))))),?_⟩
  have hsz:x.cps.size=x.length:=rfl
  have no:dP x=false→aX x=none:=λe=>by unfold aX; rw [if_neg (by rw [e]; decide)]
  have l1:∀ z:Str,z.length≤100→(Str.empty++reprText x++z).length≤sizeLine:=λz hz=>by rw [ap,ap]; exact szl (by show 0+_+_≤_; omega)
  have l0:(Str.empty++reprText x).length≤sizeLine:=by rw [ap]; exact szl (by show 0+_≤_; omega)
  refine ⟨_,rfl,x,rfl,szl (by omega),_,_,rfl,rfl,_,rfl,?_⟩
  by_cases a1:1≤x.length
  ·rw [decide_eq_true (show (1:Int)≤(x.length:Int) by omega)]
   refine av ⟨_,_,rfl,rfl,_,rfl,?_⟩
   by_cases a2:x.length≤9
   ·rw [decide_eq_true (show (x.length:Int)≤9 by omega)]
    refine aM ?_
    refine ⟨_,rfl,x,rfl,λp hp=>?_⟩
    refine jP (fr:=[]) (sg x) (λc=>V.str ⟨#[c]⟩) (by rw [bi]; omega) hp uM rfl (λc y _=>y = .bl (decide (48≤c∧c≤57))) (λ_ _ _ _ h _=>h) (λc H' kk mc s1 _ hk=>?_) (λys H1 s1 hp1 hys=>?_)
    ·refine ⟨_,rfl,_,_,rfl,rfl,?_⟩
     rw [wL]
     exact hk _ H' (Same.refl _) rfl
    have ey:=dl (f:=λc:Nat=>V.bl (decide (48≤c∧c≤57))) hys (λ_ y _ h=>h)
    refine ⟨p,(sg x).map λc=>decide (48≤c∧c≤57),rfl,SqL.of (by rw [hp1,ey,List.map_map]; rfl),_,rfl,?_⟩
    have ea:((sg x).map λc=>decide (48≤c∧c≤57)).all id=uG x:=by rw [List.all_map]; rfl
    rw [ea]
    cases hd:uG x with
    | false =>
     have en:aX x=none:=no (by unfold dP; rw [hd,Bool.and_false,Bool.false_and])
     exact av ⟨_,rfl,x,rfl,szl (by omega),l0,l1 _ (by decide),l1 _ (by decide),aI (show 1≤1000 by decide),qe en H1 s1⟩
    | true =>
     refine aM ?_
     have hx:∃ c r,sg x=c :: r:=by
      cases h:sg x with
      | nil=>rw [← bi,h] at a1; simp at a1
      | cons c r=>exact ⟨c,r,rfl⟩
     obtain ⟨c,r,ex⟩:=hx
     refine ⟨_,rfl,x,0,c,rfl,rfl,szl (by omega),(show atI x.cps.toList 0=some c by rw [show x.cps.toList=c :: r from ex]; unfold atI ixN; simp),rfl,_,rfl,?_⟩
     have hh:(sg x).head? = some c:=by rw [ex]; rfl
     have fin:dP x=true→∀ {D:Prop},D→D:=λ_ _ d=>d
     have ret:dP x=true→Q (.int ((PySem.NumText.digitsVal (sg x):Nat):Int)) H1:=λe=>qn _ (by unfold aX; rw [if_pos e]) H1 s1
     by_cases c0:c=48
     ·rw [decide_eq_true (show V.str ⟨#[c]⟩=V.str "0" by rw [c0]; rfl)]
      refine av ⟨_,rfl,rfl,_,rfl,?_⟩
      by_cases x0:x=ch 48
      ·rw [decide_eq_true (show V.str x=V.str "0" by rw [x0]; rfl)]
       have e:dP x=true:=by rw [x0]; decide
       obtain ⟨h1,h2⟩:=fF e
       exact aM ⟨_,rfl,x,_,rfl,by omega,h1,ret e⟩
      ·rw [decide_eq_false (show ¬ V.str x=V.str "0" from λz=>x0 (by injection z))]
       have en:aX x=none:=no (by unfold dP; rw [hh,c0]; simp [x0])
       refine av ⟨?_,_,rfl,x,rfl,szl (by omega),?_,?_,?_,aI (show 1≤1000 by decide),qe en H1 s1⟩
       ·exact szl (by decide)
       ·rw [ap]; exact szl (by show 11+_≤_; omega)
       ·rw [ap,ap]; exact szl (by show 11+_+16≤_; omega)
       ·rw [ap,ap]; exact szl (by show 11+_+16≤_; omega)
     ·rw [decide_eq_false (show ¬ V.str ⟨#[c]⟩=V.str "0" from λz=>c0 (by
       injection z with z
       have:=congrArg sg z
       injection this))]
      have e:dP x=true:=by unfold dP; rw [decide_eq_true a1,decide_eq_true a2,hd,hh]; simp [c0]
      obtain ⟨h1,h2⟩:=fF e
      exact aM ⟨_,rfl,x,_,rfl,by omega,h1,ret e⟩
   ·rw [decide_eq_false (show ¬ (x.length:Int)≤9 by omega)]
    have en:aX x=none:=no (by unfold dP; rw [decide_eq_false a2,Bool.and_false,Bool.false_and,Bool.false_and])
    exact av (av ⟨_,rfl,x,rfl,szl (by omega),l0,l1 _ (by decide),l1 _ (by decide),aI (show 1≤1000 by decide),qe en H (Same.refl _)⟩)
  ·rw [decide_eq_false (show ¬ (1:Int)≤(x.length:Int) by omega)]
   have en:aX x=none:=no (by unfold dP; rw [decide_eq_false a1,Bool.false_and,Bool.false_and,Bool.false_and])
   exact aM ⟨_,rfl,av (av ⟨_,rfl,x,rfl,szl (by omega),l0,l1 _ (by decide),l1 _ (by decide),aI (show 1≤1000 by decide),qe en H (Same.refl _)⟩)⟩
end
theorem mr {z:Str}:∀ {ps:List Str} {p:Str},p∈ps→∃ a b,sg (Str.join z ps)=a++(sg p++b)
 | [x],p,h=>⟨[],[],by rw [List.mem_singleton.mp h]; show sg x=_; simp⟩
 | x :: y :: r,p,h=>by
  have e:sg (Str.join z (x :: y :: r))=sg x++(sg z++sg (Str.join z (y :: r))):=by
   show sg (x++z++Str.join z (y :: r))=_
   rw [bf,bf,List.append_assoc]
  rcases List.mem_cons.mp h with rfl | h
  ·exact ⟨[],_,by rw [e]; rfl⟩
  ·obtain ⟨a,b,e2⟩:=mr (z:=z) h
   exact ⟨sg x++(sg z++a),b,by rw [e,e2]; simp only [List.append_assoc]⟩
theorem TxOk.sub {x p:Str} (h:TxOk x) (e:∃ a b,sg x=a++(sg p++b)):TxOk p:=by
 obtain ⟨a,b,e⟩:=e
 refine ⟨?_,λc hc=>h.low c (by rw [e]; simp [hc])⟩
 have h1:=h.len
 rw [← bi,e,List.length_append,List.length_append,bi p] at h1
 omega
theorem TxOk.split {x p:Str} {c:Nat} (h:TxOk x) (hp:p∈Txt.split x (ch c)):TxOk p:=by
 have:=mr (z:=ch c) hp
 rw [StrLaws.join_split] at this
 exact h.sub this
theorem TxOk.mem {x p:Str} (h:TxOk x) (hl:p.length≤x.length) (hm:∀ c∈sg p,c∈sg x):TxOk p:=⟨Nat.le_trans hl h.len,λc hc=>h.low c (hm c hc)⟩
theorem wN (x:Str) (l u:Option Int):∀ c∈sg (StrLaws.sliceText x l u),c∈sg x:=λc hc=>by
 unfold StrLaws.sliceText at hc
 split at hc
 ·exact hc
 ·have hc:c∈(List.filterMap (λi=>x.cps[i]?) (Builtin.Str.strSliceIndices l u 1 x.length)):=by simpa using hc
  obtain ⟨i,_,e⟩:=List.mem_filterMap.mp hc
  exact Array.mem_toList_iff.mpr (Array.mem_of_getElem? e)
theorem TxOk.sl {x:Str} (h:TxOk x) (l u:Option Int):TxOk (StrLaws.sliceText x l u):=h.mem (Txt.slice_le x _ _) (wN x l u)
theorem oT (x:Str) (a b:Nat):∀ c∈sg (Builtin.Str.strSub x a b),c∈sg x:=λc hc=>by
 have e:sg (Builtin.Str.strSub x a b)=((sg x).drop a).take (b - a):=StrLaws.strSub_toList _ _ _
 rw [e] at hc
 exact List.mem_of_mem_drop (List.mem_of_mem_take hc)
theorem oU (x:Str) (a b:Nat):(Builtin.Str.strSub x a b).length≤x.length:=by
 have e:sg (Builtin.Str.strSub x a b)=((sg x).drop a).take (b - a):=StrLaws.strSub_toList _ _ _
 rw [← bi,e,List.length_take,List.length_drop,bi]
 omega
theorem TxOk.rp {x:Str} (h:TxOk x):TxOk (rp0 x)∧TxOk (rp2 x):=by
 unfold rp0 rp2 dG
 split
 ·exact ⟨h.mem (oU _ _ _) (oT _ _ _),h.mem (oU _ _ _) (oT _ _ _)⟩
 ·exact ⟨⟨Nat.zero_le _,λc hc=>nomatch hc⟩,h⟩
section
variable {P:Program} {w:World} {K:PySem.W.Frag} {mg:Str→Option Value} {base:Heap}
noncomputable def sF (C:Addr):Sp:=λvs H Q E=>∃ x:Str,vs=[.str x]∧TxOk x∧(∀ n y st,aO x=some (n,y,st)→∀ p H',Same H H'→H' p=some (.tup [.int n,.str y,stV st])→Q (.ref p) H')∧(aO x=none→∀ H',Same H H'→E (.ref C) none H')
theorem vm:FnScope ["line","words"] ["line"] (ak eI):=⟨rfl,rfl,rfl,by decide +kernel,rfl,by decide +kernel,by decide +kernel⟩
theorem wO {f C:Addr} {fd:FuncData} (F:Fun K "parts_in" "parts_in" eI f fd) (T:Txt mg) (O:jm "NoText" mg base C) (CN:lW P w K mg base 1 "number_in" ["text"] (sE C)):FnOk P w K mg base (CX1 P w) 2 f fd ["line"] (sF C):=by
 obtain ⟨fN,fdN,GN,mN,kN,bN⟩:=CN
 refine F.okX vm (λvs H Q E h=>?_) (λcdv A outer s H vs Q E hr h=>?_)
 ·obtain ⟨v,rfl,_⟩:=h
  rfl
 ·obtain ⟨x,rfl,ok,qn,qe⟩:=h
  have rl:=ok.rep
  have xl:=ok.len
  refine ⟨_,ah (ar (i:=1) vm.nd rfl (Or.inl rfl) (bZ PySem.F.plainAttrs_str PySem.F.slot_str_split PySem.F.type_str_split jo (pv 0) (aa aP ae)))
   (ah (bj (PW.pt (pw_and (aE dQ (al aR rfl T.len PySem.boot_len (aa (pv 1) ae)) ai (aG _))
     (pw_and1 (ci (bZ PySem.F.plainAttrs_str PySem.F.slot_str_endswith PySem.F.type_str_endswith uD (aC bx (pv 1) ai (λ_ _=>rfl)) (aa aP ae)) (λ_=>rfl)))))
    (aj (aq (cz (aa (am (E:=E) GN hr rfl mN kN bN .nil (jj cT) (aa (aC bx (pv 1) ai (λ_ _=>rfl)) ae)) (aa (aT ce (aC bx (pv 1) ai (λ_ _=>rfl)) bn (bh (qI na ai))) (aa cH ae)))))) aB)
   (ah (bj (aE dQ (al aR rfl T.len PySem.boot_len (aa (pv 1) ae)) ai (aG _))
    (aj (aq (cz (aa (am (E:=E) GN hr rfl mN kN bN .nil (jj cT) (aa (aC bx (pv 1) ai (λ_ _=>rfl)) ae)) (aa (aC bx (pv 1) ai (λ_ _=>rfl)) (aa (am (E:=E) GN hr rfl mN kN bN .nil (jj cT) (aa (aC bx (pv 1) ai (λ_ _=>rfl)) ae)) ae)))))) aB)
   (aj (cU cT O hr.hd rfl (jp (gM (pv 0) (cB fE))))))),?_⟩
  have l0:(Str.empty++reprText x).length≤sizeLine:=by rw [ap]; exact szl (by show 0+_≤_; omega)
  have l1:∀ z:Str,z.length≤100→(Str.empty++reprText x++z).length≤sizeLine:=λz hz=>by rw [ap,ap]; exact szl (by show 0+_+_≤_; omega)
  have oks:∀ p∈Txt.split x (ch 32),TxOk p:=λp hp=>ok.split hp
  refine ⟨_,rfl,rfl,x,ch 32,rfl,rfl,rfl,by omega,λl hl=>?_⟩
  have s1:=af (o:=.lst ((Txt.split x (ch 32)).map V.str)) hl
  have gl:upd H l (.lst ((Txt.split x (ch 32)).map V.str)) l=some (.lst ((Txt.split x (ch 32)).map V.str)):=ac
  generalize upd H l (.lst ((Txt.split x (ch 32)).map V.str))=H1 at s1 gl ⊢
  have ep:aO x=aO x:=rfl
  conv at ep=>rhs; unfold aO
  generalize Txt.split x (ch 32)=ws at gl ep oks ⊢
  have no2:∀ n:Nat,¬ n=2→(decide (V.int (n:Int)=V.int 2))=false:=λn hn=>decide_eq_false λz=>by injection z with z; omega
  have no3:∀ n:Nat,¬ n=3→(decide (V.int (n:Int)=V.int 3))=false:=λn hn=>decide_eq_false λz=>by injection z with z; omega
  have other:¬ ws.length=2→¬ ws.length=3→aO x=none:=λh2 h3=>by
   rw [ep]
   match ws,h2,h3 with
   | [],_,_=>rfl
   | [a],_,_=>rfl
   | [a,b],h2,_=>exact absurd rfl h2
   | [a,b,c],_,h3=>exact absurd rfl h3
   | a :: b :: c :: d :: r,_,_=>rfl
  have hw:(ws.map V.str).length=ws.length:=List.length_map ..
  refine ⟨_,rfl,l,_,rfl,.inl (SqL.of gl),rfl,_,rfl,?_⟩
  rw [hw]
  by_cases h2:ws.length=2
  ·obtain ⟨a,b,rfl⟩:∃ a b,ws=[a,b]:=by
    match ws,h2 with
    | [a,b],_=>exact ⟨a,b,rfl⟩
   refine av ⟨_,rfl,l,_,_,_,rfl,rfl,SqL.of gl,rfl,rfl,b,ch 47,rfl,rfl,_,rfl,?_⟩
   cases he:Txt.endswith b (ch 47) with
   | true =>
    refine av ?_
    have ep:aO x=(aX a).map λn=>(n,StrLaws.sliceText b none (some (-1)),none):=by rw [ep]; show (if Txt.endswith b (ch 47)=true then _ else _)=_; rw [if_pos he]
    refine ⟨_,rfl,l,_,_,_,rfl,rfl,SqL.of gl,rfl,a,rfl,oks a (by simp),λn en H2 s2=>?_,λen H2 s2=>qe (by rw [ep,en]; rfl) H2 (s1.trans s2)⟩
    have g2:=s2 _ _ gl
    have bl:=(oks b (by simp)).len
    refine ⟨_,rfl,l,_,_,_,rfl,rfl,SqL.of g2,rfl,_,rfl,_,rfl,b,rfl,by omega,(show 3≤sizeLine from aI (by decide)),λp hp=>?_⟩
    exact qn n _ none (by rw [ep,en]; rfl) p _ ((s1.trans s2).trans (af hp)) ac
   | false =>
    have ep:aO x=none:=by rw [ep]; show (if Txt.endswith b (ch 47)=true then _ else _)=_; rw [if_neg (by rw [he]; decide)]
    refine aM ⟨_,rfl,l,_,rfl,.inl (SqL.of gl),rfl,_,rfl,aM ?_⟩
    exact ⟨_,rfl,x,rfl,szl (by omega),l0,l1 _ (by decide),l1 _ (by decide),aI (show 1≤1000 by decide),qe ep _ s1⟩
  ·rw [no2 _ h2]
   refine aM (aM ⟨_,rfl,l,_,rfl,.inl (SqL.of gl),rfl,_,rfl,?_⟩)
   rw [hw]
   by_cases h3:ws.length=3
   ·obtain ⟨a,b,c,rfl⟩:∃ a b c,ws=[a,b,c]:=by
     match ws,h3 with
     | [a,b,c],_=>exact ⟨a,b,c,rfl⟩
    refine av ⟨_,rfl,l,_,_,_,rfl,rfl,SqL.of gl,rfl,a,rfl,oks a (by simp),λn en H2 s2=>?_,λen H2 s2=>qe (by rw [ep]; show (match aX a with | none=>none | some n=>_)=_; rw [en]) H2 (s1.trans s2)⟩
    have g2:=s2 _ _ gl
    have ep:aO x=(aX c).map λs=>(n,b,some s):=by rw [ep]; show (match aX a with | none=>none | some n=>_)=_; rw [en]
    refine ⟨_,rfl,l,_,_,_,rfl,rfl,SqL.of g2,rfl,_,rfl,l,_,_,_,rfl,rfl,SqL.of g2,rfl,c,rfl,oks c (by simp),λm em H3 s3=>⟨(show 3≤sizeLine from aI (by decide)),λp hp=>?_⟩,λen H3 s3=>qe (by rw [ep,en]; rfl) H3 ((s1.trans s2).trans s3)⟩
    exact qn n b (some m) (by rw [ep,em]; rfl) p _ (((s1.trans s2).trans s3).trans (af hp)) ac
   ·rw [no3 _ h3]
    exact aM ⟨_,rfl,x,rfl,szl (by omega),l0,l1 _ (by decide),l1 _ (by decide),aI (show 1≤1000 by decide),qe (other h2 h3) _ s1⟩
noncomputable def sG (C:Addr):Sp:=λvs H Q E=>∃ x:Str,vs=[.str x]∧TxOk x∧(∀ ls,bE x=some ls→∀ p H',Same H H'→H' p=some (.lst (ls.map V.str))→Q (.ref p) H')∧(bE x=none→∀ H',Same H H'→E (.ref C) none H')
theorem vn:FnScope ["text","lines"] ["text"] (ak eG):=⟨rfl,rfl,rfl,by decide +kernel,rfl,by decide +kernel,by decide +kernel⟩
theorem wP {f C:Addr} {fd:FuncData} (F:Fun K "lines_in" "lines_in" eG f fd) (O:jm "NoText" mg base C):FnOk P w K mg base (CX1 P w) 1 f fd ["text"] (sG C):=by
 refine F.okX vn (λvs H Q E h=>?_) (λcdv A outer s H vs Q E hr h=>?_)
 ·obtain ⟨v,rfl,_⟩:=h
  rfl
 ·obtain ⟨x,rfl,ok,qn,qe⟩:=h
  have xl:=ok.len
  refine ⟨_,ah (ar (i:=1) vn.nd rfl (Or.inl rfl) (bZ PySem.F.plainAttrs_str PySem.F.slot_str_split PySem.F.type_str_split jo (pv 0) (aa aP ae)))
   (ah (bj (aE gf (aC bx (pv 1) (qI na ai) (λ_ _=>rfl)) aP (aG _)) (aj (cU cT O hr.hd rfl aP)) aB)
   (aj (aq (aT tK (pv 1) bn (bh (qI na ai)))))),?_⟩
  refine ⟨_,rfl,rfl,x,ch 10,rfl,rfl,rfl,by omega,λl hl=>?_⟩
  have s1:=af (o:=.lst ((Txt.split x (ch 10)).map V.str)) hl
  have gl:upd H l (.lst ((Txt.split x (ch 10)).map V.str)) l=some (.lst ((Txt.split x (ch 10)).map V.str)):=ac
  generalize upd H l (.lst ((Txt.split x (ch 10)).map V.str))=H1 at s1 gl ⊢
  have ep:bE x=bE x:=rfl
  conv at ep=>rhs; unfold bE
  have hne:=iu x (ch 10)
  generalize Txt.split x (ch 10)=ws at gl ep hne ⊢
  obtain ⟨ls,y,rfl⟩:∃ ls y,ws=ls++[y]:=⟨ws.dropLast,ws.getLast hne,(List.dropLast_concat_getLast hne).symm⟩
  rw [List.getLast?_concat,List.dropLast_concat] at ep
  rw [List.map_append] at gl
  refine ⟨_,rfl,_,rfl,l,_,_,_,rfl,rfl,SqL.of gl,qP _ (V.str y),rfl,_,rfl,?_⟩
  by_cases hy:y=Str.empty
  ·subst hy
   rw [if_pos rfl] at ep
   refine aM ⟨_,rfl,_,rfl,_,rfl,l,_,rfl,SqL.of gl,λp hp=>?_⟩
   refine qn ls ep p _ (s1.trans (af hp)) ?_
   rw [ac]
   show some (HO.lst (gC (ls.map V.str++[V.str Str.empty]) none (some (-1))))=_
   unfold gC
   rw [HT.kF]
   have e:HT.sIx (ls.map V.str++[V.str Str.empty]).length (ls.map V.str++[V.str Str.empty]).length (some (-1))=(ls.map V.str).length:=by
    rw [List.length_append]
    show (if (-1:Int)<0 then ((-1:Int)+(((ls.map V.str).length+1:Nat):Int)).toNat else min (-1:Int).toNat ((ls.map V.str).length+1))=_
    rw [if_pos (by decide)]
    omega
   rw [e,List.drop_zero,Nat.sub_zero,List.take_left]
  ·rw [if_neg (λz=>hy (Option.some.inj z))] at ep
   rw [decide_eq_false (show ¬ V.str y=V.str "" from λz=>hy (by injection z))]
   exact av ⟨aI (show 1≤1000 by decide),qe ep _ s1⟩
end
end TK
namespace L2
open PySem PySem.Spec PyProof.Rows
section
variable {X:Cx}
noncomputable def wQ (x:Str) (tv:TE):TE:=λσ H Q=>∀ p,H p=none→tv σ (upd H p (.dK [])) λv H1=>H1 p=some (.dK [])∧Q (.ref p) (upd H1 p (.dK [(Sum.inr x,v)]))
theorem sH {x:Str} {ke ve:Expr} {tv:TE} {pos:Pos} (hk:PE X ke (tC (.str x))) (hv:PE X ve tv):PE X (.Dict [some ke] [ve] pos) (wQ x tv):=by
 intro pins s σ H Q I h
 refine wpAny_Dict_pairs (knd:=aD X.prog X.w) (pairs:=[(eval ke X.env,do let x ← eval ve X.env; standAt pos; pure x)]) rfl (by simp) (by show 1≤15; decide) ?_
 have I0:Inv X pins σ (upd H s.heap.objs.size (.dK [])) { s with heap:=s.heap.push { cls:=.type "dict",data:=.dict #[] } }:=I.laid (a:=s.heap.objs.size) (o:=.dK []) (t':=s.toks) (λ_ _ q=>Heap.get?_push_of_some _ q) (Nat.le_refl _) (lc s.heap I.big)
 have h0:=h _ (I.hok.fresh (Nat.le_refl _))
 refine evalPairs_cons (thn (hk pins _ σ _ (λy H1=>y = .str x∧H1=upd H s.heap.objs.size (.dK [])) I0 ⟨rfl,rfl⟩) λkv s1 hpt=>?_)
 obtain ⟨y,H1,I1,ry,q1⟩:=hpt
 obtain ⟨rfl,rfl⟩:=q1
 refine wpAny_bind (thn (hv pins s1 σ _ _ I1 h0) λvv s2 ⟨v,H2,I2,rv,e2,q⟩=>wpAny_bind (wpAny_standAt (wpAny_pure (evalPairs_nil ?_))))
 obtain ⟨z,hd,vs,rel,dd⟩:=kQ I2.hok e2
 cases rel
 refine ⟨[(Sum.inr x,vv)],⟨eP (k:=Sum.inr x) ry,rfl,trivial⟩,dd,λh' dd' hs=>⟨.ref s.heap.objs.size,_,?_,rfl,q⟩⟩
 have he:∃ q,h'.get? s.heap.objs.size=some q:=let ⟨q,_,_,hq,_⟩:=dd'; ⟨q,hq⟩
 have hl:(cP ([]:List (Key×V)) (Sum.inr x) v).length≤sizeLine:=Nat.le_of_lt (aQ (show 1≤1000 by decide))
 exact eQ I2 (by rw [e2]; exact True.intro) hs he (gY hl hd (KV.put (kvs:=[]) (vs:=[]) .nil (Sum.inr x) rv) dd')
end
end L2
namespace TK
open PySem L2
theorem mv {l x:Str} {n:Int} {st:Option Int} (h:TxOk l) (e:aO l=some (n,x,st)):TxOk x:=by
 have oks:∀ p∈Txt.split l (ch 32),TxOk p:=λp hp=>h.split hp
 unfold aO at e
 generalize Txt.split l (ch 32)=ws at e oks
 match ws,e,oks with
 | [a,b],e,oks =>
  have e:(if Txt.endswith b (ch 47)=true then (aX a).map λn=>(n,StrLaws.sliceText b none (some (-1)),(none:Option Int)) else none)=some (n,x,st):=e
  split at e
  ·cases ha:aX a with
   | none=>rw [ha] at e; cases e
   | some k =>
    rw [ha] at e
    injection e with e
    injection e with _ e
    injection e with e _
    rw [← e]
    exact (oks b (by simp)).sl _ _
  ·cases e
 | [a,b,c],e,oks =>
  have e:(match aX a with | none=>none | some n=>(aX c).map λs=>(n,b,some s))=some (n,x,st):=e
  cases ha:aX a with
  | none=>rw [ha] at e; cases e
  | some k =>
   rw [ha] at e
   cases hc:aX c with
   | none=>rw [hc] at e; cases e
   | some k2 =>
    rw [hc] at e
    injection e with e
    injection e with _ e
    injection e with e _
    rw [← e]
    exact oks b (by simp)
section
variable {P:Program} {w:World} {K:PySem.W.Frag} {mg:Str→Option Value} {base:Heap}
noncomputable def sI (C:Addr):Sp:=λvs H Q E=>∃ l,∃ ls:List Str,vs=[.ref l]∧H l=some (.lst (ls.map V.str))∧ls.length≤50∧(∀ x∈ls,TxOk x) ∧
 (∀ p zs H',Same H H'→aY gn0 ls=some (nds zs)→H' p=some (.lst (aN zs))→At H' zs→Q (.ref p) H')∧(aY gn0 ls=none→∀ H',Same H H'→E (.ref C) none H')
theorem jr:FnScope ["lines","numbers","nodes","line","parts","place"] ["lines"] (ak eJ):=⟨rfl,rfl,rfl,by decide +kernel,rfl,by decide +kernel,by decide +kernel⟩
theorem wR {f C:Addr} {fd:FuncData} (F:Fun K "nodes_in" "nodes_in" eJ f fd) (T:Txt mg) (O:jm "NoText" mg base C) (CP:lW P w K mg base 2 "parts_in" ["line"] (sF C)):FnOk P w K mg base (CX1 P w) 3 f fd ["lines"] (sI C):=by
 obtain ⟨fP,fdP,GP,mP,kP,bP⟩:=CP
 obtain ⟨tt,hT⟩:=T.top
 refine F.okX jr (λvs H Q E h=>?_) (λcdv A outer s H vs Q E hr h=>?_)
 ·obtain ⟨v,ls,rfl,_⟩:=h
  rfl
 ·obtain ⟨l,ls,rfl,hl,hn,oks,qn,qe⟩:=h
  refine ⟨_,ah (ar (i:=1) jr.nd rfl (Or.inl rfl) (sH (x:="") aP (bg (v:=.int 0) rfl hT ⟨_,rfl⟩)))
   (ah (ar (i:=2) jr.nd rfl (Or.inl rfl) (bv ae))
   (ah (dA (yU cT) rfl (dg (pv 0)) (aH (i:=3) jr.nd rfl (Or.inl rfl))
    (ah (ar (i:=4) jr.nd rfl (Or.inl rfl) (am (E:=E) GP hr rfl mP kP bP .nil (jj cT) (aa (pv 3) ae)))
    (ah (ar (i:=5) jr.nd rfl (Or.inl rfl) (bZ PySem.F.plainAttrs_str PySem.F.slot_str_rpartition PySem.F.type_str_rpartition sf (aC aK (pv 4) ai (λ_ _=>rfl)) (aa aP ae)))
    (ah (bj (vC (pL (dB hr) (aC aK (pv 5) ai (λ_ _=>rfl)) (pv 1))) (aj (cU cT O hr.hd rfl (jp (cB (gM (pv 3) (cB fE)))))) aB)
    (ah (cp (bZ PySem.F.plainAttrs_list PySem.F.slot_list_append PySem.F.type_list_append bJ (pv 2) (aa (cz (aa (aC aK (pv 4) ai (λ_ _=>rfl)) (aa (cE (dB hr) (pv 1) (aC aK (pv 5) ai (λ_ _=>rfl)) (λ_ _=>rfl)) (aa (aC aK (pv 5) ai (λ_ _=>rfl)) (aa (aC aK (pv 4) ai (λ_ _=>rfl)) ae))))) ae)))
    (aj (tQ (dB hr) (pv 1) (aC aK (pv 4) ai (λ_ _=>rfl)) (aC aK (pv 4) ai (λ_ _=>rfl)) rfl)))))))
   (aj (aq (pv 2))))),?_⟩
  refine λd hd0=>⟨ac,Nat.zero_le _,λn hn0=>?_⟩
  have ed:upd (upd H d (.dK [])) d (.dK [(Sum.inr "",.int 0)])=upd H d (.dK [(Sum.inr "",.int 0)]):=by
   funext b
   by_cases hb:b=d
   ·rw [hb,ac,ac]
   ·rw [ag hb,ag hb,ag hb]
  rw [ed] at hn0 ⊢
  have hdn:d≠n:=λz=>by rw [← z,ac] at hn0; cases hn0
  have hnH:H n=none:=by rw [ag (Ne.symm hdn)] at hn0; exact hn0
  have keepS:∀ {H1:Hp} {o:HO},Same H H1→Same H (upd H1 d o):=λs b o' e=>by rw [ag (λz=>by rw [z,hd0] at e; cases e)]; exact s _ _ e
  have keepN:∀ {H1:Hp} {o:HO},Same H H1→Same H (upd H1 n o):=λs b o' e=>by rw [ag (λz=>by rw [z,hnH] at e; cases e)]; exact s _ _ e
  refine ⟨_,rfl,l,rfl,⟨_,SqL.of (keepN (keepS (Same.refl H)) _ _ hl)⟩,gR (xs:=ls.map V.str) (λi σ H'=>∃ x3 x4 x5 kvs,∃ zs:ZN,∃ g:Gn,σ=[some (.ref l),some (.ref d),some (.ref n),x3,x4,x5]∧Same H H'∧H' d=some (.dK kvs)∧H' n=some (.lst (aN zs))∧At H' zs∧(∀ z∈zs,z.1≠d∧z.1≠n)∧kvs.length≤i+1∧zs.length=i∧(∀ x:Str,br kvs (Sum.inr x:Key)=(g x).map V.int)∧aY gn0 ls=(aY g (ls.drop i)).map (nds zs ++ ·))
   ⟨_,_,_,[(Sum.inr "",.int 0)],[],gn0,rfl,keepN (keepS (Same.refl H)),by rw [ag hdn,ac],ac,(λz h=>nomatch h),(λz h=>nomatch h),by simp,rfl,λx=>?_,?_⟩ (λi σ H' _ h=>?_) (λi x σ H' hx h=>?_) (λσ H' h=>?_)⟩
  ·unfold gn0
   by_cases hx:x=Str.empty
   ·rw [if_pos hx,hx]; rfl
   ·rw [if_neg hx,aU (λz=>hx (by injection z with z; exact z.symm))]; rfl
  ·rw [List.drop_zero]
   cases aY gn0 ls <;> rfl
  ·obtain ⟨x3,x4,x5,kvs,zs,g,rfl,s3,_⟩:=h
   exact SqL.of (s3 _ _ hl)
  ·obtain ⟨x3,x4,x5,kvs,zs,g,rfl,s3,gd,gn,hA,hne,hk,hz,hv,hN⟩:=h
   obtain ⟨y,gy,rfl⟩:∃ y,ls[i]? = some y∧x=V.str y:=by
    rw [List.getElem?_map] at hx
    cases e:ls[i]? with
    | none=>rw [e] at hx; cases hx
    | some y=>rw [e] at hx; exact ⟨y,rfl,(Option.some.inj hx).symm⟩
   have oky:=oks y (List.mem_of_getElem? gy)
   have li:i<ls.length:=(List.getElem?_eq_some_iff.mp gy).1
   have ed:ls.drop i=y :: ls.drop (i+1):=by
    rw [List.drop_eq_getElem_cons li]
    congr 1
    exact (List.getElem?_eq_some_iff.mp gy).2
   rw [ed] at hN
   refine ⟨_,rfl,y,rfl,oky,λm x st ep p H1 s1 gp=>?_,λep H1 s1=>qe (by rw [hN]; show Option.map _ (match aO y with | none=>none | some (n,x,st)=>_)=_; rw [ep]; rfl) H1 (s3.trans s1)⟩
   have okx:=mv oky ep
   have hN:aY gn0 ls=Option.map (nds zs ++ ·) (match g (rp0 x) with | none=>none | some q=>(aY (ff g x m) (ls.drop (i+1))).map λr=>(⟨m,q,rp2 x,st⟩:Nd) :: r):=by
    rw [hN]
    show Option.map _ (match aO y with | none=>none | some (n,x,st)=>_)=_
    rw [ep] <;> rfl
   refine ⟨_,rfl,p,_,_,_,rfl,rfl,SqT.of gp,rfl,rfl,x,ch 47,rfl,rfl,rfl,by have:=okx.len; omega,λq hq=>?_⟩
   obtain ⟨md,er⟩:=so x
   rw [er]
   have s2:=af (o:=.tup ([rp0 x,md,rp2 x].map V.str)) hq
   have gq:upd H1 q (.tup ([rp0 x,md,rp2 x].map V.str)) q=some (.tup [.str (rp0 x),.str md,.str (rp2 x)]):=ac
   generalize upd H1 q (.tup ([rp0 x,md,rp2 x].map V.str))=H2 at s2 gq ⊢
   have gp2:=s2 _ _ gp
   have s12:=s1.trans s2
   have gd2:=s12 _ _ gd
   have gn2:=s12 _ _ gn
   refine ⟨_,rfl,q,_,_,_,rfl,rfl,SqT.of gq,rfl,_,rfl,d,_,rfl,.inl ⟨kvs,Sum.inr (rp0 x),.inl gd2,rfl,rfl⟩,_,rfl,?_⟩
   rw [hv]
   cases eg:g (rp0 x) with
   | none =>
    have rl:=oky.rep
    refine av ⟨?_,_,rfl,y,rfl,szl (by omega),?_,?_,?_,aI (show 1≤1000 by decide),qe (by rw [hN,eg]; rfl) H2 (s3.trans s12)⟩
    ·exact szl (by decide)
    ·rw [ap]; exact szl (by show 17+_≤_; omega)
    ·rw [ap,ap]; exact szl (by show 17+_+20≤_; omega)
    ·rw [ap,ap]; exact szl (by show 17+_+20≤_; omega)
   | some k =>
    refine aM ?_
    rw [eg] at hN
    refine ⟨_,rfl,.inl ⟨rfl,_,SqL.of gn2⟩,_,rfl,p,_,_,_,rfl,rfl,SqT.of gp2,rfl,_,rfl,_,rfl,q,_,_,_,rfl,rfl,SqT.of gq,rfl,d,.int k,rfl,.inl ⟨kvs,Sum.inr (rp0 x),.inl gd2,rfl,by rw [hv,eg]; rfl⟩,?_⟩
    refine ⟨_,rfl,q,_,_,_,rfl,rfl,SqT.of gq,rfl,_,rfl,p,_,_,_,rfl,rfl,SqT.of gp2,rfl,(show 4≤sizeLine from aI (by decide)),λc hc=>?_⟩
    have s4:=af (o:=.tup (vals ⟨m,k,rp2 x,st⟩)) hc
    have gc:upd H2 c (.tup (vals ⟨m,k,rp2 x,st⟩)) c=some (.tup (vals ⟨m,k,rp2 x,st⟩)):=ac
    have gp3:=s4 _ _ gp2
    have gd3:=s4 _ _ gd2
    have gn3:=s4 _ _ gn2
    have cn:c≠n:=λz=>by rw [z,gn2] at hc; cases hc
    have cd:c≠d:=λz=>by rw [z,gd2] at hc; cases hc
    have pn:p≠n:=λz=>by have:=z ▸ gp3; rw [gn3] at this; cases this
    have pd:p≠d:=λz=>by have:=z ▸ gp3; rw [gd3] at this; cases this
    have A3:=hA.same (s12.trans s4)
    refine ⟨n,_,_,rfl,rfl,gn3,aQ (by rw [aL]; omega),_,rfl,p,_,_,_,rfl,rfl,SqT.of (by rw [ag pn]; exact gp3),rfl,_,rfl,_,rfl,p,_,_,_,rfl,rfl,SqT.of (by rw [ag pn]; exact gp3),rfl,d,_,rfl,.inl ⟨kvs,Sum.inr x,by rw [ag hdn]; exact gd3,rfl,aQ (by omega),rfl⟩,?_⟩
    refine ⟨_,_,_,cP kvs (Sum.inr x) (.int m),zs++[(c,⟨m,k,rp2 x,st⟩)],ff g x m,rfl,keepS (keepN (s3.trans (s12.trans s4))),ac,?_,λz hz'=>?_,λz hz'=>?_,?_,by rw [List.length_append,hz]; rfl,λy'=>?_,?_⟩
    ·rw [ag (Ne.symm hdn),ac]; unfold aN; rw [List.map_append,List.map_append]; rfl
    ·rcases List.mem_append.mp hz' with hz' | hz'
     ·rw [ag (hne z hz').1,ag (hne z hz').2]; exact A3 z hz'
     ·have:z=(c,⟨m,k,rp2 x,st⟩):=List.mem_singleton.mp hz'
      rw [this,ag cd,ag cn]; exact gc
    ·rcases List.mem_append.mp hz' with hz' | hz'
     ·exact hne z hz'
     ·have:z=(c,⟨m,k,rp2 x,st⟩):=List.mem_singleton.mp hz'
      rw [this]; exact ⟨cd,cn⟩
    ·unfold cP
     split
     ·rw [List.length_map]; omega
     ·rw [List.length_append]; simp; omega
    ·rw [kJ,hv]
     unfold ff
     by_cases hy:y'=x
     ·rw [if_pos (by rw [hy]),if_pos hy]; rfl
     ·rw [if_neg (λz=>hy (by injection z)),if_neg hy]
    ·rw [hN]
     show Option.map _ (Option.map _ (aY (ff g x m) (ls.drop (i+1))))=_
     rw [Option.map_map]
     congr 1
     funext r
     show nds zs++_ :: r=nds (zs++[_])++r
     unfold nds
     rw [List.map_append,List.append_assoc]
     rfl
  ·obtain ⟨x3,x4,x5,kvs,zs,g,rfl,s3,gd,gn,hA,hne,hk,hz,hv,hN⟩:=h
   rw [List.length_map,List.drop_length] at hN
   exact ⟨_,rfl,qn n zs H' s3 (by rw [hN]; show some (nds zs++[])=_; rw [List.append_nil]) gn hA⟩
end
end TK
namespace TW
section
variable {S:Type} [DecidableEq S]
end
section
variable {S:Type} {ns:List (Nd S)}
variable [DecidableEq S]
end
end TW
namespace TK
open PySem L2
section
variable {P:Program} {w:World} {K:PySem.W.Frag} {mg:Str→Option Value} {base:Heap}
noncomputable def oV:Sp:=λvs H Q _=>∃ t zs,vs=[.ref t]∧H t=some (.tup (aN zs))∧At H zs∧zs.length≤100∧((nds zs).map (·.num)).Nodup∧∀ d H',Same H H'→nJ H' d zs→Q (.ref d) H'
theorem yf:FnScope ["tree"] ["tree"] (ak wH):=⟨rfl,rfl,rfl,by decide +kernel,rfl,by decide +kernel,by decide +kernel⟩
theorem wS {f:Addr} {fd:FuncData} (F:Fun K "by_number" "by_number" wH f fd) (T:Txt mg):FnOk P w K mg base CX0 1 f fd ["tree"] oV:=by
 refine F.ok yf (λvs H Q E h=>?_) (λcdv A outer s H vs Q E hr h=>?_)
 ·obtain ⟨t,zs,rfl,_⟩:=h
  rfl
 ·obtain ⟨t,zs,rfl,ht,hA,hl,hnd,k⟩:=h
  refine ⟨_,aj (aq (bo (nE rfl) rfl T.dict PyProof.Rows.boot_dict (aa (cF (N:=["node"]) (k:=1) (js:=[]) (g:=bp 0) rfl (cM rfl (by decide +kernel) (by decide +kernel) (by decide +kernel)) rfl (λi j x h=>by simp at h)
   (dZ (pv 0)) (λs H fp=>aH (i:=0) (show (["node"]:List Str).Nodup by decide +kernel) rfl (Or.inl rfl) (Or.inr rfl))
   (λs H fp=>cz (aa (aC (r:=iG K) aK (pv 0) ai (λ_ _=>rfl)) (aa (pv 0) ae)))) ae))),?_⟩
  refine ⟨_,rfl,t,rfl,⟨_,SqT.of ht⟩,λp hp=>?_⟩
  refine jN (fr:=[]) zs.length (by omega) hp rfl (λi y H'=>∃ q z,zs[i]? = some z∧y = .ref q∧q≠p∧H' q=some (.tup [.int z.2.num,.ref z.1])) (λi y H1 H2 h ex=>?_) (λi H' hi s1=>?_) (λH' s1=>?_) ?_ (λi H' x H2 hi s1 hpl hy=>?_) (λys H' s1 hp' hlen hys=>?_)
  ·obtain ⟨q,z,e1,e2,e3,e4⟩:=h
   exact ⟨q,z,e1,e2,e3,ex q _ e3 e4⟩
  ·exact ⟨_,_,SqT.of (s1 _ _ ht),cX (List.getElem?_eq_getElem hi)⟩
  ·exact ⟨_,SqT.of (s1 _ _ ht),by rw [aL]; exact Nat.le_refl _⟩
  ·rintro _ _ _ _ m ⟨v1,b1,p1,xs,i1,v2,c1,c2,c3,c4,v3,b3,hz,q⟩
   exact ⟨v1,b1,p1,xs,i1,v2,c1,c2,c3,c4,v3,b3,hz,λl hl=>m _ _ (q l hl)⟩
  ·obtain ⟨rfl,hx⟩:=hy
   obtain ⟨z,gz,rfl⟩:=bu (hx _ (SqT.of (s1 _ _ ht)))
   have mz:=List.mem_of_getElem? gz
   refine ⟨rfl,_,rfl,z.1,_,_,_,rfl,rfl,SqT.of (s1 _ _ (hA z mz)),at0 z.2,_,rfl,le2,λq hq=>⟨af hq,q,z,gz,rfl,fA hpl hq,ac⟩⟩
  ·obtain ⟨as,e1,e2,e3⟩:=uB (g:=λz=>[.int z.2.num,.ref z.1]) hlen hys
   have e4:as.length=zs.length:=by rw [← e1,List.length_map]
   have e5:(as.map λa=>((Sum.inl a.2.2.num:Key),V.ref a.2.1))=dm zs:=by rw [← e1]; unfold dm; rw [List.map_map]; rfl
   refine ⟨p,as.map λa=>(a.1,(Sum.inl a.2.2.num:Key),V.ref a.2.1),rfl,?_,?_,?_,?_,λd o hd=>?_⟩
   ·rw [hp',e2,List.map_map,List.map_map,List.map_map]; rfl
   ·intro z hz
    obtain ⟨a,ha,rfl⟩:=List.mem_map.mp hz
    exact (e3 a ha).2
   ·rw [List.length_map]; omega
   ·rw [List.map_map]
    have:(as.map ((λx:Addr×Key×V=>x.2.1) ∘ λa=>(a.1,(Sum.inl a.2.2.num:Key),V.ref a.2.1)))=((nds zs).map (·.num)).map (Sum.inl:Int→Key):=by
     rw [← e1]; unfold nds; simp only [List.map_map]; rfl
    rw [this]
    unfold List.Nodup at hnd ⊢
    rw [List.pairwise_map]
    exact hnd.imp λh e=>h (by injection e)
   ·refine k d _ (s1.trans (af hd)) ⟨o,?_⟩
    rw [ac,List.map_map]
    exact congrArg (λx=>some (HO.frz o (.dK x))) e5
noncomputable def sJ:Sp:=λvs H Q _=>∃ d k zs p,vs=[.ref d,.int k]∧nJ H d zs∧At H zs∧TW.Tree1 (nds zs)∧zs.length≤100∧TW.PathTo (nds zs) k p∧∀ t H',Same H H'→H' t=some (.tup (p.map V.str))→Q (.ref t) H'
theorem oW:FnScope ["nodes","number","names","at"] ["nodes","number"] (ak wI):=⟨rfl,rfl,rfl,by decide +kernel,rfl,by decide +kernel,by decide +kernel⟩
theorem wT {f:Addr} {fd:FuncData} (F:Fun K "path_up" "path_up" wI f fd) (T:Txt mg):FnOk P w K mg base CX0 1 f fd ["nodes","number"] sJ:=by
 obtain ⟨tt,hT⟩:=T.top
 refine F.ok oW (λvs H Q E h=>?_) (λcdv A outer s H vs Q E hr h=>?_)
 ·obtain ⟨d,k,zs,p,rfl,_⟩:=h
  rfl
 ·obtain ⟨d,k,zs,p,rfl,hd,hA,hTr,hl,hp,q⟩:=h
  have hnd:=dq hTr
  have hpl:p.length≤100:=by have:=hp.len hTr; rw [aW] at this; omega
  refine ⟨_,ah (ar (i:=2) oW.nd rfl (Or.inl rfl) (bv ae)) (ah (ar (i:=3) oW.nd rfl (Or.inl rfl) (pv 1))
   (ah (gQ PassesOwn.never (aE gf (pv 3) (bg (v:=.int 0) rfl hT ⟨_,rfl⟩) (aG _))
    (ah (cp (bZ PySem.F.plainAttrs_list PySem.F.slot_list_append PySem.F.type_list_append bJ (pv 2) (aa (aC aK (cE (dB hr) (pv 0) (pv 3) (λ_ _=>rfl)) ai (λ_ _=>rfl)) ae)))
    (aj (ar (i:=3) oW.nd rfl (Or.inl rfl) (aC aK (cE (dB hr) (pv 0) (pv 3) (λ_ _=>rfl)) ai (λ_ _=>rfl))))))
   (aj (aq (qj rfl rfl T.tuple rfl T.reversed (pv 2)))))),?_⟩
  refine ⟨Nat.zero_le _,λpn hpn=>⟨_,rfl,?_⟩⟩
  dsimp only [bp,tG]
  refine gS (λσ H'=>∃ at' q' r,σ=[some (.ref d),some (.int k),some (.ref pn),some (.int at')]∧TW.PathTo (nds zs) at' q'∧p=q'++r∧H' pn=some (.lst (r.reverse.map V.str))∧Same H H')
   (λσ H'=>p.length - fb H' pn) ⟨k,p,[],rfl,hp,by simp,ac,af hpn⟩ (λσ H' h=>?_) ?_
  ·obtain ⟨at',q',r,rfl,hq',ep,en,s1⟩:=h
   refine ⟨_,rfl,rfl,_,rfl,?_⟩
   by_cases h0:at'=0
   ·subst h0
    have e0:q'=[]:=hq'.zero hTr rfl
    subst e0
    refine aM ⟨_,rfl,pn,_,rfl,en,λt ht=>q t _ (s1.trans (af ht)) ?_⟩
    rw [ac,ep,List.nil_append,← List.map_reverse,List.reverse_reverse]
   ·have hne:decide (V.int at'=V.int 0)=false:=by simp [h0]
    rw [hne]
    refine av ?_
    obtain ⟨z,hz,e1,q'',e2,hq''⟩:=oO hTr hq' h0
    subst e1
    have hdz:=(hd.same s1).get hnd hz
    have hat:=s1 _ _ (hA z hz)
    have hrl:r.length<100:=by
     have:=congrArg List.length ep
     rw [e2] at this
     simp at this
     omega
    refine ⟨_,rfl,.inl ⟨rfl,_,SqL.of en⟩,_,rfl,_,rfl,d,_,rfl,hdz,z.1,_,_,_,rfl,rfl,SqT.of hat,at2 z.2,pn,_,_,rfl,rfl,en,aQ (by rw [List.length_map,List.length_reverse]; omega),?_⟩
    have hpnd:pn≠d:=λe=>by
     obtain ⟨o,e'⟩:=hd.same s1
     rw [← e,en] at e'
     cases e'
    have hpnz:z.1≠pn:=λe=>by rw [e,en] at hat; cases hat
    have s2:Same H (upd H' pn (.lst (r.reverse.map V.str++[.str z.2.nm]))):=ay hpn s1
    refine ⟨_,rfl,_,rfl,d,_,rfl,(hd.same s2).get hnd hz,z.1,_,_,_,rfl,rfl,SqT.of (s2 _ _ (hA z hz)),at1 z.2,?_⟩
    refine ⟨⟨z.2.par,q'',z.2.nm :: r,rfl,hq'',by rw [ep,e2]; simp,by rw [ac]; simp,s2⟩,?_⟩
    show p.length - fb _ pn<p.length - fb H' pn
    rw [cY ac,cY en,ep,e2]
    simp
    omega
  ·rintro σ H1 Q1 Q2 m ⟨v,e,h2,b,e3,q⟩
   exact ⟨v,e,h2,b,e3,m _ _ q⟩
theorem sK {A:Around} {k:Nat} (hr:Room k A):A.units+8<cLine:=Nat.lt_of_le_of_lt (Nat.add_le_add_left (by decide:8≤64) _) hr.units
structure Wl (H:Hp) (zs:ZN) (cs:List Cp):Prop where
 at':∀ c∈cs,rS H c
 up:cs.Pairwise (λa b=>HT.bA a.p b.p=true)
 mem:∀ p n,(∃ c∈cs,c.p=p∧c.n=n)↔∃ z∈zs,z.2.num=n∧TW.PathTo (nds zs) n p
structure Cps (H:Hp) (zs:ZN) (cs:List Cp):Prop where
 at':∀ c∈cs,rS H c
 nums:cs.map (·.n)=(nds zs).map (·.num)
 path:∀ c∈cs,TW.PathTo (nds zs) c.n c.p
theorem sL {H:Hp} {p:Addr} {zs:ZN} {ys:List V} (hlen:ys.length=zs.length) (h:∀ (i:Nat) y,ys[i]? = some y→∃ q t z pa,zs[i]? = some z∧y = .ref q∧q≠p∧t≠p∧H q=some (.tup [.ref t,.int z.2.num])∧H t=some (.tup (pa.map V.str))∧TW.PathTo (nds zs) z.2.num pa) :
  ∃ cs:List Cp,ys=cs.map (λc=>V.ref c.a)∧Cps H zs cs∧∀ c∈cs,c.a≠p∧c.t≠p:=by
 have main:∀ (ys:List V) (xs:ZN),ys.length=xs.length→(∀ (i:Nat) y,ys[i]? = some y→∃ q t z pa,xs[i]? = some z∧y = .ref q∧q≠p∧t≠p∧H q=some (.tup [.ref t,.int z.2.num])∧H t=some (.tup (pa.map V.str))∧TW.PathTo (nds zs) z.2.num pa) →
   ∃ cs:List Cp,ys=cs.map (λc=>V.ref c.a)∧(∀ c∈cs,rS H c∧TW.PathTo (nds zs) c.n c.p∧c.a≠p∧c.t≠p)∧cs.map (·.n)=(nds xs).map (·.num):=by
  intro ys
  induction ys with
  | nil =>
   intro xs hl _
   have:xs=[]:=List.length_eq_zero_iff.mp hl.symm
   subst this
   exact ⟨[],rfl,by simp,rfl⟩
  | cons y ys ih =>
   intro xs hl h
   cases xs with
   | nil=>simp at hl
   | cons x xs =>
    obtain ⟨cs,e1,e2,e3⟩:=ih xs (by simpa using hl) λi y hy=>by simpa using h (i+1) y (by simpa using hy)
    obtain ⟨q,t,z,pa,f1,f2,f3,f4,f5,f6,f7⟩:=h 0 y rfl
    have:x=z:=by simpa using f1
    subst this
    refine ⟨⟨q,t,pa,x.2.num⟩ :: cs,by simp [e1,f2],λc hc=>?_,by simp [nds] at e3 ⊢; exact e3⟩
    rcases List.mem_cons.mp hc with rfl | hc
    ·exact ⟨⟨f5,f6⟩,f7,f3,f4⟩
    ·exact e2 c hc
 obtain ⟨cs,e1,e2,e3⟩:=main ys zs hlen h
 exact ⟨cs,e1,⟨λc hc=>(e2 c hc).1,e3,λc hc=>(e2 c hc).2.1⟩,λc hc=>(e2 c hc).2.2⟩
theorem Cps.paths_nd {H:Hp} {zs:ZN} {cs:List Cp} (h:Cps H zs cs) (T:TW.Tree1 (nds zs)):(cs.map (·.p)).Nodup:=by
 have hn:(cs.map (·.n)).Nodup:=by rw [h.nums]; exact dq T
 unfold List.Nodup at hn ⊢
 rw [List.pairwise_map] at hn ⊢
 have hp:=h.path
 clear h
 induction cs with
 | nil=>exact .nil
 | cons c cs ih =>
  rw [List.pairwise_cons] at hn ⊢
  refine ⟨λd hd e=>hn.1 d hd ?_,ih hn.2 λx hx=>hp x (by simp [hx])⟩
  have h1:=hp c (by simp)
  have h2:=hp d (by simp [hd])
  rw [← e] at h2
  exact h1.key T h2
theorem Cps.wl {H:Hp} {zs:ZN} {cs cs':List Cp} (h:Cps H zs cs) (T:TW.Tree1 (nds zs)) (hp:cs'.Perm cs) (hs:cs'.Pairwise (λa b=>HT.bA a.p b.p=true)):Wl H zs cs':=by
 refine ⟨λc hc=>h.at' c (hp.mem_iff.mp hc),hs,λp n=>?_⟩
 constructor
 ·rintro ⟨c,hc,rfl,rfl⟩
  have hc':=hp.mem_iff.mp hc
  have:c.n∈(nds zs).map (·.num):=by rw [← h.nums]; exact List.mem_map.mpr ⟨c,hc',rfl⟩
  obtain ⟨n,hn,e⟩:=List.mem_map.mp this
  obtain ⟨z,hz,rfl⟩:=List.mem_map.mp hn
  exact ⟨z,hz,e,h.path c hc'⟩
 ·rintro ⟨z,hz,rfl,hpa⟩
  have:z.2.num∈cs.map (·.n):=by rw [h.nums]; exact List.mem_map.mpr ⟨z.2,List.mem_map.mpr ⟨z,hz,rfl⟩,rfl⟩
  obtain ⟨c,hc,e⟩:=List.mem_map.mp this
  refine ⟨c,hp.mem_iff.mpr hc,?_,e⟩
  have:=h.path c hc
  rw [e] at this
  exact this.uniq T hpa
noncomputable def sM:Sp:=λvs H Q _=>∃ t zs,vs=[.ref t]∧Tre H t zs∧∀ cs l H',Same H H'→Wl H' zs cs→cs.length=zs.length→H' l=some (.lst (cs.map λc=>V.ref c.a))→Q (.ref l) H'
theorem vo:FnScope ["tree","nodes"] ["tree"] (ak uK):=⟨rfl,rfl,rfl,by decide +kernel,rfl,by decide +kernel,by decide +kernel⟩
theorem wU {f:Addr} {fd:FuncData} (F:Fun K "walked" "walked" uK f fd) (T:Txt mg) (CB:Has P w K mg base 1 "by_number" ["tree"] oV) (CU:Has P w K mg base 1 "path_up" ["nodes","number"] sJ) :
  FnOk P w K mg base CX0 2 f fd ["tree"] sM:=by
 obtain ⟨fB,fdB,GB,mB,kB,bB⟩:=CB
 obtain ⟨fU,fdU,GU,mU,kU,bU⟩:=CU
 refine F.ok vo (λvs H Q E h=>?_) (λcdv A outer s H vs Q E hr h=>?_)
 ·obtain ⟨t,zs,rfl,_⟩:=h
  rfl
 ·obtain ⟨t,zs,rfl,tr,k⟩:=h
  have hnd:=dq tr.tr
  have hl:=tr.len
  refine ⟨_,ah (ar (i:=1) vo.nd rfl (Or.inr rfl) (am GB hr rfl mB kB bB .nil aV (aa (pv 0) ae)))
   (aj (aq (al (dw (sK hr)) rfl T.sorted PyProof.Rows.boot_sorted (aa (cF (N:=["number","nodes"]) (cl:=[("nodes",s.heap.objs.size+1)]) (k:=1) (js:=[1]) (g:=bp 0) rfl
     (LcOk.mk' ["nodes"] rfl rfl (by decide +kernel) (by decide +kernel) ?hcl rfl (by decide +kernel)) rfl ?hj
    (vi (pv 1)) (λs H fp=>aH (i:=0) (show (["number","nodes"]:List Str).Nodup by decide +kernel) rfl (Or.inl rfl) (Or.inr rfl))
    (λs H fp=>cz (aa (am (X:=cK _ _ _ _ _ _ _) GU hr rfl mU kU bU .nil aV (aa (pv 1) (aa (pv 0) ae))) (aa (pv 0) ae)))) ae)))),?_⟩
  case hcl =>
   intro y hy
   rcases List.mem_cons.mp hy with e | hy
   ·rw [e]; rfl
   ·cases hy
  case hj =>
   intro i j x h1 h2
   match i,h1,h2 with
   | 0,h1,h2 =>
    cases h1
    cases h2
    exact ⟨rfl,Or.inr (Or.inl rfl),(show ((ak uK).names.lookup ("nodes":Str)≠some NameKind.local) by decide +kernel),by first | exact Or.inl rfl | exact Or.inr rfl⟩
   | i+1,h1,h2=>simp at h1
  refine ⟨_,rfl,t,zs,rfl,tr.tup,tr.nod,by omega,hnd,λd H1 s1 nd1=>?_⟩
  obtain ⟨o,ho⟩:=id nd1
  have tr1:=tr.same s1
  refine ⟨_,rfl,d,o,_,rfl,ho,λp hp=>?_⟩
  refine jN (fr:=[some (.ref d)]) zs.length (by omega) hp rfl (λi y H'=>∃ q t z pa,zs[i]? = some z∧y = .ref q∧q≠p∧t≠p∧H' q=some (.tup [.ref t,.int z.2.num])∧H' t=some (.tup (pa.map V.str))∧TW.PathTo (nds zs) z.2.num pa) (λi y H1 H2 h ex=>?_) (λi H' hi s2=>?_) (λH' s2=>?_) ?_ (λi H' x H2 hi s2 hpl hy=>?_) (λys H' s2 hp' hlen hys=>?_)
  ·obtain ⟨q,t,z,pa,e1,e2,e3,e4,e5,e6,e7⟩:=h
   exact ⟨q,t,z,pa,e1,e2,e3,e4,ex q _ e3 e5,ex t _ e4 e6,e7⟩
  ·exact ⟨s2 _ _ ho,by simpa [dm] using hi⟩
  ·exact ⟨s2 _ _ ho,by simp [dm]⟩
  ·rintro _ _ _ _ m ⟨v1,b1,v2,b2,d',k',zs',pa,c1,c2,c3,c4,c5,c6,q⟩
   refine ⟨v1,b1,v2,b2,d',k',zs',pa,c1,c2,c3,c4,c5,c6,λt' H' st ht=>?_⟩
   obtain ⟨v3,b3,hz,q'⟩:=q t' H' st ht
   exact ⟨v3,b3,hz,λl hl=>m _ _ (q' l hl)⟩
  ·obtain ⟨rfl,hx⟩:=hy
   have gz:zs[i]? = some zs[i]:=List.getElem?_eq_getElem hi
   have ex:x = .int zs[i].2.num:=by
    unfold dm at hx
    rw [List.getElem?_map,List.getElem?_map,gz] at hx
    exact (Option.some.inj hx).symm
   subst ex
   have mz:=List.mem_of_getElem? gz
   generalize zs[i]=z at gz mz ⊢
   obtain ⟨pa,hpa⟩:=TW.PathTo.ex tr.tr (List.mem_map.mpr ⟨z,mz,rfl⟩:z.2∈nds zs)
   have s12:=s1.trans s2
   refine ⟨rfl,_,rfl,_,rfl,d,_,zs,pa,rfl,nd1.same s2,tr.nod.same s12,tr.tr,by omega,hpa,λt' H4 s4 ht'=>?_⟩
   have hpl4:∃ ys,H4 p=some (.lst ys):=let ⟨ys,e⟩:=hpl; ⟨ys,s4 _ _ e⟩
   have htp:t'≠p:=λe=>by obtain ⟨ys,e'⟩:=hpl4; rw [← e,ht'] at e'; cases e'
   refine ⟨_,rfl,le2,λq hq=>⟨s4.trans (af hq),q,t',z,pa,gz,rfl,fA hpl4 hq,htp,ac,bt hq ht',hpa⟩⟩
  ·obtain ⟨cs,e1,e2,e3⟩:=sL (p:=p) hlen hys
   subst e1
   have hcl:cs.length=zs.length:=by rw [← hlen,List.length_map]
   refine ⟨p,cs,rfl,hp',e2.at',e2.paths_nd tr.tr,by omega,λcs' hpm hup q hq=>?_⟩
   have s3:=af (o:=.lst (cs'.map λc=>V.ref c.a)) hq
   have wl:=e2.wl tr.tr hpm hup
   refine k cs' q _ ((s1.trans s2).trans s3) ⟨λc hc=>?_,wl.up,wl.mem⟩ (hpm.length_eq.trans hcl) ac
   obtain ⟨g1,g2⟩:=wl.at' c hc
   exact ⟨s3 _ _ g1,s3 _ _ g2⟩
end
structure Pq where
 a:Addr
 t:Addr
 p:List Str
 z:Addr×Nd
noncomputable def yg (H:Hp) (x:Pq):Prop:=H x.a=some (.tup [.ref x.t,.ref x.z.1])∧H x.t=some (.tup (x.p.map V.str))
noncomputable def wtQ (xs:List Pq):List Wt:=xs.map λx=>(x.p,x.z.2)
section
variable {P:Program} {w:World} {K:PySem.W.Frag} {mg:Str→Option Value} {base:Heap}
noncomputable def wV:Sp:=λvs H Q _=>∃ t zs,vs=[.ref t]∧Tre H t zs∧∀ (xs:List Pq) (l:Addr) (H':Hp),Same H H'→(∀ x∈xs,yg H' x∧x.z∈zs)→Wk (nds zs) (wtQ xs)→xs.length≤60→H' l=some (.lst (xs.map λx=>V.ref x.a))→Q (.ref l) H'
theorem yh:FnScope ["tree","nodes"] ["tree"] (ak bV):=⟨rfl,rfl,rfl,by decide +kernel,rfl,by decide +kernel,by decide +kernel⟩
theorem yi {f:Addr} {fd:FuncData} (F:Fun K "walked_nodes" "walked_nodes" bV f fd) (CB:Has P w K mg base 1 "by_number" ["tree"] oV) (CW:Has P w K mg base 2 "walked" ["tree"] sM):FnOk P w K mg base CX0 3 f fd ["tree"] wV:=by
 obtain ⟨fB,fdB,GB,mB,kB,bB⟩:=CB
 obtain ⟨fW,fdW,GW,mW,kW,bW⟩:=CW
 refine F.ok yh (λvs H Q E h=>?_) (λcdv A outer s H vs Q E hr h=>?_)
 ·obtain ⟨t,zs,rfl,_⟩:=h
  rfl
 ·obtain ⟨t,zs,rfl,tr,q⟩:=h
  have hr1:Room 1 _:=hr.mono (by decide)
  refine ⟨_,ah (ar (i:=1) yh.nd rfl (Or.inr rfl) (am GB hr1 rfl mB kB bB .nil aV (aa (pv 0) ae)))
   (aj (aq (cF (N:=["path","number","nodes"]) (cl:=[("nodes",s.heap.objs.size+1)]) (k:=2) (js:=[1]) (g:=qF K 2 (eL (bp 0) (eL (bp 1) qE))) rfl
    (LcOk.mk' ["nodes"] rfl rfl (by decide +kernel) (by decide +kernel) ?hcl rfl (by decide +kernel)) rfl ?hj
    (dg (am GW hr rfl mW kW bW .nil aV (aa (pv 0) ae)))
    (λs H fp=>jx (n:=2) rfl (cf (aH (i:=0) (show (["path","number","nodes"]:List Str).Nodup by decide +kernel) rfl (Or.inl rfl) (Or.inr rfl)) (cf (aH (i:=1) (show (["path","number","nodes"]:List Str).Nodup by decide +kernel) rfl (Or.inl rfl) (Or.inr rfl)) gI)))
    (λs H fp=>cz (aa (pv 0) (aa (cE (dB hr) (pv 2) (pv 1) (λ_ _=>rfl)) ae)))))),?_⟩
  case hcl =>
   intro y hy
   rcases List.mem_cons.mp hy with e | hy
   ·rw [e]; rfl
   ·cases hy
  case hj =>
   intro i j x h1 h2
   match i,h1,h2 with
   | 0,h1,h2 =>
    cases h1
    cases h2
    exact ⟨rfl,Or.inr (Or.inl rfl),(show ((ak bV).names.lookup ("nodes":Str)≠some NameKind.local) by decide +kernel),by first | exact Or.inl rfl | exact Or.inr rfl⟩
   | i+1,h1,h2=>simp at h1
  have hl:=tr.len
  have hnd:=dq tr.tr
  refine ⟨_,rfl,t,zs,rfl,tr.tup,tr.nod,by omega,hnd,λd H1 s1 nd1=>?_⟩
  have tr1:=tr.same s1
  refine ⟨_,rfl,t,zs,rfl,tr1,λcs l H2 s2 wl hcl0 hl2=>?_⟩
  have nd2:=nd1.same s2
  have hcl:cs.length≤60:=by omega
  refine ⟨l,rfl,⟨_,SqL.of hl2⟩,λp hp=>?_⟩
  refine lX (fr:=[some (.ref d)]) cs (λc=>V.ref c.a) (by omega) hp (jO (SqL.of hl2)) ⟨[none,none],rfl,rfl⟩ (λc y H'=>∃ q z,y = .ref q∧q≠p∧z∈zs∧z.2.num=c.n∧H' q=some (.tup [.ref c.t,.ref z.1])) (λc y H H' h ex=>?_) (λc σ0 H' kk hσ mc s3 hpl hk=>?_) (λys H' s3 hp' hys=>?_)
  ·obtain ⟨q,z,e1,ne,h1,h2,h3⟩:=h
   exact ⟨q,z,e1,ne,h1,h2,ex q _ ne h3⟩
  ·obtain ⟨x0,x1,rfl⟩:=nH hσ
   obtain ⟨h1,h2⟩:=wl.at' c mc
   obtain ⟨z,hz,ez,_⟩:=(wl.mem c.p c.n).mp ⟨c,mc,rfl,rfl⟩
   refine ⟨c.a,_,rfl,SqT.of (s3 _ _ h1),rfl,_,_,rfl,_,_,rfl,rfl,?_⟩
   have hg:=(nd2.same s3).get hnd hz
   rw [ez] at hg
   refine ⟨_,rfl,_,rfl,_,rfl,d,_,rfl,hg,le2,λq hq=>?_⟩
   exact hk _ _ _ ⟨[some (.ref c.t),some (.int c.n)],rfl,rfl⟩ (af hq) ⟨q,z,rfl,fA hpl hq,hz,ez,ac⟩
  ·obtain ⟨bs,e1,e2,e3⟩:=qo (val:=λx:Pq=>V.ref x.a) (S:=λ(c:Cp) (x:Pq)=>yg H' x∧x.z∈zs∧x.z.2.num=c.n∧x.p=c.p) hys (λc y mc ⟨q,z,e,_,hz,ez,h⟩=>⟨⟨q,c.t,c.p,z⟩,e,⟨h,s3 _ _ (wl.at' c mc).2⟩,hz,ez,rfl⟩)
   have eb:∀ b∈bs,b.2.z.2.num=b.1.n∧b.2.p=b.1.p:=λb hb=>⟨(e3 b hb).2.2.1,(e3 b hb).2.2.2⟩
   refine q (bs.map (·.2)) p H' ((s1.trans s2).trans s3) (λx hx=>?_) ⟨?_,λp n=>?_⟩ (by rw [List.length_map]; have:=congrArg List.length e1; rw [List.length_map] at this; omega) (by rw [hp',e2,List.map_map]; rfl)
   ·obtain ⟨b,hb,rfl⟩:=List.mem_map.mp hx
    exact ⟨(e3 b hb).1,(e3 b hb).2.1⟩
   ·unfold wtQ
    rw [List.map_map,List.pairwise_map]
    have:=wl.up
    rw [← e1,List.pairwise_map] at this
    exact List.Pairwise.imp_of_mem (λ{a b} ha hb h=>by show HT.bA a.2.p b.2.p=true; rw [(eb a ha).2,(eb b hb).2]; exact h) this
   ·unfold wtQ
    rw [List.map_map,List.mem_map]
    constructor
    ·rintro ⟨b,hb,e⟩
     injection e with ea eb'
     have ec:b.1∈cs:=by rw [← e1]; exact List.mem_map.mpr ⟨b,hb,rfl⟩
     obtain ⟨z,hz,ez,hpt⟩:=(wl.mem b.1.p b.1.n).mp ⟨b.1,ec,rfl,rfl⟩
     have h1:=(e3 b hb).2.1
     refine ⟨by rw [← eb']; exact bQ h1,?_⟩
     rw [← ea,← eb',(eb b hb).1,(eb b hb).2]
     exact hpt
    ·rintro ⟨hn,hpt⟩
     obtain ⟨z,hz,rfl⟩:=ir hn
     obtain ⟨c,hc,ep,en⟩:=(wl.mem p z.2.num).mpr ⟨z,hz,rfl,hpt⟩
     rw [← e1] at hc
     obtain ⟨b,hb,rfl⟩:=List.mem_map.mp hc
     refine ⟨b,hb,?_⟩
     have h2:=tr.tr.inj (bQ (e3 b hb).2.1) (bQ hz) ((eb b hb).1.trans en)
     show (b.2.p,b.2.z.2)=(p,z.2)
     rw [(eb b hb).2,ep,h2]
end
structure NodG (n:Nd):Prop extends NodR n where
 short:n.nm.length≤5
noncomputable def mw:List Str→Str
 | []=>Str.empty
 | x :: r=>x++mw r
theorem vp:∀ l:List Str,Txt.join Str.empty l=mw l:=by
 have key:∀ l:List Str,Str.join Str.empty l=mw l:=by
  intro l
  induction l with
  | nil=>rfl
  | cons x r ih =>
   cases r with
   | nil=>show x=x++Str.empty; rw [Str.append_empty]
   | cons y r=>show x++Str.empty++Str.join Str.empty (y :: r)=x++mw (y :: r); rw [ih,Str.append_empty]
 intro l
 show Builtin.Str.glued _ _=_
 rw [StrLaws.glued_eq_join]
 exact key l
theorem sN {k:Nat}:∀ l:List Str,(∀ x∈l,x.length≤k)→(l.map (·.length)).sum≤k * l.length
 | [],_=>Nat.zero_le _
 | x :: r,h=>by
  have:=sN r λy hy=>h y (List.mem_cons_of_mem _ hy)
  have:=h x List.mem_cons_self
  rw [List.map_cons,List.sum_cons,List.length_cons,Nat.mul_add]
  omega
theorem jt {l:List Str} {k:Nat} (h:∀ x∈l,x.length≤k) (hl:k * l.length≤100000):JoinOk Str.empty l=true:=by
 refine PyProof.Rows.joinOk_of ?_
 have:=sN l h
 show _+l.length * 0≤_
 omega
theorem my:∀ p:List Str,mw (p.map λx=>ch 47++x)=plc p
 | []=>rfl
 | x :: r=>by show ch 47++x++mw (r.map _)=ch 47++x++plc r; rw [my r]
theorem mD:∀ ws:List Wt,mw (ws.map λw=>lnT w++ch 10)=txt ws
 | []=>rfl
 | w :: r=>by show lnT w++ch 10++mw (r.map _)=lnT w++ch 10++txt r; rw [mD r]
theorem dN:∀ {p:List Str},(∀ x∈p,x.length≤5)→(plc p).length≤6 * p.length
 | [],_=>Nat.zero_le _
 | x :: r,h=>by
  have:=dN (p:=r) λy hy=>h y (List.mem_cons_of_mem _ hy)
  have:=h x List.mem_cons_self
  have e:(plc (x :: r)).length=1+x.length+(plc r).length:=by show (ch 47++x++plc r).length=_; rw [ap,ap]; rfl
  rw [e,List.length_cons]
  omega
theorem bF {a b:Str} {m k:Nat} (h1:a.length≤m) (h2:b.length≤k):(a++b).length≤m+k:=by rw [ap]; omega
theorem eK {t:List Nd} (h:∀ n∈t,n.nm.length≤5) {k:Int} {p:List Str} (hp:TW.PathTo t k p):∀ x∈p,x.length≤5:=by
 induction hp with
 | top=>intro x hx; cases hx
 | node hn _ ih =>
  intro x hx
  rcases List.mem_append.mp hx with hx | hx
  ·exact ih x hx
  ·rw [List.mem_singleton.mp hx]; exact h _ hn
theorem lg {i:Int} (h:i.natAbs<10 ^ 9):i.natAbs.log2<1920:=by
 by_cases h0:i.natAbs=0
 ·rw [h0]; decide
 ·exact Nat.lt_of_lt_of_le ((Nat.log2_lt h0).mpr (show i.natAbs<2 ^ 30 by omega)) (by decide)
theorem oX {w:Wt} (hn:NodG w.2) (hp:∀ x∈w.1,x.length≤5):(lnT w).length≤20+6 * w.1.length:=by
 have h1:=dN hp
 obtain ⟨_,_,h2⟩:=dH (n:=w.2.num) (by have:=hn.num.1; omega) hn.num.2
 have h3:(stx w.2.st).length≤10:=by
  cases e:w.2.st with
  | none=>exact (by decide:(ch 47).length≤10)
  | some i =>
   have hi:=hn.st i e
   obtain ⟨_,_,h4⟩:=dH (n:=i) hi.1 (by omega)
   show (ch 32++nt i).length≤10
   rw [ap]
   show 1+_≤10
   omega
 unfold lnT
 rw [ap,ap,ap]
 show _+1+_+_≤_
 omega
section
variable {P:Program} {w:World} {K:PySem.W.Frag} {mg:Str→Option Value} {base:Heap}
noncomputable def sO:Sp:=λvs H Q _=>∃ t a p n,vs=[.ref t,.ref a]∧H t=some (.tup (p.map V.str))∧H a=some (.tup (vals n))∧NodG n∧p.length≤100∧(∀ x∈p,x.length≤5)∧∀ H',Same H H'→Q (.str (lnT (p,n)++ch 10)) H'
theorem oY:FnScope ["path","node","number","stamp","place"] ["path","node"] (ak fQ):=⟨rfl,rfl,rfl,by decide +kernel,rfl,by decide +kernel,by decide +kernel⟩
theorem wW {f:Addr} {fd:FuncData} (F:Fun K "line_of" "line_of" fQ f fd):FnOk P w K mg base CX0 1 f fd ["path","node"] sO:=by
 refine F.ok oY (λvs H Q E h=>?_) (λcdv A outer s H vs Q E hr h=>?_)
 ·obtain ⟨t,a,p,n,rfl,_⟩:=h
  rfl
 ·obtain ⟨t,a,p,n,rfl,ht,ha,ng,hp,hs,q⟩:=h
  refine ⟨_,ah (ar (i:=2) oY.nd rfl (Or.inl rfl) (aC aK (pv 1) ai (λ_ _=>rfl)))
   (ah (ar (i:=3) oY.nd rfl (Or.inl rfl) (aC aK (pv 1) ai (λ_ _=>rfl)))
   (ah (ar (i:=4) oY.nd rfl (Or.inl rfl) (bZ PySem.F.plainAttrs_str PySem.F.slot_str_join PySem.F.type_str_join lZ aP (aa (cF (N:=["name"]) (k:=1) (js:=[]) (g:=bp 0) rfl (cM rfl (by decide +kernel) (by decide +kernel) (by decide +kernel)) rfl (λi j x h=>by simp at h)
    (dZ (pv 0)) (λs H fp=>aH (i:=0) (show (["name"]:List Str).Nodup by decide +kernel) rfl (Or.inl rfl) (Or.inr rfl)) (λs H fp=>ao ax aP (pv 0))) ae)))
   (aj (aq (ku (aE fo (pv 3) cH (aG _)) (jp (nN (pv 2) (cB (sh (pv 4) (cB fE))))) (jp (nN (pv 2) (cB (sh (pv 4) (cB (nN (pv 3) (cB fE)))))))))))),?_⟩
  refine ⟨_,rfl,a,_,_,_,rfl,rfl,SqT.of ha,at0 n,_,rfl,a,_,_,_,rfl,rfl,SqT.of ha,rfl,rfl,_,rfl,t,rfl,⟨_,SqT.of ht⟩,λl hl=>?_⟩
  refine jP (fr:=[]) p V.str (by omega) hl (ut (SqT.of ht)) rfl (λx y _=>y = .str (ch 47++x)) (λ_ _ _ _ h _=>h) (λx H' kk mx s1 _ hk=>?_) (λys H1 s1 hl1 hys=>?_)
  ·refine ⟨_,rfl,_,x,rfl,rfl,?_,hk _ H' (Same.refl _) rfl⟩
   have:=hs x mx
   exact szl (by show 1+_≤_; omega)
  have ey:=dl (f:=λx:Str=>V.str (ch 47++x)) hys (λ_ y _ h=>h)
  have k1:∀ x∈p.map (λx=>ch 47++x),x.length≤6:=λx hx=>by
   obtain ⟨y,hy,rfl⟩:=List.mem_map.mp hx
   have:=hs y hy
   rw [ap]
   show 1+_≤_
   omega
  refine ⟨Str.empty,l,p.map λx=>ch 47++x,rfl,rfl,by rw [hl1,ey,List.map_map]; rfl,jt k1 (by rw [List.length_map]; omega),?_⟩
  rw [vp,my]
  have lp:=dN hs
  obtain ⟨_,_,ln⟩:=dH (n:=n.num) (by have:=ng.num.1; omega) ng.num.2
  have ln:(Str.ofString (toString n.num)).length≤9:=ln
  have lp:(plc p).length≤600:=by omega
  have z1:=bF (show Str.empty.length≤0 from Nat.le_refl _) ln
  have z2:=bF z1 (show (" ":Str).length≤1 by decide)
  have z3:=bF z2 lp
  have lgn:n.num.natAbs.log2<1920:=lg (by have:=ng.num.1; have:=ng.num.2; omega)
  refine ⟨_,rfl,rfl,_,rfl,?_⟩
  cases est:n.st with
  | none =>
   refine av ?_
   have z4:=bF z3 (show ("/\n":Str).length≤2 by decide)
   refine ⟨_,rfl,n.num,rfl,lgn,szl (by omega),szl (by omega),_,rfl,plc p,rfl,szl (by omega),szl (by omega),szl (by omega),szl (by omega),?_⟩
   have e:Str.empty++Str.ofString (toString n.num)++" " ++ plc p++"/\n" = lnT (p,n)++ch 10:=by
    unfold lnT
    show _=nt n.num++ch 32++plc p++stx n.st++ch 10
    rw [est,Str.empty_append]
    show nt n.num++ch 32++plc p++(ch 47++ch 10)=nt n.num++ch 32++plc p++ch 47++ch 10
    simp only [Str.append_assoc]
   rw [e]
   exact q H1 s1
  | some i =>
   refine aM ?_
   have hi:=ng.st i est
   obtain ⟨_,_,li⟩:=dH (n:=i) hi.1 (by omega)
   have li:(Str.ofString (toString i)).length≤9:=li
   have z4:=bF z3 (show (" ":Str).length≤1 by decide)
   have z5:=bF z4 li
   have z6:=bF z5 (show ("\n":Str).length≤1 by decide)
   refine ⟨_,rfl,n.num,rfl,lgn,szl (by omega),szl (by omega),_,rfl,plc p,rfl,szl (by omega),szl (by omega),szl (by omega),_,rfl,i,rfl,lg (by omega),szl (by omega),szl (by omega),szl (by omega),?_⟩
   have e:Str.empty++Str.ofString (toString n.num)++" " ++ plc p++" " ++ Str.ofString (toString i)++"\n" = lnT (p,n)++ch 10:=by
    unfold lnT
    show _=nt n.num++ch 32++plc p++stx n.st++ch 10
    rw [est,Str.empty_append]
    show nt n.num++ch 32++plc p++ch 32++nt i++ch 10=nt n.num++ch 32++plc p++(ch 32++nt i)++ch 10
    simp only [Str.append_assoc]
   rw [e]
   exact q H1 s1
noncomputable def gs:Sp:=λvs H Q _=>∃ t zs,vs=[.ref t]∧Tre H t zs∧(∀ n∈nds zs,NodG n)∧∀ ws H',Same H H'→Wk (nds zs) ws→Q (.str (txt ws)) H'
theorem yj:FnScope ["tree"] ["tree"] (ak fV):=⟨rfl,rfl,rfl,by decide +kernel,rfl,by decide +kernel,by decide +kernel⟩
theorem wX {f:Addr} {fd:FuncData} (F:Fun K "written" "written" fV f fd) (CL:Has P w K mg base 1 "line_of" ["path","node"] sO) (CW:Has P w K mg base 3 "walked_nodes" ["tree"] wV):FnOk P w K mg base CX0 4 f fd ["tree"] gs:=by
 obtain ⟨fL,fdL,GL,mL,kL,bL⟩:=CL
 obtain ⟨fW,fdW,GW,mW,kW,bW⟩:=CW
 refine F.ok yj (λvs H Q E h=>?_) (λcdv A outer s H vs Q E hr h=>?_)
 ·obtain ⟨t,zs,rfl,_⟩:=h
  rfl
 ·obtain ⟨t,zs,rfl,tr,ng,q⟩:=h
  have hr1:Room 1 _:=hr.mono (by decide)
  refine ⟨_,aj (aq (bZ PySem.F.plainAttrs_str PySem.F.slot_str_join PySem.F.type_str_join lZ aP (aa (cF (N:=["path","node"]) (k:=2) (js:=[]) (g:=qF K 2 (eL (bp 0) (eL (bp 1) qE))) rfl (cM rfl (by decide +kernel) (by decide +kernel) (by decide +kernel)) rfl (λi j x h=>by simp at h)
    (dg (am GW hr rfl mW kW bW .nil aV (aa (pv 0) ae)))
    (λs H fp=>jx (n:=2) rfl (cf (aH (i:=0) (show (["path","node"]:List Str).Nodup by decide +kernel) rfl (Or.inl rfl) (Or.inr rfl)) (cf (aH (i:=1) (show (["path","node"]:List Str).Nodup by decide +kernel) rfl (Or.inl rfl) (Or.inr rfl)) gI)))
    (λs H fp=>am (X:=cK _ _ _ _ _ _ _) GL hr1 rfl mL kL bL .nil aV (aa (pv 0) (aa (pv 1) ae)))) ae))),?_⟩
  have hzl:(nds zs).length=zs.length:=by unfold nds; rw [List.length_map]
  refine ⟨rfl,_,rfl,t,zs,rfl,tr,λxs l H1 s1 at' wk hx hl1=>⟨l,rfl,⟨_,SqL.of hl1⟩,λp hp=>?_⟩⟩
  have good:∀ x∈xs,NodG x.z.2∧x.p.length≤30∧∀ y∈x.p,y.length≤5:=λx hx=>by
   obtain ⟨h1,h2⟩:=(wk.mem x.p x.z.2).mp (List.mem_map.mpr ⟨x,hx,rfl⟩)
   have:=h2.len tr.tr
   have:=tr.len
   exact ⟨ng _ h1,by omega,eK (λn hn=>(ng n hn).short) h2⟩
  refine lX (fr:=[]) xs (λx=>V.ref x.a) (by omega) hp (jO (SqL.of hl1)) ⟨[none,none],rfl,rfl⟩ (λx y _=>y = .str (lnT (x.p,x.z.2)++ch 10)) (λ_ _ _ _ h _=>h) (λx σ0 H' kk hσ mx s3 hpl hk=>?_) (λys H' s3 hp' hys=>?_)
  ·obtain ⟨x0,x1,rfl⟩:=nH hσ
   obtain ⟨⟨h1,h2⟩,h3⟩:=at' x mx
   obtain ⟨g1,g2,g3⟩:=good x mx
   refine ⟨x.a,_,rfl,SqT.of (s3 _ _ h1),rfl,_,_,rfl,_,_,rfl,rfl,?_⟩
   refine ⟨_,rfl,_,rfl,x.t,x.z.1,x.p,x.z.2,rfl,s3 _ _ h2,s3 _ _ (s1 _ _ (tr.nod _ h3)),g1,by omega,g3,λH4 s4=>?_⟩
   exact hk _ _ _ ⟨[some (.ref x.t),some (.ref x.z.1)],rfl,rfl⟩ s4 rfl
  ·have ey:=dl (f:=λx:Pq=>V.str (lnT (x.p,x.z.2)++ch 10)) hys (λ_ y _ h=>h)
   have k1:∀ y∈(wtQ xs).map (λw=>lnT w++ch 10),y.length≤201:=λy hy=>by
    obtain ⟨w,hw,rfl⟩:=List.mem_map.mp hy
    obtain ⟨x,hx,rfl⟩:=List.mem_map.mp hw
    obtain ⟨g1,g2,g3⟩:=good x hx
    have:=oX (w:=(x.p,x.z.2)) g1 g3
    rw [ap]
    show _+1≤_
    have e:(x.p,x.z.2).1.length=x.p.length:=rfl
    omega
   have hwl:(wtQ xs).length=xs.length:=List.length_map ..
   refine ⟨Str.empty,p,(wtQ xs).map λw=>lnT w++ch 10,rfl,rfl,by rw [hp',ey]; unfold wtQ; rw [List.map_map,List.map_map]; rfl,jt k1 (by rw [List.length_map]; omega),?_⟩
   rw [vp,mD]
   exact q _ _ (s1.trans s3) wk
end
inductive Typ (H:Hp):V→Prop where
 | non:Typ H .non
 | bl (b:Bool):Typ H (.bl b)
 | int (i:Int):Typ H (.int i)
 | str (x:Str):Typ H (.str x)
 | lst {a:Addr} {xs:List V} (e:H a=some (.lst xs)):Typ H (.ref a)
 | tup {a:Addr} {xs:List V} (e:H a=some (.tup xs)):Typ H (.ref a)
theorem Typ.same {H H':Hp} {v:V} (h:Typ H v) (s:Same H H'):Typ H' v:=by
 cases h with
 | non=>exact .non
 | bl b=>exact .bl b
 | int i=>exact .int i
 | str x=>exact .str x
 | lst e=>exact .lst (s _ _ e)
 | tup e=>exact .tup (s _ _ e)
noncomputable def isI:V→Bool
 | .int _=>true
 | _=>false
section
variable {P:Program} {w:World} {K:PySem.W.Frag} {mg:Str→Option Value} {base:Heap}
noncomputable def gO:Sp:=λvs H Q _=>∃ v,vs=[v]∧Typ H v∧Q (.bl (isI v)) H
theorem uN:FnScope ["thing"] ["thing"] (ak iz):=⟨rfl,rfl,rfl,by decide +kernel,rfl,by decide +kernel,by decide +kernel⟩
theorem iB {f:Addr} {fd:FuncData} (F:Fun K "is_whole" "is_whole" iz f fd) (T:Txt mg):FnOk P w K mg base CX0 1 f fd ["thing"] gO:=by
 refine F.ok uN (λvs H Q E h=>?_) (λcdv A outer s H vs Q E hr h=>?_)
 ·obtain ⟨v,rfl,_⟩:=h
  rfl
 ·obtain ⟨v,rfl,hv,k⟩:=h
  refine ⟨_,aj (aq (dY (al cg rfl T.isin PyProof.Rows.boot_isinstance (aa (pv 0) (aa (dL (v:=.ty "int") rfl T.int PyProof.Rows.boot_int rfl) ae)))
   (fj (vD (al cg rfl T.isin PyProof.Rows.boot_isinstance (aa (pv 0) (aa (dL (v:=.ty "bool") rfl T.bool PyProof.Rows.boot_bool rfl) ae))))))),?_⟩
  cases hv with
  | non=>exact ⟨_,rfl,_,_,_,_,rfl,.non,(by kernel_rfl:_=some false),_,rfl,aM k⟩
  | bl b=>exact ⟨_,rfl,_,_,_,_,rfl,.bl b,(by kernel_rfl:_=some true),_,rfl,av ⟨_,rfl,_,_,_,_,rfl,.bl b,(by kernel_rfl:_=some true),_,rfl,k⟩⟩
  | int i=>exact ⟨_,rfl,_,_,_,_,rfl,.int i,(by kernel_rfl:_=some true),_,rfl,av ⟨_,rfl,_,_,_,_,rfl,.int i,(by kernel_rfl:_=some false),_,rfl,k⟩⟩
  | str x=>exact ⟨_,rfl,_,_,_,_,rfl,.str x,(by kernel_rfl:_=some false),_,rfl,aM k⟩
  | lst e=>exact ⟨_,rfl,_,_,_,_,rfl,.lst e,(by kernel_rfl:_=some false),_,rfl,aM k⟩
  | tup e=>exact ⟨_,rfl,_,_,_,_,rfl,.tup e,(by kernel_rfl:_=some false),_,rfl,aM k⟩
end
noncomputable def letters:Str:="abcdefghijklmnopqrstuvwxyz"
noncomputable def inL (c:Nat):Bool:=!(Builtin.Str.occurrences letters ⟨#[c]⟩ 0 letters.length 1).isEmpty
noncomputable def oZ (x:Str):Bool:=decide (1≤x.length) && decide (x.length≤5) && x.cps.toList.all inL
noncomputable def nameV:V→Bool
 | .str x=>oZ x
 | _=>false
noncomputable def iC:V→Prop
 | .str x=>x.length≤900
 | _=>True
section
variable {P:Program} {w:World} {K:PySem.W.Frag} {mg:Str→Option Value} {base:Heap}
noncomputable def nS:Sp:=λvs H Q _=>∃ v,vs=[v]∧Typ H v∧iC v∧∀ H',Same H H'→Q (.bl (nameV v)) H'
theorem wY:FnScope ["thing"] ["thing"] (ak oS):=⟨rfl,rfl,rfl,by decide +kernel,rfl,by decide +kernel,by decide +kernel⟩
theorem pc {f:Addr} {fd:FuncData} (F:Fun K "is_name" "is_name" oS f fd) (T:Txt mg):FnOk P w K mg base CX0 1 f fd ["thing"] nS:=by
 obtain ⟨tl,hL⟩:=T.letters
 obtain ⟨tn,hN⟩:=T.longest
 refine F.ok wY (λvs H Q E h=>?_) (λcdv A outer s H vs Q E hr h=>?_)
 ·obtain ⟨v,rfl,_⟩:=h
  rfl
 ·obtain ⟨v,rfl,hv,hsh,k⟩:=h
  refine ⟨_,ah (bj (PW.pt (pw_or (ca (ci (al cg rfl T.isin PyProof.Rows.boot_isinstance (aa (pv 0) (aa (dL (v:=.ty "str") rfl T.str PyProof.Rows.boot_str rfl) ae))) (λ_=>rfl)))
    (pw_or1 (ca (kD iS iS ai (al cr rfl T.len PySem.boot_len (aa (pv 0) ae)) (bg (v:=.int 5) rfl hN ⟨_,rfl⟩))))))
   (aj (aq dv)) aB)
   (aj (aq (al (eX rfl) rfl T.all PyProof.Rows.boot_all (aa (cF (N:=["sign"]) (k:=1) (js:=[]) rfl (cM rfl (by decide +kernel) (by decide +kernel) (by decide +kernel)) rfl (λi j x h=>by simp at h)
    (rq (pv 0)) (λs H fp=>aH (i:=0) (show (["sign"]:List Str).Nodup by decide +kernel) rfl (Or.inl rfl) (Or.inr rfl)) (λs H fp=>cq iT (pv 0) (bg (v:=.str letters) rfl hL ⟨_,rfl⟩) (by with_unfolding_all rfl))) ae)))),?_⟩
  cases hv with
  | non=>exact ⟨_,rfl,_,_,_,_,rfl,.non,(by kernel_rfl:_=some false),_,rfl,av (av (k _ (Same.refl _)))⟩
  | bl b=>exact ⟨_,rfl,_,_,_,_,rfl,.bl b,(by kernel_rfl:_=some false),_,rfl,av (av (k _ (Same.refl _)))⟩
  | int i=>exact ⟨_,rfl,_,_,_,_,rfl,.int i,(by kernel_rfl:_=some false),_,rfl,av (av (k _ (Same.refl _)))⟩
  | lst e=>exact ⟨_,rfl,_,_,_,_,rfl,.lst e,(by kernel_rfl:_=some false),_,rfl,av (av (k _ (Same.refl _)))⟩
  | tup e=>exact ⟨_,rfl,_,_,_,_,rfl,.tup e,(by kernel_rfl:_=some false),_,rfl,av (av (k _ (Same.refl _)))⟩
  | str x =>
   refine ⟨_,rfl,_,_,_,_,rfl,.str x,(by kernel_rfl:_=some true),_,rfl,aM ?_⟩
   have hlen:x.length≤900:=hsh
   refine ⟨_,rfl,x,rfl,Nat.le_of_lt (aQ (by omega)),_,_,rfl,rfl,_,rfl,?_⟩
   cases h1:decide ((1:Int)≤(x.length:Int)) with
   | false =>
    refine aM ⟨_,rfl,av ?_⟩
    have e:nameV (.str x)=false:=by
     have:¬ 1≤x.length:=by simp only [decide_eq_false_iff_not] at h1; omega
     simp [nameV,oZ,this]
    rw [← e]
    exact k _ (Same.refl _)
   | true =>
    refine av ⟨_,_,rfl,rfl,_,rfl,?_⟩
    cases h2:decide ((x.length:Int)≤5) with
    | false =>
     refine av ?_
     have e:nameV (.str x)=false:=by
      have:¬ x.length≤5:=by simp only [decide_eq_false_iff_not] at h2; omega
      simp [nameV,oZ,this]
     rw [← e]
     exact k _ (Same.refl _)
    | true =>
     refine aM ?_
     have e:nameV (.str x)=(x.cps.toList.map inL).all id:=by
      have a1:1≤x.length:=by simp only [decide_eq_true_eq] at h1; omega
      have a2:x.length≤5:=by simp only [decide_eq_true_eq] at h2; omega
      simp [nameV,oZ,a1,a2,List.all_map]
     rw [e] at k
     have hsz:x.cps.size=x.length:=rfl
     refine ⟨_,rfl,x,rfl,λp hp=>?_⟩
     refine ji (k:=1) (js:=[]) (J:=Its x) (p:=p) x.cps.size (by omega) (λi ys σ' H'=>ys=((x.cps.toList.take i).map inL).map V.bl∧σ'.length=1∧Same H H'∧H' p=some (.lst ys))
      ⟨rfl,rfl,af hp,ac⟩ (λi ys σ' H' h=>?_) (λi ys σ' H' hi h=>hi) (λys σ' H' h=>?_) (λi ys σ' H' hi h v H2 hy=>?_) ?_ ?_
     ·rw [h.1,List.length_map,List.length_map,List.length_take]; omega
     ·obtain ⟨e1,_,s1,e2⟩:=h
      have e3:ys=(x.cps.toList.map inL).map V.bl:=by rw [e1,List.take_of_length_le (by simp)]
      subst e3
      exact ⟨Nat.le_refl _,_,_,rfl,SqL.of e2,k _ s1⟩
     ·obtain ⟨e1,e0,s1,e2⟩:=h
      obtain ⟨rfl,c,hc,rfl⟩:=hy
      refine ⟨_,List.getElem?_set_self (by omega),_,_,rfl,rfl,e2,?_,by simpa using e0,ay hp s1,ac⟩
      have hc':x.cps.toList[i]? = some c:=by simpa using hc
      rw [e1,List.take_succ,hc']
      simp [inL]
     ·intro _ _ _ _ _ m q
      exact m _ _ q
     ·rintro _ _ _ _ m ⟨v,hv,i,j,a1,a2,q⟩
      exact ⟨v,hv,i,j,a1,a2,m _ _ q⟩
end
noncomputable def fZ:V→Bool
 | .non=>true
 | .int i=>decide (0≤i) && decide (i≤999)
 | _=>false
section
variable {P:Program} {w:World} {K:PySem.W.Frag} {mg:Str→Option Value} {base:Heap}
noncomputable def jX:Sp:=λvs H Q _=>∃ v,vs=[v]∧Typ H v∧Q (.bl (fZ v)) H
theorem uO:FnScope ["thing"] ["thing"] (ak jW):=⟨rfl,rfl,rfl,by decide +kernel,rfl,by decide +kernel,by decide +kernel⟩
theorem mE {f fW:Addr} {fd fdW:FuncData} (F:Fun K "is_stamp" "is_stamp" jW f fd) (T:Txt mg) (FW:Fun K "is_whole" "is_whole" iz fW fdW) (bW:bq K fdW ["thing"] []) (mW:mg "is_whole" = some (.ref fW)) :
  FnOk P w K mg base CX0 2 f fd ["thing"] jX:=by
 have GW:FnOk P w K mg base CX0 1 fW fdW ["thing"] gO:=iB FW T
 obtain ⟨tg,hG⟩:=T.greatest
 refine F.ok uO (λvs H Q E h=>?_) (λcdv A outer s H vs Q E hr h=>?_)
 ·obtain ⟨v,rfl,_⟩:=h
  rfl
 ·obtain ⟨v,rfl,hv,k⟩:=h
  refine ⟨_,aj (aq (xG (cq fo (pv 0) cH (aG _)) (fj (dY (am GW hr rfl mW FW.kp bW .nil aV (aa (pv 0) ae)) (fj (qL iS iS ai (pv 0) (bg (v:=.int 999) rfl hG ⟨_,rfl⟩))))))),?_⟩
  refine ⟨_,rfl,rfl,_,rfl,?_⟩
  cases hv with
  | non=>exact av k
  | bl b=>exact aM ⟨_,rfl,_,rfl,.bl b,_,rfl,aM k⟩
  | str x=>exact aM ⟨_,rfl,_,rfl,.str x,_,rfl,aM k⟩
  | lst e=>exact aM ⟨_,rfl,_,rfl,.lst e,_,rfl,aM k⟩
  | tup e=>exact aM ⟨_,rfl,_,rfl,.tup e,_,rfl,aM k⟩
  | int i =>
   refine aM ⟨_,rfl,_,rfl,.int i,_,rfl,av ?_⟩
   refine ⟨_,rfl,_,_,rfl,rfl,_,rfl,?_⟩
   have e:fZ (.int i)=(decide (0≤i) && decide (i≤999)):=rfl
   cases h1:decide (0≤i) with
   | false=>rw [h1,Bool.false_and] at e; rw [e] at k; exact aM k
   | true=>rw [h1,Bool.true_and] at e; rw [e] at k; exact av ⟨_,_,rfl,rfl,k⟩
noncomputable def ju:V→Bool
 | .int i=>decide (1≤i)
 | _=>false
noncomputable def cC:List V→Bool
 | [n,p,nm,st]=>ju n && isI p && nameV nm && fZ st
 | _=>false
inductive NB (H:Hp):V→Bool→Prop where
 | no {v:V} (h:Typ H v) (hn:∀ a xs,v = .ref a→H a≠some (.tup xs)):NB H v false
 | tup {a:Addr} {xs:List V} (e:H a=some (.tup xs)) (ht:∀ y∈xs,Typ H y∧iC y):NB H (.ref a) (cC xs)
theorem NB.same {H H':Hp} {v:V} {b:Bool} (h:NB H v b) (s:Same H H'):NB H' v b:=by
 cases h with
 | no h hn =>
  refine .no (h.same s) λa xs e1 e2=>?_
  subst e1
  cases h with
  | lst e=>rw [s _ _ e] at e2; cases e2
  | tup e=>exact hn _ _ rfl e
 | tup e ht=>exact .tup (s _ _ e) λy hy=>⟨(ht y hy).1.same s,(ht y hy).2⟩
noncomputable def jY:Sp:=λvs H Q _=>∃ v b,vs=[v]∧NB H v b∧∀ H',Same H H'→Q (.bl b) H'
theorem wZ:FnScope ["thing"] ["thing"] (ak sv):=⟨rfl,rfl,rfl,by decide +kernel,rfl,by decide +kernel,by decide +kernel⟩
theorem uP {f fW fN fS:Addr} {fd fdW fdN fdS:FuncData} (F:Fun K "is_node" "is_node" sv f fd) (T:Txt mg) (FW:Fun K "is_whole" "is_whole" iz fW fdW) (bW:bq K fdW ["thing"] []) (mW:mg "is_whole" = some (.ref fW))
  (FN:Fun K "is_name" "is_name" oS fN fdN) (bN:bq K fdN ["thing"] []) (mN:mg "is_name" = some (.ref fN)) (FS:Fun K "is_stamp" "is_stamp" jW fS fdS) (bS:bq K fdS ["thing"] []) (mS:mg "is_stamp" = some (.ref fS)) :
  FnOk P w K mg base CX0 3 f fd ["thing"] jY:=by
 have GW:FnOk P w K mg base CX0 1 fW fdW ["thing"] gO:=iB FW T
 have GN:FnOk P w K mg base CX0 1 fN fdN ["thing"] nS:=pc FN T
 have GS:FnOk P w K mg base CX0 2 fS fdS ["thing"] jX:=mE FS T FW bW mW
 refine F.ok wZ (λvs H Q E h=>?_) (λcdv A outer s H vs Q E hr h=>?_)
 ·obtain ⟨v,b,rfl,_⟩:=h
  rfl
 ·obtain ⟨v,b,rfl,hv,k⟩:=h
  have hr1:Room 1 _:=hr.mono (by decide)
  refine ⟨_,ah (bj (PW.pt (pw_or (ca (ci (al cg rfl T.isin PyProof.Rows.boot_isinstance (aa (pv 0) (aa (dL (v:=.ty "tuple") rfl T.tuple PyProof.Rows.boot_tuple rfl) ae))) (λ_=>rfl)))
    (pw_or1 (aE gf (al aR rfl T.len PySem.boot_len (aa (pv 0) ae)) ai (aG _))))) (aj (aq dv)) aB)
   (ah (bj (PW.pt (pw_or (ca (ci (am GW hr1 rfl mW FW.kp bW .nil aV (aa (aC aK (pv 0) ai (λ_ _=>rfl)) ae)) (λ_=>rfl))) (pw_or1 (aE ky (aC aK (pv 0) ai (λ_ _=>rfl)) ai (aG _))))) (aj (aq dv)) aB)
   (aj (aq (dY (am GW hr1 rfl mW FW.kp bW .nil aV (aa (aC aK (pv 0) ai (λ_ _=>rfl)) ae)) (dY (am GN hr1 rfl mN FN.kp bN .nil aV (aa (aC aK (pv 0) ai (λ_ _=>rfl)) ae))
    (fj (am GS hr rfl mS FS.kp bS .nil aV (aa (aC aK (pv 0) ai (λ_ _=>rfl)) ae)))))))),?_⟩
  cases hv with
  | no ht hn =>
   cases ht with
   | non=>exact ⟨_,rfl,_,_,_,_,rfl,.non,(by kernel_rfl:_=some false),_,rfl,av (av (k _ (Same.refl _)))⟩
   | bl b=>exact ⟨_,rfl,_,_,_,_,rfl,.bl b,(by kernel_rfl:_=some false),_,rfl,av (av (k _ (Same.refl _)))⟩
   | int i=>exact ⟨_,rfl,_,_,_,_,rfl,.int i,(by kernel_rfl:_=some false),_,rfl,av (av (k _ (Same.refl _)))⟩
   | str x=>exact ⟨_,rfl,_,_,_,_,rfl,.str x,(by kernel_rfl:_=some false),_,rfl,av (av (k _ (Same.refl _)))⟩
   | lst e=>exact ⟨_,rfl,_,_,_,_,rfl,.lst e,(by kernel_rfl:_=some false),_,rfl,av (av (k _ (Same.refl _)))⟩
   | tup e=>exact absurd e (hn _ _ rfl)
  | @tup a xs e ht =>
   refine ⟨_,rfl,_,_,_,_,rfl,.tup e,(by kernel_rfl:_=some true),_,rfl,aM ?_⟩
   refine ⟨_,rfl,a,xs,rfl,.inr (SqT.of e),rfl,_,rfl,?_⟩
   match xs,e,ht,k with
   | [n,p,nm,st],e,ht,k =>
    refine xX rfl ?_
    have at0:atI [n,p,nm,st] 0=some n:=rfl
    have at1:atI [n,p,nm,st] 1=some p:=rfl
    have at2:atI [n,p,nm,st] 2=some nm:=rfl
    have at3:atI [n,p,nm,st] 3=some st:=rfl
    refine ⟨_,rfl,a,_,_,_,rfl,rfl,SqT.of e,at0,_,rfl,(ht n (by simp)).1,_,rfl,?_⟩
    cases hn:isI n with
    | false =>
     refine av (av ?_)
     have e0:cC [n,p,nm,st]=false:=by
      have:ju n=false:=by cases n <;> first | rfl | (simp [isI] at hn)
      simp [cC,this]
     rw [e0] at k
     exact k _ (Same.refl _)
    | true =>
     refine aM ?_
     obtain ⟨i,rfl⟩:∃ i,n = .int i:=by cases n <;> first | exact ⟨_,rfl⟩ | (simp [isI] at hn)
     refine ⟨_,rfl,a,_,_,_,rfl,rfl,SqT.of e,at0,_,_,rfl,rfl,_,rfl,?_⟩
     cases h1:decide (i<1) with
     | true =>
      refine av ?_
      have e0:cC [.int i,p,nm,st]=false:=by
       have:¬ 1≤i:=by simp only [decide_eq_true_eq] at h1; omega
       simp [cC,ju,this]
      rw [e0] at k
      exact k _ (Same.refl _)
     | false =>
      refine aM ?_
      have hi:1≤i:=by simp only [decide_eq_false_iff_not] at h1; omega
      have e0:cC [.int i,p,nm,st]=(isI p && nameV nm && fZ st):=by simp [cC,ju,hi]
      rw [e0] at k
      refine ⟨_,rfl,a,_,_,_,rfl,rfl,SqT.of e,at1,_,rfl,(ht p (by simp)).1,_,rfl,?_⟩
      cases hp:isI p with
      | false =>
       rw [hp,Bool.false_and,Bool.false_and] at k
       exact aM (k _ (Same.refl _))
      | true =>
       rw [hp,Bool.true_and] at k
       refine av ⟨_,rfl,a,_,_,_,rfl,rfl,SqT.of e,at2,_,rfl,(ht nm (by simp)).1,(ht nm (by simp)).2,λH1 s1=>⟨_,rfl,?_⟩⟩
       cases hm:nameV nm with
       | false =>
        rw [hm,Bool.false_and] at k
        exact aM (k _ s1)
       | true =>
        rw [hm,Bool.true_and] at k
        exact av ⟨_,rfl,a,_,_,_,rfl,rfl,SqT.of (s1 _ _ e),at3,_,rfl,(ht st (by simp)).1.same s1,k _ s1⟩
   | [],e,ht,k=>exact av (k _ (Same.refl _))
   | [_],e,ht,k=>exact av (k _ (Same.refl _))
   | [_,_],e,ht,k=>exact av (k _ (Same.refl _))
   | [_,_,_],e,ht,k=>exact av (k _ (Same.refl _))
   | _ :: _ :: _ :: _ :: _ :: ys,e,ht,k =>
    have hne:(!decide (V.int ((ys.length+1+1+1+1+1:Nat):Int)=V.int 4))=true:=by
     have:¬ (V.int ((ys.length+1+1+1+1+1:Nat):Int)=V.int 4):=λz=>by injection z with z; omega
     rw [decide_eq_false this]; rfl
    show if (!decide (V.int ((ys.length+1+1+1+1+1:Nat):Int)=V.int 4))=true then _ else _
    rw [if_pos hne]
    exact k _ (Same.refl _)
noncomputable def ltP (p:Nd×Nd):Bool:=decide (p.1.num<p.2.num)
noncomputable def nT:Sp:=λvs H Q _=>∃ t zs,vs=[.ref t]∧H t=some (.tup (aN zs))∧At H zs∧zs.length≤100∧∀ H',Same H H'→Q (.bl (TW.adj (nds zs))) H'
theorem xa:FnScope ["nodes"] ["nodes"] (ak sw):=⟨rfl,rfl,rfl,by decide +kernel,rfl,by decide +kernel,by decide +kernel⟩
theorem uQ {f:Addr} {fd:FuncData} (F:Fun K "are_rising" "are_rising" sw f fd) (T:Txt mg):FnOk P w K mg base CX0 1 f fd ["nodes"] nT:=by
 refine F.ok xa (λvs H Q E h=>?_) (λcdv A outer s H vs Q E hr h=>?_)
 ·obtain ⟨t,zs,rfl,_⟩:=h
  rfl
 ·obtain ⟨t,zs,rfl,ht,hA,hl,k⟩:=h
  refine ⟨_,aj (aq (al (eX rfl) rfl T.all PyProof.Rows.boot_all (aa (cF (N:=["one","other"]) (k:=2) (js:=[]) (g:=qF K 2 (eL (bp 0) (eL (bp 1) qE))) rfl (cM rfl (by decide +kernel) (by decide +kernel) (by decide +kernel)) rfl (λi j x h=>by simp at h)
   (wq rfl T.zip (aa (pv 0) (aa (aT (SlR.or nq nB) (pv 0) (bh ai) bn) ae)))
   (λs H fp=>jx (n:=2) rfl (cf (aH (i:=0) (show (["one","other"]:List Str).Nodup by decide +kernel) rfl (Or.inl rfl) (Or.inr rfl)) (cf (aH (i:=1) (show (["one","other"]:List Str).Nodup by decide +kernel) rfl (Or.inl rfl) (Or.inr rfl)) gI)))
   (λs H fp=>cq ky (aC (r:=iG K) aK (pv 0) ai (λ_ _=>rfl)) (aC (r:=iG K) aK (pv 1) ai (λ_ _=>rfl)) (aG _))) ae))),?_⟩
  have main:∀ (t2:Addr) (H1:Hp),Same H H1→H1 t2=some (.tup (aN (zs.drop 1)))→∀ p,H1 p=none→∀ Q':VK,(∀ (q:Addr) (bs:List Bool) (H':Hp),Same H H'→H' q=some (.lst (bs.map V.bl))→bs.all id=TW.adj (nds zs)→Q' (.ref q) H') →
    LcW 2 [] (qF K 2 (eL (bp 0) (eL (bp 1) qE))) (tOp (rI0 λi j=>.bl (decide (i<j))) (tOp (iG K) (qC 0) (tC (.int 0))) (tOp (iG K) (qC 1) (tC (.int 0)))) (start ["nodes"] [.ref t]) Q' (Itz K t t2) H1 p:=by
   intro t2 H1 s1 ht2 p hp Q' k'
   have hp0:H p=none:=s1.free hp
   have h1t:H1 t=some (.tup (aN zs)):=s1 _ _ ht
   have hzl:((nds zs).zip ((nds zs).drop 1)).length=zs.length - 1:=by rw [List.length_zip,List.length_drop,aW]; omega
   refine ji (k:=2) (js:=[]) (J:=Itz K t t2) (p:=p) (zs.length - 1) (by omega) (λi ys σ' H'=>ys=((((nds zs).zip ((nds zs).drop 1)).take i).map ltP).map V.bl∧σ'.length=2∧Same H1 H'∧H' p=some (.lst ys))
    ⟨rfl,rfl,af hp,ac⟩ (λi ys σ' H' h=>?_) (λi ys σ' H' hi h=>?_) (λys σ' H' h=>?_) (λi ys σ' H' hi h v H2 hy=>?_) ?_ ?_
   ·rw [h.1,List.length_map,List.length_map,List.length_take]; omega
   ·obtain ⟨_,_,s2,_⟩:=h
    refine ⟨_,_,_,_,SqT.of (s2 _ _ h1t),SqT.of (s2 _ _ ht2),cX (List.getElem?_eq_getElem (by omega)),cX (z:=zs[i+1]) ?_⟩
    rw [List.getElem?_drop,show 1+i=i+1 by omega,List.getElem?_eq_getElem (by omega)]
   ·obtain ⟨e1,_,s2,e2⟩:=h
    refine ⟨⟨_,_,SqT.of (s2 _ _ h1t),SqT.of (s2 _ _ ht2),.inr (by rw [aL,List.length_drop]; exact Nat.le_refl _)⟩,?_⟩
    rw [e1] at e2
    refine k' p _ H' (s1.trans s2) e2 ?_
    rw [List.take_of_length_le (by omega),List.all_map,TW.oJ]
    rfl
   ·obtain ⟨e1,e0,s2,e2⟩:=h
    obtain ⟨o1,o2,rfl⟩:=nH e0
    obtain ⟨q,x,y,hq,rfl,hx,hy',rfl⟩:=hy
    have gx:=hx _ (SqT.of (s2 _ _ h1t))
    have gy:=hy' _ (SqT.of (s2 _ _ ht2))
    obtain ⟨z1,g1,rfl⟩:=bu gx
    obtain ⟨z2,g2,rfl⟩:=bu gy
    rw [List.getElem?_drop,show 1+i=i+1 by omega] at g2
    have m1:=List.mem_of_getElem? g1
    have m2:=List.mem_of_getElem? g2
    have s3:Same H (upd H' q (.tup [.ref z1.1,.ref z2.1])):=(s1.trans s2).trans (af hq)
    refine ⟨q,_,rfl,SqT.of ac,rfl,_,_,rfl,_,_,rfl,rfl,?_⟩
    refine ⟨_,rfl,z1.1,_,_,_,rfl,rfl,SqT.of (s3 _ _ (hA z1 m1)),at0 z1.2,_,rfl,z2.1,_,_,_,rfl,rfl,SqT.of (s3 _ _ (hA z2 m2)),at0 z2.2,_,_,rfl,rfl,bt hq e2,?_,rfl,ay hp (s2.trans (af hq)),ac⟩
    have ge:((nds zs).zip ((nds zs).drop 1))[i]? = some (z1.2,z2.2):=by
     rw [List.getElem?_zip_eq_some]
     refine ⟨by unfold nds; rw [List.getElem?_map,g1]; rfl,by unfold nds; rw [List.getElem?_drop,List.getElem?_map,show 1+i=i+1 by omega,g2]; rfl⟩
    rw [e1,List.take_succ,ge]
    simp [ltP]
   ·rintro _ _ _ _ _ m ⟨a,xs,h1,h2,h3,v1,r1,h4,v2,r2,h5,h6,q⟩
    exact ⟨a,xs,h1,h2,h3,v1,r1,h4,v2,r2,h5,h6,m _ _ q⟩
   ·rintro _ _ _ _ m ⟨v1,a1,p1,x1,i1,w1,b1,b2,b3,b4,v2,a2,p2,x2,i2,w2,c1,c2,c3,c4,i,j,d1,d2,q⟩
    exact ⟨v1,a1,p1,x1,i1,w1,b1,b2,b3,b4,v2,a2,p2,x2,i2,w2,c1,c2,c3,c4,i,j,d1,d2,m _ _ q⟩
  have fin:∀ (q:Addr) (bs:List Bool) (H':Hp),Same H H'→H' q=some (.lst (bs.map V.bl))→bs.all id=TW.adj (nds zs)→∃ a,∃ bs':List Bool,[V.ref q]=[V.ref a]∧SqL K H' a (bs'.map V.bl)∧Q (.bl (bs'.all id)) H':=λq bs H' s' e eb =>
   ⟨q,bs,rfl,SqL.of e,by rw [eb]; exact k _ s'⟩
  refine ⟨_,rfl,_,rfl,_,rfl,?_⟩
  by_cases hz:zs=[]
  ·subst hz
   refine .inr ⟨t,_,rfl,SqT.of ht,rfl,rfl,t,t,_,_,rfl,ht,ht,λp hp=>?_⟩
   exact main t H (Same.refl H) ht p hp _ fin
  ·have hlen:1≤zs.length:=by
    cases zs with
    | nil=>exact absurd rfl hz
    | cons _ _=>simp
   refine .inl ⟨t,_,rfl,SqT.of ht,?_,λp1 hp1=>?_⟩
   ·rw [aL]
    intro h
    have:HT.sIx zs.length 0 (some ((1:Nat):Int))=min 1 zs.length:=HT.oo _ _ _
    have h1:HT.sIx zs.length 0 (some ((1:Nat):Int))=0:=h.1
    omega
   ·have ecut:gC (aN zs) (some 1) none=aN (zs.drop 1):=by
     unfold gC
     rw [HT.kF,aL,show HT.sIx zs.length 0 (some (1:Int))=min 1 zs.length from HT.oo _ _ 1,show min 1 zs.length=1 by omega]
     unfold aN
     rw [← List.map_drop,← List.map_drop,List.take_of_length_le (by simp)]
    rw [ecut]
    refine ⟨t,p1,_,_,rfl,bt hp1 ht,ac,λp hp=>?_⟩
    exact main p1 _ (af hp1) ac p hp _ fin
noncomputable def sP:Sp:=λvs H Q _=>∃ t zs,vs=[.ref t]∧H t=some (.tup (aN zs))∧At H zs∧zs.length≤60∧∀ b H',(b=true↔TW.cN (nds zs))→Same H H'→Q (.bl b) H'
theorem yk:FnScope ["nodes"] ["nodes"] (ak wF):=⟨rfl,rfl,rfl,by decide +kernel,rfl,by decide +kernel,by decide +kernel⟩
theorem xb {f:Addr} {fd:FuncData} (F:Fun K "have_own_places" "have_own_places" wF f fd) (T:Txt mg):FnOk P w K mg base CX0 1 f fd ["nodes"] sP:=by
 refine F.ok yk (λvs H Q E h=>?_) (λcdv A outer s H vs Q E hr h=>?_)
 ·obtain ⟨t,zs,rfl,_⟩:=h
  rfl
 ·obtain ⟨t,zs,rfl,ht,hA,hl,k⟩:=h
  refine ⟨_,aj (aq (cq dQ (al lI rfl T.len PySem.boot_len (aa (bo (iJ rfl (rX hr)) rfl T.set rfl (aa (cF (N:=["node"]) (k:=1) (js:=[]) (g:=bp 0) rfl (cM rfl (by decide +kernel) (by decide +kernel) (by decide +kernel)) rfl (λi j x h=>by simp at h)
   (dZ (pv 0))
   (λs H fp=>aH (i:=0) (show (["node"]:List Str).Nodup by decide +kernel) rfl (Or.inl rfl) (Or.inr rfl))
   (λs H fp=>cz (aa (aC (r:=iG K) aK (pv 0) ai (λ_ _=>rfl)) (aa (aC (r:=iG K) aK (pv 0) ai (λ_ _=>rfl)) ae)))) ae)) ae))
   (al aR rfl T.len PySem.boot_len (aa (pv 0) ae)) (aG _))),?_⟩
  refine ⟨_,rfl,t,rfl,⟨_,SqT.of ht⟩,λp hp=>?_⟩
  refine ji (k:=1) (js:=[]) (J:=Itt K t) (p:=p) zs.length (by omega) (λi ys σ' H'=>∃ kss:List (Addr×List Key),ys=(kss.map (·.1)).map V.ref∧kss.map (·.2)=((nds zs).take i).map plK∧kss.length=i∧(∀ z∈kss,H' z.1=some (.tup (z.2.map kV)))∧σ'.length=1∧Same H H'∧H' p=some (.lst ys))
    ⟨[],rfl,rfl,rfl,by simp,rfl,af hp,ac⟩ (λi ys σ' H' h=>?_) (λi ys σ' H' hi h=>?_) (λys σ' H' h=>?_) (λi ys σ' H' hi h v H2 hy=>?_) ?_ ?_
  ·obtain ⟨kss,rfl,_,e,_⟩:=h
   rw [List.length_map,List.length_map]; omega
  ·obtain ⟨_,_,_,_,_,_,s2,_⟩:=h
   exact ⟨_,_,SqT.of (s2 _ _ ht),cX (List.getElem?_eq_getElem hi)⟩
  ·obtain ⟨kss,e1,e2,e3,e4,_,s2,e5⟩:=h
   refine ⟨⟨_,SqT.of (s2 _ _ ht),by rw [aL]; exact Nat.le_refl _⟩,?_⟩
   subst e1
   refine ⟨p,kss,rfl,SqL.of e5,e4,by omega,λn hn hiff q hq=>?_⟩
   refine ⟨q,n,rfl,ac,by omega,?_⟩
   have s3:Same H (upd H' q (.ext (jJ q n))):=s2.trans (af hq)
   refine ⟨_,rfl,t,_,rfl,.inr (SqT.of (s3 _ _ ht)),rfl,?_⟩
   refine k _ _ ?_ s3
   rw [List.take_of_length_le (by rw [aW]; exact Nat.le_refl _)] at e2
   rw [e2,qp,e3] at hiff
   rw [← hiff,decide_eq_true_eq,aL]
   constructor
   ·intro z; injection z with z; omega
   ·intro z; rw [z]
  ·obtain ⟨kss,e1,e2,e3,e4,e0,s2,e5⟩:=h
   obtain ⟨o1,rfl⟩:=nI e0
   obtain ⟨rfl,hx⟩:=hy
   have gx:=hx _ (SqT.of (s2 _ _ ht))
   obtain ⟨z1,g1,rfl⟩:=bu gx
   have m1:=List.mem_of_getElem? g1
   refine ⟨_,rfl,z1.1,_,_,_,rfl,rfl,SqT.of (s2 _ _ (hA z1 m1)),at1 z1.2,_,rfl,z1.1,_,_,_,rfl,rfl,SqT.of (s2 _ _ (hA z1 m1)),at2 z1.2,le2,λq hq=>?_⟩
   refine ⟨bt hq e5,kss++[(q,plK z1.2)],by rw [e1]; simp,?_,by simp [e3],?_,rfl,ay hp (s2.trans (af hq)),ac⟩
   ·rw [List.map_append,e2,List.take_succ,show (nds zs)[i]? = some z1.2 by unfold nds; rw [List.getElem?_map,g1]; rfl]
    simp
   ·intro z hz
    have hqp:q≠p:=λz=>by rw [z,e5] at hq; cases hq
    rcases List.mem_append.mp hz with hz | hz
    ·have:=bt (o:=.tup [.int z1.2.par,.str z1.2.nm]) hq (e4 z hz)
     rw [ag]
     ·exact this
     ·intro e
      rw [e,ag (Ne.symm hqp),e5] at this
      cases this
    ·have e:z=(q,plK z1.2):=by simpa using hz
     subst e
     rw [ag hqp]
     exact ac
  ·rintro _ _ _ _ _ m h
   exact m _ _ h
  ·rintro _ _ _ _ m ⟨v1,b0,a1,x1,i1,w1,b1,b2,b3,b4,v2,c0,a2,x2,i2,w2,c1,c2,c3,c4,l,q⟩
   exact ⟨v1,b0,a1,x1,i1,w1,b1,b2,b3,b4,v2,c0,a2,x2,i2,w2,c1,c2,c3,c4,l,λp hp=>m _ _ (q p hp)⟩
end
theorem xf {H:Hp} (o:Option Int):Typ H (stV o):=by
 cases o with
 | none=>exact .non
 | some i=>exact .int i
theorem sQ (o:Option Int):iC (stV o):=by cases o <;> exact True.intro
theorem vq {H:Hp} {z:Addr×Nd} (e:H z.1=some (.tup (vals z.2))) (hs:iC (.str z.2.nm)):NB H (.ref z.1) (cC (vals z.2)):=by
 refine .tup e λy hy=>?_
 unfold vals at hy
 simp only [List.mem_cons,List.not_mem_nil,or_false] at hy
 rcases hy with rfl | rfl | rfl | rfl
 ·exact ⟨.int _,True.intro⟩
 ·exact ⟨.int _,True.intro⟩
 ·exact ⟨.str _,hs⟩
 ·exact ⟨xf _,sQ _⟩
inductive TR (H:Hp):V→Prop→Prop where
 | no {v:V} (h:Typ H v) (hn:∀ a xs,v = .ref a→H a≠some (.tup xs)):TR H v False
 | bad {a:Addr} {xs:List V} {bs:List Bool} (e:H a=some (.tup xs)) (hl:xs.length≤100) (hb:bs.length=xs.length) (h:∀ (i:Nat) x b,xs[i]? = some x→bs[i]? = some b→NB H x b) (hf:bs.all id=false):TR H (.ref a) False
 | nodes {a:Addr} {zs:ZN} (e:H a=some (.tup (aN zs))) (hA:At H zs) (hl:zs.length≤60) (ho:∀ z∈zs,cC (vals z.2)=true∧iC (.str z.2.nm)):TR H (.ref a) (TW.Tree (nds zs))
section
variable {P:Program} {w:World} {K:PySem.W.Frag} {mg:Str→Option Value} {base:Heap}
noncomputable def jZ:Sp:=λvs H Q _=>∃ v φ,vs=[v]∧TR H v φ∧∀ b H',(b=true↔φ)→Same H H'→Q (.bl b) H'
theorem xg:FnScope ["thing"] ["thing"] (ak sx):=⟨rfl,rfl,rfl,by decide +kernel,rfl,by decide +kernel,by decide +kernel⟩
structure Ups (P:Program) (w:World) (K:PySem.W.Frag) (mg:Str→Option Value) (base:Heap):Prop where
 node:∃ f fd,FnOk P w K mg base CX0 3 f fd ["thing"] jY∧mg "is_node" = some (.ref f)∧PySem.W.keepIn K (.ref f)=true∧bq K fd ["thing"] []
 rise:∃ f fd,FnOk P w K mg base CX0 1 f fd ["nodes"] nT∧mg "are_rising" = some (.ref f)∧PySem.W.keepIn K (.ref f)=true∧bq K fd ["nodes"] []
 own:∃ f fd,FnOk P w K mg base CX0 1 f fd ["nodes"] sP∧mg "have_own_places" = some (.ref f)∧PySem.W.keepIn K (.ref f)=true∧bq K fd ["nodes"] []
 ins:∃ f fd,FnOk P w K mg base CX0 1 f fd ["nodes","folder"] sD∧mg "numbers_inside" = some (.ref f)∧PySem.W.keepIn K (.ref f)=true∧bq K fd ["nodes","folder"] []
theorem uR {f:Addr} {fd:FuncData} (F:Fun K "is_tree" "is_tree" sx f fd) (T:Txt mg) (U:Ups P w K mg base):FnOk P w K mg base CX0 4 f fd ["thing"] jZ:=by
 obtain ⟨fN,fdN,GN,mN,kN,bN⟩:=U.node
 obtain ⟨fR,fdR,GR,mR,kR,bR⟩:=U.rise
 obtain ⟨fO,fdO,GO,mO,kO,bO⟩:=U.own
 obtain ⟨fI,fdI,GI,mI,kI,bI⟩:=U.ins
 obtain ⟨tt,hT⟩:=T.top
 refine F.ok xg (λvs H Q E h=>?_) (λcdv A outer s H vs Q E hr h=>?_)
 ·obtain ⟨v,φ,rfl,_⟩:=h
  rfl
 ·obtain ⟨v,φ,rfl,hv,k⟩:=h
  have hr1:Room 1 _:=hr.mono (by decide)
  refine ⟨_,ah (bj (PW.pt (pw_or (ca (ci (al cg rfl T.isin PyProof.Rows.boot_isinstance (aa (pv 0) (aa (dL (v:=.ty "tuple") rfl T.tuple PyProof.Rows.boot_tuple rfl) ae))) (λ_=>rfl)))
    (pw_or1 (ca (ci (al (eX rfl) rfl T.all PyProof.Rows.boot_all (aa (cF (N:=["part"]) (k:=1) (js:=[]) (g:=bp 0) rfl (cM rfl (by decide +kernel) (by decide +kernel) (by decide +kernel)) rfl (λi j x h=>by simp at h)
     (dZ (pv 0)) (λs H fp=>aH (i:=0) (show (["part"]:List Str).Nodup by decide +kernel) rfl (Or.inl rfl) (Or.inr rfl))
     (λs H fp=>am (X:=cK _ _ _ _ _ _ _) GN hr rfl mN kN bN .nil aV (aa (pv 0) ae))) ae)) (λ_=>rfl)))))) (aj (aq dv)) aB)
   (ah (bj (PW.pt (pw_or (ca (ci (am GR hr1 rfl mR kR bR .nil aV (aa (pv 0) ae)) (λ_=>rfl))) (pw_or1 (ca (ci (am GO hr1 rfl mO kO bO .nil aV (aa (pv 0) ae)) (λ_=>rfl)))))) (aj (aq dv)) aB)
   (aj (aq (cq dQ (al aR rfl T.len PySem.boot_len (aa (am GI hr1 rfl mI kI bI .nil aV (aa (pv 0) (aa (bg (v:=.int 0) rfl hT ⟨_,rfl⟩) ae))) ae)) (al aR rfl T.len PySem.boot_len (aa (pv 0) ae)) (aG _))))),?_⟩
  have main:∀ (a:Addr) (xs:List V) (bs:List Bool),H a=some (.tup xs)→xs.length≤100→bs.length=xs.length→(∀ (i:Nat) x b,xs[i]? = some x→bs[i]? = some b→NB H x b)→∀ p,H p=none→∀ Q':VK,(∀ H',Same H H'→H' p=some (.lst (bs.map V.bl))→Q' (.ref p) H') →
    LcW 1 [] (bp 0) (vf jY [] E0 (iU (qC 0) pH)) (start ["thing"] [.ref a]) Q' (Itt K a) H p:=by
   intro a xs bs ea hxl hbl hb p hp Q' k'
   refine ji (k:=1) (js:=[]) (J:=Itt K a) (p:=p) xs.length (by omega) (λi ys σ' H'=>ys=(bs.take i).map V.bl∧σ'.length=1∧Same H H'∧H' p=some (.lst ys))
    ⟨rfl,rfl,af hp,ac⟩ (λi ys σ' H' h=>?_) (λi ys σ' H' hi h=>?_) (λys σ' H' h=>?_) (λi ys σ' H' hi h v H2 hy=>?_) ?_ ?_
   ·rw [h.1,List.length_map,List.length_take]; omega
   ·obtain ⟨_,_,s2,_⟩:=h
    exact ⟨_,_,SqT.of (s2 _ _ ea),List.getElem?_eq_getElem hi⟩
   ·obtain ⟨e1,_,s2,e2⟩:=h
    refine ⟨⟨_,SqT.of (s2 _ _ ea),Nat.le_refl _⟩,?_⟩
    rw [List.take_of_length_le (by omega)] at e1
    rw [e1] at e2
    exact k' H' s2 e2
   ·obtain ⟨e1,e0,s2,e2⟩:=h
    obtain ⟨o1,rfl⟩:=nI e0
    obtain ⟨rfl,hx⟩:=hy
    have gx:=hx _ (SqT.of (s2 _ _ ea))
    have gb:bs[i]? = some bs[i]:=List.getElem?_eq_getElem (by omega)
    refine ⟨_,rfl,v,bs[i],rfl,(hb i v _ gx gb).same s2,λH3 s3=>⟨s3 _ _ e2,?_,rfl,ay hp (s2.trans s3),ac⟩⟩
    rw [e1,List.take_succ,gb,List.map_append]
    rfl
   ·rintro _ _ _ _ _ m h
    exact m _ _ h
   ·rintro _ _ _ _ m ⟨v1,b0,v,b,e1,nb,q⟩
    exact ⟨v1,b0,v,b,e1,nb,λH' s'=>m _ _ (q H' s')⟩
  have hF:∀ H',Same H H'→φ=False→Q (.bl false) H':=λH' s' e=>k false H' (by rw [e]; simp) s'
  cases hv with
  | no ht hn =>
   cases ht with
   | non=>exact ⟨_,rfl,_,_,_,_,rfl,.non,(by kernel_rfl:_=some false),_,rfl,av (av (hF _ (Same.refl _) rfl))⟩
   | bl b=>exact ⟨_,rfl,_,_,_,_,rfl,.bl b,(by kernel_rfl:_=some false),_,rfl,av (av (hF _ (Same.refl _) rfl))⟩
   | int i=>exact ⟨_,rfl,_,_,_,_,rfl,.int i,(by kernel_rfl:_=some false),_,rfl,av (av (hF _ (Same.refl _) rfl))⟩
   | str x=>exact ⟨_,rfl,_,_,_,_,rfl,.str x,(by kernel_rfl:_=some false),_,rfl,av (av (hF _ (Same.refl _) rfl))⟩
   | lst e=>exact ⟨_,rfl,_,_,_,_,rfl,.lst e,(by kernel_rfl:_=some false),_,rfl,av (av (hF _ (Same.refl _) rfl))⟩
   | tup e=>exact absurd e (hn _ _ rfl)
  | @bad a xs bs e hl hb h hf =>
   refine ⟨_,rfl,_,_,_,_,rfl,.tup e,(by kernel_rfl:_=some true),_,rfl,aM ?_⟩
   refine ⟨_,rfl,a,rfl,⟨_,SqT.of e⟩,λp hp=>main a xs bs e hl hb h p hp _ λH1 s1 e1=>?_⟩
   refine ⟨p,bs,rfl,SqL.of e1,_,rfl,?_⟩
   rw [hf]
   exact av (hF _ s1 rfl)
  | @nodes a zs e hA hl ho =>
   refine ⟨_,rfl,_,_,_,_,rfl,.tup e,(by kernel_rfl:_=some true),_,rfl,aM ?_⟩
   refine ⟨_,rfl,a,rfl,⟨_,SqT.of e⟩,λp hp=>main a (aN zs) (zs.map λ_=>true) e (by rw [aL]; omega) (by rw [aL,List.length_map]) (λi x b hx hb=>?_) p hp _ λH1 s1 e1=>?_⟩
   ·obtain ⟨z,gz,rfl⟩:=bu hx
    rw [List.getElem?_map,gz] at hb
    cases hb
    have mz:=List.mem_of_getElem? gz
    have:=vq (hA z mz) (ho z mz).2
    rw [(ho z mz).1] at this
    exact this
   ·refine ⟨p,_,rfl,SqL.of e1,_,rfl,?_⟩
    have et:(zs.map λ_=>true).all id=true:=by simp
    rw [et]
    refine aM ?_
    refine ⟨_,rfl,a,zs,rfl,s1 _ _ e,hA.same s1,by omega,λH2 s2=>⟨_,rfl,?_⟩⟩
    have s12:=s1.trans s2
    cases hR:TW.adj (nds zs) with
    | false =>
     refine av (av (k false H2 ?_ s12))
     constructor
     ·intro h; cases h
     ·intro h; have:=(TW.jR _).mpr h.rise; rw [hR] at this; cases this
    | true =>
     have hR':=(TW.jR _).mp hR
     refine aM ⟨_,rfl,a,zs,rfl,s12 _ _ e,hA.same s12,hl,λb H3 hb s3=>⟨_,rfl,?_⟩⟩
     have s13:=s12.trans s3
     cases b with
     | false =>
      refine av (k false H3 ?_ s13)
      constructor
      ·intro h; cases h
      ·intro h; exact hb.mpr h.own
     | true =>
      have hO:=hb.mp rfl
      refine aM ⟨_,rfl,a,0,zs,rfl,s13 _ _ e,hA.same s13,by omega,λfd dn l H4 wk el s4=>?_⟩
      have s14:=s13.trans s4
      refine ⟨l,_,rfl,.inl (SqL.of el),_,rfl,a,_,rfl,.inr (SqT.of (s14 _ _ e)),rfl,k _ H4 ?_ s14⟩
      rw [decide_eq_true_eq,aL]
      have wa:=wk.all
      rw [aW] at wa
      constructor
      ·intro h
       injection h with h
       refine ⟨hR',hO,wa.mp ?_⟩
       simp only [cA,List.length_map] at h
       omega
      ·intro h
       have:=wa.mpr h.down
       simp only [cA,List.length_map]
       rw [this]
end
end TK
namespace L2
open PySem PySem.Spec PyProof.Rows
section
variable {X:Cx} {tg:Expr}
end
section
variable {X:Cx}
end
end L2
namespace L2
open PySem PyProof PyProof.Rows
section
variable {X:Cx} {pos:Pos}
end
end L2
namespace L2
open PySem PySem.Spec PyProof.Rows
noncomputable def uS (CX:CXT) (P:Program) (w:World) (K:PySem.W.Frag) (mg:Str→Option Value) (base:Heap) (N:List Str) (qual:Str) (scope:Scope) (f:Addr) (cd:Value) (cl:List (Str×Addr)) (A:Around) (outer:List Env) (s:Shared) (H:Hp) (E:XK):Cx where
 prog:=P
 w:=w
 K:=K
 mg:=mg
 base:=base
 A:=A.deeper (PySem.W.envX qual scope s.heap.objs.size f cd cl)
 N:=N
 s₀:=s
 H₀:=H
 env:=PySem.W.envX qual scope s.heap.objs.size f cd cl
 outer:=outer
 stack:=PySem.W.envX qual scope s.heap.objs.size f cd cl :: outer
 ex:=[]
 calm:=true
 fn:=λ_=>false
 pn:=[]
 xe:=λe s'=>wpAny (model P w) (A.deeper (PySem.W.envX qual scope s.heap.objs.size f cd cl)) (leaving (PySem.W.envX qual scope s.heap.objs.size f cd cl) e) (λ_ s''=>CX outer H s E e s'') (λe' s''=>CX outer H s E e' s'') s'
structure LaScope (ps:List Str) (scope:Scope) (cl:List (Str×Addr)):Prop where
 kind:scope.kind = .function
 co:scope.isCoroutine=false
 gen:scope.isGenerator=false
 nocell:∀ x∈scope.names,x.2 ≠ .cell
 par:∀ x∈ps,scope.names.lookup x=some .local
 nd:ps.Nodup
 has:∀ x,scope.names.lookup x=some .free→∃ c,cl.lookup x=some c
 inj:∀ x y c,cl.lookup x=some c→cl.lookup y=some c→x=y
structure Capt (base:Heap) (scope:Scope) (cl:List (Str×Addr)) (fs:List Str) (fv:List V):Prop where
 cell:∀ x c,cl.lookup x=some c→∃ v,base.IsCell c v
 len:fs.length=fv.length
 val:∀ (i:Nat) x v,fs[i]? = some x→fv[i]? = some v→scope.names.lookup x=some .free∧∃ c u,cl.lookup x=some c∧base.IsCell c (some u)∧aA v u
theorem pe:∀ (ps:List Str) (us:List Value),((ps.zip us).map (·.1)).Sublist ps
 | [],_=>by simp
 | _ :: _,[]=>by simp
 | p :: ps,u :: us=>by rw [List.zip_cons_cons,List.map_cons]; exact (pe ps us).cons₂ _
theorem mF {ps:List Str} {us:List Value} {i:Nat} {x:Str} {u:Value} (nd:ps.Nodup) (h1:ps[i]? = some x) (h2:us[i]? = some u):(ps.zip us).reverse.lookup x=some u:=by
 have mem:(x,u)∈(ps.zip us).reverse:=by
  rw [List.mem_reverse]
  exact List.mem_of_getElem? (i:=i) (by rw [List.getElem?_zip_eq_some]; exact ⟨h1,h2⟩)
 have nd2:((ps.zip us).reverse.map (·.1)).Nodup:=by
  rw [List.map_reverse]
  unfold List.Nodup
  rw [List.pairwise_reverse]
  exact (nd.sublist (pe ps us)).imp λh=>Ne.symm h
 generalize (ps.zip us).reverse=l at mem nd2
 induction l with
 | nil=>cases mem
 | cons a r ih =>
  obtain ⟨y,w⟩:=a
  rw [List.map_cons,List.nodup_cons] at nd2
  rcases List.mem_cons.mp mem with e | e
  ·cases e; rw [List.lookup_cons,beq_self_eq_true]
  ·have ne:x≠y:=λz=>nd2.1 (by rw [← z]; exact List.mem_map.mpr ⟨(x,u),e,rfl⟩)
   rw [List.lookup_cons,show (x == y)=false by simpa using ne]
   exact ih e nd2.2
section
variable {CX:CXT} {P:Program} {w:World} {K:PySem.W.Frag} {mg:Str→Option Value} {base:Heap} {k:Nat} {f c:Addr} {name qual:Str} {params:Arguments} {body:Expr} {scope:Scope} {cl:List (Str×Addr)} {pm ctv:Value} {ps fs:List Str} {fv:List V} {sp:Sp}
theorem sR {A:Around} {outer:List Env} {s:Shared} {H:Hp} {E:XK} {us:List Value} {vs:List V} {h₁:Heap} {tk:Nat} (S:LaScope ps scope cl) (C:Capt base scope cl fs fv) (hd:A.handled=none) (e0:Env0 P w K mg base A outer s H) (hl:vs.length=ps.length) (r:au vs us)
  (hns:h₁.Ns s.heap.objs.size (λx=>(ps.zip us).reverse.lookup x)) (hk:∀ b o,s.heap.get? b=some o→h₁.get? b=some o) :
  Inv (uS CX P w K mg base (ps++fs) qual scope f (.ref c) cl A outer s H E) [] (vs.map some++fv.map some) H { s with heap:=h₁,toks:=tk }:=by
 have noA:∀ b:Addr,b∉(uS CX P w K mg base (ps++fs) qual scope f (.ref c) cl A outer s H E).ex:=λb z=>absurd (show b∈([]:List Addr) from z) (by simp)
 have cellB:∀ c v,base.IsCell c v→h₁.IsCell c v∧H c=none∧c≠s.heap.objs.size:=λc v ⟨o,e,d⟩=>⟨⟨o,hk c o (e0.bs _ _ e).1,d⟩,(e0.bs _ _ e).2,Nat.ne_of_lt (Heap.lt_size (e0.bs _ _ e).1)⟩
 refine ⟨⟨e0.mod,S.kind,rfl,rfl,Nat.le_refl _,S.inj,λy hy=>?_,λy c h _=>absurd h (by simp [uS]),λ_=>hd,Around.frames_deeper e0.frames,.inr ⟨rfl,rfl⟩,λb z=>absurd z (noA b),e0.bs,e0.bsz,λb _ _=>noA b,λb z=>absurd z (noA b),e0.funs,e0.frf⟩,
  rfl,e0.bare,Un.kept hk,⟨_,hns,λi y v h1 h2 h3=>?_⟩,λy c h=>?_,e0.hok.fresh (Nat.le_refl _),λy c h=>?_,λp hp=>absurd (show p∈([]:List (Addr×Obj)) from hp) (by simp),e0.hok.kept hk,?_⟩
 ·have hy:scope.names.lookup y=some .cell∨scope.names.lookup y=some .free:=hy
  rcases hy with hy | hy
  ·exact absurd rfl (S.nocell _ (PySem.mem_of_lookup hy))
  ·exact S.has y hy
 ·have h1:(ps++fs)[i]? = some y:=h1
  by_cases hi:i<ps.length
  ·rw [List.getElem?_append_left hi] at h1
   rw [List.getElem?_append_left (by rw [List.length_map]; omega),List.getElem?_map] at h2
   cases e:vs[i]? with
   | none=>rw [e] at h2; cases h2
   | some a =>
    rw [e] at h2
    cases h2
    obtain ⟨u,hu,rv⟩:=r.get e
    exact ⟨u,rv,.inl ⟨S.par y (List.mem_of_getElem? h1),mF S.nd h1 hu⟩⟩
  ·rw [List.getElem?_append_right (by omega)] at h1
   rw [List.getElem?_append_right (by rw [List.length_map]; omega),List.length_map,hl,List.getElem?_map] at h2
   cases e:fv[i - ps.length]? with
   | none=>rw [e] at h2; cases h2
   | some a =>
    rw [e] at h2
    cases h2
    obtain ⟨g1,cc,u,g2,g3,rv⟩:=C.val _ _ _ h1 e
    exact ⟨u,rv,.inr ⟨.inr g1,cc,g2,(cellB _ _ g3).1⟩⟩
 ·obtain ⟨v,hv⟩:=C.cell y c h
  exact ⟨v,(cellB _ _ hv).1⟩
 ·obtain ⟨v,hv⟩:=C.cell y c h
  exact (cellB _ _ hv).2.1
 ·show _=(ps++fs).length
  rw [List.length_append,List.length_append,List.length_map,List.length_map,hl,C.len]
end
noncomputable def cdφ (c:Addr) (qual:Str) (h:Heap):Prop:=h.CodeRec (.ref c) qual
theorem mG {c:Addr} {qual:Str}:∀ h1 h2:Heap,cdφ c qual h1→(∀ o,h1.get? c=some o→h2.get? c=some o)→cdφ c qual h2:=λh1 h2 h k=>by
 obtain ⟨c',oc,vs,tq,e1,e2,e3⟩:=h
 cases e1
 exact ⟨c,oc,vs,tq,rfl,k _ e2,e3⟩
theorem sS {c:Addr} {qual:Str} {h:Heap} (x:cdφ c qual h):∃ o,h.get? c=some o:=by
 obtain ⟨c',oc,vs,tq,e1,e2,e3⟩:=x
 cases e1
 exact ⟨oc,e2⟩
noncomputable def db (H:Hp) (P:Addr) (qual:Str):Prop:=∃ ps:Array Value,H P=some (.tbl ps)∧TriplesOk ps.toList∧∀ pos cv,codeAmong pos ps.toList=some cv→∃ c,cv = .ref c∧H c=some (.ext (cdφ c qual))
theorem db.start {H:Hp} {P:Addr} {qual:Str} (h:H P=some (.tbl #[])):db H P qual:=⟨#[],h,trivial,λpos cv e=>by cases e⟩
theorem jv {pos:Pos} {a b:Int} {t u:Tok} {v cv:Value}:∀ {l:List Value},TriplesOk l→codeAmong pos (l++[.int a t,.int b u,v])=some cv→codeAmong pos l=some cv∨cv=v
 | [],_,h=>by
  have h:(if a == pos.line && b == pos.col then some v else codeAmong pos [])=some cv:=h
  split at h
  ·exact .inr (Option.some.inj h).symm
  ·cases h
 | .int x t1 :: .int y t2 :: c :: rest,ht,h=>by
  have h:(if x == pos.line && y == pos.col then some c else codeAmong pos (rest++[.int a t,.int b u,v]))=some cv:=h
  show (if x == pos.line && y == pos.col then some c else codeAmong pos rest)=some cv∨cv=v
  split at h
  ·rename_i e; rw [if_pos e]; exact .inl h
  ·rename_i e; rw [if_neg e]; exact jv (show TriplesOk rest from ht) h
theorem gv {a b:Int} {t u:Tok} {v:Value}:∀ {l:List Value},TriplesOk l→TriplesOk (l++[.int a t,.int b u,v])
 | [],_=>trivial
 | .int x t1 :: .int y t2 :: c :: rest,ht=>gv (l:=rest) ht
noncomputable def dc (P:Addr) (H H':Hp):Prop:=∀ b o,b≠P→H b=some o→H' b=some o
theorem dc.refl (P:Addr) (H:Hp):dc P H H:=λ_ _ _ h=>h
theorem dc.trans {P:Addr} {H1 H2 H3:Hp} (a:dc P H1 H2) (b:dc P H2 H3):dc P H1 H3:=λx o n h=>b x o n (a x o n h)
noncomputable def BmB (base:Heap) (mg:Str→Option Value):Prop:=∃ bm o,mg "__builtins__" = some (.ref bm)∧bm≠builtinsNs∧base.get? bm=some o∧o.cls = .type "module"∧o.dict=some builtinsNs∧o.data = .plain
section
variable {X:Cx} {pins:List (Addr×Obj)} {σ:St} {H:Hp} {s:Shared}
theorem Inv.tab {P:Addr} {ps more:Array Value} {h':Heap} {t':Nat} (I:Inv X pins σ H s) (hP:H P=some (.tbl ps)) (k:∀ b o,b≠P→s.heap.get? b=some o→h'.get? b=some o) (hP':h'.get? P=some { cls:=.none,data:=.fields (ps++more) }):Inv X pins σ (upd H P (.tbl (ps++more))) { s with heap:=h',toks:=t' }:=by
 have ne:∀ b,H b=none→b≠P:=λb n z=>by rw [z,hP] at n; cases n
 refine I.un (t':=t') ⟨λb o e n _ _=>k b o (ne b n) e,λb o e n _ _=>⟨o.slots,k b o (ne b n) e⟩,λb o e n _=>by rw [ag (ne b n)]; exact n,λb o e _=>?_,λb xs e=>?_,λb o u e=>?_,λb qs e=>?_⟩ λb u e=>?_
 ·by_cases hb:b=P
  ·rw [hb]; exact ⟨_,hP'⟩
  ·exact ⟨o,k b o hb e⟩
 ·rw [ag (λz=>by rw [z,hP] at e; cases e)]; exact e
 ·rw [ag (λz=>by rw [z,hP] at e; cases e)]; exact e
 ·by_cases hb:b=P
  ·subst hb
   rw [hP] at e
   cases e
   exact ⟨more,ac⟩
  ·exact ⟨#[],by rw [ag hb,e]; simp⟩
 ·by_cases hb:b=P
  ·subst hb
   rw [ac] at e
   cases e
   exact hP'
  ·rw [ag hb] at e
   refine (I.hok b u e).stay (λc v hc q=>k c v (λz=>?_) q) (λc q=>?_) λc xs q=>?_
   ·rcases hc with hc | hc
    ·exact hb (hc.symm.trans z)
    ·rw [z,hP] at hc; cases hc
   ·rw [ag (λz=>by rw [z,hP] at q; cases q)]; exact q
   ·rw [ag (λz=>by rw [z,hP] at q; cases q)]; exact q
theorem uT {c0 P:Addr} {params:Arguments} {body:Expr} {scope:Scope} {pos:Pos} {cl:List (Str×Addr)} {Q:Value→Shared→Prop} {E:Value→Shared→Prop} (I:Inv X pins σ H s) (C0:PySem.W.CodeHd X.base c0 P) (hc:X.env.code = .ref c0) (Bm:BmB X.base X.mg) (T:db H P (X.env.qual++"<lambda>"))
  (hdef:defaultsOf params X.env=([],[])) (hcl:closureFor scope X.env=pure cl)
  (h:∀ f c pm ctv H' s',dc P H H'→db H' P (X.env.qual++"<lambda>")→H' c=some (.ext (cdφ c (X.env.qual++"<lambda>")))→Inv X pins σ H' s'→s'.heap.get? f=some (PySem.W.kla_obj "<lambda>" (X.env.qual++"<lambda>") params body scope cl pm c ctv)→s.heap.objs.size≤f→H' f=none→(∀ b v,s.heap.IsCell b v→H b=none→s'.heap.IsCell b v)→Q (.ref f) s') :
  wpAny (model X.prog X.w) X.A (eval (.Lambda params body scope pos) X.env) Q E s:=by
 obtain ⟨ps,hP,ht,hq⟩:=T
 have hPs:s.heap.get? P=some (PySem.W.tabObj ps):=I.hok P _ hP
 have hg:s.heap.Ns mainGlobals X.mg:=I.ok.mod.glob.keeps I.bk
 have hgP:mainGlobals≠P:=λq=>by
  obtain ⟨o,es,ep,e,hd,_⟩:=I.ok.mod.glob
  have:=(I.bs _ _ e).2
  rw [q,hP] at this; cases this
 have hb:s.heap.BuiltinsAt X.mg P:=by
  obtain ⟨bm,ob,b1,b2,b3,b4,b5,b6⟩:=Bm
  refine ⟨bm,ob,b1,b2,λq=>?_,λq=>?_,I.bk _ _ b3,b4,b5,b6⟩
  ·obtain ⟨o,es,ep,e,hd,_⟩:=I.ok.mod.glob
   rw [q,e] at b3; cases b3; rw [hd] at b6; cases b6
  ·have:=(I.bs _ _ b3).2
   rw [q,hP] at this; cases this
 have C:=C0.keeps I.bk
 have cellP:∀ b v,s.heap.IsCell b v→H b=none→b≠P:=λb v _ n z=>by rw [z,hP] at n; cases n
 refine PySem.W.kla_eval hdef ?_
 cases ha:codeAmong pos ps.toList with
 | none =>
  refine PySem.W.kla_makeFunction (mg:=X.mg) hcl I.ok.glob hg hc C hPs ht ha hgP hb λc' ctv h' tk hx hge hlt hrec htb=>?_
  have J:=I.tab (t':=tk) (more:=#[rawInt pos.line,rawInt pos.col,.ref c']) (h':=h'.push (PySem.W.kla_obj "<lambda>" (X.env.qual++"<lambda>") params body scope cl ((X.mg "__name__").getD .none) c' ctv)) hP (λb o n e=>Heap.get?_push_of_some _ (hx b o n e)) (Heap.get?_push_of_some _ htb)
  have fr:H c'=none:=I.hok.fresh hge
  have ncP:c'≠P:=λz=>by rw [z,hP] at fr; cases fr
  have fr':upd H P (.tbl (ps ++ #[rawInt pos.line,rawInt pos.col,.ref c'])) c'=none:=by rw [ag ncP]; exact fr
  have hrec':cdφ c' (X.env.qual++"<lambda>") (h'.push (PySem.W.kla_obj "<lambda>" (X.env.qual++"<lambda>") params body scope cl ((X.mg "__name__").getD .none) c' ctv)):=mG _ _ hrec λo e=>Heap.get?_push_of_some _ e
  have Hq:dc P H (upd (upd H P (.tbl (ps ++ #[rawInt pos.line,rawInt pos.col,.ref c']))) c' (.ext (cdφ c' (X.env.qual++"<lambda>")))):=λb o n e=>by
   rw [ag (aw e fr),ag n]; exact e
  have sz:s.heap.objs.size≤h'.objs.size:=Nat.le_trans hge (Nat.le_of_lt hlt)
  have nfc:h'.objs.size≠c':=Nat.ne_of_gt hlt
  have frf:H h'.objs.size=none:=I.hok.fresh sz
  have nfP:h'.objs.size≠P:=λz=>by rw [z,hP] at frf; cases frf
  have J2:Inv X pins σ (upd (upd H P (.tbl (ps ++ #[rawInt pos.line,rawInt pos.col,.ref c']))) c' (.ext (cdφ c' (X.env.qual++"<lambda>")))) { s with heap:=h'.push (PySem.W.kla_obj "<lambda>" (X.env.qual++"<lambda>") params body scope cl ((X.mg "__name__").getD .none) c' ctv),toks:=tk }:=by
   refine ⟨J.ok,J.os,J.bare,⟨λb o e n hb hx=>J.base.keep b o e n hb hx,λb o e n hb hx=>J.base.slot b o e n hb hx,λb o e n hx=>?_,J.base.there,λb xs e=>?_,λb o u e=>?_,λb qs e=>?_⟩,J.loc,J.cell,?_,λx c e=>?_,λp hp=>?_,λb u e=>?_,J.len⟩
   ·have h1:=J.base.free b o e n hx
    have:b≠c':=Nat.ne_of_lt (Nat.lt_of_lt_of_le (Nat.lt_of_lt_of_le (Heap.lt_size e) I.sz) hge)
    rw [ag this]; exact h1
   ·have h1:=J.base.tups b xs e
    rw [ag (aw h1 fr')]; exact h1
   ·have h1:=J.base.frzs b o u e
    rw [ag (aw h1 fr')]; exact h1
   ·obtain ⟨m,h1⟩:=J.base.tbls b qs e
    exact ⟨m,by rw [ag (aw h1 fr')]; exact h1⟩
   ·rw [ag (Nat.ne_of_lt (Nat.lt_of_lt_of_le I.lt hge))]; exact J.free
   ·have h1:=J.freeC x c e
    obtain ⟨v,o,ho,_⟩:=I.cell x c e
    rw [ag (Nat.ne_of_lt (Nat.lt_of_lt_of_le (Heap.lt_size ho) hge))]; exact h1
   ·obtain ⟨g1,g2,g3,g4,g5⟩:=J.pin p hp
    obtain ⟨i1,_⟩:=I.pin p hp
    exact ⟨g1,by rw [ag (Nat.ne_of_lt (Nat.lt_of_lt_of_le (Heap.lt_size i1) hge))]; exact g2,g3,g4,g5⟩
   ·by_cases hb:b=c'
    ·subst hb
     rw [ac] at e
     cases e
     exact ⟨hrec',sS hrec',mG⟩
    ·rw [ag hb] at e
     exact (J.hok b u e).stay (λ_ _ _ q=>q) (λc q=>by rw [ag (aw q fr')]; exact q) λc xs q=>by rw [ag (aw q fr')]; exact q
  refine h h'.objs.size c' _ ctv _ _ Hq ⟨_,by rw [ag (Ne.symm ncP)]; exact ac,?_,λpos' cv e=>?_⟩ ac J2 (Heap.get?_push_size _ rfl) sz ?_ λb v ⟨o,ho,hd⟩ n=>⟨o,Heap.get?_push_of_some _ (hx b o (cellP b v ⟨o,ho,hd⟩ n) ho),hd⟩
  ·rw [Array.toList_append]; exact gv ht
  ·rw [Array.toList_append] at e
   rcases jv ht e with e | e
   ·obtain ⟨c,e1,e2⟩:=hq pos' cv e
    refine ⟨c,e1,Hq c _ (λz=>?_) e2⟩
    rw [z,hP] at e2; cases e2
   ·exact ⟨c',e,ac⟩
  ·rw [ag nfc,ag nfP]; exact frf
 | some cv =>
  obtain ⟨c,rfl,hcx⟩:=hq pos cv ha
  refine PySem.W.kla_makeFunctionHit (mg:=X.mg) hcl I.ok.glob hg hc C hPs ht ha hb λctv h' tk hk hsz=>?_
  have J:=I.kept (t':=tk) (h':=h'.push (PySem.W.kla_obj "<lambda>" (X.env.qual++"<lambda>") params body scope cl ((X.mg "__name__").getD .none) c ctv)) λb o e=>Heap.get?_push_of_some _ (hk b o e)
  exact h h'.objs.size c _ ctv H _ (dc.refl _ _) ⟨ps,hP,ht,hq⟩ hcx J (Heap.get?_push_size _ rfl) hsz (I.hok.fresh hsz) λb v ⟨o,ho,hd⟩ _=>⟨o,Heap.get?_push_of_some _ (hk b o ho),hd⟩
end
noncomputable def bB (X:Cx) (H:Hp) (s:Shared):Heap:=PySem.W.hideAll s.heap (trk s.heap H++frs X.stack)
section
variable {X:Cx} {pins:List (Addr×Obj)} {σ:St} {H:Hp} {s:Shared}
theorem sU {b:Addr} {o:Obj} (e:s.heap.get? b=some o) (n:H b=none) (nf:b∉frs X.stack):(bB X H s).get? b=some o :=
 PySem.W.hideAll_get _ e λhm=>by
  rcases List.mem_append.mp hm with hm | hm
  ·have q:(H b).isSome=true:=(List.mem_filter.mp hm).2
   rw [n] at q; simp at q
  ·exact nf hm
theorem sV {b:Addr} {o:Obj} (e:(bB X H s).get? b=some o):s.heap.get? b=some o∧H b=none∧b∉frs X.stack:=by
 have e':s.heap.get? b=some o:=PySem.W.of_hideAll (trk s.heap H++frs X.stack) e
 have hid:b∉trk s.heap H++frs X.stack:=λhm=>by
  have z:(bB X H s).get? b=none:=PySem.W.hideAll_none _ hm
  rw [z] at e; cases e
 refine ⟨e',?_,λhm=>hid (List.mem_append_right _ hm)⟩
 cases q:H b with
 | none=>rfl
 | some x=>exact absurd (List.mem_append_left _ (List.mem_filter.mpr ⟨List.mem_range.mpr (Heap.lt_size e'),by simp [q]⟩)) hid
theorem de {h base base':Heap}:∀ {l:List Env},h.FunFrames base l→(∀ b∈frs l,base'.get? b=none)→h.FunFrames base' l
 | [],_,_=>trivial
 | env :: rest,⟨k,⟨L,o,hf,hb,ho,hd⟩,r⟩,hn=>by
  have e:frs (env :: rest)=L :: frs rest:=by unfold frs; rw [List.filterMap_cons,hf]
  rw [e] at hn
  exact ⟨k,⟨L,o,hf,hn L List.mem_cons_self,ho,hd⟩,de r λb hb=>hn b (List.mem_cons_of_mem _ hb)⟩
theorem Inv.bsub (I:Inv X pins σ H s):∀ b o,X.base.get? b=some o→(bB X H s).get? b=some o:=λb o e=>by
 obtain ⟨h1,h2⟩:=I.bs b o e
 refine sU h1 h2 λhm=>?_
 have:=(I.stack.mem hm).1
 rw [e] at this; cases this
theorem Inv.env0B (I:Inv X pins σ H s):Env0 X.prog X.w X.K X.mg (bB X H s) X.A X.stack s H:=by
 have kp:=I.bsub
 obtain ⟨mb,hb,hbb⟩:=I.ok.mod.blt
 refine ⟨I.ok.frames,⟨I.ok.mod.kin.keeps kp,I.ok.mod.glob.keeps kp,⟨mb,hb.keeps kp,hbb⟩,I.ok.mod.nolimit.keeps kp⟩,λb o e=>⟨(sV e).1,(sV e).2.1⟩,Nat.le_of_eq (PySem.W.hideAll_size _ _),de I.stack λb hb=>?_,I.stkFree,I.hok,I.bare⟩
 cases q:(bB X H s).get? b with
 | none=>rfl
 | some o=>exact absurd hb (sV q).2.2
end
section
variable {CX:CXT} {P:Program} {w:World} {K:PySem.W.Frag} {mg:Str→Option Value} {base:Heap} {k:Nat} {f c:Addr} {name qual:Str} {params:Arguments} {body:Expr} {scope:Scope} {cl:List (Str×Addr)} {pm ctv:Value} {ps fs:List Str} {fv:List V} {sp:Sp}
theorem uU (ho:base.get? f=some (PySem.W.kla_obj name qual params body scope cl pm c ctv)) (hcd:∀ vs H Q E,sp vs H Q E→H c=some (.ext (cdφ c qual))) (S:LaScope ps scope cl) (C:Capt base scope cl fs fv) (len:∀ vs H Q E,sp vs H Q E→vs.length=ps.length)
  (hbody:∀ (A:Around) (outer:List Env) (s:Shared) (H:Hp) (vs:List V) (Q:VK) (E:XK),Room k (A.deeper (PySem.W.envX qual scope s.heap.objs.size f (.ref c) cl))→sp vs H Q E →
   ∃ t,PE (uS CX P w K mg base (ps++fs) qual scope f (.ref c) cl A outer s H E) body t∧t (vs.map some++fv.map some) H Q) :
  FnOk P w K mg base CX (k+1) f (PySem.W.kla_fn name qual params body scope cl pm (.ref c) ctv) ps sp:=by
 refine ⟨len,λA outer s H args us vs Q E hr e0 hb r hsp=>?_⟩
 have hl:=len _ _ _ _ hsp
 have kp:∀ b o,base.get? b=some o→s.heap.get? b=some o:=λb o e=>(e0.bs b o e).1
 have lim:s.heap.NoLimit:=e0.mod.nolimit.keeps kp
 have hcd':s.heap.CodeRec (.ref c) qual:=(e0.hok c _ (hcd _ _ _ _ hsp)).1
 refine PySem.W.kla_callFunE hr.depth (kp _ _ ho) rfl S.co S.gen rfl hcd' (hb _ _ _ _ ?_)
 refine wpAny_newFunctionEnv S.nocell (λx hx=>S.par _ (List.of_mem_zip hx).1) (λh₁ hns hsb=>?_) S.kind
 have hk₁:∀ b o,s.heap.get? b=some o→h₁.get? b=some o:=λb o e=>hsb.extBut b o (Nat.ne_of_lt (Heap.lt_size e)) (Heap.get?_push_of_some _ e)
 refine ⟨lim.keeps hk₁,PySem.W.kla_codeExpr ?_⟩
 obtain ⟨t,ht,hq⟩:=hbody A outer s H vs Q E (hr.deeper _) hsp
 have I:=sR (CX:=CX) (P:=P) (w:=w) (K:=K) (mg:=mg) (qual:=qual) (f:=f) (c:=c) (E:=E) (tk:=s.toks+(ps.zip us).length) S C hr.hd e0 hl r hns hk₁
 exact wpAny_mono (ht [] _ _ H _ I hq) (λu s' ⟨v,H',J,rv,q⟩=>⟨v,H',J.os,J.bare,J.base,J.hok,rv,q⟩) λe s' h=>h
end
section
variable {P:Program} {w:World} {H:Hp} {fs:List Addr} {s s1:Shared}
variable {K:PySem.W.Frag} {mg:Str→Option Value} {base:Heap} {A:Around} {outer:List Env} {k:Nat} {f:Addr} {fd:FuncData} {y:Str} {spK:Sp} {key:V→Str}
end
section
variable {X:Cx}
end
end L2
namespace L2
open PySem PySem.W PySem.Spec PyProof.Rows
theorem qx {α β:Type} {g:α→β} {ps qs:List β} (h:ps.Perm qs):∀ {zs:List α},zs.map g=qs→∃ ys:List α,ys.Perm zs∧ys.map g=ps:=by
 induction h with
 | nil=>intro zs e; exact ⟨zs,.refl _,e⟩
 | cons x _ ih =>
  intro zs e
  cases zs with
  | nil=>cases e
  | cons z zs =>
   rw [List.map_cons] at e
   injection e with e1 e2
   obtain ⟨ys,p,q⟩:=ih e2
   exact ⟨z :: ys,p.cons _,by rw [List.map_cons,e1,q]⟩
 | swap x y l =>
  intro zs e
  match zs,e with
  | a :: b :: zs,e =>
   rw [List.map_cons,List.map_cons] at e
   injection e with e1 e2
   injection e2 with e2 e3
   exact ⟨b :: a :: zs,.swap _ _ _,by rw [List.map_cons,List.map_cons,e1,e2,e3]⟩
 | trans _ _ ih1 ih2 =>
  intro zs e
  obtain ⟨ys,p,q⟩:=ih2 e
  obtain ⟨ws,p',q'⟩:=ih1 q
  exact ⟨ws,p'.trans p,q'⟩
theorem mJ:∀ {xs:List V} {us:List Value},au xs us→∃ zs:List (V×Value),zs.map (·.1)=xs∧zs.map (·.2)=us∧∀ z∈zs,aA z.1 z.2
 | _,_,.nil=>⟨[],rfl,rfl,λz h=>by cases h⟩
 | _,_,.cons (a:=x) (b:=u) r q=>by
  obtain ⟨zs,h1,h2,h3⟩:=mJ q
  refine ⟨(x,u) :: zs,by rw [List.map_cons,h1],by rw [List.map_cons,h2],λz hz=>?_⟩
  rcases List.mem_cons.mp hz with e | e
  ·rw [e]; exact r
  ·exact h3 z e
theorem ph:∀ {zs:List (V×Value)},(∀ z∈zs,aA z.1 z.2)→au (zs.map (·.1)) (zs.map (·.2))
 | [],_=>.nil
 | z :: zs,h=>.cons (h z List.mem_cons_self) (ph λy hy=>h y (List.mem_cons_of_mem _ hy))
theorem sW {b:Bool} {key:V→Int} {xs:List V} {vs out:List Value} (r:au xs vs) (h:KskOut b (xs.map key) vs out):∃ ys:List V,ys.Perm xs∧au ys out∧ys.Pairwise λx y=>if b then key y≤key x else key x≤key y:=by
 obtain ⟨ps,pp,rfl,pw⟩:=h
 obtain ⟨zs,rfl,rfl,hz⟩:=mJ r
 have e:zs.map (λz=>(key z.1,z.2))=((zs.map (·.1)).map key).zip (zs.map (·.2)):=by
  rw [List.map_map]
  clear hz pp pw r
  induction zs with
  | nil=>rfl
  | cons z zs ih=>rw [List.map_cons,List.map_cons,List.map_cons,List.zip_cons_cons,ih]; rfl
 obtain ⟨ys,p,rfl⟩:=qx pp e
 refine ⟨ys.map (·.1),p.map _,?_,?_⟩
 ·rw [List.map_map]
  exact ph λz hz'=>hz z (p.mem_iff.mp hz')
 ·rw [List.pairwise_map] at pw ⊢
  exact pw
structure KSg (P:Program) (w:World) (H H1:Hp) (fs:List Addr) (s s':Shared):Prop where
 os:s'.os=s.os
 bare:AllBare s'.gens
 hok:HOk P w H1 s'.heap
 un:Un fs [] H H1 s.heap s'.heap
theorem dW {base h h':Heap} {fs:List Addr} {H H1:Hp}:∀ {l:List Env},h.FunFrames base l→Un fs [] H H1 h h'→(∀ b∈frs l,H b=none)→h'.FunFrames base l
 | [],_,_,_=>trivial
 | env :: rest,⟨k,⟨L,o,hf,hb,ho,hd⟩,r⟩,u,hn=>by
  have e:frs (env :: rest)=L :: frs rest:=by unfold frs; rw [List.filterMap_cons,hf]
  rw [e] at hn
  obtain ⟨sl,q⟩:=u.any ho (hn L List.mem_cons_self) (by simp)
  exact ⟨k,⟨L,_,hf,hb,q,hd⟩,dW r u λb hb=>hn b (List.mem_cons_of_mem _ hb)⟩
section
variable {P:Program} {w:World} {H H1:Hp} {fs:List Addr} {s s1:Shared}
theorem KSg.low (h:KSg P w H H1 fs s s1) {Pv:Addr→Prop} (hp:∀ b,Pv b→s.heap.objs.size≤b∧H1 b=none) {h2:Heap} {t:Nat} (k:∀ b o,¬ Pv b→s1.heap.get? b=some o→h2.get? b=some o):KSg P w H H1 fs s { s1 with heap:=h2,toks:=t }:=by
 have old:∀ b o,s.heap.get? b=some o→¬ Pv b:=λb o e z=>absurd (Heap.lt_size e) (Nat.not_lt.mpr (hp b z).1)
 refine ⟨h.os,h.bare,λb u e=>(h.hok b u e).stay (λc v hc q=>k c v (λz=>?_) q) (λ_ q=>q) λ_ _ q=>q,⟨λb o e n hb hx=>k b o (old b o e) (h.un.keep b o e n hb hx),λb o e n hb hx=>?_,h.un.free,λb o e hx=>?_,h.un.tups,h.un.frzs,h.un.tbls⟩⟩
 ·have z':=(hp c z).2
  rcases hc with q | q
  ·rw [q,e] at z'; cases z'
  ·rw [q] at z'; cases z'
 ·obtain ⟨sl,q⟩:=h.un.slot b o e n hb hx
  exact ⟨sl,k b _ (old b o e) q⟩
 ·obtain ⟨o',q⟩:=h.un.there b o e hx
  exact ⟨o',k b o' (old b o e) q⟩
variable {K:PySem.W.Frag} {mg:Str→Option Value} {base:Heap} {A:Around} {outer:List Env} {k:Nat} {f:Addr} {fd:FuncData} {y:Str} {spK:Sp} {key:V→Int} {b:Bool} {Rl:Hp→Hp→Prop}
theorem qy (F:FnOk P w K mg base CX0 k f fd [y] spK) (hb:bq K fd [y] []) (hr:Room k A) (e0:Env0 P w K mg base A outer s H) (h:KSg P w H H1 (frs outer) s s1) (hsz:s.heap.objs.size≤s1.heap.objs.size) {x:V} {u:Value} (r:aA x u) (hsp:spK [x] H1 (λv H'=>v = .int (key x)∧Rl H1 H') E0) :
  wpAny (model P w) A (call (.ref f) [u]) (λv s2=>∃ H2,Rl H1 H2∧KSg P w H H2 (frs outer) s s2∧(∃ t,v = .int (key x) t)∧∀ b o,s.heap.objs.size≤b→H1 b=none→s1.heap.get? b=some o→s2.heap.get? b=some o∧H2 b=none) (λ_ _=>False) s1:=by
 have lowF:∀ b∈frs outer,b<s.heap.objs.size:=λb hb=>by
  obtain ⟨_,o,ho,_⟩:=e0.funs.mem hb
  exact Heap.lt_size ho
 have bs:∀ b o,base.get? b=some o→s1.heap.get? b=some o∧H1 b=none:=λb o e=>by
  obtain ⟨h1,h2⟩:=e0.bs b o e
  refine ⟨h.un.keep b o h1 h2 (λhm=>?_) (by simp),h.un.free b o h1 h2 (by simp)⟩
  have:=(e0.funs.mem hm).1
  rw [e] at this; cases this
 have e1:Env0 P w K mg base A outer s1 H1:=⟨e0.frames,e0.mod,bs,Nat.le_trans e0.bsz hsz,dW e0.funs h.un e0.frf,λb hb=>by
  obtain ⟨_,o,ho,_⟩:=e0.funs.mem hb
  exact h.un.free b o ho (e0.frf b hb) (by simp),h.hok,h.bare⟩
 have KX:K.In s1.heap:=e0.mod.kin.keeps λb o e=>(bs b o e).1
 have hb':=hb s1 [u] KX rfl
 refine wpAny_call (codeAny_mono (F.run A outer s1 H1 ⟨[u],[]⟩ [u] [x] _ E0 hr e1 hb' (.cons r .nil) hsp) λrs s2 hq=>?_)
 cases rs with
 | error e=>exact hq
 | ok fl =>
  cases fl with
  | next=>exact False.elim hq
  | brk=>exact False.elim hq
  | cont=>exact False.elim hq
  | ret v =>
   obtain ⟨x',H',os,bare,un,hok,rv,ev,eH⟩:=hq
   subst ev
   refine ⟨H',eH,⟨os.trans h.os,bare,hok,h.un.trans un⟩,rv,λb o hb' hn e=>⟨un.keep b o e hn (λhm=>?_) (by simp),un.free b o e hn (by simp)⟩⟩
   exact absurd (lowF b hm) (Nat.not_lt.mpr hb')
theorem qz (rl0:∀ H,Rl H H) (rl2:∀ H H' H'',Rl H H'→Rl H' H''→Rl H H'') (F:FnOk P w K mg base CX0 k f fd [y] spK) (hb:bq K fd [y] []) (hr:Room k A) (e0:Env0 P w K mg base A outer s H) {a:Addr} {vs:List Value} {xs:List V} {n:Nat} (h:KSg P w H H (frs outer) s s1) (ha:s.heap.objs.size≤a) (ho:s1.heap.get? a=some (seqObj "list" vs.toArray n)) (rv:au xs vs) (h64:xs.length<64)
  (hsp:∀ x∈xs,∀ H1,Rl H H1→spK [x] H1 (λv H'=>v = .int (key x)∧Rl H1 H') E0) {Q:PySem.Fin→Shared→Prop} {E:Value→Shared→Prop}
  (q:∀ (out:Array Value) s2 c H2,KskOut b (xs.map key) vs out.toList→Rl H H2→KSg P w H H2 (frs outer) s s2→H2 a=none→s2.heap.get? a=some (seqObj "list" out c)→Q (.done (.ret .none)) s2) :
  wpAny (model P w) A (ksk_tree a (.ref f) b) Q E s1:=by
 have lenV:=rv.length
 have s1':=Heap.SameBut.update s1.heap a (Obj.mapSeq λ_=>(#[]:Array Value))
 obtain ⟨e1,ho1⟩:∃ e1,(s1.heap.update a (Obj.mapSeq λ_=>(#[]:Array Value))).get? a=some (seqObj "list" #[] e1):=⟨_,get?_update_seq ho λ_=>#[]⟩
 have haL:a<s1.heap.objs.size:=Heap.lt_size ho
 have haH:H a=none:=e0.hok.fresh ha
 unfold ksk_tree
 refine wpAny_bind (listItems_at ho rfl (wpAny_bind (listUpdate_at ho rfl ?_ (by rw [List.size_toArray,sizeLine_eq]; omega) (Nat.zero_le _))))
 refine wpAny_bind (seqEpoch_at ho1 rfl (wpAny_bind (wpAny_newTuple ?_ (by show vs.length≤_; rw [sizeLine_eq]; omega))))
 refine wpAny_bind (wpAny_newList (wpAny_holding ?_) (Nat.zero_le _))
 have hkS:((s1.heap.update a (Obj.mapSeq λ_=>(#[]:Array Value))).push (seqObj "tuple" vs.toArray 0)).objs.size=s1.heap.objs.size+1:=by rw [size_push',Heap.size_update]
 have ho2:(((s1.heap.update a (Obj.mapSeq λ_=>(#[]:Array Value))).push (seqObj "tuple" vs.toArray 0)).push (seqObj "list" #[] 0)).get? a=some (seqObj "list" #[] e1):=Heap.get?_push_of_some _ (Heap.get?_push_of_some _ ho1)
 have hk2:(((s1.heap.update a (Obj.mapSeq λ_=>(#[]:Array Value))).push (seqObj "tuple" vs.toArray 0)).push (seqObj "list" #[] 0)).get? (s1.heap.objs.size+1)=some (seqObj "list" #[] 0):=by rw [← hkS]; exact Heap.get?_push_size _ rfl
 have K2:KSg P w H H (frs outer) s { s1 with heap:=((s1.heap.update a (Obj.mapSeq λ_=>(#[]:Array Value))).push (seqObj "tuple" vs.toArray 0)).push (seqObj "list" #[] 0),toks:=s1.toks }:=h.low (Pv:=λb=>b=a) (λb z=>by rw [z]; exact ⟨ha,haH⟩) λb o hb e=>Heap.get?_push_of_some _ (Heap.get?_push_of_some _ ((s1'.2 b hb).trans e))
 show wpAny (model P w) A (ksk_rest a (.ref f) b vs.toArray e1 (.ref ((s1.heap.update a (Obj.mapSeq λ_=>(#[]:Array Value))).push (seqObj "tuple" vs.toArray 0)).objs.size)) Q E { s1 with heap:=((s1.heap.update a (Obj.mapSeq λ_=>(#[]:Array Value))).push (seqObj "tuple" vs.toArray 0)).push (seqObj "list" #[] 0) }
 rw [hkS]
 have hka:s1.heap.objs.size+1≠a:=Nat.ne_of_gt (Nat.lt_succ_of_lt haL)
 have hkl:s.heap.objs.size≤s1.heap.objs.size+1:=Nat.le_succ_of_le (Nat.le_trans ha (Nat.le_of_lt haL))
 generalize hh:({ s1 with heap:=((s1.heap.update a (Obj.mapSeq λ_=>(#[]:Array Value))).push (seqObj "tuple" vs.toArray 0)).push (seqObj "list" #[] 0) }:Shared)=s2
 have ho3:s2.heap.get? a=some (seqObj "list" #[] e1):=by rw [← hh]; exact ho2
 have hk3:s2.heap.get? (s1.heap.objs.size+1)=some (seqObj "list" #[] 0):=by rw [← hh]; exact hk2
 have K3:KSg P w H H (frs outer) s s2:=by rw [← hh]; exact K2
 generalize s1.heap.objs.size+1=kS at hka hkl hk3 ⊢
 clear K2 hk2 ho2 hkS ho1 s1' hh
 unfold ksk_rest
 refine wpAny_bind (wpAny_rule ?_)
 rw [← Array.forIn_toList]
 refine wpAny_bind (ksk_fold (λi s'=>∃ H1,Rl H H1∧KSg P w H H1 (frs outer) s s'∧H1 a=none∧H1 kS=none∧s'.heap.get? a=some (seqObj "list" #[] e1)∧∃ kA c,s'.heap.get? kS=some (seqObj "list" kA c)∧IntsAre kA.toList ((xs.take i).map key)) vs.toArray.toList 0 s2 ⟨H,rl0 H,K3,haH,e0.hok.fresh hkl,ho3,#[],0,hk3,by rw [List.take_zero]; exact .nil⟩ ?step ?done)
 case step =>
  rintro j u s' hu ⟨H1,rl1,K4,na4,nk4,ho4,kA,c,hk4,hka4⟩
  rw [List.toList_toArray] at hu
  rw [Nat.zero_add] at hka4 ⊢
  have hj:j<vs.length:=(List.getElem?_eq_some_iff.mp hu).1
  have hjx:j<xs.length:=by omega
  have rj:aA xs[j] u:=by
   obtain ⟨u',h1,h2⟩:=rv.get (List.getElem?_eq_getElem hjx)
   rw [hu] at h1; cases h1; exact h2
  have hz:kA.size≤vs.length:=by
   have h1:=hka4.length
   rw [Array.length_toList,List.length_map,List.length_take] at h1
   omega
  refine wpAny_bind (wpAny_attempt (wpAny_mono (qy F hb hr e0 K4 (Nat.le_of_lt (Nat.lt_of_le_of_lt hkl (Heap.lt_size hk4))) rj (hsp _ (List.getElem_mem hjx) H1 rl1)) (λv s3 hv=>?_) λ_ _ z=>z.elim))
  obtain ⟨H2,rl12,K5,⟨t,rfl⟩,kp⟩:=hv
  obtain ⟨hk5,nk5⟩:=kp _ _ hkl nk4 hk4
  obtain ⟨ho5,na5⟩:=kp _ _ ha na4 ho4
  have sb:=Heap.SameBut.update s3.heap kS (Obj.mapSeq (·.push (Value.int (key xs[j]) t)))
  dsimp only
  refine wpAny_bind (listUpdate_at hk5 rfl ?_ (by rw [sizeLine_eq]; omega) (Nat.le_trans (Nat.le_of_eq (Array.size_push ..)) (by rw [sizeLine_eq]; omega)))
  refine wpAny_pure ⟨rfl,H2,rl2 _ _ _ rl1 rl12,K5.low (t:=s3.toks) (Pv:=λb=>b=kS) (λb z=>by rw [z]; exact ⟨hkl,nk5⟩) λb o hb' e=>(sb.2 b hb').trans e,na5,nk5,(sb.2 a (Ne.symm hka)).trans ho5,kA.push (.int (key xs[j]) t),_,get?_update_seq hk5 (·.push (Value.int (key xs[j]) t)),?_⟩
  rw [List.take_add_one,List.getElem?_eq_getElem hjx,Array.toList_push,List.map_append]
  exact ksk_snoc hka4
 case done =>
  rintro s' ⟨H1,rl1,K4,na4,nk4,ho4,kA,c,hk4,hka4⟩
  have hka5:IntsAre kA.toList (xs.map key):=by
   rw [Nat.zero_add,List.take_of_length_le (by rw [List.toList_toArray]; omega)] at hka4
   exact hka4
  have kz:kA.size=vs.length:=by
   have h1:=hka5.length
   rw [Array.length_toList,List.length_map] at h1
   omega
  refine wpAny_bind (listItems_at hk4 rfl ?_)
  have hzs:(kA.zip vs.toArray).size=vs.length:=by rw [Array.size_zip,kz,List.size_toArray,Nat.min_self]
  have fin:∀ (st:SortSt),(arrOf st).Perm (kA.zip vs.toArray)→SortedTo (arrOf st) (arrOf st).size→failedOf st=none→wpAny (model P w) A (ksk_tail a b e1 (.ref kS) st) Q E s':=λst hp hs hfl=>by
   have hsz2:(arrOf st).size=vs.length:=by rw [hp.size_eq,hzs]
   have hout:(if b then ((arrOf st).map (·.2)).reverse else (arrOf st).map (·.2)).size=vs.length:=by
    cases b with
    | false=>simp only [Bool.false_eq_true,if_false,Array.size_map]; exact hsz2
    | true=>simp only [if_true,Array.size_reverse,Array.size_map]; exact hsz2
   have sb:=Heap.SameBut.update s'.heap kS (Obj.mapSeq λ_=>(#[]:Array Value))
   have ho6:=(sb.2 a (Ne.symm hka)).trans ho4
   have sb2:=Heap.SameBut.update (s'.heap.update kS (Obj.mapSeq λ_=>(#[]:Array Value))) a (Obj.mapSeq λ_=>if b then ((arrOf st).map (·.2)).reverse else (arrOf st).map (·.2))
   unfold ksk_tail
   try dsimp only
   refine wpAny_bind (listUpdate_at hk4 rfl (wpAny_bind (wpAny_letGo (wpAny_bind (seqEpoch_at ho6 rfl ?_)))) (by rw [kz,sizeLine_eq]; omega) (Nat.zero_le _))
   refine wpAny_bind (listUpdate_at ho6 rfl ?_ (Nat.zero_le _) (Nat.le_trans (Nat.le_of_eq hout) (by rw [sizeLine_eq]; omega)))
   rw [hfl]
   simp only [bne_self_eq_false,Bool.false_eq_true,if_false]
   refine wpAny_pure (q _ _ _ H1 (ksk_out hka5 hp hs) rl1 (K4.low (t:=s'.toks) (Pv:=λb=>b=a∨b=kS) (λb' z=>z.elim (λz=>by rw [z]; exact ⟨ha,na4⟩) λz=>by rw [z]; exact ⟨hkl,nk4⟩) λb' o hb' e=>?_) na4 (get?_update_seq ho6 _))
   exact (sb2.2 b' λz=>hb' (.inl z)).trans ((sb.2 b' λz=>hb' (.inr z)).trans e)
  have step:∀ t:Sem PySem.Fin,wpAny (model P w) A t Q E s'→wpAny (model P w) A (if b=true then (do let _ ← rule "list.sort.reverse"; t) else t) Q E s':=by
   intro t ht
   split
   ·exact wpAny_bind (wpAny_rule ht)
   ·exact ht
  have hstart:(if b=true then (kA.zip vs.toArray).reverse else kA.zip vs.toArray).Perm (kA.zip vs.toArray):=by
   cases b with
   | false=>exact Array.Perm.refl _
   | true=>exact Array.perm_iff_toList_perm.mpr (by rw [if_pos rfl,Array.toList_reverse]; exact List.reverse_perm _)
  unfold ksk_end
  try dsimp only
  refine step _ ?_
  by_cases h2:vs.toArray.size<2
  ·rw [if_pos h2,if_pos h2]
   refine wpAny_bind (wpAny_pure ?_)
   rw [StateT.run_pure]
   refine wpAny_bind (wpAny_pure ?_)
   try dsimp only
   refine fin (SortSt.mk' general' (if b=true then (kA.zip vs.toArray).reverse else kA.zip vs.toArray) #[] 7 none) hstart (λi j hij hj=>?_) rfl
   have hj2:j<(if b=true then (kA.zip vs.toArray).reverse else kA.zip vs.toArray).size:=hj
   rw [hstart.size_eq,hzs] at hj2
   rw [List.size_toArray] at h2
   have:i=j:=by omega
   subst this
   exact Int.le_refl _
  ·rw [if_neg h2,if_neg h2]
   rw [List.size_toArray] at h2
   rw [ksk_kind hka5 (by rw [kz]; omega)]
   refine wpAny_bind (wpAny_pure ?_)
   refine wpAny_bind (wpAny_mono (wpS_sortRuns (a₀:=kA.zip vs.toArray) (st:=SortSt.mk' oneType' (if b=true then (kA.zip vs.toArray).reverse else kA.zip vs.toArray) #[] 7 none)
    (Q:=λ_ st'=>(arrOf st').Perm (kA.zip vs.toArray)∧failedOf st'=none∧SortedTo (arrOf st') (kA.zip vs.toArray).size)
    (ksk_intKeys hka5) ⟨hstart,rfl,rfl,rfl⟩ (by rw [hzs]; omega) (by rw [hzs]; omega) λst' a1 a2 a3=>⟨a1,a2,a3⟩) ?_ λ_ _ e=>e)
   rintro ⟨⟨⟩,st'⟩ s'' ⟨rfl,hp,hf,hs⟩
   try dsimp only
   exact fin st' hp (by rw [hp.size_eq]; exact hs) hf
end
theorem nU {X:Cx} {pins:List (Addr×Obj)} {σ:St} {H:Hp} {s:Shared} {h1:Heap} {tk k:Nat} {f:Addr} {fd:FuncData} {y:Str} {spK:Sp} {key:V→Int} {b:Bool} {Rl:Hp→Hp→Prop} {its:List Value} {xs:List V} {kw:List (Str×Value)} {E:Value→Shared→Prop} {Q:VK} (rl0:∀ H,Rl H H) (rl2:∀ H H' H'',Rl H H'→Rl H' H''→Rl H H'')
  (J:Inv X pins σ H s) (hk1:∀ b o,s.heap.get? b=some o→h1.get? b=some o) (hz1:s.heap.objs.size≤h1.objs.size) (rv:au xs its) (h64:xs.length<64) (F:FnOk X.prog X.w X.K X.mg (bB X H s) CX0 k f fd [y] spK) (hb:bq X.K fd [y] []) (hr:Room (k+2) X.A)
  (kt:∀ a,Builtin.«list.sort» ⟨[.ref a],kw⟩=ksk_tree a (.ref f) b) (ka:∀ a,argsOk "list.sort" ⟨[a],kw⟩)
  (hsp:∀ x∈xs,∀ H1,Rl H H1→spK [x] H1 (λv H'=>v = .int (key x)∧Rl H1 H') E0)
  (q:∀ D ys H2,ys.Perm xs→ys.Pairwise (λx y=>if b then key y≤key x else key x≤key y)→Rl H H2→H2 D=none→Q (.ref D) (upd H2 D (.lst ys))) :
  wpAny (model X.prog X.w) X.A.in1 (do
   let l ← newList its
   let _ ← holding [l] (call (.builtin "list.sort") [l] kw)
   ret l) (λfin s'=>∃ v,fin = .done (.ret v)∧EP X pins σ Q v s') E { s with heap:=h1,toks:=tk }:=by
 have lenV:=rv.length
 refine wpAny_bind (wpAny_newList ?_ (by rw [sizeLine_eq]; omega))
 have hoL:(h1.push (seqObj "list" its.toArray 0)).get? h1.objs.size=some (seqObj "list" its.toArray 0):=Heap.get?_push_size _ rfl
 have K0:KSg X.prog X.w H H (frs X.stack) s s:=⟨rfl,J.bare,J.hok,Un.refl⟩
 have K1:=K0.low (t:=tk) (h2:=h1.push (seqObj "list" its.toArray 0)) (Pv:=λ_=>False) (λ_ z=>z.elim) λb o _ e=>Heap.get?_push_of_some _ (hk1 b o e)
 show wpAny _ _ _ _ _ { s with heap:=h1.push (seqObj "list" its.toArray 0),toks:=tk }
 refine wpAny_bind (wpAny_holding (wpAny_call_entry_kw slot_list_sort ⟨_,hoL,rfl⟩ entry_list_sort ?_ (ka _)))
 show wpAny _ _ (Builtin.«list.sort» ⟨[.ref h1.objs.size],kw⟩) _ _ _
 rw [kt]
 refine qz (b:=b) (key:=key) rl0 rl2 F hb hr.in1.in1 J.env0B.in1.in1 K1 hz1 hoL rv h64 hsp λout s3 cc H2 ko rl K3 fD hD=>⟨_,rfl,wpAny_pure ⟨_,rfl,?_⟩⟩
 obtain ⟨ys,yp,yv,yw⟩:=sW rv ko
 have nL:ys.length=xs.length:=yp.length_eq
 have un:Un (frs X.stack) [] H (upd H2 h1.objs.size (.lst ys)) s.heap s3.heap:=by
  refine ⟨K3.un.keep,K3.un.slot,λb o e n hx=>?_,K3.un.there,λb xs e=>?_,λb o u e=>?_,λb ps e=>?_⟩
  ·rw [ag (Nat.ne_of_lt (Nat.lt_of_lt_of_le (Heap.lt_size e) hz1))]; exact K3.un.free b o e n hx
  ·have e:=K3.un.tups _ _ e
   rw [ag (aw e fD)]; exact e
  ·have e:=K3.un.frzs _ _ _ e
   rw [ag (aw e fD)]; exact e
  ·obtain ⟨m,e⟩:=K3.un.tbls _ _ e
   exact ⟨m,by rw [ag (aw e fD),e]⟩
 have hok:HOk X.prog X.w (upd H2 h1.objs.size (.lst ys)) s3.heap:=λb u e=>by
  by_cases hb:b=h1.objs.size
  ·subst hb
   rw [ac] at e
   cases e
   exact ⟨by rw [nL,sizeLine_eq]; omega,_,cc,yv,by rw [Array.toArray_toList]; exact hD⟩
  ·rw [ag hb] at e
   exact (K3.hok b u e).stay (λ_ _ _ z=>z) (λc z=>by rw [ag (aw z fD)]; exact z) λc xs z=>by rw [ag (aw z fD)]; exact z
 have J3:=J.call' (s':=s3) (ch:=[]) K3.os un hok K3.bare λb z=>absurd z (by simp)
 exact ⟨.ref h1.objs.size,_,J3,rfl,q _ _ _ yp yw rl fD⟩
end L2
namespace L2
open PySem PySem.Spec PyProof.Rows
noncomputable def sX (P:Addr) (qual:Str) (spK:Addr→Addr→Sp) (key:Hp→V→Int) (Q:VK):List V→Hp→Prop
 | [v],H1=>∃ l xs,v = .ref l∧H1 l=some (.lst xs)∧xs.length<64∧db H1 P qual∧∀ f c H',dc P H1 H'→db H' P qual→H' c=some (.ext (cdφ c qual)) →
  (∀ x∈xs,spK f c [x] H' (λv H2=>v = .int (key H' x)∧H2=H') E0)∧∀ D ys,ys.Perm xs→ys.Pairwise (λa b=>key H' a≤key H' b)→H' D=none→Q (.ref D) (upd H' D (.lst ys))
 | _,_=>False
noncomputable def xh (P:Addr) (qual:Str) (spK:Addr→Addr→Sp) (key:Hp→V→Int) (te:TE):TE:=λσ H Q=>te σ H λv H1=>sX P qual spK key Q [v] H1
section
variable {X:Cx}
theorem sY {P c0:Addr} {k:Nat} {y:Str} {p lpos kpos pos:Pos} {params:Arguments} {body:Expr} {scope:Scope} {qual:Str} {spK:Addr→Addr→Sp} {key:Hp→V→Int} {e:Expr} {te:TE}
  (C0:PySem.W.CodeHd X.base c0 P) (hc:X.env.code = .ref c0) (Bm:BmB X.base X.mg) (hq:X.env.qual++"<lambda>" = qual) (hdef:defaultsOf params X.env=([],[])) (hcl:closureFor scope X.env=pure [])
  (hK:∀ (base':Heap) (f c:Addr) (pm ctv:Value),(∀ b o,X.base.get? b=some o→base'.get? b=some o)→base'.get? f=some (PySem.W.kla_obj "<lambda>" qual params body scope [] pm c ctv)→FnOk X.prog X.w X.K X.mg base' CX0 k f (PySem.W.kla_fn "<lambda>" qual params body scope [] pm (.ref c) ctv) [y] (spK f c))
  (hbn:∀ (pm ctv:Value) (c:Addr),bq X.K (PySem.W.kla_fn "<lambda>" qual params body scope [] pm (.ref c) ctv) [y] [])
  (hr:Room (k+2) X.A) (hg:Gl X "sorted") (hm:X.mg "sorted" = none) (he:PE X e te)
  (hse:starEach [e] X.env=(false,eval e X.env) :: starEach [] X.env:=by rfl) (hpl:(backTo pos (starEach [e] X.env)).any (·.1)=false:=by rfl) :
  PE X (.Call (.Name "sorted" p) [e] [⟨some "key",.Lambda params body scope lpos,kpos⟩] pos) (xh P qual spK key te):=by
 intro pins s σ H Q I h
 subst hq
 refine wpAny_Call_Name_kw (dz I hg hm PyProof.Rows.boot_sorted ?_ (by decide) (by decide))
 refine PyProof.Rows.callWith_kw ?_ (by rw [hse]; rfl) hpl rfl rfl
 refine thn (aa he ae hse pos pins s σ H (sX P (X.env.qual++"<lambda>") spK key Q) I h) λus s1 hpt=>?_
 obtain ⟨vs,H1,I1,r,q0⟩:=hpt
 obtain ⟨v,rfl⟩:∃ v,vs=[v]:=by
  match vs,q0 with
  | [v],_=>exact ⟨v,rfl⟩
 obtain ⟨l,xs,rfl,hl,h64,T,q⟩:=q0
 obtain ⟨u,rfl,ru⟩:=cy r
 cases ru
 show wpAny _ _ (evalAll [(do let v ← eval (.Lambda params body scope lpos) X.env; standAt pos; pure v)]) _ _ s1
 refine wpAny_evalAll_cons (wpAny_bind (uT I1 C0 hc Bm T hdef hcl λf c pm ctv H' s2 off tq hc' J ho hsz hf hcell=>wpAny_bind (wpAny_standAt (wpAny_pure (wpAny_evalAll_nil ?_)))))
 obtain ⟨hsp,qq⟩:=q f c H' off tq hc'
 have hl2:H' l=some (.lst xs):=off l _ (λz=>by obtain ⟨ps,hP,_⟩:=T; rw [z,hP] at hl; cases hl) hl
 have nf:f∉frs X.stack:=λhm=>by
  rcases List.mem_cons.mp (I1.stkSub f hm) with z | z
  ·have:=I1.lt; rw [← z] at this; exact absurd this (Nat.not_lt.mpr hsz)
  ·exact I1.nofs hsz z
 obtain ⟨_,its,n,rv,hol⟩:=J.hok l _ hl2
 have lenV:=rv.length
 show wpAny _ _ (call (.builtin "sorted") [.ref l] [("key",.ref f)]) _ _ s2
 refine call_function_entry_kw kind_sorted plain_sorted entry_sorted (ksk_s1 _ _) ?_
 unfold Builtin.«sorted»
 refine wpAny_bind (m:=checkCount "sorted" 1 1 _) (wpAny_pure (wpAny_bind (collect_list ⟨_,hol,rfl,n,rfl⟩ ?_ (by rw [sizeLine_eq]; omega))))
 refine nU (key:=key H') (b:=false) (Rl:=λa b=>b=a) (tk:=s2.toks) (λ_=>rfl) (λ_ _ _ a b=>b.trans a) J (λb o e=>?_) (by rw [Heap.size_update,size_push']; exact Nat.le_succ _) rv h64 (hK _ f c pm ctv J.bsub (sU ho hf nf)) (hbn pm ctv c) hr (λ_=>rfl) (λ_=>ksk_l1 _ _) (λx hx H1 e=>?_) λD ys H2 yp yw e fD=>?_
 ·rw [Heap.get?_update_ne _ _ _ _ (Nat.ne_of_lt (Heap.lt_size e)),Heap.get?_push_ne _ _ _ (Nat.ne_of_lt (Heap.lt_size e))]
  exact e
 ·subst e
  exact hsp x hx
 ·subst e
  exact qq D ys yp (by simpa using yw) fD
end
theorem qA {P:Program} {w:World} {K:PySem.W.Frag} {mg mb:Str→Option Value} {k:Nat} {fa a:Addr} {fd:FuncData} {x:Str} {sp:Sp} {s₁:Shared} {vs:List Value} {ns:List Int} {tabs:List Addr}
  (KX:K.In s₁.heap) (hns:s₁.heap.Ns mainGlobals mg) (hb:s₁.heap.Ns builtinsNs mb) (hbb:∀ x:Str,x≠"__name__"→mb x=bootBuiltins x) (hlim:s₁.heap.NoLimit) (hg:s₁.gens = #[])
  (hT:∀ t∈tabs,(∃ c,PySem.W.CodeHd s₁.heap c t)∧s₁.heap.get? t=some (PySem.W.tabObj #[])) (hKT:∀ t∈tabs,K.lookup t=none) (hbm:BmB s₁.heap mg)
  (ha:s₁.heap.get? a=some { cls:=.type "list",data:=.seq vs.toArray }) (hi:IntsAre vs ns) (hl:ns.length≤sizeLine) (hr:Room k callerA)
  (F:∀ base:Heap,K.In base→base.Ns mainGlobals mg→BmB base mg→FnOk P w K mg base CX0 k fa fd [x] sp) (hbind:∀ (s:Shared) (u:Value),BindsTo s fd ⟨[u],[]⟩ [(x,u)])
  (hsp:∀ H:Hp,SqL K H a (ns.map V.int)→(∀ t∈tabs,H t=some (.tbl #[]))→sp [.ref a] H (λv _=>v = .bl true) λ_ _ _=>False) :
  codeAny (model P w) callerA (.call (.ref fa) ⟨[.ref a],[]⟩) (λr s'=>r = .ok (.ret (.bool true))∧OldK s₁.heap s'.heap∧s'.os=s₁.os∧AllBare s'.gens) s₁:=by
 have rv:=jc hi
 have lenV:=hi.length
 have naT:a∉tabs:=λh=>by
  have:=(hT a h).2
  rw [ha] at this; cases this
 have core:∀ (H:Hp),SqL K H a (ns.map V.int)→HOk P w H s₁.heap→(∀ t∈tabs,H t=some (.tbl #[]))→(∀ b o,H b=some o→(b=a∧K.lookup a=none∧∃ ob xs,o = .frz ob (.lst xs))∨b∈tabs) →
   codeAny (model P w) callerA (.call (.ref fa) ⟨[.ref a],[]⟩) (λr s'=>r = .ok (.ret (.bool true))∧OldK s₁.heap s'.heap∧s'.os=s₁.os∧AllBare s'.gens) s₁:=by
  intro H hS hok hTt hA
  have base_of:∀ {b:Addr} {o:Obj},s₁.heap.get? b=some o→H b=none→(iE s₁.heap H).get? b=some o:=λe n=>qB e n
  have noA:∀ {b:Addr} {o:Obj} {es:Array DictEntry} {ep:Nat},s₁.heap.get? b=some o→o.data = .dict es ep→H b=none:=λ{b o es ep} e d=>by
   cases q:H b with
   | none=>rfl
   | some u =>
    rcases hA b u q with ⟨e',_⟩ | hm
    ·subst e'
     rw [ha] at e; cases e; cases d
    ·rw [(hT b hm).2] at e; cases e; cases d
  have nsK:∀ {b:Addr} {m:Str→Option Value},s₁.heap.Ns b m→(iE s₁.heap H).Ns b m:=λ{b m} ⟨o,es,ep,e,d,r⟩=>⟨o,es,ep,base_of e (noA e d),d,r⟩
  have hKb:K.In (iE s₁.heap H):=λb o e=>base_of (KX b o e) (by
   cases q:H b with
   | none=>rfl
   | some u =>
    rcases hA b u q with ⟨e',hk,_⟩ | hm
    ·subst e'; rw [hk] at e; cases e
    ·rw [hKT b hm] at e; cases e)
  have hM:Mod K mg (iE s₁.heap H):=⟨hKb,nsK hns,⟨mb,nsK hb,hbb⟩,let ⟨mc,h1,h2⟩:=hlim; ⟨mc,nsK h1,h2⟩⟩
  have e0:Env0 P w K mg (iE s₁.heap H) callerA [] s₁ H:=⟨rfl,hM,λb o e=>tF e,Nat.le_of_eq (pA _ _),trivial,λb hb=>absurd (show b∈([]:List Addr) from hb) (by simp),hok,.of_eq hg⟩
  have hBm:BmB (iE s₁.heap H) mg:=by
   obtain ⟨bm,o,b1,b2,b3,b4,b5,b6⟩:=hbm
   refine ⟨bm,o,b1,b2,base_of b3 ?_,b4,b5,b6⟩
   cases q:H bm with
   | none=>rfl
   | some u =>
    rcases hA bm u q with ⟨e',_⟩ | hm
    ·subst e'
     rw [ha] at b3; cases b3; cases b6
    ·rw [(hT bm hm).2] at b3; cases b3; cases b6
  refine codeAny_mono ((F _ hKb (nsK hns) hBm).run callerA [] s₁ H ⟨[.ref a],[]⟩ [.ref a] [.ref a] _ _ hr e0 (hbind s₁ (.ref a)) (.cons rfl .nil) (hsp H hS hTt)) λr s' h=>?_
  cases r with
  | error e=>exact False.elim h
  | ok fl =>
   cases fl with
   | next=>exact False.elim h
   | brk=>exact False.elim h
   | cont=>exact False.elim h
   | ret u =>
    obtain ⟨v,H',os,bare,un,hok',r',q⟩:=h
    have q':v = .bl true:=q
    subst q'
    obtain rfl:u=Value.bool true:=r'
    refine ⟨rfl,⟨λb o e=>?_,λb o e=>?_⟩,os,bare⟩
    ·cases q:H b with
     | none=>exact .inl (un.keep b o e q (by intro z; exact absurd (show b∈([]:List Addr) from z) (by simp)) (by simp))
     | some u =>
      rcases hA b u q with ⟨e',_,ob,xs,z⟩ | hm
      ·subst z
       have z2:=un.frzs b ob _ q
       obtain ⟨e1,_⟩:=hok b _ q
       obtain ⟨e2,_⟩:=hok' b _ z2
       rw [e] at e1; cases e1
       exact .inl e2
      ·obtain ⟨⟨c,C⟩,e1⟩:=hT b hm
       obtain ⟨more,e2⟩:=un.tbls b _ (hTt b hm)
       have e3:s'.heap.get? b=some (PySem.W.tabObj (#[]++more)):=hok' b _ e2
       rw [e] at e1; cases e1
       exact .inr (.inl ⟨(C.tab e).isCodeTable,rfl,#[],more,rfl,e3⟩)
    ·exact un.there b o e (by simp)
 cases hk:K.lookup a with
 | some o =>
  have e:=KX a o hk
  rw [ha] at e
  cases e
  refine core (λb=>if b∈tabs then some (.tbl #[]) else none) (.inr ⟨_,vs.toArray,_,hk,rfl,rfl,rfl,by rw [List.size_toArray,lenV]; exact hl,by simpa using rv⟩) (λb u z=>?_) (λt h=>if_pos h) λb o z=>?_
  ·by_cases hb:b∈tabs
   ·have z':=(if_pos hb).symm.trans z
    cases z'
    exact (hT b hb).2
   ·have z':=(if_neg hb).symm.trans z
    cases z'
  ·by_cases hb:b∈tabs
   ·exact .inr hb
   ·have z':=(if_neg hb).symm.trans z
    cases z'
 | none =>
  refine core (λb=>if b=a then some (.frz { cls:=.type "list",data:=.seq vs.toArray } (.lst (ns.map V.int))) else if b∈tabs then some (.tbl #[]) else none) (.inl (.inr ⟨{ cls:=.type "list",data:=.seq vs.toArray },if_pos rfl⟩)) (λb u z=>?_) (λt h=>?_) λb o z=>?_
  ·by_cases hb:b=a
   ·have z':=(if_pos hb).symm.trans z
    cases z'
    subst hb
    exact ⟨ha,by rw [List.length_map]; exact hl,vs,_,rv,ha⟩
   ·have z1:=(if_neg hb).symm.trans z
    by_cases hm:b∈tabs
    ·have z':=(if_pos hm).symm.trans z1
     cases z'
     exact (hT b hm).2
    ·have z':=(if_neg hm).symm.trans z1
     cases z'
  ·have:t≠a:=λz=>naT (by rw [← z]; exact h)
   rw [if_neg this,if_pos h]
  ·by_cases hb:b=a
   ·have z':=(if_pos hb).symm.trans z
    exact .inl ⟨hb,hk,_,_,(Option.some.inj z').symm⟩
   ·have z1:=(if_neg hb).symm.trans z
    by_cases hm:b∈tabs
    ·exact .inr hm
    ·have z':=(if_neg hm).symm.trans z1
     cases z'
theorem sZ {l:PySem.W.OpenLaw} {n k:Nat} {q:Program} {loose:List Str} {XP:(Str→Option Value)→Heap→Prop} {YP:World→Heap→Prop} {d:DefRec} {K:Params→PySem.W.Frag} {sp:World→Sp} {x:Str} {tabs:List Addr}
  (hn:l.most=some n) (hn2:n≤sizeLine) (hdf:d.params.defaults=[]) (hr:Room k callerA)
  (hY:∀ (w:World) (h:Heap),YP w h→(K w.params).In h) (hT:∀ (w:World) (h:Heap),YP w h→∀ t∈tabs,h.get? t=some (PySem.W.tabObj #[]))
  (hC:∀ w:World,∀ t∈tabs,(∃ c,PySem.W.codeHdIn (K w.params) c t=true)∧(K w.params).lookup t=none)
  (F:∀ (w:World) (mg:Str→Option Value) (fa:Addr) (h:Heap),(K w.params).In h→h.Ns mainGlobals mg→mg d.name=some (.ref fa) →
   ∃ fd:FuncData,(∀ (s:Shared) (u:Value),BindsTo s fd ⟨[u],[]⟩ [(x,u)]) ∧
    ∀ base:Heap,(K w.params).In base→base.Ns mainGlobals mg→BmB base mg→FnOk l.prog w (K w.params) mg base CX0 k fa fd [x] (sp w))
  (hsp:∀ (w:World) (H:Hp) (a:Addr) (ns:List Int),ns.length≤n→SqL (K w.params) H a (ns.map V.int)→(∀ t∈tabs,H t=some (.tbl #[]))→sp w [.ref a] H (λv _=>v = .bl true) λ_ _ _=>False) :
  PySem.W.WalkO q loose XP YP l.row.toRowW d [] (λf vs=>PySem.call f vs):=by
 refine Att.lh hn hdf λw s₀ s₁ mg mb fa o pm cd doc a vs ns G Y ho hd hcd hmg hobj hints hlen hg=>?_
 have KX:=hY w _ Y
 obtain ⟨fd,hb,hF⟩:=F w mg fa _ KX G.T.g hmg
 exact qA KX G.T.g G.T.b G.T.builtins G.T.nolimit hg (λt h=>⟨let ⟨c,e⟩:=(hC w t h).1; ⟨c,PySem.W.codeHd_of_K KX e⟩,hT w _ Y t h⟩) (λt h=>(hC w t h).2) G.T.bmain hobj hints (Nat.le_trans hlen hn2) hr hF hb λH hS hTt=>hsp w H a ns hlen hS hTt
end L2
namespace TK
open PySem L2
theorem _root_.L2.Fun.okTX {P:Program} {w:World} {K:PySem.W.Frag} {mg:Str→Option Value} {base:Heap} {x qual:Str} {st:Stmt} {f c0:Addr} {fd:FuncData} {N ps:List Str} {k:Nat} {sp:Sp} (F:Fun K x qual st f fd) (hc:fd.code = .ref c0) (S:FnScope N ps (ak st)) (len:∀ vs H Q E,sp vs H Q E→vs.length=ps.length)
  (hbody:∀ (A:Around) (outer:List Env) (s:Shared) (H:Hp) (vs:List V) (Q:VK) (E:XK),Room k (A.deeper (PyProof.Rows.envOfC qual (ak st) s.heap.objs.size f (.ref c0)))→sp vs H Q E →
   ∃ t,PSs (iF (CX1 P w) P w K mg base N qual (ak st) f (.ref c0) A outer s H E) (bK st) t∧t { nx:=λ_ H'=>Q .non H',rt:=Q } (start N vs) H):FnOk P w K mg base (CX1 P w) (k+1) f fd ps sp:=by
 obtain ⟨oc,od,kV,doc,pm,an,cdv,ct,osl,rfl,lk,hcd⟩:=F.ex
 obtain rfl:cdv = .ref c0:=hc
 exact qN lk hcd S len λA outer s H vs Q E hr hsp=>hbody A outer s H vs Q E hr hsp
theorem aZ {H H':Hp} {Pt:Addr} {q:Str} (T:db H Pt q) (s:Same H H'):db H' Pt q:=by
 obtain ⟨ps,hP,h1,h2⟩:=T
 exact ⟨ps,s _ _ hP,h1,λpos cv e=>let ⟨c,e1,e2⟩:=h2 pos cv e; ⟨c,e1,s _ _ e2⟩⟩
theorem bw {H H':Hp} {Pt:Addr} (s:Same H H'):dc Pt H H':=λb o _ e=>s _ _ e
theorem fi {Pt:Addr} {q:Str} {H H':Hp} (T:db H Pt q) (o:dc Pt H H') {b:Addr} {u:HO} (e:H b=some u) (n:∀ ps,u ≠ .tbl ps):H' b=some u:=o b u (λz=>by
 obtain ⟨ps,hP,_⟩:=T
 rw [z,hP] at e
 exact n ps (Option.some.inj e).symm) e
theorem mK {α β:Type} {g:α→β} {ys ms:List β} (h:ys.Perm ms):∀ {zs:List α},ms=zs.map g→∃ us:List α,us.map g=ys∧us.Perm zs:=by
 induction h with
 | nil =>
  intro zs e
  cases zs with
  | nil=>exact ⟨[],rfl,.refl _⟩
  | cons a r=>cases e
 | cons x _ ih =>
  intro zs e
  cases zs with
  | nil=>cases e
  | cons a r =>
   injection e with e1 e2
   obtain ⟨us,h1,h2⟩:=ih e2
   exact ⟨a :: us,by rw [List.map_cons,h1,e1],h2.cons a⟩
 | swap x y l =>
  intro zs e
  match zs,e with
  | a :: b :: r,e =>
   injection e with e1 e2
   injection e2 with e2 e3
   exact ⟨b :: a :: r,by rw [List.map_cons,List.map_cons,← e1,← e2,← e3],.swap a b r⟩
 | trans _ _ ih1 ih2 =>
  intro zs e
  obtain ⟨us,h1,h2⟩:=ih2 e
  obtain ⟨vs,h3,h4⟩:=ih1 h1.symm
  exact ⟨vs,h3,h4.trans h2⟩
noncomputable def ym (H:Hp) (v:V):Int:=match v with
 | .ref a=>match H a with
  | some (.tup (.int i :: _))=>i
  | _=>0
 | _=>0
theorem kb {H:Hp} {z:Addr×Nd} (h:H z.1=some (.tup (vals z.2))):ym H (.ref z.1)=z.2.num:=by
 show (match H z.1 with
  | some (.tup (.int i :: _))=>i
  | _=>0)=_
 rw [h]
 rfl
theorem xi (c:Nat) (h:inL c=true):97≤c∧c≤122:=by
 unfold inL at h
 rw [StrLaws.found_one,decide_eq_true_eq] at h
 have h:c∈[97,98,99,100,101,102,103,104,105,106,107,108,109,110,111,112,113,114,115,116,117,118,119,120,121,122]:=h
 simp only [List.mem_cons,List.not_mem_nil,or_false] at h
 omega
theorem uV {n:Nd} (h:cC (vals n)=true) (hl:n.num<10 ^ 9):NodG n:=by
 have h:(ju (.int n.num) && isI (.int n.par) && nameV (.str n.nm) && fZ (stV n.st))=true:=h
 rw [Bool.and_eq_true,Bool.and_eq_true,Bool.and_eq_true] at h
 obtain ⟨⟨⟨h1,_⟩,h2⟩,h3⟩:=h
 have h1:1≤n.num:=of_decide_eq_true h1
 have h2:(decide (1≤n.nm.length) && decide (n.nm.length≤5) && n.nm.cps.toList.all inL)=true:=h2
 rw [Bool.and_eq_true,Bool.and_eq_true,decide_eq_true_eq,decide_eq_true_eq] at h2
 obtain ⟨⟨a1,a2⟩,a3⟩:=h2
 refine { num:=⟨h1,hl⟩,nm:=⟨λe=>?_,λc hc=>xi c (List.all_eq_true.mp a3 c hc)⟩,st:=λi e=>?_,short:=a2 }
 ·rw [e] at a1; cases a1
 ·rw [e] at h3
  have h3:(decide (0≤i) && decide (i≤999))=true:=h3
  rw [Bool.and_eq_true,decide_eq_true_eq,decide_eq_true_eq] at h3
  exact h3
theorem xj {c:Nat} (h:97≤c∧c≤122):inL c=true:=by
 unfold inL
 rw [StrLaws.found_one,decide_eq_true_eq]
 show c∈[97,98,99,100,101,102,103,104,105,106,107,108,109,110,111,112,113,114,115,116,117,118,119,120,121,122]
 simp only [List.mem_cons,List.not_mem_nil,or_false]
 omega
theorem jw {n:Nd} (h:NodG n):cC (vals n)=true:=by
 show (ju (.int n.num) && isI (.int n.par) && nameV (.str n.nm) && fZ (stV n.st))=true
 rw [Bool.and_eq_true,Bool.and_eq_true,Bool.and_eq_true]
 refine ⟨⟨⟨decide_eq_true h.num.1,rfl⟩,?_⟩,?_⟩
 ·show (decide (1≤n.nm.length) && decide (n.nm.length≤5) && n.nm.cps.toList.all inL)=true
  rw [Bool.and_eq_true,Bool.and_eq_true,decide_eq_true_eq,decide_eq_true_eq]
  refine ⟨⟨?_,h.short⟩,List.all_eq_true.mpr λc hc=>xj (h.nm.2 c hc)⟩
  apply Classical.byContradiction
  intro z
  have hl0:(sg n.nm).length=0:=by rw [bi]; omega
  exact h.nm.1 (eF (by rw [List.length_eq_zero_iff.mp hl0]; rfl))
 ·cases e:n.st with
  | none=>rfl
  | some i =>
   have:=h.st i e
   show (decide (0≤i) && decide (i≤999))=true
   rw [Bool.and_eq_true,decide_eq_true_eq,decide_eq_true_eq]
   exact this
theorem xk {H:Hp} {a:Addr} {zs:ZN} (e:H a=some (.tup (aN zs))) (hA:At H zs) (hl:zs.length≤60) (hs:∀ z∈zs,z.2.nm.length≤900):∃ φ,TR H (.ref a) φ∧(φ↔(∀ z∈zs,cC (vals z.2)=true)∧TW.Tree (nds zs)):=by
 by_cases h:∀ z∈zs,cC (vals z.2)=true
 ·exact ⟨_,.nodes e hA hl λz hz=>⟨h z hz,hs z hz⟩,⟨λt=>⟨h,t⟩,λt=>t.2⟩⟩
 ·refine ⟨False,.bad (bs:=zs.map λz=>cC (vals z.2)) e (by rw [aL]; omega) (by rw [aL,List.length_map]) (λi x b hx hb=>?_) ?_,⟨λf=>f.elim,λt=>h t.1⟩⟩
  ·obtain ⟨z,gz,rfl⟩:=bu hx
   rw [List.getElem?_map,gz] at hb
   cases hb
   exact vq (hA z (List.mem_of_getElem? gz)) (hs z (List.mem_of_getElem? gz))
  ·cases hb:(zs.map λz=>cC (vals z.2)).all id with
   | false=>rfl
   | true =>
    refine absurd (λz hz=>?_) h
    exact List.all_eq_true.mp hb _ (List.mem_map.mpr ⟨z,hz,rfl⟩)
noncomputable def qRd:Str:=("read" ++ ".<locals>.")++"<lambda>"
noncomputable def xm (c:Addr):Sp:=λvs H Q _=>∃ z:Addr×Nd,vs=[.ref z.1]∧H z.1=some (.tup (vals z.2))∧H c=some (.ext (cdφ c qRd))∧Q (.int z.2.num) H
noncomputable def kc (C Pt:Addr):Sp:=λvs H Q E=>∃ x:Str,vs=[.str x]∧TxOk x∧(Txt.split x (ch 10)).length≤30∧db H Pt qRd ∧
 (∀ t zs ws H',dc Pt H H'→db H' Pt qRd→Tre H' t zs→(∀ n∈nds zs,NodG n)→cm x (nds zs) ws→Q (.ref t) H') ∧
 ((∀ t ws,(∀ n∈t,NodG n)→¬ cm x t ws)→∀ H',dc Pt H H'→db H' Pt qRd→E (.ref C) none H')
theorem tf:FnScope ["text","tree"] ["text"] (ak nP):=⟨rfl,rfl,rfl,by decide +kernel,rfl,by decide +kernel,by decide +kernel⟩
section
variable {P:Program} {w:World} {K:PySem.W.Frag} {mg:Str→Option Value} {base:Heap} {f c0 Pt C:Addr}
theorem uW {fd:FuncData} (F:Fun K "read" "read" nP f fd) (hc:fd.code = .ref c0) (T:Txt mg) (O:jm "NoText" mg base C) (C0:PySem.W.CodeHd base c0 Pt) (Bm:BmB base mg) (CL:lW P w K mg base 1 "lines_in" ["text"] (sG C)) (CN:lW P w K mg base 3 "nodes_in" ["lines"] (sI C))
  (CT:Has P w K mg base 4 "is_tree" ["thing"] jZ) (CW:Has P w K mg base 4 "written" ["tree"] gs):FnOk P w K mg base (CX1 P w) 5 f fd ["text"] (kc C Pt):=by
 obtain ⟨fL,fdL,GL,mL,kL,bL⟩:=CL
 obtain ⟨fN,fdN,GN,mN,kN,bN⟩:=CN
 obtain ⟨fT,fdT,GT,mT,kT,bT⟩:=CT
 obtain ⟨fW,fdW,GW,mW,kW,bW⟩:=CW
 refine F.okTX hc tf (λvs H Q E h=>?_) (λA outer s H vs Q E hr h=>?_)
 ·obtain ⟨x,rfl,_⟩:=h
  rfl
 ·obtain ⟨x,rfl,ok,hsp,tq,qn,qe⟩:=h
  have hr1:Room 1 _:=hr.mono (by decide)
  have hr3:Room 3 _:=hr.mono (by decide)
  refine ⟨_,ah (ar (i:=1) tf.nd rfl (Or.inl rfl) (bo cJ rfl T.tuple rfl (aa (sY (k:=1) (y:="node") (qual:=qRd) (spK:=λf c=>xm c) (key:=ym) C0 rfl Bm rfl rfl rfl ?hK ?hbn hr3 rfl T.sorted
    (am (E:=E) GN hr3 rfl mN kN bN .nil (jj cT) (aa (am (E:=E) GL hr1 rfl mL kL bL .nil (jj cT) (aa (pv 0) ae)) ae))) ae)))
   (ah (bj (PW.pt (pw_or (ca (ci (am GT hr rfl mT kT bT .nil aV (aa (pv 1) ae)) (λ_=>rfl))) (pw_or1 (aE gf (am GW hr rfl mW kW bW .nil aV (aa (pv 1) ae)) (pv 0) (aG _))))) (aj (cU cT O hr.hd rfl aP)) aB)
   (aj (aq (pv 1)))),?_⟩
  case hK =>
   intro base' f' c pm ctv sub ho
   refine uU (k:=0) (fs:=[]) (fv:=[]) ho (λvs H Q E h=>?_) ⟨rfl,rfl,rfl,by decide +kernel,λx hx=>?_,by decide +kernel,λx h=>?_,λx y c h=>by simp at h⟩ ⟨λx c h=>by simp at h,rfl,λi x v h=>by simp at h⟩ (λvs H Q E h=>?_) (λA outer s H vs Q E hr h=>?_)
   ·obtain ⟨z,_,_,h,_⟩:=h
    exact h
   ·have:x="node":=by simpa using hx
    subst this
    rfl
   ·exact absurd rfl ((by decide +kernel:∀ y∈_,y.2≠NameKind.free) _ (PySem.mem_of_lookup h))
   ·obtain ⟨z,rfl,_⟩:=h
    rfl
   ·obtain ⟨z,rfl,hz,hc,q⟩:=h
    refine ⟨_,aC (r:=iG K) aK (pv 0) ai (λ_ _=>rfl),?_⟩
    exact ⟨_,rfl,z.1,_,_,_,rfl,rfl,SqT.of hz,at0 z.2,q⟩
  case hbn=>exact λpm ctv c=>.all λus hl=>match us,hl with | [_],_=>rfl
  have oks:∀ p∈Txt.split x (ch 10),TxOk p:=λp hp=>ok.split hp
  have bad:bE x=none→∀ t ws,(∀ n∈t,NodG n)→¬ cm x t ws:=λe t ws ng ⟨T,R,W,E⟩=>by
   obtain ⟨ls,a1,_⟩:=da T W R
   rw [E,e] at a1
   cases a1
  refine ⟨_,rfl,x,rfl,ok,λls el l0 H1 s1 g0=>?_,λel H1 s1=>qe (bad el) H1 (bw s1) (aZ tq s1)⟩
  have hls:(∀ p∈ls,TxOk p)∧ls.length≤29:=by
   unfold bE at el
   split at el
   ·injection el with el
    rw [← el]
    exact ⟨λp hp=>oks p (List.dropLast_subset _ hp),by rw [List.length_dropLast]; omega⟩
   ·cases el
  have bad2:aY gn0 ls=none→∀ t ws,(∀ n∈t,NodG n)→¬ cm x t ws:=λe t ws ng ⟨T,R,W,E⟩=>by
   obtain ⟨ls',a1,b1⟩:=da T W R
   rw [E,el] at a1
   injection a1 with a1
   rw [← a1,e] at b1
   cases b1
  refine ⟨l0,ls,rfl,g0,by omega,hls.1,λl zs H2 s2 en gl A2=>?_,λen H2 s2=>qe (bad2 en) H2 (bw (s1.trans s2)) (aZ tq (s1.trans s2))⟩
  have tq2:=aZ tq (s1.trans s2)
  obtain ⟨hall,hlen⟩:=gr (R:=λn=>n.num<10 ^ 9∧TxOk n.nm) (λl' h' n y st p e=>⟨(qv e).2,(mv (hls.1 l' h') e).rp.2⟩) en
  have hzl:(nds zs).length=zs.length:=by unfold nds; rw [List.length_map]
  have er:aN zs=zs.map λz=>V.ref z.1:=by unfold aN; rw [List.map_map]; rfl
  refine ⟨l,aN zs,rfl,gl,by rw [aL]; omega,tq2,λf' c H3 off tq3 hc3=>?_⟩
  have A3:At H3 zs:=λz hz=>fi tq2 off (A2 z hz) (λps h=>nomatch h)
  refine ⟨λv hv=>?_,λD ys hp hup hD=>?_⟩
  ·rw [er] at hv
   obtain ⟨z,hz,rfl⟩:=List.mem_map.mp hv
   exact ⟨z,rfl,A3 z hz,hc3,by rw [kb (A3 z hz)],rfl⟩
  rw [er] at hp
  obtain ⟨us,eu,pu⟩:=mK hp rfl
  have hus:∀ z∈us,z∈zs:=λz hz=>pu.mem_iff.mp hz
  have ulen:us.length=zs.length:=pu.length_eq
  have eru:ys=aN us:=by rw [← eu]; unfold aN; rw [List.map_map]; rfl
  have upu:(nds us).Pairwise λa b=>a.num≤b.num:=by
   rw [← eu,List.pairwise_map] at hup
   unfold nds
   rw [List.pairwise_map]
   exact List.Pairwise.imp_of_mem (λ{a b} ha hb h=>by rw [kb (A3 a (hus a ha)),kb (A3 b (hus b hb))] at h; exact h) hup
  have pn:(nds us).Perm (nds zs):=pu.map _
  clear hup
  subst eru
  refine ⟨D,aN us,rfl,.inl ⟨SqL.of ac,λt ht=>?_⟩⟩
  have s4:Same H3 (upd (upd H3 D (.lst (aN us))) t (.tup (aN us))):=(af hD).trans (af ht)
  have gt:upd (upd H3 D (.lst (aN us))) t (.tup (aN us)) t=some (.tup (aN us)):=ac
  generalize upd (upd H3 D (.lst (aN us))) t (.tup (aN us))=H4 at s4 gt ⊢
  have A4:At H4 us:=λz hz=>s4 _ _ (A3 z (hus z hz))
  have off4:dc Pt H H4:=((bw (s1.trans s2)).trans off).trans (bw s4)
  have tq4:=aZ tq3 s4
  have isT:∀ t ws,cm x t ws→nds us=t:=λt ws g=>g.sorted el en pn upu
  obtain ⟨φ,hφ,iφ⟩:=xk gt A4 (by omega) (λz hz=>(hall z.2 (bQ (hus z hz))).2.len)
  refine ⟨_,rfl,_,φ,rfl,hφ,λb H5 hb s5=>⟨_,rfl,?_⟩⟩
  cases b with
  | false =>
   refine av (av ⟨aI (show 1≤1000 by decide),qe (λt ws ng g=>?_) H5 (off4.trans (bw s5)) (aZ tq4 s5)⟩)
   have e:=isT t ws g
   have:φ:=iφ.mpr ⟨λz hz=>jw (ng _ (by rw [← e]; exact bQ hz)),by rw [e]; exact g.1.toTree⟩
   exact absurd (hb.mpr this) (by decide)
  | true =>
   obtain ⟨hnv,hT⟩:=iφ.mp (hb.mp rfl)
   have ng:∀ n∈nds us,NodG n:=λn hn=>by
    obtain ⟨z,hz,rfl⟩:=ir hn
    exact uV (hnv z hz) (hall z.2 (bQ (hus z hz))).1
   have T1:TW.Tree1 (nds us):=⟨hT,λn hn=>(ng n hn).num.1⟩
   have tr:Tre H4 t us:=⟨gt,A4,T1,by omega⟩
   refine aM ⟨_,rfl,t,us,rfl,tr.same s5,ng,λws H6 s6 wk=>⟨_,rfl,rfl,_,rfl,?_⟩⟩
   have s56:=s5.trans s6
   by_cases ex:txt ws=x
   ·rw [decide_eq_true (show V.str (txt ws)=V.str x by rw [ex])]
    exact aM ⟨_,rfl,qn t us ws H6 (off4.trans (bw s56)) (aZ tq4 s56) (tr.same s56) ng ⟨T1,λn hn=>(ng n hn).toNodR,wk,ex⟩⟩
   ·rw [decide_eq_false (show ¬ V.str (txt ws)=V.str x from λz=>ex (by injection z))]
    refine av ⟨aI (show 1≤1000 by decide),qe (λt' ws' ng' g=>?_) H6 (off4.trans (bw s56)) (aZ tq4 s56)⟩
    have e:=isT t' ws' g
    obtain ⟨T',R',W',E'⟩:=g
    subst e
    exact ex (by rw [Wk.one wk W']; exact E')
end
section
variable {P:Program} {w:World} {K:PySem.W.Frag} {mg:Str→Option Value} {base:Heap}
noncomputable def nV:Sp:=λvs H Q _=>∃ t zs,vs=[.ref t]∧Tre H t zs∧∀ d as H',Same H H'→H d=none→Book H' d as zs→H' d=some (.dK (ck as))→Q (.ref d) H'
theorem xn:FnScope ["_law_tree_here"] ["_law_tree_here"] (ak sB):=⟨rfl,rfl,rfl,by decide +kernel,rfl,by decide +kernel,by decide +kernel⟩
theorem uX {f:Addr} {fd:FuncData} (F:Fun K "_law_book" "_law_book" sB f fd) (T:Txt mg):FnOk P w K mg base CX0 1 f fd ["_law_tree_here"] nV:=by
 refine F.ok xn (λvs H Q E h=>?_) (λcdv A outer s H vs Q E hr h=>?_)
 ·obtain ⟨t,zs,rfl,_⟩:=h
  rfl
 ·obtain ⟨t,zs,rfl,tr,k⟩:=h
  have hnd:=dq tr.tr
  have hl:=tr.len
  have ht:=tr.tup
  have hA:=tr.nod
  refine ⟨_,aj (aq (bo (lN rfl) rfl T.dict PyProof.Rows.boot_dict (aa (cF (N:=["_law_node"]) (k:=1) (js:=[]) (g:=bp 0) rfl (cM rfl (by decide +kernel) (by decide +kernel) (by decide +kernel)) rfl (λi j x h=>by simp at h)
   (dZ (pv 0)) (λs H fp=>aH (i:=0) (show (["_law_node"]:List Str).Nodup by decide +kernel) rfl (Or.inl rfl) (Or.inr rfl))
   (λs H fp=>cz (aa (aC (r:=iG K) aK (pv 0) ai (λ_ _=>rfl)) (aa (aT (r:=vM K) nq (pv 0) (bh ai) bn) ae)))) ae))),?_⟩
  refine ⟨_,rfl,t,rfl,⟨_,SqT.of ht⟩,λp hp=>?_⟩
  refine jN (fr:=[]) zs.length (by omega) hp rfl (λi y H'=>∃ q t' z,zs[i]? = some z∧y = .ref q∧q≠p∧t'≠p∧H' q=some (.tup [.int z.2.num,.ref t'])∧H' t'=some (.tup (cZ z.2))) (λi y H1 H2 h ex=>?_) (λi H' hi s1=>?_) (λH' s1=>?_) ?_ (λi H' x H2 hi s1 hpl hy=>?_) (λys H' s1 hp' hlen hys=>?_)
  ·obtain ⟨q,t',z,e1,e2,e3,e4,e5,e6⟩:=h
   exact ⟨q,t',z,e1,e2,e3,e4,ex q _ e3 e5,ex t' _ e4 e6⟩
  ·exact ⟨_,_,SqT.of (s1 _ _ ht),cX (List.getElem?_eq_getElem hi)⟩
  ·exact ⟨_,SqT.of (s1 _ _ ht),by rw [aL]; exact Nat.le_refl _⟩
  ·rintro _ _ _ _ m ⟨v1,b1,p1,xs,i1,v2,c1,c2,c3,c4,v3,b3,i3,d0,a3,xs3,d1,d2,d3,q⟩
   refine ⟨v1,b1,p1,xs,i1,v2,c1,c2,c3,c4,v3,b3,i3,d0,a3,xs3,d1,d2,d3,λl hl=>?_⟩
   obtain ⟨hz',q'⟩:=q l hl
   exact ⟨hz',λl' hl'=>m _ _ (q' l' hl')⟩
  ·obtain ⟨rfl,hx⟩:=hy
   obtain ⟨z,gz,rfl⟩:=bu (hx _ (SqT.of (s1 _ _ ht)))
   have mz:=List.mem_of_getElem? gz
   have hz1:=s1 _ _ (hA z mz)
   have ecut:gC (vals z.2) (some 1) none=cZ z.2:=rfl
   refine ⟨rfl,_,rfl,z.1,_,_,_,rfl,rfl,SqT.of hz1,at0 z.2,_,rfl,_,rfl,z.1,_,rfl,SqT.of hz1,(by intro h; exact absurd h.1 (show ¬ HT.sIx 4 0 (some 1)=0 by decide)),λt' ht'=>?_⟩
   rw [ecut]
   have s2:=af (o:=.tup (cZ z.2)) ht'
   have hpl2:∃ ys,upd H2 t' (.tup (cZ z.2)) p=some (.lst ys):=let ⟨ys,e⟩:=hpl; ⟨ys,s2 _ _ e⟩
   refine ⟨le2,λq hq=>⟨s2.trans (af hq),q,t',z,gz,rfl,fA hpl2 hq,fA hpl ht',ac,bt hq ac⟩⟩
  ·obtain ⟨as,e1,e2,e3⟩:∃ as:List ((Addr×Addr)×(Addr×Nd)),as.map (·.2)=zs∧ys=(as.map (·.1.1)).map V.ref∧∀ a∈as,H' a.1.1=some (.tup [.int a.2.2.num,.ref a.1.2])∧H' a.1.2=some (.tup (cZ a.2.2)):=by
    clear hp'
    have main:∀ (ys:List V) (xs:ZN),ys.length=xs.length→(∀ (i:Nat) y,ys[i]? = some y→∃ q t' z,xs[i]? = some z∧y = .ref q∧q≠p∧t'≠p∧H' q=some (.tup [.int z.2.num,.ref t'])∧H' t'=some (.tup (cZ z.2))) →
      ∃ as:List ((Addr×Addr)×(Addr×Nd)),as.map (·.2)=xs∧ys=(as.map (·.1.1)).map V.ref∧∀ a∈as,H' a.1.1=some (.tup [.int a.2.2.num,.ref a.1.2])∧H' a.1.2=some (.tup (cZ a.2.2)):=by
     intro ys
     induction ys with
     | nil =>
      intro xs hl _
      have:xs=[]:=List.length_eq_zero_iff.mp hl.symm
      subst this
      exact ⟨[],rfl,rfl,by simp⟩
     | cons y ys ih =>
      intro xs hl h
      cases xs with
      | nil=>simp at hl
      | cons x xs =>
       obtain ⟨as,e1,e2,e3⟩:=ih xs (by simpa using hl) λi y hy=>by simpa using h (i+1) y (by simpa using hy)
       obtain ⟨q,t',z,f1,f2,f3,f4,f5,f6⟩:=h 0 y rfl
       have:x=z:=by simpa using f1
       subst this
       refine ⟨((q,t'),x) :: as,by simp [e1],by simp [e2,f2],λa ha=>?_⟩
       rcases List.mem_cons.mp ha with rfl | ha
       ·exact ⟨f5,f6⟩
       ·exact e3 a ha
    exact main ys zs hlen hys
   have hal:as.length=zs.length:=by rw [← e1,List.length_map]
   refine ⟨p,as.map λa=>(a.1.1,(Sum.inl a.2.2.num:Key),V.ref a.1.2),rfl,?_,?_,?_,?_,λd hd=>?_⟩
   ·rw [hp',e2,List.map_map,List.map_map,List.map_map]; rfl
   ·intro z hz
    obtain ⟨a,ha,rfl⟩:=List.mem_map.mp hz
    exact (e3 a ha).1
   ·rw [List.length_map]; omega
   ·rw [List.map_map]
    have:(as.map ((λx:Addr×Key×V=>x.2.1) ∘ λa=>(a.1.1,(Sum.inl a.2.2.num:Key),V.ref a.1.2)))=((nds zs).map (·.num)).map (Sum.inl:Int→Key):=by
     rw [← e1]; unfold nds; simp only [List.map_map]; rfl
    rw [this]
    unfold List.Nodup at hnd ⊢
    rw [List.pairwise_map]
    exact hnd.imp λh e=>h (by injection e)
   ·have sd:=af (o:=.dK ((as.map λa=>(a.1.1,(Sum.inl a.2.2.num:Key),V.ref a.1.2)).map (·.2))) hd
    have ed:upd H' d (.dK ((as.map λa=>(a.1.1,(Sum.inl a.2.2.num:Key),V.ref a.1.2)).map (·.2))) d=some (.dK (ck (as.map λa=>(a.1.2,a.2)))):=by
     rw [ac]
     refine congrArg (λx=>some (HO.dK x)) ?_
     unfold ck
     simp only [List.map_map]; rfl
    refine k d (as.map λa=>(a.1.2,a.2)) _ (s1.trans sd) (s1.free hd) ⟨.inl ed,by rw [List.map_map]; exact e1,λa ha=>?_⟩ ed
    obtain ⟨b,hb,rfl⟩:=List.mem_map.mp ha
    exact sd _ _ (e3 b hb).2
end
end TK
namespace L2
open PySem
end L2
namespace TK
open PySem L2
noncomputable def xo (t:List Nd) (k:Int):Nd:=(t.find? λn=>decide (n.num=k)).getD ⟨0,0,Str.empty,none⟩
theorem kd {t:List Nd} (T:TW.Tree1 t) {n:Nd} (hn:n∈t) {k:Int} (e:n.num=k):xo t k=n:=by
 subst e
 unfold xo
 cases h:t.find? λm=>decide (m.num=n.num) with
 | none=>have:=List.find?_eq_none.mp h n hn; simp at this
 | some m =>
  have h1:=List.find?_some h
  exact T.inj (List.mem_of_find?_eq_some h) hn (of_decide_eq_true h1)
theorem mM:∀ (ws:List Wt) (w:Wt),txt (ws++[w])=txt ws++(lnT w++ch 10)
 | [],w=>by show lnT w++ch 10++Str.empty=Str.empty++(lnT w++ch 10); rw [Str.append_empty,Str.empty_append]
 | v :: r,w=>by show lnT v++ch 10++txt (r++[w])=lnT v++ch 10++txt r++(lnT w++ch 10); rw [mM r w]; simp only [Str.append_assoc]
theorem kg {k:Nat}:∀ {ws:List Wt},(∀ w∈ws,(lnT w).length≤k)→(txt ws).length≤(k+1) * ws.length
 | [],_=>Nat.zero_le _
 | w :: r,h=>by
  have:=kg (ws:=r) λv hv=>h v (List.mem_cons_of_mem _ hv)
  have:=h w List.mem_cons_self
  have e:(txt (w :: r)).length=(lnT w).length+1+(txt r).length:=by show (lnT w++ch 10++txt r).length=_; rw [ap,ap]; rfl
  rw [e,List.length_cons,Nat.mul_add]
  omega
section
variable {P:Program} {w:World} {K:PySem.W.Frag} {mg:Str→Option Value} {base:Heap}
noncomputable def xp:Sp:=λvs H Q _=>∃ d k as zs p,vs=[.ref d,.int k]∧Book H d as zs∧TW.Tree1 (nds zs)∧zs.length≤30∧TW.PathTo (nds zs) k p∧∀ t H',Same H H'→H' t=some (.tup (p.map V.str))→Q (.ref t) H'
theorem uY:FnScope ["_law_book_here","_law_number","_law_names"] ["_law_book_here","_law_number"] (ak nQ):=⟨rfl,rfl,rfl,by decide +kernel,rfl,by decide +kernel,by decide +kernel⟩
theorem yn {f:Addr} {fd:FuncData} (F:Fun K "_law_path" "_law_path" nQ f fd) (T:Txt mg):FnOk P w K mg base CX0 1 f fd ["_law_book_here","_law_number"] xp:=by
 refine F.ok uY (λvs H Q E h=>?_) (λcdv A outer s H vs Q E hr h=>?_)
 ·obtain ⟨d,k,as,zs,p,rfl,_⟩:=h
  rfl
 ·obtain ⟨d,k,as,zs,p,rfl,bk,hTr,hl,hp,q⟩:=h
  have hnd:=dq hTr
  refine ⟨_,ah (ar (i:=2) uY.nd rfl (Or.inl rfl) (bv ae))
   (ah (gQ PassesOwn.never (aE gf (pv 1) ai (aG _))
    (ah (ar (i:=2) uY.nd rfl (Or.inl rfl) (ao vQ (bv (aa (aC aK (cE (dB hr) (pv 0) (pv 1) (λ_ _=>rfl)) ai (λ_ _=>rfl)) ae)) (pv 2)))
    (aj (ar (i:=1) uY.nd rfl (Or.inl rfl) (aC aK (cE (dB hr) (pv 0) (pv 1) (λ_ _=>rfl)) ai (λ_ _=>rfl))))))
   (aj (aq (bo cJ rfl T.tuple rfl (aa (pv 2) ae))))),?_⟩
  refine ⟨Nat.zero_le _,λpn hpn=>?_⟩
  dsimp only [bp,tG]
  refine gS (λσ H'=>∃ at' q' r pn,σ=[some (.ref d),some (.int at'),some (.ref pn)]∧TW.PathTo (nds zs) at' q'∧p=q'++r∧H' pn=some (.lst (r.map V.str))∧Same H H')
   (λσ H'=>match σ with | [_,some (.int k),_]=>nL (nds zs) k | _=>0) ⟨k,p,[],pn,rfl,hp,by simp,ac,af hpn⟩ (λσ H' h=>?_) ?_
  ·obtain ⟨at',q',r,pn,rfl,hq',ep,en,s1⟩:=h
   refine ⟨_,rfl,rfl,_,rfl,?_⟩
   by_cases h0:at'=0
   ·subst h0
    have e0:q'=[]:=hq'.zero hTr rfl
    subst e0
    refine aM ⟨_,rfl,pn,_,rfl,.inl ⟨SqL.of en,λt ht=>q t _ (s1.trans (af ht)) ?_⟩⟩
    rw [ac,ep,List.nil_append]
   ·have hne:decide (V.int at'=V.int 0)=false:=by simp [h0]
    rw [hne]
    refine av ?_
    obtain ⟨z,hz,e1,q'',e2,hq''⟩:=oO hTr hq' h0
    subst e1
    obtain ⟨b,hb1,hb2⟩:=(bk.same s1).get hnd hz
    have hrl:r.length≤100:=by
     have h1:=hp.len hTr
     have h2:=congrArg List.length ep
     rw [aW] at h1
     rw [List.length_append] at h2
     omega
    refine ⟨_,rfl,_,rfl,d,_,rfl,hb1,b,_,_,_,rfl,rfl,SqT.of hb2,yW z.2,aI (show 1≤1000 by decide),λl1 hl1=>?_⟩
    have s2:=af (o:=.lst [.str z.2.nm]) hl1
    refine ⟨_,rfl,l1,pn,_,_,rfl,rfl,ac,s2 _ _ en,aI (by simp; omega),λl2 hl2=>?_⟩
    have s3:=s2.trans (af (o:=.lst ([.str z.2.nm]++r.map V.str)) hl2)
    obtain ⟨b',hb1',hb2'⟩:=(bk.same (s1.trans s3)).get hnd hz
    refine ⟨_,rfl,_,rfl,d,_,rfl,hb1',b',_,_,_,rfl,rfl,SqT.of hb2',yV z.2,?_⟩
    refine ⟨⟨z.2.par,q'',z.2.nm :: r,l2,rfl,hq'',by rw [ep,e2]; simp,ac,s1.trans s3⟩,?_⟩
    show nL (nds zs) z.2.par<nL (nds zs) z.2.num
    rw [oP hTr hq'',oP hTr hq',e2]
    simp
  ·rintro σ H1 Q1 Q2 m ⟨v,e,h2,b,e3,q⟩
   exact ⟨v,e,h2,b,e3,m _ _ q⟩
noncomputable def ltN:List Str:=["_law_tree_here","_law_book_here","_law_text_here","_law_path_here","_law_number","_law_name"]
theorem kh:FnScope ltN ["_law_tree_here"] (ak du):=⟨rfl,rfl,rfl,by decide +kernel,rfl,by decide +kernel,by decide +kernel⟩
theorem xq {f:Addr} {fd:FuncData} (F:Fun K "_law_text" "_law_text" du f fd) (T:Txt mg) (CB:Has P w K mg base 1 "_law_book" ["_law_tree_here"] nV) (CU:Has P w K mg base 1 "_law_path" ["_law_book_here","_law_number"] xp) :
  FnOk P w K mg base CX0 2 f fd ["_law_tree_here"] gs:=by
 obtain ⟨fB,fdB,GB,mB,kB,bB⟩:=CB
 obtain ⟨fU,fdU,GU,mU,kU,bU⟩:=CU
 refine F.ok kh (λvs H Q E h=>?_) (λcdv A outer s H vs Q E hr h=>?_)
 ·obtain ⟨t,zs,rfl,_⟩:=h
  rfl
 ·obtain ⟨t,zs,rfl,tr,ng,k⟩:=h
  have hnd:=dq tr.tr
  have hl:=tr.len
  refine ⟨_,ah (ar (i:=1) kh.nd rfl (Or.inr rfl) (am GB hr rfl mB kB bB .nil aV (aa (pv 0) ae)))
   (ah (qw (ar (i:=2) kh.nd rfl (Or.inl rfl) aP))
   (ah (dA PassesOwn.never rfl (dg (al (dw (sK hr)) rfl T.sorted PyProof.Rows.boot_sorted (aa (cF (N:=["_law_one","_law_book_here"]) (cl:=[("_law_book_here",s.heap.objs.size+1)]) (k:=1) (js:=[1]) (g:=bp 0) rfl
     (LcOk.mk' ["_law_book_here"] rfl rfl (by decide +kernel) (by decide +kernel) ?hcl rfl (by decide +kernel)) rfl ?hj
    (vi (pv 1)) (λs H fp=>aH (i:=0) (show (["_law_one","_law_book_here"]:List Str).Nodup by decide +kernel) rfl (Or.inl rfl) (Or.inr rfl))
    (λs H fp=>cz (aa (am (X:=cK _ _ _ _ _ _ _) GU hr rfl mU kU bU .nil aV (aa (pv 1) (aa (pv 0) ae))) (aa (pv 0) ae)))) ae)))
    (jx (n:=2) rfl (cf (aH (i:=3) kh.nd rfl (Or.inl rfl)) (cf (aH (i:=4) kh.nd rfl (Or.inl rfl)) gI)))
    (ah (ar (i:=2) kh.nd rfl (Or.inl rfl) (ao ax (ao ax (pv 2) (bo eM rfl T.str rfl (aa (pv 4) ae))) aP))
    (ah (dA PassesOwn.never rfl (dZ (pv 3)) (aH (i:=5) kh.nd rfl (Or.inl rfl)) (aj (ar (i:=2) kh.nd rfl (Or.inl rfl) (ao ax (ao ax (pv 2) aP) (pv 5)))))
    (aj (ar (i:=2) kh.nd rfl (Or.inl rfl) (ao ax (ao ax (pv 2) (ku (aE fo (aC aK (cE (dB hr) (pv 1) (pv 4) (λ_ _=>rfl)) ai (λ_ _=>rfl)) cH (aG _)) aP
     (ao ax aP (bo eM rfl T.str rfl (aa (aC aK (cE (dB hr) (pv 1) (pv 4) (λ_ _=>rfl)) ai (λ_ _=>rfl)) ae))))) aP))))))
   (aj (aq (pv 2))))),?_⟩
  case hcl =>
   intro y hy
   rcases List.mem_cons.mp hy with e | hy
   ·rw [e]; rfl
   ·cases hy
  case hj =>
   intro i j x h1 h2
   match i,h1,h2 with
   | 0,h1,h2 =>
    cases h1
    cases h2
    exact ⟨rfl,Or.inr (Or.inl rfl),(show ((ak du).names.lookup ("_law_book_here":Str)≠some NameKind.local) by decide +kernel),by first | exact Or.inl rfl | exact Or.inr rfl⟩
   | i+1,h1,h2=>simp at h1
  refine ⟨_,rfl,t,zs,rfl,tr,λd as H0 s0 hd0 bk0 hdk=>?_⟩
  refine ⟨d,_,hdk,λo=>?_⟩
  have s1:Same H (upd H0 d (.frz o (.dK (ck as)))):=ay hd0 s0
  have ho:upd H0 d (.frz o (.dK (ck as))) d=some (.frz o (.dK (ck as))):=ac
  have bk:Book (upd H0 d (.frz o (.dK (ck as)))) d as zs:=⟨.inr ⟨o,ho⟩,bk0.of,λa ha=>by
   have h:=bk0.at' a ha
   rw [ag λz=>by rw [z,hdk] at h; cases h]; exact h⟩
  generalize upd H0 d (.frz o (.dK (ck as)))=H1 at s1 ho bk ⊢
  have alen:as.length=zs.length:=by rw [← bk.of,List.length_map]
  refine ⟨_,rfl,d,o,_,rfl,ho,λp hp=>?_⟩
  refine jN (fr:=[some (.ref d)]) zs.length (by omega) hp rfl (λi y H'=>∃ q t z pa,zs[i]? = some z∧y = .ref q∧q≠p∧t≠p∧H' q=some (.tup [.ref t,.int z.2.num])∧H' t=some (.tup (pa.map V.str))∧TW.PathTo (nds zs) z.2.num pa) (λi y H1 H2 h ex=>?_) (λi H' hi s2=>?_) (λH' s2=>?_) ?_ (λi H' x H2 hi s2 hpl hy=>?_) (λys H' s2 hp' hlen hys=>?_)
  ·obtain ⟨q,t,z,pa,e1,e2,e3,e4,e5,e6,e7⟩:=h
   exact ⟨q,t,z,pa,e1,e2,e3,e4,ex q _ e3 e5,ex t _ e4 e6,e7⟩
  ·exact ⟨s2 _ _ ho,by simpa [ck,alen] using hi⟩
  ·exact ⟨s2 _ _ ho,by simp [ck,alen]⟩
  ·rintro _ _ _ _ m ⟨v1,b1,v2,b2,d',k',as',zs',pa,c1,c2,c3,c4,c5,q⟩
   refine ⟨v1,b1,v2,b2,d',k',as',zs',pa,c1,c2,c3,c4,c5,λt' H' st ht=>?_⟩
   obtain ⟨v3,b3,hz,q'⟩:=q t' H' st ht
   exact ⟨v3,b3,hz,λl hl=>m _ _ (q' l hl)⟩
  ·obtain ⟨rfl,hx⟩:=hy
   have gz:zs[i]? = some zs[i]:=List.getElem?_eq_getElem hi
   have ex:x = .int zs[i].2.num:=by
    have ga:(as.map (·.2))[i]? = some zs[i]:=by rw [bk.of]; exact gz
    rw [List.getElem?_map] at ga
    cases ga0:as[i]? with
    | none=>rw [ga0] at ga; cases ga
    | some a0 =>
     rw [ga0] at ga
     have e0:a0.2=zs[i]:=Option.some.inj ga
     unfold ck at hx
     rw [List.getElem?_map,List.getElem?_map,ga0] at hx
     have:=(Option.some.inj hx).symm
     rw [← e0]; exact this
   subst ex
   have mz:=List.mem_of_getElem? gz
   generalize zs[i]=z at gz mz ⊢
   obtain ⟨pa,hpa⟩:=TW.PathTo.ex tr.tr (List.mem_map.mpr ⟨z,mz,rfl⟩:z.2∈nds zs)
   refine ⟨rfl,_,rfl,_,rfl,d,_,as,zs,pa,rfl,bk.same s2,tr.tr,by omega,hpa,λt' H4 s4 ht'=>?_⟩
   have hpl4:∃ ys,H4 p=some (.lst ys):=let ⟨ys,e⟩:=hpl; ⟨ys,s4 _ _ e⟩
   have htp:t'≠p:=λe=>by obtain ⟨ys,e'⟩:=hpl4; rw [← e,ht'] at e'; cases e'
   refine ⟨_,rfl,le2,λq hq=>⟨s4.trans (af hq),q,t',z,pa,gz,rfl,fA hpl4 hq,htp,ac,bt hq ht',hpa⟩⟩
  ·obtain ⟨cs,e1,e2,e3⟩:=sL (p:=p) hlen hys
   subst e1
   have hcl:cs.length=zs.length:=by rw [← hlen,List.length_map]
   refine ⟨p,cs,rfl,hp',e2.at',e2.paths_nd tr.tr,by omega,λcs' hpm hup q hq=>?_⟩
   have s3:=s2.trans (af (o:=.lst (cs'.map λc=>V.ref c.a)) hq)
   have wl0:=e2.wl tr.tr hpm hup
   have wl:∀ c∈cs',rS (upd H' q (.lst (cs'.map λc=>V.ref c.a))) c:=λc hc=>⟨af hq _ _ (wl0.at' c hc).1,af hq _ _ (wl0.at' c hc).2⟩
   have hq1:upd H' q (.lst (cs'.map λc=>V.ref c.a)) q=some (.lst (cs'.map λc=>V.ref c.a)):=ac
   generalize upd H' q (.lst (cs'.map λc=>V.ref c.a))=H2 at s3 wl hq1 ⊢
   have hcl':cs'.length=zs.length:=hpm.length_eq.trans hcl
   have node:∀ c∈cs',∃ z∈zs,z.2.num=c.n∧TW.PathTo (nds zs) c.n c.p:=λc hc=>(wl0.mem c.p c.n).mp ⟨c,hc,rfl,rfl⟩
   let ws:List Wt:=cs'.map λc=>(c.p,xo (nds zs) c.n)
   have wk:Wk (nds zs) ws:=by
    refine ⟨?_,λp n=>?_⟩
    ·show (cs'.map _).Pairwise _
     rw [List.pairwise_map]
     exact wl0.up
    ·constructor
     ·intro h
      obtain ⟨c,hc,e⟩:=List.mem_map.mp h
      obtain ⟨z,hz,ez,hp'⟩:=node c hc
      rw [kd tr.tr (bQ hz) ez] at e
      injection e with e1 e2
      subst e1
      subst e2
      rw [ez]
      exact ⟨bQ hz,hp'⟩
     ·rintro ⟨hn,hp'⟩
      obtain ⟨z,hz,rfl⟩:=ir hn
      obtain ⟨c,hc,e1,e2⟩:=(wl0.mem p z.2.num).mpr ⟨z,hz,rfl,hp'⟩
      exact List.mem_map.mpr ⟨c,hc,by rw [kd tr.tr hn e2.symm,e1]⟩
   have wlen:ws.length=cs'.length:=List.length_map ..
   have good:∀ w∈ws,NodG w.2∧w.1.length≤30∧∀ y∈w.1,y.length≤5:=λw hw=>by
    obtain ⟨h1,h2⟩:=(wk.mem w.1 w.2).mp hw
    have:=h2.len tr.tr
    rw [aW] at this
    exact ⟨ng _ h1,by omega,eK (λn hn=>(ng n hn).short) h2⟩
   have hln:∀ w∈ws,(lnT w).length≤200:=λw hw=>by
    obtain ⟨g1,g2,g3⟩:=good w hw
    have:=oX g1 g3
    omega
   have htl:∀ i,(txt (ws.take i)).length≤7000:=λi=>by
    have:=kg (ws:=ws.take i) (k:=200) λw hw=>hln w (List.mem_of_mem_take hw)
    have h2:(ws.take i).length≤30:=by rw [List.length_take]; omega
    have:=Nat.mul_le_mul_left 201 h2
    omega
   refine ⟨q,rfl,⟨_,SqL.of hq1⟩,gR (xs:=cs'.map λc=>V.ref c.a) (λi σ H'=>∃ x3 x4 x5,σ=[some (.ref t),some (.ref d),some (.str (txt (ws.take i))),x3,x4,x5]∧Same H2 H')
    ⟨_,_,_,rfl,Same.refl _⟩ (λi σ H' _ h=>?_) (λi x σ H' hx h=>?_) (λσ H' h=>?_)⟩
   ·obtain ⟨x3,x4,x5,rfl,s4⟩:=h
    exact SqL.of (s4 _ _ hq1)
   ·obtain ⟨x3,x4,x5,rfl,s4⟩:=h
    obtain ⟨c,gc,rfl⟩:∃ c,cs'[i]? = some c∧x=V.ref c.a:=by
     rw [List.getElem?_map] at hx
     cases e:cs'[i]? with
     | none=>rw [e] at hx; cases hx
     | some c=>rw [e] at hx; exact ⟨c,rfl,(Option.some.inj hx).symm⟩
    have mc:=List.mem_of_getElem? gc
    obtain ⟨z,hz,ez,hpz⟩:=node c mc
    have enz:=kd tr.tr (bQ hz) ez
    have gw:ws[i]? = some (c.p,z.2):=by show (cs'.map _)[i]? = _; rw [List.getElem?_map,gc,← enz]; rfl
    have ews:ws.take (i+1)=ws.take i++[(c.p,z.2)]:=cV gw
    obtain ⟨g1,g2,g3⟩:=good _ (List.mem_of_getElem? gw)
    have g1:NodG z.2:=g1
    have g2:c.p.length≤30:=g2
    have g3:∀ y∈c.p,y.length≤5:=g3
    obtain ⟨w1,w2⟩:=wl c mc
    have tl:=htl i
    have etx:txt (ws.take (i+1))=txt (ws.take i)++(lnT (c.p,z.2)++ch 10):=by rw [ews,mM]
    generalize txt (ws.take i)=tx at tl etx ⊢
    have n0:=g1.num
    obtain ⟨_,_,ln⟩:=dH (n:=c.n) (by omega) (by omega)
    have ln:(Str.ofString (toString c.n)).length≤9:=ln
    have z1:=bF tl ln
    have z2:=bF z1 (show (" ":Str).length≤1 by decide)
    refine ⟨c.a,_,rfl,SqT.of (s4 _ _ w1),rfl,_,_,rfl,_,_,rfl,rfl,?_⟩
    refine ⟨_,rfl,_,rfl,c.n,rfl,lg (by omega),_,_,rfl,rfl,szl (by omega),_,_,rfl,rfl,szl (by rw [ap]; show _+1≤_; omega),?_⟩
    have w2':=s4 _ _ w2
    refine ⟨_,rfl,c.t,rfl,⟨_,SqT.of w2'⟩,nY (xs:=c.p.map V.str) (λj σ H''=>∃ x5,σ=[some (.ref t),some (.ref d),some (.str (tx++Str.ofString (toString c.n)++" " ++ plc (c.p.take j))),some (.ref c.t),some (.int c.n),x5]∧H''=H')
     ⟨_,by rw [List.take_zero]; show _=[_,_,some (V.str (_++Str.empty)),_,_,_]; rw [Str.append_empty]; rfl,rfl⟩ (λj σ H'' _ h=>?_) (λj y σ H'' hy h=>?_) (λσ H'' h=>?_)⟩
    ·obtain ⟨x5',_,rfl⟩:=h
     exact SqT.of w2'
    ·obtain ⟨x5',rfl,rfl⟩:=h
     obtain ⟨u,gu,rfl⟩:∃ u,c.p[j]? = some u∧y=V.str u:=by
      rw [List.getElem?_map] at hy
      cases e:c.p[j]? with
      | none=>rw [e] at hy; cases hy
      | some c=>rw [e] at hy; exact ⟨c,rfl,(Option.some.inj hy).symm⟩
     have lp:=dN (p:=c.p.take j) λy hy=>g3 y (List.mem_of_mem_take hy)
     have lj:(c.p.take j).length≤30:=by rw [List.length_take]; omega
     have lp:(plc (c.p.take j)).length≤180:=by omega
     have z3:=bF z2 lp
     have z4:=bF z3 (show ("/":Str).length≤1 by decide)
     have lu:=g3 u (List.mem_of_getElem? gu)
     refine ⟨_,rfl,_,_,rfl,rfl,szl (by show _+1≤_; omega),_,rfl,_,_,rfl,rfl,szl (by omega),some (.str u),?_,rfl⟩
     have e:tx++Str.ofString (toString c.n)++" " ++ plc (c.p.take j)++"/" ++ u=tx++Str.ofString (toString c.n)++" " ++ plc (c.p.take (j+1)):=by
      rw [cV gu,ix]
      show tx++nt c.n++ch 32++plc (c.p.take j)++ch 47++u=tx++nt c.n++ch 32++(plc (c.p.take j)++ch 47++u)
      simp only [Str.append_assoc]
     rw [← e]
     rfl
    ·obtain ⟨x5',rfl,rfl⟩:=h
     have eT:c.p.take (c.p.map V.str).length=c.p:=by rw [List.length_map]; exact List.take_length
     rw [eT]
     have lp:=dN g3
     have lp:(plc c.p).length≤180:=by omega
     have z3:=bF z2 lp
     obtain ⟨b,hb1,hb2⟩:=(bk.same (s3.trans s4)).get hnd hz
     rw [ez] at hb1
     refine ⟨_,rfl,_,rfl,_,rfl,d,_,rfl,hb1,b,_,_,_,rfl,rfl,SqT.of hb2,yd z.2,rfl,_,rfl,?_⟩
     cases est:z.2.st with
     | none =>
      have z4:=bF z3 (show ("/":Str).length≤1 by decide)
      refine av ⟨_,_,rfl,rfl,szl (by show _+1≤_; omega),_,_,rfl,rfl,szl (by show _+1≤_; omega),some (.ref c.t),some (.int c.n),x5',?_,s4⟩
      have e:tx++Str.ofString (toString c.n)++" " ++ plc c.p++"/" ++ "\n" = txt (ws.take (i+1)):=by
       rw [etx]
       unfold lnT
       show _=tx++(nt z.2.num++ch 32++plc c.p++stx z.2.st++ch 10)
       rw [est,ez]
       show tx++nt c.n++ch 32++plc c.p++ch 47++ch 10=tx++(nt c.n++ch 32++plc c.p++ch 47++ch 10)
       simp only [Str.append_assoc]
      rw [← e]
      rfl
     | some m =>
      have hm:=g1.st m est
      obtain ⟨_,_,lm⟩:=dH (n:=m) hm.1 (by omega)
      have lm:(Str.ofString (toString m)).length≤9:=lm
      have y1:=bF (show (" ":Str).length≤1 by decide) lm
      have z4:=bF z3 y1
      refine aM ⟨_,rfl,_,rfl,d,_,rfl,hb1,b,_,_,_,rfl,rfl,SqT.of hb2,(show atI (cZ z.2) 2=some (V.int m) by rw [yd,est]; rfl),m,rfl,lg (by omega),_,_,rfl,rfl,szl (by show 1+_≤_; omega),_,_,rfl,rfl,szl (by omega),_,_,rfl,rfl,szl (by show _+1≤_; omega),some (.ref c.t),some (.int c.n),x5',?_,s4⟩
      have e:tx++Str.ofString (toString c.n)++" " ++ plc c.p++(" " ++ Str.ofString (toString m))++"\n" = txt (ws.take (i+1)):=by
       rw [etx]
       unfold lnT
       show _=tx++(nt z.2.num++ch 32++plc c.p++stx z.2.st++ch 10)
       rw [est,ez]
       show tx++nt c.n++ch 32++plc c.p++(ch 32++nt m)++ch 10=tx++(nt c.n++ch 32++plc c.p++(ch 32++nt m)++ch 10)
       simp only [Str.append_assoc]
      rw [← e]
      rfl
   ·obtain ⟨x3,x4,x5,rfl,s4⟩:=h
    refine ⟨_,rfl,?_⟩
    have:ws.take (cs'.map λc=>V.ref c.a).length=ws:=by rw [List.length_map]; exact List.take_of_length_le (by omega)
    rw [this]
    exact k ws H' ((s1.trans s3).trans s4) wk
noncomputable def nW (K:PySem.W.Frag):Sp:=λvs H Q _=>∃ a k,vs=[.ref a,.int k]∧0≤k∧fc K H a∧∀ r H',Same H H'→Q (.int r) H'
theorem xr:FnScope ["_law_script","_law_k"] ["_law_script","_law_k"] (ak sy):=⟨rfl,rfl,rfl,by decide +kernel,rfl,by decide +kernel,by decide +kernel⟩
theorem uZ {f:Addr} {fd:FuncData} (F:Fun K "_law_cell" "_law_cell" sy f fd) (T:Txt mg):FnOk P w K mg base CX0 1 f fd ["_law_script","_law_k"] (nW K):=by
 refine F.ok xr (λvs H Q E h=>?_) (λcdv A outer s H vs Q E hr h=>?_)
 ·obtain ⟨a,k,rfl,_⟩:=h
  rfl
 ·obtain ⟨a,k,rfl,hk,⟨ns,ea⟩,q⟩:=h
  refine ⟨_,ah (bj (aE ky (pv 1) (al aR rfl T.len PySem.boot_len (aa (pv 0) ae)) (aG _)) (aj (aq (aC bx (pv 0) (pv 1) (λ_ _=>rfl)))) aB)
   (ah (bj (aE (ie hr.units0) (pv 0) (bv ae) (aG _)) (aj (aq ai)) aB)
   (aj (aq (ao bc (ao cI (aC bx (pv 0) (ao dh (pv 1) (al aR rfl T.len PySem.boot_len (aa (pv 0) ae))) (λ_ _=>rfl)) ai) (pv 1))))),?_⟩
  refine ⟨_,rfl,_,rfl,a,_,rfl,.inl (ea),_,_,rfl,rfl,_,rfl,?_⟩
  rw [List.length_map]
  by_cases h:k<(ns.length:Int)
  ·rw [decide_eq_true h]
   obtain ⟨j,ej⟩:=lV hk h
   exact av ⟨_,rfl,_,rfl,a,_,_,_,rfl,rfl,ea,ej,q _ _ (Same.refl _)⟩
  ·rw [decide_eq_false h]
   refine aM ⟨_,rfl,Nat.zero_le _,λp hp=>⟨a,p,_,rfl,rfl,((af hp).seq ea),SqL.of ac,_,rfl,?_⟩⟩
   by_cases h0:ns=[]
   ·subst h0
    exact av (q _ _ (af hp))
   ·have hne:¬ ns.map V.int=[]:=by simpa using h0
    rw [decide_eq_false hne]
    have hpos:0<ns.length:=List.length_pos_iff.mpr h0
    have hm1:0≤k % (ns.length:Int):=Int.emod_nonneg _ (by omega)
    have hm2:k % (ns.length:Int)<ns.length:=Int.emod_lt_of_pos _ (by omega)
    obtain ⟨j,ej⟩:=lV hm1 hm2
    have ej':atI (ns.map V.int) (k % ((ns.map V.int).length:Int))=some (.int j):=by rw [List.length_map]; exact ej
    exact aM ⟨_,rfl,_,rfl,_,rfl,a,_,rfl,.inl (((af hp).seq ea)),_,_,rfl,rfl,by rw [List.length_map]; omega,a,_,_,_,rfl,rfl,((af hp).seq ea),ej',_,_,rfl,rfl,.inr ⟨by decide,by decide⟩,_,rfl,_,_,rfl,rfl,q _ _ (af hp)⟩
noncomputable def kl (K:PySem.W.Frag):Sp:=λvs H Q _=>∃ a k m,vs=[.ref a,.int k,.int m]∧0≤k∧0<m∧fc K H a∧∀ r H',0≤r→r<m→Same H H'→Q (.int r) H'
theorem tm:FnScope ["_law_script","_law_k","_law_many","_law_drawn"] ["_law_script","_law_k","_law_many"] (ak sA):=⟨rfl,rfl,rfl,by decide +kernel,rfl,by decide +kernel,by decide +kernel⟩
theorem va {f:Addr} {fd:FuncData} (F:Fun K "_law_pick" "_law_pick" sA f fd) (T:Txt mg) (C:Has P w K mg base 1 "_law_cell" ["_law_script","_law_k"] (nW K)):FnOk P w K mg base CX0 2 f fd ["_law_script","_law_k","_law_many"] (kl K):=by
 obtain ⟨fC,fdC,GC,mC,kC,bC⟩:=C
 refine F.ok tm (λvs H Q E h=>?_) (λcdv A outer s H vs Q E hr h=>?_)
 ·obtain ⟨a,k,m,rfl,_⟩:=h
  rfl
 ·obtain ⟨a,k,m,rfl,hk,hm,hS,q⟩:=h
  refine ⟨_,(ah (ar (i:=3) tm.nd rfl (Or.inl rfl) (ao dh (ao cI (ao bc (am GC hr rfl mC kC bC .nil aV (aa (pv 0) (aa (pv 1) ae))) (ao cI ai (ao bc (pv 1) ai))) ai) ai))
   (aj (aq (ao dh (ao dh (ao bc (ao cI (pv 3) (pv 3)) (ao gJ (pv 3) ai)) ai) (pv 2))))),?_⟩
  refine ⟨_,rfl,_,rfl,a,k,rfl,hk,hS,λr H1 s1=>?_⟩
  refine ⟨_,rfl,_,_,rfl,rfl,_,_,rfl,rfl,.inl ⟨by decide,by decide⟩,_,_,rfl,rfl,_,_,rfl,rfl,.inr ⟨by decide,by decide⟩,_,_,rfl,rfl,(by decide:(0:Int)<2147483399),?_⟩
  generalize hd:(r+6151 * (k+1)) * 40692 % 2147483399=dr
  have d0:0≤dr:=by rw [← hd]; exact Int.emod_nonneg _ (by decide)
  have d1:dr<2147483399:=by rw [← hd]; exact Int.emod_lt_of_pos _ (by decide)
  refine ⟨_,rfl,_,rfl,_,_,rfl,rfl,.inl ⟨by omega,by omega⟩,_,rfl,_,_,rfl,rfl,⟨by decide,by decide⟩,_,_,rfl,rfl,_,_,rfl,rfl,(by decide:(0:Int)<2147483629),_,rfl,_,_,rfl,rfl,hm,?_⟩
  exact q _ _ (Int.emod_nonneg _ (by omega)) (Int.emod_lt_of_pos _ hm) s1
end
noncomputable def iD:Str:=" /abcde0123456789\n-"
theorem xt {i:Int} (h0:0≤i) (h1:i<19):∃ c,atI iD.cps.toList i=some c∧c<128:=by
 obtain ⟨k,rfl⟩:=Int.eq_ofNat_of_zero_le h0
 have hk:k<19:=by omega
 have hl:iD.cps.toList.length=19:=by decide
 refine ⟨iD.cps.toList[k]'(by omega),jA (List.getElem?_eq_getElem (by omega)),?_⟩
 have:∀ c∈iD.cps.toList,c<128:=by decide
 exact this _ (List.getElem_mem _)
section
variable {P:Program} {w:World} {K:PySem.W.Frag} {mg:Str→Option Value} {base:Heap}
noncomputable def tu:Sp:=λvs H Q _=>∃ x:Str,∃ c:Int,vs=[.str x,.int c,.str iD]∧0≤c∧x.length≤900∧∀ y H',Same H H'→Spd x y→Q (.str y) H'
noncomputable def yY:List Str:=["_law_text_here","_law_cell_here","_law_signs","_law_at","_law_sign","_law_on","_law_way"]
theorem mQ:FnScope yY ["_law_text_here","_law_cell_here","_law_signs"] (ak dt):=⟨rfl,rfl,rfl,by decide +kernel,rfl,by decide +kernel,by decide +kernel⟩
theorem xu {f:Addr} {fd:FuncData} (F:Fun K "_law_spoilt" "_law_spoilt" dt f fd) (T:Txt mg):FnOk P w K mg base CX0 1 f fd ["_law_text_here","_law_cell_here","_law_signs"] tu:=by
 refine F.ok mQ (λvs H Q E h=>?_) (λcdv A outer s H vs Q E hr h=>?_)
 ·obtain ⟨x,c,rfl,_⟩:=h
  rfl
 ·obtain ⟨x,c,rfl,hc,hl,q⟩:=h
  refine ⟨_,ah (ar (i:=3) mQ.nd rfl (Or.inl rfl) (ao dh (pv 1) (ao bc (al cr rfl T.len PySem.boot_len (aa (pv 0) ae)) ai)))
   (ah (ar (i:=4) mQ.nd rfl (Or.inl rfl) (aC qQ (pv 2) (ao dh (ao gJ (pv 1) ai) (al cr rfl T.len PySem.boot_len (aa (pv 2) ae))) (λ_ _=>rfl)))
   (ah (ar (i:=5) mQ.nd rfl (Or.inl rfl) (ao bc (ao bc (pv 3) ai) (ao dh (ao gJ (pv 1) ai) ai)))
   (ah (ar (i:=6) mQ.nd rfl (Or.inl rfl) (ao dh (ao gJ (pv 1) ai) ai))
   (ah (bj (aE ky (pv 6) ai (aG _)) (aj (aq (ao ax (ao ax (aT ce (pv 0) bn (bh (pv 3))) (pv 4)) (aT ce (pv 0) (bh (pv 3)) bn)))) aB)
   (ah (bj (aE dQ (pv 6) ai (aG _)) (aj (aq (ao ax (aT ce (pv 0) bn (bh (pv 3))) (aT ce (pv 0) (bh (ao bc (pv 3) ai)) bn)))) aB)
   (ah (bj (aE ky (pv 6) ai (aG _)) (aj (aq (ao ax (ao ax (aT ce (pv 0) bn (bh (pv 3))) (pv 4)) (aT ce (pv 0) (bh (ao bc (pv 3) ai)) bn)))) aB)
   (ah (bj (aE dQ (pv 6) ai (aG _)) (aj (aq (ao ax (aT ce (pv 0) bn (bh (pv 3))) (aT ce (pv 0) (bh (pv 5)) bn)))) aB)
   (ah (bj (aE dQ (pv 6) ai (aG _)) (aj (aq (ao ax (aT ce (pv 0) bn (bh (pv 5))) (aT ce (pv 0) (bh (pv 3)) bn)))) aB)
   (aj (aq (aC bx (bv (aa (ao ax (pv 0) aP) (aa (ao ax aP (pv 0)) (aa (ao ax (aT ce (pv 0) (bh (pv 3)) bn) (aT ce (pv 0) bn (bh (pv 3)))) (aa aP (aa (ao ax (pv 0) (pv 0)) ae)))))) (ao dh (pv 1) ai) (λ_ _=>rfl)))))))))))),?_⟩
  have l19:(iD.length:Int)=19:=by decide
  refine ⟨_,rfl,_,rfl,x,rfl,szl (by omega),_,_,rfl,rfl,_,_,rfl,rfl,(show (0:Int)<(x.length:Int)+1 by omega),?_⟩
  have h3:0≤c % ((x.length:Int)+1):=Int.emod_nonneg _ (by omega)
  dsimp only
  generalize c % ((x.length:Int)+1)=at' at h3 ⊢
  obtain ⟨sc,hsc,sc1⟩:=xt (i:=c / 1000 % (iD.length:Int)) (Int.emod_nonneg _ (by omega)) (by have:=Int.emod_lt_of_pos (c / 1000) (show (0:Int)<(iD.length:Int) by omega); omega)
  refine ⟨_,rfl,_,rfl,_,_,rfl,rfl,⟨by decide,by decide⟩,_,rfl,iD,rfl,szl (by decide),_,_,rfl,rfl,(show (0:Int)<(iD.length:Int) by omega),iD,_,sc,rfl,rfl,szl (by decide),hsc,?_⟩
  have h5:0≤at'+1+c / 7 % 9:=by have:=Int.emod_nonneg (c / 7) (show (9:Int)≠0 by decide); omega
  refine ⟨_,rfl,_,_,rfl,rfl,_,rfl,_,_,rfl,rfl,⟨by decide,by decide⟩,_,_,rfl,rfl,(by decide:(0:Int)<9),_,_,rfl,rfl,?_⟩
  dsimp only
  generalize at'+1+c / 7 % 9=on' at h5 ⊢
  refine ⟨_,rfl,_,_,rfl,rfl,⟨by decide,by decide⟩,_,_,rfl,rfl,(by decide:(0:Int)<8),?_⟩
  dsimp only
  generalize c / 100000 % 8=wy
  have pT:=oR x h3
  have pF:=fK x h3
  have pF1:=fK x (show 0≤at'+1 by omega)
  have pTo:=oR x h5
  have pFo:=fK x h5
  have lT:=pT.len
  have lF:=pF.len
  have lF1:=pF1.len
  have lTo:=pTo.len
  have lFo:=pFo.len
  have l1:(⟨#[sc]⟩:Str).length=1:=rfl
  have c1:∀ c∈sg (⟨#[sc]⟩:Str),c<128:=λc hc=>by rw [show c=sc from List.mem_singleton.mp hc]; exact sc1
  have lTs:(StrLaws.sliceText x none (some at')++(⟨#[sc]⟩:Str)).length≤x.length+1:=by rw [ap]; omega
  refine ⟨_,rfl,_,_,rfl,rfl,_,rfl,?_⟩
  cases e0:decide (wy<2) with
  | true=>exact av ⟨_,rfl,_,rfl,_,rfl,x,rfl,by omega,_,rfl,_,_,rfl,rfl,szl (by omega),_,rfl,_,rfl,_,rfl,x,rfl,by omega,_,_,rfl,rfl,szl (by omega),q _ H (Same.refl _) (.of3 pT pF (by omega) c1)⟩
  | false =>
   refine aM ?_
   refine ⟨_,rfl,rfl,_,rfl,?_⟩
   cases e1:decide (V.int wy=V.int 2) with
   | true=>exact av ⟨_,rfl,_,rfl,_,rfl,x,rfl,by omega,_,rfl,_,rfl,_,_,rfl,rfl,_,rfl,x,rfl,by omega,_,_,rfl,rfl,szl (by omega),q _ H (Same.refl _) (.of2 pT pF1)⟩
   | false =>
    refine aM ?_
    refine ⟨_,rfl,_,_,rfl,rfl,_,rfl,?_⟩
    cases e2:decide (wy<5) with
    | true=>exact av ⟨_,rfl,_,rfl,_,rfl,x,rfl,by omega,_,rfl,_,_,rfl,rfl,szl (by omega),_,rfl,_,rfl,_,_,rfl,rfl,_,rfl,x,rfl,by omega,_,_,rfl,rfl,szl (by omega),q _ H (Same.refl _) (.of3 pT pF1 (by omega) c1)⟩
    | false =>
     refine aM ?_
     refine ⟨_,rfl,rfl,_,rfl,?_⟩
     cases e3:decide (V.int wy=V.int 5) with
     | true=>exact av ⟨_,rfl,_,rfl,_,rfl,x,rfl,by omega,_,rfl,_,rfl,_,rfl,x,rfl,by omega,_,_,rfl,rfl,szl (by omega),q _ H (Same.refl _) (.of2 pT pFo)⟩
     | false =>
      refine aM ?_
      refine ⟨_,rfl,rfl,_,rfl,?_⟩
      cases e4:decide (V.int wy=V.int 6) with
      | true=>exact av ⟨_,rfl,_,rfl,_,rfl,x,rfl,by omega,_,rfl,_,rfl,_,rfl,x,rfl,by omega,_,_,rfl,rfl,szl (by omega),q _ H (Same.refl _) (.of2 pTo pF)⟩
      | false =>
       refine aM ?_
       refine ⟨_,rfl,_,_,rfl,rfl,szl (by show _+1≤_; omega),_,rfl,_,_,rfl,rfl,szl (by show 1+_≤_; omega),_,rfl,_,rfl,_,rfl,x,rfl,by omega,_,rfl,_,rfl,_,rfl,x,rfl,by omega,_,_,rfl,rfl,szl (by omega),_,rfl,_,rfl,_,_,rfl,rfl,szl (by omega),(show 5≤sizeLine from aI (by decide)),λl hl=>?_⟩
       have blank:=Spd.sign_ (s:=" ") (bY.self x) (by decide) (by decide)
       have hm0:=Int.emod_nonneg c (show (5:Int)≠0 by decide)
       have hm1:=Int.emod_lt_of_pos c (show (0:Int)<5 by decide)
       have e5:c % 5=0∨c % 5=1∨c % 5=2∨c % 5=3∨c % 5=4:=by omega
       have emp:Spd x "":=by
        have:=Spd.of2 (bY.emp x) (bY.emp x)
        rw [Str.append_empty] at this
        exact this
       rcases e5 with e | e | e | e | e
       ·exact ⟨_,rfl,_,_,rfl,rfl,(by decide:(0:Int)<5),l,_,c % 5,_,rfl,rfl,SqL.of ac,(by rw [e]; rfl),q (x++" ") _ (af hl) blank.2⟩
       ·exact ⟨_,rfl,_,_,rfl,rfl,(by decide:(0:Int)<5),l,_,c % 5,_,rfl,rfl,SqL.of ac,(by rw [e]; rfl),q (" " ++ x) _ (af hl) blank.1⟩
       ·exact ⟨_,rfl,_,_,rfl,rfl,(by decide:(0:Int)<5),l,_,c % 5,_,rfl,rfl,SqL.of ac,(by rw [e]; rfl),q _ _ (af hl) (.of2 pF pT)⟩
       ·exact ⟨_,rfl,_,_,rfl,rfl,(by decide:(0:Int)<5),l,_,c % 5,_,rfl,rfl,SqL.of ac,(by rw [e]; rfl),q "" _ (af hl) emp⟩
       ·exact ⟨_,rfl,_,_,rfl,rfl,(by decide:(0:Int)<5),l,_,c % 5,_,rfl,rfl,SqL.of ac,(by rw [e]; rfl),q (x++x) _ (af hl) (.of2 (bY.self x) (bY.self x))⟩
end
noncomputable def N9 (i:Nat):Str:=(["Inside","Known","NoMark","NoMatch","NoNode","NoReader","NotFile","NotFolder","Taken"]:List Str).getD i ""
structure Clss9T (mg:Str→Option Value) (K:PySem.W.Frag) (B:Nat→Addr) (C D:Addr):Prop where
 m:∀ i,i<9→mg (N9 i)=some (.ref (B i))
 txt:mg "NoText" = some (.ref C)
 tre:mg "TreeError" = some (.ref D)
 base:PySem.W.ktsIn K D "BaseException" = true
 xc:XI.qc K C=true
 is:∀ j,j<9→PySem.W.kitOne K (.ref C) (.ref (B j))=some false
 self:PySem.W.kitOne K (.ref C) (.ref C)=some true
 val:PySem.W.kitOne K (.ref C) (.type "ValueError")=some true
 sub:PySem.W.subIn K (.ref C) (.ref D)=some true
section
variable {P:Program} {w:World} {K:PySem.W.Frag} {mg:Str→Option Value} {base:Heap}
noncomputable def pk (Pt:Addr):Sp:=λvs H Q _=>∃ x:Str,vs=[.str x]∧TxOk x∧(Txt.split x (ch 10)).length≤30∧db H Pt qRd∧∀ H',dc Pt H H'→db H' Pt qRd→Q (.bl true) H'
theorem mV:FnScope ["_law_text_here","_law_kept","_law_answer","e","_law_kinds"] ["_law_text_here"] (ak dJ):=⟨rfl,rfl,rfl,by decide +kernel,rfl,by decide +kernel,by decide +kernel⟩
theorem xv {f C D Pt:Addr} {B:Nat→Addr} {fd:FuncData} (F:Fun K "_law_holds" "_law_holds" dJ f fd) (T:Txt mg) (L:Clss9T mg K B C D) (CR:lW P w K mg base 5 "read" ["text"] (kc C Pt)) (CT:Has P w K mg base 4 "is_tree" ["thing"] jZ) (CX:Has P w K mg base 2 "_law_text" ["_law_tree_here"] gs) :
  FnOk P w K mg base CX0 6 f fd ["_law_text_here"] (pk Pt):=by
 obtain ⟨fR,fdR,GR,mR,kR,bR⟩:=CR
 obtain ⟨fT,fdT,GT,mT,kT,bT⟩:=CT
 obtain ⟨fX,fdX,GX,mX,kX,bX⟩:=CX
 have m0:mg "Inside" = some (.ref (B 0)):=L.m 0 (by decide)
 have m1:mg "Known" = some (.ref (B 1)):=L.m 1 (by decide)
 have m2:mg "NoMark" = some (.ref (B 2)):=L.m 2 (by decide)
 have m3:mg "NoMatch" = some (.ref (B 3)):=L.m 3 (by decide)
 have m4:mg "NoNode" = some (.ref (B 4)):=L.m 4 (by decide)
 have m5:mg "NoReader" = some (.ref (B 5)):=L.m 5 (by decide)
 have m6:mg "NotFile" = some (.ref (B 6)):=L.m 6 (by decide)
 have m7:mg "NotFolder" = some (.ref (B 7)):=L.m 7 (by decide)
 have m8:mg "Taken" = some (.ref (B 8)):=L.m 8 (by decide)
 refine F.ok mV (λvs H Q E h=>?_) (λcdv A outer s H vs Q E hr h=>?_)
 ·obtain ⟨x,rfl,_⟩:=h
  rfl
 ·obtain ⟨x,rfl,ok,hsp,tq,q⟩:=h
  have hr2:Room 2 _:=hr.mono (by decide)
  have hr4:Room 4 _:=hr.mono (by decide)
  refine ⟨_,ah (ar (i:=1) mV.nd rfl (Or.inl rfl) cH) (ah (ar (i:=2) mV.nd rfl (Or.inl rfl) cH)
   (ah (wv ⟨λ_ _ h=>h,rfl,rfl⟩ (i:=2) (j:=1) (l:=3) (T:=D) mV.nd rfl rfl rfl rfl rfl rfl (ug (λ_ _ h=>h) GR hr rfl mR kR bR (aa (pv 0) ae)) rfl L.tre L.base)
   (ah (bj (aE fo (pv 1) cH (aG _)) (aj (aq (dY (cq rn (am GT hr4 rfl mT kT bT .nil aV (aa (pv 2) ae)) dv (aG _)) (fj (cq dQ (am GX hr2 rfl mX kX bX .nil aV (aa (pv 2) ae)) (pv 0) (aG _)))))) aB)
   (ah (ar (i:=4) mV.nd rfl (Or.inl rfl) (bv (aa (al be rfl T.isin PyProof.Rows.boot_isinstance (aa (pv 1) (aa (bg (v:=.ref (B 0)) rfl m0 rfl) ae))) (aa (al be rfl T.isin PyProof.Rows.boot_isinstance (aa (pv 1) (aa (bg (v:=.ref (B 1)) rfl m1 rfl) ae))) (aa (al be rfl T.isin PyProof.Rows.boot_isinstance (aa (pv 1) (aa (bg (v:=.ref (B 2)) rfl m2 rfl) ae))) (aa (al be rfl T.isin PyProof.Rows.boot_isinstance (aa (pv 1) (aa (bg (v:=.ref (B 3)) rfl m3 rfl) ae))) ae))))))
   (ah (cp (bZ PySem.F.plainAttrs_list PySem.F.slot_list_extend PySem.F.type_list_extend ja (pv 4) (aa (bv (aa (al be rfl T.isin PyProof.Rows.boot_isinstance (aa (pv 1) (aa (bg (v:=.ref (B 4)) rfl m4 rfl) ae))) (aa (al be rfl T.isin PyProof.Rows.boot_isinstance (aa (pv 1) (aa (bg (v:=.ref (B 5)) rfl m5 rfl) ae))) (aa (al be rfl T.isin PyProof.Rows.boot_isinstance (aa (pv 1) (aa (bg (v:=.ref (B 6)) rfl m6 rfl) ae))) ae)))) ae)))
   (ah (cp (bZ PySem.F.plainAttrs_list PySem.F.slot_list_extend PySem.F.type_list_extend ja (pv 4) (aa (bv (aa (al be rfl T.isin PyProof.Rows.boot_isinstance (aa (pv 1) (aa (bg (v:=.ref (B 7)) rfl m7 rfl) ae))) (aa (al be rfl T.isin PyProof.Rows.boot_isinstance (aa (pv 1) (aa (bg (v:=.ref (B 8)) rfl m8 rfl) ae))) ae))) ae)))
   (aj (aq (dY (al be rfl T.isin PyProof.Rows.boot_isinstance (aa (pv 1) (aa (bg (v:=.ref C) rfl L.txt rfl) ae))) (dY (al be rfl T.isin PyProof.Rows.boot_isinstance (aa (pv 1) (aa (dL (v:=.ty "ValueError") rfl T.ValueError PyProof.Rows.Boot.«ValueError» rfl) ae)))
    (fj (cq dQ (bZ PySem.F.plainAttrs_list PySem.F.slot_list_count PySem.F.type_list_count rV (pv 4) (aa dv ae)) ai (aG _))))))))))))),?_⟩
  refine ⟨_,rfl,x,rfl,ok,hsp,tq,λt zs ws H1 off tq1 tr ng good=>?_,λbad H1 off tq1=>⟨_,rfl,L.sub,λea hea=>?_⟩⟩
  ·obtain ⟨T1,R1,W1,E1⟩:=good
   refine ⟨_,rfl,rfl,_,rfl,av ?_⟩
   refine ⟨_,rfl,_,_,rfl,.nodes tr.tup tr.nod (by have:=tr.len; omega) (λz hz=>⟨jw (ng _ (bQ hz)),Nat.le_trans (ng _ (bQ hz)).short (by decide)⟩),λb H2 hb s2=>?_⟩
   have eb:b=true:=hb.mpr tr.tr.toTree
   subst eb
   refine ⟨_,_,rfl,rfl,_,rfl,av ?_⟩
   refine ⟨_,rfl,t,zs,rfl,tr.same s2,ng,λws' H3 s3 wk=>⟨_,rfl,rfl,?_⟩⟩
   rw [Wk.one wk W1,E1]
   show Q (.bl (decide (V.str x=V.str x))) H3
   rw [decide_eq_true rfl]
   exact q H3 (off.trans (bw (s2.trans s3))) (aZ tq1 (s2.trans s3))
  ·refine ⟨_,rfl,rfl,_,rfl,aM ?_⟩
   have s0:=af (o:=.ext (XI.gh ea C)) hea
   have hx:upd H1 ea (.ext (XI.gh ea C)) ea=some (.ext (XI.gh ea C)):=ac
   generalize upd H1 ea (.ext (XI.gh ea C))=H2 at s0 hx ⊢
   refine ⟨_,rfl,ea,C,_,_,rfl,hx,L.xc,.inr ⟨_,rfl,L.is 0 (by decide)⟩,_,rfl,ea,C,_,_,rfl,hx,L.xc,.inr ⟨_,rfl,L.is 1 (by decide)⟩,_,rfl,ea,C,_,_,rfl,hx,L.xc,.inr ⟨_,rfl,L.is 2 (by decide)⟩,_,rfl,ea,C,_,_,rfl,hx,L.xc,.inr ⟨_,rfl,L.is 3 (by decide)⟩,aI (show 4≤1000 by decide),λl1 hl1=>?_⟩
   have s1:=af (o:=.lst [.bl false,.bl false,.bl false,.bl false]) hl1
   have g1:upd H2 l1 (.lst [.bl false,.bl false,.bl false,.bl false]) l1=some (.lst [.bl false,.bl false,.bl false,.bl false]):=ac
   generalize upd H2 l1 (.lst [.bl false,.bl false,.bl false,.bl false])=G1 at s1 g1 ⊢
   refine ⟨_,rfl,.inl ⟨rfl,_,SqL.of g1⟩,_,rfl,ea,C,_,_,rfl,s1 _ _ hx,L.xc,.inr ⟨_,rfl,L.is 4 (by decide)⟩,_,rfl,ea,C,_,_,rfl,s1 _ _ hx,L.xc,.inr ⟨_,rfl,L.is 5 (by decide)⟩,_,rfl,ea,C,_,_,rfl,s1 _ _ hx,L.xc,.inr ⟨_,rfl,L.is 6 (by decide)⟩,aI (show 3≤1000 by decide),λl2 hl2=>?_⟩
   have s2:=s1.trans (af (o:=.lst [.bl false,.bl false,.bl false]) hl2)
   refine ⟨l1,l2,[.bl false,.bl false,.bl false,.bl false],_,rfl,rfl,bt hl2 g1,ac,aI (show 7≤1000 by decide),?_⟩
   have s3:Same H2 (upd (upd G1 l2 (.lst [.bl false,.bl false,.bl false])) l1 (.lst ([.bl false,.bl false,.bl false,.bl false]++[.bl false,.bl false,.bl false]))):=ay hl1 s2
   have g3:upd (upd G1 l2 (.lst [.bl false,.bl false,.bl false])) l1 (.lst ([.bl false,.bl false,.bl false,.bl false]++[.bl false,.bl false,.bl false])) l1=some (.lst [.bl false,.bl false,.bl false,.bl false,.bl false,.bl false,.bl false]):=ac
   generalize upd (upd G1 l2 (.lst [.bl false,.bl false,.bl false])) l1 (.lst ([.bl false,.bl false,.bl false,.bl false]++[.bl false,.bl false,.bl false]))=G3 at s3 g3 ⊢
   refine ⟨_,rfl,.inl ⟨rfl,_,SqL.of g3⟩,_,rfl,ea,C,_,_,rfl,s3 _ _ hx,L.xc,.inr ⟨_,rfl,L.is 7 (by decide)⟩,_,rfl,ea,C,_,_,rfl,s3 _ _ hx,L.xc,.inr ⟨_,rfl,L.is 8 (by decide)⟩,le2,λl3 hl3=>?_⟩
   have s4:=af (o:=.lst [.bl false,.bl false]) hl3
   refine ⟨l1,l3,_,_,rfl,rfl,s4 _ _ g3,ac,aI (show 9≤1000 by decide),?_⟩
   have s5:Same H2 (upd (upd G3 l3 (.lst [.bl false,.bl false])) l1 (.lst ([.bl false,.bl false,.bl false,.bl false,.bl false,.bl false,.bl false]++[.bl false,.bl false]))):=ay hl1 (s3.trans s4)
   have g5:upd (upd G3 l3 (.lst [.bl false,.bl false])) l1 (.lst ([.bl false,.bl false,.bl false,.bl false,.bl false,.bl false,.bl false]++[.bl false,.bl false])) l1=some (.lst ([false,false,false,false,false,false,false,false,false].map V.bl)):=ac
   generalize upd (upd G3 l3 (.lst [.bl false,.bl false])) l1 (.lst ([.bl false,.bl false,.bl false,.bl false,.bl false,.bl false,.bl false]++[.bl false,.bl false]))=G5 at s5 g5 ⊢
   refine ⟨_,rfl,ea,C,_,_,rfl,s5 _ _ hx,L.xc,.inr ⟨_,rfl,L.self⟩,_,rfl,av ⟨_,rfl,ea,C,_,_,rfl,s5 _ _ hx,L.xc,.inl ⟨_,rfl,L.val⟩,_,rfl,av ?_⟩⟩
   refine ⟨_,rfl,.inl ⟨rfl,_,SqL.of g5⟩,l1,_,rfl,rfl,g5,rfl,?_⟩
   exact q G5 (off.trans (bw (s0.trans s5))) (aZ tq1 (s0.trans s5))
noncomputable def km (K:PySem.W.Frag):Sp:=λvs H Q _=>∃ a at' m,vs=[.ref a,.int at',.int m]∧0≤at'∧0≤m∧m≤9∧fc K H a∧∀ t zs H',H' t=some (.tup (aN zs))→At H' zs→(zs.length:Int)≤m→TW.Tree (nds zs)→(∀ z∈zs,wz z.2)→Same H H'→Q (.ref t) H'
theorem scB:FnScope ["_law_script","_law_at","_law_most","_law_left","_law_folders","_law_nodes","_law_k","_law_number","_law_parent","_law_name","_law_stamp"] ["_law_script","_law_at","_law_most"] (ak fY):=⟨rfl,rfl,rfl,by decide +kernel,rfl,by decide +kernel,by decide +kernel⟩
noncomputable def buS (i:Nat):Stmt:=match (bK fY).getD 3 (.Pass ⟨0,0,0,0⟩) with
 | .For _ _ b _ _=>b.getD i (.Pass ⟨0,0,0,0⟩)
 | x=>x
noncomputable abbrev BX (P:Program) (w:World) (K:PySem.W.Frag) (mg:Str→Option Value) (base:Heap) (f:Addr) (cdv:Value) (A:Around) (outer:List Env) (s:Shared) (H:Hp) (E:XK):Cx:=(iF CX0 P w K mg base ["_law_script","_law_at","_law_most","_law_left","_law_folders","_law_nodes","_law_k","_law_number","_law_parent","_law_name","_law_stamp"] "_law_tree" (ak fY) f cdv A outer s H E).nox
theorem yo {f:Addr} {cdv:Value} {A:Around} {outer:List Env} {s:Shared} {H0:Hp} {E:XK} (hr:Room 2 (A.deeper (PyProof.Rows.envOfC "_law_tree" (ak fY) s.heap.objs.size f cdv))) :
  ∃ t,PS (BX P w K mg base f cdv A outer s H0 E) (buS 5) t∧∀ (D:Ends) (H H6:Hp) (pl pf pn:Addr) (x0 x1 x2 x6:Option V) (lf:List Int) (zs:ZN) (num par:Int) (nm:Str) (st:Option Int),Sta H pl pf pn H6 lf (0 :: TW.aF (nds zs)) zs→zs.length≤20 →
   (∀ H',Sta H pl pf pn H' lf (0 :: TW.aF (nds zs)) zs→D.nx [x0,x1,x2,some (.ref pl),some (.ref pf),some (.ref pn),x6,some (.int num),some (.int par),some (.str nm),some (stV st)] H') →
   (∀ q H',(∀ z∈zs,¬ (z.2.par=par∧z.2.nm=nm))→Sta H pl pf pn H' lf (0 :: TW.aF (nds (zs++[(q,⟨num,par,nm,st⟩)]))) (zs++[(q,⟨num,par,nm,st⟩)])→D.nx [x0,x1,x2,some (.ref pl),some (.ref pf),some (.ref pn),x6,some (.int num),some (.int par),some (.str nm),some (stV st)] H') →
   t D [x0,x1,x2,some (.ref pl),some (.ref pf),some (.ref pn),x6,some (.int num),some (.int par),some (.str nm),some (stV st)] H6:=by
 refine ⟨_,bj (aE (iI (dB hr)) (cz (aa (pv 8) (aa (pv 9) ae))) (cF (N:=["_law_node"]) (k:=1) (js:=[]) (g:=bp 0) rfl (cM rfl (by decide +kernel) (by decide +kernel) (by decide +kernel)) rfl (λi j x h=>by simp at h)
     (dg (pv 5)) (λs H fp=>aH (i:=0) (show (["_law_node"]:List Str).Nodup by decide +kernel) rfl (Or.inl rfl) (Or.inr rfl))
     (λs H fp=>aT (r:=vM K) nq (pv 0) (bh ai) (bh ai))) rfl) (ah (cp (bZ PySem.F.plainAttrs_list PySem.F.slot_list_append PySem.F.type_list_append bJ (pv 5) (aa (cz (aa (pv 7) (aa (pv 8) (aa (pv 9) (aa (pv 10) ae))))) ae))) (aj (bj (aE fo (pv 10) cH (aG _)) (aj (cp (bZ PySem.F.plainAttrs_list PySem.F.slot_list_append PySem.F.type_list_append bJ (pv 4) (aa (pv 7) ae)))) aB))) aB,?_⟩
 intro D H H6 pl pf pn x0 x1 x2 x6 lf zs num par nm st A6 hzl qs qa
 refine ⟨_,rfl,_,rfl,le2,λq0 hq0=>?_⟩
 have A7:=A6.grow (af (o:=.tup [.int par,.str nm]) hq0)
 have eq0:(upd H6 q0 (.tup [.int par,.str nm])) q0=some (.tup ([Sum.inl par,Sum.inr nm].map kV)):=ac
 refine ⟨_,rfl,pn,rfl,⟨_,SqL.of A7.n⟩,λp hp=>?_⟩
 generalize upd H6 q0 (.tup [.int par,.str nm])=H7 at A7 eq0 hp ⊢
 refine ji (k:=1) (js:=[]) (J:=Itl K pn) (p:=p) zs.length (by omega) (λi ys σ' H'=>∃ kss:List (Addr×List Key),ys=(kss.map (·.1)).map V.ref∧kss.map (·.2)=((nds zs).take i).map plK∧kss.length=i∧(∀ z∈kss,H' z.1=some (.tup (z.2.map kV)))∧σ'.length=1∧Same H7 H'∧H' p=some (.lst ys))
  ⟨[],rfl,rfl,rfl,by simp,rfl,af hp,ac⟩ (λi ys σ' H' h=>?_) (λi ys σ' H' hi h=>?_) (λys σ' H' h=>?_) (λi ys σ' H' hi h v H2 hy=>?_) ?_ ?_
 ·obtain ⟨kss,rfl,_,e,_⟩:=h
  rw [List.length_map,List.length_map]; omega
 ·obtain ⟨_,_,_,_,_,_,s2,_⟩:=h
  exact ⟨_,_,SqL.of (s2 _ _ A7.n),cX (List.getElem?_eq_getElem hi)⟩
 ·obtain ⟨kss,e1,e2,e3,e4,_,s2,e5⟩:=h
  refine ⟨⟨_,SqL.of (s2 _ _ A7.n),by rw [aL]; exact Nat.le_refl _⟩,?_⟩
  subst e1
  refine ⟨q0,p,_,kss,rfl,s2 _ _ eq0,rfl,SqL.of e5,e4,_,rfl,?_⟩
  rw [List.take_of_length_le (by rw [aW]; exact Nat.le_refl _)] at e2
  have A8:=A7.grow s2
  cases ea:(kss.any λz=>decide (z.2=[Sum.inl par,Sum.inr nm])) with
  | true=>exact aM (qs _ A8)
  | false =>
   have ho:∀ z∈zs,¬ (z.2.par=par∧z.2.nm=nm):=λz hz ⟨h1,h2⟩=>by
    have m1:plK z.2∈kss.map (·.2):=by rw [e2]; exact List.mem_map.mpr ⟨z.2,List.mem_map.mpr ⟨z,hz,rfl⟩,rfl⟩
    obtain ⟨y,hy,ey⟩:=List.mem_map.mp m1
    have:(kss.any λz=>decide (z.2=[Sum.inl par,Sum.inr nm]))=true:=List.any_eq_true.mpr ⟨y,hy,by rw [decide_eq_true_eq,ey]; unfold plK; rw [h1,h2]⟩
    rw [ea] at this; cases this
   refine av ⟨_,rfl,.inl ⟨rfl,_,SqL.of A8.n⟩,_,rfl,_,rfl,_,rfl,_,rfl,(show 4≤sizeLine from aI (by decide)),λq hq=>⟨pn,_,_,rfl,rfl,bt hq A8.n,aQ (by rw [aL]; omega),?_⟩⟩
   have A9:=(A8.grow (af (o:=.tup (vals ⟨num,par,nm,st⟩)) hq)).node (n:=⟨num,par,nm,st⟩) ac
   refine ⟨_,rfl,rfl,_,rfl,?_⟩
   cases st with
   | some i5 =>
    have ef:(0 :: TW.aF (nds zs))=(0:Int) :: TW.aF (nds (zs++[(q,⟨num,par,nm,some i5⟩)])):=by simp [TW.aF,nds]
    rw [ef] at A9
    exact aM (qa q _ ho A9)
   | none =>
    refine av ⟨_,rfl,.inl ⟨rfl,_,SqL.of A9.f⟩,_,rfl,pf,_,_,rfl,rfl,A9.f,aQ ?_,?_⟩
    ·have:=TW.cG (nds zs)
     rw [aW] at this
     rw [List.length_map,List.length_cons]; omega
    ·have A10:=A9.fold num
     have ef:(0 :: TW.aF (nds zs))++[num]=(0:Int) :: TW.aF (nds (zs++[(q,⟨num,par,nm,none⟩)])):=by simp [TW.aF,nds]
     rw [ef] at A10
     exact qa q _ ho A10
 ·obtain ⟨kss,e1,e2,e3,e4,e0,s2,e5⟩:=h
  obtain ⟨o1,rfl⟩:=nI e0
  obtain ⟨rfl,hx⟩:=hy
  have gx:=hx _ (SqL.of (s2 _ _ A7.n))
  obtain ⟨z1,g1,rfl⟩:=bu gx
  have m1:=List.mem_of_getElem? g1
  have ecut:gC (vals z1.2) (some 1) (some 3)=[.int z1.2.par,.str z1.2.nm]:=rfl
  refine ⟨_,rfl,_,rfl,_,rfl,z1.1,_,rfl,SqT.of (s2 _ _ (A7.nd z1 m1)),(λh=>by have h1:(1:Nat)=0:=h.1; cases h1),λq hq=>?_⟩
  rw [ecut]
  refine ⟨bt hq e5,kss++[(q,plK z1.2)],by rw [e1]; simp,?_,by simp [e3],?_,rfl,ay hp (s2.trans (af hq)),ac⟩
  ·rw [List.map_append,e2,List.take_succ,show (nds zs)[i]? = some z1.2 by unfold nds; rw [List.getElem?_map,g1]; rfl,List.map_append]
   rfl
  ·intro z hz
   have hqp:q≠p:=λz=>by rw [z,e5] at hq; cases hq
   rcases List.mem_append.mp hz with hz | hz
   ·have:=bt (o:=.tup [.int z1.2.par,.str z1.2.nm]) hq (e4 z hz)
    rw [ag]
    ·exact this
    ·intro e
     rw [e,ag (Ne.symm hqp),e5] at this
     cases this
   ·have e:z=(q,plK z1.2):=by simpa using hz
    subst e
    rw [ag hqp]
    exact ac
 ·rintro _ _ _ _ _ m h
  exact m _ _ h
 ·rintro _ _ _ _ m ⟨v1,b0,i1,b1,i2,b2,a2,x2,c1,c2,c3,q⟩
  exact ⟨v1,b0,i1,b1,i2,b2,a2,x2,c1,c2,c3,λp hp=>m _ _ (q p hp)⟩
theorem tw {f:Addr} {fd:FuncData} (F:Fun K "_law_tree" "_law_tree" fY f fd) (T:Txt mg) (C:Has P w K mg base 2 "_law_pick" ["_law_script","_law_k","_law_many"] (kl K)):FnOk P w K mg base CX0 3 f fd ["_law_script","_law_at","_law_most"] (km K):=by
 obtain ⟨fP,fdP,GP,mP,kP,bP⟩:=C
 refine F.ok scB (λvs H Q E h=>?_) (λcdv A outer s H vs Q E hr h=>?_)
 ·obtain ⟨a,at',m,rfl,_⟩:=h
  rfl
 ·obtain ⟨a,at',m,rfl,ha0,hm0,hm9,hS,k⟩:=h
  obtain ⟨t5,p5,h5⟩:=yo (P:=P) (w:=w) (mg:=mg) (base:=base) (f:=f) (cdv:=cdv) (A:=A) (outer:=outer) (s:=s) (H0:=H) (E:=E) hr
  refine ⟨_,(ah (ar (i:=3) scB.nd rfl (Or.inl rfl) (bo (iL rfl) rfl T.list rfl (aa (bo pX rfl T.range rfl (aa ai (aa (ao bc (pv 2) ai) ae))) ae)))
    (ah (ar (i:=4) scB.nd rfl (Or.inl rfl) (bv (aa ai ae)))
    (ah (ar (i:=5) scB.nd rfl (Or.inl rfl) (bv ae))
    (ah (dA PassesOwn.never rfl (fk rfl T.range (aa (am GP hr rfl mP kP bP .nil aV (aa (pv 0) (aa (pv 1) (aa (ao bc (pv 2) ai) ae)))) ae)) (aH (i:=6) scB.nd rfl (Or.inl rfl))
    (ah (ar (i:=7) scB.nd rfl (Or.inl rfl) (bZ PySem.F.plainAttrs_list PySem.F.slot_list_pop PySem.F.type_list_pop qV (pv 3) (aa (am GP hr rfl mP kP bP .nil aV (aa (pv 0) (aa (ao bc (ao bc (pv 1) ai) (ao cI ai (pv 6))) (aa (al aR rfl T.len PySem.boot_len (aa (pv 3) ae)) ae)))) ae)))
    (ah (ar (i:=8) scB.nd rfl (Or.inl rfl) (aC bx (pv 4) (am GP hr rfl mP kP bP .nil aV (aa (pv 0) (aa (ao bc (ao bc (pv 1) ai) (ao cI ai (pv 6))) (aa (al aR rfl T.len PySem.boot_len (aa (pv 4) ae)) ae)))) (λ_ _=>rfl)))
    (ah (ar (i:=9) scB.nd rfl (Or.inl rfl) (aC bx (bv (aa aP (aa aP (aa aP (aa aP ae))))) (am GP hr rfl mP kP bP .nil aV (aa (pv 0) (aa (ao bc (ao bc (pv 1) ai) (ao cI ai (pv 6))) (aa ai ae)))) (λ_ _=>rfl)))
    (ah (ar (i:=10) scB.nd rfl (Or.inl rfl) cH)
    (ah (bj (aE xM (am GP hr rfl mP kP bP .nil aV (aa (pv 0) (aa (ao bc (ao bc (pv 1) ai) (ao cI ai (pv 6))) (aa ai ae)))) ai (aG _)) (aj (ar (i:=10) scB.nd rfl (Or.inl rfl) (aC bx (bv (aa ai (aa ai (aa ai (aa ai ae))))) (am GP hr rfl mP kP bP .nil aV (aa (pv 0) (aa (ao bc (ao bc (pv 1) ai) (ao cI ai (pv 6))) (aa ai ae)))) (λ_ _=>rfl)))) aB)
    (aj p5)))))))
    (aj (aq (bo cJ rfl T.tuple rfl (aa (al fz rfl T.sorted PyProof.Rows.boot_sorted (aa (pv 5) ae)) ae)))))))),?_⟩
  refine ⟨_,rfl,_,_,rfl,rfl,_,_,rfl,λp1 hp1=>⟨p1,_,_,rfl,ac,⟨by decide,by decide,by omega,by omega⟩,by omega,λpl hpl=>?_⟩⟩
  refine ⟨aI (by decide),λpf hpf=>⟨Nat.zero_le _,λpn hpn=>?_⟩⟩
  have s0:Same H (upd (upd (upd (upd H p1 (.rng 1 (m+4))) pl (.lst ((List.range (m+4 - 1:Int).toNat).map λk=>V.int (1+(k:Nat))))) pf (.lst [.int 0])) pn (.lst [])):=(((af hp1).trans (af hpl)).trans (af hpf)).trans (af hpn)
  have hfl:pl≠pf:=λe=>by rw [← e,ac] at hpf; cases hpf
  have hln:pl≠pn:=λe=>by rw [← e,ag hfl,ac] at hpn; cases hpn
  have hfn:pf≠pn:=λe=>by rw [← e,ac] at hpn; cases hpn
  have A0:Sta H pl pf pn (upd (upd (upd (upd H p1 (.rng 1 (m+4))) pl (.lst ((List.range (m+4 - 1:Int).toNat).map λk=>V.int (1+(k:Nat))))) pf (.lst [.int 0])) pn (.lst [])) (lf0 m) [0] [] :=
   ⟨s0,by rw [ag hln,ag hfl,ac,lf0,List.map_map]; rfl,by rw [ag hfn,ac]; rfl,ac,λz hz=>by simp at hz,(af hp1).free hpl,((af hp1).trans (af hpl)).free hpf,(((af hp1).trans (af hpl)).trans (af hpf)).free hpn,hfl,hln,hfn⟩
  have B0:Bd [] (lf0 m):=Bd.zero hm9
  refine ⟨_,rfl,_,rfl,_,rfl,_,_,rfl,rfl,a,_,_,rfl,ha0,by omega,hS.same s0,λr H1 r0 r1 s1=>⟨r,rfl,by omega,by omega,?_⟩⟩
  refine fm (n:=r.toNat) (λi σ H'=>∃ lf zs o6 o7 o8 o9 o10,σ=[some (.ref a),some (.int at'),some (.int m),some (.ref pl),some (.ref pf),some (.ref pn),o6,o7,o8,o9,o10]∧Sta H pl pf pn H' lf (0 :: TW.aF (nds zs)) zs∧Bd zs lf∧(lf.length:Int)+i=m+3∧zs.length≤i)
   ⟨_,[],_,_,_,_,_,rfl,A0.grow s1,B0,by rw [uz hm0]; omega,Nat.le_refl _⟩ (λi σ H' hi h=>?_) (λσ H' h=>?_)
  ·obtain ⟨lf,zs,o6,o7,o8,o9,o10,rfl,A1,B,hlf,hzl⟩:=h
   have hi8:i<10:=by omega
   have z0:(0:Int)≤at'+1+6 * (0+(i:Int)):=by omega
   refine ⟨_,rfl,.inl ⟨rfl,_,SqL.of A1.l⟩,_,rfl,_,rfl,_,_,rfl,rfl,_,rfl,_,_,rfl,rfl,.inl ⟨by decide,by decide⟩,_,_,rfl,rfl,_,rfl,pl,_,rfl,.inl (SqL.of A1.l),a,_,_,rfl,by omega,by rw [List.length_map]; omega,hS.same A1.same,λj H2 j0 j1 s2=>?_⟩
   rw [List.length_map] at j1
   have A2:=A1.grow s2
   obtain ⟨num,gnum⟩:∃ num,lf[j.toNat]? = some num:=⟨_,List.getElem?_eq_getElem (by omega)⟩
   refine ⟨pl,_,j,j.toNat,.int num,rfl,rfl,A2.l,by omega,by omega,by rw [List.length_map]; exact wA j0 j1,by rw [List.getElem?_map,gnum]; rfl,?_⟩
   rw [jl]
   have A3:=A2.pop (lf.eraseIdx j.toNat)
   have elen:(lf.eraseIdx j.toNat).length=lf.length - 1:=List.length_eraseIdx_of_lt (by omega)
   generalize upd H2 pl (.lst ((lf.eraseIdx j.toNat).map V.int))=H3 at A3 ⊢
   refine ⟨_,rfl,_,rfl,_,rfl,_,_,rfl,rfl,_,rfl,_,_,rfl,rfl,.inl ⟨by decide,by decide⟩,_,_,rfl,rfl,_,rfl,pf,_,rfl,.inl (SqL.of A3.f),a,_,_,rfl,by omega,by rw [List.length_map,List.length_cons]; omega,hS.same A3.same,λj2 H4 j20 j21 s4=>?_⟩
   rw [List.length_map] at j21
   obtain ⟨par,mpar,gpar⟩:=uw j20 j21
   have A4:=A3.grow s4
   refine ⟨pf,_,_,_,rfl,rfl,SqL.of A4.f,gpar,?_⟩
   refine ⟨aI (by decide),λp3 hp3=>?_⟩
   have A5:=A4.grow (af (o:=.lst [.str "a",.str "b",.str "c",.str "abcde"]) hp3)
   refine ⟨_,rfl,_,rfl,_,_,rfl,rfl,_,rfl,_,_,rfl,rfl,.inl ⟨by decide,by decide⟩,_,_,rfl,rfl,a,_,_,rfl,by omega,by decide,hS.same A5.same,λj3 H5 j30 j31 s5=>?_⟩
   obtain ⟨nm,hnm,gnm⟩:=ux j30 j31
   refine ⟨p3,_,_,_,rfl,rfl,SqL.of (s5 _ _ ac),gnm,?_⟩
   have A6:=A5.grow s5
   refine ⟨_,rfl,_,rfl,_,_,rfl,rfl,_,rfl,_,_,rfl,rfl,.inl ⟨by decide,by decide⟩,_,_,rfl,rfl,a,_,_,rfl,by omega,by decide,hS.same A6.same,λj4 H6 j40 j41 s6=>⟨_,_,rfl,rfl,_,rfl,?_⟩⟩
   have A6':=A6.grow s6
   refine xW (λhgt=>?_) (λhgt=>?_)
   ·refine ⟨aI (by decide),λp5 hp5=>?_⟩
    have A65:=A6'.grow (af (o:=.lst [.int 0,.int 1,.int 2,.int 999]) hp5)
    refine ⟨_,rfl,_,rfl,_,_,rfl,rfl,_,rfl,_,_,rfl,rfl,.inl ⟨by decide,by decide⟩,_,_,rfl,rfl,a,_,_,rfl,by omega,by decide,hS.same A65.same,λj5 H65 j50 j51 s65=>?_⟩
    obtain ⟨i5,hst5,gst⟩:=uy j50 j51
    refine ⟨p5,_,_,_,rfl,rfl,SqL.of (s65 _ _ ac),gst,?_⟩
    have A66:=A65.grow s65
    exact h5 _ H H65 pl pf pn _ _ _ _ (lf.eraseIdx j.toNat) zs num par nm (some i5) A66 (by omega) (λH' A8=>⟨_,zs,_,_,_,_,_,rfl,A8,B.skip _,by rw [elen]; omega,by omega⟩)
     (λq H' ho A9=>⟨_,_,_,_,_,_,_,rfl,A9,B.add (q:=q) (n:=⟨num,par,nm,(some i5)⟩) gnum mpar ho hnm hst5,by rw [elen]; omega,by rw [List.length_append,List.length_singleton]; omega⟩)
   ·exact h5 _ H H6 pl pf pn _ _ _ _ (lf.eraseIdx j.toNat) zs num par nm none A6' (by omega) (λH' A8=>⟨_,zs,_,_,_,_,_,rfl,A8,B.skip _,by rw [elen]; omega,by omega⟩)
     (λq H' ho A9=>⟨_,_,_,_,_,_,_,rfl,A9,B.add (q:=q) (n:=⟨num,par,nm,none⟩) gnum mpar ho hnm (.inl rfl),by rw [elen]; omega,by rw [List.length_append,List.length_singleton]; omega⟩)
  ·obtain ⟨lf,zs,o6,o7,o8,o9,o10,rfl,A1,B,hlf,hzl⟩:=h
   have hzl8:(zs.length:Int)≤m:=by omega
   have hnum:(zs.map tp).map (·.2.1)=(nds zs).map (·.num):=by
    unfold nds
    simp only [List.map_map]
    rfl
   have hnd:((nds zs).map (·.num)).Nodup:=(List.nodup_append.mp B.nd).1
   refine ⟨_,rfl,pn,zs.map tp,rfl,SqL.of (by rw [A1.n,oN]),λz hz=>?_,by rw [hnum]; exact hnd,by rw [List.length_map]; omega,λts pm up p hp=>?_⟩
   ·obtain ⟨y,hy,rfl⟩:=List.mem_map.mp hz
    exact A1.nd y hy
   ·obtain ⟨pm2,eb⟩:=back pm
    have er:(ts.map (·.1)).map V.ref=aN (ts.map un):=by rw [← oN,eb]
    rw [er]
    refine ⟨p,_,rfl,.inl ⟨SqL.of ac,λl hl=>?_⟩⟩
    have mem:∀ z,z∈ts.map un→z∈zs:=λz hz=>pm2.mem_iff.mp hz
    refine k l (ts.map un) _ ac ?_ (by rw [pm2.length_eq]; exact hzl8) ?_ (λz hz=>B.ok z (mem z hz)) ((A1.same.trans (af hp)).trans (af hl))
    ·intro z hz
     exact ((af hp).trans (af hl)) _ _ (A1.nd z (mem z hz))
    ·refine TW.uu B.built (pm2.map _) ?_ hnd B.own
     unfold nds
     rw [List.pairwise_map]
     have up2:((ts.map un).map tp).Pairwise (λa b=>a.2.1<b.2.1):=by rw [eb]; exact up
     rw [List.pairwise_map] at up2
     exact up2.imp λh=>Int.le_of_lt h
end
theorem tD {n:Int} {k:Nat} (h0:0≤n) (h1:n<10 ^ k) (hk:0<k):(nt n).length≤k:=by
 obtain ⟨m,rfl⟩:=Int.eq_ofNat_of_zero_le h0
 have hm:m<10 ^ k:=by exact_mod_cast h1
 rw [← bi,sm,List.length_map]
 exact (Nat.length_toDigits_le_iff (b:=10) (k:=k) (n:=m) (by decide) hk).mpr hm
theorem xw {n:Nd} (h:wz n):NodG n∧n.num<100:=by
 obtain ⟨h1,h2,h3,h4⟩:=h
 refine ⟨{ num:=⟨h1,by omega⟩,nm:=?_,st:=λi e=>?_,short:=?_ },by omega⟩
 ·rcases h3 with e | e | e | e <;> rw [e] <;> exact ⟨by decide,by decide⟩
 ·rw [e] at h4
  rcases h4 with h | h | h | h | h
  ·cases h
  all_goals (injection h with h; omega)
 ·rcases h3 with e | e | e | e <;> rw [e] <;> decide
theorem tE {w:Wt} (hn:NodG w.2) (hs:w.2.num<100) (hp:∀ x∈w.1,x.length≤5) (h8:w.1.length≤8):(lnT w).length≤55:=by
 have h1:=dN hp
 have h2:=tD (n:=w.2.num) (k:=2) (by have:=hn.num.1; omega) hs (by decide)
 have h3:(stx w.2.st).length≤4:=by
  cases e:w.2.st with
  | none=>exact (by decide:(ch 47).length≤4)
  | some i =>
   have hi:=hn.st i e
   have h4:=tD (n:=i) (k:=3) hi.1 (by omega) (by decide)
   show (ch 32++nt i).length≤4
   rw [ap]
   show 1+_≤4
   omega
 unfold lnT
 rw [ap,ap,ap]
 show _+1+_+_≤_
 omega
theorem xx {w:Wt} (hn:NodR w.2) (hp:fG w.1):∀ c∈sg (lnT w),c<128:=λc hc=>by
 unfold lnT at hc
 rw [bf,bf,bf] at hc
 rcases List.mem_append.mp hc with hc | hc
 ·rcases List.mem_append.mp hc with hc | hc
  ·rcases List.mem_append.mp hc with hc | hc
   ·have:=jT (n:=w.2.num) (by have:=hn.num.1; omega) c hc
    omega
   ·rw [show c=32 from List.mem_singleton.mp hc]; decide
  ·rcases nO hp c hc with h | h <;> omega
 ·rcases sq hn.st c hc with h | h | h <;> omega
theorem pq:∀ {ws:List Wt},(∀ w∈ws,NodR w.2∧fG w.1)→∀ c∈sg (txt ws),c<128
 | [],_,c,h=>nomatch h
 | w :: r,h,c,hc=>by
  rw [show txt (w :: r)=lnT w++ch 10++txt r from rfl,bf,bf] at hc
  rcases List.mem_append.mp hc with hc | hc
  ·rcases List.mem_append.mp hc with hc | hc
   ·exact xx (h w List.mem_cons_self).1 (h w List.mem_cons_self).2 c hc
   ·rw [show c=10 from List.mem_singleton.mp hc]; decide
  ·exact pq (λv hv=>h v (List.mem_cons_of_mem _ hv)) c hc
theorem Wk.few {t:List Nd} {ws:List Wt} (T:TW.Tree1 t) (W:Wk t ws):ws.length≤t.length:=by
 have hn:((ws.map (·.2)).map (·.num)).Nodup:=by rw [List.map_map]; exact Wk.nums T W
 have hn:(ws.map (·.2)).Nodup:=by
  unfold List.Nodup at hn ⊢
  rw [List.pairwise_map] at hn
  exact hn.imp λh e=>h (by rw [e])
 have:=List.Nodup.length_le_of_subset hn (l₂:=t) λn h=>by
  obtain ⟨w,hw,rfl⟩:=List.mem_map.mp h
  exact ((W.mem w.1 w.2).mp hw).1
 rw [List.length_map] at this
 exact this
theorem nX {K:PySem.W.Frag} {H H':Hp} {Pt a:Addr} {q:Str} {xs:List V} (T:db H Pt q) (o:dc Pt H H') (h:SqL K H a xs):SqL K H' a xs:=by
 rcases h with (h | ⟨ob,h⟩) | h
 ·exact .inl (.inl (fi T o h λps e=>nomatch e))
 ·exact .inl (.inr ⟨ob,fi T o h λps e=>nomatch e⟩)
 ·exact .inr h
structure Tx8 (x:Str):Prop where
 len:x.length≤448
 cnt:(sg x).count 10≤8
 low:∀ c∈sg x,c<128
theorem Tx8.ok {x:Str} (h:Tx8 x):TxOk x∧(Txt.split x (ch 10)).length≤30:=by
 have:=h.cnt
 have:=h.len
 exact ⟨⟨by omega,λc hc=>Nat.lt_trans (h.low c hc) (by decide)⟩,by rw [← fM]; omega⟩
theorem Tx8.spd {x y:Str} (h:Tx8 x) (s:Spd x y):TxOk y∧(Txt.split y (ch 10)).length≤30:=by
 have:=h.cnt
 have:=h.len
 have:=s.cnt
 have:=s.len
 refine ⟨⟨by omega,λc hc=>?_⟩,by rw [← fM]; omega⟩
 rcases s.mem c hc with h1 | h1
 ·exact Nat.lt_trans (h.low c h1) (by decide)
 ·exact Nat.lt_trans h1 (by decide)
theorem xy {zs:ZN} {ws:List Wt} (T:TW.Tree1 (nds zs)) (W:Wk (nds zs) ws) (ng:∀ n∈nds zs,NodG n∧n.num<100) (hl:zs.length≤8):Tx8 (txt ws):=by
 have hw:=Wk.few T W
 rw [aW] at hw
 have pth:∀ w∈ws,NodR w.2∧fG w.1:=λw h=>W.pth (λn hn=>(ng n hn).1.toNodR) h
 refine ⟨?_,?_,pq pth⟩
 ·have:=kg (ws:=ws) (k:=55) λw h=>by
   obtain ⟨h1,h2⟩:=(W.mem w.1 w.2).mp h
   have hp:=h2.len T
   rw [aW] at hp
   exact tE (ng _ h1).1 (ng _ h1).2 (eK (λn hn=>(ng n hn).1.short) h2) (by omega)
  have:=Nat.mul_le_mul_left 56 (show ws.length≤8 by omega)
  omega
 ·have e:=jq pth
  have hc:=fM (txt ws) 10
  unfold bE at e
  split at e
  ·injection e with e
   have:=congrArg List.length e
   rw [List.length_dropLast,List.length_map] at this
   omega
  ·cases e
section
variable {P:Program} {w:World} {K:PySem.W.Frag} {mg:Str→Option Value} {base:Heap}
noncomputable def kn (K:PySem.W.Frag) (Pt:Addr):Sp:=λvs H Q _=>∃ a,vs=[.ref a]∧fc K H a∧db H Pt qRd∧∀ H',dc Pt H H'→db H' Pt qRd→Q (.bl true) H'
theorem vb:FnScope ["_law_script","_law_tree_here","_law_text_here","_law_k"] ["_law_script"] (ak sC):=⟨rfl,rfl,rfl,by decide +kernel,rfl,by decide +kernel,by decide +kernel⟩
theorem vc {f C Pt:Addr} {fd:FuncData} (F:Fun K "_law_once" "_law_once" sC f fd) (T:Txt mg) (CB:Has P w K mg base 3 "_law_tree" ["_law_script","_law_at","_law_most"] (km K)) (CP:Has P w K mg base 2 "_law_pick" ["_law_script","_law_k","_law_many"] (kl K)) (CX:Has P w K mg base 2 "_law_text" ["_law_tree_here"] gs)
  (CW:Has P w K mg base 4 "written" ["tree"] gs) (CR:lW P w K mg base 5 "read" ["text"] (kc C Pt)) (CS:Has P w K mg base 1 "_law_spoilt" ["_law_text_here","_law_cell_here","_law_signs"] tu) (CH:Has P w K mg base 6 "_law_holds" ["_law_text_here"] (pk Pt)):FnOk P w K mg base CX0 7 f fd ["_law_script"] (kn K Pt):=by
 obtain ⟨fB,fdB,GB,mB,kB,bB⟩:=CB
 obtain ⟨fP,fdP,GP,mP,kP,bP⟩:=CP
 obtain ⟨fX,fdX,GX,mX,kX,bX⟩:=CX
 obtain ⟨fW,fdW,GW,mW,kW,bW⟩:=CW
 obtain ⟨fR,fdR,GR,mR,kR,bR⟩:=CR
 obtain ⟨fS,fdS,GS,mS,kS,bS⟩:=CS
 obtain ⟨fH,fdH,GH,mH,kH,bH⟩:=CH
 refine F.ok vb (λvs H Q E h=>?_) (λcdv A outer s H vs Q E hr h=>?_)
 ·obtain ⟨a,rfl,_⟩:=h
  rfl
 ·obtain ⟨a,rfl,hS,tq,q⟩:=h
  have hr1:Room 1 _:=hr.mono (by decide)
  have hr2:Room 2 _:=hr.mono (by decide)
  have hr3:Room 3 _:=hr.mono (by decide)
  have hr4:Room 4 _:=hr.mono (by decide)
  have hr5:Room 5 _:=hr.mono (by decide)
  refine ⟨_,ah (ar (i:=1) vb.nd rfl (Or.inl rfl) (am GB hr3 rfl mB kB bB .nil aV (aa (pv 0) (aa ai (aa ai ae)))))
   (ah (ar (i:=2) vb.nd rfl (Or.inl rfl) (am GX hr2 rfl mX kX bX .nil aV (aa (pv 1) ae)))
   (ah (bj (PW.pt (pw_or (aE gf (am GW hr4 rfl mW kW bW .nil aV (aa (pv 1) ae)) (pv 2) (aG _)) (pw_or1 (aE (wx (rX hr)) (am GR hr5 rfl mR kR bR .nil yc (aa (pv 2) ae)) (pv 1) (aG _))))) (aj (aq dv)) aB)
   (ah (dA PassesOwn.never rfl (fk rfl T.range (aa ai ae)) (aH (i:=3) vb.nd rfl (Or.inl rfl))
    (aj (bj (ca (ci (am GH hr rfl mH kH bH .nil aV (aa (am GS hr1 rfl mS kS bS .nil aV (aa (pv 2) (aa (am GP hr2 rfl mP kP bP .nil aV (aa (pv 0) (aa (ao bc ai (pv 3)) (aa (ao vI ai ai) ae)))) (aa aP ae)))) ae)) (λ_=>rfl))) (aj (aq dv)) aB)))
   (aj (aq dv))))),?_⟩
  refine ⟨_,rfl,a,0,8,rfl,by decide,by decide,by decide,hS,λt zs H1 ht hA hl hT hG s1=>?_⟩
  have tr1:TW.Tree1 (nds zs):=⟨hT,λn hn=>by obtain ⟨z,hz,rfl⟩:=ir hn; exact (hG z hz).1⟩
  have T1:Tre H1 t zs:=⟨ht,hA,tr1,by omega⟩
  have ng:∀ n∈nds zs,NodG n∧n.num<100:=λn hn=>by obtain ⟨z,hz,rfl⟩:=ir hn; exact xw (hG z hz)
  have ng1:∀ n∈nds zs,NodG n:=λn hn=>(ng n hn).1
  refine ⟨_,rfl,t,zs,rfl,T1,ng1,λws H2 s2 wk=>?_⟩
  have T2:=T1.same s2
  have good:cm (txt ws) (nds zs) ws:=⟨tr1,λn hn=>(ng1 n hn).toNodR,wk,rfl⟩
  have t8:=xy tr1 wk ng (by omega)
  refine ⟨_,rfl,t,zs,rfl,T2,ng1,λws' H3 s3 wk'=>⟨_,rfl,rfl,_,rfl,?_⟩⟩
  rw [Wk.one wk' wk,decide_eq_true (rfl:V.str (txt ws)=V.str (txt ws))]
  have T3:=T2.same s3
  have tq3:=aZ tq ((s1.trans s2).trans s3)
  generalize txt ws=x at good t8 ⊢
  refine aM ⟨_,rfl,x,rfl,t8.ok.1,t8.ok.2,tq3,λt' zs' ws2 H4 off tq4 tr' ng' good'=>?_,λbad H4 _ _=>(bad _ _ ng1 good).elim⟩
  have tup4:=fi tq3 off T3.tup λps e=>nomatch e
  have A4:At H4 zs:=λz hz=>fi tq3 off (T3.nod z hz) λps e=>nomatch e
  refine ⟨_,rfl,.inr ⟨t',t,_,_,rfl,rfl,lY (good'.one good) tr'.nod A4,.inr ⟨tr'.tup,tup4⟩,_,rfl,aM ?_⟩⟩
  have hS4:fc K H4 a:=let ⟨ns,h⟩:=hS; ⟨ns,nX tq3 off (((s1.trans s2).trans s3).seq h)⟩
  have off4:dc Pt H H4:=(bw ((s1.trans s2).trans s3)).trans off
  refine ⟨4,rfl,by decide,by decide,fm (n:=4) (λi σ H'=>∃ o,σ=[some (.ref a),some (.ref t),some (.str x),o]∧dc Pt H H'∧db H' Pt qRd∧fc K H' a) ⟨_,rfl,off4,tq4,hS4⟩ (λi σ H5 hi h=>?_) (λσ H5 h=>?_)⟩
  ·obtain ⟨o,rfl,off5,tq5,hS5⟩:=h
   refine ⟨_,rfl,_,rfl,_,rfl,_,_,rfl,rfl,_,_,rfl,rfl,⟨by decide,by decide,by decide⟩,a,_,_,rfl,by omega,by decide,hS5,λr H6 r0 r1 s6=>?_⟩
   refine ⟨x,r,rfl,r0,by have:=t8.len; omega,λy H7 s7 sp=>?_⟩
   have tq7:=aZ tq5 (s6.trans s7)
   refine ⟨y,rfl,(t8.spd sp).1,(t8.spd sp).2,tq7,λH8 off8 tq8=>⟨_,rfl,aM ?_⟩⟩
   exact ⟨_,rfl,(off5.trans (bw (s6.trans s7))).trans off8,tq8,let ⟨ns,h⟩:=hS5; ⟨ns,nX tq7 off8 ((s6.trans s7).seq h)⟩⟩
  ·obtain ⟨o,rfl,off5,tq5,hS5⟩:=h
   exact q H5 off5 tq5
noncomputable def pr (Pt:Addr) (K:PySem.W.Frag):Sp:=λvs H Q _=>∃ (a:Addr) (ns:List Int),vs=[.ref a]∧SqL K H a (ns.map V.int)∧ns.length≤63∧H Pt=some (.tbl #[])∧∀ H',Q (.bl true) H'
theorem vt:FnScope ["_law_script","_law_turn"] ["_law_script"] (ak uL):=⟨rfl,rfl,rfl,by decide +kernel,rfl,by decide +kernel,by decide +kernel⟩
theorem xz {f Pt:Addr} {fd:FuncData} (F:Fun K "law" "law" uL f fd) (T:Txt mg) (CO:Has P w K mg base 7 "_law_once" ["_law_script"] (kn K Pt)):FnOk P w K mg base CX0 8 f fd ["_law_script"] (pr Pt K):=by
 obtain ⟨fO,fdO,GO,mO,kO,bO⟩:=CO
 refine F.ok vt (λvs H Q E h=>?_) (λcdv A outer s H vs Q E hr h=>?_)
 ·obtain ⟨a,ns,rfl,_⟩:=h
  rfl
 ·obtain ⟨a,ns,rfl,hS,hlen,hPt,k⟩:=h
  have tq:db H Pt qRd:=.start hPt
  refine ⟨_,ah (dA PassesOwn.never rfl (fk rfl T.range (aa ai ae)) (aH (i:=1) vt.nd rfl (Or.inr rfl))
   (ah (bj (ca (ci (am GO hr rfl mO kO bO .nil aV (aa (cF (N:=["_law_cell_here","_law_turn"]) (cl:=[("_law_turn",s.heap.objs.size+1)]) (k:=1) (js:=[1]) (g:=bp 0) rfl
      (LcOk.mk' ["_law_turn"] rfl rfl (by decide +kernel) (by decide +kernel) ?hcl rfl (by decide +kernel)) rfl ?hj
     (dg (pv 0)) (λs H fp=>aH (i:=0) (show (["_law_cell_here","_law_turn"]:List Str).Nodup by decide +kernel) rfl (Or.inl rfl) (Or.inr rfl))
     (λs H fp=>ao bc (pv 0) (ao cI ai (pv 1)))) ae)) (λ_=>rfl))) (aj (aq dv)) aB)
   (aj (bj (aE (ie hr.units0) (pv 0) (bv ae) (aG _)) (aj qD) aB))))
   (aj (aq dv)),?_⟩
  case hcl =>
   intro y hy
   rcases List.mem_cons.mp hy with e | hy
   ·rw [e]; rfl
   ·cases hy
  case hj =>
   intro i j x h1 h2
   match i,h1,h2 with
   | 0,h1,h2 =>
    cases h1
    cases h2
    exact ⟨rfl,Or.inr (Or.inl rfl),(show ((ak uL).names.lookup ("_law_turn":Str)≠some NameKind.local) by decide +kernel),by first | exact Or.inl rfl | exact Or.inr rfl⟩
   | i+1,h1,h2=>simp at h1
  refine ⟨10,rfl,by decide,by decide,fm (n:=10) (λi σ H'=>∃ o,σ=[some (.ref a),o]∧SqL K H' a (ns.map V.int)∧db H' Pt qRd) ⟨_,rfl,hS,tq⟩ (λi σ H1 hi h=>?_) (λσ H1 h=>?_)⟩
  ·obtain ⟨o,rfl,hS1,tq1⟩:=h
   refine ⟨_,rfl,a,rfl,⟨_,hS1⟩,λp hp=>?_⟩
   refine jP (fr:=[some (.int (0+(i:Int)))]) ns V.int (by omega) hp (jO hS1) rfl (λn y _=>y = .int (n+7919 * (0+(i:Int)))) (λn y H H' h _=>h) (λn H' k' mn s2 _ hk=>?_) (λys H' s2 hp' hys=>?_)
   ·exact ⟨_,rfl,_,rfl,_,_,rfl,rfl,.inl ⟨by decide,by decide⟩,_,_,rfl,rfl,hk _ H' (Same.refl _) rfl⟩
   ·have ey:=dl (f:=λn:Int=>V.int (n+7919 * (0+(i:Int)))) hys (λz y _ h=>h)
    refine ⟨p,rfl,⟨ns.map λn=>n+7919 * (0+(i:Int)),SqL.of (by rw [hp',ey,List.map_map]; rfl)⟩,aZ tq1 s2,λH3 off3 tq3=>⟨_,rfl,aM ?_⟩⟩
    have hS3:=nX (aZ tq1 s2) off3 (s2.seq hS1)
    refine ⟨_,rfl,Nat.zero_le _,λq hq=>⟨a,q,_,rfl,rfl,(af hq).seq hS3,SqL.of ac,_,rfl,xW (λ_=>?_) (λ_=>?_)⟩⟩
    ·exact k _
    ·exact ⟨_,rfl,(af hq).seq hS3,aZ tq3 (af hq)⟩
  ·obtain ⟨o,rfl,_,_⟩:=h
   exact k _
end
end TK
namespace TK
open PySem PySem.W PyProof.Rows L2
theorem xA {K:PySem.W.Frag} {h:Heap} {mg:Str→Option Value} {x:Str} {C:Addr} {bB:List Value} {nid:String} (X:K.In h) (hb:mg x=some (.ref C)) (q:PySem.W.excIn K C bB nid=true):OwnCls x C bB nid mg h:=by
 have hobj:∃ bm N nm q' bs hdct sn sub ab col dd k0 k1 k2 k3 k5 mN,h.get? C=some (excClassObj nm q' C N bs bm hdct sn sub ab col dd k0 k1 k2 k3 k5 nid)∧h.Ns N mN∧mN "__init__" = none∧OwnTail h bB bm:=by
  unfold PySem.W.excIn at q
  split at q
  case h_2=>exact absurd q (by simp)
  case h_1 d0 c0 s0 hK =>
   split at q
   case h_2=>exact absurd q (by simp)
   case h_1 C1 b1 u0 u1 u2 u3 u4 u5 e1 e2 =>
    rw [Bool.and_eq_true,Bool.and_eq_true,Bool.and_eq_true,Bool.and_eq_true,Bool.and_eq_true] at q
    obtain ⟨⟨⟨⟨⟨y1,y2⟩,y3⟩,g4⟩,g5⟩,y6⟩:=q
    have g1:C1=C:=beq_iff_eq.mp y1
    have g2:u4=nid:=beq_iff_eq.mp y2
    have g3:c0.hasDel=false:=by simpa using y3
    have g6:PySem.W.nsIn K c0.ns "__init__" = some none:=beq_iff_eq.mp y6
    clear y1 y2 y3 y6
    cases c0
    cases s0
    dsimp only at e1 e2 g3 g5 g6
    subst g1 g2 g3 e1 e2
    exact ⟨_,_,_,_,_,_,_,_,_,_,_,_,_,_,_,_,_,X _ _ hK,Heap.Ns.of_isNs (PySem.W.isNs_of_in X g5),PySem.W.nsMap_none_of_in X g5 g6,PySem.W.tail_of_in X g4⟩
 exact ⟨hb,hobj⟩
theorem yZ {α:Type} {P:List α→Prop} {us:List α} (hl:us.length=0) (h:P []):P us:=by cases us with | nil=>exact h | cons a r=>cases hl
theorem yq {α:Type} {P:List α→Prop} {us:List α} (hl:us.length=1) (h:∀ a0,P [a0]):P us:=by cases us with | nil=>cases hl | cons a r=>exact yZ (P:=λr=>P (a :: r)) (Nat.succ.inj hl) (h a)
theorem yr {α:Type} {P:List α→Prop} {us:List α} (hl:us.length=2) (h:∀ a0 a1,P [a0,a1]):P us:=by cases us with | nil=>cases hl | cons a r=>exact yq (P:=λr=>P (a :: r)) (Nat.succ.inj hl) (h a)
theorem za {α:Type} {P:List α→Prop} {us:List α} (hl:us.length=3) (h:∀ a0 a1 a2,P [a0,a1,a2]):P us:=by cases us with | nil=>cases hl | cons a r=>exact yr (P:=λr=>P (a :: r)) (Nat.succ.inj hl) (h a)
noncomputable abbrev gA (K:PySem.W.Frag) (x:Str) (f:Addr):Prop:=PySem.W.nsIn K mainGlobals x=some (some (.ref f))
noncomputable abbrev gN (K:PySem.W.Frag) (x:Str):Prop:=PySem.W.nsIn K mainGlobals x=some none
theorem fh {P:Program} {w:World} {K:PySem.W.Frag} {mg:Str→Option Value} {base h:Heap} {k:Nat} {x q:Str} {st:Stmt} {f:Addr} {fd:FuncData} {ps:List Str} {sp:Sp} (X:K.In h) (G:h.Ns mainGlobals mg) (F:Fun K x q st f fd) (a:gA K x f) (b:bq K fd ps []) (O:FnOk P w K mg base CX0 k f fd ps sp):Has P w K mg base k x ps sp:=⟨f,fd,O,PySem.W.mg_of X G a,F.kp,b⟩
theorem fhX {P:Program} {w:World} {K:PySem.W.Frag} {mg:Str→Option Value} {base h:Heap} {k:Nat} {x q:Str} {st:Stmt} {f:Addr} {fd:FuncData} {ps:List Str} {sp:Sp} (X:K.In h) (G:h.Ns mainGlobals mg) (F:Fun K x q st f fd) (a:gA K x f) (b:bq K fd ps []) (O:FnOk P w K mg base (CX1 P w) k f fd ps sp):lW P w K mg base k x ps sp:=⟨f,fd,O,PySem.W.mg_of X G a,F.kp,b⟩
theorem fb1 {K:PySem.W.Frag} {x q a0:Str} {st:Stmt} {f:Addr} {fd:FuncData} (F:Fun K x q st f fd) (h:∀ (kV doc pm:Value) (an:Option Addr) (cdv ct v0:Value),bindArgs (PySem.W.fnOf x q (di st) (bK st) (ak st) .none kV doc pm an cdv ct) ⟨[v0],[]⟩=pure (List.zip [a0] [v0]):=by intros; rfl):bq K fd [a0] []:=F.binds λkV doc pm an cdv ct us hl=>yq (P:=λus=>bindArgs _ ⟨us,[]⟩=pure (List.zip _ us)) hl (h kV doc pm an cdv ct)
theorem fb2 {K:PySem.W.Frag} {x q a0 a1:Str} {st:Stmt} {f:Addr} {fd:FuncData} (F:Fun K x q st f fd) (h:∀ (kV doc pm:Value) (an:Option Addr) (cdv ct v0 v1:Value),bindArgs (PySem.W.fnOf x q (di st) (bK st) (ak st) .none kV doc pm an cdv ct) ⟨[v0,v1],[]⟩=pure (List.zip [a0,a1] [v0,v1]):=by intros; rfl):bq K fd [a0,a1] []:=F.binds λkV doc pm an cdv ct us hl=>yr (P:=λus=>bindArgs _ ⟨us,[]⟩=pure (List.zip _ us)) hl (h kV doc pm an cdv ct)
theorem fb3 {K:PySem.W.Frag} {x q a0 a1 a2:Str} {st:Stmt} {f:Addr} {fd:FuncData} (F:Fun K x q st f fd) (h:∀ (kV doc pm:Value) (an:Option Addr) (cdv ct v0 v1 v2:Value),bindArgs (PySem.W.fnOf x q (di st) (bK st) (ak st) .none kV doc pm an cdv ct) ⟨[v0,v1,v2],[]⟩=pure (List.zip [a0,a1,a2] [v0,v1,v2]):=by intros; rfl):bq K fd [a0,a1,a2] []:=F.binds λkV doc pm an cdv ct us hl=>za (P:=λus=>bindArgs _ ⟨us,[]⟩=pure (List.zip _ us)) hl (h kV doc pm an cdv ct)
theorem xB {l:PySem.W.OpenLaw} {w:World} {K:PySem.W.Frag} {h:Heap} {mg:Str→Option Value} {fa f1 f2 f3 f4 f5 f6 f7 f8 f9 f10 f11 f12 f13 f14 f15 f16 f17 f18 f19 f20 f21 f22 f23 f24 f25 f26 f27 f28 f29:Addr} (X:K.In h) (G:h.Ns mainGlobals mg) (hfa:mg "law" = some (.ref fa))
  {d1 d2 d3 d4 d5 d6 d7 d8 d9 d10 d11 d12 d13 d14 d15 d16 d17 d18 d19 d20 d21 d22 d23 d24 d25 d26 d27 d28 d29:FuncData} {t1:Tok}
  (a1:gA K "is_whole" f1) (F1:Fun K "is_whole" "is_whole" iz f1 d1)
  (a2:gA K "is_name" f2) (F2:Fun K "is_name" "is_name" oS f2 d2)
  (a3:gA K "is_stamp" f3) (F3:Fun K "is_stamp" "is_stamp" jW f3 d3)
  (a4:gA K "is_node" f4) (F4:Fun K "is_node" "is_node" sv f4 d4)
  (a5:gA K "are_rising" f5) (F5:Fun K "are_rising" "are_rising" sw f5 d5)
  (a6:gA K "have_own_places" f6) (F6:Fun K "have_own_places" "have_own_places" wF f6 d6)
  (a7:gA K "numbers_inside" f7) (F7:Fun K "numbers_inside" "numbers_inside" wG f7 d7)
  (a8:gA K "is_tree" f8) (F8:Fun K "is_tree" "is_tree" sx f8 d8)
  (a9:gA K "by_number" f9) (F9:Fun K "by_number" "by_number" wH f9 d9)
  (a10:gA K "path_up" f10) (F10:Fun K "path_up" "path_up" wI f10 d10)
  (a11:gA K "walked" f11) (F11:Fun K "walked" "walked" uK f11 d11)
  (a12:gA K "walked_nodes" f12) (F12:Fun K "walked_nodes" "walked_nodes" bV f12 d12)
  (a13:gA K "line_of" f13) (F13:Fun K "line_of" "line_of" fQ f13 d13)
  (a14:gA K "written" f14) (F14:Fun K "written" "written" fV f14 d14)
  (a15:gA K "lines_in" f15) (F15:Fun K "lines_in" "lines_in" eG f15 d15)
  (a16:gA K "number_in" f16) (F16:Fun K "number_in" "number_in" dI f16 d16)
  (a17:gA K "parts_in" f17) (F17:Fun K "parts_in" "parts_in" eI f17 d17)
  (a18:gA K "nodes_in" f18) (F18:Fun K "nodes_in" "nodes_in" eJ f18 d18)
  (a19:gA K "read" f19) (F19:Fun K "read" "read" nP f19 d19)
  (a20:gA K "_law_cell" f20) (F20:Fun K "_law_cell" "_law_cell" sy f20 d20)
  (a21:gA K "_law_pick" f21) (F21:Fun K "_law_pick" "_law_pick" sA f21 d21)
  (a22:gA K "_law_tree" f22) (F22:Fun K "_law_tree" "_law_tree" fY f22 d22)
  (a23:gA K "_law_book" f23) (F23:Fun K "_law_book" "_law_book" sB f23 d23)
  (a24:gA K "_law_path" f24) (F24:Fun K "_law_path" "_law_path" nQ f24 d24)
  (a25:gA K "_law_spoilt" f25) (F25:Fun K "_law_spoilt" "_law_spoilt" dt f25 d25)
  (a26:gA K "_law_text" f26) (F26:Fun K "_law_text" "_law_text" du f26 d26)
  (a27:gA K "_law_holds" f27) (F27:Fun K "_law_holds" "_law_holds" dJ f27 d27)
  (a28:gA K "_law_once" f28) (F28:Fun K "_law_once" "_law_once" sC f28 d28)
  (a29:gA K "law" f29) (F29:Fun K "law" "law" uL f29 d29)
  (z1:gN K "isinstance")
  (z2:gN K "dict")
  (z3:gN K "len")
  (z4:gN K "tuple")
  (z5:gN K "list")
  (z6:gN K "range")
  (z7:gN K "sorted")
  (z8:gN K "reversed")
  (z9:gN K "ValueError")
  (z10:gN K "str")
  (z11:gN K "set")
  (z12:gN K "max")
  (z13:gN K "min")
  (z14:gN K "sum")
  (z15:gN K "zip")
  (z16:gN K "enumerate")
  (z17:gN K "all")
  (z18:gN K "int")
  (z19:gN K "bool")
  (v1t:PySem.W.nsIn K mainGlobals "TOP" = some (some (.int 0 t1)))
  {t2:Tok} (v2t:PySem.W.nsIn K mainGlobals "LETTERS" = some (some (.str "abcdefghijklmnopqrstuvwxyz" t2)))
  {t3:Tok} (v3t:PySem.W.nsIn K mainGlobals "LONGEST_NAME" = some (some (.int 5 t3)))
  {t4:Tok} (v4t:PySem.W.nsIn K mainGlobals "GREATEST_STAMP" = some (some (.int 999 t4)))
  {t5:Tok} (v5t:PySem.W.nsIn K mainGlobals "FIGURES" = some (some (.str "0123456789" t5)))
  {t6:Tok} (v6t:PySem.W.nsIn K mainGlobals "MOST_FIGURES" = some (some (.int 9 t6)))
  {cR PR:Addr} (kR:d19.code = .ref cR) (eR:PySem.W.codeHdIn K cR PR=true)
  {DT CT B0 B1 B2 B3 B4 B5 B6 B7 B8:Addr}
  (xD:PySem.W.nsIn K mainGlobals "TreeError" = some (some (.ref DT))) (gD:PySem.W.ktsIn K DT "BaseException" = true)
  (x0:PySem.W.nsIn K mainGlobals "Inside" = some (some (.ref B0)))
  (x1:PySem.W.nsIn K mainGlobals "Known" = some (some (.ref B1)))
  (x2:PySem.W.nsIn K mainGlobals "NoMark" = some (some (.ref B2)))
  (x3:PySem.W.nsIn K mainGlobals "NoMatch" = some (some (.ref B3)))
  (x4:PySem.W.nsIn K mainGlobals "NoNode" = some (some (.ref B4)))
  (x5:PySem.W.nsIn K mainGlobals "NoReader" = some (some (.ref B5)))
  (x6:PySem.W.nsIn K mainGlobals "NotFile" = some (some (.ref B6)))
  (x7:PySem.W.nsIn K mainGlobals "NotFolder" = some (some (.ref B7)))
  (x8:PySem.W.nsIn K mainGlobals "Taken" = some (some (.ref B8)))
  (xT:PySem.W.nsIn K mainGlobals "NoText" = some (some (.ref CT))) (qT:PySem.W.excIn K CT bmV "ValueError.__new__" = true) (eT_0:PySem.W.kitOne K (.ref CT) (.ref B0)=some false) (eT_1:PySem.W.kitOne K (.ref CT) (.ref B1)=some false) (eT_2:PySem.W.kitOne K (.ref CT) (.ref B2)=some false) (eT_3:PySem.W.kitOne K (.ref CT) (.ref B3)=some false) (eT_4:PySem.W.kitOne K (.ref CT) (.ref B4)=some false) (eT_5:PySem.W.kitOne K (.ref CT) (.ref B5)=some false) (eT_6:PySem.W.kitOne K (.ref CT) (.ref B6)=some false) (eT_7:PySem.W.kitOne K (.ref CT) (.ref B7)=some false) (eT_8:PySem.W.kitOne K (.ref CT) (.ref B8)=some false) (eT_T:PySem.W.kitOne K (.ref CT) (.ref CT)=some true) (vT:PySem.W.kitOne K (.ref CT) (.type "ValueError")=some true) (sT:PySem.W.subIn K (.ref CT) (.ref DT)=some true) (gT1:PySem.W.ktsIn K CT "object" = true) (gT2:PySem.W.findIn K (.ref CT) "__getattribute__" = some (some (.builtin "BaseException.__getattribute__"))) (gT3:PySem.W.findIn K (.ref CT) "__getattr__" = some none) (gT4:PySem.W.findIn K (.ref CT) "__class__" = some (some (.builtin "object.__class__"))) :
  ∃ fd:FuncData,(∀ (s:Shared) (v:Value),BindsTo s fd ⟨[v],[]⟩ [("_law_script",v)])∧∀ base:Heap,K.In base→base.Ns mainGlobals mg→BmB base mg→FnOk l.prog w K mg base CX0 8 fa fd ["_law_script"] (pr PR K):=by
 have e:=hfa.symm.trans (PySem.W.mg_of X G a29)
 cases e
 have T:Txt mg:=⟨PySem.W.mg_none_of X G z1,PySem.W.mg_none_of X G z2,PySem.W.mg_none_of X G z3,PySem.W.mg_none_of X G z4,PySem.W.mg_none_of X G z5,PySem.W.mg_none_of X G z6,PySem.W.mg_none_of X G z7,PySem.W.mg_none_of X G z8,PySem.W.mg_none_of X G z9,PySem.W.mg_none_of X G z10,PySem.W.mg_none_of X G z11,PySem.W.mg_none_of X G z12,PySem.W.mg_none_of X G z13,PySem.W.mg_none_of X G z14,PySem.W.mg_none_of X G z15,PySem.W.mg_none_of X G z16,PySem.W.mg_none_of X G z17,PySem.W.mg_none_of X G z18,PySem.W.mg_none_of X G z19,⟨_,PySem.W.mg_of X G v1t⟩,⟨_,PySem.W.mg_of X G v2t⟩,⟨_,PySem.W.mg_of X G v3t⟩,⟨_,PySem.W.mg_of X G v4t⟩,⟨_,PySem.W.mg_of X G v5t⟩,⟨_,PySem.W.mg_of X G v6t⟩⟩
 let B:Nat→Addr:=λi=>match i with | 0=>B0 | 1=>B1 | 2=>B2 | 3=>B3 | 4=>B4 | 5=>B5 | 6=>B6 | 7=>B7 | _=>B8
 have L:Clss9T mg K B CT DT:=⟨λi hi=>match i,hi with | 0,_=>PySem.W.mg_of X G x0 | 1,_=>PySem.W.mg_of X G x1 | 2,_=>PySem.W.mg_of X G x2 | 3,_=>PySem.W.mg_of X G x3 | 4,_=>PySem.W.mg_of X G x4 | 5,_=>PySem.W.mg_of X G x5 | 6,_=>PySem.W.mg_of X G x6 | 7,_=>PySem.W.mg_of X G x7 | 8,_=>PySem.W.mg_of X G x8,PySem.W.mg_of X G xT,PySem.W.mg_of X G xD,gD,(by show XI.qc K CT=true; unfold XI.qc; rw [gT1,gT2,gT3,gT4]; rfl),λj hj=>match j,hj with | 0,_=>eT_0 | 1,_=>eT_1 | 2,_=>eT_2 | 3,_=>eT_3 | 4,_=>eT_4 | 5,_=>eT_5 | 6,_=>eT_6 | 7,_=>eT_7 | 8,_=>eT_8,eT_T,vT,sT⟩
 have hb:∀ (s:Shared) (v:Value),BindsTo s d29 ⟨[v],[]⟩ [("_law_script",v)]:=by
  obtain ⟨_,_,_,_,_,_,_,_,_,e,_,_⟩:=F29.ex
  subst e
  exact λs v=>.of_eq rfl
 have all:∀ base:Heap,K.In base→BmB base mg→(Has l.prog w K mg base 7 "_law_once" ["_law_script"] (kn K PR))∧(Has l.prog w K mg base 6 "_law_holds" ["_law_text_here"] (pk PR)):=λbase KB Bm=>by
  let H:=Has l.prog w K mg base
  let HX:=lW l.prog w K mg base
  have OX:jm "NoText" mg base CT:=xA KB (PySem.W.mg_of X G xT) qT
  have C_is_whole:H 1 "is_whole" ["thing"] gO:=fh X G F1 a1 (fb1 F1) (iB F1 T)
  have C_is_name:H 1 "is_name" ["thing"] nS:=fh X G F2 a2 (fb1 F2) (pc F2 T)
  have C_is_stamp:H 2 "is_stamp" ["thing"] jX:=fh X G F3 a3 (fb1 F3) (mE F3 T F1 (fb1 F1) (PySem.W.mg_of X G a1))
  have C_is_node:H 3 "is_node" ["thing"] jY:=fh X G F4 a4 (fb1 F4) (uP F4 T F1 (fb1 F1) (PySem.W.mg_of X G a1) F2 (fb1 F2) (PySem.W.mg_of X G a2) F3 (fb1 F3) (PySem.W.mg_of X G a3))
  have C_are_rising:H 1 "are_rising" ["nodes"] nT:=fh X G F5 a5 (fb1 F5) (uQ F5 T)
  have C_have_own_places:H 1 "have_own_places" ["nodes"] sP:=fh X G F6 a6 (fb1 F6) (xb F6 T)
  have C_numbers_inside:H 1 "numbers_inside" ["nodes","folder"] sD:=fh X G F7 a7 (fb2 F7) (wJ F7 T)
  have C_is_tree:H 4 "is_tree" ["thing"] jZ:=fh X G F8 a8 (fb1 F8) (uR F8 T ⟨C_is_node,C_are_rising,C_have_own_places,C_numbers_inside⟩)
  have C_by_number:H 1 "by_number" ["tree"] oV:=fh X G F9 a9 (fb1 F9) (wS F9 T)
  have C_path_up:H 1 "path_up" ["nodes","number"] sJ:=fh X G F10 a10 (fb2 F10) (wT F10 T)
  have C_walked:H 2 "walked" ["tree"] sM:=fh X G F11 a11 (fb1 F11) (wU F11 T C_by_number C_path_up)
  have C_walked_nodes:H 3 "walked_nodes" ["tree"] wV:=fh X G F12 a12 (fb1 F12) (yi F12 C_by_number C_walked)
  have C_line_of:H 1 "line_of" ["path","node"] sO:=fh X G F13 a13 (fb2 F13) (wW F13)
  have C_written:H 4 "written" ["tree"] gs:=fh X G F14 a14 (fb1 F14) (wX F14 C_line_of C_walked_nodes)
  have C_lines_in:HX 1 "lines_in" ["text"] (sG CT):=fhX X G F15 a15 (fb1 F15) (wP F15 OX)
  have C_number_in:HX 1 "number_in" ["text"] (sE CT):=fhX X G F16 a16 (fb1 F16) (wM F16 T OX)
  have C_parts_in:HX 2 "parts_in" ["line"] (sF CT):=fhX X G F17 a17 (fb1 F17) (wO F17 T OX C_number_in)
  have C_nodes_in:HX 3 "nodes_in" ["lines"] (sI CT):=fhX X G F18 a18 (fb1 F18) (wR F18 T OX C_parts_in)
  have C_read:HX 5 "read" ["text"] (kc CT PR):=fhX X G F19 a19 (fb1 F19) (uW F19 kR T OX (PySem.W.codeHd_of_K KB eR) Bm C_lines_in C_nodes_in C_is_tree C_written)
  have C__law_cell:H 1 "_law_cell" ["_law_script","_law_k"] (nW K):=fh X G F20 a20 (fb2 F20) (uZ F20 T)
  have C__law_pick:H 2 "_law_pick" ["_law_script","_law_k","_law_many"] (kl K):=fh X G F21 a21 (fb3 F21) (va F21 T C__law_cell)
  have C__law_tree:H 3 "_law_tree" ["_law_script","_law_at","_law_most"] (km K):=fh X G F22 a22 (fb3 F22) (tw F22 T C__law_pick)
  have C__law_book:H 1 "_law_book" ["_law_tree_here"] nV:=fh X G F23 a23 (fb1 F23) (uX F23 T)
  have C__law_path:H 1 "_law_path" ["_law_book_here","_law_number"] xp:=fh X G F24 a24 (fb2 F24) (yn F24 T)
  have C__law_spoilt:H 1 "_law_spoilt" ["_law_text_here","_law_cell_here","_law_signs"] tu:=fh X G F25 a25 (fb3 F25) (xu F25 T)
  have C__law_text:H 2 "_law_text" ["_law_tree_here"] gs:=fh X G F26 a26 (fb1 F26) (xq F26 T C__law_book C__law_path)
  have C__law_holds:H 6 "_law_holds" ["_law_text_here"] (pk PR):=fh X G F27 a27 (fb1 F27) (xv F27 T L C_read C_is_tree C__law_text)
  have C__law_once:H 7 "_law_once" ["_law_script"] (kn K PR):=fh X G F28 a28 (fb1 F28) (vc F28 T C__law_tree C__law_pick C__law_text C_written C_read C__law_spoilt C__law_holds)
  exact ⟨C__law_once,C__law_holds⟩
 refine ⟨d29,hb,λbase KB _ Bm=>?_⟩
 obtain ⟨C__law_once,C__law_holds⟩:=all base KB Bm
 exact xz F29 T C__law_once
theorem walk {l:PySem.W.OpenLaw} {q:Program} {loose:List Str} {XP:(Str→Option Value)→Heap→Prop} {YP:World→Heap→Prop} {d:DefRec} {K:Params→PySem.W.Frag} (PR:Addr) (hn:l.most=some 63) (hdf:d.params.defaults=[])
  (hY:∀ (w:World) (h:Heap),YP w h→(K w.params).In h) {ts:List Addr} (hT:∀ (w:World) (h:Heap),YP w h→∀ t∈ts,h.get? t=some (PySem.W.tabObj #[])) (mR:PR∈ts) (cR:Addr) (eR:∀ w:World,PySem.W.codeHdIn (K w.params) cR PR=true) (nR:∀ w:World,(K w.params).lookup PR=none)
  (F:∀ (w:World) (mg:Str→Option Value) (fa:Addr) (h:Heap),(K w.params).In h→h.Ns mainGlobals mg→mg d.name=some (.ref fa) →
   ∃ fd:FuncData,(∀ (s:Shared) (u:Value),BindsTo s fd ⟨[u],[]⟩ [("_law_script",u)])∧∀ base:Heap,(K w.params).In base→base.Ns mainGlobals mg→BmB base mg→FnOk l.prog w (K w.params) mg base CX0 8 fa fd ["_law_script"] (pr PR (K w.params))) :
  PySem.W.WalkO q loose XP YP l.row.toRowW d [] (λf vs=>PySem.call f vs) :=
 L2.sZ (tabs:=[PR]) (n:=63) (k:=8) (x:="_law_script") (sp:=λw=>pr PR (K w.params)) hn (by decide) hdf ⟨rfl,by decide,by decide,rfl⟩ hY
  (λw h Y=>List.forall_mem_cons.mpr ⟨hT w h Y _ mR,λ_ h=>nomatch h⟩)
  (λw=>List.forall_mem_cons.mpr ⟨⟨⟨cR,eR w⟩,nR w⟩,λ_ h=>nomatch h⟩)
  F (λw H a ns hl hS hT=>⟨a,ns,rfl,hS,hl,hT PR (by simp),λ_=>rfl⟩)
end TK
open PySem PySem.W PyProof.Rows
noncomputable def PySem.W.Fast.tw3330161845695646624:Unit:=()
noncomputable def PySem.W.Fast.tw15346024360476774154:Unit:=()
noncomputable def PySem.W.Fast.tw17329270010124158091:Unit:=()
noncomputable def PySem.W.Fast.tw9829987238270973115:Unit:=()
noncomputable def PySem.W.Fast.tw3274060381836498082:Unit:=()
noncomputable def PySem.W.Fast.tw4416671930982167155:Unit:=()
noncomputable def PySem.W.Fast.tw2433478532716215092:Unit:=()
noncomputable def PySem.W.Fast.tw138168329534712397:Unit:=()
noncomputable def PySem.W.Fast.tw6008948517838985988:Unit:=()
noncomputable def PySem.W.Fast.tw12638923453960904757:Unit:=()
noncomputable def PySem.W.Fast.tw7642568626940459344:Unit:=()
noncomputable def PySem.W.Fast.tw3091681891886517106:Unit:=()
noncomputable def PySem.W.Fast.tw3923871461739805952:Unit:=()
noncomputable def PySem.W.Fast.tw951748418871213642:Unit:=()
noncomputable def PySem.W.Fast.tw17534869282674676783:Unit:=()
noncomputable def PySem.W.Fast.tw14231057771707160097:Unit:=()
noncomputable def PySem.W.Fast.tw10214706890591681063:Unit:=()
noncomputable def PySem.W.Fast.tw4997438328907557010:Unit:=()
noncomputable def PySem.W.Fast.tw3985822838056794195:Unit:=()
noncomputable def PySem.W.Fast.tw9156345220809217142:Unit:=()
noncomputable def PySem.W.Fast.tw14497183775638238342:Unit:=()
noncomputable def PySem.W.Fast.tw12826194236980114471:Unit:=()
noncomputable def PySem.W.Fast.tw212259918310914100:Unit:=()
noncomputable def PySem.W.Fast.tw8079829444956275476:Unit:=()
noncomputable def PySem.W.Fast.tw17796836628338935819:Unit:=()
noncomputable def PySem.W.Fast.tw10971400254434827482:Unit:=()
noncomputable def PySem.W.Fast.tw1367962785765793018:Unit:=()
noncomputable def PySem.W.Fast.tw4863860626045916178:Unit:=()
noncomputable def PySem.W.Fast.tw4284829674948137874:Unit:=()
noncomputable def PySem.W.Fast.tw9702460166973977207:Unit:=()
noncomputable def PySem.W.Fast.tw8238272361759592480:Unit:=()
noncomputable def PySem.W.Fast.tw3618774898533794404:Unit:=()
noncomputable def PySem.W.Fast.tw16379785840468157269:Unit:=()
noncomputable def PySem.W.Fast.tw8198719160028177600:Unit:=()
noncomputable def PySem.W.Fast.tw8835417455324531235:Unit:=()
noncomputable def PySem.W.Fast.tw17416925098949797466:Unit:=()
noncomputable def PySem.W.Fast.tw5918188328646420547:Unit:=()
noncomputable def PySem.W.Fast.tw10688623375045248798:Unit:=()
noncomputable def PySem.W.Fast.tw16305251290178296943:Unit:=()
noncomputable def PySem.W.Fast.tw15453150032352825443:Unit:=()
noncomputable def PySem.W.Fast.tw2609182155074057237:Unit:=()
noncomputable def PySem.W.Fast.tw8618111336906344177:Unit:=()
noncomputable def PySem.W.Fast.tw12787344207540079867:Unit:=()
noncomputable def PySem.W.Fast.tw3644865800584803549:Unit:=()
noncomputable def PySem.W.Fast.tw11546641791061142508:Unit:=()
noncomputable def PySem.W.Fast.tw12926704880778484068:Unit:=()
noncomputable def PySem.W.Fast.tw15226392685371142732:Unit:=()
noncomputable def PySem.W.Fast.tw17547442775270828643:Unit:=()
noncomputable def PySem.W.Fast.tw8619601578041191579:Unit:=()
noncomputable def PySem.W.Fast.tw5238114296280651316:Unit:=()
noncomputable def PySem.W.Fast.tw3336988360778067938:Unit:=()
noncomputable def PySem.W.Fast.tw7379921347165131121:Unit:=()
noncomputable def PySem.W.Fast.tw13896469559328305578:Unit:=()
noncomputable def PySem.W.Fast.tw13035867802386747033:Unit:=()
noncomputable def PySem.W.Fast.tw3933687252898559381:Unit:=()
noncomputable def PySem.W.Fast.tw6672489378263421102:Unit:=()
noncomputable def PySem.W.Fast.tw7068474042392356179:Unit:=()
noncomputable def PySem.W.Fast.tw4761442128284637081:Unit:=()
set_option maxRecDepth 100000 in
set_option maxHeartbeats 0 in
theorem PySem.Challenge.cw_treewatch_k70_whole_texts_holds : PySem.Challenge.rw_treewatch_k70_whole_texts.Holds := by
 w_on; o_law; k_head; (case hw=>w_witness2)
 k_fill
 refine TK.walk (l:=PySem.Challenge.rw_treewatch_k70_whole_texts) 255 rfl rfl (λw h Y=>PySem.W.km_in_of Y) (λw h Y=>PySem.W.km_tabs_of Y) (by decide) 259 (λw=>by kernel_rfl) (λw=>by kernel_rfl) ?F
 case F =>
  intro w mg fa h KX G hmg
  refine' TK.xB KX G hmg ?a1 ?F1 ?a2 ?F2 ?a3 ?F3 ?a4 ?F4 ?a5 ?F5 ?a6 ?F6 ?a7 ?F7 ?a8 ?F8 ?a9 ?F9 ?a10 ?F10 ?a11 ?F11 ?a12 ?F12 ?a13 ?F13 ?a14 ?F14 ?a15 ?F15 ?a16 ?F16 ?a17 ?F17 ?a18 ?F18 ?a19 ?F19 ?a20 ?F20 ?a21 ?F21 ?a22 ?F22 ?a23 ?F23 ?a24 ?F24 ?a25 ?F25 ?a26 ?F26 ?a27 ?F27 ?a28 ?F28 ?a29 ?F29 ?z1 ?z2 ?z3 ?z4 ?z5 ?z6 ?z7 ?z8 ?z9 ?z10 ?z11 ?z12 ?z13 ?z14 ?z15 ?z16 ?z17 ?z18 ?z19 ?v1t ?v2t ?v3t ?v4t ?v5t ?v6t ?kR ?eR ?xD ?gD ?x0 ?x1 ?x2 ?x3 ?x4 ?x5 ?x6 ?x7 ?x8 ?xT ?qT ?eT_0 ?eT_1 ?eT_2 ?eT_3 ?eT_4 ?eT_5 ?eT_6 ?eT_7 ?eT_8 ?eT_T ?vT ?sT ?gT1 ?gT2 ?gT3 ?gT4
  (case a1 | a2 | a3 | a4 | a5 | a6 | a7 | a8 | a9 | a10 | a11 | a12 | a13 | a14 | a15 | a16 | a17 | a18 | a19 | a20 | a21 | a22 | a23 | a24 | a25 | a26 | a27 | a28 | a29=>unfold TK.gA; k_is)
  (case F1 | F2 | F3 | F4 | F5 | F6 | F7 | F8 | F9 | F10 | F11 | F12 | F13 | F14 | F15 | F16 | F17 | F18 | F19 | F20 | F21 | F22 | F23 | F24 | F25 | F26 | F27 | F28 | F29=>apply L2.vX <;> k_is)
  (case z1 | z2 | z3 | z4 | z5 | z6 | z7 | z8 | z9 | z10 | z11 | z12 | z13 | z14 | z15 | z16 | z17 | z18 | z19=>unfold TK.gN; k_is)
  (case v1t | v2t | v3t | v4t | v5t | v6t=>k_is)
  (case kR=>exact rfl)
  (case eR=>kernel_rfl)
  (case xD=>k_is)
  (case gD=>kts_isx)
  (case x0 | x1 | x2 | x3 | x4 | x5 | x6 | x7 | x8 | xT=>k_is)
  (case qT=>k_exc)
  (case eT_0 | eT_1 | eT_2 | eT_3 | eT_4 | eT_5 | eT_6 | eT_7 | eT_8 | eT_T | vT=>kit_is)
  (case sT=>k_is)
  (case gT1=>kts_isx)
  (case gT2 | gT3 | gT4=>k_is)
