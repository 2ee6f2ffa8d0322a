import PyProof.Rows.All
import Wide.All
import OpenK.AllK
import Wide.FinOn
import Lean
import PyProof.EqAt
import PyProof.EqKinds
import PyProof.TupleCall
import PyProof.CompFree
import PySem.SetTable
import PyProof.SetScanFacts
import PyProof.TupleKey
import PyProof.SetKind
import PyProof.IsRules
import PyProof.SetRoads
import PyProof.InstSpecial
import PyProof.Rows.SetFrom
import KE.KSortTup
import PyProof.StrWalks
import PyProof.EnumMake
import PyProof.ConsumeWalk
import PyProof.ListRange
import PyProof.NeKinds
import PyProof.ZipIter
import KE.KTryDeep
import OpenK.KOwn
import PyProof.RulesAs
import PyProof.NsDelKeeps
import PyProof.ExcArgsOwn
import PyProof.ExcAttrAll.ValueError
import KE.KIsAll
import OpenK.KNot
import PyProof.IsiH_list
import PyProof.Rows.FStr
import KE.KDictOf
import PyProof.AttrMissHeap
import PyProof.DictIter
import PyProof.DictWalks
import PyProof.Rows.DictUnroll
import KE.KRevIter
import KE.KDictList
import PyProof.CollectIter
import PyProof.TupleOfGen
import KE.KSortKey
import PyProof.FactsAll.NoneType_1
import PyProof.CompUse
import PyProof.Rows.FStrParts
import KE.KLam
import KE.KNestM
import PyProof.DictFindH
import KE.KItemsList
import PyProof.DictValues
import PyProof.CallType
import PyProof.WalksEnum
import PyProof.Rows.EnumRows
import KE.KMinKey
import PyProof.ReprStr
import PySem.Challenge.RW_treewatch_k91_whole_told_lists
set_option Elab.async false
set_option linter.all false
set_option maxRecDepth 100000
set_option maxHeartbeats 8000000
open PySem.W (Frag instObj methodObj hideAll hideAll_size hideAll_get of_hideAll hideAll_none lookIn plainGet hasDictIn findIn handedIn plainGet_of isFn plainOver takerIn Looks makesIn emptyDict keepIn mroIn kitOne kia_one kitx_list kitx_dict callWith_K methodCall_KW fnOf codeIn kat_cons kat_yes KatTups kat_kind kat_lt kat_no kat_lt_int kat_nil kat_one KdlSrc envX CodeHd kla_obj tabObj kla_fn codeHdIn codeHd_of_K kas_lt_str excIn nsIn mg_of mg_none_of)
open PyProof.Rows (boot_tuple lt_str boot_isinstance boot_list boot_dict boot_sorted boot_str boot_all)
open PySem.F (slot_dict_pop slot_dict_get plainAttrs_dict slot_dict_keyiterator_next plain_list_iadd called_tuple slot_NoneType_hash plainAttrs_list slot_dict_setdefault type_dict_setdefault slot_list_pop type_list_pop slot_dict_items slot_dict_values)
open List (mem_filter mem_range filterMap_cons mem_cons_self mem_cons_of_mem mem_cons mem_append mem_append_left getElem_inj mem_filterMap mem_append_right size_toArray length_cons map_cons length_map append_nil nodup_cons of_mem_zip replicate length length_take getElem?_append_right getElem?_append_left getElem?_map take_sublist mem_of_getElem? length_append length_replicate length_drop map_nil replicate_succ flatten_cons foldl append_assoc length_singleton nil_append find?_cons any_cons length_nil filter_cons length_filter_le Pairwise all_eq_true pairwise_iff_getElem pairwise_cons mem_iff_getElem getElem_take filterMap_cons_none filterMap_cons_some length_range nodup_range filter_cons_of_neg filter_cons_of_pos filter_sublist mem_map map_map toArray getD_eq_getElem?_getD mem_singleton getElem?_eq_getElem getElem_mem find?_some any_map any_eq_true range' length_eq_zero_iff ext_getElem? getElem?_range getElem?_eq_none map_congr_left not_mem_nil take_succ getElem_map nodup_nil map_append take_length zip_cons_cons filter_append filter_nil filter_congr Nodup pairwise_map filter_map Sublist nodup_append take_of_length_le lookup_cons take_zero filter mem_flatMap forall_mem_cons)
open Nat (not_lt lt_of_lt_of_le lt_irrefl ne_of_lt le_trans le_of_lt ne_of_gt le_refl zero_le le_of_eq le_succ succ_mul lt_trans lt_of_le_of_lt lt_succ_of_lt zero_add mod_lt add_zero lt_or_ge min_self add_assoc)
open Array (length_toList toList getElem?_toList getD_eq_getD_getElem? toList_inj size_map toList_push isEmpty forIn_toList)
open Option (isSome_iff_exists getD_none map_some isSome_map)
open Bool (and_eq_true or_eq_true false_eq_true)
open Int (toNat_natCast emod_nonneg toNat)
open PySem.Heap (lt_size SameBut get?_push_of_some get?_push_size size_push get?_update_self size_update get?_push_ne get?_update_ne FlyingW ExtBut)
open PySem.Calls (spliced_nil spliced_cons callWith_builtin evalArgs_plain)
open PySem.SeqAt (EqAt eq_listAt RcAt RcNeAt)
open PySem.Value (bytes float builtin)
open PySem (boot_len)
open PySem.Str (empty ofString)
noncomputable section
abbrev zo:=PySem.Addr
abbrev zt:=PySem.Value
abbrev zi:=PySem.Shared
abbrev xx:=PySem.Program
abbrev xg:=PySem.Around
abbrev xl:=PySem.FuncData
abbrev qq:=PySem.World
abbrev qa:=PySem.Heap
abbrev Wb:=@PySem.wpAny_bind
abbrev Wp:=@PySem.wpAny_pure
namespace L2
open PySem PySem.Spec PyProof.Rows
abbrev Key:=Sum Int Str
def eR:Key->zt->Bool
 |.inl k,v=>Value.isInt k v
 |.inr x,v=>Value.isStrOf x v
def BC(w:qq):Key->Int
 |.inl k=>hashInt k
 |.inr x=>hashStr w x
theorem az:∀{k:Key}{v:zt},eR k v=true->(∃i t,k=Sum.inl i/\v=Value.int i t)\/(∃x t,k=Sum.inr x/\v=Value.str x t)
 |.inl i,v,h=>by
  obtain⟨t,e⟩:=Value.isInt_shape (k:=i) (v:=v) h;exact .inl ⟨i,t,rfl,e⟩
 |.inr x,v,h=>by
  obtain⟨t,e⟩:=Value.isStrOf_shape (x:=x) (v:=v) h;exact .inr ⟨x,t,rfl,e⟩
theorem li(i:Int)(t:Tok):eR (.inl i) (.int i t)=true:=by simp[eR,Value.isInt]
theorem lj(x:Str)(t:Tok):eR (.inr x) (.str x t)=true:=by simp[eR,Value.isStrOf]
theorem zC(a b:Int):decide ((Sum.inl a:Key)=Sum.inl b)=(a==b):=by
 by_cases e:a=b
 ·subst e;simp
 ·have h:¬(Sum.inl a:Key)=Sum.inl b:=λq=>e<|Sum.inl.inj q;rw[decide_eq_false h];exact(beq_eq_false_iff_ne.mpr e).symm
theorem zD(a b:Str):decide ((Sum.inr a:Key)=Sum.inr b)=decide (a=b):=by
 by_cases e:a=b
 ·subst e;simp
 ·have h:¬(Sum.inr a:Key)=Sum.inr b:=λq=>e<|Sum.inr.inj q;rw[decide_eq_false h,decide_eq_false e]
theorem zE(a:Int)(b:Str):decide ((Sum.inl a:Key)=Sum.inr b)=false:=decide_eq_false λq=>nomatch q
theorem zF(a:Str)(b:Int):decide ((Sum.inr a:Key)=Sum.inl b)=false:=decide_eq_false λq=>nomatch q
def ap(prog:xx)(w:qq):PySem.KeyKind prog w Key where
 is:=eR
 hash:=BC w
 inj:=λv a b j g=>by
  rcases az j with⟨i,t,rfl,rfl⟩|⟨x,t,rfl,rfl⟩
  ·rcases az g with⟨f,u,rfl,e⟩|⟨y,u,rfl,e⟩
   ·injection e with c _;rw[c]
   ·exact nomatch e
  ·rcases az g with⟨f,u,rfl,e⟩|⟨y,u,rfl,e⟩
   ·exact nomatch e
   ·injection e with c _;rw[c]
 byValue:=λk v h=>by
  rcases az h with⟨i,t,rfl,rfl⟩|⟨x,t,rfl,rfl⟩<;>rfl
 pyHash:=λd h=>by
  rcases az d with⟨i,t,rfl,rfl⟩|⟨x,t,rfl,rfl⟩
  ·exact wpAny_pyHash_int h
  ·exact wpAny_pyHash_str h
 eqBool:=λl d h=>by
  rcases az l with⟨i,t,rfl,rfl⟩|⟨x,t,rfl,rfl⟩
  ·rcases az d with⟨f,u,rfl,rfl⟩|⟨y,u,rfl,rfl⟩
   ·rw[zC]at h;exact wpAny_eqBool_int h
   ·rw[zE]at h;exact EqAt.int_str i t y u _ _ _ _ h
  ·rcases az d with⟨f,u,rfl,rfl⟩|⟨y,u,rfl,rfl⟩
   ·rw[zF]at h;exact EqAt.str_int x t f u _ _ _ _ h
   ·rw[zD]at h;exact wpAny_eqBool_str h
 «strs»:=λk x t v h=>by
  rcases az h with⟨i,u,rfl,e⟩|⟨y,u,rfl,e⟩
  ·exact nomatch e
  ·injection e with c _
   subst c;cases v<;>rfl
theorem nD(prog:xx)(w:qq)(i:Int)(t:Tok):(ap prog w).is (.inl i) (.int i t)=true:=li i t
theorem nE(prog:xx)(w:qq)(x:Str)(t:Tok):(ap prog w).is (.inr x) (.str x t)=true:=lj x t
inductive V where
 |non|bl (b:Bool)|int (i:Int)|str (x:Str)|byt (b:Array UInt8)|flt (b:UInt64)|ref (a:zo)|ty (n:String)
 deriving DecidableEq
def aw:V->zt->Prop
 |.non,u=>u=Value.none
 |.bl b,u=>u=Value.bool b
 |.int i,u=>∃t,u=Value.int i t
 |.str x,u=>∃t,u=Value.str x t
 |.byt b,u=>∃t,u=bytes b t
 |.flt b,u=>∃t,u=float b t
 |.ref a,u=>u=Value.ref a
 |.ty n,u=>u=Value.type n
abbrev aq:List V->List zt->Prop:=Paired aw
theorem aq.length{xs:List V}{us:List zt}(r:aq xs us):xs.length=us.length:=Paired.length r
theorem aq.get:∀{xs:List V}{us:List zt}{i:Nat}{x:V},aq xs us->xs[i]?=some x->∃u,us[i]?=some u/\aw x u
 |_,_,_,_,.nil,e=>by simp at e
 |_,_,0,_,.cons r _,e=>by simp at e;subst e;exact⟨_,rfl,r⟩
 |_,_,i+1,x,.cons _ t,e=>by
  obtain⟨u,h1,h2⟩:=aq.get (i:=i) (x:=x) t (by simpa using e);exact⟨u,by simpa using h1,h2⟩
theorem aq.append:∀{xs ys:List V}{us ws:List zt},aq xs us->aq ys ws->aq (xs++ys) (us++ws)
 |_,_,_,_,.nil,s=>s
 |_,_,_,_,.cons r t,s=>.cons r<|aq.append t s
theorem aq.take:∀{xs:List V}{us:List zt}(n:Nat),aq xs us->aq (xs.take n) (us.take n)
 |_,_,0,_=>.nil
 |_,_,_+1,.nil=>.nil
 |_,_,n+1,.cons r t=>.cons r<|aq.take n t
theorem aq.drop:∀{xs:List V}{us:List zt}(n:Nat),aq xs us->aq (xs.drop n) (us.drop n)
 |_,_,0,r=>r
 |_,_,_+1,.nil=>.nil
 |_,_,n+1,.cons _ t=>aq.drop n t
def dH:Option V->Option zt->Prop
 |some v,some u=>aw v u
 |none,none=>True
 |_,_=>False
def KV{κ:Type}:List (κ×V)->List (κ×zt)->Prop:=Paired λ(p:κ×V) (q:κ×zt)=>p.1=q.1/\aw p.2 q.2
def kV:Key->V
 |.inl i=>.int i
 |.inr x=>.str x
inductive HO where
 |lst (xs:List V)
 |tup (xs:List V)
 |dK (kvs:List<|Key×V)|dT (kvs:List<|List Key×V)
 |set (S:Int->Bool) (n:Nat)
 |ins (C dx:zo) (fs:List<|Str×V)
 |own (x:zo)
 |xd (fs:List<|Str×V)
 |met (f x:zo)
 |rng (lo hi:Int)
 |frz (o:Obj) (u:HO)
 |tbl (ps:Array zt)
 |ext (φ:qa->Prop)
abbrev Hp:=zo->Option HO
def upd(H:Hp)(a:zo)(o:HO):Hp:=λb=>if b=a then some o else H b
theorem ac{H:Hp}{a:zo}{o:HO}:upd H a o a=some o:=by unfold upd;rw[if_pos rfl]
theorem ae{H:Hp}{a b:zo}{o:HO}(h:b≠a):upd H a o b=H b:=by unfold upd;rw[if_neg h]
theorem tZ{H:Hp}{a b:zo}{o u:HO}(h:H a=some o)(h':H b=some u)(d:o≠u):a≠b:=by
 intro e;subst e;rw[h]at h';exact d<|Option.some.inj h'
theorem ak{H:Hp}{a b:zo}{o:HO}(h:H a=some o)(h':H b=none):a≠b:=by
 intro e;subst e;rw[h]at h';cases h'
section
variable(P:xx)(w:qq)
def aU(d:Hp)(b:qa)(a:zo):HO->Prop
 |.lst xs=>xs.length<=sizeLine/\∃(c:List zt) (n:Nat),aq xs c/\b.get? a=some {cls:=.type "list",data:=.seq c.toArray n}
 |.tup xs=>xs.length<=sizeLine/\∃c:List zt,aq xs c/\IsTup b a c.toArray
 |.dK kvs=>kvs.length<=sizeLine/\(a==sysModules)=false/\∃vs,KV kvs vs/\b.DictOf (ap P w) a vs
 |.dT kvs=>kvs.length<=sizeLine/\(a==sysModules)=false/\∃xs:List<|List Key×zo×zt,
   Paired (λ(p:List Key×V) (q:List Key×zo×zt)=>p.1=q.1/\d q.2.1=some (.tup<|p.1.map kV)/\aw p.2 q.2.2) kvs xs /\
   ∃o es ep,b.get? a=some o/\o.ExactDict/\o.data=.dict es ep/\es.toList=xs.map (entryOfKey<|tupleKind (ap P w))/\(xs.map (·.1)).Nodup
 |.set S n=>b.SetOf (intKind P w) a S n
 |.ins C dx fs=>d dx=some (.own a)/\fs.length<=1000/\dx≠a/\b.get? a=some (instObj C dx) /\
   ∃mA,b.Ns1 dx mA/\(∀f,dH (fs.lookup f)<|mA f)/\PySem.Within mA (fs.map (·.1))
 |.own _=>∃o,b.get? a=some o
 |.xd fs=>∃mA,b.Ns1 a mA/\∀f,dH (fs.lookup f)<|mA f
 |.rng lo hi=>∃t u v,b.get? a=some {cls:=.type "range",data:=.fields #[.int lo t,.int hi u,.int 1 v]}
 |.frz o u=>b.get? a=some o/\aU d b a u
 |.tbl ps=>b.get? a=some {cls:=.none,data:=.fields ps}
 |.met f x=>b.get? a=some (methodObj (.ref f)<|.ref x)
 |.ext e=>e b/\(∃o,b.get? a=some o)/\∀h1 h2:qa,e h1->(∀o,h1.get? a=some o->h2.get? a=some o)->e h2
def HOk(H:Hp)(h:qa):Prop:=∀a o,H a=some o->aU P w H h a o
end
section
variable{P:xx}{w:qq}{H H':Hp}{h h':qa}{a:zo}{o:HO}
theorem aU.lt(x:aU P w H h a o):a<h.objs.size:=by
 cases o with
 |lst xs=>obtain⟨_,_,_,_,e⟩:=x;exact lt_size e
 |tup xs=>obtain⟨_,_,_,p⟩:=x;exact p.lt
 |dK kvs=>obtain⟨_,_,_,_,o,_,_,e,_⟩:=x;exact lt_size e
 |dT kvs=>obtain⟨_,_,_,_,o,_,_,e,_⟩:=x;exact lt_size e
 |set S n=>obtain⟨o,_,_,_,e,_⟩:=x;exact lt_size e
 |ins C dx fs=>obtain⟨_,_,_,e,_⟩:=x;exact lt_size e
 |own y=>obtain⟨_,e⟩:=x;exact lt_size e
 |xd fs=>obtain⟨_,⟨_,_,_,e,_⟩,_⟩:=x;exact lt_size e
 |rng lo hi=>obtain⟨_,_,_,e⟩:=x;exact lt_size e
 |frz b u=>obtain⟨e,_⟩:=x;exact lt_size e
 |tbl ps=>exact lt_size (show h.get? a=some _ from x)
 |met f y=>exact lt_size (show h.get? a=some _ from x)
 |ext c=>obtain⟨_,⟨_,e⟩,_⟩:=x;exact lt_size e
theorem Paired.mapP{g h:Type}{F c:g->h->Prop}:∀{d:List g}{e:List h},Paired F d e->(∀a b,F a b->c a b)->Paired c d e
 |_,_,.nil,_=>.nil
 |_,_,.cons r t,f=>.cons (f _ _ r)<|Paired.mapP t f
theorem Paired.imp'{e g:Type}{F c:e->g->Prop}(f:∀a b,F a b->c a b){d:List e}{l₂:List g}(r:Paired F d l₂):Paired c d l₂:=Paired.mapP r f
theorem aU.stay(x:aU P w H h a o)(k:∀b u,(b=a\/H b=some (.own a))->h.get? b=some u->h'.get? b=some u)(z:∀b,H b=some (.own a)->H' b=some (.own a))(A:∀b xs,H b=some (.tup xs)->H' b=some (.tup xs)):aU P w H' h' a o:=by
 induction o with
 |lst xs=>obtain⟨g,l,n,r,e⟩:=x;exact⟨g,l,n,r,k _ _ (.inl rfl) e⟩
 |tup xs=>obtain⟨g,l,r,i,e,c⟩:=x;exact⟨g,l,r,i,k _ _ (.inl rfl) e,c⟩
 |dK kvs=>obtain⟨g,y,vs,r,i,es,j,e,c⟩:=x;exact⟨g,y,vs,r,i,es,j,k _ _ (.inl rfl) e,c⟩
 |dT kvs =>
  obtain⟨g,y,xs,r,i,es,j,e,c⟩:=x;exact⟨g,y,xs,Paired.mapP r λp q g=>⟨g.1,A _ _ g.2.1,g.2.2⟩,i,es,j,k _ _ (.inl rfl) e,c⟩
 |set S n=>obtain⟨i,es,j,t,e,c⟩:=x;exact⟨i,es,j,t,k _ _ (.inl rfl) e,c⟩
 |ins C dx fs =>
  obtain⟨d,g,D,e,mA,⟨m,es,j,s,c⟩,r⟩:=x;exact⟨z _ d,g,D,k _ _ (.inl rfl) e,mA,⟨m,es,j,k _ _ (.inr d) s,c⟩,r⟩
 |own y=>obtain⟨i,e⟩:=x;exact⟨i,k _ _ (.inl rfl) e⟩
 |xd fs=>obtain⟨mA,⟨m,es,j,e,c⟩,r⟩:=x;exact⟨mA,⟨m,es,j,k _ _ (.inl rfl) e,c⟩,r⟩
 |rng lo hi=>obtain⟨t,u,v,e⟩:=x;exact⟨t,u,v,k _ _ (.inl rfl) e⟩
 |frz i u B=>obtain⟨e,q⟩:=x;exact⟨k _ _ (.inl rfl) e,B q⟩
 |tbl ps =>
  have e:h.get? a=some {cls:=.none,data:=.fields ps}:=x;show h'.get? a=some {cls:=.none,data:=.fields ps};exact k a _ (.inl rfl) e
 |met f y =>
  have e:h.get? a=some (methodObj (.ref f)<|.ref y):=x;show h'.get? a=some (methodObj (.ref f)<|.ref y);exact k a _ (.inl rfl) e
 |ext E=>obtain⟨p,⟨o,e⟩,st⟩:=x;exact⟨st _ _ p λo q=>k _ _ (.inl rfl) q,⟨o,k _ _ (.inl rfl) e⟩,st⟩
theorem HOk.lt(x:HOk P w H h)(e:H a=some o):a<h.objs.size:=(x a o e).lt
theorem HOk.fresh(x:HOk P w H h)(e:h.objs.size<=a):H a=none:=by
 cases q:H a with
 |none=>rfl
 |some u=>exact absurd (lt_of_lt_of_le (x.lt q) e)<|lt_irrefl _
theorem HOk.kept(x:HOk P w H h)(k:∀b u,h.get? b=some u->h'.get? b=some u):HOk P w H h':=λa o e =>
 (x a o e).stay (λb u _ q=>k b u q) (λ_ q=>q) λ_ _ q=>q
theorem HOk.laid(x:HOk P w H h)(k:∀b u,h.get? b=some u->h'.get? b=some u)(g:h.objs.size<=a)(i:aU P w (upd H a o) h' a o):HOk P w (upd H a o) h':=λb u e=>by
 have f:=x.fresh g
 by_cases d:b=a
 ·subst d;rw[ac]at e;cases e;exact i
 ·rw[ae d]at e;exact(x b u e).stay (λc v _ q=>k c v q) (λc q=>by rw[ae<|ak q f];exact q) λc xs q=>by rw[ae<|ak q f];exact q
end
def Rd(H:Hp)(a:zo)(u:HO):Prop:=H a=some u\/∃o,H a=some (.frz o u)
theorem Rd.of{H:Hp}{a:zo}{u:HO}(h:H a=some u):Rd H a u:=.inl h
theorem Rd.ok{P:xx}{w:qq}{H:Hp}{h:qa}{a:zo}{u:HO}(r:Rd H a u)(x:HOk P w H h):aU P w H h a u:=by
 rcases r with r|⟨o,r⟩
 ·exact x a u r
 ·obtain⟨_,q⟩:=x a _ r;exact q
def Mut:Option HO->Prop
 |some (.lst _)=>True
 |some (.dK _)=>True
 |some (.dT _)=>True
 |some (.set _ _)=>True
 |some (.ins _ _ _)=>True
 |some (.ext _)=>True
 |_=>False
section
variable{P:xx}{w:qq}{H:Hp}{h h':qa}{x e:zo}{o':HO}
theorem HOk.write(t:HOk P w H h)(i:Mut<|H x)(j:e=x\/H e=some (.own x))(k:∀b u,b≠e->h.get? b=some u->h'.get? b=some u)(n:∃u,h'.get? e=some u)(p:aU P w (upd H x o') h' x o'):HOk P w (upd H x o') h':=λb u q=>by
 have l:∀c y,H c=some (.own y)->c≠x:=λc y r a=>by subst a;rw[r]at i;exact i
 have s:∀c xs,H c=some (.tup xs)->c≠x:=λc xs r a=>by subst a;rw[r]at i;exact i
 by_cases d:b=x
 ·subst d;rw[ac]at q;cases q;exact p
 ·rw[ae d]at q
  by_cases f:b=e
  ·have m:H b=some (.own x):=by
    rcases j with a|a
    ·exact absurd (f.trans a) d
    ·rw[f];exact a
   rw[q]at m;cases m;obtain⟨v,o⟩:=n;exact⟨v,by rw[f];exact o⟩
  ·refine(t b u q).stay (λc v g r=>k c v ?_ r) (λc r=>by rw[ae<|l c b r];exact r) λc xs r=>by rw[ae<|s c xs r];exact r
   rcases g with rfl|g
   ·exact f
   ·rintro rfl;rcases j with a|a
    ·exact l c b g a
    ·rw[g]at a;cases a;exact d rfl
end
structure Un(fs ex:List zo)(H H':Hp)(h h':qa):Prop where
 keep:∀b o,h.get? b=some o->H b=none->b∉fs->b∉ex->h'.get? b=some o
 slot:∀b o,h.get? b=some o->H b=none->b∈fs->b∉ex->∃sl,h'.get? b=some {o with slots:=sl}
 free:∀b o,h.get? b=some o->H b=none->b∉ex->H' b=none
 there:∀b o,h.get? b=some o->b∉ex->∃o',h'.get? b=some o'
 tups:∀b xs,H b=some (.tup xs)->H' b=some (.tup xs)
 frzs:∀b o u,H b=some (.frz o u)->H' b=some (.frz o u)
 tbls:∀b ps,H b=some (.tbl ps)->∃more,H' b=some (.tbl<|ps++more)
section
variable{fs fs' ex ex':List zo}{H H1 H2:Hp}{h h1 h2 h':qa}{a x e:zo}{o:HO}
theorem Un.any(u:Un fs ex H H1 h h1){b:zo}{ob:Obj}(q:h.get? b=some ob)(n:H b=none)(c:b∉ex):∃d,h1.get? b=some {ob with slots:=d}:=by
 by_cases a:b∈fs
 ·exact u.slot b ob q n a c
 ·exact⟨ob.slots,u.keep b ob q n a c⟩
theorem Un.trans(a:Un fs ex H H1 h h1)(b:Un fs ex H1 H2 h1 h2):Un fs ex H H2 h h2 where
 keep:=λc e q n g d=>b.keep c e (a.keep c e q n g d) (a.free c e q n d) g d
 slot:=λc e q n g d=>by
  obtain⟨m,f⟩:=a.slot c e q n g d;obtain⟨l,i⟩:=b.slot c _ f (a.free c e q n d) g d;exact⟨l,i⟩
 free:=λc e q n d=>by
  obtain⟨o',f⟩:=a.there c e q d;exact b.free c o' f (a.free c e q n d) d
 there:=λc e q d=>by
  obtain⟨o',f⟩:=a.there c e q d;exact b.there c o' f d
 tups:=λc xs q=>b.tups c xs<|a.tups c xs q
 frzs:=λc e xs q=>b.frzs c e xs<|a.frzs c e xs q
 tbls:=λc ps q=>by
  obtain⟨j,f⟩:=a.tbls c ps q;obtain⟨k,i⟩:=b.tbls c _ f;exact⟨j++k,by rw[i,Array.append_assoc]⟩
theorem Un.kept(k:∀b u,h.get? b=some u->h'.get? b=some u):Un fs ex H H h h' :=
 ⟨λb a q _ _ _=>k b a q,λb a q _ _ _=>⟨a.slots,k b a q⟩,λ_ _ _ n _=>n,λb a q _=>⟨a,k b a q⟩,λ_ _ q=>q,λ_ _ _ q=>q,λ_ ps q=>⟨#[],by rw[q];simp⟩⟩
theorem Un.refl:Un fs ex H H h h:=Un.kept λ_ _ q=>q
theorem Un.laid(k:∀b u,h.get? b=some u->h'.get? b=some u)(d:h.objs.size<=a)(c:H a=none):Un fs ex H (upd H a o) h h' where
 keep:=λb u q _ _ _=>k b u q
 slot:=λb u q _ _ _=>⟨u.slots,k b u q⟩
 free:=λb u q n _=>by rw[ae<|ne_of_lt (lt_of_lt_of_le (lt_size q) d)];exact n
 there:=λb u q _=>⟨u,k b u q⟩
 tups:=λb xs q=>by rw[ae<|ak q c];exact q
 frzs:=λb u xs q=>by rw[ae<|ak q c];exact q
 tbls:=λb ps q=>⟨#[],by rw[ae<|ak q c,q];simp⟩
theorem Un.write(c:Mut<|H x)(j:e=x\/H e=some (.own x))(k:∀b u,b≠e->h.get? b=some u->h'.get? b=some u)(l:∃u,h'.get? e=some u):Un fs ex H (upd H x o) h h':=by
 have i:∀b,H b=none->b≠x:=λb n a=>by subst a;rw[n]at c;exact c
 have f:∀b,H b=none->b≠e:=λb n a=>by
  subst a;rcases j with r|r
  ·exact i b n r
  ·rw[n]at r;cases r
 have d:∀b u,H b=some u->¬Mut (some u)->b≠x:=λb u q nm a=>by subst a;rw[q]at c;exact nm c
 refine⟨λb u q n _ _=>k b u (f b n) q,λb u q n _ _=>⟨u.slots,k b u (f b n) q⟩,λb u q n _=>by rw[ae<|i b n];exact n,λb u q _=>?_,
  λb xs q=>by rw[ae<|d b _ q λa=>a];exact q,λb u xs q=>by rw[ae<|d b _ q λa=>a];exact q,λb ps q=>⟨#[],by rw[ae<|d b _ q λa=>a,q];simp⟩⟩
 by_cases g:b=e
 ·subst g;exact l
 ·exact⟨u,k b u g q⟩
end
def trk(h:qa)(H:Hp):List zo:=(List.range h.objs.size).filter λa=>(H a).isSome
def kK(h:qa)(H:Hp):qa:=hideAll h<|trk h H
theorem su(h:qa)(H:Hp):(kK h H).objs.size=h.objs.size:=hideAll_size _ _
theorem ua{c:qa}{a:Hp}{b:zo}{o:Obj}(e:c.get? b=some o)(n:a b=none):(kK c a).get? b=some o :=
 hideAll_get _ e λd=>by
  have q:(a b).isSome=true:=(mem_filter.mp d).2;rw[n]at q;simp at q
theorem xp{a:qa}{H:Hp}{b:zo}{o:Obj}(e:(kK a H).get? b=some o):a.get? b=some o/\H b=none:=by
 have c:a.get? b=some o:=of_hideAll (trk a H) e;refine⟨c,?_⟩;cases q:H b with
 |none=>rfl
 |some x =>
  have d:b∈trk a H:=mem_filter.mpr ⟨mem_range.mpr<|lt_size c,by simp[q]⟩;have f:(kK a H).get? b=none:=hideAll_none (trk a H) d;rw[f]at e;cases e
structure Mod(K:Frag)(mg:Str->Option zt)(base:qa):Prop where
 kin:K.In base
 glob:base.Ns mainGlobals mg
 blt:∃mb,base.Ns builtinsNs mb/\∀x:Str,x≠"__name__"->mb x=bootBuiltins x
 nolimit:base.NoLimit
structure Cx where
 prog:xx
 w:qq
 K:Frag
 mg:Str->Option zt
 base:qa
 A:xg
 N:List Str
 s₀:zi
 H₀:Hp
 env:Env
 outer:List Env
 stack:List Env
 ex:List zo
 fn:Str->Bool
 calm:Bool
 pn:List<|zo×Obj
 xe:zt->zi->Prop
def frs(l:List Env):List zo:=l.filterMap (·.frame)
abbrev Cx.fs(X:Cx):List zo:=frs X.outer
def Vis(a:Scope)(x:Str):Prop:=a.names.lookup x=some .local\/a.names.lookup x=some .cell\/a.names.lookup x=some .free
def Loc(a:Scope)(x:Str):Prop:=a.names.lookup x=some .local\/a.names.lookup x=some .cell
def Dc(env:Env)(h:qa)(m:Str->Option zt)(x:Str)(u:zt):Prop :=
 (env.kindOf x=some .local/\m x=some u)\/((env.kindOf x=some .cell\/env.kindOf x=some .free)/\∃c,env.cells.lookup x=some c/\h.IsCell c (some u))
structure Cx.Ok(X:Cx):Prop where
 mod:Mod X.K X.mg X.base
 kind:X.env.scope.kind=.function
 glob:X.env.globals=mainGlobals
 blt:X.env.builtins=builtinsNs
 above:X.s₀.heap.objs.size<=X.env.locals
 inj:∀x y c,X.env.cells.lookup x=some c->X.env.cells.lookup y=some c->x=y
 has:∀x,(X.env.kindOf x=some .cell\/X.env.kindOf x=some .free)->∃c,X.env.cells.lookup x=some c
 cab:∀x c,X.fn x=true->X.env.cells.lookup x=some c->X.s₀.heap.objs.size<=c
 hd:X.calm=true->X.A.handled=none
 frames:X.A.frames=some X.stack
 stk:X.stack=X.outer\/(X.stack=X.env::X.outer/\X.env.frame=some X.env.locals)
 exf:∀b∈X.ex,b≠X.env.locals/\∀x c,X.env.cells.lookup x=some c->c≠b
 bs:∀b o,X.base.get? b=some o->X.s₀.heap.get? b=some o/\X.H₀ b=none
 bsz:X.base.objs.size<=X.s₀.heap.objs.size
 noex:∀b o,X.base.get? b=some o->b∉X.ex
 exfs:∀b∈X.ex,b∉X.fs
 funs:X.s₀.heap.FunFrames X.base X.outer
 frf:∀b∈X.fs,X.H₀ b=none
structure Inv(X:Cx)(pins:List<|zo×Obj)(σ:List<|Option V)(H:Hp)(s:zi):Prop where
 ok:X.Ok
 os:s.os=X.s₀.os
 bare:AllBare s.gens
 base:Un X.fs X.ex X.H₀ H X.s₀.heap s.heap
 loc:∃m,s.heap.Ns X.env.locals m/\∀(i:Nat)(x:Str)(v:V),X.N[i]?=some x->σ[i]?=some (some v)->Vis X.env.scope x->∃u,aw v u/\Dc X.env s.heap m x u
 cell:∀x c,X.env.cells.lookup x=some c->∃v,s.heap.IsCell c v
 free:H X.env.locals=none
 freeC:∀x c,X.env.cells.lookup x=some c->H c=none
 pin:∀p∈X.pn++pins,s.heap.get? p.1=some p.2/\H p.1=none/\p.1≠X.env.locals/\p.1∉X.fs/\∀v,p.2.data≠.cell v
 hok:HOk X.prog X.w H s.heap
 len:σ.length=X.N.length
section
variable{X:Cx}{pins:List (zo×Obj)}{σ:List (Option V)}{H H':Hp}{s:zi}{h':qa}
theorem Cx.Ok.nofr(c:X.Ok){b:zo}{o:Obj}(e:X.base.get? b=some o):b∉X.fs:=λa=>by
 have:=(c.funs.mem a).1;rw[e]at this;cases this
theorem Inv.bs(I:Inv X pins σ H s):∀b o,X.base.get? b=some o->s.heap.get? b=some o/\H b=none:=λb o e =>
 ⟨I.base.keep b o (I.ok.bs b o e).1 (I.ok.bs b o e).2 (I.ok.nofr e) (I.ok.noex b o e),I.base.free b o (I.ok.bs b o e).1 (I.ok.bs b o e).2 (I.ok.noex b o e)⟩
theorem Inv.bk(I:Inv X pins σ H s):∀b o,X.base.get? b=some o->s.heap.get? b=some o:=λb o e=>(I.bs b o e).1
theorem Inv.mod(I:Inv X pins σ H s):Mod X.K X.mg X.base:=I.ok.mod
theorem Inv.kIn(I:Inv X pins σ H s):X.K.In s.heap:=I.ok.mod.kin.keeps I.bk
theorem Inv.lt(a:Inv X pins σ H s):X.env.locals<s.heap.objs.size:=let⟨_,b,_⟩:=a.loc;b.lt
theorem Inv.sz(I:Inv X pins σ H s):X.s₀.heap.objs.size<=s.heap.objs.size:=le_trans I.ok.above<|le_of_lt I.lt
theorem Inv.nofs(b:Inv X pins σ H s){a:zo}(c:s.heap.objs.size<=a):a∉X.fs:=λd=>by
 obtain⟨_,o,e,_⟩:=b.ok.funs.mem d;exact absurd (lt_of_lt_of_le (lt_size e)<|le_trans b.sz c)<|lt_irrefl _
theorem Inv.cne(a:Inv X pins σ H s):∀x c,X.env.cells.lookup x=some c->c≠X.env.locals:=λx c e h=>by
 obtain⟨v,o,d,b⟩:=a.cell x c e;obtain⟨m,⟨o',es,i,g,f,_⟩,_⟩:=a.loc;rw[h,g]at d;cases d;rw[f]at b;cases b
theorem Inv.funs(a:Inv X pins σ H s):s.heap.FunFrames X.base X.outer:=by
 have all:∀(l:List Env),(∀b∈frs l,b∈X.fs)->X.s₀.heap.FunFrames X.base l->s.heap.FunFrames X.base l:=by
  intro l
  induction l with
  |nil=>intro _ _;trivial
  |cons t r p =>
   intro g j;obtain⟨i,⟨L,o,f,k,m,h⟩,n⟩:=j;have c:L∈X.fs:=g L (by unfold frs;rw[filterMap_cons,f];exact mem_cons_self);obtain⟨u,e⟩:=a.base.slot L o m (a.ok.frf L c) c λq=>a.ok.exfs L q c;exact⟨i,⟨L,_,f,k,e,h⟩,p (λb d=>g b (by unfold frs;rw[filterMap_cons,f];exact mem_cons_of_mem _ d)) n⟩
 exact all X.outer (λ_ d=>d) a.ok.funs
theorem Inv.stack(a:Inv X pins σ H s):s.heap.FunFrames X.base X.stack:=by
 rcases a.ok.stk with e|⟨e,b⟩
 ·rw[e];exact a.funs
 ·rw[e];obtain⟨m,c,_⟩:=a.loc;refine .cons (by rw[a.ok.kind];decide) b c ?_ a.funs;exact Heap.get?_none_of_le<|le_trans a.ok.bsz a.ok.above
theorem Inv.stkSub(c:Inv X pins σ H s):∀b∈frs X.stack,b∈X.env.locals::X.fs:=λb a=>by
 rcases c.ok.stk with e|⟨e,d⟩
 ·rw[e]at a;exact mem_cons_of_mem _ a
 ·rw[e]at a;unfold frs at a;rw[filterMap_cons,d]at a;exact a
theorem Inv.stkFree(a:Inv X pins σ H s):∀b∈frs X.stack,H b=none:=λb c=>by
 rcases mem_cons.mp (a.stkSub b c)with e|c
 ·rw[e];exact a.free
 ·obtain⟨_,o,d,_⟩:=a.ok.funs.mem c;exact a.base.free b o d (a.ok.frf b c) λf=>a.ok.exfs b f c
theorem Inv.step{g':Array GenState}{t':Nat}{d':Drawn}{ch:List zo}(a:Inv X pins σ H s)(z:∀b∈ch,(b∈X.ex\/X.s₀.heap.objs.size<=b)/\b≠X.env.locals/\(∀x c,X.env.cells.lookup x=some c->c≠b)/\∀p∈X.pn++pins,p.1≠b)(E:∀b o,b≠X.env.locals->b∉X.fs->b∉ch->s.heap.get? b=some o->H b=none->h'.get? b=some o)(N:∀b o,b≠X.env.locals->b∈X.fs->b∉ch->s.heap.get? b=some o->H b=none->∃F,h'.get? b=some {o with slots:=F})(B:∀b o,b∉ch->s.heap.get? b=some o->H b=none->H' b=none)(Z:∀b o,b∉ch->s.heap.get? b=some o->∃o',h'.get? b=some o')(a0:∀b xs,H b=some (.tup xs)->H' b=some (.tup xs))(P:∀b o u,H b=some (.frz o u)->H' b=some (.frz o u))(Y:∀b ps,H b=some (.tbl ps)->∃more,H' b=some (.tbl<|ps++more))(ns:∀m,s.heap.Ns X.env.locals m->h'.Ns X.env.locals m)(T:HOk X.prog X.w H' h')(Q:AllBare g'):
  Inv X pins σ H' {s with heap:=h',gens:=g',drawn:=d',toks:=t'}:=by
 have L:∀b o,X.s₀.heap.get? b=some o->b≠X.env.locals:=λb o e=>ne_of_lt<|lt_of_lt_of_le (lt_size e) a.ok.above;have C:∀b o,X.s₀.heap.get? b=some o->b∉X.ex->b∉ch:=λb o e f j=>by
  rcases (z b j).1 with g|g
  ·exact f g
  ·exact absurd (lt_of_lt_of_le (lt_size e) g)<|lt_irrefl _
 have G:∀x c,X.env.cells.lookup x=some c->∀v,s.heap.IsCell c v->h'.IsCell c v:=λx c e v ⟨o,t,D⟩=>by
  have A:c∉ch:=λg=>(z c g).2.2.1 x c e rfl
  by_cases I:c∈X.fs
  ·obtain⟨F,q⟩:=N c o (a.cne x c e) I A t<|a.freeC x c e;exact⟨_,q,D⟩
  ·exact⟨o,E c o (a.cne x c e) I A t<|a.freeC x c e,D⟩
 refine⟨a.ok,a.os,Q,⟨λb o e n j f=>?_,λb o e n j f=>?_,λb o e n f=>?_,λb o e f=>?_,λb xs e=>a0 b xs<|a.base.tups b xs e,λb o xs e=>P b o xs<|a.base.frzs b o xs e,λb ps e=>?_⟩,?_,λx c e=>?_,?_,λx c e=>?_,λp J=>?_,T,a.len⟩
 ·exact E b o (L b o e) j (C b o e f) (a.base.keep b o e n j f)<|a.base.free b o e n f
 ·obtain⟨F,h⟩:=a.base.slot b o e n j f;obtain⟨W,y⟩:=N b _ (L b o e) j (C b o e f) h<|a.base.free b o e n f;exact⟨W,y⟩
 ·obtain⟨o',h⟩:=a.base.there b o e f;exact B b o' (C b o e f) h<|a.base.free b o e n f
 ·obtain⟨o',h⟩:=a.base.there b o e f;exact Z b o' (C b o e f) h
 ·obtain⟨U,h⟩:=a.base.tbls b ps e;obtain⟨V,y⟩:=Y b _ h;exact⟨U++V,by rw[y,Array.append_assoc]⟩
 ·obtain⟨m,S,R⟩:=a.loc;refine⟨m,ns m S,λi x v h y O=>?_⟩;obtain⟨u,r,l⟩:=R i x v h y O;refine⟨u,r,?_⟩;rcases l with l|⟨k,c,e,g⟩
  ·exact .inl l
  ·exact .inr ⟨k,c,e,G x c e _ g⟩
 ·obtain⟨v,g⟩:=a.cell x c e;exact⟨v,G x c e v g⟩
 ·obtain⟨m,⟨o,_,_,t,_⟩,_⟩:=a.loc;exact B _ o (λg=>(z _ g).2.1 rfl) t a.free
 ·obtain⟨v,o,t,D⟩:=a.cell x c e;exact B c o (λg=>(z c g).2.2.1 x c e rfl) t<|a.freeC x c e
 ·obtain⟨e,n,K,M,d⟩:=a.pin p J;have A:p.1∉ch:=λg=>(z p.1 g).2.2.2 p J rfl;exact⟨E p.1 p.2 K M A e n,B p.1 p.2 A e n,K,M,d⟩
theorem Inv.un{t':Nat}(a:Inv X pins σ H s)(u:Un X.fs [] H H' s.heap h')(k:HOk X.prog X.w H' h'):Inv X pins σ H' {s with heap:=h',toks:=t'}:=by
 obtain⟨m,⟨o,es,q,d,r⟩,_⟩:=id a.loc;obtain⟨v,i⟩:=u.any d a.free (by simp);exact a.step (g':=s.gens) (d':=s.drawn) (ch:=[]) (λ_ p=>nomatch p) (λb o _ c _ e n=>u.keep b o e n c (by simp)) (λb o _ c _ e n=>u.slot b o e n c (by simp)) (λb o _ e n=>u.free b o e n (by simp)) (λb o _ e=>u.there b o e (by simp)) u.tups u.frzs u.tbls (λt j=>by
  obtain⟨o',h,g,f,l⟩:=j;rw[d]at f;cases f;exact⟨_,h,g,i,l⟩) k a.bare
theorem Inv.call{g':Array GenState}{t':Nat}{d':Drawn}{ch:List zo}(d:Inv X pins σ H s)(u:Un (frs X.stack) ch H H' s.heap h')(y:HOk X.prog X.w H' h')(t:AllBare g')(h:∀b∈ch,(b∈X.ex\/X.s₀.heap.objs.size<=b)/\b≠X.env.locals/\(∀x c,X.env.cells.lookup x=some c->c≠b)/\∀p∈X.pn++pins,p.1≠b):
  Inv X pins σ H' {s with heap:=h',gens:=g',drawn:=d',toks:=t'}:=by
 obtain⟨m,⟨o,es,A,i,r⟩,_⟩:=id d.loc;obtain⟨C,f⟩:=u.any i d.free λg=>(h _ g).2.1 rfl;exact d.step (ch:=ch) h (λb o f q a e n=>u.keep b o e n (λg=>(mem_cons.mp<|d.stkSub b g).elim f q) a) (λb o _ _ a e n=>u.any e n a) (λb o a e n=>u.free b o e n a) (λb o a e=>u.there b o e a) u.tups u.frzs u.tbls (λB v=>by
  obtain⟨o',l,k,j,z⟩:=v;rw[i]at j;cases j;exact⟨_,l,k,f,z⟩) y t
theorem Inv.turned{t':Nat}{it:zo}(f:Inv X pins σ H s)(k:∀b o,b≠it->s.heap.get? b=some o->h'.get? b=some o)(y:H it=none)(g:it≠X.env.locals)(j:it∈X.ex\/X.s₀.heap.objs.size<=it)(h2:∀x c,X.env.cells.lookup x=some c->c≠it)(l:∀p∈X.pn++pins,p.1≠it):Inv X pins σ H {s with heap:=h',toks:=t'}:=by
 have h:∀b u,H b=some u->b≠it:=λb u e a=>by rw[a,y]at e;cases e
 refine f.step (g':=s.gens) (d':=s.drawn) (ch:=[it]) (λb t=>?_) (λb o _ _ d e _=>k b o (λa=>d (by simp[a])) e) (λb o _ _ d e _=>⟨o.slots,k b o (λa=>d (by simp[a])) e⟩) (λ_ _ _ _ n=>n)
  (λb o d e=>⟨o,k b o (λa=>d (by simp[a])) e⟩) (λ_ _ e=>e) (λ_ _ _ e=>e) (λb ps e=>⟨#[],by rw[e];simp⟩) (λm w=>?_) (λb u e=>?_) f.bare
 ·have e:b=it:=by simpa using t
  subst e;exact⟨j,g,h2,l⟩
 ·obtain⟨o,es,i,z,r⟩:=w;exact⟨o,es,i,k _ o (Ne.symm g) z,r⟩
 ·refine(f.hok b u e).stay (λc v d q=>k c v ?_ q) (λ_ q=>q) λ_ _ q=>q;rcases d with a|a
  ·rw[a];exact h b u e
  ·exact h c _ a
theorem Inv.tok(I:Inv X pins σ H s)(t:Nat):Inv X pins σ H {s with toks:=t}:=I.un (h':=s.heap) (t':=t) Un.refl I.hok
theorem Inv.kept{t':Nat}(I:Inv X pins σ H s)(k:∀b u,s.heap.get? b=some u->h'.get? b=some u):Inv X pins σ H {s with heap:=h',toks:=t'}:=I.un (Un.kept k)<|I.hok.kept k
theorem Inv.laid{a:zo}{o:HO}{t':Nat}(c:Inv X pins σ H s)(k:∀b u,s.heap.get? b=some u->h'.get? b=some u)(d:s.heap.objs.size<=a)(e:aU X.prog X.w (upd H a o) h' a o):
  Inv X pins σ (upd H a o) {s with heap:=h',toks:=t'}:=c.un (Un.laid k d<|c.hok.fresh d)<|c.hok.laid k d e
theorem Inv.write{x e:zo}{o:HO}{t':Nat}(a:Inv X pins σ H s)(f:Mut<|H x)(c:e=x\/H e=some (.own x))(k:∀b u,b≠e->s.heap.get? b=some u->h'.get? b=some u)(d:∃u,h'.get? e=some u)(g:aU X.prog X.w (upd H x o) h' x o):Inv X pins σ (upd H x o) {s with heap:=h',toks:=t'}:=a.un (Un.write f c k d)<|a.hok.write f c k d g
theorem Inv.pins_of{b:List (zo×Obj)}(a:Inv X pins σ H s)(c:∀p∈b,s.heap.get? p.1=some p.2/\H p.1=none/\p.1≠X.env.locals/\p.1∉X.fs/\∀v,p.2.data≠.cell v):Inv X b σ H s :=
 ⟨a.ok,a.os,a.bare,a.base,a.loc,a.cell,a.free,a.freeC,λp d=>(mem_append.mp d).elim (λe=>a.pin p<|mem_append_left _ e) (c p),a.hok,a.len⟩
theorem nF{N:List Str}(e:N.Nodup){i j:Nat}{x:Str}(a:N[i]?=some x)(b:N[j]?=some x):i=j:=by
 obtain⟨h1,c⟩:=List.getElem?_eq_some_iff.mp a;obtain⟨h2,d⟩:=List.getElem?_eq_some_iff.mp b;exact(getElem_inj e).mp (c.trans d.symm)
theorem ll{M:Model}{A:xg}{E:zt->zi->Prop}{i:Nat}{x:Str}{v:V}{u:zt}{Q:Unit->zi->Prop}(f:Inv X pins σ H s)(a1:X.N.Nodup)(F:X.N[i]?=some x)(l:Loc X.env.scope x)(r:aw v u)(a0:∀s',Inv X pins (σ.set i<|some v) H s'->(∃a,SameBut a s.heap s'.heap/\(a=X.env.locals\/X.env.cells.lookup x=some a))->Q () s')(b2:X.fn x=true\/X.env.scope.names.lookup x=some .local:=by first|exact .inl rfl|exact .inr rfl|assumption):wpAny M A (storeName X.env x u) Q E s:=by
 obtain⟨m,R,a6⟩:=id f.loc;have b1:(X.env.scope.kind==.class||(X.env.scope.kind==.module&&X.env.locals != X.env.globals))=false:=by rw[f.ok.kind];rfl
 have a5:i<σ.length:=by rw[f.len];exact(List.getElem?_eq_some_iff.mp F).1
 have L:=f.cne;have a9:∀{a:zo}{h':qa},(∃o,s.heap.get? a=some o/\H a=none)->SameBut a s.heap h'->HOk X.prog X.w H h':=λ{a h'} b0 g b b7 e=>by
  obtain⟨_,_,a4⟩:=b0;refine(f.hok b b7 e).stay (λc K j q=>(g.2 c ?_).trans q) (λ_ q=>q) λ_ _ q=>q;rintro rfl;rcases j with rfl|j
  ·rw[a4]at e;cases e
  ·rw[a4]at j;cases j
 rcases l with B | B
 ·refine wpAny_storeName_local B R (λh' b3 g=>?_) b1;obtain⟨b6,_,_,b4,_⟩:=id R;refine a0 _ ⟨f.ok,f.os,f.bare,⟨λb o e n C l=>?_,λb o e n C l=>?_,f.base.free,λb o e l=>?_,f.base.tups,f.base.frzs,f.base.tbls⟩,⟨_,b3,λG y Z h z O=>?_⟩,λy c e=>?_,f.free,f.freeC,λp S=>?_,a9 ⟨b6,b4,f.free⟩ g,by simpa using f.len⟩ ⟨_,g,.inl rfl⟩
  ·exact(g.2 b<|ne_of_lt (lt_of_lt_of_le (lt_size e) f.ok.above)).trans (f.base.keep b o e n C l)
  ·obtain⟨W,h⟩:=f.base.slot b o e n C l;exact⟨W,(g.2 b<|ne_of_lt (lt_of_lt_of_le (lt_size e) f.ok.above)).trans h⟩
  ·obtain⟨o',h⟩:=f.base.there b o e l;exact⟨o',(g.2 b<|ne_of_lt (lt_of_lt_of_le (lt_size e) f.ok.above)).trans h⟩
  ·by_cases D:G=i
   ·subst D;rw[F]at h;cases h;rw[List.getElem?_set_self a5]at z;cases z;exact⟨u,r,.inl ⟨B,by simp⟩⟩
   ·rw[List.getElem?_set_ne<|Ne.symm D]at z;obtain⟨Y,U,q⟩:=a6 G y Z h z O;refine⟨Y,U,?_⟩;rcases q with⟨k,e⟩|⟨k,c,e,t⟩
    ·refine .inl ⟨k,?_⟩;have:y≠x:=λe=>D<|nF a1 h (e ▸ F);simp[this,e]
    ·exact .inr ⟨k,c,e,t.sameBut g<|L y c e⟩
  ·obtain⟨K,t⟩:=f.cell y c e;exact⟨K,t.sameBut g<|L y c e⟩
  ·obtain⟨e,n,J,T,d⟩:=f.pin p S;exact⟨(g.2 p.1 J).trans e,n,J,T,d⟩
 ·have P:X.fn x=true:=by
   rcases b2 with t|t
   ·exact t
   ·rw[t]at B;cases B
  obtain⟨c,j⟩:=f.ok.has x<|.inl B;obtain⟨K,t⟩:=f.cell x c j;refine wpAny_storeName_cell f.ok.kind B j t λh' a2 g=>?_;obtain⟨a8,a7,b5⟩:=id t;refine a0 {s with heap:=h'} ⟨f.ok,f.os,f.bare,⟨λb o e n C l=>?_,λb o e n C l=>?_,f.base.free,λb o e l=>?_,f.base.tups,f.base.frzs,f.base.tbls⟩,⟨m,R.sameBut g<|Ne.symm (L x c j),λG y Z h z O=>?_⟩,λy I e=>?_,f.free,f.freeC,λp S=>?_,a9 ⟨a8,a7,f.freeC x c j⟩ g,by simpa using f.len⟩ ⟨c,g,.inr j⟩
  ·exact(g.2 b<|ne_of_lt (lt_of_lt_of_le (lt_size e)<|f.ok.cab x c P j)).trans (f.base.keep b o e n C l)
  ·obtain⟨W,h⟩:=f.base.slot b o e n C l;exact⟨W,(g.2 b<|ne_of_lt (lt_of_lt_of_le (lt_size e)<|f.ok.cab x c P j)).trans h⟩
  ·obtain⟨o',h⟩:=f.base.there b o e l;exact⟨o',(g.2 b<|ne_of_lt (lt_of_lt_of_le (lt_size e)<|f.ok.cab x c P j)).trans h⟩
  ·by_cases D:G=i
   ·subst D;rw[F]at h;cases h;rw[List.getElem?_set_self a5]at z;cases z;exact⟨u,r,.inr ⟨.inl B,c,j,a2⟩⟩
   ·rw[List.getElem?_set_ne<|Ne.symm D]at z;obtain⟨Y,U,q⟩:=a6 G y Z h z O;refine⟨Y,U,?_⟩;rcases q with q|⟨k,I,e,c0⟩
    ·exact .inl q
    ·refine .inr ⟨k,I,e,c0.sameBut g ?_⟩;rintro rfl;exact D<|nF a1 h (f.ok.inj _ _ _ e j ▸ F)
  ·by_cases a3:I=c
   ·subst a3;exact⟨_,a2⟩
   ·obtain⟨b9,c1⟩:=f.cell y I e;exact⟨b9,c1.sameBut g a3⟩
  ·obtain⟨e,n,J,T,d⟩:=f.pin p S;refine⟨(g.2 p.1 ?_).trans e,n,J,T,d⟩;intro q;rw[q,a7]at e;have b8:a8=p.2:=Option.some.inj e;exact d K (by rw[<-b8];exact b5)
theorem nG{M:Model}{A:xg}{E:zt->zi->Prop}{i:Nat}{x:Str}{v:V}{u:zt}{Q:Unit->zi->Prop}(a:Inv X pins σ H s)(d:X.N.Nodup)(f:X.N[i]?=some x)(g:Loc X.env.scope x)(r:aw v u)(c:∀s',Inv X pins (σ.set i<|some v) H s'->Q () s')(e:X.fn x=true\/X.env.scope.names.lookup x=some .local:=by first|exact .inl rfl|exact .inr rfl|assumption):wpAny M A (storeName X.env x u) Q E s :=
 ll a d f g r (λs' b _=>c s' b) e
theorem Inv.call'{s':zi}{ch:List zo}(a:Inv X pins σ H s)(g:s'.os=s.os)(u:Un (frs X.stack) ch H H' s.heap s'.heap)(h:HOk X.prog X.w H' s'.heap)(f:AllBare s'.gens)(d:∀b∈ch,(b∈X.ex\/X.s₀.heap.objs.size<=b)/\b≠X.env.locals/\(∀x c,X.env.cells.lookup x=some c->c≠b)/\∀p∈X.pn++pins,p.1≠b):Inv X pins σ H' s':=by
 obtain⟨h',g',d',t',o'⟩:=s';have e:o'=s.os:=g;subst e;exact a.call (g':=g') (t':=t') (d':=d') u h f d
end
abbrev XK:=zt->Option zo->Hp->Prop
abbrev St:=List<|Option V
abbrev VK:=V->Hp->Prop
abbrev TE:=St->Hp->VK->Prop
abbrev TT:=St->Hp->(Bool->Hp->Prop)->Prop
abbrev TA:=St->Hp->(List V->Hp->Prop)->Prop
structure Ends where
 nx:St->Hp->Prop
 rt:VK
 bk:St->Hp->Prop:=λ_ _=>False
 ct:St->Hp->Prop:=λ_ _=>False
abbrev TS:=Ends->St->Hp->Prop
def EP(X:Cx)(a:List<|zo×Obj)(b:St)(Q:VK)(u:zt)(s':zi):Prop:=∃v H',Inv X a b H' s'/\aw v u/\Q v H'
def TP(X:Cx)(a:List<|zo×Obj)(c:St)(Q:Bool->Hp->Prop)(b:Bool)(s':zi):Prop:=∃H',Inv X a c H' s'/\Q b H'
def AP(X:Cx)(a:List<|zo×Obj)(b:St)(Q:List V->Hp->Prop)(us:List zt)(s':zi):Prop:=∃vs H',Inv X a b H' s'/\aq vs us/\Q vs H'
def SP(X:Cx)(c:List<|zo×Obj)(b:Ends)(f:Flow)(s':zi):Prop :=
 match f with
 |.next=>∃a H',Inv X c a H' s'/\b.nx a H'
 |.brk=>∃a H',Inv X c a H' s'/\b.bk a H'
 |.cont=>∃a H',Inv X c a H' s'/\b.ct a H'
 |.ret u=>∃v a H',Inv X c a H' s'/\aw v u/\b.rt v H'
def PE(X:Cx)(e:Expr)(t:TE):Prop :=
 ∀(pins:List<|zo×Obj)(s:zi)(σ:St)(H:Hp)(Q:VK),Inv X pins σ H s->t σ H Q->wpAny (model X.prog X.w) X.A (eval e X.env) (EP X pins σ Q) X.xe s
def PT(X:Cx)(e:Expr)(t:TT):Prop :=
 ∀(pins:List<|zo×Obj)(s:zi)(σ:St)(H:Hp)(Q:Bool->Hp->Prop),Inv X pins σ H s->t σ H Q->wpAny (model X.prog X.w) X.A (isTrue e X.env<|eval e X.env) (TP X pins σ Q) X.xe s
def PW(X:Cx)(e:Expr)(t:TT):Prop :=
 ∀(a:Sem zt)(pins:List<|zo×Obj)(s:zi)(σ:St)(H:Hp)(Q:Bool->Hp->Prop),Inv X pins σ H s->t σ H Q->wpAny (model X.prog X.w) X.A (isTrue e X.env a) (TP X pins σ Q) X.xe s
theorem PW.pt{X:Cx}{e:Expr}{t:TT}(h:PW X e t):PT X e t:=h _
def PA(X:Cx)(a:List Expr)(t:TA):Prop :=
 ∀(pos:Pos)(pins:List<|zo×Obj)(s:zi)(σ:St)(H:Hp)(Q:List V->Hp->Prop),Inv X pins σ H s->t σ H Q->wpAny (model X.prog X.w) X.A (spliced<|backTo pos (starEach a X.env)) (AP X pins σ Q) X.xe s
def PS(X:Cx)(st:Stmt)(t:TS):Prop :=
 ∀(pins:List<|zo×Obj)(s:zi)(σ:St)(H:Hp)(D:Ends),Inv X pins σ H s->t D σ H->wpAny (model X.prog X.w) X.A (exec st X.env) (SP X pins D) X.xe s
def PSs(X:Cx)(st:List Stmt)(t:TS):Prop :=
 ∀(pins:List<|zo×Obj)(s:zi)(σ:St)(H:Hp)(D:Ends),Inv X pins σ H s->t D σ H->wpAny (model X.prog X.w) X.A (execs st X.env) (SP X pins D) X.xe s
theorem thn{c:Type}{t:Sem c}{Q b:c->zi->Prop}{M:Model}{A:xg}{E:zt->zi->Prop}{s:zi}(d:wpAny M A t Q E s)(e:∀a s,Q a s->b a s):wpAny M A t b E s:=wpAny_mono d e λ_ _ x=>x
section
variable{X:Cx}
def uc(i:Nat):TE:=λσ H Q=>∃v,σ[i]?=some (some v)/\Q v H
def tC(v:V):TE:=λ_ H Q=>Q v H
theorem zG{i:Nat}{x:Str}{pos:Pos}(j:X.N[i]?=some x)(q:Vis X.env.scope x)(d:(x==("__debug__":Str))=false:=by decide)(k:(x==("__classdict__":Str))=false:=by decide):PE X (.Name x pos) (uc i):=by
 intro pins s σ H Q I h;obtain⟨v,e,h⟩:=h;obtain⟨m,p,n⟩:=I.loc;obtain⟨u,r,l⟩:=n i x v j e q;have b:EP X pins σ Q u s:=⟨v,H,I,r,h⟩;rcases l with⟨a,o⟩|⟨a,c,f,g⟩
 ·exact wpAny_Name (wpAny_loadName_local I.ok.kind a p o b) d
 ·rcases a with a|a
  ·exact wpAny_Name (wpAny_loadName_cell I.ok.kind a f g b) d
  ·exact wpAny_Name (wpAny_loadName_free I.ok.kind a f g b k) d
theorem ao{i j pos}:PE X (.Constant (.int i) j pos) (tC<|.int i):=λ_ _ _ H _ I h=>wpAny_Constant_int ⟨.int i,H,I.tok _,⟨_,rfl⟩,h⟩
theorem ud{b j pos}:PE X (.Constant (.bool b) j pos) (tC<|.bl b):=λ_ _ _ H _ I h=>Constant_bool ⟨.bl b,H,I,rfl,h⟩
theorem jm{j pos}:PE X (.Constant .none j pos) (tC .non):=λ_ _ _ H _ I h=>Constant_none ⟨.non,H,I,rfl,h⟩
theorem dX{x j pos}:PE X (.Constant (.str x) j pos) (tC<|.str x):=λ_ _ _ H _ I h=>Calls.Constant_str ⟨.str x,H,I.tok _,⟨_,rfl⟩,h⟩
def Gl(X:Cx)(x:Str):Prop:=X.env.kindOf x=some .globalImplicit
theorem gD{E:zt->zi->Prop}{g:List (zo×Obj)}{s:zi}{h:St}{b:Hp}{x:Str}{u:zt}{pos:Pos}{Q:zt->zi->Prop}(a:Inv X g h b s)(e:Gl X x)(f:X.mg x=some u)(c:Q u s)(d:(x==("__debug__":Str))=false:=by decide):wpAny (model X.prog X.w) X.A (eval (.Name x pos) X.env) Q E s :=
 Calls.Name_function_global a.ok.kind e (Calls.loadGlobal_global (by rw[a.ok.glob];exact a.mod.glob.keeps a.bk) f c) d
theorem eW{E:zt->zi->Prop}{i:List (zo×Obj)}{s:zi}{j:St}{b:Hp}{x:Str}{u:zt}{pos:Pos}{Q:zt->zi->Prop}(a:Inv X i j b s)(e:Gl X x)(f:X.mg x=none)(h:bootBuiltins x=some u)(c:Q u s)(g:x≠"__name__":=by decide)(d:(x==("__debug__":Str))=false:=by decide):wpAny (model X.prog X.w) X.A (eval (.Name x pos) X.env) Q E s:=by
 obtain⟨k,h1,h2⟩:=a.mod.blt;exact Calls.Name_function_global a.ok.kind e (Calls.loadGlobal_builtin (by rw[a.ok.glob];exact a.mod.glob.keeps a.bk) f (by rw[a.ok.blt];exact h1.keeps a.bk) ((h2 x g).trans h) c) d
theorem gE{x:Str}{v:V}{u:zt}{pos:Pos}(b:Gl X x)(c:X.mg x=some u)(r:aw v u)(a:(x==("__debug__":Str))=false:=by decide):PE X (.Name x pos) (tC v) :=
 λ_ _ _ H _ I h=>gD I b c ⟨v,H,I,r,h⟩ a
theorem qQ{x:Str}{v:V}{u:zt}{pos:Pos}(b:Gl X x)(c:X.mg x=none)(e:bootBuiltins x=some u)(r:aw v u)(d:x≠"__name__":=by decide)(a:(x==("__debug__":Str))=false:=by decide):PE X (.Name x pos) (tC v) :=
 λ_ _ _ H _ I h=>eW I b c e ⟨v,H,I,r,h⟩ d a
variable{a b:Expr}{ta tb:TE}{pos:Pos}
def PC(X:Cx)(op:CmpOp)(a b:Expr)(t:TE):Prop :=
 ∀(pins:List<|zo×Obj)(s:zi)(σ:St)(H:Hp)(Q:VK),Inv X pins σ H s->t σ H Q ->
  wpAny (model X.prog X.w) X.A (eval a X.env) (λv c=>wpAny (model X.prog X.w) X.A (eval b X.env) (λu d=>wpAny (model X.prog X.w) X.A (compareOp op v u) (EP X pins σ Q) X.xe d) X.xe c) X.xe s
def tB(t:TE):TT:=λσ H Q=>t σ H λx H1=>∃c,x=.bl c/\Q c H1
theorem zH{op:CmpOp}{t:TE}(c:PC X op a b t)(d:behindInMarks op b=false:=by first|exact nobehind _ (by decide) (by decide)|rfl):PE X (.Compare a [op] [b] pos) t:=λpins s σ H Q I e=>wpAny_Compare1 (c pins s σ H Q I e) d
theorem pE{op:CmpOp}{t:TE}(g:PC X op a b t)(e:behindInMarks op b=false:=by first|exact nobehind _ (by decide) (by decide)|rfl):PT X (.Compare a [op] [b] pos) (tB t):=by
 intro pins s σ H Q I h;refine wpAny_isTrue_Compare1 (thn (g pins s σ H _ I h) λv s1 e=>thn e λu k h2=>thn h2 λc l ⟨x,H1,f,j,i⟩=>?_) e;obtain⟨d,rfl,q⟩:=i;cases j;exact wpAny_truthy_bool ⟨H1,f,q⟩
theorem pF{e:Expr}{t:TE}(c:PE X e t)(f:∀a,isTrue e X.env a=(do let v <- a;standAt e.pos;holding [v] (truthy v)):=by intro _;rfl):PT X e (tB t):=by
 intro pins s σ H Q I g;refine isTrue_plain (thn (c pins s σ H _ I g) λv s1 ⟨x,H1,b,i,h⟩=>?_)<|f _;obtain⟨d,rfl,q⟩:=h;cases i;exact wpAny_truthy_bool ⟨H1,b,q⟩
variable{tA tB':TT}{rest:List Expr}
def Dd(t u:TT):TT:=λσ H Q=>t σ H λc H1=>if c=true then u σ H1 Q else Q false H1
def tOr(t u:TT):TT:=λσ H Q=>t σ H λc H1=>if c=true then Q true H1 else u σ H1 Q
def De(t:TT):TT:=λσ H Q=>t σ H λc H1=>Q (!c) H1
theorem pw_and1(b:PT X a tA):PW X (.BoolOp .And [a] pos) tA:=by
 intro d pins s σ H Q I h;refine isTrue_and<|thn (b pins s σ H Q I h) λc s1 e=>?_;cases c with
 |true=>exact isTrue_and_nil e
 |false=>exact e
theorem pw_or1(b:PT X a tA):PW X (.BoolOp .Or [a] pos) tA:=by
 intro d pins s σ H Q I h;refine isTrue_or<|thn (b pins s σ H Q I h) λc s1 e=>?_;cases c with
 |false=>exact isTrue_or_nil e
 |true=>exact e
theorem pw_and(f:PT X a tA)(g:PW X (.BoolOp .And (b::rest) pos) tB'):PW X (.BoolOp .And (a::b::rest) pos) (Dd tA tB'):=by
 intro j pins s σ H Q I h;refine isTrue_and<|thn (f pins s σ H _ I h) λc s1 i=>?_;obtain⟨H1,d,e⟩:=i;cases c with
 |true=>exact g j pins s1 σ H1 Q d e
 |false=>exact⟨H1,d,e⟩
theorem pw_or(f:PT X a tA)(g:PW X (.BoolOp .Or (b::rest) pos) tB'):PW X (.BoolOp .Or (a::b::rest) pos) (tOr tA tB'):=by
 intro j pins s σ H Q I h;refine isTrue_or<|thn (f pins s σ H _ I h) λc s1 i=>?_;obtain⟨H1,d,e⟩:=i;cases c with
 |true=>exact⟨H1,d,e⟩
 |false=>exact g j pins s1 σ H1 Q d e
theorem lV(b:PT X a tA):PT X (.UnaryOp .Not a pos) (De tA):=by
 intro pins s σ H Q I h;exact isTrue_not<|b pins s σ H (λc H1=>Q (!c) H1) I h
def BD(a b:TE):TE:=λσ H Q=>a σ H λx H1=>∃c,x=.bl c/\if c=true then b σ H1 Q else Q (.bl false) H1
theorem zI{op}{t:TE}(b:PE X a t):PE X (.BoolOp op [a] pos) t:=λpins s σ H Q I c=>BoolOp_one<|b pins s σ H Q I c
theorem ue(f:PE X a ta)(g:PE X (.BoolOp .And (b::rest) pos) tb):PE X (.BoolOp .And (a::b::rest) pos) (BD ta tb):=by
 intro pins s σ H Q I h;refine BoolOp_and<|thn (f pins s σ H _ I h) λv s1 i=>?_;obtain⟨x,H1,e,j,d⟩:=i;obtain⟨c,rfl,d⟩:=d;cases j;refine wpAny_truthy_bool ?_;cases c with
 |true=>exact g pins s1 σ H1 Q e d
 |false=>exact⟨.bl false,H1,e,rfl,d⟩
end
def SqL(K:Frag)(c:Hp)(a:zo)(xs:List V):Prop :=
 Rd c a (.lst xs) \/
  ∃(o:Obj) (b:Array zt) (n:Nat),K.lookup a=some o/\o.cls=.type "list"/\o.dict=none/\o.data=.seq b n/\b.size<=sizeLine/\aq xs b.toList
def SqT(K:Frag)(c:Hp)(a:zo)(xs:List V):Prop :=
 Rd c a (.tup xs) \/
  ∃(o:Obj) (b:Array zt) (n:Nat),K.lookup a=some o/\o.cls=.type "tuple"/\o.data=.seq b n/\b.size<=sizeLine/\aq xs b.toList
def Df:zt->Option V
 |.none=>some .non
 |.bool b=>some<|.bl b
 |.int i _=>some<|.int i
 |.str x _=>some<|.str x
 |.bytes b _=>some<|.byt b
 |.float b _=>some<|.flt b
 |.ref a=>some<|.ref a
 |.type n=>some<|.ty n
 |_=>none
theorem aw.abs{x:V}{u:zt}(r:aw x u):Df u=some x:=by
 cases x with
 |non=>cases r;rfl
 |bl _=>cases r;rfl
 |int _=>obtain⟨t,rfl⟩:=r;rfl
 |str _=>obtain⟨t,rfl⟩:=r;rfl
 |byt _=>obtain⟨t,rfl⟩:=r;rfl
 |flt _=>obtain⟨t,rfl⟩:=r;rfl
 |ref _=>cases r;rfl
 |ty _=>cases r;rfl
theorem aw.inj{x y:V}{u:zt}(r:aw x u)(q:aw y u):x=y:=Option.some.inj<|r.abs.symm.trans q.abs
theorem aq.inj:∀{xs ys:List V}{us:List zt},aq xs us->aq ys us->xs=ys
 |_,_,_,.nil,.nil=>rfl
 |_,_,_,.cons r t,.cons r' t'=>by rw[r.inj r',aq.inj t t']
section
variable{X:Cx}{pins:List (zo×Obj)}{σ:St}{H:Hp}{s:zi}{a:zo}{xs ys:List V}
theorem SqL.of{K:Frag}(h:H a=some (.lst xs)):SqL K H a xs:=.inl<|.inl h
theorem SqT.of{K:Frag}(h:H a=some (.tup xs)):SqT K H a xs:=.inl<|.inl h
theorem Inv.list(d:Inv X pins σ H s)(c:SqL X.K H a xs):∃b:List zt,aq xs b/\PlainL s.heap a b.toArray/\xs.length<=sizeLine:=by
 rcases c with c|⟨o,b,n,h,f,g,i,k,r⟩
 ·obtain⟨j,b,n,r,e⟩:=c.ok d.hok;exact⟨b,r,⟨_,n,e,rfl,rfl,rfl⟩,j⟩
 ·refine⟨b.toList,r,⟨o,n,d.kIn a o h,f,g,by simpa using i⟩,?_⟩
  have e:=r.length;simp only[length_toList]at e;omega
theorem Inv.tuple(d:Inv X pins σ H s)(c:SqT X.K H a xs):∃b:List zt,aq xs b/\IsTup s.heap a b.toArray/\xs.length<=sizeLine:=by
 rcases c with c|⟨o,b,n,g,f,h,j,r⟩
 ·obtain⟨i,b,r,p⟩:=c.ok d.hok;exact⟨b,r,p,i⟩
 ·refine⟨b.toList,r,⟨o,d.kIn a o g,f,n,by simpa using h⟩,?_⟩
  have e:=r.length;simp only[length_toList]at e;omega
theorem Inv.list_inj(b:Inv X pins σ H s)(h:SqL X.K H a xs)(h':SqL X.K H a ys):xs=ys:=by
 obtain⟨i,r,⟨o,n,e,_,_,d⟩,_⟩:=b.list h;obtain⟨its',j,⟨o',k,f,_,_,c⟩,_⟩:=b.list h';rw[e]at f;cases f;rw[d]at c;injection c with g _
 have:i=its':=by simpa using congrArg toList g
 subst this;exact r.inj j
theorem Inv.tuple_inj(b:Inv X pins σ H s)(h:SqT X.K H a xs)(h':SqT X.K H a ys):xs=ys:=by
 obtain⟨i,r,⟨o,e,_,n,d⟩,_⟩:=b.tuple h;obtain⟨its',j,⟨o',f,_,k,c⟩,_⟩:=b.tuple h';rw[e]at f;cases f;rw[d]at c;injection c with g _
 have:i=its':=by simpa using congrArg toList g
 subst this;exact r.inj j
end
abbrev Cx.wish(X:Cx)(E:zt->zi->Prop):Cx:={X with xe:=E}
abbrev Cx.nox(X:Cx):Cx:=X.wish λ_ _=>False
theorem Cx.Ok.wish{X:Cx}(a:X.Ok)(E:zt->zi->Prop):(X.wish E).Ok :=
 ⟨a.mod,a.kind,a.glob,a.blt,a.above,a.inj,a.has,a.cab,a.hd,a.frames,a.stk,a.exf,a.bs,a.bsz,a.noex,a.exfs,a.funs,a.frf⟩
theorem Cx.Ok.unwish{X:Cx}{E:zt->zi->Prop}(a:(X.wish E).Ok):X.Ok :=
 ⟨a.mod,a.kind,a.glob,a.blt,a.above,a.inj,a.has,a.cab,a.hd,a.frames,a.stk,a.exf,a.bs,a.bsz,a.noex,a.exfs,a.funs,a.frf⟩
section
variable{X:Cx}{pins:List (zo×Obj)}{σ:St}{H:Hp}{s:zi}{E:zt->zi->Prop}
theorem Inv.wish(I:Inv X pins σ H s)(E:zt->zi->Prop):Inv (X.wish E) pins σ H s:=⟨I.ok.wish E,I.os,I.bare,I.base,I.loc,I.cell,I.free,I.freeC,I.pin,I.hok,I.len⟩
theorem Inv.unwish(I:Inv (X.wish E) pins σ H s):Inv X pins σ H s:=⟨I.ok.unwish,I.os,I.bare,I.base,I.loc,I.cell,I.free,I.freeC,I.pin,I.hok,I.len⟩
theorem SP.unwish{c:Ends}{f:Flow}{s':zi}(b:SP (X.wish E) pins c f s'):SP X pins c f s':=by
 cases f with
 |next=>obtain⟨a,H',I,q⟩:=b;exact⟨a,H',I.unwish,q⟩
 |brk=>obtain⟨a,H',I,q⟩:=b;exact⟨a,H',I.unwish,q⟩
 |cont=>obtain⟨a,H',I,q⟩:=b;exact⟨a,H',I.unwish,q⟩
 |ret u=>obtain⟨v,a,H',I,r,q⟩:=b;exact⟨v,a,H',I.unwish,r,q⟩
theorem PSs.nox{st:List Stmt}{t:TS}(b:PSs X.nox st t):PSs X st t:=λpins s σ H a I c =>
 wpAny_mono (b pins s σ H a (I.wish _) c) (λ_ _ q=>q.unwish) λ_ _ d=>False.elim d
end
section
variable{X:Cx}{st:Stmt}{rest:List Stmt}{t u:TS}{e:Expr}{te:TE}{pos:Pos}
def BE:TS:=λD σ H=>D.nx σ H
def uf(t u:TS):TS:=λD σ H=>t {D with nx:=u D} σ H
theorem bj:PSs X [] BE:=λ_ _ σ H _ I h=>wpAny_execs_nil ⟨σ,H,I,h⟩
theorem ai(c:PS X st t)(h2:PSs X rest u):PSs X (st::rest) (uf t u):=by
 intro pins s σ H a I h;refine wpAny_execs_cons<|thn (c pins s σ H {a with nx:=u a} I h) λf s1 q=>?_;cases f with
 |next =>
  obtain⟨d,H',b,q⟩:=q;exact h2 pins s1 d H' a b q
 |ret v=>exact q
 |brk=>exact q
 |cont=>exact q
theorem am(b:PS X st t):PSs X [st] t:=by
 intro pins s σ H a I h;refine wpAny_execs_cons<|thn (b pins s σ H a I h) λf s1 q=>?_;cases f with
 |next=>exact wpAny_execs_nil q
 |ret v=>exact q
 |brk=>exact q
 |cont=>exact q
theorem Inv.quiet{c:List (zo×Obj)}{d:St}{a:Hp}{s:zi}(b:Inv X c d a s):interactive X.env=false:=by simp[interactive,b.ok.kind]
def BF(b:TE):TS:=λa σ H=>b σ H λ_ H1=>a.nx σ H1
theorem aQ(b:PE X e te)(c:swapsWith e none pos.line X.env=pure false:=by rfl):PS X (.Expr e pos) (BF te):=by
 intro pins s σ H f I h;exact wpAny_Expr_any (thn (b pins s σ H _ I h) λv s1 ⟨x,H1,a,g,d⟩=>⟨σ,H1,a,d⟩) I.quiet c
def BG(b:TE):TS:=λa σ H=>b σ H a.rt
theorem aH(b:PE X e te):PS X (.Return (some e) pos) (BG te):=by
 intro pins s σ H f I h;exact wpAny_Return_some<|thn (b pins s σ H _ I h) λv s1 ⟨x,H1,a,d,c⟩=>⟨x,σ,H1,a,d,c⟩
def Dg(c:TT)(t u:TS):TS:=λD σ H=>c σ H λb H1=>if b=true then t D σ H1 else u D σ H1
theorem cZ{c:Expr}{a b:List Stmt}{tc:TT}(k:PT X c tc)(i:PSs X a t)(j:PSs X b u):PS X (.If c a b pos) (Dg tc t u):=by
 intro pins s σ H e I h;refine wpAny_If<|thn (k pins s σ H _ I h) λd s1 l=>?_;obtain⟨H1,f,g⟩:=l;cases d with
 |true=>exact i pins s1 σ H1 e f g
 |false=>exact j pins s1 σ H1 e f g
def zJ:TS:=λ_ _ _=>False
theorem sv{a:List Stmt}:PSs X a zJ:=λ_ _ _ _ _ _ h=>h.elim
end
abbrev TG:=V->St->Hp->(St->Hp->Prop)->Prop
abbrev TGs:=List V->St->Hp->(St->Hp->Prop)->Prop
def PG(X:Cx)(b:Expr)(t:TG):Prop :=
 ∀(pins:List<|zo×Obj)(s:zi)(σ:St)(H:Hp)(v:V)(u:zt)(Q:St->Hp->Prop),Inv X pins σ H s->aw v u->t v σ H Q ->
  wpAny (model X.prog X.w) X.A (assign b X.env u) (λ_ s'=>∃a H',Inv X pins a H' s'/\Q a H') X.xe s
def PGs(X:Cx)(b:List Expr)(t:TGs):Prop :=
 ∀(pins:List<|zo×Obj)(s:zi)(σ:St)(H:Hp)(vs:List V)(us:List zt)(Q:St->Hp->Prop),Inv X pins σ H s->aq vs us->t vs σ H Q ->
  wpAny (model X.prog X.w) X.A (assignInOrder ((assignEach b X.env).map (·.2)) us) (λ_ s'=>∃a H',Inv X pins a H' s'/\Q a H') X.xe s
section
variable{X:Cx}{pos:Pos}
def br(i:Nat):TG:=λv σ H Q=>Q (σ.set i<|some v) H
theorem aB{i:Nat}{x:Str}(b:X.N.Nodup)(d:X.N[i]?=some x)(e:Loc X.env.scope x)(c:X.fn x=true\/X.env.scope.names.lookup x=some .local:=by first|exact .inl rfl|exact .inr rfl|assumption):PG X (.Name x pos) (br i):=by
 intro pins s σ H v u Q I r h;exact wpAny_assign_Name<|nG I b d e r (λs' a=>⟨_,H,a,h⟩) c
def BH:TGs:=λvs σ H Q=>vs=[]/\Q σ H
def ug(t:TG)(u:TGs):TGs:=λvs σ H Q=>∃v r,vs=v::r/\t v σ H λa H'=>u r a H' Q
theorem jf:PGs X [] BH:=by
 intro pins s σ H vs us Q I r h;obtain⟨e,h⟩:=h;subst e;cases r;exact assignInOrder_nil ⟨σ,H,I,h⟩
theorem cD{e:Expr}{a:List Expr}{t:TG}{u:TGs}(d:PG X e t)(h2:PGs X a u)(g:(assignEach (e::a) X.env).map (·.2)=assign e X.env::(assignEach a X.env).map (·.2):=by rfl):PGs X (e::a) (ug t u):=by
 intro pins s σ H vs us Q I r h;obtain⟨v,l,c,h⟩:=h;subst c;cases r with
 |cons r j =>
  rw[g];refine assignInOrder_cons<|thn (d pins s σ H _ _ _ I r h) λ_ s1 f=>?_;obtain⟨k,H1,b,i⟩:=f;exact h2 pins s1 k H1 _ _ Q b j i
def BI(K:Frag)(n:Nat)(t:TGs):TG:=λv σ H Q=>∃a xs,v=.ref a/\SqT K H a xs/\xs.length=n/\t xs σ H Q
theorem lW{c:List Expr}{k:Nat}{t:TGs}{n:Nat}(j:X.calm=true)(i:PGs X c t)(m:(assignEach c X.env).length=n:=by rfl)(q:(assignEach c X.env).findIdx? (·.1)=none:=by rfl):PG X (.Tuple c k pos) (BI X.K n t):=by
 intro pins s σ H v u Q I r d;obtain⟨a,xs,h,p,l,d⟩:=d;subst h;cases r;obtain⟨z,f,w,y⟩:=I.tuple p;refine assign_Tuple_tuple (I.ok.hd j) w (by simp[m,<-l,f.length]) q λh' x=>?_;have g:Inv X pins σ H {s with heap:=h'}:=I.kept (t':=s.toks) λb o e=>x b o (ne_of_lt<|lt_size e) e
 exact i pins _ σ H xs _ Q g (by simpa using f) d
def xq(b:TE)(g:TG):TS:=λa σ H=>b σ H λx H1=>g x σ H1 a.nx
theorem zK{a e:Expr}{b:TE}{g:TG}(f:PE X e b)(i:PG X a g)(j:swapsWithSole [a] e pos.line X.env=pure false:=by rfl)(k:swappedStores [a] e X.env=pure none:=by rfl)(d:(assignEach [a] X.env).map (·.2)=[assign a X.env]:=by rfl):PS X (.Assign [a] e pos) (xq b g):=by
 intro pins s σ H n I h;refine wpAny_Assign_stores (thn (f pins s σ H _ I h) λv s1 ⟨x,H1,c,m,l⟩=>?_) j k;rw[d];exact thn (i pins s1 σ H1 x v _ c m l) λ_ o q=>q
theorem aA{i:Nat}{x:Str}{e:Expr}{b:TE}{a:Pos}(f:X.N.Nodup)(k:X.N[i]?=some x)(m:Loc X.env.scope x)(g:PE X e b)(l:swapsWith e (some<|.Name x a) pos.line X.env=pure false:=by rfl)(j:X.fn x=true\/X.env.scope.names.lookup x=some .local:=by first|exact .inl rfl|exact .inr rfl|assumption):
  PS X (.Assign [.Name x a] e pos) (xq b<|br i):=by
 intro pins s σ H p I h;refine wpAny_Assign_Name (thn (g pins s σ H _ I h) λv s1 ⟨y,H1,c,o,n⟩=>?_) l;exact nG c f k m o (λq d=>⟨_,H1,d,n⟩) j
def uh(c:TT)(f:TS):TS:=λa σ H=>∃W:Nat->St->Hp->Prop,(∃m,W m σ H)/\∀m σ H,W m σ H ->
 c σ H λb H1=>if b=true then ∃N:St->Hp->Prop,(∀e H',N e H'->∃d,d<m/\W d e H')/\f {a with nx:=N,ct:=N,bk:=a.nx} σ H1 else a.nx σ H1
theorem nH{c:Expr}{q:List Stmt}{tc:TT}{u:TS}(t:PassesOwn (model X.prog X.w) X.A X.env X.xe)(B:PT X c tc)(z:PSs X q u):PS X (.While c q [] pos) (uh tc u):=by
 intro pins s σ H K I h;obtain⟨W,⟨D,G⟩,F⟩:=h;refine wpAny_While<|codeAny_whileLoop (λn s'=>∃x H',Inv X pins x H' s'/\W n x H') ?_ D ⟨σ,H,I,G⟩;rintro n s1 ⟨i,H1,y,J⟩;refine wpAny_passesOwn t<|thn (B pins s1 i H1 _ y<|F n i H1 J) λb E C=>?_;obtain⟨H2,p,e⟩:=C;cases b with
 |true =>
  obtain⟨N,r,e⟩:=e;rw[if_pos rfl];refine wpAny_passesOwn t<|thn (z pins E i H2 _ p e) λf L g=>?_;cases f with
  |next =>
   obtain⟨d,a,j,m⟩:=g;obtain⟨l,k,o⟩:=r d a m;exact⟨l,k,d,a,j,o⟩
  |cont =>
   obtain⟨d,a,j,m⟩:=g;obtain⟨l,k,o⟩:=r d a m;exact⟨l,k,d,a,j,o⟩
  |brk=>exact g
  |ret v=>exact g
 |false =>
  rw[if_neg Bool.false_ne_true];exact wpAny_execs_nil ⟨i,H2,p,e⟩
end
structure It where
 go:Nat->Hp->Prop
 yld:Nat->Hp->V->Hp->Prop
 stop:Nat->Hp->Prop
def iX(X:Cx)(d:List<|zo×Obj)(a:Hp)(b:zo):Prop :=
 a b=none/\b≠X.env.locals/\b∉X.fs/\(b∈X.ex\/X.s₀.heap.objs.size<=b)/\(∀x c,X.env.cells.lookup x=some c->c≠b)/\∀p∈X.pn++d,p.1≠b
theorem Inv.fpOk{X:Cx}{g:List (zo×Obj)}{k:St}{h H':Hp}{s:zi}{b:zo}(a:Inv X g k h s)(d:s.heap.objs.size<=b)(i:H' b=none):iX X g H' b:=by
 refine⟨i,ne_of_gt<|lt_of_lt_of_le a.lt d,a.nofs d,.inr<|le_trans a.sz d,λx c e f=>?_,λp j f=>?_⟩
 ·obtain⟨v,q⟩:=a.cell x c e;exact absurd (lt_of_lt_of_le q.lt (by rw[f];exact d))<|lt_irrefl _
 ·exact absurd (lt_of_lt_of_le (lt_size (a.pin p j).1) (by rw[f];exact d))<|lt_irrefl _
structure Turn(P:xx)(w:qq)(K:Frag)(tg:Expr)(J:It)(fp:List zo)(it:zo)(tn:Nat->qa->Prop):Prop where
 mem:it∈fp
 obj:∀i h,tn i h->∀b∈fp,∃o,h.get? b=some o/\∀v,o.data≠.cell v
 keep:∀i h h',tn i h->(∀b∈fp,∀o,h.get? b=some o->h'.get? b=some o)->tn i h'
 item:∀(X:Cx),X.prog=P->X.w=w->X.K=K->X.calm=true->∀(i:Nat)(pins:List<|zo×Obj)(s:zi)(σ:St)(H:Hp)(E:zt->zi->Prop),Inv X pins σ H s->(∀b∈fp,iX X pins H b)->tn i s.heap->J.go i H ->
  wpAny (model P w) X.A (pyNext<|.ref it) (λr s1=>∃u,r=some u /\
   wpAny (model P w) X.A (letOwnedTupleGo tg (.ref it) u) (λ_ s2=>∃x H',Inv X pins σ H' s2/\aw x u/\J.yld i H x H'/\tn (i+1) s2.heap/\∀b∈fp,H' b=none) E s1) E s
 done:∀(X:Cx),X.prog=P->X.w=w->X.K=K->X.calm=true->∀(i:Nat)(pins:List<|zo×Obj)(s:zi)(σ:St)(H:Hp)(E:zt->zi->Prop),Inv X pins σ H s->(∀b∈fp,iX X pins H b)->tn i s.heap->J.stop i H ->
  wpAny (model P w) X.A (pyNext<|.ref it) (λr s1=>r=none/\Inv X pins σ H s1) E s
 self:∀(A:xg)(i:Nat)(s:zi)(Q:zt->zi->Prop)(E:zt->zi->Prop),tn i s.heap->Q (.ref it) s->wpAny (model P w) A (pyIter<|.ref it) Q E s
abbrev TI:=St->Hp->(It->Hp->Prop)->Prop
def PIE(X:Cx)(d:List<|zo×Obj)(i:St)(h:Expr)(R:It->Hp->Prop)(g:zt)(e:zi):Prop :=
 ∃(c:zo) (fp:List zo) (f:Nat->qa->Prop) (a:It) (H':Hp),g=.ref c/\Inv X d i H' e/\Turn X.prog X.w X.K h a fp c f/\f 0 e.heap/\(∀b∈fp,iX X d H' b)/\R a H'
def PI(X:Cx)(a iter:Expr)(b:TI):Prop :=
 ∀(pins:List<|zo×Obj)(s:zi)(σ:St)(H:Hp)(R:It->Hp->Prop),Inv X pins σ H s->b σ H R ->
  wpAny (model X.prog X.w) X.A (eval iter X.env) (λv s1=>wpAny (model X.prog X.w) X.A (pyIter v) (PIE X pins σ a R) X.xe s1) X.xe s
theorem lm{M:Model}{A:xg}{E:zt->zi->Prop}{s:zi}{c:Expr}{b:zo}{u:zt}{o:Obj}{n:String}{vs:Array zt}{Q:Unit->zi->Prop}(g:s.heap.get? b=some o)(d:o.cls=.type n)(e:o.data=.fields vs)(f:["enumerate","zip","dict_itemiterator","dict_reverseitemiterator","odict_iterator","itertools.zip_longest","itertools.pairwise"].contains n=false)(a:Q () s):wpAny M A (letOwnedTupleGo c (.ref b) u) Q E s:=by
 unfold letOwnedTupleGo;cases c<;>first
  |exact Wp a
  | (cases u<;>first
    |exact Wp a
    | (refine Wb (wpAny_load g ?_)
       rw[d,e];show wpAny M A (if (["enumerate","zip","dict_itemiterator","dict_reverseitemiterator","odict_iterator","itertools.zip_longest","itertools.pairwise"].contains n&&vs[0]?==some (rawInt _))=true then _ else _) Q E s
       rw[if_neg (by intro h;rw[f,Bool.false_and]at h;cases h)];exact Wp a))
def Itl(K:Frag)(a:zo):It :=
 ⟨λi H=>∃xs x,SqL K H a xs/\xs[i]?=some x,λi H x H'=>H'=H/\∀xs,SqL K H a xs->xs[i]?=some x,λi H=>∃xs,SqL K H a xs/\xs.length<=i⟩
def Itt(K:Frag)(a:zo):It :=
 ⟨λi H=>∃xs x,SqT K H a xs/\xs[i]?=some x,λi H x H'=>H'=H/\∀xs,SqT K H a xs->xs[i]?=some x,λi H=>∃xs,SqT K H a xs/\xs.length<=i⟩
def Itr(lo:Int)(n:Nat):It:=⟨λi _=>i<n,λi H x H'=>H'=H/\x=.int (lo+i),λi _=>n<=i⟩
theorem sw{P:xx}{w:qq}{K:Frag}{U:Expr}(a it:zo):Turn P w K U (Itl K a) [it] it (λi h=>h.IsListIter it a i) where
 mem:=by simp
 obj:=λi h st b f=>by
  have e:b=it:=by simpa using f
  subst e;obtain⟨o,e,c,d⟩:=st;exact⟨o,e,λv G=>by rw[d]at G;cases G⟩
 keep:=λi h h' st k=>st.at λo e=>k it (by simp) o e
 item:=by
  intro X y A t D i pins s σ H E I g st z;subst y A t;obtain⟨xs,x,j,B⟩:=z;obtain⟨R,C,p,Q⟩:=I.list j;obtain⟨u,N,S⟩:=C.get B;obtain⟨l,m,M,n,q,r⟩:=g it (by simp);refine wpAny_pyNext_list_item st p.isList (x:=u) (by simpa using N) λh' F T=>?_;have J:Inv X pins σ H {s with heap:=h'}:=I.turned (t':=s.toks) (λb o f e=>(T.2 b f).trans e) l m n q r
  obtain⟨o,e,c,d⟩:=id F;exact⟨u,rfl,lm (s:={s with heap:=h'}) e c d (by decide) ⟨x,H,J,S,⟨rfl,λys O=>by rw[I.list_inj O j];exact B⟩,F,λb f=>(g b f).1⟩⟩
 done:=by
  intro X y A t D i pins s σ H E I g st z;subst y A t;obtain⟨xs,j,B⟩:=z;obtain⟨R,C,p,Q⟩:=I.list j;obtain⟨l,m,M,n,q,r⟩:=g it (by simp);have V:=C.length;exact wpAny_pyNext_list_end (I.ok.hd D) st p.isList (by simp;omega) λh' L=>⟨rfl,I.turned (t':=s.toks) (λb o f e=>L b o f e) l m n q r⟩
 self:=λ_ _ _ _ _ st h=>wpAny_pyIter_listiter st h
theorem pG{P:xx}{w:qq}{K:Frag}{U:Expr}(a it:zo):Turn P w K U (Itt K a) [it] it (λi h=>h.IsTupleIter it a i) where
 mem:=by simp
 obj:=λi h st b f=>by
  have e:b=it:=by simpa using f
  subst e;obtain⟨o,e,c,d⟩:=st;exact⟨o,e,λv J=>by rw[d]at J;cases J⟩
 keep:=λi h h' st k=>st.at λo e=>k it (by simp) o e
 item:=by
  intro X y A t F i pins s σ H E I g st z;subst y A t;obtain⟨xs,x,j,B⟩:=z;obtain⟨C,D,p,R⟩:=I.tuple j;obtain⟨u,O,S⟩:=D.get B;obtain⟨l,m,N,n,q,r⟩:=g it (by simp);refine wpAny_pyNext_tuple_item st (show s.heap.IsTuple a C.toArray from p) (x:=u) (by simpa using O) λh' G T=>?_;have L:Inv X pins σ H {s with heap:=h'}:=I.turned (t':=s.toks) (λb o f e=>(T.2 b f).trans e) l m n q r
  obtain⟨o,e,c,d⟩:=id G;exact⟨u,rfl,lm (s:={s with heap:=h'}) e c d (by decide) ⟨x,H,L,S,⟨rfl,λys Q=>by rw[I.tuple_inj Q j];exact B⟩,G,λb f=>(g b f).1⟩⟩
 done:=by
  intro X y A t F i pins s σ H E I g st z;subst y A t;obtain⟨xs,j,B⟩:=z;obtain⟨C,D,p,R⟩:=I.tuple j;obtain⟨l,m,N,n,q,r⟩:=g it (by simp);have V:=D.length;exact wpAny_pyNext_tuple_end (I.ok.hd F) st (show s.heap.IsTuple a C.toArray from p) (by simp;omega) λh' M=>⟨rfl,I.turned (t':=s.toks) (λb o f e=>M b o f e) l m n q r⟩
 self:=λ_ _ _ _ _ st h=>wpAny_pyIter_tupleiter st h
theorem pH{P:xx}{w:qq}{K:Frag}{D:Expr}(it:zo)(lo:Int)(n:Nat):Turn P w K D (Itr lo n) [it] it (λi h=>IsRangeIter h it (lo+(i:Nat)*1) ((n:Int)-(i:Nat)) 1) where
 mem:=by simp
 obj:=λi h st b a=>by
  have e:b=it:=by simpa using a
  subst e;exact⟨_,st,λv F=>by
   have G:Data.fields _=Data.cell v:=F;cases G⟩
 keep:=λi h h' st k=>k it (by simp) _ st
 item:=by
  intro X p u m q i pins s σ H E I c st r;subst p u m;obtain⟨d,f,A,g,j,l⟩:=c it (by simp);have W:=Walks.range (prog:=X.prog) (w:=X.w) (I.ok.hd q) it lo 1 n;refine W.item i s _ _ r st λv h' tk B x C=>?_;obtain⟨t,rfl⟩:=B;have y:Inv X pins σ H {s with heap:=h',toks:=tk}:=I.turned (λb o a e=>C b o (by simpa using a) e) d f g j l
  refine⟨_,rfl,lm (s:={s with heap:=h',toks:=tk}) (n:="range_iterator") x rfl rfl (by decide) ⟨.int<|lo+i,H,y,⟨t,?_⟩,⟨rfl,rfl⟩,x,λb a=>(c b a).1⟩⟩;rw[Int.mul_one]
 done:=by
  intro X p u m q i pins s σ H E I c st r;subst p u m;obtain⟨d,f,A,g,j,l⟩:=c it (by simp);exact wpAny_pyNext_range_end (I.ok.hd q) st (by have:n<=i:=r;omega) λh' z=>⟨rfl,I.turned (t':=s.toks) (λb o a e=>z b o a e) d f g j l⟩
 self:=λ_ _ _ _ _ st h=>wpAny_pyIter_rangeiter st h
section
variable{X:Cx}{tg:Expr}
def BJ(K:Frag)(b:TE):TI:=λσ H R=>b σ H λx H1=>∃a,x=.ref a/\(∃xs,SqL K H1 a xs)/\R (Itl K a) H1
def Dh(K:Frag)(b:TE):TI:=λσ H R=>b σ H λx H1=>∃a,x=.ref a/\(∃xs,SqT K H1 a xs)/\R (Itt K a) H1
theorem cm{l:Expr}{d:TE}(g:PE X l d):PI X tg l (BJ X.K d):=by
 intro pins s σ H R I h;refine thn (g pins s σ H _ I h) λv s1 i=>?_;obtain⟨x,H1,c,m,k⟩:=i;obtain⟨a,e,⟨xs,j⟩,q⟩:=k;subst e;cases m;obtain⟨r,t,p,n⟩:=c.list j;refine wpAny_pyIter_list p.isList ?_;refine⟨s1.heap.objs.size,[s1.heap.objs.size],_,_,H1,rfl,c.kept (t':=s1.toks) λb o e=>get?_push_of_some _ e,sw a _,⟨_,get?_push_size _ rfl,rfl,rfl⟩,λb f=>?_,q⟩;have e:b=s1.heap.objs.size:=by simpa using f
 subst e;exact c.fpOk (le_refl _)<|c.hok.fresh (le_refl _)
theorem gh{l:Expr}{d:TE}(g:PE X l d):PI X tg l (Dh X.K d):=by
 intro pins s σ H R I h;refine thn (g pins s σ H _ I h) λv s1 i=>?_;obtain⟨x,H1,c,n,m⟩:=i;obtain⟨a,e,⟨xs,j⟩,q⟩:=m;subst e;cases n;obtain⟨k,t,p,r⟩:=c.tuple j;refine wpAny_pyIter_tuple (show s1.heap.IsTuple a k.toArray from p) ?_;refine⟨s1.heap.objs.size,[s1.heap.objs.size],_,_,H1,rfl,c.kept (t':=s1.toks) λb o e=>get?_push_of_some _ e,pG a _,⟨_,get?_push_size _ rfl,rfl,rfl⟩,λb f=>?_,q⟩;have e:b=s1.heap.objs.size:=by simpa using f
 subst e;exact c.fpOk (le_refl _)<|c.hok.fresh (le_refl _)
theorem ui{f:List (zo×Obj)}{g:St}{c:Hp}{s:zi}{R:It->Hp->Prop}{E:zt->zi->Prop}{lo a:Int}{t u v:Tok}{tk:Nat}(h:Inv X f g c s)(k:-(2 ^ 62)<=lo)(h2:lo<2 ^ 62)(l:-(2 ^ 62)<=a)(m:a<2 ^ 62)(q:R (Itr lo (a-lo).toNat) c):wpAny (model X.prog X.w) X.A (pyIter<|.ref s.heap.objs.size) (PIE X f g tg R) E {s with heap:=s.heap.push {cls:=.type "range",data:=.fields #[.int lo t,.int a u,.int 1 v]},toks:=tk}:=by
 refine wpAny_pyIter_range (IsRange.new ..) (small_one k h2 l m) ?_;have d:Inv X f g c {s with heap:=s.heap.push {cls:=.type "range",data:=.fields #[.int lo t,.int a u,.int 1 v]},toks:=tk}:=h.kept λb o e=>get?_push_of_some _ e
 refine⟨(s.heap.push {cls:=.type "range",data:=.fields #[.int lo t,.int a u,.int 1 v]}).objs.size,[(s.heap.push {cls:=.type "range",data:=.fields #[.int lo t,.int a u,.int 1 v]}).objs.size],_,_,c,rfl,
  d.kept (t':=tk) λb o e=>get?_push_of_some _ e,pH _ lo (a-lo).toNat,?_,λb n=>?_,q⟩
 ·have i:lo+((0:Nat):Int)*1=lo:=by simp
  have j:(((a-lo).toNat:Nat):Int)-((0:Nat):Int)=Builtin.Range.rangeSize lo a 1:=by rw[rangeSize_one];split<;>omega
  show IsRangeIter _ _ (lo+((0:Nat):Int)*1) ((((a-lo).toNat:Nat):Int)-((0:Nat):Int)) 1;rw[i,j];exact get?_push_size _ rfl
 ·have e:b=(s.heap.push {cls:=.type "range",data:=.fields #[.int lo t,.int a u,.int 1 v]}).objs.size:=by simpa using n
  subst e;exact d.fpOk (le_refl _)<|d.hok.fresh (le_refl _)
def BK(b:TA):TI:=λσ H R=>b σ H λvs H1=>∃a:Int,vs=[.int a]/\-(2 ^ 62)<=a/\a<2 ^ 62/\R (Itr 0 a.toNat) H1
theorem sx{a:Expr}{c:TA}{p pos:Pos}(g:Gl X "range")(i:X.mg "range"=none)(f:PA X [a] c)(j:starEach [a] X.env=[(false,eval a X.env)]:=by rfl):PI X tg (.Call (.Name "range" p) [a] [] pos) (BK c):=by
 intro pins s σ H R I h;refine Call_<|eW I g i boot_range (PyProof.Rows.callWith_type1 (thn (f pos pins s σ H _ I h) λus s1 ⟨vs,H1,d,l,b⟩=>?_) j rfl);obtain⟨n,e,b,k,q⟩:=b;subst e;cases l with
 |cons r m =>
  cases m;obtain⟨t,rfl⟩:=r;exact call_range_1<|ui d (by omega) (by omega) b k (by simpa using q)
def BL(f:TI)(g:TG)(e:TS):TS:=λa σ H=>f σ H λb H1=>∃W:Nat->Nat->St->Hp->Prop,(∃m,W 0 m σ H1)/\∀i m σ H,W i m σ H ->
 (b.stop i H/\a.nx σ H)\/(b.go i H/\∃N:St->Hp->Prop,(∀d H',N d H'->∃c,c<m/\W (i+1) c d H')/\∀x H',b.yld i H x H'->g x σ H' λh H2=>e {a with nx:=N,ct:=N,bk:=a.nx} h H2)
def lX(a:List zo)(c:qa):List (zo×Obj):=a.filterMap λb=>(c.get? b).map λo=>(b,o)
theorem cr{a:List zo}{h:qa}{b:zo}{o:Obj}(c:b∈a)(e:h.get? b=some o):(b,o)∈lX a h:=mem_filterMap.mpr ⟨b,c,by rw[e];rfl⟩
theorem sy{c:List zo}{a:qa}{p:zo×Obj}(g:p∈lX c a):p.1∈c/\a.get? p.1=some p.2:=by
 obtain⟨b,f,e⟩:=mem_filterMap.mp g;cases q:a.get? b with
 |none=>rw[q]at e;cases e
 |some o =>
  rw[q]at e;have d:(b,o)=p:=Option.some.inj e;subst d;exact⟨f,q⟩
theorem Inv.pinned{f:List (zo×Obj)}{k:St}{a:Hp}{s:zi}{c:List zo}(h:Inv X f k a s)(q:∀b∈c,iX X f a b)(r:∀b∈c,∃o,s.heap.get? b=some o/\∀v,o.data≠.cell v):Inv X (f++lX c s.heap) k a s :=
 h.pins_of λp t=>(mem_append.mp t).elim (λg=>h.pin p<|mem_append_right _ g) λg=>by
  obtain⟨j,e⟩:=sy g;obtain⟨l,m,n,_⟩:=q p.1 j;obtain⟨o,i,d⟩:=r p.1 j;rw[e]at i;cases i;exact⟨e,l,m,n,d⟩
theorem Inv.unpinned{c pl:List (zo×Obj)}{d:St}{a:Hp}{s:zi}(b:Inv X (c++pl) d a s):Inv X c d a s:=b.pins_of λp e=>b.pin p<|mem_append_right _ (mem_append_left _ e)
theorem dY{iter:Expr}{K:List Stmt}{V:TI}{g:TG}{S:TS}{pos:Pos}(q:PassesOwn (model X.prog X.w) X.A X.env X.xe)(O:X.calm=true)(a8:PI X tg iter V)(a7:PG X tg g)(j:PSs X K S)(b1:∀x,foldedSetIterable iter X.env x=pure x:=by intro _;rfl):PS X (.For tg iter K [] pos) (BL V g S):=by
 intro pins s σ H c8 I h;refine wpAny_For (thn (a8 pins s σ H _ I h) λv s1 h1=>thn h1 λd1 d2 h2=>?_) b1;obtain⟨d0,fp,U,c9,H2,e,Z,T,c0,L,W,⟨b3,c2⟩,c1⟩:=h2;subst e;have F:∀{H':Hp},(∀b∈fp,H' b=none)->∀b∈fp,iX X pins H' b:=λb0 b j=>⟨b0 b j,(L b j).2⟩;refine codeAny_forLoop_any (λn s'=>∃i y H',Inv X pins y H' s'/\U i s'.heap/\(∀b∈fp,H' b=none)/\W i n y H') ?_ b3 ⟨0,σ,H2,Z,c0,λb j=>(L b j).1,c2⟩;rintro n P ⟨i,z,B,J,R,M,c3⟩;rcases c1 i n z B c3 with⟨stop,b5⟩|⟨go,N,a6,step⟩
 ·refine wpAny_passesOwn q<|thn (T.done X rfl rfl rfl O i pins P z B X.xe J (F M) R stop) λr b8 p=>?_;obtain⟨C,a0⟩:=p;subst C;exact wpAny_execs_nil ⟨z,B,a0,b5⟩
 ·refine wpAny_passesOwn q<|thn (T.item X rfl rfl rfl O i pins P z B X.xe J (F M) R go) λr b8 p=>?_;obtain⟨u,C,a5⟩:=p;subst C;refine wpAny_passesOwn q<|thn a5 λ_ Q p=>?_;obtain⟨x,G,a1,b6,c6,E,a4⟩:=p;have a2:=a1.pinned (F a4)<|T.obj _ _ E;refine wpAny_passesOwn q<|thn (a7 _ Q z G x u _ a2 b6<|step x G c6) λ_ b9 p=>?_;obtain⟨c7,Y,a3,b4⟩:=p;refine wpAny_passesOwn q<|thn (j _ b9 c7 Y _ a3 b4) λf D l=>?_;have again:∀{k:St}{a:Hp},Inv X (pins++lX fp Q.heap) k a D->N k a->∃m,m<n/\∃i y H',Inv X pins y H' D/\U i D.heap/\(∀b∈fp,H' b=none)/\W i m y H':=λ{k a} c t=>by
   obtain⟨b2,a9,c4⟩:=a6 k a t;refine⟨b2,a9,i+1,k,a,c.unpinned,T.keep _ _ _ E λb j o e=>(c.pin (b,o)<|mem_append_right _ (mem_append_right _<|cr j e)).1,λb j=>?_,c4⟩;obtain⟨o,e,d⟩:=T.obj _ _ E b j;exact(c.pin (b,o)<|mem_append_right _ (mem_append_right _<|cr j e)).2.1
  cases f with
  |next=>obtain⟨k,a,c,t⟩:=l;exact again c t
  |cont=>obtain⟨k,a,c,t⟩:=l;exact again c t
  |brk=>obtain⟨k,a,c,l⟩:=l;exact⟨k,a,c.unpinned,l⟩
  |ret v=>obtain⟨c5,k,a,c,b7,l⟩:=l;exact⟨c5,k,a,c.unpinned,b7,l⟩
end
theorem jn{K:Frag}{a:zo}{xs:List V}{g:TG}{l:TS}{d:Ends}{c:St}{b:Hp}(Pv:Nat->St->Hp->Prop)(n:Pv 0 c b)(r:∀i c b,i<=xs.length->Pv i c b->SqL K b a xs)(s:∀i x c b,xs[i]?=some x->Pv i c b->g x c b λh H2=>l {d with nx:=Pv<|i+1,ct:=Pv<|i+1,bk:=d.nx} h H2)(o:∀c b,Pv xs.length c b->d.nx c b):
  ∃W:Nat->Nat->St->Hp->Prop,(∃m,W 0 m c b)/\∀i m c b,W i m c b ->
   ((Itl K a).stop i b/\d.nx c b)\/((Itl K a).go i b/\∃N:St->Hp->Prop,(∀f H',N f H'->∃k,k<m/\W (i+1) k f H')/\∀x H',(Itl K a).yld i b x H'->g x c H' λh H2=>l {d with nx:=N,ct:=N,bk:=d.nx} h H2):=by
 refine⟨λi m c b=>m=xs.length-i/\i<=xs.length/\Pv i c b,⟨xs.length,by simp,zero_le _,n⟩,?_⟩;rintro i m c b ⟨rfl,hi,p⟩;have q:=r i c b hi p
 by_cases j:i<xs.length
 ·refine .inr ⟨⟨xs,xs[i],q,by simp[j]⟩,Pv<|i+1,λf H' t=>⟨xs.length-(i+1),by omega,rfl,j,t⟩,λx H' y=>?_⟩;obtain⟨e,y⟩:=y;subst e;exact s i x c _ (y xs q) p
 ·have e:i=xs.length:=by omega
  subst e;exact .inl ⟨⟨xs,q,le_refl _⟩,o c b p⟩
theorem lY{K:Frag}{a:zo}{xs:List V}{g:TG}{l:TS}{d:Ends}{c:St}{b:Hp}(Pv:Nat->St->Hp->Prop)(n:Pv 0 c b)(r:∀i c b,i<=xs.length->Pv i c b->SqT K b a xs)(s:∀i x c b,xs[i]?=some x->Pv i c b->g x c b λh H2=>l {d with nx:=Pv<|i+1,ct:=Pv<|i+1,bk:=d.nx} h H2)(o:∀c b,Pv xs.length c b->d.nx c b):
  ∃W:Nat->Nat->St->Hp->Prop,(∃m,W 0 m c b)/\∀i m c b,W i m c b ->
   ((Itt K a).stop i b/\d.nx c b)\/((Itt K a).go i b/\∃N:St->Hp->Prop,(∀f H',N f H'->∃k,k<m/\W (i+1) k f H')/\∀x H',(Itt K a).yld i b x H'->g x c H' λh H2=>l {d with nx:=N,ct:=N,bk:=d.nx} h H2):=by
 refine⟨λi m c b=>m=xs.length-i/\i<=xs.length/\Pv i c b,⟨xs.length,by simp,zero_le _,n⟩,?_⟩;rintro i m c b ⟨rfl,hi,p⟩;have q:=r i c b hi p
 by_cases j:i<xs.length
 ·refine .inr ⟨⟨xs,xs[i],q,by simp[j]⟩,Pv<|i+1,λf H' t=>⟨xs.length-(i+1),by omega,rfl,j,t⟩,λx H' y=>?_⟩;obtain⟨e,y⟩:=y;subst e;exact s i x c _ (y xs q) p
 ·have e:i=xs.length:=by omega
  subst e;exact .inl ⟨⟨xs,q,le_refl _⟩,o c b p⟩
theorem sB{lo:Int}{n:Nat}{g:TG}{k:TS}{c:Ends}{b:St}{a:Hp}(Pv:Nat->St->Hp->Prop)(l:Pv 0 b a)(q:∀i b a,i<n->Pv i b a->g (.int<|lo+i) b a λh H2=>k {c with nx:=Pv<|i+1,ct:=Pv<|i+1,bk:=c.nx} h H2)(o:∀b a,Pv n b a->c.nx b a):
  ∃W:Nat->Nat->St->Hp->Prop,(∃m,W 0 m b a)/\∀i m b a,W i m b a ->
   ((Itr lo n).stop i a/\c.nx b a)\/((Itr lo n).go i a/\∃N:St->Hp->Prop,(∀f H',N f H'->∃j,j<m/\W (i+1) j f H')/\∀x H',(Itr lo n).yld i a x H'->g x b H' λh H2=>k {c with nx:=N,ct:=N,bk:=c.nx} h H2):=by
 refine⟨λi m b a=>m=n-i/\i<=n/\Pv i b a,⟨n,by simp,zero_le _,l⟩,?_⟩;rintro i m b a ⟨rfl,hi,p⟩
 by_cases d:i<n
 ·refine .inr ⟨d,Pv<|i+1,λf H' r=>⟨n-(i+1),by omega,rfl,d,r⟩,λx H' y=>?_⟩;obtain⟨e,y⟩:=y;subst e y;exact q i b _ d p
 ·have e:i=n:=by omega
  subst e;exact .inl ⟨le_refl _,o b a p⟩
theorem nI{c:TT}{h:TS}{f:Ends}{a:St}{H:Hp}(Pv:St->Hp->Prop)(e:St->Hp->Nat)(i:Pv a H)(j:∀a H,Pv a H->c a H λb H1=>if b=true then h {f with nx:=λd H'=>Pv d H'/\e d H'<e a H,ct:=λd H'=>Pv d H'/\e d H'<e a H,bk:=f.nx} a H1 else f.nx a H1)(k:∀a H Q g,(∀b H1,Q b H1->g b H1)->c a H Q->c a H g):uh c h f a H:=by
 refine⟨λm a H=>m=e a H/\Pv a H,⟨_,rfl,i⟩,?_⟩;rintro m a H ⟨rfl,p⟩;refine k a H _ _ (λb H1 q=>?_)<|j a H p;cases b with
 |true=>exact⟨_,λd H' ⟨n,l⟩=>⟨_,l,rfl,n⟩,q⟩
 |false=>exact q
abbrev R2:=V->V->Hp->VK->Prop
def OpR(X:Cx)(f:zt->zt->Sem zt)(r:R2):Prop :=
 ∀(pins:List<|zo×Obj)(s:zi)(σ:St)(H:Hp)(x y:V)(v u:zt)(Q:VK),Inv X pins σ H s->aw x v->aw y u->r x y H Q ->
  wpAny (model X.prog X.w) X.A (f v u) (EP X pins σ Q) X.xe s
def bu(X:Cx)(f:zt)(r:List V->Hp->VK->Prop):Prop :=
 ∀(pins:List<|zo×Obj)(s:zi)(σ:St)(H:Hp)(xs:List V)(us:List zt)(Q:VK),Inv X pins σ H s->aq xs us->r xs H Q ->
  wpAny (model X.prog X.w) X.A (call f us) (EP X pins σ Q) X.xe s
def Di(X:Cx)(r:V->Hp->(Bool->Hp->Prop)->Prop):Prop :=
 ∀(pins:List<|zo×Obj)(s:zi)(σ:St)(H:Hp)(x:V)(v:zt)(Q:Bool->Hp->Prop),Inv X pins σ H s->aw x v->r x H Q ->
  wpAny (model X.prog X.w) X.A (truthy v) (TP X pins σ Q) X.xe s
def tOp(r:R2)(a b:TE):TE:=λσ H Q=>a σ H λx H1=>b σ H1 λy H2=>r x y H2 Q
def rI(C:Int->Int->Prop)(g:Int->Int->V):R2:=λx y H Q=>∃i j,x=.int i/\y=.int j/\C i j/\Q (g i j) H
def rI0(g:Int->Int->V):R2:=λx y H Q=>∃i j,x=.int i/\y=.int j/\Q (g i j) H
section
variable{X:Cx}{a b c:Expr}{ta tb tc:TE}{pos:Pos}
theorem zL(m:PE X a ta)(n:PE X b tb){d:List (zo×Obj)}{s:zi}{c:St}{g:Hp}{R:V->V->Hp->Prop}(i:Inv X d c g s)(l:ta c g λx H1=>tb c H1 λy H2=>R x y H2){Q:zt->zi->Prop}{f:zt->zt->Sem zt}(o:∀v u e x y H2,Inv X d c H2 e->aw x v->aw y u->R x y H2->wpAny (model X.prog X.w) X.A (f v u) Q X.xe e):
  wpAny (model X.prog X.w) X.A (eval a X.env) (λv z=>wpAny (model X.prog X.w) X.A (eval b X.env) (λu B=>wpAny (model X.prog X.w) X.A (f v u) Q X.xe B) X.xe z) X.xe s:=by
 refine thn (m d s c g _ i l) λv s1 h=>?_;obtain⟨x,H1,j,r,p⟩:=h;refine thn (n d s1 c H1 _ j p) λu e h=>?_;obtain⟨y,H2,k,t,q⟩:=h;exact o v u e x y H2 k r t q
theorem aR{op:Operator}{r:R2}(f:OpR X (binaryOp op) r)(d:PE X a ta)(e:PE X b tb):PE X (.BinOp a op b pos) (tOp r ta tb):=by
 intro pins s σ H Q I h;exact wpAny_BinOp<|zL d e I h λv u j x y H2 c g i q=>f pins j σ H2 x y v u Q c g i q
theorem opI{f:zt->zt->Sem zt}{C:Int->Int->Prop}{g:Int->Int->Int}(rule:∀(i j:Int) (t u:Tok) (s:zi) (Q:zt->zi->Prop) (E:zt->zi->Prop),C i j->Q (.int (g i j) s.toks) {s with toks:=s.toks+1}->wpAny (model X.prog X.w) X.A (f (.int i t)<|.int j u) Q E s):
  OpR X f (rI C λi j=>.int<|g i j):=by
 intro pins s σ H x y v u Q I b c h;obtain⟨i,j,rfl,rfl,a,q⟩:=h;obtain⟨t,rfl⟩:=b;obtain⟨d,rfl⟩:=c;exact rule i j t d s _ _ a ⟨.int<|g i j,H,I.tok _,⟨_,rfl⟩,q⟩
theorem Dj{f:zt->zt->Sem zt}{g:Int->Int->Int}(rule:∀(i j:Int) (t u:Tok) (s:zi) (Q:zt->zi->Prop) (E:zt->zi->Prop),Q (.int (g i j) s.toks) {s with toks:=s.toks+1}->wpAny (model X.prog X.w) X.A (f (.int i t)<|.int j u) Q E s):
  OpR X f (rI0 λi j=>.int<|g i j):=by
 intro pins s σ H x y v u Q I a b h;obtain⟨i,j,rfl,rfl,q⟩:=h;obtain⟨t,rfl⟩:=a;obtain⟨c,rfl⟩:=b;exact rule i j t c s _ _ ⟨.int<|g i j,H,I.tok _,⟨_,rfl⟩,q⟩
theorem zM{f:zt->zt->Sem zt}{g:Int->Int->Bool}(rule:∀(i j:Int) (t u:Tok) (s:zi) (Q:zt->zi->Prop) (E:zt->zi->Prop),Q (.bool<|g i j) s->wpAny (model X.prog X.w) X.A (f (.int i t)<|.int j u) Q E s):
  OpR X f (rI0 λi j=>.bl<|g i j):=by
 intro pins s σ H x y v u Q I a b h;obtain⟨i,j,rfl,rfl,q⟩:=h;obtain⟨t,rfl⟩:=a;obtain⟨c,rfl⟩:=b;exact rule i j t c s _ _ ⟨.bl<|g i j,H,I,rfl,q⟩
def Dk(i j:Int):Prop:=0<j/\j<1073741824
def zN(i j:Int):Prop:=(-(2 ^ 64)<i/\i<2 ^ 64)\/(-(2 ^ 64)<j/\j<2 ^ 64)
theorem zN.ok{i j:Int}(h:zN i j):IntMulOk i j:=by
 rcases h with⟨h1,h2⟩|⟨h1,h2⟩
 ·exact .of_left<|intBits_le_64 h1 h2
 ·exact .of_right<|intBits_le_64 h1 h2
theorem bR:OpR X (binaryOp .Add) (rI0 λi j=>.int<|i+j):=Dj λ_ _ _ _ _ _ _ q=>add_int q
theorem dZ:OpR X (binaryOp .Mult) (rI zN λi j=>.int<|i*j):=opI λ_ _ _ _ _ _ _ a q=>mul_int q a.ok
theorem xr:OpR X (binaryOp .FloorDiv) (rI Dk λi j=>.int<|i / j):=opI λi j _ _ _ _ _ a q=>by
 have h1:(0:Int)<j:=a.1;have h2:j<1073741824:=a.2;exact floordiv_int (by omega) (by rw[Int.fdiv_eq_ediv_of_nonneg i (by omega)];exact q)<|.inl (PyProof.noPylong_small (by omega))
theorem lZ:OpR X (binaryOp .Mod) (rI (λ_ j=>0<j) λi j=>.int<|i % j):=opI λi j _ _ _ _ _ a q=>by
 have h1:(0:Int)<j:=a;exact mod_int' (by omega) (by rw[Int.fmod_eq_emod_of_nonneg i (by omega)];exact q)
end
def BM:V->V->Bool
 |.non,.non=>true | .non,.int _=>true | .int _,.non=>true | .non,.bl _=>true | .bl _,.non=>true | .non,.str _=>true | .str _,.non=>true
 |.int _,.int _=>true | .bl _,.bl _=>true | .str _,.str _=>true | .byt _,.byt _=>true
 |.int _,.str _=>true | .str _,.int _=>true | .bl _,.str _=>true | .str _,.bl _=>true
 |_,_=>false
def rEq:R2:=λx y H Q=>BM x y=true/\Q (.bl<|decide (x=y)) H
def rNe:R2:=λx y H Q=>BM x y=true/\Q (.bl<|!decide (x=y)) H
theorem qR{i j:Int}:decide (V.int i=V.int j)=(i==j):=by
 rw[Bool.eq_iff_iff];simp
theorem uk{i j:Bool}:decide (V.bl i=V.bl j)=(i==j):=by
 rw[Bool.eq_iff_iff];simp
theorem qS{i j:Str}:decide (V.str i=V.str j)=(i==j):=by
 rw[Bool.eq_iff_iff];simp
theorem qT{i j:Array UInt8}:decide (V.byt i=V.byt j)=(i.toList==j.toList):=by
 rw[Bool.eq_iff_iff];cases i;cases j;simp
section
variable{X:Cx}{a b c:Expr}{ta tb tc:TE}{pos:Pos}
theorem aG{c:List (zo×Obj)}{d:St}{a:Hp}{s:zi}{Q:VK}{k b:Bool}(f:Inv X c d a s)(q:Q (.bl k) a)(e:k=b):EP X c d Q (.bool b) s:=by
 subst e;exact⟨.bl k,a,f,rfl,q⟩
theorem BN:OpR X (compareOp .Eq) rEq:=by
 intro pins s σ H x y v u Q I e a h;obtain⟨d,q⟩:=h;cases x with
 |non =>
  cases e;cases y with
  |non=>cases a;exact PySem.EqNone.eq_none_none<|aG I q (by simp)
  |bl b=>cases a;exact PySem.EqNone.eq_none_bool<|aG I q (by simp)
  |int b=>obtain⟨c,rfl⟩:=a;exact PySem.EqNone.eq_none_int<|aG I q (by simp)
  |str b=>obtain⟨c,rfl⟩:=a;exact PySem.EqNone.eq_none_str<|aG I q (by simp)
  |_=>exact absurd (show false=true from d) Bool.false_ne_true
 |bl i =>
  cases e;cases y with
  |non=>cases a;exact PySem.EqNone.eq_bool_none<|aG I q (by simp)
  |bl b=>cases a;exact eq_bool<|aG I q uk
  |str b=>obtain⟨c,rfl⟩:=a;exact PySem.EqMixed.eq_bool_str<|aG I q (by simp)
  |_=>exact absurd (show false=true from d) Bool.false_ne_true
 |int i =>
  obtain⟨t,rfl⟩:=e;cases y with
  |non=>cases a;exact PySem.EqNone.eq_int_none<|aG I q (by simp)
  |int b=>obtain⟨c,rfl⟩:=a;exact eq_int<|aG I q qR
  |str b=>obtain⟨c,rfl⟩:=a;exact PySem.EqMixed.eq_int_str<|aG I q (by simp)
  |_=>exact absurd (show false=true from d) Bool.false_ne_true
 |str i =>
  obtain⟨t,rfl⟩:=e;cases y with
  |non=>cases a;exact PySem.EqNone.eq_str_none<|aG I q (by simp)
  |bl b=>cases a;exact PySem.EqMixed.eq_str_bool<|aG I q (by simp)
  |int b=>obtain⟨c,rfl⟩:=a;exact PySem.EqMixed.eq_str_int<|aG I q (by simp)
  |str b=>obtain⟨c,rfl⟩:=a;exact eq_str<|aG I q qS
  |_=>exact absurd (show false=true from d) Bool.false_ne_true
 |byt i =>
  obtain⟨t,rfl⟩:=e;cases y with
  |byt b=>obtain⟨c,rfl⟩:=a;exact PySem.W.eq_bytes<|aG I q qT
  |_=>exact absurd (show false=true from d) Bool.false_ne_true
 |_=>cases y<;>exact absurd (show false=true from d) Bool.false_ne_true
theorem um:OpR X (compareOp .NotEq) rNe:=by
 intro pins s σ H x y v u Q I e a h;obtain⟨d,q⟩:=h;cases x with
 |non =>
  cases e;cases y with
  |non=>cases a;exact PySem.EqNone.ne_none_none<|aG I q (by simp)
  |bl b=>cases a;exact PySem.EqNone.ne_none_bool<|aG I q (by simp)
  |int b=>obtain⟨c,rfl⟩:=a;exact PySem.EqNone.ne_none_int<|aG I q (by simp)
  |str b=>obtain⟨c,rfl⟩:=a;exact PySem.EqNone.ne_none_str<|aG I q (by simp)
  |_=>exact absurd (show false=true from d) Bool.false_ne_true
 |bl i =>
  cases e;cases y with
  |non=>cases a;exact PySem.EqNone.ne_bool_none<|aG I q (by simp)
  |bl b=>cases a;exact ne_bool<|aG I q (congrArg not uk)
  |str b=>obtain⟨c,rfl⟩:=a;exact PySem.EqMixed.ne_bool_str<|aG I q (by simp)
  |_=>exact absurd (show false=true from d) Bool.false_ne_true
 |int i =>
  obtain⟨t,rfl⟩:=e;cases y with
  |non=>cases a;exact PySem.EqNone.ne_int_none<|aG I q (by simp)
  |int b=>obtain⟨c,rfl⟩:=a;exact ne_int<|aG I q (congrArg not qR)
  |str b=>obtain⟨c,rfl⟩:=a;exact PySem.EqMixed.ne_int_str<|aG I q (by simp)
  |_=>exact absurd (show false=true from d) Bool.false_ne_true
 |str i =>
  obtain⟨t,rfl⟩:=e;cases y with
  |non=>cases a;exact PySem.EqNone.ne_str_none<|aG I q (by simp)
  |bl b=>cases a;exact PySem.EqMixed.ne_str_bool<|aG I q (by simp)
  |int b=>obtain⟨c,rfl⟩:=a;exact PySem.EqMixed.ne_str_int<|aG I q (by simp)
  |str b=>obtain⟨c,rfl⟩:=a;exact ne_str<|aG I q (congrArg not qS)
  |_=>exact absurd (show false=true from d) Bool.false_ne_true
 |byt i =>
  obtain⟨t,rfl⟩:=e;cases y with
  |byt b=>obtain⟨c,rfl⟩:=a;exact PySem.W.ne_bytes<|aG I q (congrArg not qT)
  |_=>exact absurd (show false=true from d) Bool.false_ne_true
 |_=>cases y<;>exact absurd (show false=true from d) Bool.false_ne_true
theorem BO:OpR X (compareOp .Lt) (rI0 λi j=>.bl<|decide (i<j)):=zM λ_ _ _ _ _ _ _ q=>lt_int q
theorem zl:OpR X (compareOp .LtE) (rI0 λi j=>.bl<|decide (i<=j)):=zM λ_ _ _ _ _ _ _ q=>le_int q
theorem BP:OpR X (compareOp .Gt) (rI0 λi j=>.bl<|decide (j<i)):=zM λ_ _ _ _ _ _ _ q=>gt_int q
theorem sC:OpR X (compareOp .In) (λx y H Q=>∃i j,x=.str i/\y=.str j/\Q (.bl<|!(Builtin.Str.occurrences j i 0 j.length 1).isEmpty) H):=by
 intro pins s σ H x y v u Q I a b h;obtain⟨i,j,rfl,rfl,q⟩:=h;obtain⟨t,rfl⟩:=a;obtain⟨c,rfl⟩:=b;exact in_str<|aG I q rfl
theorem pI:OpR X (compareOp .Is) (λx y H Q=>y=.non/\Q (.bl<|decide (x=.non)) H):=by
 intro pins s σ H x y v u Q I a b h;obtain⟨rfl,q⟩:=h;cases b;refine is_none_gen<|aG I q ?_;cases x<;>first
  |(cases a;rfl)
  |(obtain⟨t,rfl⟩:=a;rfl)
theorem xt:OpR X (compareOp .IsNot) (λx y H Q=>y=.non/\Q (.bl<|!decide (x=.non)) H):=by
 intro pins s σ H x y v u Q I a b h;obtain⟨rfl,q⟩:=h;cases b;refine isnot_none_gen<|aG I q ?_;cases x<;>first
  |(cases a;rfl)
  |(obtain⟨t,rfl⟩:=a;rfl)
theorem bz(b:Expr){op:CmpOp}(d:op≠.In:=by decide)(h2:op≠.NotIn:=by decide):behindInMarks op b=false:=by
 have a:(op==CmpOp.In)=false:=by cases op<;>first|rfl|exact absurd rfl d
 have c:(op==CmpOp.NotIn)=false:=by cases op<;>first|rfl|exact absurd rfl h2
 cases b<;>simp[behindInMarks,a,c]
theorem gF{op:CmpOp}{r:R2}(g:OpR X (compareOp op) r)(d:PE X a ta)(e:PE X b tb)(f:behindInMarks op b=false):PE X (.Compare a [op] [b] pos) (tOp r ta tb):=by
 intro pins s σ H Q I h;exact wpAny_Compare1 (zL d e I h λv u k x y H2 c i j q=>g pins k σ H2 x y v u Q c i j q) f
def zm(t:TE):TT:=λσ H Q=>t σ H λx H'=>∃k,x=.bl k/\Q k H'
theorem bw{op:CmpOp}{r:R2}(n:OpR X (compareOp op) r)(j:PE X a ta)(l:PE X b tb)(m:behindInMarks op b=false):PT X (.Compare a [op] [b] pos) (zm<|tOp r ta tb):=by
 intro pins s σ H Q I h;refine wpAny_isTrue_Compare1 (thn (j pins s σ H _ I h) λv s1 ⟨x,H1,f,t,o⟩=>thn (l pins s1 σ H1 _ f o) λu A ⟨y,H2,g,w,p⟩ =>
  thn (n pins A σ H2 x y v u _ g t w p) λc B ⟨C,d,i,z,k,e,q⟩=>?_) m
 subst e;cases z;exact wpAny_truthy_bool ⟨d,i,q⟩
def zO(r c:R2)(d e tc:TE):TE:=λσ H Q=>d σ H λx H1=>e σ H1 λy H2=>r x y H2 λg a=>∃k,g=.bl k /\
 (if k=true then tc σ a λf b=>c y f b Q else Q (.bl false) a)
theorem uo{op f:CmpOp}{r l:R2}(F:OpR X (compareOp op) r)(G:OpR X (compareOp f) l)(B:PE X a ta)(C:PE X b tb)(D:PE X c tc)(E:lastMarks [op,f] [b,c]=false:=by with_unfolding_all rfl):PT X (.Compare a [op,f] [b,c] pos) (zm<|zO r l ta tb tc):=by
 intro pins s σ H Q I h;refine isTrue_chain (thn (B pins s σ H _ I h) λv s1 ⟨x,H1,p,P,L⟩=>test_link (thn (C pins s1 σ H1 _ p L) λu U ⟨y,H2,q,m,M⟩ =>
  thn (F pins U σ H2 x y v u _ q P m M) λd V ⟨a3,g,i,R,k,e,j⟩=>?_)) E
 subst e;cases R;refine wpAny_truthy_bool ?_;cases k with
 |false =>
  obtain⟨a1,z,K⟩:=j;cases z;exact ite_ff ⟨g,i,K⟩
 |true =>
  refine ite_tt<|test_last (thn (D pins V σ g _ i j) λY W ⟨Z,n,t,S,N⟩=>thn (G pins W σ n y Z u Y _ t m S N) λa0 a2 J=>?_);obtain⟨a4,o,w,T,k2,A,O⟩:=J;subst A;cases T;exact wpAny_truthy_bool ⟨o,w,O⟩
def zP(K:Frag)(x:V)(H:Hp)(k:Bool):Prop :=
 match x with
 |.non=>k=false
 |.bl b=>k=b
 |.int i=>k=(i != 0)
 |.str y=>y.length<=sizeLine/\k=((y.length:Int) != 0)
 |.byt y=>y.size<=sizeLine/\k=((y.size:Int) != 0)
 |.ref p=>(∃xs,SqL K H p xs/\k = !xs.isEmpty)\/(∃xs,SqT K H p xs/\k = !xs.isEmpty)\/∃kvs,H p=some (.dK kvs)/\k = !kvs.isEmpty
 |_=>False
theorem pJ{κ:Type}{kvs:List (κ×V)}{vs:List (κ×zt)}(r:KV kvs vs):(!vs.isEmpty) = !kvs.isEmpty:=by
 cases r<;>rfl
theorem jp{xs:List V}{a:List zt}(r:aq xs a):(!a.toArray.isEmpty) = !xs.isEmpty:=by
 cases r<;>simp
theorem jr:(sizeLine:Nat)<2 ^ 63:=by rw[sizeLine_eq];decide
theorem zQ:Di X (λx H Q=>∃k,zP X.K x H k/\Q k H):=by
 intro pins s σ H x v Q I c h;obtain⟨k,e,q⟩:=h;have o:=jr;have u:sizeLine=16777216:=sizeLine_eq;cases x with
 |non =>
  cases c;have a:k=false:=e;subst a;exact truthy_none ⟨H,I,q⟩
 |bl b =>
  cases c;have a:k=b:=e;subst a;exact wpAny_truthy_bool ⟨H,I,q⟩
 |int i =>
  obtain⟨t,rfl⟩:=c;have a:k=(i != 0):=e;subst a;exact PySem.P.truthy_int ⟨H,I,q⟩
 |str y =>
  obtain⟨t,rfl⟩:=c;obtain⟨l,a⟩:y.length<=sizeLine/\k=((y.length:Int) != 0):=e;subst a;exact PySem.P.truthy_str (by omega) ⟨H,I.tok _,q⟩
 |byt y =>
  obtain⟨t,rfl⟩:=c;obtain⟨l,a⟩:y.size<=sizeLine/\k=((y.size:Int) != 0):=e;subst a;exact PySem.W.truthy_bytes (by omega) ⟨H,I.tok _,q⟩
 |ref p =>
  cases c;have a:(∃xs,SqL X.K H p xs/\k = !xs.isEmpty)\/(∃xs,SqT X.K H p xs/\k = !xs.isEmpty)\/∃kvs,H p=some (.dK kvs)/\k = !kvs.isEmpty:=e;rcases a with⟨xs,d,a⟩|⟨xs,d,a⟩|⟨kvs,d,a⟩
  ·subst a;obtain⟨n,r,pl,g⟩:=I.list d;have f:=r.length;exact wpAny_truthy_list pl.isList (by simp only[size_toArray];omega) ⟨H,I.tok _,by rw[jp r];exact q⟩
  ·subst a;obtain⟨n,r,pl,g⟩:=I.tuple d;have f:=r.length;exact truthy_tuple pl (by simp only[size_toArray];omega) ⟨H,I.tok _,by rw[jp r];exact q⟩
  ·subst a;obtain⟨g,j,vs,r,m⟩:kvs.length<=sizeLine/\(p==sysModules)=false/\∃vs,KV kvs vs/\s.heap.DictOf (ap X.prog X.w) p vs:=I.hok p _ d;have f:kvs.length=vs.length:=Paired.length r;exact wpAny_truthy_dict j m (by omega) ⟨H,I.tok _,by rw[pJ r];exact q⟩
 |_=>exact(show False from e).elim
theorem nJ(d:PE X a ta)(e:∀b,isTrue a X.env b=(do let v <- b;standAt a.pos;holding [v] (truthy v))):
  PT X a (λσ H Q=>ta σ H λx H'=>∃k,zP X.K x H' k/\Q k H'):=by
 intro pins s σ H Q I h;exact isTrue_plain (thn (d pins s σ H _ I h) λv s1 ⟨x,H1,c,g,f⟩=>zQ pins s1 σ H1 x v Q c g f)<|e _
theorem bY{x:V}{us:List zt}(r:aq [x] us):∃u,us=[u]/\aw x u:=by
 cases r with
 |cons a b=>cases b;exact⟨_,rfl,a⟩
theorem uq{x y:V}{us:List zt}(r:aq [x,y] us):∃u w',us=[u,w']/\aw x u/\aw y w':=by
 cases r with
 |cons a b =>
  cases b with
  |cons c d=>cases d;exact⟨_,_,rfl,a,c⟩
end
structure ObjM(h:qa)(x dx C:zo)(mA:Str->Option zt):Prop where
 obj:h.get? x=some (instObj C dx)
 ns:h.Ns1 dx mA
 ne:dx≠x
theorem sD{c:qa}{b:zo}{d:Str->Option zt}(n:c.Ns1 b d):∃f,c.get? b=some f/\∀name,lookIn name f=some (d name):=by
 obtain⟨o,es,p,l,h,i,_,k⟩:=n;refine⟨o,l,λname=>?_⟩;have e:=k name;unfold nsFind findBy at e;rw[<-Array.find?_toList]at e;unfold lookIn;rw[h];dsimp only
 split
 ·rename_i y q
  rw[q]at e;exact congrArg some e
 ·rename_i q
  rw[q]at e;have a:es.toList.any (·.refKey)=false:=by
   rw[List.any_eq_false];intro y m;obtain⟨r,t,j⟩:=i y<|Array.mem_toList_iff.mp m;simp[DictEntry.refKey,j]
  have g:¬es.toList.any (·.refKey)=true:=by rw[a];exact Bool.false_ne_true
  rw[if_neg g];exact congrArg some e
theorem ObjM.look{d:qa}{x c C:zo}{e:Str->Option zt}(b:ObjM d x c C e):∃a,PySem.W.InstAt d x (instObj C c) C (some a)/\∀name,lookIn name a=some (e name) :=
 let⟨a,g,f⟩:=sD b.ns
 ⟨a,⟨b.obj,rfl,rfl,g⟩,f⟩
section
variable{prog:xx}{w:qq}{A:xg}{E:zt->zi->Prop}{s:zi}{K:Frag}{x dx C f:zo}{mA:Str->Option zt}{name:Str}{v:zt}
theorem xu{c:Bool}{Q:zt->zi->Prop}(X:K.In s.heap)(a:ObjM s.heap x dx C mA)(f:plainGet K C name=true)(g:hasDictIn K C=true)(e:findIn K (.ref C) name=some none)(i:mA name=some v)(j:handedIn v=true)(d:Q v {s with toks:=s.toks+1}):
  wpAny (model prog w) A (getAttr (.ref x) name c) Q E s:=by
 obtain⟨k,b,h⟩:=a.look;exact PySem.W.get_value X b (plainGet_of f).1 (PySem.W.findObj_own g e rfl (by rw[h,i])) j d
theorem ut{pl:Sem Bool}{Q:zt×List zt->zi->Prop}(X:K.In s.heap)(b:ObjM s.heap x dx C mA)(a:plainGet K C name=true)(e:findIn K (.ref C) name=some (some<|.ref f))(h:isFn K (.ref f)=true)(i:mA name=none)(d:Q (.ref f,[.ref x]) s):
  wpAny (model prog w) A (getMethod (.ref x) name pl) Q E s:=by
 obtain⟨j,c,g⟩:=b.look;exact PySem.W.method_fn X c (plainGet_of a).1 (plainGet_of a).2 e (beq_iff_eq.mp h) (by show(lookIn name j).map (·.isSome)=some false;rw[g,i];rfl) d
theorem xv{ns:List Str}{Q:Unit->zi->Prop}(X:K.In s.heap)(c:ObjM s.heap x dx C mA)(o:findIn K (.ref C) "__setattr__"=some (some<|.builtin "object.__setattr__"))(n:plainOver K C=true)(p:takerIn K C name=some none)(l:hasDictIn K C=true)(q:PySem.Within mA ns)(hsz:ns.length<=sizeLine)(g:∀h',ObjM h' x dx C (λy=>if y=name then some v else mA y)->SameBut dx s.heap h'->Q () {s with heap:=h',toks:=s.toks+2}):
  wpAny (model prog w) A (setAttr (.ref x) name v) Q E s:=by
 obtain⟨G,d,D⟩:=c.look;refine PySem.W.set_plain X d o<|PySem.W.osa_open (s:={s with toks:=s.toks+1}) (r:=none) X d n p λb=>?_;obtain⟨u,h,j⟩:=PySem.W.any_some l;have t:s.heap.get? x=some ⟨.ref C,some dx,.plain,#[]⟩:=c.obj;refine Wb<|Wp (Wb<|Wb (wpAny_loadPart t<|Wb (Looks.here (s:={s with toks:=s.toks+1}) (PySem.W.looks_clsIn X h) ?_)));rw[j];refine Wp (a:=some dx)<|Wb (Wp<|Wb ?_);refine wpAny_nsSet1 (s:={s with toks:=s.toks+1}) c.ns λh' e f=>?_;obtain⟨F,B,z,m,k,i⟩:=e.count<|PySem.Within.cons name v q;refine Wb<|wpAny_lookBehind m (by rw[k];exact pastItsLine_dict<|le_trans i (by rw[length_cons];omega)) ?_;exact Wp<|g _ ⟨(f.2 _<|Ne.symm c.ne).trans c.obj,e,c.ne⟩ f
theorem uu{R:Result->zi->Prop}{vs:List zt}{a:List (Str×zt)}(X:K.In s.heap)(h:makesIn K C=true)(e:findIn K (.ref C) "__init__"=some (some<|.ref f))(c:PySem.W.typeIn K (.ref f)=some (.type "function"))(b:codeAny (model prog w) (A.under<|.builtin "type.__call__" ⟨.ref C::vs,a⟩) (.call (.ref f) ⟨.ref (s.heap.objs.size+1)::vs,a⟩) (PySem.W.InitBack (s.heap.objs.size+1) R)
   {s with heap:=(s.heap.push emptyDict).push (instObj C s.heap.objs.size)}):
  codeAny (model prog w) A (.call (.ref C) ⟨vs,a⟩) R s:=by
 obtain⟨j,g,d,t,os⟩:=s;exact PySem.W.make_core (PySem.W.makes_of X h) (PySem.W.looks_findIn X e) (λi=>PySem.W.bind_fn X i c) (.inl rfl) b
end
def cE(f:Str)(v:V):List (Str×V)->List (Str×V)
 |[]=>[(f,v)]
 |(g,x)::r=>if g=f then (g,v)::r else (g,x)::cE f v r
theorem iL(f g:Str)(v:V):∀fs:List<|Str×V,(cE f v fs).lookup g=if g=f then some v else fs.lookup g
 |[]=>by
  show List.lookup g [(f,v)]=_
  by_cases h:g=f
  ·have a:(g==f)=true:=beq_iff_eq.mpr h;simp only[List.lookup,a,if_pos h]
  ·have a:(g==f)=false:=beq_eq_false_iff_ne.mpr h;simp only[List.lookup,a,if_neg h]
 |(k,x)::r=>by
  have c:=iL f g v r;rw[show cE f v ((k,x)::r)=(if k=f then (k,v)::r else (k,x)::cE f v r)from rfl]
  by_cases b:k=f
  ·rw[if_pos b]
   by_cases h:g=k
   ·have a:(g==k)=true:=beq_iff_eq.mpr h;simp only[List.lookup,a,if_pos<|h.trans b]
   ·have a:(g==k)=false:=beq_eq_false_iff_ne.mpr h;simp only[List.lookup,a,if_neg λe:g=f=>h<|e.trans b.symm]
  ·rw[if_neg b]
   by_cases h:g=k
   ·have a:(g==k)=true:=beq_iff_eq.mpr h;simp only[List.lookup,a,if_neg λe:g=f=>b<|h.symm.trans e]
   ·have a:(g==k)=false:=beq_eq_false_iff_ne.mpr h;simp only[List.lookup,a];exact c
theorem ir(f:Str)(v:V):∀fs:List<|Str×V,f∈(cE f v fs).map (·.1)/\∀g,g∈fs.map (·.1)->g∈(cE f v fs).map (·.1)
 |[]=>⟨by simp[cE],λg h=>by simp at h⟩
 |(k,x)::r=>by
  obtain⟨b,c⟩:=ir f v r;rw[show cE f v ((k,x)::r)=(if k=f then (k,v)::r else (k,x)::cE f v r)from rfl]
  by_cases a:k=f
  ·rw[if_pos a];subst a;exact⟨by simp,λg h=>by simpa using h⟩
  ·rw[if_neg a];refine⟨?_,λg h=>?_⟩
   ·rw[map_cons];exact mem_cons_of_mem _ b
   ·rw[map_cons]at h|-;rcases mem_cons.mp h with e|e
    ·exact mem_cons.mpr<|.inl e
    ·exact mem_cons_of_mem _<|c g e
theorem iM(f:Str)(v:V):∀fs:List<|Str×V,(cE f v fs).length<=fs.length+1
 |[]=>by simp[cE]
 |(k,x)::r=>by
  have b:=iM f v r;rw[show cE f v ((k,x)::r)=(if k=f then (k,v)::r else (k,x)::cE f v r)from rfl]
  by_cases a:k=f
  ·rw[if_pos a,length_cons,length_cons];omega
  ·rw[if_neg a,length_cons,length_cons];omega
theorem dH.some_of{v:V}{o:Option zt}(r:dH (some v) o):∃u,o=some u/\aw v u:=by
 cases o with
 |none=>exact(show False from r).elim
 |some u=>exact⟨u,rfl,r⟩
theorem dH.none_of{o:Option zt}(r:dH none o):o=none:=by
 cases o with
 |none=>rfl
 |some u=>exact(show False from r).elim
theorem sE{v:V}{u:zt}(r:aw v u):handedIn u=true:=by
 cases v with
 |non=>cases (show u=Value.none from r);rfl
 |bl b=>cases (show u=Value.bool b from r);rfl
 |int i=>obtain⟨t,e⟩:=(show ∃t,u=Value.int i t from r);cases e;rfl
 |str x=>obtain⟨t,e⟩:=(show ∃t,u=Value.str x t from r);cases e;rfl
 |byt b=>obtain⟨t,e⟩:=(show ∃t,u=bytes b t from r);cases e;rfl
 |flt b=>obtain⟨t,e⟩:=(show ∃t,u=float b t from r);cases e;rfl
 |ref a=>cases (show u=Value.ref a from r);rfl
 |ty n=>cases (show u=Value.type n from r);rfl
section
variable{P:xx}{w:qq}{H H':Hp}{h h':qa}{a C dx:zo}{fs fs':List (Str×V)}
theorem jg(b:HOk P w H h)(e:H a=some (.ins C dx fs)):∃mA,ObjM h a dx C mA/\(∀f,dH (fs.lookup f)<|mA f)/\PySem.Within mA (fs.map (·.1))/\fs.length<=1000/\H dx=some (.own a):=by
 obtain⟨d,i,c,g,mA,n,r,q⟩:=(show aU P w H h a (.ins C dx fs)from b a _ e);exact⟨mA,⟨g,n,c⟩,r,q,i,d⟩
end
structure Cls(K:Frag)(C:zo):Prop where
 pg:plainGet K C empty=true
 hd:hasDictIn K C=true
 po:plainOver K C=true
 sa:findIn K (.ref C) "__setattr__"=some (some<|.builtin "object.__setattr__")
theorem Cls.get{K:Frag}{C:zo}(c:Cls K C)(f:Str):plainGet K C f=true:=c.pg
def db(K:Frag)(C:zo)(f:Str):Prop:=findIn K (.ref C) f=some none
theorem db.taker{K:Frag}{C:zo}{f:Str}(n:db K C f):takerIn K C f=some none:=by
 unfold takerIn;rw[show findIn K (.ref C) f=some none from n];rfl
structure Meth(K:Frag)(C:zo)(m:Str)(f:zo):Prop where
 at_:findIn K (.ref C) m=some (some<|.ref f)
 fn:isFn K (.ref f)=true
 kp:keepIn K (.ref f)=true
section
variable{X:Cx}{pins:List (zo×Obj)}{σ:St}{H:Hp}{s:zi}{a C dx:zo}{fs:List (Str×V)}{f:Str}{v:V}{A:xg}{E:zt->zi->Prop}
theorem pK{b:Bool}{Q:zt->zi->Prop}(d:Inv X pins σ H s)(e:H a=some (.ins C dx fs))(c:Cls X.K C)(n:db X.K C f)(l:fs.lookup f=some v)(i:∀u s',Inv X pins σ H s'->aw v u->Q u s'):wpAny (model X.prog X.w) A (getAttr (.ref a) f b) Q E s:=by
 obtain⟨mA,h,r,_,_,_⟩:=jg d.hok e;obtain⟨u,j,g⟩:=dH.some_of (v:=v) (o:=mA f) (by rw[<-l];exact r f);exact xu d.kIn h (c.get f) c.hd n j (sE g)<|i u _ (d.tok _) g
theorem jt{m:Str}{g:zo}{pl:Sem Bool}{Q:zt×List zt->zi->Prop}(b:Inv X pins σ H s)(e:H a=some (.ins C dx fs))(c:Cls X.K C)(k:Meth X.K C m g)(l:fs.lookup m=none)(f:Q (.ref g,[.ref a]) s):wpAny (model X.prog X.w) A (getMethod (.ref a) m pl) Q E s:=by
 obtain⟨mA,d,r,_,_,_⟩:=jg b.hok e;have h:mA m=none:=dH.none_of (by rw[<-l];exact r m);exact ut b.kIn d (c.get m) k.at_ k.fn h f
theorem pL{y:V}{u:zt}{Q:Unit->zi->Prop}(d:Inv X pins σ H s)(e:H a=some (.ins C dx fs))(c:Cls X.K C)(n:db X.K C f)(F:fs.length<1000)(B:aw y u)(m:∀s',Inv X pins σ (upd H a<|.ins C dx (cE f y fs)) s'->Q () s'):wpAny (model X.prog X.w) A (setAttr (.ref a) f u) Q E s:=by
 obtain⟨mA,h,r,wi,_,k⟩:=jg d.hok e;have z:(fs.map (·.1)).length<=sizeLine:=by rw[length_map,sizeLine_eq];omega
 refine xv d.kIn h c.sa c.po n.taker c.hd wi z λh' i D=>m _ ?_;have t:∃o,h'.get? dx=some o:=let⟨o,_,_,l,_⟩:=i.ns;⟨o,l⟩;refine d.write (x:=a) (e:=dx) (by rw[e];exact True.intro) (.inr k) (λb q p j=>(D.2 b p).trans j) t ?_;refine⟨by rw[ae h.ne];exact k,?_,h.ne,i.obj,_,i.ns,λg=>?_,λg v=>?_⟩
 ·have:=iM f y fs;omega
 ·show dH ((cE f y fs).lookup g) (if g=f then some u else mA g);rw[iL]
  by_cases q:g=f
  ·rw[if_pos q,if_pos q];exact B
  ·rw[if_neg q,if_neg q];exact r g
 ·by_cases q:g=f
  ·rw[q];exact(ir f y fs).1
  ·refine(ir f y fs).2 g (wi g λj=>v ?_);show(if g=f then some u else mA g)=none;rw[if_neg q];exact j
theorem Inv.made(f:Inv X pins σ H s):Inv X pins σ (upd (upd H s.heap.objs.size<|.own (s.heap.objs.size+1)) (s.heap.objs.size+1)<|.ins C s.heap.objs.size [])
  {s with heap:=(s.heap.push emptyDict).push (instObj C s.heap.objs.size)}:=by
 have c:(s.heap.push emptyDict).get? s.heap.objs.size=some emptyDict:=get?_push_size s.heap rfl;have h:((s.heap.push emptyDict).push (instObj C s.heap.objs.size)).get? (s.heap.objs.size+1)=some (instObj C s.heap.objs.size):=by
  have:=get?_push_size (s.heap.push emptyDict) (o:=instObj C s.heap.objs.size) rfl
  rwa [size_push]at this
 have i:(s.heap.push emptyDict).Ns s.heap.objs.size (λ_=>none):=⟨emptyDict,#[],_,c,rfl,(λe j=>absurd j (by simp)),λ_=>rfl⟩;have g:=f.laid (a:=s.heap.objs.size) (o:=.own<|s.heap.objs.size+1) (h':=s.heap.push emptyDict) (t':=s.toks) (λb u q=>get?_push_of_some _ q) (le_refl _) ⟨_,c⟩;refine g.laid (a:=s.heap.objs.size+1) (o:=.ins C s.heap.objs.size []) (t':=s.toks) (λb u q=>get?_push_of_some _ q) (le_of_eq<|size_push _ _) ?_;have d:s.heap.objs.size≠s.heap.objs.size+1:=ne_of_lt<|Nat.lt_succ_self _;refine⟨by rw[ae d,ac],zero_le _,d,h,λ_=>none,(Heap.Ns1.of_empty i).at λo q=>get?_push_of_some _ q,λ_=>True.intro,λy k=>absurd rfl k⟩
theorem xw{prog:xx}{w:qq}{env:Env}{e:Expr}{f:Str}{pos:Pos}{s:zi}{Q:zt->zi->Prop}(b:attributeBase e f env (eval e env)=eval e env)(a:wpAny (model prog w) A (eval e env) (λo c=>wpAny (model prog w) A (getAttr o f true) Q E c) E s):wpAny (model prog w) A (eval (.Attribute e f pos) env) Q E s :=
 Attribute_any_ a (by rw[arm_eval_Attribute,b])
end
def Dm(K:Frag)(b:TE)(f:Str):TE:=λσ H Q=>b σ H λx H1=>∃a C dx fs v,x=.ref a/\H1 a=some (.ins C dx fs)/\Cls K C/\db K C f/\fs.lookup f=some v/\Q v H1
def Dn(K:Frag)(c d:TE)(f:Str):TS:=λb σ H=>d σ H λy H1=>c σ H1 λx H2=>∃a C dx fs,x=.ref a/\H2 a=some (.ins C dx fs)/\Cls K C/\db K C f/\fs.length<1000 /\
 b.nx σ (upd H2 a<|.ins C dx (cE f y fs))
section
variable{X:Cx}{o e value:Expr}{f:Str}{pos pos' tpos:Pos}{ta tv:TE}
theorem dc(i:PE X e ta)(g:attributeBase e f X.env (eval e X.env)=eval e X.env):PE X (.Attribute e f pos) (Dm X.K ta f):=by
 intro pins s σ H Q I h;refine xw g<|thn (i pins s σ H _ I h) λu s1 j=>?_;obtain⟨x,H1,b,m,a,C,dx,fs,v,ex,ea,c,n,l,q⟩:=j;subst ex;obtain rfl:u=Value.ref a:=m;exact pK b ea c n l λp o d k=>⟨v,H1,d,k,q⟩
theorem eX(g:PE X o ta)(j:PE X value tv)(i:swapsWith value (some<|.Attribute o f pos') pos.line X.env=pure false):PS X (.Assign [.Attribute o f pos'] value pos) (Dn X.K ta tv f):=by
 intro pins s σ H t I h;refine plainObj_wpAny_Assign_Attribute (thn (j pins s σ H _ I h) λu s1 ⟨y,H1,b,r,q⟩=>thn (g pins s1 σ H1 _ b q) λk v ⟨x,H2,d,p,a,C,dx,fs,ex,ea,c,n,l,m⟩=>?_) i;subst ex;obtain rfl:k=Value.ref a:=p;exact pL d ea c n l r λw e=>⟨σ,_,e,m⟩
end
section
variable{X:Cx}{pins:List (zo×Obj)}{σ:St}{H:Hp}{s:zi}{A:xg}{E:zt->zi->Prop}{Q:zt->zi->Prop}{c:zt}{b:Bool}
inductive TyOf(K:Frag)(H:Hp):V->zt->Prop where
 |non:TyOf K H .non<|.type "NoneType"
 |bl (x:Bool):TyOf K H (.bl x)<|.type "bool"
 |int (i:Int):TyOf K H (.int i)<|.type "int"
 |str (x:Str):TyOf K H (.str x)<|.type "str"
 |flt (x:UInt64):TyOf K H (.flt x)<|.type "float"
 |lst {a:zo} {xs:List V} (e:H a=some (.lst xs)):TyOf K H (.ref a)<|.type "list"
 |frz {a:zo} {o:Obj} {xs:List V} (e:H a=some (.frz o<|.lst xs)):TyOf K H (.ref a)<|.type "list"
 |tup {a:zo} {xs:List V} (e:H a=some (.tup xs)):TyOf K H (.ref a)<|.type "tuple"
 |dK {a:zo} {kvs:List (Key×V)} (e:H a=some (.dK kvs)):TyOf K H (.ref a)<|.type "dict"
 |dT {a:zo} {kvs:List (List Key×V)} (e:H a=some (.dT kvs)):TyOf K H (.ref a)<|.type "dict"
 |ins {a C dx:zo} {fs:List (Str×V)} (e:H a=some (.ins C dx fs)) (cl:Cls K C) (ha:findIn K (.ref C) "__class__"=some (some<|.builtin "object.__class__"))
   (hn:PySem.W.specialIn K (.builtin "object.__class__") "__get__"=some (some<|.builtin "getset_descriptor.__get__")) (htk:PySem.W.takesIn K (.builtin "object.__class__")=some true)
   (hm:mroIn K C (.type "object")=some true):TyOf K H (.ref a)<|.ref C
theorem sF{x:V}{u t:zt}(f:Inv X pins σ H s)(h:aw x u)(m:TyOf X.K H x t)(e:kitOne X.K t c=some b)(g:∀tk,Q (.bool b) {s with toks:=tk}):
  wpAny (model X.prog X.w) A (call (.builtin "isinstance") [u,c]) Q E s:=by
 cases m with
 |non=>cases (show u=Value.none from h);exact kia_one PySem.W.kitx_none f.kIn True.intro e (λd=>nomatch d) g
 |bl y=>cases (show u=Value.bool y from h);exact kia_one PySem.W.kitx_bool f.kIn True.intro e (λd=>nomatch d) g
 |int i=>obtain⟨t,q⟩:=(show ∃t,u=Value.int i t from h);cases q;exact kia_one PySem.W.kitx_int f.kIn True.intro e (λd=>nomatch d) g
 |str y=>obtain⟨t,q⟩:=(show ∃t,u=Value.str y t from h);cases q;exact kia_one PySem.W.kitx_str f.kIn True.intro e (λd=>nomatch d) g
 |flt y=>obtain⟨t,q⟩:=(show ∃t,u=float y t from h);cases q;exact kia_one PySem.W.kitx_float f.kIn True.intro e (λd=>nomatch d) g
 |@lst a xs ea =>
  cases (show u=Value.ref a from h);obtain⟨_,_,n,_,h1⟩:=(show aU X.prog X.w H s.heap a (.lst xs)from f.hok a _ ea);exact kia_one kitx_list f.kIn ⟨_,h1,rfl⟩ e (λd=>nomatch d) g
 |@frz a ob xs ea =>
  cases (show u=Value.ref a from h);obtain⟨_,_,_,n,_,h1⟩:=(show aU X.prog X.w H s.heap a (.frz ob<|.lst xs)from f.hok a _ ea);exact kia_one kitx_list f.kIn ⟨_,h1,rfl⟩ e (λd=>nomatch d) g
 |@tup a xs ea =>
  cases (show u=Value.ref a from h);obtain⟨_,_,_,p⟩:=(show aU X.prog X.w H s.heap a (.tup xs)from f.hok a _ ea);obtain⟨o,h1,h2,_⟩:=p;exact kia_one PySem.W.kitx_tuple f.kIn ⟨o,h1,h2⟩ e (λd=>nomatch d) g
 |@dK a kvs ea =>
  cases (show u=Value.ref a from h);obtain⟨_,_,vs,_,p⟩:=(show aU X.prog X.w H s.heap a (.dK kvs)from f.hok a _ ea);obtain⟨o,es,l,h1,h2,_⟩:=p;exact kia_one kitx_dict f.kIn ⟨o,h1,h2.1⟩ e (λd=>nomatch d) g
 |@dT a kvs ea =>
  cases (show u=Value.ref a from h);obtain⟨_,_,xs,_,o,es,l,h1,h2,_⟩:=(show aU X.prog X.w H s.heap a (.dT kvs)from f.hok a _ ea);exact kia_one kitx_dict f.kIn ⟨o,h1,h2.1⟩ e (λd=>nomatch d) g
 |@ins a C dx fs ea cl ha hn htk hm =>
  cases (show u=Value.ref a from h);obtain⟨mA,k,_⟩:=jg f.hok ea;obtain⟨r,j,_⟩:=k.look;exact kia_one (PySem.W.kitx_own (cl.get _) cl.hd ha hn htk hm) f.kIn j e (λd=>nomatch d) g
end
structure Room(k:Nat)(A:xg):Prop where
 hd:A.handled=none
 dp:A.depth+3*k+5<recursionLimit
 un:A.units+16*k+200<cLine
 gd:A.guards=some []
theorem Room.mono{j k:Nat}{A:xg}(r:Room k A)(h:j<=k):Room j A:=⟨r.hd,by have:=r.dp;omega,by have:=r.un;omega,r.gd⟩
theorem Room.deeper{k:Nat}{A:xg}(r:Room (k+1) A)(env:Env):Room k (A.deeper env) :=
 ⟨r.hd,by have:=r.dp;show A.depth+1+3*k+5<_;omega,by have:=r.un;show A.units+3+16*k+200<_;omega,r.gd⟩
theorem Room.in1{k:Nat}{A:xg}(r:Room (k+1) A):Room k A.in1 :=
 ⟨r.hd,by have:=r.dp;show A.depth+3*k+5<_;omega,by have:=r.un;show A.units+1+16*k+200<_;omega,r.gd⟩
theorem pM{A:xg}{C:zo}{us:List zt}{a:List (Str×zt)}:(A.under<|.builtin "type.__call__" ⟨.ref C::us,a⟩).depth=A.depth+1:=by
 first|rfl|simp[Around.under,Code.weight,Code.isCreation,Code.isGuard,Code.isCaller,Code.frames,Code.isFrame,guardIds]
theorem pN{A:xg}{C:zo}{us:List zt}{a:List (Str×zt)}:(A.under<|.builtin "type.__call__" ⟨.ref C::us,a⟩).units=A.units+1:=by
 first|rfl|simp[Around.under,Code.cUnits,Code.frames,Code.isFrame]
theorem nK{A:xg}{C:zo}{us:List zt}{a:List (Str×zt)}:(A.under<|.builtin "type.__call__" ⟨.ref C::us,a⟩).guards=A.guards:=by
 first|rfl|(cases h:A.guards<;>simp[Around.under,pushGuards,Code.guards,Code.isGuard,guardIds,h])
theorem Room.make{k:Nat}{A:xg}(r:Room (k+1) A)(C:zo)(us:List zt)(a:List<|Str×zt):Room k (A.under<|.builtin "type.__call__" ⟨.ref C::us,a⟩) :=
 ⟨r.hd,by have:=r.dp;rw[pM];omega,by have:=r.un;rw[pN];omega,by rw[nK];exact r.gd⟩
theorem Room.depth{k:Nat}{A:xg}(r:Room k A):A.depth<recursionLimit:=by have:=r.dp;omega
theorem Room.units{k:Nat}{A:xg}(r:Room k A):A.units+64<cLine:=by have:=r.un;omega
theorem Room.units0{k:Nat}{A:xg}(r:Room k A):A.units<cLine:=by have:=r.un;omega
def nM:TA:=λ_ H Q=>Q [] H
def iN(a:TE)(b:TA):TA:=λσ H Q=>a σ H λx H1=>b σ H1 λxs H2=>Q (x::xs) H2
section
variable{X:Cx}{e:Expr}{es:List Expr}{te:TE}{t:TA}{pos:Pos}
theorem af:PA X [] nM:=λ_ _ _ _ H Q I h=>spliced_nil ⟨[],H,I,.nil,h⟩
theorem aa(c:PE X e te)(f:PA X es t)(g:starEach (e::es) X.env=(false,eval e X.env)::starEach es X.env:=by rfl):PA X (e::es) (iN te t):=by
 intro pos pins s σ H Q I h;rw[g];show wpAny _ _ (spliced ((false,eval e X.env)::backTo pos (starEach es X.env))) _ _ s;refine spliced_cons<|thn (c pins s σ H _ I h) λu s1 d=>?_;obtain⟨x,H1,a,k,i⟩:=d;exact thn (f pos pins s1 σ H1 _ a i) λus m ⟨xs,H2,b,l,j⟩=>⟨x::xs,H2,b,.cons k l,j⟩
def Do(t:TA):TE:=λσ H Q=>t σ H λxs H1=>xs.length<=sizeLine/\∀p,H1 p=none->Q (.ref p) (upd H1 p<|.tup xs)
def Dp(t:TA):TE:=λσ H Q=>t σ H λxs H1=>xs.length<=sizeLine/\∀p,H1 p=none->Q (.ref p) (upd H1 p<|.lst xs)
theorem bA{x1}(d:PA X es t):PE X (.Tuple es x1 pos) (Do t):=by
 intro pins s σ H Q I g;refine wpAny_Tuple_spliced<|thn (d pos pins s σ H _ I g) λus s1 ⟨xs,H1,a,r,c,q⟩=>⟨by rw[<-r.length];exact c,?_⟩;have f:H1 s1.heap.objs.size=none:=a.hok.fresh<|le_refl _;refine⟨.ref s1.heap.objs.size,upd H1 s1.heap.objs.size<|.tup xs,a.laid (t':=s1.toks) (λb u e=>get?_push_of_some _ e) (le_refl _) ?_,rfl,q _ f⟩;exact⟨c,us,r,⟨_,get?_push_size _ rfl,rfl,_,rfl⟩⟩
theorem bn(d:PA X es t):PE X (.List es pos) (Dp t):=by
 intro pins s σ H Q I g;refine wpAny_List_spliced<|thn (d pos pins s σ H _ I g) λus s1 ⟨xs,H1,a,r,c,q⟩=>⟨by rw[<-r.length];exact c,?_⟩;have f:H1 s1.heap.objs.size=none:=a.hok.fresh<|le_refl _;refine⟨.ref s1.heap.objs.size,upd H1 s1.heap.objs.size<|.lst xs,a.laid (t':=s1.toks) (λb u e=>get?_push_of_some _ e) (le_refl _) ?_,rfl,q _ f⟩;exact⟨c,us,0,r,get?_push_size _ rfl⟩
end
abbrev Sp:=List V->Hp->VK->XK->Prop
abbrev CXT:=List Env->Hp->zi->XK->zt->zi->Prop
structure Env0(P:xx)(w:qq)(K:Frag)(mg:Str->Option zt)(base:qa)(A:xg)(outer:List Env)(s:zi)(H:Hp):Prop where
 frames:A.frames=some outer
 mod:Mod K mg base
 bs:∀b o,base.get? b=some o->s.heap.get? b=some o/\H b=none
 bsz:base.objs.size<=s.heap.objs.size
 funs:s.heap.FunFrames base outer
 frf:∀b∈frs outer,H b=none
 hok:HOk P w H s.heap
 bare:AllBare s.gens
def CE(outer:List Env)(P:xx)(w:qq)(H:Hp)(s:zi)(Q:VK)(u:zt)(s':zi):Prop :=
 ∃v H',s'.os=s.os/\AllBare s'.gens/\Un (frs outer) [] H H' s.heap s'.heap/\HOk P w H' s'.heap/\aw v u/\Q v H'
def CR(CX:CXT)(outer:List Env)(P:xx)(w:qq)(H:Hp)(s:zi)(Q:VK)(E:XK)(r:Result)(s':zi):Prop :=
 match r with
 |.ok (.ret u)=>CE outer P w H s Q u s'
 |.ok _=>False
 |.error e=>CX outer H s E e s'
structure FnOk(P:xx)(w:qq)(K:Frag)(mg:Str->Option zt)(base:qa)(CX:CXT)(k:Nat)(f:zo)(fd:xl)(ps:List Str)(sp:Sp):Prop where
 len:∀vs H Q E,sp vs H Q E->vs.length=ps.length
 run:∀(A:xg)(outer:List Env)(s:zi)(H:Hp)(args:Args)(us:List zt)(vs:List V)(Q:VK)(E:XK),Room k A->Env0 P w K mg base A outer s H->BindsTo s fd args (ps.zip us)->aq vs us->sp vs H Q E ->
  codeAny (model P w) A (.call (.ref f) args) (CR CX outer P w H s Q E) s
theorem Env0.make{P:xx}{w:qq}{K:Frag}{mg:Str->Option zt}{base:qa}{A:xg}{outer:List Env}{s:zi}{H:Hp}(e:Env0 P w K mg base A outer s H)(C:zo)(us:List zt)(a:List<|Str×zt):
  Env0 P w K mg base (A.under<|.builtin "type.__call__" ⟨.ref C::us,a⟩) outer s H:=⟨by first|exact e.frames|(simpa [Around.under,Code.envs,Code.isFrame,pushEnvs]using e.frames),e.mod,e.bs,e.bsz,e.funs,e.frf,e.hok,e.bare⟩
theorem Env0.in1{P:xx}{w:qq}{K:Frag}{mg:Str->Option zt}{base:qa}{A:xg}{outer:List Env}{s:zi}{H:Hp}(e:Env0 P w K mg base A outer s H):
  Env0 P w K mg base A.in1 outer s H:=⟨e.frames,e.mod,e.bs,e.bsz,e.funs,e.frf,e.hok,e.bare⟩
section
variable{X:Cx}{pins:List (zo×Obj)}{σ:St}{H:Hp}{s s':zi}
theorem Inv.env0(I:Inv X pins σ H s):Env0 X.prog X.w X.K X.mg X.base X.A X.stack s H :=
 ⟨I.ok.frames,I.ok.mod,I.bs,le_trans I.ok.bsz I.sz,I.stack,I.stkFree,I.hok,I.bare⟩
theorem Inv.after{Q:VK}{u:zt}(a:Inv X pins σ H s)(e:CE X.stack X.prog X.w H s Q u s'):EP X pins σ Q u s':=by
 obtain⟨v,H',os,c,un,h,r,q⟩:=e;obtain⟨f,g,d,t,i⟩:=s';obtain rfl:i=s.os:=os;exact⟨v,H',a.call (h':=f) (g':=g) (d':=d) (t':=t) (ch:=[]) un h c λb j=>absurd j (by simp),r,q⟩
end
def uv(sp:Sp)(dvs:List V)(E:XK)(t:TA):TE:=λσ H Q=>t σ H λvs H1=>sp (vs++dvs) H1 Q E
def zn(C:zo)(m:Str)(sp:Sp)(dvs:List V)(E:XK)(b:TE)(t:TA):TE:=λσ H Q=>b σ H λx H1=>∃a dx fs,x=.ref a/\H1 a=some (.ins C dx fs)/\fs.lookup m=none /\
 t σ H1 λvs H2=>sp (x::(vs++dvs)) H2 Q E
def BQ(C:zo)(sp:Sp)(dvs:List V)(E:XK)(t:TA):TE:=λσ H Q=>t σ H λvs H1=>∀x dx,H1 x=none->H1 dx=none->dx≠x ->
 sp (.ref x::(vs++dvs)) (upd (upd H1 dx<|.own x) x<|.ins C dx []) (λv H2=>v=.non/\Q (.ref x) H2) E
def aE(K:Frag)(b:xl)(ps:List Str)(a:List zt):Prop :=
 ∀(s:zi)(us:List zt),K.In s.heap->(us++a).length=ps.length->BindsTo s b ⟨us,[]⟩ (ps.zip<|us++a)
theorem aE.all{K:Frag}{a:xl}{ps:List Str}(c:∀us:List zt,us.length=ps.length->bindArgs a ⟨us,[]⟩=pure (ps.zip us)):aE K a ps []:=λs us _ b=>by
 rw[append_nil]at b|-;exact .of_eq<|c us b
def de(CX:CXT)(X:Cx)(E:XK):Prop:=∀(pins:List<|zo×Obj)(σ:St)(H:Hp)(s:zi)(e:zt)(s':zi),Inv X pins σ H s->CX X.stack H s E e s'->X.xe e s'
section
variable{X:Cx}{CX:CXT}{k:Nat}{f C:zo}{fd:xl}{ps:List Str}{sp:Sp}{dvs:List V}{ds:List zt}{E:XK}{x m:Str}{p pos apos:Pos}{e o:Expr}{es:List Expr}{ta:TE}{t:TA}
theorem mf{d:List (zo×Obj)}{g:St}{b:Hp}{s:zi}{Q:VK}{us:List zt}{vs:List V}(F:FnOk X.prog X.w X.K X.mg X.base CX k f fd ps sp)(o:Room k X.A)(l:aE X.K fd ps ds)(m:aq dvs ds)(p:de CX X E)(c:Inv X d g b s)(r:aq vs us)(h:sp (vs++dvs) b Q E):wpAny (model X.prog X.w) X.A (call (.ref f) us) (EP X d g Q) X.xe s:=by
 have i:aq (vs++dvs) (us++ds):=r.append m;have n:(us++ds).length=ps.length:=by rw[<-i.length];exact F.len _ _ _ _ h
 refine wpAny_call<|codeAny_mono (F.run X.A X.stack s b ⟨us,[]⟩ (us++ds) (vs++dvs) Q E o c.env0 (l s us c.kIn n) i h) λr s' a=>?_;cases r with
 |error e=>exact p d g b s e s' c a
 |ok j =>
  cases j with
  |ret u=>exact c.after a
  |next=>exact False.elim a
  |brk=>exact False.elim a
  |cont=>exact False.elim a
theorem ax(F:FnOk X.prog X.w X.K X.mg X.base CX k f fd ps sp)(o:Room k X.A)(j:Gl X x)(m:X.mg x=some (.ref f))(l:keepIn X.K (.ref f)=true)(c:aE X.K fd ps ds)(d:aq dvs ds)(u:de CX X E)(b:PA X (e::es) t)(g:(x==("__debug__":Str))=false:=by decide)(i:starEach (e::es) X.env=(false,eval e X.env)::starEach es X.env:=by rfl)(n:(backTo pos<|starEach es X.env).any (·.1)=false:=by rfl):
  PE X (.Call (.Name x p) (e::es) [] pos) (uv sp dvs E t):=by
 intro pins s σ H Q I h;refine wpAny_Call_Name_kw<|gD I j m ?_ g;refine callWith_K (h₀:=X.base) I.ok.mod.kin l (thn (b pos pins s σ H _ I h) λus s1 ⟨vs,H1,a,r,q⟩=>⟨a.kIn,?_⟩) i n;exact mf F o c d u a r q
theorem qU{pl:Sem Bool}(v:PE X o ta)(c:Cls X.K C)(g:Meth X.K C m f)(F:FnOk X.prog X.w X.K X.mg X.base CX k f fd ps sp)(z:Room k X.A)(n:aE X.K fd ps ds)(p:aq dvs ds)(G:de CX X E)(j:PA X (e::es) t)(B:starEach (e::es) X.env=(false,eval e X.env)::starEach es X.env:=by rfl)(y:(backTo pos<|starEach es X.env).any (·.1)=false:=by rfl)(D:eval (.Call (.Attribute o m apos) (e::es) [] pos) X.env=(do
   let i <- eval o X.env
   standAt apos.atName
   let(f,first) <- holding [i] (getMethod i m pl)
   callWith pos f first (backTo pos<|starEach (e::es) X.env) (backToKw pos<|keywordEach [] X.env)):=by rfl):
  PE X (.Call (.Attribute o m apos) (e::es) [] pos) (zn C m sp dvs E ta t):=by
 intro pins s σ H Q I h;refine methodCall_KW (pl:=pl) (thn (v pins s σ H _ I h) λu s1 ⟨x,H1,b,L,a,dx,fs,ex,ea,l,q⟩=>?_) D;subst ex;obtain rfl:u=Value.ref a:=L;refine jt b ea c g l ?_;refine callWith_K (first:=[.ref a]) (h₀:=X.base) I.ok.mod.kin g.kp (thn (j pos pins s1 σ H1 _ b q) λus M ⟨vs,H2,d,r,J⟩=>⟨d.kIn,?_⟩) B y;exact mf (us:=.ref a::us) (vs:=.ref a::vs) F z n p G d (.cons rfl r) J
theorem gG{pl:Sem Bool}(j:PE X o ta)(c:Cls X.K C)(d:Meth X.K C m f)(F:FnOk X.prog X.w X.K X.mg X.base CX k f fd ps sp)(n:Room k X.A)(g:aE X.K fd ps ds)(i:aq dvs ds)(r:de CX X E)(p:eval (.Call (.Attribute o m apos) [] [] pos) X.env=(do
   let e <- eval o X.env
   standAt apos.atName
   let(f,first) <- holding [e] (getMethod e m pl)
   callWith pos f first (backTo pos<|starEach [] X.env) (backToKw pos<|keywordEach [] X.env)):=by rfl):
  PE X (.Call (.Attribute o m apos) [] [] pos) (zn C m sp dvs E ta nM):=by
 intro pins s σ H Q I h;refine methodCall_KW (pl:=pl) (thn (j pins s σ H _ I h) λu s1 ⟨x,H1,b,t,a,dx,fs,ex,ea,l,q⟩=>?_) p;subst ex;obtain rfl:u=Value.ref a:=t;refine jt b ea c d l ?_;exact PySem.W.callWith_K0 (first:=[.ref a]) b.kIn d.kp<|mf (us:=[.ref a]) (vs:=[.ref a]) F n g i r b (.cons rfl .nil) q
structure Mk(K:Frag)(C f:zo):Prop where
 makes:makesIn K C=true
 init:findIn K (.ref C) "__init__"=some (some<|.ref f)
 fn:isFn K (.ref f)=true
 kp:keepIn K (.ref C)=true
theorem uw{g:List (zo×Obj)}{h:St}{b:Hp}{s:zi}{Q:VK}{us:List zt}{vs:List V}(M:Mk X.K C f)(F:FnOk X.prog X.w X.K X.mg X.base CX k f fd ps sp)(y:Room (k+1) X.A)(p:aE X.K fd ps ds)(q:aq dvs ds)(z:de CX X E)(c:Inv X g h b s)(r:aq vs us)(o:∀x dx,b x=none->b dx=none->dx≠x->sp (.ref x::(vs++dvs)) (upd (upd b dx<|.own x) x<|.ins C dx []) (λv H2=>v=.non/\Q (.ref x) H2) E):
  wpAny (model X.prog X.w) X.A (call (.ref C) us) (EP X g h Q) X.xe s:=by
 have i:=o (s.heap.objs.size+1) s.heap.objs.size (c.hok.fresh<|le_succ _) (c.hok.fresh<|le_refl _)<|ne_of_lt (Nat.lt_succ_self _);have d:=Inv.made (C:=C) c;have j:aq (V.ref (s.heap.objs.size+1)::(vs++dvs)) (Value.ref (s.heap.objs.size+1)::(us++ds)):=.cons rfl<|r.append q;have t:(Value.ref (s.heap.objs.size+1)::us++ds).length=ps.length:=by
  have e:=j.length;rw[F.len _ _ _ _ i]at e;exact e.symm
 refine wpAny_call<|uu (f:=f) c.kIn M.makes M.init (beq_iff_eq.mp M.fn) (codeAny_mono (F.run _ X.stack _ _ ⟨Value.ref (s.heap.objs.size+1)::us,[]⟩ (Value.ref (s.heap.objs.size+1)::(us++ds)) _ _ E (y.make C us [])
  (d.env0.make C us []) (p _ (Value.ref (s.heap.objs.size+1)::us) d.kIn t) j i) λr s' a=>?_)
 cases r with
 |error e=>exact z g h _ _ e s' d a
 |ok n =>
  cases n with
  |ret u =>
   obtain⟨v,H',l,D,m,B⟩:=d.after a;subst m;exact⟨D,⟨V.ref<|s.heap.objs.size+1,H',l,rfl,B⟩⟩
  |next=>exact False.elim a
  |brk=>exact False.elim a
  |cont=>exact False.elim a
theorem xy(M:Mk X.K C f)(F:FnOk X.prog X.w X.K X.mg X.base CX k f fd ps sp)(n:Room (k+1) X.A)(j:Gl X x)(l:X.mg x=some (.ref C))(c:aE X.K fd ps ds)(d:aq dvs ds)(o:de CX X E)(b:PA X (e::es) t)(g:(x==("__debug__":Str))=false:=by decide)(i:starEach (e::es) X.env=(false,eval e X.env)::starEach es X.env:=by rfl)(m:(backTo pos<|starEach es X.env).any (·.1)=false:=by rfl):
  PE X (.Call (.Name x p) (e::es) [] pos) (BQ C sp dvs E t):=by
 intro pins s σ H Q I h;refine wpAny_Call_Name_kw<|gD I j l ?_ g;refine callWith_K (h₀:=X.base) I.ok.mod.kin M.kp (thn (b pos pins s σ H _ I h) λus s1 ⟨vs,H1,a,r,q⟩=>⟨a.kIn,?_⟩) i m;exact uw M F n c d o a r q
end
structure FnScope(N P:List Str)(sc:Scope):Prop where
 kind:sc.kind=.function
 co:sc.isCoroutine=false
 gen:sc.isGenerator=false
 nd:N.Nodup
 pre:N.take P.length=P
 par:∀x∈P,sc.names.lookup x=some .local\/sc.names.lookup x=some .cell
 nofree:∀y∈sc.names,y.2≠.free
theorem fsM{N P:List Str}{c:Scope}(a:c.kind=.function:=by rfl)(b:c.isCoroutine=false:=by rfl)(d:c.isGenerator=false:=by rfl)(e:N.Nodup:=by decide +kernel)(f:N.take P.length=P:=by rfl)(g:∀x∈P,c.names.lookup x=some .local\/c.names.lookup x=some .cell:=by decide +kernel)(h:∀y∈c.names,y.2≠.free:=by decide +kernel):FnScope N P c:=⟨a,b,d,e,f,g,h⟩
theorem lp{kindOf:Str->Option NameKind}{x:Str}:∀{a:List (Str×zt)}{m:Str->Option zt},(∀v,(x,v)∉a)->bindL kindOf a m x=m x
 |[],_,_=>rfl
 |(n,v)::r,m,h=>by
  unfold bindL;rw[lp λw b=>h w<|mem_cons_of_mem _ b]
  split
  ·have:x≠n:=by rintro rfl;exact h v mem_cons_self
   simp[this]
  ·rfl
theorem lr{kindOf:Str->Option NameKind}{x:Str}:∀{a:List (Str×zt)}{m:Str->Option zt},(∀v,(x,v)∉a)->bindC kindOf a m x=m x
 |[],_,_=>rfl
 |(n,v)::r,m,h=>by
  unfold bindC;rw[lr λw b=>h w<|mem_cons_of_mem _ b]
  split
  ·rfl
  ·have:x≠n:=by rintro rfl;exact h v mem_cons_self
   simp[this]
theorem lu{kindOf:Str->Option NameKind}{x:Str}{v:zt}:∀{P:List Str}{vs:List zt}{i:Nat}{m:Str->Option zt},P.Nodup->P[i]?=some x->vs[i]?=some v->kindOf x=some .local ->
  bindL kindOf (P.zip vs) m x=some v
 |[],_,_,_,_,h,_,_=>by simp at h
 |_::_,[],_,_,_,_,h,_=>by simp at h
 |p::P,w::vs,0,m,nd,h1,h2,hk=>by
  simp at h1 h2;subst h1;subst h2;show bindL kindOf ((p,w)::P.zip vs) m p=_;unfold bindL;rw[lp λv a=>(nodup_cons.mp nd).1 (of_mem_zip a).1,if_pos hk];simp
 |p::P,w::vs,i+1,m,nd,h1,h2,hk=>by
  show bindL kindOf ((p,w)::P.zip vs) m x=_;unfold bindL;exact lu (i:=i) (nodup_cons.mp nd).2 (by simpa using h1) (by simpa using h2) hk
theorem lw{kindOf:Str->Option NameKind}{x:Str}{v:zt}:∀{P:List Str}{vs:List zt}{i:Nat}{m:Str->Option zt},P.Nodup->P[i]?=some x->vs[i]?=some v->kindOf x≠some .local ->
  bindC kindOf (P.zip vs) m x=some v
 |[],_,_,_,_,h,_,_=>by simp at h
 |_::_,[],_,_,_,_,h,_=>by simp at h
 |p::P,w::vs,0,m,nd,h1,h2,hk=>by
  simp at h1 h2;subst h1;subst h2;show bindC kindOf ((p,w)::P.zip vs) m p=_;unfold bindC;rw[lr λv a=>(nodup_cons.mp nd).1 (of_mem_zip a).1,if_neg hk];simp
 |p::P,w::vs,i+1,m,nd,h1,h2,hk=>by
  show bindC kindOf ((p,w)::P.zip vs) m x=_;unfold bindC;exact lw (i:=i) (nodup_cons.mp nd).2 (by simpa using h1) (by simpa using h2) hk
def start(N:List Str)(vs:List V):St:=vs.map some++replicate (N.length-vs.length) none
def fO(CX:CXT)(P:xx)(w:qq)(K:Frag)(mg:Str->Option zt)(base:qa)(N:List Str)(qual:Str)(b:Scope)(f:zo)(a:zt)(A:xg)(outer:List Env)(s:zi)(c:Hp)(E:XK):Cx where
 prog:=P
 w:=w
 K:=K
 mg:=mg
 base:=base
 A:=A.deeper<|envOfC qual b s.heap.objs.size f a
 N:=N
 s₀:=s
 H₀:=c
 env:=envOfC qual b s.heap.objs.size f a
 outer:=outer
 stack:=envOfC qual b s.heap.objs.size f a::outer
 ex:=[]
 calm:=true
 fn:=λ_=>true
 pn:=[]
 xe:=λe s'=>wpAny (model P w) (A.deeper<|envOfC qual b s.heap.objs.size f a) (leaving (envOfC qual b s.heap.objs.size f a) e) (λ_ d=>CX outer c s E e d) (λg d=>CX outer c s E g d) s'
theorem nN{a:Scope}{n:Nat}{x:Str}(b:a.names.lookup x=some .cell):∃c,(cellsFrom n a.names []).lookup x=some c:=by
 have q:=PySem.W.cellsFrom_some a.names n []<|.inl b;exact isSome_iff_exists.mp q
theorem sG{CX:CXT}{P:xx}{w:qq}{K:Frag}{mg:Str->Option zt}{base:qa}{N ps:List Str}{qual:Str}{g:Scope}{f:zo}{t:zt}{A:xg}{outer:List Env}{s s1:zi}{o:Hp}{E:XK}{us:List zt}{vs:List V}(S:FnScope N ps g)(G:A.handled=none)(d:Env0 P w K mg base A outer s o)(I:vs.length=ps.length)(r:aq vs us)(x:InCallC s s.heap.objs.size (bindL (envOfC qual g s.heap.objs.size f t).kindOf (ps.zip us) λ_=>none) (cellsFrom (s.heap.objs.size+1) g.names []) (bindC (envOfC qual g s.heap.objs.size f t).kindOf (ps.zip us) λ_=>none) s1):
  Inv (fO CX P w K mg base N qual g f t A outer s o E) [] (start N vs) o s1:=by
 have J:ps.length<=N.length:=by have:=congrArg length S.pre;rw[length_take]at this;omega
 obtain⟨h1,tk,rfl,B⟩:=x.done;have z:∀b:zo,b∉(fO CX P w K mg base N qual g f t A outer s o E).ex:=λb l=>absurd (show b∈([]:List zo)from l) (by simp);refine⟨⟨d.mod,S.kind,rfl,rfl,le_refl _,λy l c h1 h2=>?_,λy j=>?_,λy c _ h=>?_,λ_=>G,Around.frames_deeper d.frames,.inr ⟨rfl,rfl⟩,λb l=>absurd l<|z b,d.bs,d.bsz,λb _ _=>z b,λb l=>absurd l<|z b,d.funs,d.frf⟩,
  rfl,d.bare,Un.kept B,⟨_,x.toInCall.ns,λi y v h1 h2 h3=>?_⟩,λy c h=>⟨_,x.cell y c h⟩,d.hok.fresh<|le_refl _,λy c h=>?_,λp m=>absurd (show p∈([]:List<|zo×Obj)from m) (by simp),d.hok.kept B,?_⟩
 ·exact name_of_addr x.apart (PySem.mem_of_lookup h1)<|PySem.mem_of_lookup h2
 ·have j:g.names.lookup y=some .cell\/g.names.lookup y=some .free:=j;rcases j with j|j
  ·exact nN j
  ·exact absurd rfl<|S.nofree _ (PySem.mem_of_lookup j)
 ·exact le_of_lt<|x.above y c (PySem.mem_of_lookup h)
 ·have hi:i<vs.length:=by
   unfold start at h2
   by_cases hi:i<vs.length
   ·exact hi
   ·rw[getElem?_append_right (by simpa using hi)]at h2;rw[List.getElem?_replicate]at h2
    split at h2<;>cases h2
  have F:vs[i]?=some v:=by
   unfold start at h2;rw[getElem?_append_left (by simpa using hi),getElem?_map]at h2;cases e:vs[i]? with
   |none=>rw[e]at h2;cases h2
   |some a=>rw[e]at h2;cases h2;rfl
  obtain⟨u,C,H⟩:=r.get F;have m:ps[i]?=some y:=by
   rw[<-S.pre,List.getElem?_take_of_lt (by omega)];exact h1
  have D:ps.Nodup:=by rw[<-S.pre];exact S.nd.sublist<|take_sublist _ _
  refine⟨u,H,?_⟩;rcases S.par y (mem_of_getElem? m)with k|k
  ·exact .inl ⟨k,lu D m C k⟩
  ·obtain⟨c,e⟩:=nN (n:=s.heap.objs.size+1) k;refine .inr ⟨.inl k,c,e,?_⟩;have q:=x.cell y c e;rw[lw D m C (by show g.names.lookup y≠_;rw[k];decide)]at q;exact q
 ·exact d.hok.fresh<|le_of_lt (x.above y c<|PySem.mem_of_lookup h)
 ·unfold start;show _=N.length;rw[length_append,length_map,length_replicate];omega
theorem ux{CX:CXT}{P:xx}{w:qq}{K:Frag}{mg:Str->Option zt}{base:qa}{k:Nat}{f:zo}{name qual:Str}{G:Arguments}{i:List Stmt}{a:Scope}{z kV B J cdv ct oc:zt}{p a3:Option zo}{a4:Array (Option zt)}{N ps:List Str}{sp:Sp}(a2:K.lookup f=some ⟨oc,a3,.func<|fnOf name qual G i a z kV B J p cdv ct,a4⟩)(R:codeIn K cdv qual=true)(S:FnScope N ps a)(F:∀vs H Q E,sp vs H Q E->vs.length=ps.length)(O:∀(A:xg) (outer:List Env) (s:zi) (H:Hp) (vs:List V) (Q:VK) (E:XK),Room k (A.deeper<|envOfC qual a s.heap.objs.size f cdv)->sp vs H Q E ->
   ∃t,PSs (fO CX P w K mg base N qual a f cdv A outer s H E) i t/\t {nx:=λ_ H'=>Q .non H',rt:=Q} (start N vs) H):
  FnOk P w K mg base CX (k+1) f (fnOf name qual G i a z kV B J p cdv ct) ps sp:=by
 refine⟨F,λA outer s H a5 us vs Q E j g M r D=>?_⟩;have X:=F _ _ _ _ D;have m:K.In s.heap:=g.mod.kin.keeps λb o e=>(g.bs b o e).1;have a1:s.heap.NoLimit:=g.mod.nolimit.keeps λb o e=>(g.bs b o e).1;have U:∀y∈ps.zip us,a.names.lookup y.1=some .local\/(a.names.lookup y.1=some .cell/\((cellsFrom (s.heap.objs.size+1) a.names []).lookup y.1).isSome=true):=λ⟨n,v⟩ a0=>by
  rcases S.par n (of_mem_zip a0).1 with q|q
  ·exact .inl q
  ·exact .inr ⟨q,PySem.W.cellsFrom_some _ _ _<|.inl q⟩
 refine codeAny_call_function j.depth (m _ _ a2) rfl S.co S.gen rfl (PySem.W.codeRec_of m R)<|M _ _ _ _ ?_;refine wpAny_newFunctionEnv_cells S.kind U λa6 T s1 x=>?_;subst T;refine⟨a1.keeps x.toInCall.keep,codeAny_func ?_⟩;obtain⟨t,Z,Y⟩:=O A outer s H vs Q E (j.deeper _) D;have I:Inv (fO CX P w K mg base N qual a f cdv A outer s H E) [] (start N vs) H s1:=sG S j.hd g X r x;refine wpAny_mono (Z [] s1 (start N vs) H _ I Y) (λL s' d=>?_) λe s' d=>d;have C:∀{h:St}{H':Hp}{v:V}{u:zt},Inv (fO CX P w K mg base N qual a f cdv A outer s H E) [] h H' s'->aw v u->Q v H'->CE outer P w H s Q u s' :=
  λ{h H' v u} c l q=>⟨v,H',c.os,c.bare,c.base,c.hok,l,q⟩
 cases L with
 |ret u =>
  obtain⟨v,h,H',c,l,q⟩:=d;exact C c l q
 |next =>
  obtain⟨h,H',c,q⟩:=d;exact C (v:=V.non) (u:=Value.none) c rfl q
 |brk =>
  obtain⟨_,_,_,q⟩:=d;exact False.elim q
 |cont =>
  obtain⟨_,_,_,q⟩:=d;exact False.elim q
section
variable{X:Cx}{x:Str}{p pos:Pos}{e:Expr}{es:List Expr}{t:TA}{id T:String}{r:List V->Hp->VK->Prop}
def tCB(r:List V->Hp->VK->Prop)(t:TA):TE:=λσ H Q=>t σ H λvs H1=>r vs H1 Q
theorem aF(c:bu X (.builtin id) r)(g:Gl X x)(i:X.mg x=none)(l:bootBuiltins x=some (.builtin id))(b:PA X (e::es) t)(j:x≠"__name__":=by decide)(d:(x==("__debug__":Str))=false:=by decide)(f:starEach (e::es) X.env=(false,eval e X.env)::starEach es X.env:=by rfl)(k:(backTo pos<|starEach es X.env).any (·.1)=false:=by rfl):PE X (.Call (.Name x p) (e::es) [] pos) (tCB r t):=by
 intro pins s σ H Q I h;refine wpAny_Call_Name_kw<|eW I g i l ?_ j d;exact PyProof.Rows.callWith_builtin1 (thn (b pos pins s σ H _ I h) λus s1 ⟨vs,H1,a,n,m⟩=>c pins s1 σ H1 vs us Q a n m) f k
theorem aS(c:bu X (.type T) r)(g:Gl X x)(i:X.mg x=none)(l:bootBuiltins x=some (.type T))(b:PA X (e::es) t)(j:x≠"__name__":=by decide)(d:(x==("__debug__":Str))=false:=by decide)(f:starEach (e::es) X.env=(false,eval e X.env)::starEach es X.env:=by rfl)(k:(backTo pos<|starEach es X.env).any (·.1)=false:=by rfl):PE X (.Call (.Name x p) (e::es) [] pos) (tCB r t):=by
 intro pins s σ H Q I h;refine wpAny_Call_Name_kw<|eW I g i l ?_ j d;exact PyProof.Rows.callWith_type1 (thn (b pos pins s σ H _ I h) λus s1 ⟨vs,H1,a,n,m⟩=>c pins s1 σ H1 vs us Q a n m) f k
end
end L2
namespace HT
open PySem PyProof.Rows
section
open PySem.SeqAt
open PySem.AutoSeq1 (wpAny_loadPart')
open PySem.MeetsSeq PySem.MeetsSeq2 PySem.MeetsSeq3
end
section
variable{prog:xx}{w:qq}{A:xg}{E:zt->zi->Prop}{s:zi}
theorem xz{t b:zo}{vs a:List zt}{Q:zt->zi->Prop}(u:IsTup s.heap t vs.toArray)(r:IsTup s.heap b a.toArray)(l:vs≠[])(q:a=[]->Q (.ref t) s)(h2:a≠[]->Q (.ref s.heap.objs.size) {s with heap:=s.heap.push {cls:=.type "tuple",data:=.seq (vs++a).toArray}})(hsz:vs.length+a.length<=sizeLine):wpAny (model prog w) A (binaryOp .Add (.ref t)<|.ref b) Q E s:=by
 obtain⟨⟨cls,dd,data,o⟩,c,h,n,j⟩:=id u;obtain⟨⟨v,g,data2,p⟩,d,i,m,k⟩:=id r;simp only at h j i k;subst h j i k;have e:vs.toArray++a.toArray=(vs++a).toArray:=by simp
 by_cases f:a=[]
 ·exact concat_meets ⟨_,c,rfl⟩ ⟨_,d,rfl⟩ noFill_tuple_add seq_tuple_add PySem.F.slot_tuple_add PySem.F.entry_tuple_add (PySem.F.args_tuple_add_2 _ _)
   (tuple_addW1 t b vs.toArray a.toArray n m dd g o p (by simpa using l) (by simp[f])) ⟨c,d,q f⟩
 ·refine concat_meets ⟨_,c,rfl⟩ ⟨_,d,rfl⟩ noFill_tuple_add seq_tuple_add PySem.F.slot_tuple_add PySem.F.entry_tuple_add (PySem.F.args_tuple_add_2 _ _)
   (tuple_addW2 t b vs.toArray a.toArray n m dd g o p (by simpa using l) (by simpa using f) (by rw[size_toArray,size_toArray];exact hsz)) ⟨c,d,?_⟩
  rw[e];exact h2 f
def sIx(n d:Nat):Option Int->Nat
 |none=>d
 |some v=>if v<0 then (v+(n:Int)).toNat else min v.toNat n
theorem ju(n d:Nat):sIx n d none=d:=rfl
theorem jh(n d k:Nat):sIx n d (some (k:Int))=min k n:=by
 show(if (k:Int)<0 then ((k:Int)+(n:Int)).toNat else min (k:Int).toNat n)=min k n
 rw[if_neg (by omega),toNat_natCast]
theorem zR(n d:Nat)(b:d<=n)(o:Option Int):sIx n d o<=n:=by
 cases o with
 |none=>exact b
 |some v =>
  show(if v<0 then (v+(n:Int)).toNat else min v.toNat n)<=n
  by_cases a:v<0
  ·rw[if_pos a];omega
  ·rw[if_neg a];exact Nat.min_le_right _ _
theorem qV(v:Int)(n d:Nat):(if v<0 then max (v+(n:Int)) 0 else min v (n:Int))=((sIx n d (some v):Nat):Int):=by
 show(if v<0 then max (v+(n:Int)) 0 else min v (n:Int))=(((if v<0 then (v+(n:Int)).toNat else min v.toNat n):Nat):Int)
 by_cases a:v<0
 ·simp only[if_pos a];omega
 ·simp only[if_neg a];omega
theorem pO(lo a:Option Int)(n:Nat):Builtin.Slice.sliceAdjust lo a 1 (n:Int)=(((sIx n 0 lo:Nat):Int),((sIx n n a:Nat):Int)):=by
 have h1:¬((1:Int)<0):=by omega
 unfold Builtin.Slice.sliceAdjust;simp only[h1,if_false];refine Prod.ext ?_ ?_
 ·cases lo with
  |none=>rfl
  |some v=>exact qV v n 0
 ·cases a with
  |none=>rfl
  |some v=>exact qV v n n
theorem pP(i j:Nat):Builtin.Slice.slicePlaces (i:Int) (j:Int) 1=j-i:=by
 unfold Builtin.Slice.slicePlaces;have h1:(1:Int)>0:=by omega
 simp only[h1,if_true,Int.ediv_one]
 split<;>omega
theorem jv{v:zt}{o:Option Int}{Q:Option Int->zi->Prop}(p:IsPart v o)(h:Q o s):wpAny (model prog w) A (Builtin.Slice.slicePartIndex v) Q E s:=by
 cases p with
 |none=>exact slicePart_none h
 |int i t=>exact slicePart_int h
theorem dI{f:zo}{d e:zt}{lo a:Option Int}{n:Nat}{Q:Int×Int×Nat->zi->Prop}(h:s.heap.IsSliceOf f d e .none)(pl:IsPart d lo)(i:IsPart e a)(g:Q (((sIx n 0 lo:Nat):Int),1,sIx n n a-sIx n 0 lo) s):wpAny (model prog w) A (Builtin.Slice.sliceApplied (.ref f)<|pure (n:Int)) Q E s:=by
 obtain⟨os,c,j,b⟩:=id h;unfold Builtin.Slice.sliceApplied Builtin.Slice.sliceFields;refine Wb<|Wb (wpAny_field c b (x:=d) rfl<|Wb (wpAny_field c b (x:=e) rfl<|Wb (wpAny_field c b (x:=.none) rfl<|Wp ?_)));refine Wb<|slicePart_none ?_;show wpAny _ _ (if ((1:Int)==0)=true then _ else _) _ _ s
 rw[if_neg (by decide)];refine Wb<|jv pl (Wb<|jv i (Wb<|Wp ?_));show wpAny _ _ (match Builtin.Slice.sliceAdjust lo a 1 (n:Int)with|(lo,a)=>pure (lo,(1:Int),Builtin.Slice.slicePlaces lo a 1)) _ _ s
 rw[pO lo a n];show wpAny _ _ (pure (((sIx n 0 lo:Nat):Int),(1:Int),Builtin.Slice.slicePlaces ((sIx n 0 lo:Nat):Int) ((sIx n n a:Nat):Int) 1)) _ _ s;rw[pP];exact Wp g
theorem uy(xs:Array zt)(i k:Nat):((List.range k).filterMap λ(m:Nat)=>xs[((i:Int)+(m:Int)*1).toNat]?).toArray=((xs.toList.drop i).take k).toArray:=by
 have e:(λ(m:Nat)=>xs[((i:Int)+(m:Int)*1).toNat]?)=λm=>xs[i+m]?:=by
  funext m
  have:((i:Int)+(m:Int)*1).toNat=i+m:=by omega
  rw[this]
 rw[e];have:=pick_run xs i k;rw[List.filterMap_map]at this;have a:((λx=>xs[x]?)∘λx=>i+x)=λm=>xs[i+m]?:=rfl;rw[a]at this;rw[this]
theorem gH{t e:zo}{items:Array zt}{g h:zt}{lo a:Option Int}{Q:zt->zi->Prop}(c:IsTup s.heap t items)(f:s.heap.IsSliceOf e g h .none)(pl:IsPart g lo)(o:IsPart h a)(n:¬(sIx items.size 0 lo=0/\sIx items.size items.size a=items.size))(b:Q (.ref s.heap.objs.size) {s with heap:=s.heap.push {cls:=.type "tuple",data:=.seq ((items.toList.drop<|sIx items.size 0 lo).take (sIx items.size items.size a-sIx items.size 0 lo)).toArray}})(hsz:items.size<=sizeLine):wpAny (model prog w) A (getItem (.ref t)<|.ref e) Q E s:=by
 have d:sizeOk (.seq ((items.toList.drop<|sIx items.size 0 lo).take (sIx items.size items.size a-sIx items.size 0 lo)).toArray):=by
  show((items.toList.drop<|sIx items.size 0 lo).take (sIx items.size items.size a-sIx items.size 0 lo)).toArray.size<=sizeLine;rw[size_toArray,length_take,length_drop,length_toList];omega
 have r:sIx items.size items.size a<=items.size:=zR _ _ (le_refl _) a;obtain⟨os,l,j,p⟩:=id f;have i:s.TypeIs (.ref e) "slice":=⟨os,l,j⟩;unfold getItem
 try with_reducible refine wpAny_holding ?_
 first|refine Wb (Wp ?_)|skip
 refine Wb<|wpAny_sequenceKey c.typeIs (by decide) ?_;refine Wb (wpAny_callSpecial?_slot (name:=ofString "__getitem__") c.typeIs PyProof.Rows.slot_tuple_getitem
  (wpAny_call_entry PyProof.Rows.slot_tuple_getitem c.typeIs entry_tuple_getitem ?_<|args_tuple_getitem _ _))
 show wpAny _ _ (Builtin.Tuple.tupleItemsOf (.ref t) >>= _) _ _ s;refine Wb<|tupleItemsOf_ c ?_;refine Wb<|wpAny_typeOf i ?_;rw[if_pos (by decide)];refine Wb<|dI f pl o ?_;have k:¬((((sIx items.size 0 lo:Nat):Int)==0&&(1:Int)==1&&(sIx items.size items.size a-sIx items.size 0 lo)==items.size)=true):=by
  intro q;rw[and_eq_true,and_eq_true]at q;have u:((sIx items.size 0 lo:Nat):Int)=0:=eq_of_beq q.1.1;have v:sIx items.size items.size a-sIx items.size 0 lo=items.size:=eq_of_beq q.2;exact n ⟨by omega,by omega⟩
 show wpAny _ _ (if (((sIx items.size 0 lo:Nat):Int)==0&&(1:Int)==1&&(sIx items.size items.size a-sIx items.size 0 lo)==items.size)=true then _ else _) _ _ s
 rw[if_neg k,uy]
 first
  |exact Wb (m:=Builtin.Tuple.tupleExact _)<|wpAny_newObj_type (Wp ⟨_,rfl,Wp b⟩) d
  |exact Wb (m:=Builtin.Tuple.tupleExact _)<|wpAny_newObj_type (Wb<|Wp (Wp ⟨_,rfl,Wp b⟩)) d
  |exact Wb<|Wb (m:=Builtin.Tuple.tupleExact _) (wpAny_newObj_type (Wp<|Wp ⟨_,rfl,Wp b⟩) d)
  |exact Wb<|Wb (m:=Builtin.Tuple.tupleExact _) (wpAny_newObj_type (Wp ⟨_,rfl,Wp b⟩) d)
end
end HT
namespace L2
open PySem PySem.Spec PyProof.Rows
abbrev TO:=St->Hp->(Option Int->Hp->Prop)->Prop
def PO(X:Cx)(e:Option Expr)(t:TO):Prop :=
 ∀(pins:List<|zo×Obj)(s:zi)(σ:St)(H:Hp)(Q:Option Int->Hp->Prop),Inv X pins σ H s->t σ H Q ->
  wpAny (model X.prog X.w) X.A (evalPart e X.env) (λu s'=>∃o H',Inv X pins σ H' s'/\IsPart u o/\Q o H') X.xe s
def xA:TO:=λ_ H Q=>Q none H
def BR(t:TE):TO:=λσ H Q=>t σ H λx H1=>∃i,x=.int i/\Q (some i) H1
theorem pQ{ns:List Int}:∀{us:List zt},aq (ns.map V.int) us->IntsAre us ns:=by
 induction ns with
 |nil=>intro us r;rw[map_nil]at r;cases r;exact .nil
 |cons n ns a =>
  intro us r;rw[map_cons]at r;cases r with
  |cons b c =>
   obtain⟨t,e⟩:=b;subst e;exact .cons n t<|a c
section
variable{X:Cx}{e:Expr}{te:TE}{lo hi:Option Expr}{tl th:TO}{pos p2:Pos}
theorem ji:PO X none xA:=by
 intro pins s σ H Q I h;rw[evalPart_none];exact Wp ⟨none,H,I,.none,h⟩
theorem fz(b:PE X e te):PO X (some e) (BR te):=by
 intro pins s σ H Q I d;rw[evalPart_some];refine thn (b pins s σ H _ I d) λu s1 c=>?_;obtain⟨x,H1,a,g,f⟩:=c;obtain⟨i,rfl,q⟩:=f;obtain⟨t,rfl⟩:=g;exact⟨some i,H1,a,.int i t,q⟩
def SlR(X:Cx)(r:V->Option Int->Option Int->Hp->VK->Prop):Prop :=
 ∀(pins:List<|zo×Obj)(s:zi)(σ:St)(H:Hp)(x:V)(v b c:zt)(lo hi:Option Int)(a:zo)(Q:VK),Inv X pins σ H s->aw x v->s.heap.IsSliceOf a b c .none->IsPart b lo->IsPart c hi->r x lo hi H Q ->
  ∃T id,typeLookup (.type T) "__getitem__"=pure (some<|.builtin id)/\s.TypeIs v T/\wpAny (model X.prog X.w) X.A (getItem v<|.ref a) (EP X pins σ Q) X.xe s
theorem SlR.or{r c:V->Option Int->Option Int->Hp->VK->Prop}(h:SlR X r)(h':SlR X c):SlR X (λx lo hi H Q=>r x lo hi H Q\/c x lo hi H Q):=by
 intro pins s σ H x v f g lo hi e Q I d a pl b q;rcases q with q|q
 ·exact h pins s σ H x v f g lo hi e Q I d a pl b q
 ·exact h' pins s σ H x v f g lo hi e Q I d a pl b q
def tSl(r:V->Option Int->Option Int->Hp->VK->Prop)(b:TE)(d c:TO):TE:=λσ H Q=>b σ H λx H1=>d σ H1 λl H2=>c σ H2 λu a=>r x l u a Q
theorem eY{r:V->Option Int->Option Int->Hp->VK->Prop}(y:SlR X r)(o:PE X e te)(t:PO X lo tl)(B:PO X hi th):PE X (.Subscript e (.Slice lo hi none p2) pos) (tSl r te tl th):=by
 intro pins s σ H Q I h;refine Subscript_<|thn (o pins s σ H _ I h) λv s1 f=>?_;obtain⟨x,H1,i,G,D⟩:=f;refine wpAny_Slice<|thn (t pins s1 σ H1 _ i D) λc J ⟨l,H2,j,pl,E⟩=>thn (B pins J σ H2 _ j E) λd a f=>?_;obtain⟨u,g,k,C,F⟩:=f;rw[evalPart_none];refine Wp ?_;have m:Inv X pins σ g {a with heap:=a.heap.push {cls:=.type "slice",data:=.fields #[c,d,.none]}}:=k.kept (t':=a.toks) λb K q=>get?_push_of_some _ q
 obtain⟨T,id,n,z,p⟩:=y pins {a with heap:=a.heap.push {cls:=.type "slice",data:=.fields #[c,d,.none]}} σ g x v c d l u a.heap.objs.size Q m G (Heap.IsSliceOf.new ..) pl C F
 show wpAny (model X.prog X.w) X.A (subscriptTail e (.Slice lo hi none p2) v<|.ref a.heap.objs.size) (EP X pins σ Q) X.xe {a with heap:=a.heap.push {cls:=.type "slice",data:=.fields #[c,d,.none]}}
 exact tail_any (ops:=[.ref a.heap.objs.size,v]) z n p (by with_unfolding_all rfl)
def fQ(xs:List V)(lo a:Option Int):List V:=(xs.drop<|HT.sIx xs.length 0 lo).take (HT.sIx xs.length xs.length a-HT.sIx xs.length 0 lo)
theorem iO(xs:List V)(lo a:Option Int):(fQ xs lo a).length<=xs.length:=by
 unfold fQ;rw[length_take,length_drop];omega
def uz(K:Frag):V->Option Int->Option Int->Hp->VK->Prop:=λx lo hi H Q=>∃a xs,x=.ref a/\SqT K H a xs /\
 ¬(HT.sIx xs.length 0 lo=0/\HT.sIx xs.length xs.length hi=xs.length)/\∀p,H p=none->Q (.ref p) (upd H p<|.tup (fQ xs lo hi))
theorem mh:SlR X (uz X.K):=by
 intro pins s σ H x v p t lo hi n Q I l f pl k h;obtain⟨a,xs,rfl,i,g,q⟩:=h;cases l;obtain⟨j,r,d,e⟩:=I.tuple i;have c:j.toArray.size=xs.length:=by rw[size_toArray];exact r.length.symm
 refine⟨"tuple",_,PyProof.Rows.slot_tuple_getitem.lookup,d.typeIs,?_⟩;refine HT.gH d f pl k (by rw[c];exact g) ?_ (by rw[c];exact e);rw[c];refine⟨.ref s.heap.objs.size,_,I.laid (t':=s.toks) (o:=.tup<|fQ xs lo hi) (λb m q=>get?_push_of_some _ q) (le_refl _) ?_,rfl,q _<|I.hok.fresh (le_refl _)⟩;exact⟨le_trans (iO xs lo hi) e,_,(r.drop<|HT.sIx xs.length 0 lo).take (HT.sIx xs.length xs.length hi-HT.sIx xs.length 0 lo),IsTup.new _ _⟩
def zp(K:Frag):R2:=λx y H Q=>∃a b xs ys,x=.ref a/\y=.ref b/\SqT K H a xs/\SqT K H b ys/\xs≠[]/\xs.length+ys.length<=sizeLine /\
 (ys=[]->Q (.ref a) H)/\(ys≠[]->∀p,H p=none->Q (.ref p) (upd H p<|.tup (xs++ys)))
theorem aq.nil_iff{xs:List V}{us:List zt}(r:aq xs us):us=[]↔xs=[]:=by
 cases r with
 |nil=>simp
 |cons _ _=>simp
theorem xB:OpR X (binaryOp .Add) (zp X.K):=by
 intro pins s σ H x y v u Q I n p h;obtain⟨a,b,xs,ys,rfl,rfl,g,i,j,f,l,m⟩:=h;cases n;cases p;obtain⟨r,e,k,_⟩:=I.tuple g;obtain⟨t,d,p2,_⟩:=I.tuple i;refine HT.xz k p2 (λc=>j<|e.nil_iff.mp c) (λc=>⟨.ref a,H,I,rfl,l<|d.nil_iff.mp c⟩) (λc=>?_) (by rw[<-e.length,<-d.length];exact f);refine⟨.ref s.heap.objs.size,_,I.laid (t':=s.toks) (o:=.tup<|xs++ys) (λb z q=>get?_push_of_some _ q) (le_refl _) ?_,rfl,m (λw=>c<|d.nil_iff.mpr w) _<|I.hok.fresh (le_refl _)⟩;exact⟨by rw[length_append];exact f,_,e.append d,IsTup.new _ _⟩
end
def ixN(n:Nat)(i:Int):Option Nat:=if 0<=i then (if i<n then some i.toNat else none)else if -(n:Int)<=i then some (i+n).toNat else none
def atI{α:Type}(xs:List α)(i:Int):Option α:=(ixN xs.length i).bind λj=>xs[j]?
theorem qW{n:Nat}{i:Int}{j:Nat}(a:ixN n i=some j):seqIndex? i n=some j/\j<n/\-(n:Int)<=i/\i<n:=by
 unfold ixN at a
 by_cases b:0<=i
 ·rw[if_pos b]at a
  by_cases h1:i<n
  ·rw[if_pos h1]at a;have e:i.toNat=j:=Option.some.inj a;exact⟨by rw[seqIndex_of b h1,e],by omega,by omega,h1⟩
  ·rw[if_neg h1]at a;cases a
 ·rw[if_neg b]at a
  by_cases h1:-(n:Int)<=i
  ·rw[if_pos h1]at a;have e:(i+n).toNat=j:=Option.some.inj a;exact⟨by rw[seqIndex_neg (by omega) h1,e],by omega,h1,by omega⟩
  ·rw[if_neg h1]at a;cases a
theorem qX{b:Type}{xs:List b}{i:Int}{v:b}(a:atI xs i=some v):∃j,seqIndex? i xs.length=some j/\xs[j]?=some v/\j<xs.length/\-(xs.length:Int)<=i/\i<xs.length:=by
 unfold atI at a;cases e:ixN xs.length i with
 |none=>rw[e]at a;cases a
 |some j =>
  rw[e]at a;obtain⟨h1,h2,h3,c⟩:=qW e;exact⟨j,h1,a,h2,h3,c⟩
theorem ml{b:Type}{xs:List b}{j:Nat}{v:b}(a:xs[j]?=some v):atI xs (j:Int)=some v:=by
 have c:j<xs.length:=(List.getElem?_eq_some_iff.mp a).1;have e:ixN xs.length (j:Int)=some j:=by
  unfold ixN;rw[if_pos (by omega),if_pos (by omega)];simp
 unfold atI;rw[e];exact a
def qY(b:Expr):Prop:=∀o i,subscripted b false o i=operate [o,i] (getItem o i)
def IxR(X:Cx)(r:R2):Prop :=
 ∀(value a:Expr)(pins:List<|zo×Obj)(s:zi)(σ:St)(H:Hp)(x y:V)(v u:zt)(Q:VK),Inv X pins σ H s->aw x v->aw y u->r x y H Q ->
  subscripted a false v u=operate [v,u] (getItem v u)->wpAny (model X.prog X.w) X.A (subscriptTail value a v u) (EP X pins σ Q) X.xe s
def MtR(X:Cx)(id:String)(r:V->List V->Hp->VK->Prop):Prop :=
 ∀(pins:List<|zo×Obj)(s:zi)(σ:St)(H:Hp)(x:V)(xs:List V)(v:zt)(us:List zt)(Q:VK),Inv X pins σ H s->aw x v->aq xs us->r x xs H Q ->
  wpAny (model X.prog X.w) X.A (call (.builtin id) (v::us)) (EP X pins σ Q) X.xe s
section
variable{X:Cx}{a b:Expr}{ta tb:TE}{pos:Pos}
theorem bD{r:R2}(f:IxR X r)(d:PE X a ta)(e:PE X b tb)(g:qY b):PE X (.Subscript a b pos) (tOp r ta tb):=by
 intro pins s σ H Q I h;exact Subscript_<|zL d e I h λv u k x y H2 c i j q=>f a b pins k σ H2 x y v u Q c i j q<|g _ _
def Dq(K:Frag):R2:=λx y H Q=>∃p xs i v,x=.ref p/\y=.int i/\SqL K H p xs/\atI xs i=some v/\Q v H
def iY(K:Frag):R2:=λx y H Q=>∃p xs i v,x=.ref p/\y=.int i/\SqT K H p xs/\atI xs i=some v/\Q v H
theorem gI:IxR X (Dq X.K):=by
 intro value E pins s σ H x y v u Q I z A h e;obtain⟨p,xs,i,B,rfl,rfl,m,k,q⟩:=h;cases z;obtain⟨t,rfl⟩:=A;obtain⟨n,r,pl,D⟩:=I.list m;obtain⟨j,h1,h2,h3,f,g⟩:=qX k;obtain⟨w,b,o⟩:=r.get h2;have l:=r.length;have C:=jr;have c:EP X pins σ Q w s:=⟨B,H,I,o,q⟩
 by_cases d:0<=i
 ·have a:i.toNat=j:=by
   rw[seqIndex_of d g]at h1;exact Option.some.inj h1
  exact item_listR pl.isList d (by omega) (by rw[a];simpa using b) c e
 ·have a:(i+(n.toArray.size:Int)).toNat=j:=by
   rw[seqIndex_neg (by omega) f]at h1;rw[size_toArray,<-l];exact Option.some.inj h1
  exact subscriptTail_builtinR (x:=w) pl.isList.typeIs slot_list_getitem.lookup
   (wpAny_getItem_list_neg (Q:=λr s'=>r=w/\EP X pins σ Q r s') pl.isList (by omega) (by rw[size_toArray]<;>omega) (by omega) (by rw[a];simpa using b) ⟨rfl,c⟩) e
theorem bv:IxR X (iY X.K):=by
 intro value C pins s σ H x y v u Q I k l h f;obtain⟨p,xs,i,m,rfl,rfl,e,c,q⟩:=h;cases k;obtain⟨t,rfl⟩:=l;obtain⟨B,r,pl,A⟩:=I.tuple e;obtain⟨j,h1,h2,h3,n,o⟩:=qX c;obtain⟨w,a,g⟩:=r.get h2;have d:=r.length;have z:=jr;have b:EP X pins σ Q w s:=⟨m,H,I,g,q⟩;exact subscriptTail_builtinR (x:=w) pl.typeIs slot_tuple_getitem.lookup
  (getItem_tuple (j:=j) (Q:=λr s'=>r=w/\EP X pins σ Q r s') pl (by omega) (by omega) (by rw[size_toArray,<-d];exact h1) (by simpa using a) ⟨rfl,b⟩) f
theorem mm(lo a:Option Int)(n:Nat):(sliceBounds lo a none n).1=((HT.sIx n 0 lo:Nat):Int)/\(sliceBounds lo a none n).2.1=((HT.sIx n n a:Nat):Int)/\(sliceBounds lo a none n).2.2=1:=by
 refine⟨?_,?_,rfl⟩
 ·cases lo with
  |none=>simp[sliceBounds,HT.sIx]
  |some i =>
   simp only[sliceBounds,HT.sIx,getD_none,show(1:Int)>0 by decide,if_true]
   by_cases h:i<0
   ·simp only[h,if_true]<;>omega
   ·simp only[h,if_false]<;>omega
 ·cases a with
  |none=>simp[sliceBounds,HT.sIx]
  |some i =>
   simp only[sliceBounds,HT.sIx,getD_none,show(1:Int)>0 by decide,if_true]
   by_cases h:i<0
   ·simp only[h,if_true]<;>omega
   ·simp only[h,if_false]<;>omega
theorem kM(a:List zt)(lo b:Option Int):slicePick a.toArray lo b none=((a.drop<|HT.sIx a.length 0 lo).take (HT.sIx a.length a.length b-HT.sIx a.length 0 lo)).toArray:=by
 obtain⟨h1,h2,h3⟩:=mm lo b a.toArray.size;unfold slicePick;rw[h1,h2,h3];simp only[sliceRange_one,pick_run,size_toArray]<;>rfl
def Dr(K:Frag):V->Option Int->Option Int->Hp->VK->Prop:=λx lo hi H Q=>∃a xs,x=.ref a/\SqL K H a xs/\∀p,H p=none->Q (.ref p) (upd H p<|.lst (fQ xs lo hi))
theorem xC:SlR X (Dr X.K):=by
 intro pins s σ H x v n p lo hi m Q I j e pl i h;obtain⟨a,xs,rfl,f,q⟩:=h;cases j;obtain⟨k,r,c,g⟩:=I.list f;have d:=r.length;refine⟨"list",_,slot_list_getitem.lookup,c.isList.typeIs,?_⟩;refine wpAny_getItem_list_slice c.isList e pl i .none (by simp) ?_ (by rw[size_toArray]<;>omega);rw[kM,<-d];refine⟨.ref s.heap.objs.size,_,I.laid (t':=s.toks) (o:=.lst<|fQ xs lo hi) (λb l q=>get?_push_of_some _ q) (le_refl _) ?_,rfl,q _<|I.hok.fresh (le_refl _)⟩;exact⟨le_trans (iO xs lo hi) g,_,0,(r.drop<|HT.sIx xs.length 0 lo).take (HT.sIx xs.length xs.length hi-HT.sIx xs.length 0 lo),get?_push_size _ rfl⟩
def dJ:V->Bool
 |.non=>true
 |.bl _=>true
 |.int _=>true
 |.str _=>true
 |_=>false
def eqV:V->V->Bool
 |.non,.non=>true
 |.bl a,.bl b=>a==b
 |.bl a,.int b=>(if a then 1 else 0)==b
 |.int a,.bl b=>a==(if b then 1 else 0)
 |.int a,.int b=>a==b
 |.str a,.str b=>a==b
 |_,_=>false
theorem gk{A:xg}{s:zi}{y x:V}{u v:zt}(f:aw y u)(c:aw x v)(g:dJ y=true)(e:dJ x=true):EqAt A s u v (eqV y x):=by
 cases y with
 |non =>
  cases f;cases x with
  |non=>cases c;exact EqAt.same _
  |bl b=>cases c;exact EqAt.none_bool b
  |int b=>obtain⟨t,rfl⟩:=c;exact EqAt.none_int b t
  |str b=>obtain⟨t,rfl⟩:=c;exact EqAt.none_str b t
  |_=>exact absurd (show false=true from e) Bool.false_ne_true
 |bl a =>
  cases f;cases x with
  |non=>cases c;exact EqAt.bool_none a
  |bl b=>cases c;exact EqAt.bool_bool a b
  |int b=>obtain⟨t,rfl⟩:=c;exact EqAt.bool_int a b t
  |str b=>obtain⟨t,rfl⟩:=c;exact EqAt.bool_str a b t
  |_=>exact absurd (show false=true from e) Bool.false_ne_true
 |int a =>
  obtain⟨d,rfl⟩:=f;cases x with
  |non=>cases c;exact EqAt.int_none a d
  |bl b=>cases c;exact EqAt.int_bool a d b
  |int b=>obtain⟨t,rfl⟩:=c;exact EqAt.int_int a d b t
  |str b=>obtain⟨t,rfl⟩:=c;exact EqAt.int_str a d b t
  |_=>exact absurd (show false=true from e) Bool.false_ne_true
 |str a =>
  obtain⟨d,rfl⟩:=f;cases x with
  |non=>cases c;exact EqAt.str_none a d
  |bl b=>cases c;exact EqAt.str_bool a d b
  |int b=>obtain⟨t,rfl⟩:=c;exact EqAt.str_int a d b t
  |str b=>obtain⟨t,rfl⟩:=c;exact EqAt.str_str a d b t
  |_=>exact absurd (show false=true from e) Bool.false_ne_true
 |_=>exact absurd (show false=true from g) Bool.false_ne_true
theorem aY:bu X (.builtin "len") (λxs H Q=>∃p ys,xs=[.ref p]/\(SqL X.K H p ys\/SqT X.K H p ys)/\Q (.int ys.length) H):=by
 intro pins s σ H xs us Q I r h;obtain⟨p,ys,rfl,a,q⟩:=h;obtain⟨u,rfl,f⟩:=bY r;cases f;have g:=jr;rcases a with a|a
 ·obtain⟨e,c,pl,d⟩:=I.list a;have b:=c.length;exact Calls.call_len_list pl.isList (by simp only[size_toArray]<;>omega) ⟨.int ys.length,H,I.tok _,⟨s.toks+1,by rw[size_toArray,b]⟩,q⟩
 ·obtain⟨e,c,pl,d⟩:=I.tuple a;have b:=c.length;exact len_tuple pl (by simp only[size_toArray]<;>omega) ⟨.int ys.length,H,I.tok _,⟨s.toks+1,by rw[size_toArray,b]⟩,q⟩
theorem mn:bu X (.builtin "len") (λxs H Q=>∃z,xs=[.str z]/\z.length<=sizeLine/\Q (.int z.length) H):=by
 intro pins s σ H xs us Q I r h;obtain⟨z,rfl,b,q⟩:=h;obtain⟨u,rfl,t,rfl⟩:=bY r;have a:=jr;exact len_str (by omega) ⟨.int z.length,H,I.tok _,⟨_,rfl⟩,q⟩
theorem mq:bu X (.type "list") (λxs H Q=>∃p ys,xs=[.ref p]/\(SqL X.K H p ys\/SqT X.K H p ys)/\∀l,H l=none->Q (.ref l) (upd H l<|.lst ys)):=by
 intro pins s σ H xs us Q I r h;obtain⟨p,ys,rfl,f,q⟩:=h;obtain⟨u,rfl,x⟩:=bY r;cases x;have t:∀(a:List zt),aq ys a->ys.length<=sizeLine->∀(h':qa)(c:Nat),(∀b o',s.heap.get? b=some o'->h'.get? b=some o') ->
   h'.get? s.heap.objs.size=some {cls:=.type "list",dict:=none,data:=.seq a.toArray c,slots:=#[]}->EP X pins σ Q (.ref s.heap.objs.size) {s with heap:=h'}:=λa d g h' c i e =>
  ⟨.ref s.heap.objs.size,_,I.laid (t':=s.toks) i (le_refl _) (show aU X.prog X.w _ h' _ (.lst ys)from⟨g,a,c,d,e⟩),rfl,q _<|I.hok.fresh (le_refl _)⟩
 rcases f with f|f
 ·obtain⟨a,d,pl,g⟩:=I.list f;have v:=d.length;obtain⟨o,m,j,n,k⟩:=pl.isList;exact call_list_seq p (.inl rfl) m j k (λh' c i e=>t a d g h' c i e) (by simp only[size_toArray]<;>omega)
 ·obtain⟨a,d,pl,g⟩:=I.tuple f;have v:=d.length;obtain⟨o,m,j,n,k⟩:=pl;exact call_list_seq p (.inr rfl) m j k (λh' c i e=>t a d g h' c i e) (by simp only[size_toArray]<;>omega)
theorem dC:bu X (.type "tuple") (λxs H Q=>∃p ys,xs=[.ref p]/\((SqL X.K H p ys/\∀l,H l=none->Q (.ref l) (upd H l<|.tup ys))\/(SqT X.K H p ys/\Q (.ref p) H))):=by
 intro pins s σ H xs us Q I r h;obtain⟨p,ys,rfl,h⟩:=h;obtain⟨u,rfl,k⟩:=bY r;cases k;rcases h with⟨a,q⟩|⟨a,q⟩
 ·obtain⟨c,d,pl,g⟩:=I.list a;have m:=d.length;refine call_tuple_list pl.isList (λh' j=>?_) (by simp only[size_toArray]<;>omega);have f:Inv X pins σ H {s with heap:=h'}:=I.kept (t':=s.toks) j
  have i:Inv X pins σ (upd H h'.objs.size<|.tup ys) {s with heap:=h'.push {cls:=.type "tuple",data:=.seq c.toArray}} :=
   f.laid (t':=s.toks) (λb o e=>get?_push_of_some _ e) (le_refl _) (show aU X.prog X.w _ _ _ (.tup ys)from⟨g,c,d,IsTup.new _ _⟩)
  exact⟨.ref h'.objs.size,_,i,rfl,q _<|f.hok.fresh (le_refl _)⟩
 ·obtain⟨c,d,pl,g⟩:=I.tuple a;exact call_tuple_same pl ⟨.ref p,H,I,rfl,q⟩
def tyV(K:Frag)(T:String)(x:V)(H:Hp):Prop:=match x with
 |.str _=>T="str"
 |.int _=>T="int"
 |.ref p=>(T="list"/\∃xs,SqL K H p xs)\/(T="tuple"/\∃o,K.lookup p=some o/\o.cls=.type "tuple"/\o.dict=none) \/
   (T="dict"/\((∃kvs,H p=some (.dK kvs))\/∃kvs,H p=some (.dT kvs)))\/(T="set"/\∃S n,H p=some (.set S n))
 |_=>False
theorem uA{q:List (zo×Obj)}{u:St}{k:Hp}{s:zi}{T:String}{x:V}{v:zt}(d:Inv X q u k s)(r:aw x v)(f:tyV X.K T x k):
  s.TypeIs v T/\∀a,v=.ref a->∃ob,s.heap.get? a=some ob/\ob.dict=none:=by
 cases x with
 |str j =>
  obtain⟨t,rfl⟩:=r;cases (show T="str" from f);exact⟨typeIs_str s j t,λ_ e=>nomatch e⟩
 |int i =>
  obtain⟨t,rfl⟩:=r;cases (show T="int" from f);exact⟨typeIs_int s i t,λ_ e=>nomatch e⟩
 |ref p =>
  cases r;rcases f with⟨rfl,xs,m⟩|⟨rfl,o,b,l,h⟩|⟨rfl,b⟩|⟨rfl,S,n,b⟩
  ·obtain⟨w,_,pl,_⟩:=d.list m;refine⟨pl.isList.typeIs,λa e=>?_⟩;cases e;obtain⟨o,n,e,c,h,_⟩:=pl;exact⟨o,e,h⟩
  ·refine⟨⟨o,d.kIn p o b,l⟩,λa e=>?_⟩;cases e;exact⟨o,d.kIn _ o b,h⟩
  ·have j:∃o,s.heap.get? p=some o/\o.ExactDict:=by
    rcases b with⟨kvs,b⟩|⟨kvs,b⟩
    ·obtain⟨_,_,_,_,o,_,_,e,ex,_⟩:=d.hok p _ b;exact⟨o,e,ex⟩
    ·obtain⟨_,_,_,_,o,_,_,e,ex,_⟩:=d.hok p _ b;exact⟨o,e,ex⟩
   obtain⟨o,e,ex⟩:=j;refine⟨⟨o,e,ex.1⟩,λa g=>?_⟩;cases g;exact⟨o,e,ex.2.1⟩
  ·obtain⟨o,_,_,_,e,ex,_⟩:=d.hok p _ b;refine⟨⟨o,e,ex.1⟩,λa g=>?_⟩;cases g;exact⟨o,e,ex.2.1⟩
 |_=>exact False.elim f
def Ds(K:Frag)(T:String)(r:V->List V->Hp->VK->Prop)(a:TE):TE:=λσ H Q=>a σ H λx H1=>tyV K T x H1/\r x [] H1 Q
def tBM(K:Frag)(T:String)(r:V->List V->Hp->VK->Prop)(a:TE)(t:TA):TE:=λσ H Q=>a σ H λx H1=>tyV K T x H1/\t σ H1 λxs H2=>r x xs H2 Q
variable{o e:Expr}{es:List Expr}{to:TE}{t:TA}{name:Str}{apos cpos:Pos}{T id:String}{r:V->List V->Hp->VK->Prop}
theorem zS(j:PlainAttrs T)(l:Slot T name id)(i:typeOf (.builtin id)=pure (.type "method_descriptor"))(e:MtR X id r)(f:PE X o to)(c:attributeBase o name X.env (eval o X.env)=eval o X.env:=by rfl)(d:(apos.endLine==cpos.line)=true:=by rfl):PE X (.Call (.Attribute o name apos) [] [] cpos) (Ds X.K T r to):=by
 intro pins s σ H Q I h;refine wpAny_Call_method0_late c d<|thn (f pins s σ H _ I h) λv s1 g=>?_;obtain⟨x,H1,a,b,ty,k⟩:=g;obtain⟨h1,h2⟩:=uA a b ty;exact⟨T,id,j,l,i,h1,h2,callWith_builtin rfl<|PySem.evalArgs_none (e pins s1 σ H1 x [] v [] Q a b .nil k)⟩
theorem cn(u:PlainAttrs T)(B:Slot T name id)(q:typeOf (.builtin id)=pure (.type "method_descriptor"))(k:MtR X id r)(l:PE X o to)(f:PA X (e::es) t)(g:attributeBase o name X.env (eval o X.env)=eval o X.env:=by rfl)(i:((backTo cpos<|starEach (e::es) X.env).all (λx=>!x.1)&&(backToKw cpos<|keywordEach [] X.env).all (λx=>x.1.isSome)
   && decide ((e::es).length+([]:List Keyword).length+(if ([]:List Keyword).isEmpty then 0 else 1)<30))=true:=by rfl)(j:(apos.endLine==cpos.line)=true:=by rfl)(p:starEach (e::es) X.env=(false,eval e X.env)::starEach es X.env:=by rfl)(m:(backTo cpos<|starEach es X.env).any (·.1)=false:=by rfl):
  PE X (.Call (.Attribute o name apos) (e::es) [] cpos) (tBM X.K T r to t):=by
 intro pins s σ H Q I h;refine wpAny_Call_method_late g i j rfl<|thn (l pins s σ H _ I h) λv s1 n=>?_;obtain⟨x,H1,a,c,ty,w⟩:=n;obtain⟨h1,h2⟩:=uA a c ty;refine⟨T,id,u,B,q,h1,h2,?_⟩;have b:=f cpos pins s1 σ H1 _ a w;rw[p]at b|-;refine callWith_builtin (by show(false||(backTo cpos<|starEach es X.env).any (·.1))=false;rw[m]<;>rfl)<|evalArgs_plain ?_;exact thn b λus A ⟨vs,H2,d,z,y⟩=>k pins A σ H2 x vs v us Q d c z y
end
def MtM(X:Cx)(id:String)(r:V->List V->Hp->VK->Prop):Prop :=
 ∀(pins:List<|zo×Obj)(s:zi)(σ:St)(H:Hp)(x:V)(xs:List V)(v:zt)(us:List zt)(Q:VK),Inv X pins σ H s->aw x v->aq xs us->r x xs H Q ->
  wpAny (model X.prog X.w) X.A (call (.builtin id) (v::us)) (EP X pins σ Q) X.xe s
theorem aq.one:∀{x:V}{us:List zt},aq [x] us->∃u,us=[u]/\aw x u
 |_,_,.cons r .nil=>⟨_,rfl,r⟩
theorem aq.two:∀{x y:V}{us:List zt},aq [x,y] us->∃u v,us=[u,v]/\aw x u/\aw y v
 |_,_,_,.cons r (.cons q .nil)=>⟨_,_,rfl,r,q⟩
theorem aq.zero:∀{us:List zt},aq [] us->us=[]
 |_,.nil=>rfl
theorem aq.dropLast{xs:List V}{us:List zt}(a:aq xs us):aq xs.dropLast us.dropLast:=by
 induction a with
 |nil=>exact .nil
 |cons r t b =>
  cases t with
  |nil=>exact .nil
  |cons q c=>exact .cons r b
theorem aq.eraseIdx:∀{xs:List V}{us:List zt}(i:Nat),aq xs us->aq (xs.eraseIdx i) (us.eraseIdx i)
 |_,_,_,.nil=>.nil
 |_,_,0,.cons _ t=>t
 |_,_,i+1,.cons r t=>.cons r<|aq.eraseIdx i t
theorem aq.reverse{xs:List V}{us:List zt}(a:aq xs us):aq xs.reverse us.reverse:=by
 induction a with
 |nil=>exact .nil
 |cons r t b=>rw[List.reverse_cons,List.reverse_cons];exact aq.append b<|.cons r .nil
theorem aq.rep{xs:List V}{us:List zt}(h:aq xs us):∀k:Nat,aq (replicate k xs).flatten (replicate k us).flatten
 |0=>.nil
 |k+1=>by
  rw[replicate_succ,replicate_succ,flatten_cons,flatten_cons];exact aq.append h<|aq.rep h k
theorem pR{d:Type}(l:List d):l.eraseIdx (l.length-1)=l.dropLast:=by
 induction l with
 |nil=>rfl
 |cons a r c =>
  cases r with
  |nil=>rfl
  |cons b r =>
   have e:(a::b::r).length-1=((b::r).length-1)+1:=by
    have h1:(a::b::r).length=r.length+2:=rfl;have h2:(b::r).length=r.length+1:=rfl;omega
   rw[e,List.eraseIdx_cons_succ,c]
   all_goals rfl
theorem lx{a:Type}:∀(l:List a)(i:Nat),(l.eraseIdx i).length<=l.length
 |[],_=>le_refl _
 |_::_,0=>le_succ _
 |_::r,i+1=>Nat.succ_le_succ<|lx r i
theorem ly(b:List zt):∀(k:Nat)(a:List zt),
  foldl (λd f=>d++f) a.toArray (replicate k b.toArray)=(a++(replicate k b).flatten).toArray
 |0,a=>by simp
 |k+1,a=>by
  have e:a.toArray++b.toArray=(a++b).toArray:=by simp
  have c:(a++b)++(replicate k b).flatten=a++(replicate (k+1) b).flatten:=by
   rw[replicate_succ,flatten_cons,append_assoc]
  rw[<-c,<-ly b k (a++b),<-e,replicate_succ,List.foldl_cons]
section
variable{X:Cx}{pins:List (zo×Obj)}{σ:St}{H:Hp}{s:zi}{l b:zo}{xs ys zs:List V}
theorem Inv.lset{a its':List zt}{n:Nat}{f:Array zt->Array zt}{t':Nat}(b:Inv X pins σ H s)(c:H l=some (.lst xs))(e:s.heap.get? l=some {cls:=.type "list",data:=.seq a.toArray n})(g:f a.toArray=its'.toArray)(i:aq ys its')(hz:ys.length<=sizeLine):
  Inv X pins σ (upd H l<|.lst ys) {s with heap:=s.heap.update l<|Obj.mapSeq f,toks:=t'}:=by
 have q:=PySem.IsL.update e f;rw[g]at q;refine b.write (x:=l) (e:=l) (by rw[c];exact trivial) (.inl rfl) (λj u d h=>(Heap.get?_update_other s.heap (Obj.mapSeq f)<|Ne.symm d).trans h) ⟨_,q⟩ ?_;exact⟨hz,its',_,i,q⟩
theorem Inv.lnew{a:List zt}{t':Nat}(b:Inv X pins σ H s)(c:aq ys a)(hz:ys.length<=sizeLine):
  Inv X pins σ (upd H s.heap.objs.size<|.lst ys) {s with heap:=s.heap.push {cls:=.type "list",data:=.seq a.toArray},toks:=t'} :=
 b.laid (λ_ _ q=>get?_push_of_some _ q) (le_refl _) ⟨hz,a,0,c,get?_push_size _ rfl⟩
theorem Inv.fresh(I:Inv X pins σ H s):H s.heap.objs.size=none:=I.hok.fresh<|le_refl _
theorem Inv.lstM(b:Inv X pins σ H s)(c:H l=some (.lst xs)):xs.length<=sizeLine/\∃(a:List zt) (n:Nat),aq xs a/\xs.length=a.length/\s.heap.get? l=some {cls:=.type "list",data:=.seq a.toArray n}:=by
 obtain⟨d,a,n,r,e⟩:=b.hok l _ c;exact⟨d,a,n,r,r.length,e⟩
theorem nO{n:Nat}(h:n<=sizeLine):Builtin.List.listTooLong n=false:=by
 unfold Builtin.List.listTooLong;exact decide_eq_false (by omega)
def qZ:V->List V->Hp->VK->Prop:=λx vs H Q=>∃l xs y,x=.ref l/\vs=[y]/\H l=some (.lst xs)/\xs.length<sizeLine/\Q .non (upd H l<|.lst (xs++[y]))
theorem aM:MtM X "list.append" qZ:=by
 intro pins s σ H x vs v us Q I f d h;obtain⟨l,xs,y,rfl,rfl,a,i,q⟩:=h;cases f;obtain⟨u,rfl,c⟩:=d.one;obtain⟨j,b,n,r,g,e⟩:=I.lstM a;refine call_meets F.slot_list_append ⟨_,e,rfl⟩ F.entry_list_append (F.args_list_append_2 _ _) (PySem.list_append l b.toArray n u (by rw[size_toArray];omega)) ⟨e,?_⟩;refine⟨.non,_,I.lset (its':=b++[u]) a e (by simp) (r.append<|.cons c .nil) ?_,rfl,q⟩;rw[length_append,length_singleton];omega
def xD:V->List V->Hp->VK->Prop:=λx vs H Q=>∃l b xs zs,x=.ref l/\vs=[.ref b]/\H l=some (.lst xs)/\H b=some (.lst zs)/\xs.length+zs.length<=sizeLine/\Q .non (upd H l<|.lst (xs++zs))
theorem sH:MtM X "list.extend" xD:=by
 intro pins s σ H x vs v us Q I t p h;obtain⟨l,b,xs,zs,rfl,rfl,d,g,z,q⟩:=h;cases t;obtain⟨u,rfl,o⟩:=p.one;cases o;obtain⟨A,a,n,r,w,e⟩:=I.lstM d;obtain⟨B,c,k,m,y,f⟩:=I.lstM g;have j:a.toArray.size+c.toArray.size<=sizeLine:=by rw[size_toArray,size_toArray];omega
 have i:¬(!a.toArray.isEmpty&&Builtin.List.listTooLong (a.toArray.size+c.toArray.size))=true:=by
  rw[nO j,Bool.and_false];exact Bool.false_ne_true
 refine call_meets F.slot_list_extend ⟨_,e,rfl⟩ F.entry_list_extend (F.args_list_extend_2 _ _)
  (AutoSeq1.list_extend_list_list_0 l a.toArray n b c.toArray k i (by rw[size_toArray];omega) (by omega)) ⟨e,f,?_⟩
 refine⟨.non,_,I.lset (its':=a++c) d e (by simp) (r.append m) ?_,rfl,q⟩;rw[length_append];omega
def Dt:V->List V->Hp->VK->Prop:=λx vs H Q=>∃l xs y,x=.ref l/\vs=[]/\H l=some (.lst xs)/\xs[xs.length-1]?=some y/\Q y (upd H l<|.lst xs.dropLast)
theorem zT:MtM X "list.pop" Dt:=by
 intro pins s σ H x vs v us Q I m k h;obtain⟨l,xs,y,rfl,rfl,b,g,q⟩:=h;cases m;have f:=k.zero;subst f;obtain⟨o,a,n,r,c,e⟩:=I.lstM b;obtain⟨u,d,j⟩:=r.get g;have i:a.toArray[a.toArray.size-1]?=some u:=by
  show a.toArray[a.length-1]?=some u;rw[<-getElem?_toList,<-c];exact d
 refine call_meets F.slot_list_pop ⟨_,e,rfl⟩ F.entry_list_pop (F.args_list_pop_1 _) (MeetsSeq.list_pop_last l a.toArray n u i (by rw[size_toArray];omega)) ⟨e,?_⟩;refine⟨y,_,I.lset (its':=a.dropLast) b e ?_ r.dropLast ?_,j,q⟩
 ·show a.toArray.eraseIdxIfInBounds (a.toArray.size-1)=a.dropLast.toArray;rw[size_toArray,List.eraseIdxIfInBounds_toArray,pR]
 ·rw[List.length_dropLast];omega
def zU:V->List V->Hp->VK->Prop:=λx vs H Q=>∃l xs i k y,x=.ref l/\vs=[.int i]/\H l=some (.lst xs)/\-(2 ^ 63)<=i/\i<2 ^ 63/\seqIndex? i xs.length=some k/\xs[k]?=some y/\Q y (upd H l<|.lst (xs.eraseIdx k))
theorem uB:MtM X "list.pop" zU:=by
 intro pins s σ H x vs v us Q I p m h;obtain⟨l,xs,i,k,y,rfl,rfl,b,h1,h2,c,g,q⟩:=h;cases p;obtain⟨u,rfl,j⟩:=m.one;obtain⟨t,rfl⟩:=j;obtain⟨z,a,n,r,d,e⟩:=I.lstM b;obtain⟨w,f,o⟩:=r.get g;refine call_meets F.slot_list_pop ⟨_,e,rfl⟩ F.entry_list_pop (F.args_list_pop_2 _ _)
  (MeetsSeq.list_pop_at l a.toArray n i t k w (fitsIndex_both h1 h2) (by rw[size_toArray,<-d];exact c) (by rw[<-getElem?_toList];exact f) (by rw[size_toArray];omega)) ⟨e,?_⟩
 refine⟨y,_,I.lset (its':=a.eraseIdx k) b e ?_ (r.eraseIdx k) ?_,o,q⟩
 ·show a.toArray.eraseIdxIfInBounds k=(a.eraseIdx k).toArray;rw[List.eraseIdxIfInBounds_toArray]
 ·have:=lx xs k;omega
def Du:R2:=λx y H Q=>∃l k xs,x=.ref l/\y=.int k/\H l=some (.lst xs)/\-(2 ^ 63)<=k/\k<2 ^ 63/\xs.length*k.toNat<=sizeLine /\
 ∀p,H p=none->Q (.ref p) (upd H p<|.lst (replicate k.toNat xs).flatten)
theorem xE{b:Type}(xs:List b)(k:Nat):(replicate k xs).flatten.length=k*xs.length:=by
 induction k with
 |zero=>simp
 |succ k a=>rw[replicate_succ,flatten_cons,length_append,a,succ_mul,Nat.add_comm]
theorem zV:OpR X (binaryOp .Mult) Du:=by
 intro pins s σ H x y v u Q I B C h;obtain⟨l,k,xs,rfl,rfl,i,h1,h2,f,q⟩:=h;cases B;obtain⟨t,rfl⟩:=C;obtain⟨E,b,n,r,p,e⟩:=I.lstM i;have w:b.toArray.size*k.toNat<=sizeLine:=by rw[size_toArray,<-p];exact f
 have j:¬b.toArray.size*k.toNat>(2 ^ 63-1) / 8:=by
  have:(sizeLine:Nat)<=(2 ^ 63-1) / 8:=by decide
  omega
 have o:¬(!Builtin.List.listFitsIndex k)=true:=by
  rw[fitsIndex_both h1 h2];exact Bool.false_ne_true
 have z:¬Builtin.List.listTooLong (b.toArray.size*k.toNat)=true:=by
  rw[nO w];exact Bool.false_ne_true
 have A:foldl (λc d=>c++d) #[] (replicate (if b.toArray.isEmpty=true then 0 else k.toNat) b.toArray)=(replicate k.toNat b).flatten.toArray:=by
  have g:∀m:Nat,foldl (λc d=>c++d) #[] (replicate m b.toArray)=(replicate m b).flatten.toArray:=λm=>by
   have:=ly b m [];rw[nil_append]at this;exact this
  rw[g];cases b with
  |nil=>simp
  |cons a D=>rw[if_neg (by simp)]
 refine wpAny_binaryOp_repeat_ref (T:="list") (U:="int") (by decide) ⟨_,e,rfl⟩ (λs'=>typeIs_int s' k t) noFill_list_mul F.fills_int_mul F.slot_int_rmul repeat_list F.slot_int_index.lookup
  (call_meets F.slot_int_rmul (typeIs_int s k t) F.entry_int_rmul (F.args_int_rmul_2 _ _) (int___rmul___int_list k t l b.toArray n)
   ⟨e,rfl,⟨_,e,rfl⟩,call_meets F.slot_list_mul ⟨_,e,rfl⟩ F.entry_list_mul (F.args_list_mul_2 _ _) (AutoListH.list___mul___list_int_3 l b.toArray n k t o j z) ⟨e,?_⟩⟩)
 rw[A];exact⟨.ref _,_,I.lnew (t':=s.toks) (r.rep k.toNat) (by rw[xE,Nat.mul_comm];exact f),rfl,q _ I.fresh⟩
end
section
variable{κ:Type}[DecidableEq κ]
def aO(kvs:List<|κ×V)(k:κ):Option V:=(kvs.find? λa=>decide<|a.1=k).map (·.2)
def cf(kvs:List<|κ×V)(k:κ)(v:V):List (κ×V) :=
 if (kvs.any λa=>decide<|a.1=k)=true then kvs.map (λa=>if a.1=k then (a.1,v)else a)else kvs++[(k,v)]
def cO(kvs:List<|κ×V)(k:κ):List (κ×V):=kvs.filter λa=>decide<|a.1≠k
theorem aV{p:κ×V}{r:List (κ×V)}{k:κ}(e:p.1=k):aO (p::r) k=some p.2:=by simp[aO,find?_cons,e]
theorem aK{p:κ×V}{r:List (κ×V)}{k:κ}(e:¬p.1=k):aO (p::r) k=aO r k:=by simp[aO,find?_cons,e]
theorem eZ(k:κ):∀kvs:List<|κ×V,(kvs.any λa=>decide<|a.1=k)=(aO kvs k).isSome
 |[]=>rfl
 |p::r=>by
  rw[any_cons]
  by_cases e:p.1=k
  ·simp only[aV e,decide_eq_true e,Bool.true_or,Option.isSome_some]
  ·rw[aK e,decide_eq_false e,Bool.false_or];exact eZ k r
theorem nP(k j:κ)(y:V):∀kvs:List<|κ×V,aO (kvs.map λa=>if a.1=k then (a.1,y)else a) j=(aO kvs j).map λx=>if j=k then y else x
 |[]=>rfl
 |p::r=>by
  have b:=nP k j y r;rw[map_cons]
  by_cases h:p.1=k
  ·rw[if_pos h]
   by_cases e:p.1=j
   ·rw[aV (p:=(p.1,y)) e,aV e,map_some,if_pos<|e.symm.trans h]
   ·rw[aK (p:=(p.1,y)) e,aK e,b]
  ·rw[if_neg h]
   by_cases e:p.1=j
   ·rw[aV (p:=p) e,aV e,map_some,if_neg λc=>h<|e.trans c]
   ·rw[aK (p:=p) e,aK e,b]
theorem lz(k j:κ)(y:V):∀kvs:List<|κ×V,aO kvs k=none->aO (kvs++[(k,y)]) j=if j=k then some y else aO kvs j
 |[],_=>by
  by_cases e:k=j
  ·rw[if_pos e.symm];exact aV (p:=(k,y)) e
  ·rw[if_neg λz=>e z.symm];exact aK (p:=(k,y)) e
 |p::r,hn=>by
  rw[List.cons_append];have a:¬p.1=k:=λz=>by rw[aV z]at hn;cases hn
  rw[aK a]at hn;have b:=lz k j y r hn
  by_cases e:p.1=j
  ·rw[aV e,aV e,if_neg λz=>a<|e.trans z]
  ·rw[aK e,aK e,b]
theorem nQ(kvs:List<|κ×V)(k j:κ)(y:V):aO (cf kvs k y) j=if j=k then some y else aO kvs j:=by
 unfold cf
 by_cases a:(kvs.any λc=>decide<|c.1=k)=true
 ·rw[if_pos a,nP];rw[eZ]at a
  by_cases e:j=k
  ·obtain⟨x,b⟩:=isSome_iff_exists.mp a;rw[if_pos e,e,b,map_some,if_pos rfl]
  ·rw[if_neg e];cases aO kvs j with
   |none=>rfl
   |some x=>rw[map_some,if_neg e]
 ·rw[if_neg a];refine lz k j y kvs ?_;rw[eZ]at a;cases q:aO kvs k with
  |none=>rfl
  |some x=>rw[q]at a;exact(a rfl).elim
theorem cF(kvs:List<|κ×V)(k:κ)(v:V):(cf kvs k v).length<=kvs.length+1:=by
 unfold cf
 split
 ·rw[length_map];omega
 ·rw[length_append,length_cons,length_nil];omega
theorem nR{kvs:List (κ×V)}{k:κ}(v:V)(h:aO kvs k=none):cf kvs k v=kvs++[(k,v)]:=by
 unfold cf;rw[eZ,h];exact if_neg (by decide)
theorem dH.isSome_eq{o:Option V}{u:Option zt}(r:dH o u):o.isSome=u.isSome:=by
 cases o with
 |none=>cases u with
  |none=>rfl
  |some _=>exact(show False from r).elim
 |some _=>cases u with
  |none=>exact(show False from r).elim
  |some _=>rfl
theorem dH.getD{o:Option V}{u:Option zt}{d:V}{d':zt}(r:dH o u)(a:aw d d'):aw (o.getD d) (u.getD d'):=by
 cases o with
 |none=>cases u with
  |none=>exact a
  |some _=>exact(show False from r).elim
 |some _=>cases u with
  |none=>exact(show False from r).elim
  |some _=>exact r
theorem KV.val{kvs:List (κ×V)}{vs:List (κ×zt)}(r:KV kvs vs)(k:κ):dH (aO kvs k) (valueAt vs k):=by
 unfold KV at r
 induction r with
 |nil=>exact True.intro
 |@cons p q ps qs h t ih =>
  obtain⟨h1,h2⟩:=h
  by_cases e:p.1=k
  ·have a:q.1=k:=h1.symm.trans e;have b:valueAt (q::qs) k=some q.2:=by simp[valueAt,find?_cons,a]
   rw[aV e,b];exact h2
  ·have a:¬q.1=k:=λc=>e<|h1.trans c;have b:valueAt (q::qs) k=valueAt qs k:=by simp[valueAt,find?_cons,a]
   rw[aK e,b];exact ih
theorem KV.any{kvs:List (κ×V)}{vs:List (κ×zt)}(r:KV kvs vs)(k:κ):(kvs.any λa=>decide<|a.1=k)=vs.any λa=>decide (a.1=k):=by
 unfold KV at r
 induction r with
 |nil=>rfl
 |cons h t b=>rw[any_cons,any_cons,b,h.1]
theorem KV.repl{kvs:List (κ×V)}{vs:List (κ×zt)}(r:KV kvs vs)(k:κ){y:V}{u:zt}(b:aw y u):
  KV (kvs.map λa=>if a.1=k then (a.1,y)else a) (vs.map λa=>if a.1=k then (a.1,u)else a):=by
 unfold KV at r|-
 induction r with
 |nil=>exact .nil
 |@cons p q ps qs h t ih =>
  rw[map_cons,map_cons];refine .cons ?_ ih;obtain⟨h1,h2⟩:=h
  by_cases e:p.1=k
  ·rw[if_pos e,if_pos<|h1.symm.trans e];exact⟨h1,b⟩
  ·rw[if_neg e,if_neg λc=>e<|h1.trans c];exact⟨h1,h2⟩
theorem KV.put{kvs:List (κ×V)}{vs:List (κ×zt)}(r:KV kvs vs)(k:κ){y:V}{u:zt}(a:aw y u):KV (cf kvs k y) (stored vs k u):=by
 unfold cf stored;rw[r.any k]
 by_cases e:(vs.any λb=>decide<|b.1=k)=true
 ·rw[if_pos e,if_pos e];exact r.repl k a
 ·rw[if_neg e,if_neg e];exact Paired.snoc r ⟨rfl,a⟩
theorem KV.drop{kvs:List (κ×V)}{vs:List (κ×zt)}(r:KV kvs vs)(k:κ):KV (cO kvs k) (without vs k):=by
 unfold KV at r|-;unfold cO without
 induction r with
 |nil=>exact .nil
 |@cons p q ps qs h t ih =>
  obtain⟨h1,h2⟩:=h;rw[filter_cons,filter_cons]
  by_cases e:p.1=k
  ·have a:¬decide (p.1≠k)=true:=by simp[e]
   have b:¬decide (q.1≠k)=true:=by simp[h1.symm.trans e]
   rw[if_neg a,if_neg b];exact ih
  ·have c:¬q.1=k:=λd=>e<|h1.trans d;have a:decide (p.1≠k)=true:=by simp[e]
   have b:decide (q.1≠k)=true:=by simp[c]
   rw[if_pos a,if_pos b];exact .cons ⟨h1,h2⟩ ih
theorem KV.length{kvs:List (κ×V)}{vs:List (κ×zt)}(r:KV kvs vs):kvs.length=vs.length:=Paired.length r
theorem nS(kvs:List<|κ×V)(k:κ):(cO kvs k).length<=kvs.length:=length_filter_le _ _
end
theorem fX{P:xx}{w:qq}{k:Key}{u:zt}(r:aw (kV k) u):(ap P w).is k u=true:=by
 cases k with
 |inl i=>obtain⟨t,e⟩:=(show ∃t,u=Value.int i t from r);subst e;exact nD P w i t
 |inr x=>obtain⟨t,e⟩:=(show ∃t,u=Value.str x t from r);subst e;exact nE P w x t
theorem zW{a b:Key}(e:kV a=kV b):a=b:=by
 cases a with
 |inl i=>cases b with
  |inl j=>have c:V.int i=V.int j:=e;injection c with c;rw[c]
  |inr y=>exact nomatch (show V.int i=V.str y from e)
 |inr x=>cases b with
  |inl j=>exact nomatch (show V.str x=V.int j from e)
  |inr y=>have c:V.str x=V.str y:=e;injection c with c;rw[c]
theorem ra:∀{a b:List Key},a.map kV=b.map kV->a=b
 |[],[],_=>rfl
 |[],_::_,e=>by simp at e
 |_::_,[],e=>by simp at e
 |x::xs,y::ys,e=>by
  rw[map_cons,map_cons]at e;injection e with c d
  rw[zW c,ra d]
theorem iu{P:xx}{w:qq}:∀{ks:List Key}{us:List zt},aq (ks.map kV) us->ItemsAre (ap P w) ks us
 |[],_,r=>by rw[map_nil]at r;cases r;exact .nil
 |k::ks,_,r=>by
  rw[map_cons]at r;cases r with
  |cons h t=>exact .cons (fX h)<|iu t
abbrev KT(H:Hp):List (List Key×V)->List (List Key×zo×zt)->Prop:=Paired λp q=>p.1=q.1/\H q.2.1=some (.tup<|p.1.map kV)/\aw p.2 q.2.2
theorem KT.val{c:Hp}{kvs:List (List Key×V)}{xs:List (List Key×zo×zt)}(r:KT c kvs xs)(k:List Key):dH (aO kvs k) ((atKey xs k).map (·.2)):=by
 induction r with
 |nil=>exact True.intro
 |@cons p q ps qs h t ih =>
  obtain⟨h1,_,h2⟩:=h
  by_cases e:p.1=k
  ·have a:q.1=k:=h1.symm.trans e;have b:atKey (q::qs) k=some q.2:=by simp[atKey,find?_cons,a]
   rw[aV e,b];exact h2
  ·have a:¬q.1=k:=λd=>e<|h1.trans d;have b:atKey (q::qs) k=atKey qs k:=by simp[atKey,find?_cons,a]
   rw[aK e,b];exact ih
theorem KT.repl{b:Hp}{kvs:List (List Key×V)}{xs:List (List Key×zo×zt)}(r:KT b kvs xs)(k:List Key){y:V}{u:zt}(c:aw y u):
  KT b (kvs.map λa=>if a.1=k then (a.1,y)else a) (xs.map<|putAt k u):=by
 induction r with
 |nil=>exact .nil
 |@cons p q ps qs h t ih =>
  rw[map_cons,map_cons];refine .cons ?_ ih;obtain⟨h1,h2,h3⟩:=h;unfold putAt
  by_cases e:p.1=k
  ·rw[if_pos e,if_pos<|h1.symm.trans e];exact⟨h1,h2,c⟩
  ·rw[if_neg e,if_neg λd=>e<|h1.trans d];exact⟨h1,h2,h3⟩
theorem KT.put{a:Hp}{kvs:List (List Key×V)}{xs:List (List Key×zo×zt)}(r:KT a kvs xs)(k:List Key){b:zo}{y:V}{u:zt}(d:a b=some (.tup<|k.map kV))(c:aw y u):
  KT a (cf kvs k y) (storedH xs k b u):=by
 have e:(kvs.any λf=>decide<|f.1=k)=(atKey xs k).isSome:=by
  rw[eZ,(r.val k).isSome_eq,isSome_map]
 unfold cf storedH;rw[e]
 by_cases q:(atKey xs k).isSome=true
 ·rw[if_pos q,if_pos q];exact r.repl k c
 ·rw[if_neg q,if_neg q];exact Paired.snoc r ⟨rfl,d,c⟩
theorem KT.keeps{c H':Hp}{kvs:List (List Key×V)}{xs:List (List Key×zo×zt)}(r:KT c kvs xs)(d:∀b ys,c b=some (.tup ys)->H' b=some (.tup ys)):KT H' kvs xs :=
 Paired.mapP r λ_ _ a=>⟨a.1,d _ _ a.2.1,a.2.2⟩
section
variable{P:xx}{w:qq}{H:Hp}{h:qa}{a:zo}
theorem zq{u:HO}(b:HOk P w H h)(e:Rd H a u):aU P w H h a u:=e.ok b
theorem jw{kvs:List (Key×V)}(b:HOk P w H h)(e:Rd H a<|.dK kvs):kvs.length<=sizeLine/\(a==sysModules)=false/\∃vs,KV kvs vs/\h.DictOf (ap P w) a vs :=
 show aU P w H h a (.dK kvs)from zq b e
theorem rb{kvs:List (Key×V)}(b:HOk P w H h)(e:H a=some (.dK kvs)):kvs.length<=sizeLine/\(a==sysModules)=false/\∃vs,KV kvs vs/\h.DictOf (ap P w) a vs:=jw b<|.inl e
theorem iw{ks:List Key}(c:HOk P w H h)(e:H a=some (.tup<|ks.map kV)):(tupleKind<|ap P w).is h ks a:=by
 obtain⟨_,b,r,o,h1,h2,n,h3⟩:=(show aU P w H h a (.tup<|ks.map kV)from c a _ e);exact⟨o,b.toArray,n,h1,h2,h3,by simpa using iu r⟩
theorem jx{kvs:List (List Key×V)}(c:HOk P w H h)(e:Rd H a<|.dT kvs):kvs.length<=sizeLine/\(a==sysModules)=false /\
  ∃xs,KT H kvs xs/\h.DictOfH (tupleKind<|ap P w) a xs:=by
 obtain⟨i,y,xs,r,o,es,d,h1,h2,h3,f,g⟩:=(show aU P w H h a (.dT kvs)from zq c e);refine⟨i,y,xs,r,o,es,d,h1,h2,h3,f,λx b=>?_,g⟩;have all:∀{l:List (List Key×V)}{m:List (List Key×zo×zt)},KT H l m->∀x∈m,(tupleKind<|ap P w).is h x.1 x.2.1:=by
  intro l m q
  induction q with
  |nil=>intro x b;exact nomatch b
  |@cons p q ps qs hq t ih =>
   intro x b;rcases mem_cons.mp b with e|b
   ·subst e;exact iw c (by rw[<-hq.1];exact hq.2.1)
   ·exact ih x b
 exact all r x b
theorem BS{kvs:List (List Key×V)}(b:HOk P w H h)(e:H a=some (.dT kvs)):kvs.length<=sizeLine/\(a==sysModules)=false /\
  ∃xs,KT H kvs xs/\h.DictOfH (tupleKind<|ap P w) a xs:=jx b<|.inl e
end
def cM(H:Hp)(a:zo)(y:V)(r:Option V):Prop :=
 (∃kvs k,Rd H a (.dK kvs)/\y=kV k/\r=aO kvs k)\/∃kvs k b,Rd H a (.dT kvs)/\y=.ref b/\H b=some (.tup<|k.map kV)/\r=aO kvs k
def pS(H:Hp)(a:zo)(y v:V)(H':Hp):Prop :=
 (∃kvs k,H a=some (.dK kvs)/\y=kV k/\kvs.length<sizeLine/\H'=upd H a (.dK<|cf kvs k v)) \/
 ∃kvs k b,H a=some (.dT kvs)/\y=.ref b/\H b=some (.tup<|k.map kV)/\kvs.length<sizeLine/\H'=upd H a (.dT<|cf kvs k v)
theorem cM.k{H:Hp}{a:zo}{kvs:List (Key×V)}{k:Key}(e:H a=some (.dK kvs)):cM H a (kV k) (aO kvs k):=.inl ⟨kvs,k,.inl e,rfl,rfl⟩
theorem pS.k{b:Hp}{a:zo}{kvs:List (Key×V)}{k:Key}{v:V}(e:b a=some (.dK kvs))(c:kvs.length<sizeLine):pS b a (kV k) v (upd b a<|.dK (cf kvs k v)):=.inl ⟨kvs,k,e,rfl,c,rfl⟩
section
variable{X:Cx}{pins:List (zo×Obj)}{σ:St}{H:Hp}{s:zi}{a:zo}{y v:V}{u r:zt}{o:Option V}{A:xg}{E:zt->zi->Prop}
theorem Inv.big(I:Inv X pins σ H s):sysModules<s.heap.objs.size:=by
 have h:mainGlobals<s.heap.objs.size:=(I.mod.glob.keeps I.bk).lt;exact lt_trans (by decide) h
theorem sI{Q:zt->zi->Prop}(z:A.units+1<cLine)(d:Inv X pins σ H s)(g:cM H a y<|some v)(n:aw y u)(m:∀c s',Inv X pins σ H s'->aw v c->Q c s'):
  wpAny (model X.prog X.w) A (getItem (.ref a) u) Q E s:=by
 rcases g with⟨kvs,k,e,f,l⟩|⟨kvs,k,b,e,f,q,l⟩
 ·subst f;obtain⟨B,r,vs,i,dd⟩:=jw d.hok e;obtain⟨c,h,j⟩:=dH.some_of (v:=v) (o:=valueAt vs k) (by rw[l];exact i.val k);exact wpAny_getItem_of (fX n) dd.mapOf h<|m c _ (d.tok _) j
 ·subst f;cases (show u=Value.ref b from n);obtain⟨B,r,xs,i,dd⟩:=jx d.hok e;obtain⟨c,h,j⟩:=dH.some_of (v:=v) (o:=(atKey xs k).map (·.2)) (by rw[l];exact i.val k);obtain⟨p,t,x⟩:=Option.map_eq_some_iff.mp h;refine wpAny_getItem_heap (tupleKind_room_in1 z) (iw d.hok q) dd t ?_;rw[x];exact m c _ (d.tok _) j
theorem Dv{Q:zt->zi->Prop}(n:A.units+1<cLine)(c:Inv X pins σ H s)(g:cM H a y o)(j:aw y u)(i:∀s',Inv X pins σ H s'->Q (.bool o.isSome) s'):
  wpAny (model X.prog X.w) A (compareOp .In u<|.ref a) Q E s:=by
 rcases g with⟨kvs,k,e,d,l⟩|⟨kvs,k,b,e,d,m,l⟩
 ·subst d;obtain⟨p,f,vs,h,dd⟩:=jw c.hok e;refine wpAny_in_of (fX j) f dd.mapOf ?_;rw[<-(h.val k).isSome_eq,<-l];exact i _<|c.tok _
 ·subst d;cases (show u=Value.ref b from j);obtain⟨p,f,xs,h,dd⟩:=jx c.hok e;refine wpAny_in_heap (tupleKind_room_in1 n) (iw c.hok m) f dd ?_;have q:=(h.val k).isSome_eq;rw[isSome_map]at q;rw[<-q,<-l];exact i _<|c.tok _
theorem xF{Q:zt->zi->Prop}(n:A.units+1<cLine)(c:Inv X pins σ H s)(g:cM H a y o)(j:aw y u)(i:∀s',Inv X pins σ H s'->Q (.bool<|!o.isSome) s'):
  wpAny (model X.prog X.w) A (compareOp .NotIn u<|.ref a) Q E s:=by
 rcases g with⟨kvs,k,e,d,l⟩|⟨kvs,k,b,e,d,m,l⟩
 ·subst d;obtain⟨p,f,vs,h,dd⟩:=jw c.hok e;refine wpAny_notIn_of (fX j) f dd.mapOf ?_;rw[<-(h.val k).isSome_eq,<-l];exact i _<|c.tok _
 ·subst d;cases (show u=Value.ref b from j);obtain⟨p,f,xs,h,dd⟩:=jx c.hok e;refine wpAny_notIn_heap (tupleKind_room_in1 n) (iw c.hok m) f dd ?_;have q:=(h.val k).isSome_eq;rw[isSome_map]at q;rw[<-q,<-l];exact i _<|c.tok _
theorem gJ{h':qa}{t':Nat}{ob:HO}(c:Inv X pins σ H s)(h:Mut<|H a)(g:SameBut a s.heap h')(f:∃q,h'.get? a=some q)(i:aU X.prog X.w (upd H a ob) h' a ob):
  Inv X pins σ (upd H a ob) {s with heap:=h',toks:=t'} :=
 c.write (x:=a) (e:=a) h (.inl rfl) (λb q d j=>(g.2 b d).trans j) f i
theorem jy{P:xx}{w:qq}{H':Hp}{h':qa}{kvs:List (Key×V)}{vs:List (Key×zt)}(z:kvs.length<=sizeLine)(b:(a==sysModules)=false)(c:KV kvs vs)(dd:h'.DictOf (ap P w) a vs):
  aU P w H' h' a (.dK kvs):=⟨z,b,vs,c,dd⟩
theorem sJ{H':Hp}{Q:Unit->zi->Prop}(L:A.units+1<cLine)(d:Inv X pins σ H s)(g:pS H a y v H')(F:aw y u)(D:aw v r)(C:∀s',Inv X pins σ H' s'->Q () s'):
  wpAny (model X.prog X.w) A (setItem (.ref a) u r) Q E s:=by
 rcases g with⟨kvs,k,e,n,l,m⟩|⟨kvs,k,b,e,n,z,l,m⟩
 ·subst n m;obtain⟨h,o,vs,f,dd⟩:=rb d.hok e;have x:vs.length<=sizeLine:=by rw[<-f.length];exact h
  have p:(cf kvs k v).length<=sizeLine:=by have:=cF kvs k v;omega
  refine wpAny_setItem_pairs (hsz:=x) (fX F) dd λh' i t=>C _ ?_;have K:∃q,h'.get? a=some q:=let⟨q,_,_,j,_⟩:=i;⟨q,j⟩;exact gJ d (by rw[e];exact True.intro) t K<|jy p o (f.put k D) i
 ·subst n m;cases (show u=Value.ref b from F);obtain⟨h,o,xs,f,dd⟩:=BS d.hok e;have x:xs.length<=sizeLine:=by rw[<-Paired.length f];exact h
  have p:(cf kvs k v).length<=sizeLine:=by have:=cF kvs k v;omega
  refine wpAny_setItem_heap (hsz:=x) (tupleKind_room_in1 L) (iw d.hok z) dd λh' i t=>C _ ?_;obtain⟨q,es,G,j,h2,h3,I,_,J⟩:=i;refine gJ d (by rw[e];exact True.intro) t ⟨q,j⟩ ⟨p,o,_,(f.put k z D).keeps λc ys B=>?_,q,es,G,j,h2,h3,I,J⟩;rw[ae<|tZ B e (λh=>nomatch h)];exact B
end
section
variable{X:Cx}{pins:List (zo×Obj)}{σ:St}{H:Hp}{s:zi}{a:zo}{kvs:List (Key×V)}{k:Key}{u:zt}{A:xg}{E:zt->zi->Prop}
theorem BT{v:V}{more:List zt}{Q:zt->zi->Prop}(f:Inv X pins σ H s)(e:H a=some (.dK kvs))(d:aw (kV k) u)(l:aO kvs k=some v)(h:more=[]\/∃x,more=[x])(m:∀b s',Inv X pins σ (upd H a<|.dK (cO kvs k)) s'->aw v b->Q b s'):wpAny (model X.prog X.w) A (call (.builtin "dict.pop") (.ref a::u::more)) Q E s:=by
 obtain⟨j,p,vs,c,dd⟩:=rb f.hok e;obtain⟨b,C,D⟩:=dH.some_of (v:=v) (o:=valueAt vs k) (by rw[<-l];exact c.val k);have y:(keyPart u).isSome=true:=by
  cases k with
  |inl i=>obtain⟨t,q⟩:=(show ∃t,u=Value.int i t from d);subst q;rfl
  |inr x=>obtain⟨t,q⟩:=(show ∃t,u=Value.str x t from d);subst q;rfl
 have n:argsOk "dict.pop" ⟨.ref a::u::more,[]⟩:=by
  rcases h with q|⟨x,q⟩
  ·subst q;exact PySem.F.args_dict_pop_2 _ _
  ·subst q;exact PySem.F.args_dict_pop_3 _ _ _
 refine call_meetsIn slot_dict_pop dd.typeIs PySem.F.entry_dict_pop n (meets_dict_pop_there (ap X.prog X.w) a (fX d) more h y)
  ⟨vs,b,dd,by rw[<-c.length];exact j,C,λh' g B=>m b _ ?_ D⟩
 have r:∃q,h'.get? a=some q:=let⟨q,_,_,z,_⟩:=g;⟨q,z⟩;exact gJ f (by rw[e];exact True.intro) B r<|jy (le_trans (nS kvs k) j) p (c.drop k) g
theorem zX{r:zt}{Q:zt->zi->Prop}(c:Inv X pins σ H s)(e:H a=some (.dK kvs))(b:aw (kV k) u)(l:aO kvs k=none)(d:∀s',Inv X pins σ H s'->Q r s'):
  wpAny (model X.prog X.w) A (call (.builtin "dict.pop") [.ref a,u,r]) Q E s:=by
 obtain⟨m,f,vs,j,dd⟩:=rb c.hok e;have g:valueAt vs k=none:=dH.none_of (by rw[<-l];exact j.val k);have h:(keyPart u).isSome=true:=by
  cases k with
  |inl i=>obtain⟨t,q⟩:=(show ∃t,u=Value.int i t from b);subst q;rfl
  |inr x=>obtain⟨t,q⟩:=(show ∃t,u=Value.str x t from b);subst q;rfl
 exact call_meetsIn slot_dict_pop dd.typeIs PySem.F.entry_dict_pop (PySem.F.args_dict_pop_3 _ _ _) (meets_dict_pop_default (ap X.prog X.w) a (fX b) f h r) ⟨vs,dd,g,d _<|c.tok _⟩
end
def BU(i:Expr):Prop:=∀b a,subscripted i false b a=operate [b,a] (getItem b a)
theorem xH{prog:xx}{w:qq}{A:xg}{E:zt->zi->Prop}{s:zi}{env:Env}{d a:Expr}{pos:Pos}{T id:String}{Q:zt->zi->Prop}(j:typeLookup (.type T) "__getitem__"=pure (some<|.builtin id))(k:BU a)(h:wpAny (model prog w) A (eval d env) (λo f=>wpAny (model prog w) A (eval a env) (λi s₂=>s₂.TypeIs o T/\wpAny (model prog w) A (getItem o i) Q E s₂) E f) E s):
  wpAny (model prog w) A (eval (.Subscript d a pos) env) Q E s:=by
 refine Subscript_<|wpAny_mono h (λo f l=>wpAny_mono l (λi s₂ c=>?_) λ_ _ x=>x) λ_ _ x=>x;obtain⟨e,c⟩:=c;unfold subscriptTail;refine Wb ?_;rw[getitemInPython_of_ne e.not_modules];refine Wb<|wpAny_specialOf e j ?_;have b:wpAny (model prog w) A (subscripted a false o i) (λr g=>wpAny (model prog w) A (letTemporaryGo d o r >>= λ_=>pure r) Q E g) E s₂:=by
  rw[k o i];exact wpAny_operating<|wpAny_mono c (λr g m=>Wb<|wpAny_letTemporaryGo (Wp m)) λ_ _ x=>x
 first
  |exact Wp<|Wb b
  |exact Wb<|Wp (Wb b)
  |exact Wb b
theorem nT{X:Cx}{f:List (zo×Obj)}{h:St}{c:Hp}{s:zi}{a:zo}{y:V}{o:Option V}(d:Inv X f h c s)(g:cM c a y o):s.TypeIs (.ref a) "dict":=by
 rcases g with⟨kvs,k,e,_,_⟩|⟨kvs,k,b,e,_,_,_⟩
 ·obtain⟨_,_,vs,_,dd⟩:=jw d.hok e;exact dd.typeIs
 ·obtain⟨_,_,xs,_,dd⟩:=jx d.hok e;exact dd.typeIs
def BV(b c:TE):TE:=λσ H Q=>b σ H λx H1=>c σ H1 λy H2=>∃a v,x=.ref a/\cM H2 a y (some v)/\Q v H2
def Dw(c b:TE):TE:=λσ H Q=>c σ H λy H1=>b σ H1 λx H2=>∃a o,x=.ref a/\cM H2 a y o/\Q (.bl o.isSome) H2
def xI(c b:TE):TE:=λσ H Q=>c σ H λy H1=>b σ H1 λx H2=>∃a o,x=.ref a/\cM H2 a y o/\Q (.bl<|!o.isSome) H2
def BW(e g f:TE):TS:=λc σ H=>f σ H λv H1=>e σ H1 λx H2=>g σ H2 λy d=>∃a b,x=.ref a/\pS d a y v b/\c.nx σ b
section
variable{X:Cx}{o i e value:Expr}{pos pos' tpos:Pos}{td ty tv:TE}
theorem cQ(l:X.A.units+1<cLine)(f:PE X o td)(e:PE X i ty)(k:BU i):PE X (.Subscript o i pos) (BV td ty):=by
 intro pins s σ H Q I h;refine xH PySem.F.slot_dict_getitem.lookup k<|thn (f pins s σ H _ I h) λu s1 ⟨x,H1,c,q,m⟩=>thn (e pins s1 σ H1 _ c m) λt w j=>?_;obtain⟨y,H2,b,r,a,v,ex,g,n⟩:=j;subst ex;obtain rfl:u=Value.ref a:=q;exact⟨nT b g,sI l b g r λB z d p=>⟨v,H2,d,p,n⟩⟩
theorem pT(k:X.A.units+1<cLine)(e:PE X i ty)(f:PE X o td):PC X .In i o (Dw ty td):=by
 intro pins s σ H Q I h;refine thn (e pins s σ H _ I h) λr s1 ⟨y,H1,b,q,m⟩=>thn (f pins s1 σ H1 _ b m) λu t j=>?_;obtain⟨x,H2,c,p,a,l,ex,g,n⟩:=j;subst ex;obtain rfl:u=Value.ref a:=p;exact Dv k c g q λv d=>⟨.bl l.isSome,H2,d,rfl,n⟩
theorem sK(k:X.A.units+1<cLine)(e:PE X i ty)(f:PE X o td):PC X .NotIn i o (xI ty td):=by
 intro pins s σ H Q I h;refine thn (e pins s σ H _ I h) λr s1 ⟨y,H1,b,q,m⟩=>thn (f pins s1 σ H1 _ b m) λu t j=>?_;obtain⟨x,H2,c,p,a,l,ex,g,n⟩:=j;subst ex;obtain rfl:u=Value.ref a:=p;exact xF k c g q λv d=>⟨.bl<|!l.isSome,H2,d,rfl,n⟩
theorem mr(m:X.A.units+1<cLine)(k:PE X o td)(j:PE X i ty)(n:PE X value tv)(l:swapsWith value (some<|.Subscript o i pos') pos.line X.env=pure false):
  PS X (.Assign [.Subscript o i pos'] value pos) (BW td ty tv):=by
 intro pins s σ H D I h;refine wpAny_Assign_Subscript (thn (n pins s σ H _ I h) λr s1 ⟨v,H1,c,w,p⟩=>thn (k pins s1 σ H1 _ c p) λu C ⟨x,H2,d,z,q⟩=>thn (j pins C σ H2 _ d q) λF G ⟨y,E,e,B,a,b,ex,g,t⟩=>?_) l;subst ex;obtain rfl:u=Value.ref a:=z;exact sJ m e g B w λJ f=>⟨σ,b,f,t⟩
end
theorem uC{P:xx}{w:qq}{b:Hp}(a:qa)(c:sysModules<a.objs.size):aU P w b (a.push {cls:=.type "dict",data:=.dict #[]}) a.objs.size (.dK []) :=
 ⟨zero_le _,beq_eq_false_iff_ne.mpr<|Ne.symm (ne_of_lt c),[],.nil,Heap.DictOf.new a⟩
def zY:TE:=λ_ H Q=>∀p,H p=none->Q (.ref p) (upd H p<|.dK [])
section
variable{X:Cx}{pos:Pos}
theorem dL:PE X (.Dict [] [] pos) zY:=λpins s σ H Q I h =>
 wpAny_Dict_empty ⟨.ref s.heap.objs.size,_,I.laid (a:=s.heap.objs.size) (o:=.dK []) (t':=s.toks) (λ_ _ q=>get?_push_of_some _ q) (le_refl _)<|uC s.heap I.big,rfl,h _<|I.hok.fresh (le_refl _)⟩
end
structure M1(X:Cx)(o:Expr)(m:Str)(apos:Pos)(e:Expr)(cpos:Pos):Prop where
 base:attributeBase o m X.env (eval o X.env)=eval o X.env
 few:((backTo cpos<|starEach [e] X.env).all (λx=>!x.1)&&(backToKw cpos<|keywordEach [] X.env).all (λx=>x.1.isSome)
  && decide (([e]:List Expr).length+([]:List Keyword).length+(if ([]:List Keyword).isEmpty then 0 else 1)<30))=true
 line:(apos.endLine==cpos.line)=true
 trees:backTo cpos (starEach [e] X.env)=[(false,eval e X.env)]
structure M2(X:Cx)(o:Expr)(m:Str)(apos:Pos)(e f:Expr)(cpos:Pos):Prop where
 base:attributeBase o m X.env (eval o X.env)=eval o X.env
 few:((backTo cpos<|starEach [e,f] X.env).all (λx=>!x.1)&&(backToKw cpos<|keywordEach [] X.env).all (λx=>x.1.isSome)
  && decide (([e,f]:List Expr).length+([]:List Keyword).length+(if ([]:List Keyword).isEmpty then 0 else 1)<30))=true
 line:(apos.endLine==cpos.line)=true
 trees:backTo cpos (starEach [e,f] X.env)=[(false,eval e X.env),(false,eval f X.env)]
def IsD(H:Hp)(a:zo):Prop:=(∃kvs,Rd H a<|.dK kvs)\/∃kvs,Rd H a<|.dT kvs
theorem uD{X:Cx}{h:List (zo×Obj)}{i:St}{f:Hp}{s:zi}{a:zo}(g:Inv X h i f s)(d:IsD f a):
  s.TypeIs (.ref a) "dict"/\(∀b,Value.ref a=.ref b->∃ob,s.heap.get? b=some ob/\ob.dict=none)/\(a==sysModules)=false:=by
 rcases d with⟨kvs,e⟩|⟨kvs,e⟩
 ·obtain⟨_,c,vs,_,dd⟩:=jw g.hok e;refine⟨dd.typeIs,λb q=>?_,c⟩;cases q;obtain⟨ob,_,_,h1,h2,_⟩:=dd;exact⟨ob,h1,h2.2.1⟩
 ·obtain⟨_,c,xs,_,dd⟩:=jx g.hok e;refine⟨dd.typeIs,λb q=>?_,c⟩;cases q;obtain⟨ob,_,_,h1,h2,_⟩:=dd;exact⟨ob,h1,h2.2.1⟩
section
variable{X:Cx}{pins:List (zo×Obj)}{σ:St}{H:Hp}{s:zi}{a:zo}{y d:V}{u r:zt}{o:Option V}{A:xg}{E:zt->zi->Prop}
theorem zZ{Q:zt->zi->Prop}(p:A.units+1<cLine)(c:Inv X pins σ H s)(g:cM H a y o)(j:aw y u)(i:∀m s',Inv X pins σ H s'->aw (o.getD .non) m->Q m s'):
  wpAny (model X.prog X.w) A (call (.builtin "dict.get") [.ref a,u]) Q E s:=by
 rcases g with⟨kvs,k,e,d,l⟩|⟨kvs,k,b,e,d,n,l⟩
 ·subst d;obtain⟨q,f,vs,h,dd⟩:=jw c.hok e;refine call_meetsIn slot_dict_get dd.typeIs PySem.F.entry_dict_get (PySem.F.args_dict_get_2 _ _) (meets_dict_get (ap X.prog X.w) a (fX j) f) ⟨_,dd.mapOf,i _ _ (c.tok _) ?_⟩;rw[l];exact(h.val k).getD rfl
 ·subst d;cases (show u=Value.ref b from j);obtain⟨q,f,xs,h,dd⟩:=jx c.hok e;refine call_meetsIn slot_dict_get dd.typeIs PySem.F.entry_dict_get (PySem.F.args_dict_get_2 _ _) (meetsH_dict_get (tupleKind<|ap X.prog X.w) a b f) ⟨tupleKind_room_in1 p,k,xs,iw c.hok n,dd,i _ _ (c.tok _) ?_⟩;rw[l];exact(h.val k).getD rfl
end
def Aa(b c:TE):TE:=λσ H Q=>b σ H λx H1=>∃a,x=.ref a/\IsD H1 a/\c σ H1 λy H2=>∃o,cM H2 a y o/\Q (o.getD .non) H2
def Ab(c e d:TE):TE:=λσ H Q=>c σ H λx H1=>∃a,x=.ref a/\IsD H1 a/\e σ H1 λy H2=>d σ H2 λf b=>∃kvs k,b a=some (.dK kvs)/\y=kV k /\
 (∀v,aO kvs k=some v->Q v (upd b a<|.dK (cO kvs k)))/\(aO kvs k=none->Q f b)
section
variable{X:Cx}{o e f:Expr}{apos cpos:Pos}{td ty tx:TE}
theorem gK(l:X.A.units+1<cLine)(j:PE X o td)(i:PE X e ty)(m:M1 X o "get" apos e cpos):PE X (.Call (.Attribute o "get" apos) [e] [] cpos) (Aa td ty):=by
 intro pins s σ H Q I h;refine wpAny_Call_method m.base m.few m.line plainAttrs_dict slot_dict_get PySem.F.type_dict_get<|thn (j pins s σ H _ I h) λu s1 k=>?_;obtain⟨x,H1,b,r,a,ex,d,n⟩:=k;subst ex;obtain rfl:u=Value.ref a:=r;obtain⟨v,w,_⟩:=uD b d;refine⟨v,w,?_⟩;rw[m.trees];refine callWith_builtin rfl<|evalArgs_plain (spliced_cons<|thn (i pins s1 σ H1 _ b n) λz C ⟨y,H2,c,t,B,g,p⟩=>spliced_nil ?_);exact zZ l c g t λE D f q=>⟨_,H2,f,q,p⟩
theorem uE(t:PE X o td)(q:PE X e ty)(r:PE X f tx)(m:M2 X o "pop" apos e f cpos):PE X (.Call (.Attribute o "pop" apos) [e,f] [] cpos) (Ab td ty tx):=by
 intro pins s σ H Q I h;refine wpAny_Call_method m.base m.few m.line plainAttrs_dict slot_dict_pop PySem.F.type_dict_pop<|thn (t pins s σ H _ I h) λu s1 w=>?_;obtain⟨x,H1,c,E,a,ex,d,z⟩:=w;subst ex;obtain rfl:u=Value.ref a:=E;obtain⟨L,M,_⟩:=uD c d;refine⟨L,M,?_⟩;rw[m.trees];refine callWith_builtin rfl<|evalArgs_plain (spliced_cons (thn (q pins s1 σ H1 _ c z) λO J ⟨y,H2,n,i,A⟩ =>
  spliced_cons (thn (r pins J σ H2 _ n A) λfv P ⟨N,j,g,G,kvs,k,ea,p,B,C⟩=>spliced_nil ?_)))
 subst p;cases l:aO kvs k with
 |some v=>exact BT g ea i l (.inr ⟨fv,rfl⟩) λR K b D=>⟨v,_,b,D,B v l⟩
 |none=>exact zX g ea i l λK b=>⟨N,j,b,G,C l⟩
end
end L2
namespace Att
open PySem PySem.W PySem.Calls PyProof.Rows
theorem iZ{P:Params}{c:qa}:∀(ns:List Int)(vs:List zt),WellAll P c vs (ns.map WData.int)->IntsAre vs ns:=by
 intro ns
 induction ns with
 |nil =>
  intro vs w;rw[map_nil]at w;cases w;exact .nil
 |cons n ns d =>
  intro vs w;rw[map_cons]at w;cases w with
  |cons a b =>
   cases a;exact .cons _ _<|d _ b
theorem sL{l:OpenLaw}{n:Nat}(j:l.most=some n){P:Params}{e:qa}{args:List WData}{vals:List zt}(g:l.row.toRowW.claim.pre args=true)(o:WellAll P e vals args):
  ∃a vs ns,vals=[Value.ref a]/\args=[WData.list<|ns.map WData.int]/\e.get? a=some {cls:=.type "list",data:=.seq vs.toArray}/\IntsAre vs ns/\ns.length<=n:=by
 have m:WShape.hasAll [] args [.list .int]=true:=(pre_splitW g).1;have f:l.pre.holds [] {args:=args}=true:=(pre_splitW g).2;obtain⟨d,r,rfl,h1,h2⟩:=hasAllW_cons m;obtain rfl:=hasAllW_nil h2;obtain⟨xs,rfl,h3⟩:=hasW_list h1;obtain⟨ns,rfl⟩:=items_int h3;have i:ns.length<=n:=by
  unfold OpenLaw.pre at f;have b:(WTm.not<|.lt (.lit<|.int (n:Int)) (.len<|.arg 0)).holds [] {args:=[.list<|ns.map .int]}=true:=by
   have b:=(holds_andW f).1;rw[j]at b;exact b
  have c:=condW_of b<|w_not (w_lt w_lit<|w_len_list (w_arg rfl));rw[length_map]at c;refine Nat.le_of_not_lt λq=>?_;have p:(n:Int)<((ns.length:Nat):Int):=by omega
  first
   |(rw[decide_eq_true p]at c;exact absurd c (by decide))
   |(simp at c;omega)
 cases o with
 |cons s t =>
  cases t;cases s with
  |list k h=>exact⟨_,_,ns,rfl,rfl,k,iZ ns _ h,i⟩
theorem sM(l:OpenLaw)(args:List WData):l.row.toRowW.claim.post args (.bool true) args=true :=
 postW_of (r:=l.row.toRowW) (X:=(true==true))
  (show WShape.has [] (.bool true) .bool=true by first|rfl|decide|simp[WShape.has,WShape.arms,WShape.armsAll])
  (show(WTm.eq .res<|.lit (.bool true)).value [] {args:=args,res:=some<|.bool true,after:=args}=some (.bool<|true==true)from w_eq_bool (w_res rfl) w_lit) rfl
theorem nU{l:OpenLaw}{n:Nat}{q:xx}{m:List Str}{i:(Str->Option zt)->qa->Prop}{j:qq->qa->Prop}{d:DefRec}(D:l.most=some n)(x:d.params.defaults=[])(call:∀(w:qq) (s₀ b:zi) (mg h:Str->Option zt) (c:zo) (o:Obj) (pm e g:zt) (a:zo) (vs:List zt) (ns:List Int),
   Ground q m [] i w s₀ mg h b.heap->j w b.heap ->
   b.heap.get? c=some o->o.data=.func (docDef d.name d.params d.body d.scope pm e g)->b.heap.CodeRec e d.name->mg d.name=some (.ref c) ->
   b.heap.get? a=some {cls:=.type "list",data:=.seq vs.toArray}->IntsAre vs ns->ns.length<=n->b.gens=#[] ->
   codeAny (model l.prog w) callerA (.call (.ref c) ⟨[.ref a],[]⟩) (λr s'=>r=.ok (.ret<|.bool true)/\OldK b.heap s'.heap/\s'.os=b.os/\AllBare s'.gens) b):
  WalkO q m i j l.row.toRowW d [] (λf vs=>PySem.call f vs):=by
 intro w s₀ b mg h G p c o pm e g s kV E v u k C y K vals L H M O J N;obtain rfl:s=.none:=Dflts.none k x;obtain rfl:kV=.none:=Dflts.noKw k;obtain⟨a,vs,ns,rfl,rfl,F,z,A⟩:=sL D H J;refine enter_call<|codeAny_mono (call w s₀ b mg h c o pm e g a vs ns G p E (fd_plain v) u C F z A y) λr s' I=>?_;obtain⟨rfl,h2,h3,t⟩:=I;exact⟨.inl ⟨.bool true,.bool true,[],rfl,λ_=>rfl,.bool true,sM l _,λ_=>⟨Pairwise.nil,λ_ B=>(nomatch B)⟩⟩,h2,h3,t⟩
end Att
namespace L2
open PySem PySem.Spec PyProof.Rows
theorem lA:∀{vs:List zt}{ns:List Int},IntsAre vs ns->aq (ns.map V.int) vs
 |_,_,.nil=>.nil
 |_,_,.cons n t h=>.cons ⟨t,rfl⟩<|lA h
def fA(s:Stmt)(j:Nat):Stmt:=match s with
 |.ClassDef _ _ _ body _ _ _ _ _ _ _=>body.getD j<|.Pass ⟨0,0,0,0⟩
 |_=>.Pass ⟨0,0,0,0⟩
def dy(s:Stmt):Arguments:=match s with
 |.FunctionDef _ a _ _ _ _ _ _ _ _=>a
 |_=>{posonlyargs:=[],args:=[],vararg:=none,kwonlyargs:=[],kw_defaults:=[],kwarg:=none,defaults:=[]}
def aZ(s:Stmt):List Stmt:=match s with
 |.FunctionDef _ _ b _ _ _ _ _ _ _=>b
 |_=>[]
def aj(s:Stmt):Scope:=match s with
 |.FunctionDef _ _ _ _ _ _ a _ _ _=>a
 |_=>{kind:=.function,names:=[],isGenerator:=false,isCoroutine:=false}
abbrev CX0:CXT:=λ_ _ _ _ _ _=>False
abbrev E0:XK:=λ_ _ _=>False
theorem aJ{X:Cx}:de CX0 X E0:=λ_ _ _ _ _ _ _ h=>h.elim
structure Fun(K:Frag)(x qual:Str)(st:Stmt)(f:zo)(fd:xl):Prop where
 ex:∃(oc:zt) (od:Option zo) (kV doc pm:zt) (an:Option zo) (cdv ct:zt) (osl:Array<|Option zt),
  fd=fnOf x qual (dy st) (aZ st) (aj st) .none kV doc pm an cdv ct/\K.lookup f=some ⟨oc,od,.func fd,osl⟩/\codeIn K cdv qual=true
 kp:keepIn K (.ref f)=true
section
variable{P:xx}{w:qq}{K:Frag}{mg:Str->Option zt}{base:qa}
theorem Fun.ok{x qual:Str}{st:Stmt}{f:zo}{a:xl}{N ps:List Str}{k:Nat}{sp:Sp}(F:Fun K x qual st f a)(S:FnScope N ps<|aj st)(g:∀vs H Q E,sp vs H Q E->vs.length=ps.length)(b:∀(cdv:zt) (A:xg) (outer:List Env) (s:zi) (H:Hp) (vs:List V) (Q:VK) (E:XK),Room k (A.deeper<|envOfC qual (aj st) s.heap.objs.size f cdv)->sp vs H Q E ->
   ∃t,PSs (fO CX0 P w K mg base N qual (aj st) f cdv A outer s H E).nox (aZ st) t/\t {nx:=λ_ H'=>Q .non H',rt:=Q} (start N vs) H):FnOk P w K mg base CX0 (k+1) f a ps sp:=by
 obtain⟨n,o,kV,m,pm,j,cdv,l,p,rfl,i,c⟩:=F.ex;refine ux i c S g λA outer s H vs Q E d e=>?_;obtain⟨t,h,q⟩:=b cdv A outer s H vs Q E d e;exact⟨t,h.nox,q⟩
theorem Fun.binds{x qual:Str}{st:Stmt}{f:zo}{c:xl}{ps:List Str}(F:Fun K x qual st f c)(d:∀(kV b pm:zt) (a:Option zo) (cdv ct:zt) (us:List zt),us.length=ps.length->bindArgs (fnOf x qual (dy st) (aZ st) (aj st) .none kV b pm a cdv ct) ⟨us,[]⟩=pure (ps.zip us)):aE K c ps []:=by
 obtain⟨h,i,kV,b,pm,a,cdv,ct,j,rfl,g,e⟩:=F.ex;exact .all<|d kV b pm a cdv ct
theorem gl{x qual:Str}{st:Stmt}{f:zo}{oc:zt}{e a:Option zo}{g:Array (Option zt)}{kV b d cdv ct:zt}(l:K.lookup f=some ⟨oc,e,.func<|fnOf x qual (dy st) (aZ st) (aj st) .none kV b d a cdv ct,g⟩)(c:codeIn K cdv qual=true)(k:keepIn K (.ref f)=true):Fun K x qual st f (fnOf x qual (dy st) (aZ st) (aj st) .none kV b d a cdv ct):=⟨⟨oc,e,kV,b,d,a,cdv,ct,g,rfl,l,c⟩,k⟩
end
theorem bx{A:xg}{k:Nat}(a:Room k A):A.units+1<cLine:=lt_of_le_of_lt (Nat.add_le_add_left (by decide:1<=64) _) a.units
theorem au{n:Nat}(h:n<=1000):n<sizeLine:=lt_of_le_of_lt h (by decide)
section
variable{X:Cx}
theorem pv(i:Nat){x:Str}{pos:Pos}(a:X.N[i]?=some x:=by rfl)(d:Vis X.env.scope x:=by first|exact Or.inl rfl|exact Or.inr (Or.inl rfl)|exact Or.inr<|Or.inr rfl)(c:(x==("__debug__":Str))=false:=by decide)(b:(x==("__classdict__":Str))=false:=by decide):PE X (.Name x pos) (uc i):=zG a d c b
end
theorem dM{A B:Prop}(h:B):if false=true then A else B:=by
 rw[if_neg Bool.false_ne_true];exact h
theorem eU{A B:Prop}(h:A):if true=true then A else B:=by
 rw[if_pos rfl];exact h
theorem Dx{c A B:Prop}[Decidable c](a:c->A)(h2:¬c->B):if c then A else B:=by
 by_cases h:c
 ·rw[if_pos h];exact a h
 ·rw[if_neg h];exact h2 h
def Same(H H':Hp):Prop:=∀b o,H b=some o->H' b=some o
theorem Same.refl(H:Hp):Same H H:=λ_ _ h=>h
theorem Same.trans{d e H2:Hp}(a:Same d e)(b:Same e H2):Same d H2:=λc o h=>b c o<|a c o h
theorem Same.free{H H':Hp}(e:Same H H'){l:zo}(h:H' l=Option.none):H l=Option.none:=by
 cases q:H l with
 |none=>rfl
 |some o =>
  rw[e l o q]at h;cases h
theorem Same.seq{K:Frag}{H H':Hp}{a:zo}{xs:List V}(e:Same H H')(h:SqL K H a xs):SqL K H' a xs:=by
 rcases h with (h|⟨o,h⟩)|h
 ·exact .inl<|.inl (e _ _ h)
 ·exact .inl<|.inr ⟨o,e _ _ h⟩
 ·exact .inr h
section
variable{κ:Type}[DecidableEq κ]
theorem sN{p:κ×V}{r:List (κ×V)}{k:κ}(e:p.1=k):cO (p::r) k=cO r k:=by
 unfold cO;rw[filter_cons,if_neg (by simp[e])]
theorem sO{p:κ×V}{r:List (κ×V)}{k:κ}(e:¬p.1=k):cO (p::r) k=p::cO r k:=by
 unfold cO;rw[filter_cons,if_pos (by simp[e])]
end
structure LcOk(X:Cx)(scope:Scope)(cl:List<|Str×zo):Prop where
 kind:scope.kind=.function
 clos:closureFor scope X.env=pure cl
 names:∀x∈scope.names,x.2=.local->scope.names.lookup x.1=some .local
 nocell:∀x∈scope.names,x.2≠.cell
 cells:∀x c,cl.lookup x=some c->X.env.cells.lookup x=some c
 has:∀x,((relabel scope X.env).names.lookup x=some .cell\/(relabel scope X.env).names.lookup x=some .free)->∃c,cl.lookup x=some c
abbrev cg(X:Cx)(N:List Str)(b:Scope)(cl:List<|Str×zo)(s:zi)(a:Hp)(ex:List zo):Cx :=
 {X with N:=N,s₀:=s,H₀:=a,env:=compEnvC b cl s.heap.objs.size X.env,outer:=X.stack,stack:=X.stack,ex:=ex,fn:=λ_=>false,pn:=[],xe:=λ_ _=>False}
section
variable{X:Cx}{pins:List (zo×Obj)}{σ:St}{H:Hp}{s:zi}{N:List Str}{scope:Scope}{cl:List (Str×zo)}{fp:List zo}
theorem zr(a:Inv X pins σ H s)(g:LcOk X scope cl)(i:∀b∈fp,iX X pins H b)(j:∀b∈fp,b<s.heap.objs.size):(cg X N scope cl s H fp).Ok where
 mod:=a.ok.mod
 kind:=g.kind
 glob:=a.ok.glob
 blt:=a.ok.blt
 above:=le_refl _
 inj:=λx y c h1 h2=>a.ok.inj x y c (g.cells x c h1)<|g.cells y c h2
 has:=λx l=>g.has x l
 cab:=λx c h _=>absurd h (by simp)
 hd:=a.ok.hd
 frames:=a.ok.frames
 stk:=.inl rfl
 exf:=λb d=>⟨ne_of_lt<|j b d,λx c h=>(i b d).2.2.2.2.1 x c (g.cells x c h)⟩
 bs:=a.bs
 bsz:=le_trans a.ok.bsz a.sz
 noex:=λb o e d=>by
  rcases (i b d).2.2.2.1 with f|f
  ·exact a.ok.noex b o e f
  ·exact absurd (lt_of_lt_of_le (lt_size e)<|le_trans a.ok.bsz f)<|lt_irrefl _
 exfs:=λb d k=>by
  rcases mem_cons.mp (a.stkSub b k)with f|f
  ·exact(i b d).2.1 f
  ·exact(i b d).2.2.1 f
 funs:=a.stack
 frf:=a.stkFree
def cA(k:Nat)(js:List Nat)(b:St):St:=replicate k none++js.map λa=>(b[a]?).getD none
theorem uF{n:qa}{tk:Nat}{k:Nat}{js:List Nat}(f:Inv X pins σ H s)(g:LcOk X scope cl)(I:∀b∈fp,iX X pins H b)(O:∀b∈fp,b<s.heap.objs.size)(M:∃m,n.Ns s.heap.objs.size m)(z:∀b o,s.heap.get? b=some o->n.get? b=some o)(G:N.length=k+js.length)(J:∀(i j:Nat) x,js[i]?=some j->N[k+i]?=some x->X.N[j]?=some x/\Vis X.env.scope x/\X.env.scope.names.lookup x≠some .local/\((relabel scope X.env).names.lookup x=some .cell\/(relabel scope X.env).names.lookup x=some .free)):
  Inv (cg X N scope cl s H fp) [] (cA k js σ) H {s with heap:=n,toks:=tk}:=by
 obtain⟨m,L⟩:=M;have A:∀c v,s.heap.IsCell c v->n.IsCell c v:=λc v ⟨o,e,d⟩=>⟨o,z c o e,d⟩;refine⟨zr f g I O,rfl,f.bare,Un.kept z,⟨m,L,λi x v t a R=>?_⟩,λx c e=>?_,f.hok.fresh<|le_refl _,λx c e=>f.freeC x c<|g.cells x c e,λp P=>absurd (show p∈([]:List<|zo×Obj)from P) (by simp),f.hok.kept z,?_⟩
 ·unfold cA at a
  by_cases hi:i<k
  ·rw[getElem?_append_left (by simpa using hi),List.getElem?_replicate]at a
   split at a<;>cases a
  ·obtain⟨i',rfl⟩:∃i',i=k+i':=⟨i-k,by omega⟩;rw[getElem?_append_right (by simp),length_replicate,Nat.add_sub_cancel_left,getElem?_map]at a;cases w:js[i']? with
   |none=>rw[w]at a;cases a
   |some j =>
    rw[w]at a;have l:(σ[j]?).getD none=some v:=Option.some.inj a;obtain⟨h1,h2,h3,C⟩:=J i' j x w t;have D:σ[j]?=some (some v):=by
     cases q:σ[j]? with
     |none=>rw[q]at l;cases l
     |some y=>rw[q]at l;exact congrArg some l
    obtain⟨S,_,K⟩:=f.loc;obtain⟨u,r,Q⟩:=K j x v h1 D h2;refine⟨u,r,.inr ⟨C,?_⟩⟩;rcases Q with⟨q,_⟩|⟨_,c,E,F⟩
    ·exact absurd q h3
    ·obtain⟨h,B⟩:=g.has x C;have:h=c:=Option.some.inj<|(g.cells x h B).symm.trans E;subst this;exact⟨h,B,A h _ F⟩
 ·obtain⟨v,t⟩:=f.cell x c<|g.cells x c e;exact⟨v,A c v t⟩
 ·unfold cA;rw[length_append,length_replicate,length_map];exact G.symm
theorem uG{H':Hp}{y:St}{s':zi}{h':qa}(j:Inv X pins σ H s)(t:∀b∈fp,iX X pins H b)(J:Inv (cg X N scope cl s H fp) [] y H' s')(g:SameBut s.heap.objs.size s'.heap h'):Inv X pins σ H' {s' with heap:=h'}:=by
 have h:∀b o,s.heap.get? b=some o->b≠s.heap.objs.size:=λb o e=>ne_of_lt<|lt_size e;have u:=J.base;have x:Un (frs X.stack) fp H H' s.heap h' :=
  ⟨λb o e n a d=>(g.2 b<|h b o e).trans (u.keep b o e n a d),λb o e n a d=>by
   obtain⟨w,q⟩:=u.slot b o e n a d;exact⟨w,(g.2 b<|h b o e).trans q⟩,u.free,λb o e d=>by
   obtain⟨o',q⟩:=u.there b o e d;exact⟨o',(g.2 b<|h b o e).trans q⟩,u.tups,u.frzs,u.tbls⟩
 have i:∀b o,H' b=some o->b≠s.heap.objs.size:=λb o e f=>by
  have:=J.free;rw[show(cg X N scope cl s H fp).env.locals=s.heap.objs.size from rfl,<-f,e]at this;cases this
 refine j.call' (s':={s' with heap:=h'}) J.os x (λb o e=>?_) J.bare λb a=>?_
 ·refine(J.hok b o e).stay (λc v r q=>(g.2 c ?_).trans q) (λ_ q=>q) λ_ _ q=>q;rcases r with f|f
  ·rw[f];exact i b o e
  ·exact i c _ f
 ·obtain⟨z,k,A,l,m,p⟩:=t b a;exact⟨l,k,m,p⟩
end
section
variable{prog:xx}{w:qq}{A:xg}{R:Result->zi->Prop}{s:zi}
def ocW(prog:xx)(w:qq)(A:xg)(oc:Option Expr)(env:Env)(K:Bool->zi->Prop)(s:zi):Prop:=match oc with
 |none=>K true s
 |some c=>wpAny (model prog w) A (isTrue c env<|eval c env) K (λ_ _=>False) s
theorem jz(e b iter c:Expr)(g:Scope)(pos:Pos)(a d:zt)(env:Env):
  compTurn (.ListComp e [⟨b,iter,[c],0⟩] g pos) 0 a d env=(standAt iter.pos >>= λ_=>pyNext a >>= λr=>match r with
   |none=>pure (.done .next)
   |some v=>letOwnedTupleGo b a v >>= λ_=>assign b env v >>= λ_ =>
    (forIn [c] true λc r=>if r=true then do let f <- isTrue c env (eval c env);pure (ForInStep.yield f)else pure (ForInStep.yield r)) >>= λf =>
    if f=true then (eval e env >>= λx=>call (.builtin "list.append") [d,x] >>= λ_=>pure ()) >>= λ_ =>
     again (.compLoop (.ListComp e [⟨b,iter,[c],0⟩] g pos) 0 a d env)
    else again (.compLoop (.ListComp e [⟨b,iter,[c],0⟩] g pos) 0 a d env)):=by rfl
theorem xJ{l j iter:Expr}{oc:Option Expr}{u:Scope}{pos:Pos}{g k:zt}{env:Env}(e:Nat->zi->Prop)(y:∀n s,e n s->wpAny (model prog w) A (pyNext g) (λr h=>match r with
   |none=>R (.ok .next) h
   | some v=>wpAny (model prog w) A (letOwnedTupleGo j g v) (λ_ q=>wpAny (model prog w) A (assign j env v) (λ_ a=>ocW prog w A oc env (λp a =>
     if p=true then wpAny (model prog w) A (eval l env) (λx i =>
      wpAny (model prog w) A (call (.builtin "list.append") [k,x]) (λ_ B=>∃m,m<n/\e m B) (λ_ _=>False) i) (λ_ _=>False) a
     else ∃m,m<n/\e m a) a) (λ_ _=>False) q) (λ_ _=>False) h) (λ_ _=>False) s)(n:Nat)(z:e n s):codeAny (model prog w) A (.compLoop (.ListComp l [⟨j,iter,oc.toList,0⟩] u pos) 0 g k env) R s:=by
 refine codeAny_loop rfl e (λn s t=>?_) n z;show wpAny _ _ ((compTurn (.ListComp l [⟨j,iter,oc.toList,0⟩] u pos) 0 g k env).onRaise (λx=>do noteFrame x env;theTreesLotGoes x)) _ _ s;refine wpAny_noted ?_;cases oc with
 |none =>
  rw[show(none:Option Expr).toList=[]from rfl,compTurn_list1];refine Wb<|wpAny_standAt (Wb<|wpAny_mono (y n s t) (λr h f=>?_) λ_ _ h'=>h'.elim);cases r with
  |none=>exact Wp f
  |some v =>
   refine Wb<|wpAny_mono f (λ_ q o=>Wb<|wpAny_mono o (λ_ a b=>?_) λ_ _ h'=>h'.elim) λ_ _ h'=>h'.elim;exact Wb<|Wb (wpAny_mono (show wpAny _ _ _ _ _ _ from b) (λx a b=>Wb<|wpAny_mono b (λ_ i d=>Wp<|Wp ⟨rfl,d⟩) λ_ _ h'=>h'.elim) λ_ _ h'=>h'.elim)
 |some c =>
  rw[show(some c).toList=[c]from rfl,jz];refine Wb<|wpAny_standAt (Wb<|wpAny_mono (y n s t) (λr h f=>?_) λ_ _ h'=>h'.elim);cases r with
  |none=>exact Wp f
  |some v =>
   refine Wb<|wpAny_mono f (λ_ q o=>Wb<|wpAny_mono o (λ_ a b=>?_) λ_ _ h'=>h'.elim) λ_ _ h'=>h'.elim;rw[List.forIn_cons];simp only[if_true];refine Wb<|Wb (Wb<|wpAny_mono (show wpAny _ _ _ _ _ _ from b) (λp i d=>Wp ?_) λ_ _ h'=>h'.elim);simp only[List.forIn_nil];refine Wp ?_;cases p with
   |true=>exact Wb<|Wb (wpAny_mono (show wpAny _ _ _ _ _ _ from d) (λx a b=>Wb<|wpAny_mono b (λ_ i d=>Wp<|Wp ⟨rfl,d⟩) λ_ _ h'=>h'.elim) λ_ _ h'=>h'.elim)
   |false=>exact Wp ⟨rfl,d⟩
end
def LcW(k:Nat)(js:List Nat)(g:TG)(h:TE)(j:St)(Q:VK)(J:It)(e:Hp)(p:zo):Prop:=∃W:Nat->Nat->List V->St->Hp->Prop,
 (∃m,W 0 m [] (cA k js j)<|upd e p (.lst []))/\∀i m ys c H',W i m ys c H'->(J.stop i H'/\Q (.ref p) H') \/
  (J.go i H'/\ys.length<sizeLine/\∀x H2,J.yld i H' x H2->g x c H2 λd f=>h d f λy a=>a p=some (.lst ys)/\∃b,b<m/\W (i+1) b (ys++[y]) d (upd a p<|.lst (ys++[y])))
def tLc(k:Nat)(js:List Nat)(c:TI)(g:TG)(b:TE):TE:=λσ H Q=>c σ H λa H1=>∀p,H1 p=none->LcW k js g b σ Q a H1 p
def pU(k:Nat)(js:List Nat)(g:TG)(tc:TT)(l:TE)(n:St)(Q:VK)(J:It)(h:Hp)(p:zo):Prop:=∃W:Nat->Nat->List V->St->Hp->Prop,
 (∃m,W 0 m [] (cA k js n)<|upd h p (.lst []))/\∀i m ys f H',W i m ys f H'->(J.stop i H'/\Q (.ref p) H') \/
  (J.go i H'/\ys.length<sizeLine/\∀x H2,J.yld i H' x H2->g x f H2 λc j=>tc c j λb d=>if b=true then l c d λy e=>e p=some (.lst ys)/\∃a,a<m/\W (i+1) a (ys++[y]) c (upd e p<|.lst (ys++[y]))
   else ∃a,a<m/\W (i+1) a ys c d)
def BY(k:Nat)(js:List Nat)(c:TI)(g:TG)(tc:TT)(b:TE):TE:=λσ H Q=>c σ H λa H1=>∀p,H1 p=none->pU k js g tc b σ Q a H1 p
def ocT(X:Cx)(oc:Option Expr)(tc:TT):Prop:=match oc with
 |none=>∀σ H K,tc σ H K->K true H
 |some c=>PT X c tc
theorem xK{X:Cx}{oc:Option Expr}{tc:TT}{f:List (zo×Obj)}{s:zi}{d:St}{a:Hp}{K:Bool->Hp->Prop}{h:Bool->zi->Prop}(i:ocT X oc tc)(j:X.xe=λ_ _=>False)(g:Inv X f d a s)(q:tc d a K)(m:∀b s',TP X f d K b s'->h b s'):ocW X.prog X.w X.A oc X.env h s:=by
 cases oc with
 |none=>exact m true s ⟨a,g,i d a K q⟩
 |some c=>exact wpAny_mono (i f s d a K g q) m λ_ _ e=>by rw[j]at e;exact e
section
variable{X:Cx}{N:List Str}{scope:Scope}{cl:List (Str×zo)}{k:Nat}{js:List Nat}
theorem rc{S K iter:Expr}{oc:Option Expr}{pos q:Pos}{c8:TI}{g:TG}{tc:TT}{c6:TE}{a5:Option (zt->Sem Unit)}{Qc:zt->zi->Prop}{Q:VK}{C:List (zo×Obj)}{s:zi}{E:St}{m:Hp}(b7:X.calm=true)(t:LcOk X scope cl)(e1:N.length=k+js.length)(e6:∀(i j:Nat) x,js[i]?=some j->N[k+i]?=some x->X.N[j]?=some x/\Vis X.env.scope x/\X.env.scope.names.lookup x≠some .local/\((relabel scope X.env).names.lookup x=some .cell\/(relabel scope X.env).names.lookup x=some .free))(e5:PI X K iter c8)(e4:∀s m fp,PG (cg X N scope cl s m fp) K g)(f2:∀s m fp,ocT (cg X N scope cl s m fp) oc tc)(e3:∀s m fp,PE (cg X N scope cl s m fp) S c6)(f0:∀x,foldedSetIterable iter X.env x=pure x){b3:It->Hp->zo->Prop}(e0:∀J H1 p,b3 J H1 p->pU k js g tc c6 E Q J H1 p)(d0:Inv X C E m s)(U:c8 E m λJ H1=>∀p,H1 p=none->b3 J H1 p)(d7:∀{a3 I:zi} {P z:Hp} {h9:St} {fp:List zo} {p:zo},Inv X C E P a3->(∀b∈fp,iX X C P b)->Inv (cg X N scope cl a3 P fp) [] h9 z I->Q (.ref p) z->compPost (model X.prog X.w) X.A X.xe a5 Qc (.ref p) a3.heap.objs.size (.ok .next) I):
  wpAny (model X.prog X.w) X.A (comprehension (.ListComp S [⟨K,iter,oc.toList,0⟩] scope pos) scope X.env q (newList []) false (eval iter X.env) a5) Qc X.xe s:=by
 refine wpAny_comprehension_free rfl f0 t.clos t.kind t.names ?_;refine thn (e5 C s E m _ d0 U) λv s1 h1=>thn h1 λi0 f h2=>?_;obtain⟨f4,fp,c7,J,H2,e,b1,T,c4,b4,e2⟩:=h2;subst e;have b8:∀b∈fp,b<f.heap.objs.size:=λb a=>by
  obtain⟨o,e,_⟩:=T.obj _ _ c4 b a;exact lt_size e
 refine wpAny_newObj_type<|wpAny_newFunctionEnv t.nocell (by intro y f3;simp at f3) (λh₁ Z a1=>?_) t.kind;dsimp only at Z a1|-;obtain⟨W,⟨f6,h6⟩,h5⟩:=e0 _ _ _<|e2 f.heap.objs.size (b1.hok.fresh<|le_refl _);have H:Inv X C E (upd H2 f.heap.objs.size<|.lst []) {f with heap:=f.heap.push {cls:=.type "list",dict:=none,data:=.seq ([]:List zt).toArray}}:=b1.lnew (t':=f.toks) .nil<|zero_le _
 generalize b6:f.heap.push {cls:=.type "list",dict:=none,data:=.seq ([]:List zt).toArray}=l at Z a1 H|-;have f1:l.objs.size=f.heap.objs.size+1:=by rw[<-b6,size_push]
 have f5:∀b o,f.heap.get? b=some o->l.get? b=some o:=λb o e=>by rw[<-b6];exact get?_push_of_some _ e
 have F:∀b∈fp,iX X C (upd H2 f.heap.objs.size<|.lst []) b:=λb a=>⟨by rw[ae<|ne_of_lt (b8 b a)];exact(b4 b a).1,(b4 b a).2⟩;have V:∀b∈fp,b<l.objs.size:=λb a=>by rw[f1];exact lt_succ_of_lt<|b8 b a
 have b9:∀b o,l.get? b=some o->h₁.get? b=some o:=λb o e=>a1.extBut b o (ne_of_lt<|lt_size e)<|get?_push_of_some _ e;have d1:=uF (N:=N) (k:=k) (js:=js) (tk:=f.toks+([]:List<|Str×zt).length) H t F V ⟨_,Z⟩ b9 e1 e6;have c3:c7 0 h₁:=T.keep _ _ _ c4 λb a o e=>b9 b o<|f5 b o e;have a4:∀{H':Hp},(∀b∈fp,H' b=none)->∀b∈fp,iX (cg X N scope cl {f with heap:=l} (upd H2 f.heap.objs.size<|.lst []) fp) [] H' b:=λe8 b a =>
  ⟨e8 b a,ne_of_lt<|V b a,(zr (N:=N) H t F V).exfs b a,.inl a,λx c U=>(F b a).2.2.2.2.1 x c (t.cells x c U),λp e9=>absurd (show p∈([]:List<|zo×Obj)from e9) (by simp)⟩
 have c0:codeAny (model X.prog X.w) X.A (.compLoop (.ListComp S [⟨K,iter,oc.toList,0⟩] scope pos) 0 (.ref f4) (.ref f.heap.objs.size)<|compEnvC scope cl l.objs.size X.env)
   (compPost (model X.prog X.w) X.A X.xe a5 Qc (.ref f.heap.objs.size) l.objs.size) {f with heap:=h₁,toks:=f.toks+([]:List<|Str×zt).length}:=by
  refine xJ (λn s'=>∃i ys c9 H',Inv (cg X N scope cl {f with heap:=l} (upd H2 f.heap.objs.size<|.lst []) fp) [] c9 H' s'/\c7 i s'.heap/\(∀b∈fp,H' b=none)/\W i n ys c9 H') ?_ f6 ⟨0,[],_,_,d1,c3,λb a=>(F b a).1,h6⟩
  rintro n c1 ⟨i,ys,M,z,b2,c5,b5,h7⟩;rcases h5 i n ys M z h7 with⟨stop,f8⟩|⟨go,e7,step⟩
  ·refine thn (T.done (cg X N scope cl {f with heap:=l} (upd H2 f.heap.objs.size<|.lst []) fp) rfl rfl rfl b7 i [] c1 M z (λ_ _=>False) b2 (a4 b5) c5 stop) λr I h=>?_
   obtain⟨a0,d2⟩:=h;subst a0;exact d7 H F d2 f8
  ·refine thn (T.item (cg X N scope cl {f with heap:=l} (upd H2 f.heap.objs.size<|.lst []) fp) rfl rfl rfl b7 i [] c1 M z (λ_ _=>False) b2 (a4 b5) c5 go) λr I h=>?_
   obtain⟨u,a0,d9⟩:=h;subst a0;refine thn d9 λ_ h3 h=>?_;obtain⟨x,a7,d3,f9,h8,G,d8⟩:=h;have d4:=d3.pinned (a4 d8)<|T.obj _ _ G;refine thn (e4 _ _ _ _ h3 M a7 x u _ d4 f9<|step x a7 h8) λ_ c2 h=>?_;obtain⟨O,a8,B,D⟩:=h;refine xK (f2 _ _ _) rfl B D λb c2 h=>?_;obtain⟨a8,B,D⟩:=h;cases b with
   |true =>
    rw[if_pos rfl]at D|-;refine thn (e3 _ _ _ _ c2 O a8 _ B D) λy h4 h=>?_;obtain⟨L,a9,d5,h0,f7,a2,Y,a6⟩:=h;refine thn (aM _ h4 O a9 (.ref f.heap.objs.size) [L] _ _ (λ_ b0=>b0=upd a9 f.heap.objs.size (.lst<|ys++[L])) d5 rfl (.cons h0 .nil) ⟨_,ys,L,rfl,rfl,f7,e7,rfl⟩) λ_ i1 h=>?_;obtain⟨_,b0,R,_,d6⟩:=h;subst d6;refine⟨a2,Y,i+1,ys++[L],O,_,R.unpinned,T.keep _ _ _ G λb a o e=>(R.pin (b,o)<|mem_append_right _ (mem_append_right _<|cr a e)).1,λb a=>?_,a6⟩;obtain⟨o,e,d⟩:=T.obj _ _ G b a;exact(R.pin (b,o)<|mem_append_right _ (mem_append_right _<|cr a e)).2.1
   |false =>
    rw[if_neg (by simp)]at D|-;obtain⟨a2,Y,a6⟩:=D;refine⟨a2,Y,i+1,ys,O,_,B.unpinned,T.keep _ _ _ G λb a o e=>(B.pin (b,o)<|mem_append_right _ (mem_append_right _<|cr a e)).1,λb a=>?_,a6⟩;obtain⟨o,e,d⟩:=T.obj _ _ G b a;exact(B.pin (b,o)<|mem_append_right _ (mem_append_right _<|cr a e)).2.1
 exact codeAny_compStart_list c0<|T.self _ 0 _ _ _ c3 c0
theorem xL{g:TG}{b:TE}{c:St}{Q:VK}(J:It)(a:Hp)(p:zo)(d:LcW k js g b c Q J a p):pU k js g (λ_ H K=>K true H) b c Q J a p:=by
 obtain⟨W,f,e⟩:=d;exact⟨W,f,e⟩
theorem uH{d a iter:Expr}{oc:Option Expr}{pos:Pos}{f:TI}{g:TG}{tc:TT}{e:TE}{c:St->VK->It->Hp->zo->Prop}(q:∀{σ Q} J H1 p,c σ Q J H1 p->pU k js g tc e σ Q J H1 p)(t:X.calm=true)(n:LcOk X scope cl)(r:N.length=k+js.length)(y:∀(i j:Nat) x,js[i]?=some j->N[k+i]?=some x->X.N[j]?=some x/\Vis X.env.scope x/\X.env.scope.names.lookup x≠some .local/\((relabel scope X.env).names.lookup x=some .cell\/(relabel scope X.env).names.lookup x=some .free))(w:PI X a iter f)(v:∀s H fp,PG (cg X N scope cl s H fp) a g)(C:∀s H fp,ocT (cg X N scope cl s H fp) oc tc)(u:∀s H fp,PE (cg X N scope cl s H fp) d e)(A:∀x,foldedSetIterable iter X.env x=pure x):PE X (.ListComp d [⟨a,iter,oc.toList,0⟩] scope pos) (λσ H Q=>f σ H λJ H1=>∀p,H1 p=none->c σ Q J H1 p):=by
 intro pins s σ H Q I h;rw[eval_ListComp];exact rc t n r y w v C u A q I h λl o b D=>let⟨m,z,_⟩:=b.loc;⟨m,z,λh' B=>⟨.ref _,_,uG l o b B,rfl,D⟩⟩
theorem fY{b a iter:Expr}{pos:Pos}{d:TI}{g:TG}{c:TE}(l:X.calm=true)(e:LcOk X scope cl)(f:N.length=k+js.length)(p:∀(i j:Nat) x,js[i]?=some j->N[k+i]?=some x->X.N[j]?=some x/\Vis X.env.scope x/\X.env.scope.names.lookup x≠some .local/\((relabel scope X.env).names.lookup x=some .cell\/(relabel scope X.env).names.lookup x=some .free))(o:PI X a iter d)(n:∀s H fp,PG (cg X N scope cl s H fp) a g)(m:∀s H fp,PE (cg X N scope cl s H fp) b c)(q:∀x,foldedSetIterable iter X.env x=pure x:=by intro _;rfl):PE X (.ListComp b [⟨a,iter,[],0⟩] scope pos) (tLc k js d g c):=uH (oc:=none) xL l e f p o n (λ_ _ _ _ _ _ h=>h) m q
theorem pV{b a iter c:Expr}{pos:Pos}{e:TI}{g:TG}{tc:TT}{d:TE}(m:X.calm=true)(f:LcOk X scope cl)(l:N.length=k+js.length)(q:∀(i j:Nat) x,js[i]?=some j->N[k+i]?=some x->X.N[j]?=some x/\Vis X.env.scope x/\X.env.scope.names.lookup x≠some .local/\((relabel scope X.env).names.lookup x=some .cell\/(relabel scope X.env).names.lookup x=some .free))(p:PI X a iter e)(o:∀s H fp,PG (cg X N scope cl s H fp) a g)(t:∀s H fp,PT (cg X N scope cl s H fp) c tc)(n:∀s H fp,PE (cg X N scope cl s H fp) b d)(r:∀x,foldedSetIterable iter X.env x=pure x:=by intro _;rfl):PE X (.ListComp b [⟨a,iter,[c],0⟩] scope pos) (BY k js e g tc d):=uH (oc:=some c) (λ_ _ _ h=>h) m f l q p o t n r
end
end L2
namespace TB
open PySem PySem.SetTable
def adv(mask:Nat)(p:Probe):Probe :=
 if p.more>0 then {p with j:=p.j+1,more:=p.more-1} else
 {p with j:=(leap mask p.i p.perturb).1,more:=runEnd mask (leap mask p.i p.perturb).1-(leap mask p.i p.perturb).1,i:=(leap mask p.i p.perturb).1,perturb:=(leap mask p.i p.perturb).2}
theorem pW(t:SetTable)(p:Probe):advance t p=adv t.mask p:=rfl
def lvP(mask:Nat)(x:Nat×Nat):Probe:={j:=x.1,more:=runEnd mask x.1-x.1,i:=x.1,perturb:=x.2,dummy:=none}
def st(mask:Nat)(h:Int):Probe:=lvP mask (bits h % (mask+1),bits h)
def nth(mask:Nat):Probe->Nat->Probe
 |p,0=>p
 |p,n+1=>nth mask (adv mask p) n
theorem gL(mask:Nat):∀(a b:Nat)(p:Probe),nth mask p (a+b)=nth mask (nth mask p a) b
 |0,b,p=>by rw[zero_add];rfl
 |a+1,b,p=>by
  rw[show a+1+b=(a+b)+1 by omega];show nth mask (adv mask p) (a+b)=nth mask (nth mask (adv mask p) a) b;exact gL mask a b _
theorem uI(mask:Nat)(p:Probe)(n:Nat):nth mask p (n+1)=adv mask (nth mask p n):=by
 rw[gL];rfl
def pos(mask:Nat)(h:Int)(n:Nat):Nat:=(nth mask (st mask h) n).j
theorem lB(mask:Nat):∀(m:Nat)(p:Probe),p.more=m->nth mask p m={p with j:=p.j+m,more:=0}
 |0,p,h=>by
  show p=_;cases p;simp at h;subst h;rfl
 |m+1,p,h=>by
  show nth mask (adv mask p) m=_;have e:adv mask p={p with j:=p.j+1,more:=m}:=by
   unfold adv;rw[if_pos (by omega),h];rfl
  rw[e,lB mask m _ rfl];simp only[Probe.mk.injEq,and_true];omega
theorem nW(mask:Nat):∀(m:Nat)(p:Probe),m<=p.more->nth mask p m={p with j:=p.j+m,more:=p.more-m}
 |0,p,h=>by
  show p=_;cases p;rfl
 |m+1,p,h=>by
  show nth mask (adv mask p) m=_;have e:adv mask p={p with j:=p.j+1,more:=p.more-1}:=by
   unfold adv;rw[if_pos (by omega)]
  rw[e,nW mask m _ (by show m<=p.more-1;omega)];simp only[Probe.mk.injEq,and_true];omega
theorem gm(mask:Nat)(x:Nat×Nat):nth mask (lvP mask x) (runEnd mask x.1-x.1+1)=lvP mask (leap mask x.1 x.2):=by
 have e:=lB mask (runEnd mask x.1-x.1) (lvP mask x) rfl;rw[uI,e];unfold adv;rw[if_neg (by simp)];rfl
theorem Ac(mask i:Nat):runEnd mask i-i<=9:=by unfold runEnd;split<;>omega
def lv(mask:Nat):Nat->Nat×Nat->Nat×Nat
 |0,x=>x
 |k+1,x=>lv mask k<|leap mask x.1 x.2
theorem pX(mask:Nat):∀(a b:Nat)(x:Nat×Nat),lv mask (a+b) x=lv mask b (lv mask a x)
 |0,b,x=>by rw[zero_add];rfl
 |a+1,b,x=>by
  rw[show a+1+b=(a+b)+1 by omega];exact pX mask a b _
theorem nX(mask:Nat):∀(k:Nat)(x:Nat×Nat),∃n,n<=10*k/\nth mask (lvP mask x) n=lvP mask (lv mask k x)
 |0,x=>⟨0,by omega,rfl⟩
 |k+1,x=>by
  obtain⟨n,a,e⟩:=nX mask k<|leap mask x.1 x.2;refine⟨(runEnd mask x.1-x.1+1)+n,?_,?_⟩
  ·have:=Ac mask x.1;omega
  ·rw[gL,gm];exact e
theorem gq(mask:Nat):∀(k:Nat)(x:Nat×Nat),(lv mask k x).2=x.2 / 32 ^ k
 |0,x=>by simp[lv]
 |k+1,x=>by
  show(lv mask k<|leap mask x.1 x.2).2=_;rw[gq mask k];show x.2 / 32 / 32 ^ k=_;rw[Nat.div_div_eq_div_mul,Nat.pow_succ,Nat.mul_comm 32]
theorem re(mask:Nat):∀(k:Nat)(x:Nat×Nat),x.1<=mask->(lv mask k x).1<=mask
 |0,x,h=>h
 |k+1,x,h=>re mask k _ (by show(x.1*5+1+x.2 / 32) % (mask+1)<=mask;have:=mod_lt (x.1*5+1+x.2 / 32) (show 0<mask+1 by omega);omega)
theorem rf(h:Int):bits h<2 ^ 64:=by
 unfold bits;have h1:=emod_nonneg h (b:=2 ^ 64) (by decide);have h2:=Int.emod_lt_of_pos h (b:=2 ^ 64) (by decide);omega
def gM(mask:Nat):Nat->Nat->Nat
 |0,i=>i
 |k+1,i=>gM mask k<|(i*5+1) % (mask+1)
theorem jA(mask:Nat):∀(k i:Nat),lv mask k (i,0)=(gM mask k i,0)
 |0,i=>rfl
 |k+1,i=>by
  show lv mask k ((i*5+1+0 / 32) % (mask+1),0 / 32)=_;simp only[Nat.zero_div,add_zero];exact jA mask k _
def Cyc(mask:Nat):Prop:=∀i,i<=mask->∀j,j<=mask->∃k,k<=mask/\gM mask k i=j
theorem fH(mask:Nat):∀(a b i:Nat),gM mask (a+b) i=gM mask b (gM mask a i)
 |0,b,i=>by rw[zero_add];rfl
 |a+1,b,i=>by
  rw[show a+1+b=(a+b)+1 by omega];exact fH mask a b _
def xM(mask:Nat):Nat->Nat->List Nat
 |0,_=>[]
 |n+1,i=>i::xM mask n ((i*5+1) % (mask+1))
theorem nY{mask j:Nat}:∀{n i:Nat},j∈xM mask n i->∃k,k<n/\gM mask k i=j
 |0,_,h=>by simp[xM]at h
 |n+1,i,h=>by
  rcases mem_cons.mp h with e|e
  ·exact⟨0,by omega,e.symm⟩
  ·obtain⟨k,b,a⟩:=nY e;exact⟨k+1,by omega,a⟩
theorem uJ{mask:Nat}(g:gM mask (mask+1) 0=0)(d:(List.range<|mask+1).all (λj=>(xM mask (mask+1) 0).contains j)=true):Cyc mask:=by
 have all:∀j,j<=mask->∃k,k<=mask/\gM mask k 0=j:=λj f=>by
  rw[all_eq_true]at d;have h1:=d j<|mem_range.mpr (by omega);rw[List.contains_iff_mem]at h1;obtain⟨k,n,e⟩:=nY h1;exact⟨k,by omega,e⟩
 intro i hi j f;obtain⟨a,h,ea⟩:=all i hi;obtain⟨b,m,c⟩:=all j f
 by_cases l:a<=b
 ·refine⟨b-a,by omega,?_⟩;rw[<-ea,<-fH,show a+(b-a)=b by omega];exact c
 ·refine⟨mask+1-a+b,by omega,?_⟩;rw[<-ea,<-fH,show a+(mask+1-a+b)=(mask+1)+b by omega,fH,g];exact c
def Mk(m:Nat):Prop:=m=7\/m=15\/m=31\/m=63\/m=127\/m=255
theorem Mk.cyc{m:Nat}(h:Mk m):Cyc m:=by
 rcases h with e|e|e|e|e|e<;>subst e<;>exact uJ (by decide +kernel) (by decide +kernel)
theorem Mk.ge{m:Nat}(h:Mk m):7<=m/\m<=255:=by rcases h with e|e|e|e|e|e<;>subst e<;>omega
def mkB(m:Nat):Bool:=m==7||m==15||m==31||m==63||m==127||m==255
theorem Ad:(List.range 256).all (λw=>mkB (sizeAbove w-1)&&decide (w<=sizeAbove w-1)&&decide (sizeAbove w<=256))=true:=by decide +kernel
theorem jB{w:Nat}(h:w<=255):Mk (sizeAbove w-1)/\w<=sizeAbove w-1/\sizeAbove w<=256:=by
 have h1:=(all_eq_true.mp Ad) w (mem_range.mpr (by omega));rw[and_eq_true,and_eq_true,decide_eq_true_eq,decide_eq_true_eq]at h1;refine⟨?_,h1.1.2,h1.2⟩;have h2:=h1.1.1;unfold mkB at h2;rw[or_eq_true,or_eq_true,or_eq_true,or_eq_true,or_eq_true,beq_iff_eq,beq_iff_eq,beq_iff_eq,beq_iff_eq,beq_iff_eq,beq_iff_eq]at h2;rcases h2 with ((((h|h)|h)|h)|h)|h
 ·exact .inl h
 ·exact .inr<|.inl h
 ·exact .inr<|.inr (.inl h)
 ·exact .inr<|.inr (.inr<|.inl h)
 ·exact .inr<|.inr (.inr<|.inr (.inl h))
 ·exact .inr<|.inr (.inr<|.inr (.inr h))
theorem cover{mask:Nat}(c:Cyc mask)(a:Int){j:Nat}(f:j<=mask):∃n,n<10*turns mask/\pos mask a n=j:=by
 have d:(lv mask 13 (bits a % (mask+1),bits a)).2=0:=by
  rw[gq];have:=rf a;exact Nat.div_eq_of_lt (by have e:(32:Nat) ^ 13=36893488147419103232:=(by decide);rw[e];show bits a<_;omega)
 have h1:(lv mask 13 (bits a % (mask+1),bits a)).1<=mask:=re mask _ _ (by have:=mod_lt (bits a) (show 0<mask+1 by omega);show bits a % (mask+1)<=mask;omega);obtain⟨k,g,e⟩:=c _ h1 j f;obtain⟨n,h,b⟩:=nX mask (13+k) (bits a % (mask+1),bits a);refine⟨n,by unfold turns;omega,?_⟩;unfold pos st;rw[b,pX];have ex:lv mask 13 (bits a % (mask+1),bits a)=((lv mask 13 (bits a % (mask+1),bits a)).1,0):=by rw[<-d]
 rw[ex,jA];exact e
def InT(mask:Nat)(p:Probe):Prop:=p.j+p.more<=mask
theorem ix{mask i:Nat}(h:i<=mask):runEnd mask i<=mask/\i<=runEnd mask i:=by unfold runEnd;split<;>omega
theorem xO{mask:Nat}{p:Probe}(b:InT mask p):InT mask (adv mask p):=by
 unfold adv InT at *
 split
 ·show p.j+1+(p.more-1)<=mask;omega
 ·have a:(leap mask p.i p.perturb).1<=mask:=by
   show(p.i*5+1+p.perturb / 32) % (mask+1)<=mask;have:=mod_lt (p.i*5+1+p.perturb / 32) (show 0<mask+1 by omega);omega
  have:=ix a;show(leap mask p.i p.perturb).1+(runEnd mask (leap mask p.i p.perturb).1-(leap mask p.i p.perturb).1)<=mask;omega
theorem rg{mask:Nat}:∀(n:Nat){p:Probe},InT mask p->InT mask (nth mask p n)
 |0,_,h=>h
 |n+1,_,h=>rg n<|xO h
theorem Ae{mask:Nat}{x:Nat×Nat}(h:x.1<=mask):InT mask (lvP mask x):=by
 have:=ix h;show x.1+(runEnd mask x.1-x.1)<=mask;omega
theorem jC(mask:Nat)(h:Int)(n:Nat):pos mask h n<=mask:=by
 have:InT mask (nth mask (st mask h) n):=rg n<|Ae (by have:=mod_lt (bits h) (show 0<mask+1 by omega);show bits h % (mask+1)<=mask;omega);unfold InT at this;unfold pos;omega
theorem uK(E:Nat->Prop):∀N,E N->∃n,n<=N/\E n/\∀m,m<n->¬E m
 |N,h=>by
  induction N using Nat.strongRecOn with
  |_ N c =>
   by_cases z:∃m,m<N/\E m
   ·obtain⟨m,a,e⟩:=z;obtain⟨n,f,b,d⟩:=c m a e;exact⟨n,by omega,b,d⟩
   ·exact⟨N,le_refl _,h,λm a e=>z ⟨m,a,e⟩⟩
theorem lC(mask:Nat):∀(n:Nat)(p:Probe),(nth mask p n).dummy=p.dummy
 |0,_=>rfl
 |n+1,p=>by
  show(nth mask (adv mask p) n).dummy=_;rw[lC mask n];unfold adv
  split<;>rfl
theorem nZ(t:SetTable)(c:Nat->Int)(b:Int):∀(n:Nat)(p:Probe)(a:Nat),n<a ->
  (∀m,m<n->∃i,t.slot (nth t.mask p m).j=.live i/\(c i==b)=false)->t.slot (nth t.mask p n).j=.empty ->
  probe.go t c b a p=some (.empty (nth t.mask p n).j p.dummy)
 |0,p,a+1,_,_,e=>by
  have d:t.slot p.j=.empty:=e;unfold probe.go;rw[d];rfl
 |n+1,p,a+1,hf,hl,e=>by
  obtain⟨i,h1,h2⟩:=hl 0 (by omega);have f:t.slot p.j=.live i:=h1;unfold probe.go;rw[f];simp only[h2,false_eq_true,if_false,pW];rw[nZ t c b n (adv t.mask p) a (by omega) (λm g=>hl (m+1) (by omega)) e]
  congr 2
  exact lC t.mask 1 p
theorem jD(xs:Array Nat)(j:Nat)(d:∀a b,a<b->b<xs.size->xs.getD a 0<xs.getD b 0):∀(c lo hi:Nat),hi-lo<=c->lo<=hi->hi<=xs.size ->
  (∀k,k<lo->xs.getD k 0<j)->(∀k,hi<=k->k<xs.size->j<=xs.getD k 0) ->
  below.go xs j c lo hi<=xs.size/\(∀k,k<below.go xs j c lo hi->xs.getD k 0<j)/\(∀k,below.go xs j c lo hi<=k->k<xs.size->j<=xs.getD k 0)
 |0,lo,hi,hf,hl,hh,h1,h2=>by
  have e:lo=hi:=by omega
  subst e;exact⟨hh,h1,h2⟩
 |c+1,lo,hi,hf,hl,hh,h1,h2=>by
  unfold below.go
  by_cases g:lo<hi
  ·rw[if_pos g];have m:(lo+hi) / 2<hi:=by omega
   have n:lo<=(lo+hi) / 2:=by omega
   have h:xs.getD ((lo+hi) / 2) j=xs.getD ((lo+hi) / 2) 0:=by
    rw[getD_eq_getD_getElem?,getD_eq_getD_getElem?,Array.getElem?_eq_getElem (by omega)];rfl
   simp only[h]
   split
   ·rename_i f
    refine jD xs j d c _ hi (by omega) (by omega) hh (λk i=>?_) h2
    by_cases e:k=(lo+hi) / 2
    ·rw[e];exact f
    ·have:=d k ((lo+hi) / 2) (by omega) (by omega);omega
   ·rename_i f
    refine jD xs j d c lo _ (by omega) (by omega) (by omega) h1 λk i l=>?_
    by_cases e:k=(lo+hi) / 2
    ·rw[e];omega
    ·have:=d ((lo+hi) / 2) k (by omega) l;omega
  ·rw[if_neg g];have e:lo=hi:=by omega
   subst e;exact⟨hh,h1,h2⟩
def Up(l:List Nat):Prop:=l.Pairwise (· < ·)
theorem Af{l:List Nat}(c:Up l){a b:Nat}(e:a<b)(d:b<l.length):l.toArray.getD a 0<l.toArray.getD b 0:=by
 unfold Up at c;have:=pairwise_iff_getElem.mp c a b (by omega) d e;simp[getD_eq_getD_getElem?,show a<l.length by omega,d];exact this
theorem cu{l:List Nat}(d:Up l)(j:Nat):below l.toArray j<=l.length/\(∀k (c:k<l.length),k<below l.toArray j->l[k]<j)/\(∀k (c:k<l.length),below l.toArray j<=k->j<=l[k]):=by
 have:=jD l.toArray j (λa b e f=>Af d e (by simpa using f)) l.toArray.size 0 l.toArray.size (by omega) (by omega) (le_refl _) (by intro k c;omega) (by intro k c g;omega);unfold below;refine⟨by simpa using this.1,λk c h1=>?_,λk c h1=>?_⟩
 ·have:=this.2.1 k h1;simpa [getD_eq_getD_getElem?,c]using this
 ·have:=this.2.2 k h1 (by simpa using c);simpa [getD_eq_getD_getElem?,c]using this
structure Tb(t:SetTable)(l:List Nat):Prop where
 pl:t.place=l.toArray
 nd:t.dummies=#[]
 up:Up l
 le:∀j∈l,j<=t.mask
theorem rh(j:Nat):has #[] j=false:=by
 unfold has;simp
theorem xP{t:SetTable}{l:List Nat}(T:Tb t l){i j:Nat}(b:l[i]?=some j):t.slot j=.live i:=by
 obtain⟨hi,e⟩:=List.getElem?_eq_some_iff.mp b;obtain⟨g,c,d⟩:=cu T.up j;have f:below l.toArray j=i:=by
  rcases Nat.lt_trichotomy (below l.toArray j) i with a|a|a
  ·have:=d (below l.toArray j) (by omega)<|le_refl _;have:=pairwise_iff_getElem.mp T.up (below l.toArray j) i (by omega) hi a;omega
  ·exact a
  ·have:=c i hi a;omega
 unfold SetTable.slot;rw[T.pl,f];simp[b]
theorem uL{t:SetTable}{l:List Nat}(T:Tb t l){j:Nat}(a:j∉l):t.slot j=.empty:=by
 unfold SetTable.slot;rw[T.pl,T.nd,rh];have:¬(l.toArray[below l.toArray j]?==some j)=true:=by
  intro b;have c:l[below l.toArray j]?=some j:=by simpa using b
  exact a<|mem_of_getElem? c
 simp only[this,false_eq_true,if_false]
theorem sP{l:List Nat}(d:Up l){j:Nat}(m:j∉l):Up (l.take (below l.toArray j)++j::l.drop (below l.toArray j)):=by
 obtain⟨p,h,i⟩:=cu d j;unfold Up;rw[List.pairwise_append,pairwise_cons];have n:(l.take<|below l.toArray j).Pairwise (· < ·):=Pairwise.sublist (take_sublist _ _) d;have o:(l.drop<|below l.toArray j).Pairwise (· < ·):=Pairwise.sublist (List.drop_sublist _ _) d;have h1:∀a∈l.take (below l.toArray j),a<j:=by
  intro a c;obtain⟨k,g,e⟩:=mem_iff_getElem.mp c;rw[length_take]at g;rw[getElem_take]at e;rw[<-e];exact h k (by omega) (by omega)
 have h2:∀a∈l.drop (below l.toArray j),j<a:=by
  intro a c;have q:a≠j:=λe=>m (e ▸ List.mem_of_mem_drop c);obtain⟨k,g,e⟩:=mem_iff_getElem.mp c;rw[length_drop]at g;rw[List.getElem_drop]at e;have:=i (below l.toArray j+k) (by omega) (by omega);omega
 refine⟨n,⟨h2,o⟩,λa c b f=>?_⟩;rcases mem_cons.mp f with rfl|f
 ·exact h1 a c
 ·have:=h1 a c;have:=h2 b f;omega
theorem Ag{t:SetTable}{l:List Nat}(T:Tb t l){j:Nat}(c:j∉l)(d:j<=t.mask):Tb (t.put j).1 (l.take (below l.toArray j)++j::l.drop (below l.toArray j))/\(t.put j).2=below l.toArray j/\(t.put j).1.mask=t.mask:=by
 refine⟨⟨?_,?_,sP T.up c,?_⟩,?_,rfl⟩
 ·show insertAt t.place (below t.place j) j=_;rw[T.pl];apply toList_inj.mp;rw[SetTable.toList_insertAt]
 ·show(if has t.dummies j=true then _ else t.dummies)=#[];rw[T.nd,rh];rfl
 ·intro a b;rcases mem_append.mp b with h|h
  ·exact T.le a<|List.mem_of_mem_take h
  ·rcases mem_cons.mp h with rfl|h
   ·exact d
   ·exact T.le a<|List.mem_of_mem_drop h
 ·show below t.place j=_;rw[T.pl]
def BZ(mask:Nat)(zs:List<|Nat×Int):Prop:=∀z∈zs,∃n,pos mask z.2 n=z.1/\∀m,m<n->pos mask z.2 m∈zs.map (·.1)
def emp(owner:Array<|Option Nat)(j:Nat):Bool:=(owner.getD j<|some 0).isNone
theorem lD(mask:Nat)(owner:Array<|Option Nat):∀(a:Nat)(x:Nat×Nat),x.1<=mask->(∃k,k<a/\emp owner (lv mask k x).1=true) ->
  ∃j n,layClean.free mask owner a x.1 x.2=some j/\(nth mask (lvP mask x) n).j=j/\emp owner j=true/\∀m,m<n->emp owner (nth mask (lvP mask x) m).j=false
 |0,x,_,h=>by obtain⟨k,c,_⟩:=h;omega
 |a+1,x,hx,h=>by
  unfold layClean.free;have w:=ix hx;have d:∀m,m<=runEnd mask x.1-x.1->(nth mask (lvP mask x) m).j=x.1+m:=λm b=>by
   rw[nW mask m (lvP mask x) b];rfl
  cases e:(List.range<|runEnd mask x.1+1-x.1).find? (λk=>(owner.getD (x.1+k)<|some 0).isNone)with
  |some k =>
   rw[List.find?_range_eq_some]at e;obtain⟨g,i,l⟩:=e;have c:k<=runEnd mask x.1-x.1:=by have:=mem_range.mp i;omega
   refine⟨x.1+k,k,rfl,d k c,g,λm b=>?_⟩;rw[d m (by omega)];have:=l m b;simpa [emp]using this
  |none =>
   rw[List.find?_range_eq_none]at e;obtain⟨k,c,h1⟩:=h;have v:k≠0:=by
    rintro rfl;have:=e 0 (by omega);have s:(owner.getD x.1<|some 0).isNone=true:=h1;rw[add_zero,s]at this;simp at this
   obtain⟨f,rfl⟩:∃f,k=f+1:=⟨k-1,by omega⟩;have t:(leap mask x.1 x.2).1<=mask:=re mask 1 x hx;obtain⟨j,n,o,p,q,r⟩:=lD mask owner a (leap mask x.1 x.2) t ⟨f,by omega,h1⟩;refine⟨j,(runEnd mask x.1-x.1+1)+n,o,?_,q,λm b=>?_⟩
   ·rw[gL,gm];exact p
   ·by_cases u:m<=runEnd mask x.1-x.1
    ·rw[d m u];have:=e m (by omega);simpa [emp]using this
    ·obtain⟨m',rfl⟩:∃m',m=(runEnd mask x.1-x.1+1)+m':=⟨m-(runEnd mask x.1-x.1+1),by omega⟩;rw[gL,gm];exact r m' (by omega)
theorem xQ{mask:Nat}(c:Cyc mask)(owner:Array<|Option Nat)(a:Int){b:Nat}(h:b<=mask)(g:emp owner b=true):
  ∃j n,layClean.free mask owner (turns mask) (bits a % (mask+1)) (bits a)=some j/\pos mask a n=j/\emp owner j=true/\∀m,m<n->emp owner (pos mask a m)=false:=by
 have f:(lv mask 13 (bits a % (mask+1),bits a)).2=0:=by
  rw[gq];have:=rf a;exact Nat.div_eq_of_lt (by have e:(32:Nat) ^ 13=36893488147419103232:=(by decide);rw[e];show bits a<_;omega)
 have d:bits a % (mask+1)<=mask:=by have:=mod_lt (bits a) (show 0<mask+1 by omega);omega
 have h1:(lv mask 13 (bits a % (mask+1),bits a)).1<=mask:=re mask _ _ d;obtain⟨k,i,e⟩:=c _ h1 b h;refine lD mask owner (turns mask) (bits a % (mask+1),bits a) d ⟨13+k,by unfold turns;omega,?_⟩;rw[pX];have ex:lv mask 13 (bits a % (mask+1),bits a)=((lv mask 13 (bits a % (mask+1),bits a)).1,0):=by rw[<-f]
 rw[ex,jA,e];exact g
def live(mask:Nat)(owner:Array<|Option Nat):List (Nat×Nat):=(List.range<|mask+1).filterMap λj=>(owner.getD j none).map (j,·)
theorem fb{d j:Type}{f g:d->Option j}:∀{l:List d},(∀x∈l,g x=f x)->l.filterMap g=l.filterMap f
 |[],_=>rfl
 |x::l,h=>by
  have c:=fb (l:=l) λy i=>h y<|mem_cons_of_mem _ i;have a:=h x mem_cons_self;cases e:f x with
  |none=>rw[filterMap_cons_none e,filterMap_cons_none<|a.trans e,c]
  |some b=>rw[filterMap_cons_some e,filterMap_cons_some<|a.trans e,c]
theorem ga{j o:Type}(f g:j->Option o)(a:j)(v:o)(k:f a=none)(m:g a=some v)(d:∀x,x≠a->g x=f x):∀(l:List j),l.Nodup->a∈l ->
  (l.filterMap g).Perm (v::l.filterMap f)
 |[],_,h=>by simp at h
 |x::l,hn,h=>by
  obtain⟨h1,h2⟩:=nodup_cons.mp hn
  by_cases e:x=a
  ·subst e;rw[filterMap_cons_some m,filterMap_cons_none k];have:l.filterMap g=l.filterMap f:=fb λy q=>d y λe=>h1 (e ▸ q);rw[this]
  ·have p:a∈l:=by
    rcases mem_cons.mp h with i|i
    ·exact absurd i.symm e
    ·exact i
   have n:=ga f g a v k m d l h2 p;cases c:f x with
   |none =>
    rw[filterMap_cons_none c,filterMap_cons_none (by rw[d x e,c])];exact n
   |some b =>
    rw[filterMap_cons_some c,filterMap_cons_some (by rw[d x e,c])];exact(n.cons b).trans (List.Perm.swap _ _ _)
structure Lay(mask:Nat)(owner:Array<|Option Nat)(hs:List Int):Prop where
 size:owner.size=mask+1
 perm:((live mask owner).map (·.2)).Perm (List.range hs.length)
 path:∀j i,owner.getD j none=some i->∃h,hs[i]?=some h/\∃n,pos mask h n=j/\∀m,m<n->emp owner (pos mask h m)=false
theorem gO{mask:Nat}{owner:Array (Option Nat)}(b:owner.size=mask+1){j:Nat}(a:j<=mask):emp owner j=(owner.getD j none).isNone:=by
 unfold emp;rw[getD_eq_getD_getElem?,getD_eq_getD_getElem?,Array.getElem?_eq_getElem (by omega)];rfl
theorem xR(mask:Nat):Lay mask (Array.replicate (mask+1) none) []:=by
 have e:∀j,(Array.replicate (mask+1) (none:Option Nat)).getD j none=none:=λj=>by
  rw[getD_eq_getD_getElem?,Array.getElem?_replicate]
  split<;>rfl
 refine⟨by simp,?_,λj i h=>?_⟩
 ·have:live mask (Array.replicate (mask+1) none)=[]:=by
   unfold live;rw[List.filterMap_eq_nil_iff];intro j _;rw[e];rfl
  rw[this];simp
 ·rw[e]at h;cases h
theorem uM{mask:Nat}{owner:Array (Option Nat)}{d:List Int}(c:Lay mask owner d)(b:d.length<=mask):∃j,j<=mask/\emp owner j=true:=by
 by_cases h:∃j,j<=mask/\emp owner j=true
 ·exact h
 ·exfalso
  have all:∀j,j<=mask->∃i,owner.getD j none=some i:=λj a=>by
   cases e:owner.getD j none with
   |some i=>exact⟨i,rfl⟩
   |none=>exact(h ⟨j,a,by rw[gO c.size a,e];rfl⟩).elim
  have g:(live mask owner).length=mask+1:=by
   have key:∀l:List Nat,(∀j∈l,j<=mask)->(l.filterMap λj=>(owner.getD j none).map (j,·)).length=l.length:=by
    intro l
    induction l with
    |nil=>intro _;rfl
    |cons x l f =>
     intro b;obtain⟨i,e⟩:=all x<|b x (by simp);rw[filterMap_cons_some (by rw[e];rfl),length_cons,length_cons,f λj a=>b j (by simp[a])]
   unfold live;rw[key _ (λj a=>by have:=mem_range.mp a;omega),length_range]
  have:=c.perm.length_eq;rw[length_map,length_range,g]at this;omega
theorem gP{owner:Array (Option Nat)}{j k:Nat}{v:Option Nat}(a:j<owner.size):(owner.setIfInBounds j v).getD k none=if k=j then v else owner.getD k none:=by
 rw[getD_eq_getD_getElem?,getD_eq_getD_getElem?,Array.getElem?_setIfInBounds]
 by_cases e:j=k
 ·subst e;simp[a]
 ·rw[if_neg e,if_neg λb=>e b.symm]
theorem rk{mask:Nat}{owner:Array (Option Nat)}{j k i:Nat}(c:owner.size=mask+1)(d:j<=mask)(b:k<=mask)(a:emp owner k=false):emp (owner.setIfInBounds j<|some i) k=false:=by
 rw[gO (by simpa using c) b,gP (by omega)];rw[gO c b]at a
 split
 ·rfl
 ·exact a
theorem uN{mask:Nat}(c:Cyc mask){owner:Array (Option Nat)}{a:List Int}(b:Lay mask owner a)(z:a.length<=mask)(d:Int):
  ∃j,layClean.free mask owner (turns mask) (bits d % (mask+1)) (bits d)=some j/\Lay mask (owner.setIfInBounds j<|some a.length) (a++[d]):=by
 obtain⟨C,y,v⟩:=uM b z;obtain⟨j,n,t,o,q,u⟩:=xQ c owner d y v;have g:j<=mask:=by rw[<-o];exact jC mask d n
 have w:owner.getD j none=none:=by
  rw[gO b.size g]at q;exact Option.isNone_iff_eq_none.mp q
 refine⟨j,t,by simpa using b.size,?_,λk i f=>?_⟩
 ·have p:=ga (λk=>(owner.getD k none).map (k,·)) (λk=>((owner.setIfInBounds j<|some a.length).getD k none).map (k,·)) j (j,a.length) (by simp[w])
   (by show((owner.setIfInBounds j<|some a.length).getD j none).map (j,·)=_;rw[gP (by rw[b.size];omega),if_pos rfl];rfl) (λx A=>by show((owner.setIfInBounds j<|some a.length).getD x none).map (x,·)=(owner.getD x none).map (x,·);rw[gP (by rw[b.size];omega),if_neg A]) (List.range<|mask+1) nodup_range (mem_range.mpr (by omega))
  have p2:((live mask<|owner.setIfInBounds j (some a.length)).map (·.2)).Perm (a.length::(live mask owner).map (·.2)):=p.map (·.2);rw[length_append,length_singleton,List.range_succ];exact p2.trans<|(b.perm.cons _).trans (List.perm_append_singleton _ _).symm
 ·rw[gP (by rw[b.size];omega)]at f
  by_cases e:k=j
  ·subst e;rw[if_pos rfl]at f;cases f;exact⟨d,by simp,n,o,λm h=>rk b.size g (jC _ _ _)<|u m h⟩
  ·rw[if_neg e]at f;obtain⟨h',l,B,r,s⟩:=b.path k i f;have hi:i<a.length:=(List.getElem?_eq_some_iff.mp l).1;exact⟨h',by rw[getElem?_append_left hi];exact l,B,r,λm h=>rk b.size g (jC _ _ _)<|s m h⟩
theorem iP{mask:Nat}(c:Cyc mask)(hashes:Array Int)(n:hashes.size<=mask+1):∃owner,layClean mask hashes=some owner/\Lay mask owner hashes.toList:=by
 have key:∀(r a:List Int)(owner:Array<|Option Nat),Lay mask owner a->a.length+r.length<=mask+1 ->
   ∃b,r.foldl (λj h=>do
    let(owner,k) <- j
    let d <- layClean.free mask owner (turns mask) (bits h % (mask+1)) (bits h)
    pure (owner.setIfInBounds d<|some k,k+1)) (some (owner,a.length))=some (b,a.length+r.length)/\Lay mask b (a++r):=by
  intro r
  induction r with
  |nil=>intro a owner L _;exact⟨owner,rfl,by simpa using L⟩
  |cons h r p =>
   intro a owner L o;rw[length_cons]at o;obtain⟨d,e,i⟩:=uN c L (by omega) h;obtain⟨b,g,f⟩:=p (a++[h]) _ i (by rw[length_append,length_singleton];omega);refine⟨b,?_,by rw[append_assoc]at f;exact f⟩;rw[List.foldl_cons];have m:(do
    let(owner,k) <- some (owner,a.length)
    let d <- layClean.free mask owner (turns mask) (bits h % (mask+1)) (bits h)
    pure (owner.setIfInBounds d<|some k,k+1))=some (owner.setIfInBounds d<|some a.length,a.length+1):=by
    show(layClean.free mask owner (turns mask) (bits h % (mask+1))<|bits h).bind _=_;rw[e];rfl
   rw[m];rw[length_append,length_singleton]at g;rw[g,length_cons]
   congr 2
   omega
 obtain⟨b,e,L⟩:=key hashes.toList [] _ (xR mask) (by simpa using n);refine⟨b,?_,by simpa using L⟩
 unfold layClean;rw[<-Array.foldl_toList];have l:(0:Nat)=([]:List Int).length:=rfl;rw[l,e];rfl
theorem lE{t:SetTable}{hashes:Array Int}{wanted:Nat}(c:Cyc<|sizeAbove wanted-1)(B:hashes.size<=sizeAbove wanted-1+1):
  ∃(t':SetTable) (zs:List<|Nat×Nat),t.relaid hashes wanted=some (t',(zs.map (·.2)).toArray)/\t'.mask=sizeAbove wanted-1/\t'.led=t.led/\t'.plain=t.plain /\
   Tb t' (zs.map (·.1))/\(zs.map (·.2)).Perm (List.range hashes.size)/\BZ t'.mask (zs.map λz=>(z.1,hashes.getD z.2 0)):=by
 obtain⟨d,e,L⟩:=iP c hashes B;refine⟨{mask:=sizeAbove wanted-1,place:=((live (sizeAbove wanted-1) d).map (·.1)).toArray,dummies:=#[],finger:=t.finger,led:=t.led,moves:=t.movedTo<|sizeAbove wanted-1,plain:=t.plain},live (sizeAbove wanted-1) d,?_,rfl,rfl,rfl,⟨rfl,rfl,?_,?_⟩,?_,?_⟩
 ·unfold relaid laid;rw[e];rfl
 ·unfold Up live;rw[List.map_filterMap];have a:((List.range<|sizeAbove wanted-1+1).filterMap λf=>((d.getD f none).map (f,·)).map (·.1))=(List.range<|sizeAbove wanted-1+1).filter λf=>(d.getD f none).isSome:=by
   generalize List.range (sizeAbove wanted-1+1)=l
   induction l with
   |nil=>rfl
   |cons x l r =>
    cases ex:d.getD x none with
    |none=>rw[filterMap_cons_none (by rw[ex];rfl),filter_cons_of_neg (by simp[ex])];exact r
    |some i=>rw[filterMap_cons_some (b:=x) (by rw[ex];rfl),filter_cons_of_pos (by simp[ex]),r]
  rw[a];exact Pairwise.sublist filter_sublist List.pairwise_lt_range
 ·intro f A;obtain⟨z,g,rfl⟩:=mem_map.mp A;unfold live at g;obtain⟨k,o,a⟩:=mem_filterMap.mp g;cases ex:d.getD k none with
  |none=>rw[ex]at a;cases a
  |some i =>
   rw[ex]at a;have j:(k,i)=z:=Option.some.inj a;subst j;have:=mem_range.mp o;show k<=sizeAbove wanted-1;omega
 ·have:=L.perm;rw[length_toList]at this;exact this
 ·intro y D;obtain⟨z,g,rfl⟩:=mem_map.mp D;have key:∀z:Nat×Nat,z∈live (sizeAbove wanted-1) d↔z.1<=sizeAbove wanted-1/\d.getD z.1 none=some z.2:=by
   intro z;unfold live;rw[mem_filterMap];constructor
   ·rintro⟨k,o,a⟩;cases ex:d.getD k none with
    |none=>rw[ex]at a;cases a
    |some i =>
     rw[ex]at a;have j:(k,i)=z:=Option.some.inj a;subst j;have:=mem_range.mp o;exact⟨by omega,ex⟩
   ·rintro⟨h1,h2⟩;exact⟨z.1,mem_range.mpr (by omega),by rw[h2];rfl⟩
  obtain⟨F,E⟩:=(key z).mp g;obtain⟨h,s,n,v,w⟩:=L.path _ _ E;have p:hashes.getD z.2 0=h:=by
   have u:hashes[z.2]?=some h:=by simpa using s
   rw[getD_eq_getD_getElem?,u];rfl
  refine⟨n,by rw[p];exact v,λm C=>?_⟩;have:=w m C;have q:=jC (sizeAbove wanted-1) h m;rw[gO L.size q]at this;cases ex:d.getD (pos (sizeAbove wanted-1) h m) none with
  |none=>rw[ex]at this;cases this
  |some i =>
   rw[map_map];show pos (sizeAbove wanted-1) (hashes.getD z.2 0) m∈_;rw[p];exact mem_map.mpr ⟨(pos (sizeAbove wanted-1) h m,i),(key _).mpr ⟨q,ex⟩,rfl⟩
section
variable{prog:xx}{w:qq}{K:Type}[DecidableEq K](knd:KeyKind prog w K)
variable{knd}
variable{A:xg}{E:zt->zi->Prop}{s:zi}
theorem gQ{t:SetTable}{l:List Nat}(T:Tb t l):t.fill=l.length:=by
 unfold SetTable.fill;rw[T.pl,T.nd];simp
theorem mv{t:SetTable}{l:List Nat}(T:Tb t l){n:Nat}(b:l.length=n)(a:n<=t.mask):t.fits n=true:=by
 unfold SetTable.fits;rw[gQ T,T.pl];simp[b,a]
end
theorem rm:∀(n:Nat)(l:List Nat),(∀j,j<n->j∈l)->n<=l.length
 |0,_,_=>zero_le _
 |n+1,l,h=>by
  have a:=h n (by omega);have b:=rm n (l.erase n) λj c=>(List.mem_erase_of_ne (by omega)).mpr (h j (by omega));rw[List.length_erase_of_mem a]at b;have:0<l.length:=List.length_pos_of_mem a;omega
theorem pY(n:Nat)(l:List Nat)(b:l.length<=n):∃j,j<=n/\j∉l:=by
 by_cases a:∃j,j<=n/\j∉l
 ·exact a
 ·exfalso
  have:=rm (n+1) l λj c=>by
   by_cases e:j∈l
   ·exact e
   ·exact(a ⟨j,by omega,e⟩).elim
  omega
section
variable{prog:xx}{w:qq}{K:Type}[DecidableEq K]{knd:KeyKind prog w K}{A:xg}{E:zt->zi->Prop}{s:zi}
theorem stored{a:zo}{o:Obj}{c:Array (Int×zt)}{ep:Nat}{t:SetTable}(d:s.heap.get? a=some o)(b:o.data=.set c ep t)(es':Array<|Int×zt)(t':SetTable):
  (s.heap.update a<|Obj.putSet es' t').get? a=some {o with data:=.set es' (ep+1) t'}:=by
 have:=get?_update_self (Obj.putSet es' t') d (by rw[putSet_of es' t' b];rfl);rw[putSet_of es' t' b]at this;exact this
theorem uO{n:Nat}(h:n<=64):n<=sizeLine:=by rw[sizeLine_eq];omega
end
end TB
namespace SRT
open PySem PySem.W PyProof.Rows
def run{b:Type}(f:Nat->Nat->Bool):KasT b->b
 |.ret a=>a
 |.ask i j k=>run f<|k (f i j)
theorem dN{b c:Type}(f:Nat->Nat->Bool)(g:b->KasT c):∀t:KasT b,run f (t.bind g)=run f (g<|run f t)
 |.ret a=>rfl
 |.ask i j k=>dN f g<|k (f i j)
def path{a:Type}(f:Nat->Nat->Bool)(n:Nat):KasT a->Prop
 |.ret _=>True
 |.ask i j k=>i<n/\j<n/\path f n (k<|f i j)
theorem cU{b c:Type}{f:Nat->Nat->Bool}{n:Nat}{g:b->KasT c}:∀{t:KasT b},path f n t->path f n (g<|run f t)->path f n (t.bind g)
 |.ret a,_,h=>h
 |.ask i j k,h,h'=>⟨h.1,h.2.1,cU (t:=k<|f i j) h.2.2 h'⟩
theorem rn{d:Type}{f:Nat->Nat->Bool}{n:Nat}{b:Nat->Nat->(Bool->zi->Prop)->zi->Prop}{s:zi}(c:∀i j C,i<n->j<n->C (f i j) s->b i j C s)(Q:d->zi->Prop):∀t:KasT d,path f n t->Q (run f t) s->t.kasWp b Q s
 |.ret a,_,h=>h
 |.ask i j k,p,h=>c i j _ p.1 p.2.1<|rn c Q (k<|f i j) p.2.2 h
structure Ord(f:Nat->Nat->Bool)(n:Nat):Prop where
 irr:∀i,i<n->f i i=false
 tr:∀i j k,i<n->j<n->k<n->f i j=true->f j k=true->f i k=true
 tot:∀i j,i<n->j<n->i≠j->f i j=true\/f j i=true
section
variable{f:Nat->Nat->Bool}{n:Nat}
structure Row(n:Nat)(p:Array Nat):Prop where
 perm:p.toList.Perm<|List.range n
theorem Row.size{p:Array Nat}(r:Row n p):p.size=n:=by have:=r.perm.length_eq;simpa using this
theorem Row.lt{p:Array Nat}(r:Row n p){i:Nat}(a:i<n):p.getD i 0<n:=by
 have b:=r.size;have:p.getD i 0∈p.toList:=by
  rw[getD_eq_getD_getElem?,Array.getElem?_eq_getElem (by omega)];exact Array.getElem_mem_toList (by omega)
 exact mem_range.mp<|r.perm.mem_iff.mp this
theorem Row.ne{p:Array Nat}(r:Row n p){i j:Nat}(d:i<n)(f:j<n)(b:i≠j):p.getD i 0≠p.getD j 0:=by
 have g:=r.size;have c:p.toList.Nodup:=r.perm.nodup_iff.mpr nodup_range;rw[getD_eq_getD_getElem?,getD_eq_getD_getElem?,Array.getElem?_eq_getElem (by omega),Array.getElem?_eq_getElem (by omega)];intro e;have a:p.toList[i]'(by simpa using (by omega:i<p.size))=p.toList[j]'(by simpa using (by omega:j<p.size)):=by simpa using e
 exact b<|(getElem_inj c).mp a
theorem Row.rev{p:Array Nat}(r:Row n p)(i j:Nat):Row n (kas_rev p i j):=⟨(Array.perm_iff_toList_perm.mp<|mirror_perm p i j _).trans r.perm⟩
theorem Row.bub{p:Array Nat}(r:Row n p)(i j:Nat):Row n (bubble p i j):=⟨(Array.perm_iff_toList_perm.mp<|bubble_perm p i j).trans r.perm⟩
def Up(f:Nat->Nat->Bool)(p:Array Nat)(m:Nat):Prop:=∀i j,i<j->j<m->f (p.getD i 0) (p.getD j 0)=true
theorem xS(d:Ord f n){p:Array Nat}(r:Row n p){m:Nat}(c:m<n)(l:1<=m)(u:Up f p m)(j:f (p.getD m 0) (p.getD (m-1) 0)=false):Up f p (m+1):=by
 have g:f (p.getD (m-1) 0) (p.getD m 0)=true:=by
  rcases d.tot _ _ (r.lt (i:=m) c) (r.lt (i:=m-1) (by omega)) (r.ne c (by omega) (by omega))with b|b
  ·rw[j]at b;cases b
  ·exact b
 intro i a k o
 by_cases e:a=m
 ·subst e
  by_cases h:i=a-1
  ·rw[h];exact g
  ·exact d.tr _ _ _ (r.lt (by omega)) (r.lt (by omega)) (r.lt c) (u i (a-1) (by omega) (by omega)) g
 ·exact u i a k (by omega)
theorem mw(c:Ord f n){p:Array Nat}(r:Row n p):∀(a m:Nat),1<=m->m+a<=n->Up f p m ->
  m<=run f (kas_asc p a m)/\run f (kas_asc p a m)<=m+a/\Up f p (run f<|kas_asc p a m)/\(run f (kas_asc p a m)<m+a->f (p.getD (run f<|kas_asc p a m) 0) (p.getD (run f (kas_asc p a m)-1) 0)=true)
 |0,m,_,_,u=>⟨le_refl _,le_refl _,u,λh=>absurd h (by simp[kas_asc,run])⟩
 |a+1,m,h1,hm,u=>by
  cases e:f (p.getD m 0) (p.getD (m-1) 0)with
  |true =>
   have b:run f (kas_asc p (a+1) m)=m:=by
    show run f (if f (p.getD m 0) (p.getD (m-1) 0)=true then KasT.ret m else kas_asc p a (m+1))=m
    rw[e,if_pos rfl];rfl
   rw[b];exact⟨le_refl _,by omega,u,λ_=>e⟩
  |false =>
   have b:run f (kas_asc p (a+1) m)=run f (kas_asc p a<|m+1):=by
    show run f (if f (p.getD m 0) (p.getD (m-1) 0)=true then KasT.ret m else kas_asc p a (m+1))=_
    rw[e,if_neg (by simp)]
   rw[b];obtain⟨i,j,d,g⟩:=mw c r a (m+1) (by omega) (by omega)<|xS c r (by omega) h1 u e;exact⟨by omega,by omega,d,λh=>g (by omega)⟩
def Ah(f:Nat->Nat->Bool)(p:Array Nat)(m:Nat):Prop:=∀i j,i<j->j<m->f (p.getD j 0) (p.getD i 0)=true
theorem mx(h:Ord f n){p:Array Nat}(r:Row n p):∀(a m:Nat),1<=m->m+a<=n->Ah f p m ->
  ∃b,run f (kas_desc a p m 0)=(p,b,0)/\m<=b/\b<=m+a/\Ah f p b
 |0,m,_,_,u=>⟨m,rfl,le_refl _,le_refl _,u⟩
 |a+1,m,h1,hm,u=>by
  cases e:f (p.getD m 0) (p.getD (m-1) 0)with
  |true =>
   have k:run f (kas_desc (a+1) p m 0)=run f (kas_desc a p (m+1) 0):=by
    show run f (if f (p.getD m 0) (p.getD (m-1) 0)=true then (if 0>0 then _ else kas_desc a p (m+1) 0)else _)=_
    rw[e,if_pos rfl,if_neg (by omega)]
   rw[k];obtain⟨b,l,t,v,o⟩:=mx h r a (m+1) (by omega) (by omega) (by
    intro i c s w
    by_cases q:c=m
    ·subst q
     by_cases j:i=c-1
     ·rw[j];exact e
     ·exact h.tr _ _ _ (r.lt (by omega)) (r.lt (i:=c-1) (by omega)) (r.lt (by omega)) e (u i (c-1) (by omega) (by omega))
    ·exact u i c s (by omega))
   exact⟨b,l,by omega,by omega,o⟩
  |false =>
   have j:f (p.getD (m-1) 0) (p.getD m 0)=true:=by
    rcases h.tot _ _ (r.lt (i:=m) (by omega)) (r.lt (i:=m-1) (by omega)) (r.ne (by omega) (by omega) (by omega))with g|g
    ·rw[e]at g;cases g
    ·exact g
   have k:run f (kas_desc (a+1) p m 0)=(p,m,0):=by
    show run f (if f (p.getD m 0) (p.getD (m-1) 0)=true then _ else KasT.ask (p.getD (m-1) 0) (p.getD m 0) λd=>if d=true then .ret (p,m,0)else kas_desc a p (m+1) (0+1))=_
    rw[e,if_neg (by simp)];show run f (if f (p.getD (m-1) 0) (p.getD m 0)=true then KasT.ret (p,m,0)else kas_desc a p (m+1) (0+1))=_
    rw[j,if_pos rfl];rfl
   exact⟨m,k,le_refl _,by omega,u⟩
theorem ro{p:Array Nat}{m:Nat}(b:m<=p.size)(k:Nat)(a:k<m):(kas_rev p 0 m).getD k 0=p.getD (m-1-k) 0:=by
 unfold kas_rev;rw[getD_eq_getD_getElem?,getElem?_mirror_all b k,if_pos ⟨by omega,a⟩,getD_eq_getD_getElem?]
 congr 2
 omega
theorem Ai{p:Array Nat}{m:Nat}(a:m<=p.size)(d:Ah f p m):Up f (kas_rev p 0 m) m:=by
 intro i c e b;rw[ro a i (by omega),ro a c b];exact d _ _ (by omega) (by omega)
theorem oe(d:Ord f n){p:Array Nat}(r:Row n p)(h2:1<=n):∃m h,run f (kas_count n p)=(m,h)/\1<=m/\m<=n/\Row n h/\Up f h m:=by
 obtain⟨g,o,b,j⟩:=mw d r (n-1) 1 (by omega) (by omega) (by intro i l x y;omega);have v:run f (kas_count n p)=run f (if (run f (kas_asc p (n-1) 1)==n)=true then KasT.ret (run f<|kas_asc p (n-1) 1,p)else if run f (kas_asc p (n-1) 1)>1 then .ask (p.getD 0 0) (p.getD (run f (kas_asc p (n-1) 1)-1) 0) λc=>if c=true then .ret (run f<|kas_asc p (n-1) 1,p)else kas_descPart (run f<|kas_asc p (n-1) 1) n (kas_rev p 0<|run f (kas_asc p (n-1) 1))
  else kas_descPart (run f<|kas_asc p (n-1) 1) n p):=by
  unfold kas_count;rw[dN]
 rw[v];generalize run f (kas_asc p (n-1) 1)=m at g o b j|-
 by_cases e:m=n
 ·rw[if_pos (by simp[e])];exact⟨m,p,rfl,g,by omega,r,b⟩
 ·rw[if_neg (by simpa using e)]
  by_cases k:m>1
  ·rw[if_pos k];refine⟨m,p,?_,g,by omega,r,b⟩;show run f (if f (p.getD 0 0) (p.getD (m-1) 0)=true then KasT.ret (m,p)else _)=_
   rw[b 0 (m-1) (by omega) (by omega),if_pos rfl];rfl
  ·rw[if_neg k];have u:m=1:=by omega
   subst u;have w:=j (by omega);unfold kas_descPart;obtain⟨a,q,A,B,s⟩:=mx d r (n-(1+1)) (1+1) (by omega) (by omega) (by
    intro i l x y;have:i=0/\l=1:=by omega
    rw[this.1,this.2];exact w)
   rw[dN,q];dsimp only;rw[if_neg (by omega)];unfold kas_tail3;have F:=r.size;have z:=Ai (f:=f) (by omega:a<=p.size) s;obtain⟨C,D,t,E⟩:=mw d (r.rev 0 a) (n-a) a (by omega) (by omega) z;rw[dN];exact⟨_,_,rfl,by omega,by omega,r.rev 0 a,t⟩
theorem gR(d:Ord f n){p:Array Nat}(r:Row n p){k:Nat}(b:k<n)(u:Up f p k):∀(a l r':Nat),r'-l<=a->l<=r'->r'<=k ->
  (∀i,i<l->f (p.getD i 0) (p.getD k 0)=true)->(∀i,r'<=i->i<k->f (p.getD k 0) (p.getD i 0)=true) ->
  run f (kas_place p k a l r')<=k/\(∀i,i<run f (kas_place p k a l r')->f (p.getD i 0) (p.getD k 0)=true)/\(∀i,run f (kas_place p k a l r')<=i->i<k->f (p.getD k 0) (p.getD i 0)=true)
 |0,l,r',h1,h2,h3,h4,h5=>by
  have:l=r':=by omega
  subst this;exact⟨h3,h4,h5⟩
 |a+1,l,r',h1,h2,h3,h4,h5=>by
  unfold kas_place
  by_cases e:l>=r'
  ·rw[if_pos e];have:l=r':=by omega
   subst this;exact⟨h3,h4,h5⟩
  ·rw[if_neg e];have q:(l+r') / 2<k:=by omega
   cases c:f (p.getD k 0) (p.getD ((l+r') / 2) 0)with
   |true =>
    have j:run f (KasT.ask (p.getD k 0) (p.getD ((l+r') / 2) 0) λc=>if c=true then kas_place p k a l ((l+r') / 2)else kas_place p k a ((l+r') / 2+1) r')=run f (kas_place p k a l<|(l+r') / 2):=by
     show run f (if f (p.getD k 0) (p.getD ((l+r') / 2) 0)=true then _ else _)=_
     rw[c,if_pos rfl]
    rw[j];refine gR d r b u a l _ (by omega) (by omega) (by omega) h4 λi hi o=>?_
    by_cases h:i=(l+r') / 2
    ·rw[h];exact c
    ·exact d.tr _ _ _ (r.lt b) (r.lt (i:=(l+r') / 2) (by omega)) (r.lt (by omega)) c<|u _ _ (by omega) o
   |false =>
    have j:run f (KasT.ask (p.getD k 0) (p.getD ((l+r') / 2) 0) λc=>if c=true then kas_place p k a l ((l+r') / 2)else kas_place p k a ((l+r') / 2+1) r')=run f (kas_place p k a ((l+r') / 2+1) r'):=by
     show run f (if f (p.getD k 0) (p.getD ((l+r') / 2) 0)=true then _ else _)=_
     rw[c,if_neg (by simp)]
    rw[j];have m:f (p.getD ((l+r') / 2) 0) (p.getD k 0)=true:=by
     rcases d.tot _ _ (r.lt (i:=k) b) (r.lt (i:=(l+r') / 2) (by omega)) (r.ne b (by omega) (by omega))with g|g
     ·rw[c]at g;cases g
     ·exact g
    refine gR d r b u a _ r' (by omega) (by omega) h3 (λi hi=>?_) h5
    by_cases h:i=(l+r') / 2
    ·rw[h];exact m
    ·exact d.tr _ _ _ (r.lt (by omega)) (r.lt (i:=(l+r') / 2) (by omega)) (r.lt b) (u i _ (by omega) (by omega)) m
theorem jj{p:Array Nat}{k l:Nat}(a:k<p.size)(b:l<=k)(i:Nat):(bubble p k<|k-l).getD i 0=if i=l then p.getD k 0 else if l<i/\i<=k then p.getD (i-1) 0 else p.getD i 0:=by
 simp only[getD_eq_getD_getElem?];rw[getElem?_bubble a (k-l) (by omega) i];have e:k-(k-l)=l:=by omega
 rw[e]
 by_cases h1:i=l
 ·rw[if_pos h1,if_pos h1]
 ·rw[if_neg h1,if_neg h1]
  by_cases h2:l<i/\i<=k
  ·rw[if_pos h2,if_pos h2]
  ·rw[if_neg h2,if_neg h2]
theorem uP(d:Ord f n):∀(a:Nat)(p:Array Nat)(k:Nat),Row n p->k+a=n->Up f p k->Row n (run f<|kas_bin a p k)/\Up f (run f<|kas_bin a p k) n
 |0,p,k,r,hk,u=>by
  have:k=n:=by omega
  subst this;exact⟨r,u⟩
 |a+1,p,k,r,hk,u=>by
  have t:k<n:=by omega
  obtain⟨c,e,g⟩:=gR d r t u k 0 k (by omega) (by omega) (le_refl _) (λi hi=>by omega) (λi h1 h2=>by omega);have q:run f (kas_bin (a+1) p k)=run f (kas_bin a (bubble p k<|k-run f (kas_place p k k 0 k))<|k+1):=by
   show run f ((kas_place p k k 0 k).bind λl=>kas_bin a (bubble p k<|k-l)<|k+1)=_;rw[dN]
  rw[q];generalize run f (kas_place p k k 0 k)=l at c e g|-;have x:=r.size;refine uP d a _ (k+1) (r.bub _ _) (by omega) ?_;intro i b s w;rw[jj (by omega) c i,jj (by omega) c b]
  by_cases h:i=l
  ·rw[if_pos h,if_neg (by omega),if_pos ⟨by omega,by omega⟩];exact g (b-1) (by omega) (by omega)
  ·rw[if_neg h]
   by_cases j:b=l
   ·rw[if_pos j,if_neg (by omega)];exact e i (by omega)
   ·rw[if_neg j]
    by_cases m:l<i/\i<=k
    ·rw[if_pos m,if_pos ⟨by omega,by omega⟩];exact u _ _ (by omega) (by omega)
    ·rw[if_neg m]
     by_cases o:l<b/\b<=k
     ·rw[if_pos o]
      by_cases v:i=b-1
      ·omega
      ·exact u i (b-1) (by omega) (by omega)
     ·rw[if_neg o];exact u i b s (by omega)
theorem jE{p:Array Nat}(r:Row n p):∀(a m:Nat),1<=m->m+a<=n->path f n (kas_asc p a m)
 |0,m,_,_=>trivial
 |a+1,m,h1,hm=>by
  refine⟨r.lt (by omega),r.lt (by omega),?_⟩;show path f n (if f (p.getD m 0) (p.getD (m-1) 0)=true then KasT.ret m else kas_asc p a (m+1))
  split
  ·exact trivial
  ·exact jE r a (m+1) (by omega) (by omega)
theorem lF(c:Ord f n){p:Array Nat}(r:Row n p):∀(a m:Nat),1<=m->m+a<=n->path f n (kas_desc a p m 0)
 |0,m,_,_=>trivial
 |a+1,m,h1,hm=>by
  refine⟨r.lt (by omega),r.lt (by omega),?_⟩;show path f n (if f (p.getD m 0) (p.getD (m-1) 0)=true then (if 0>0 then _ else kas_desc a p (m+1) 0)else KasT.ask (p.getD (m-1) 0) (p.getD m 0) λd=>if d=true then .ret (p,m,0)else kas_desc a p (m+1) (0+1))
  cases e:f (p.getD m 0) (p.getD (m-1) 0)with
  |true =>
   rw[if_pos rfl,if_neg (by omega)];exact lF c r a (m+1) (by omega) (by omega)
  |false =>
   rw[if_neg (by simp)];have g:f (p.getD (m-1) 0) (p.getD m 0)=true:=by
    rcases c.tot _ _ (r.lt (i:=m) (by omega)) (r.lt (i:=m-1) (by omega)) (r.ne (by omega) (by omega) (by omega))with b|b
    ·rw[e]at b;cases b
    ·exact b
   refine⟨r.lt (by omega),r.lt (by omega),?_⟩;dsimp only;rw[g,if_pos rfl];exact trivial
theorem pZ(a:Ord f n){p:Array Nat}(r:Row n p)(h2:1<=n):path f n (kas_count n p):=by
 obtain⟨h,j,b,c⟩:=mw a r (n-1) 1 (by omega) (by omega) (by intro i g q s;omega);unfold kas_count;refine cU (jE r _ _ (by omega) (by omega)) ?_;generalize run f (kas_asc p (n-1) 1)=m at h j b c|-
 by_cases e:m=n
 ·rw[if_pos (by simp[e])];exact trivial
 ·rw[if_neg (by simpa using e)]
  by_cases d:m>1
  ·rw[if_pos d];refine⟨r.lt (by omega),r.lt (by omega),?_⟩;dsimp only;rw[b 0 (m-1) (by omega) (by omega),if_pos rfl];exact trivial
  ·rw[if_neg d];have l:m=1:=by omega
   subst l;have o:=c (by omega);unfold kas_descPart;refine cU (lF a r _ _ (by omega) (by omega)) ?_;obtain⟨t,k,u,v,w⟩:=mx a r (n-(1+1)) (1+1) (by omega) (by omega) (by
    intro i g q s;have:i=0/\g=1:=by omega
    rw[this.1,this.2];exact o)
   rw[k];dsimp only;rw[if_neg (by omega)];unfold kas_tail3;exact cU (jE (r.rev 0 t) _ _ (by omega) (by omega)) trivial
theorem gr{p:Array Nat}(r:Row n p){k:Nat}(c:k<n):∀(b l a:Nat),a<=k->path f n (kas_place p k b l a)
 |0,l,a,_=>trivial
 |b+1,l,a,h=>by
  unfold kas_place
  by_cases e:l>=a
  ·rw[if_pos e];exact trivial
  ·rw[if_neg e];refine⟨r.lt c,r.lt (by omega),?_⟩;dsimp only
   split
   ·exact gr r c b _ _ (by omega)
   ·exact gr r c b _ _ h
theorem og(d:Ord f n):∀(b:Nat)(p:Array Nat)(k:Nat),Row n p->k+b=n->Up f p k->path f n (kas_bin b p k)
 |0,p,k,r,hk,u=>trivial
 |b+1,p,k,r,hk,u=>by
  have q:k<n:=by omega
  show path f n ((kas_place p k k 0 k).bind λl=>kas_bin b (bubble p k<|k-l)<|k+1);refine cU (gr r q _ _ _<|le_refl _) ?_;obtain⟨c,e,g⟩:=gR d r q u k 0 k (by omega) (by omega) (le_refl _) (λi hi=>by omega) (λi h1 h2=>by omega);generalize run f (kas_place p k k 0 k)=l at c e g|-;have w:=r.size;refine og d b _ (k+1) (r.bub _ _) (by omega) ?_;intro i a s v;rw[jj (by omega) c i,jj (by omega) c a]
  by_cases h:i=l
  ·rw[if_pos h,if_neg (by omega),if_pos ⟨by omega,by omega⟩];exact g (a-1) (by omega) (by omega)
  ·rw[if_neg h]
   by_cases j:a=l
   ·rw[if_pos j,if_neg (by omega)];exact e i (by omega)
   ·rw[if_neg j]
    by_cases m:l<i/\i<=k
    ·rw[if_pos m,if_pos ⟨by omega,by omega⟩];exact u _ _ (by omega) (by omega)
    ·rw[if_neg m]
     by_cases o:l<a/\a<=k
     ·rw[if_pos o]
      by_cases t:i=a-1
      ·omega
      ·exact u i (a-1) (by omega) (by omega)
     ·rw[if_neg o];exact u i a s (by omega)
theorem sQ(a:Ord f n)(b:1<=n):path f n (kas_sort n):=by
 have d:Row n (toArray<|List.range n):=⟨by simp⟩;obtain⟨m,g,e,h1,h2,r,u⟩:=oe a d b;unfold kas_sort;refine cU (pZ a d b) ?_;rw[e];dsimp only
 by_cases c:m<n
 ·rw[if_pos c];have:max m 1=m:=by omega
  rw[this];exact og a (n-m) g m r (by omega) u
 ·rw[if_neg c];exact trivial
theorem xT(a:Ord f n)(c:1<=n):Row n (run f<|kas_sort n)/\Up f (run f<|kas_sort n) n:=by
 have g:Row n (toArray<|List.range n):=⟨by simp⟩;obtain⟨m,d,e,h1,h2,r,u⟩:=oe a g c;unfold kas_sort;rw[dN,e];dsimp only
 by_cases b:m<n
 ·rw[if_pos b];have:max m 1=m:=by omega
  rw[this];exact uP a (n-m) d m r (by omega) u
 ·rw[if_neg b];have:m=n:=by omega
  subst this;exact⟨r,u⟩
end
section
variable{prog:xx}{w:qq}{A:xg}{E:zt->zi->Prop}{s:zi}
theorem xU{vs:List zt}(h:vs.length<2):((vs.toArray.zip vs.toArray).map (·.2)).toList=(toArray<|(toArray<|List.range vs.length).toList.map λi=>vs.getD i Value.none).toList:=by
 cases vs with
 |nil=>simp
 |cons v r =>
  cases r with
  |nil=>simp
  |cons u r=>exact absurd h (by simp)
theorem gT{f:Nat->Nat->Bool}{a:zo}{vs:List zt}{n:Nat}{κ:SortKind}{P:PySem.Fin->zi->Prop}(m:Ord f vs.length)(h:s.heap.get? a=some (seqObj "list" vs.toArray n))(I:vs.length<64)(O:∀s':zi,(∀b o,b≠a->s.heap.get? b=some o->s'.heap.get? b=some o)->∀Q:SortKind->zi->Prop,2<=vs.length->Q κ s'->wpAny (model prog w) A (keyKind' vs.toArray) Q (λ_ _=>False) s')(R:∀s':zi,(∀b o,b≠a->s.heap.get? b=some o->s'.heap.get? b=some o)->∀(i j:Nat) (C:Bool->zi->Prop),i<vs.length->j<vs.length->C (f i j) s'->wpAny (model prog w) A (keyLt' κ (vs.getD i Value.none)<|vs.getD j Value.none) C (λ_ _=>False) s')(q:∀p:Array Nat,Row vs.length p->Up f p vs.length->P (.done<|.ret .none) {s with heap:=sortedHeap s.heap a vs (toArray<|p.toList.map λi=>vs.getD i Value.none)}):
  wpAny (model prog w) A (Builtin.«list.sort» ⟨[.ref a],[]⟩) P E s:=by
 have Z:a<s.heap.objs.size:=lt_size h;have s1:=SameBut.update s.heap a<|Obj.mapSeq λ_=>(#[]:Array zt);obtain⟨d,t⟩:∃d,(s.heap.update a<|Obj.mapSeq λ_=>(#[]:Array zt)).get? a=some (seqObj "list" #[] d):=⟨_,get?_update_seq h λ_=>#[]⟩;rw[list_sort_plain];refine Wb<|listItems_at h rfl ?_;refine Wb<|listUpdate_at h rfl ?_ (by rw[size_toArray,sizeLine_eq];omega) (zero_le _);refine Wb<|seqEpoch_at t rfl ?_;refine Wb<|wpAny_newTuple ?_ (by show vs.length<=_;rw[sizeLine_eq];omega);refine Wb<|wpAny_newList ?_ (zero_le _);refine wpAny_holding ?_;have k:(((s.heap.update a<|Obj.mapSeq λ_=>(#[]:Array zt)).push (seqObj "tuple" vs.toArray 0)).push (seqObj "list" #[] 0)).get? a=some (seqObj "list" #[] d):=get?_push_of_some _<|get?_push_of_some _ t;have v:∀b o,b≠a->s.heap.get? b=some o->(((s.heap.update a<|Obj.mapSeq λ_=>(#[]:Array zt)).push (seqObj "tuple" vs.toArray 0)).push (seqObj "list" #[] 0)).get? b=some o:=λb o L e =>
  get?_push_of_some _ (get?_push_of_some _<|(s1.2 b L).trans e)
 show wpAny (model prog w) A _ P E {s with heap:=((s.heap.update a<|Obj.mapSeq λ_=>(#[]:Array zt)).push (seqObj "tuple" vs.toArray 0)).push (seqObj "list" #[] 0)}
 dsimp only
 by_cases c:vs.toArray.size<2
 ·rw[if_pos c,if_pos c];refine Wb<|Wp ?_;rw[StateT.run_pure];refine Wb<|Wp ?_;dsimp only;have g:vs.length<2:=by simpa using c
  have u:Row vs.length (toArray<|List.range vs.length):=⟨by simp⟩;have V:Up f (toArray<|List.range vs.length) vs.length:=λi j a0 r=>by omega
  have F:(arrOf<|SortSt.mk' general' (vs.toArray.zip vs.toArray) #[] 7 none).map (·.2)=toArray ((toArray<|List.range vs.length).toList.map λi=>vs.getD i Value.none):=by
   show(vs.toArray.zip vs.toArray).map (·.2)=_;apply toList_inj.mp;exact xU g
  refine Wb<|seqEpoch_at k rfl ?_;rw[F];refine Wb<|listUpdate_at k rfl ?_ (zero_le _) (by rw[size_toArray,length_map,length_toList,u.size,sizeLine_eq];omega);show wpAny _ _ (if (d != d)=true then _ else _) _ _ _
  simp only[bne_self_eq_false,false_eq_true,if_false];exact Wp<|q _ u V
 ·have g:2<=vs.length:=by rw[size_toArray]at c;omega
  rw[if_neg c,if_neg c];refine Wb<|wpAny_mono (O {s with heap:=((s.heap.update a<|Obj.mapSeq λ_=>(#[]:Array zt)).push (seqObj "tuple" vs.toArray 0)).push (seqObj "list" #[] 0)} v (λX s'=>X=κ/\s'={s with heap:=((s.heap.update a<|Obj.mapSeq λ_=>(#[]:Array zt)).push (seqObj "tuple" vs.toArray 0)).push (seqObj "list" #[] 0)}) g ⟨rfl,rfl⟩) (λa2 a1 M=>?_) λ_ _ x=>x.elim
  obtain⟨G,es⟩:=M;subst G es;obtain⟨U,W⟩:=xT m (by omega:1<=vs.length);refine Wb<|wpAny_mono (kat_run (Q:=λl s'=>∃p:Array Nat,p.size=vs.length/\arrOf l=p.map (kas_item<|vs.toArray.zip vs.toArray)/\failedOf l=none/\p=run f (kas_sort vs.length)/\s'={s with heap:=((s.heap.update a<|Obj.mapSeq λ_=>(#[]:Array zt)).push (seqObj "tuple" vs.toArray 0)).push (seqObj "list" #[] 0)})
   rfl g I (λY l s' y z B D=>⟨Y,y,z,B,D⟩) (rn (n:=vs.length) (λi j C hi r J=>R _ v i j C hi r J) (λp s'=>p=run f (kas_sort vs.length)/\s'={s with heap:=((s.heap.update a<|Obj.mapSeq λ_=>(#[]:Array zt)).push (seqObj "tuple" vs.toArray 0)).push (seqObj "list" #[] 0)}) _ (sQ m (by omega)) ⟨rfl,rfl⟩)) ?_ λ_ _ e=>e
  rintro⟨⟨⟩,l⟩ s' ⟨p,T,K,N,H,es⟩;subst es;dsimp only;have S:=kat_snds (ks:=vs) rfl K;refine Wb<|seqEpoch_at k rfl ?_;rw[S];refine Wb<|listUpdate_at k rfl ?_ (zero_le _) (by rw[size_toArray,length_map,length_toList,T,sizeLine_eq];omega);rw[N];simp only[bne_self_eq_false,false_eq_true,if_false];rw[H];exact Wp<|q _ U W
theorem ol{l:zo}{vs:List zt}{Q:List zt->zi->Prop}(e:IsTup s.heap l vs.toArray)(b:Q vs {s with heap:=(s.heap.push<|seqObj "list" #[] 0).update s.heap.objs.size (Obj.mapSeq (· ++ vs.toArray))})(hsz:vs.length<=sizeLine):
  wpAny (model prog w) A (collect<|.ref l) Q E s:=by
 obtain⟨o,f,c,n,d⟩:=id e;unfold collect;refine Wb<|wpAny_runValue (codeAny_builtin entry_proto_collect' ?_);show wpAny _ _ (do again (.builtin "list.__iadd__" ⟨[<-newList [],.ref l],[]⟩)) _ _ s
 refine Wb<|wpAny_newList (Wp ⟨Code.quiet_builtin _ (by decide +kernel),codeAny_builtin entry_list_iadd' ?_⟩);show wpAny _ _ (Builtin.List.listExtendWith (.ref s.heap.objs.size) (.ref l)<|.ref s.heap.objs.size) _ _ {s with heap:=s.heap.push (seqObj "list" #[] 0)}
 unfold Builtin.List.listExtendWith;have a:(s.heap.push<|seqObj "list" #[] 0).get? l=some o:=get?_push_of_some _ f;refine Wb<|wpAny_typeOf (T:="tuple") ⟨o,a,c⟩ ?_;have g:(Value.type "tuple"==Value.type "tuple")=true:=by rfl
 rw[if_pos (by rw[g];simp)];refine Wb<|listItems_at a d ?_;refine Wb<|listItems_at (xs:=#[]) (n:=0) (get?_push_size _ rfl) rfl ?_;rw[if_neg (by simp)];refine Wb<|listUpdate_at (xs:=#[]) (n:=0) (get?_push_size _ rfl) rfl ?_ (zero_le _) (by show(#[]++vs.toArray).size<=sizeLine+1;simp only[Array.size_append,size_toArray,length_nil];omega);refine Wp ?_;show wpAny (model prog w) A (do
   let o <- load s.heap.objs.size
   match o.data with
   |.seq xs _=>pure xs.toList
   | _=>unsupported "internal:collect") Q E {s with heap:=(s.heap.push<|seqObj "list" #[] 0).update s.heap.objs.size (Obj.mapSeq (· ++ vs.toArray))}
 refine Wb<|wpAny_load (get?_update_seq (get?_push_size _ rfl) _) ?_;show wpAny _ _ (pure ((#[]:Array zt)++vs.toArray).toList) Q E _;rw[show((#[]:Array zt)++vs.toArray).toList=vs by simp];exact Wp b
theorem om{l:zo}{vs:List zt}{Q:List zt->zi->Prop}(a:s.heap.IsList l vs.toArray\/IsTup s.heap l vs.toArray)(b:Q vs {s with heap:=(s.heap.push<|seqObj "list" #[] 0).update s.heap.objs.size (Obj.mapSeq (· ++ vs.toArray))})(hsz:vs.length<=sizeLine):
  wpAny (model prog w) A (collect<|.ref l) Q E s:=by
 rcases a with a|a
 ·exact collect_list a b hsz
 ·exact ol a b hsz
theorem eA{f:Nat->Nat->Bool}{l:zo}{vs:List zt}{κ:SortKind}{Q:zt->zi->Prop}(u:Ord f vs.length)(F:s.heap.IsList l vs.toArray\/IsTup s.heap l vs.toArray)(y:vs.length<64)(D:∀(a:xg) (s':zi),a.units<=A.units+2->(∀b o,s.heap.get? b=some o->s'.heap.get? b=some o)->∀Q:SortKind->zi->Prop,2<=vs.length->Q κ s'->wpAny (model prog w) a (keyKind' vs.toArray) Q (λ_ _=>False) s')(c:∀(a:xg) (s':zi),a.units<=A.units+2->(∀b o,s.heap.get? b=some o->s'.heap.get? b=some o)->∀(i j:Nat) (C:Bool->zi->Prop),i<vs.length->j<vs.length->C (f i j) s'->wpAny (model prog w) a (keyLt' κ (vs.getD i Value.none)<|vs.getD j Value.none) C (λ_ _=>False) s')(x:∀(p:Array Nat) (h':qa),Row vs.length p->Up f p vs.length->(∀b o,s.heap.get? b=some o->h'.get? b=some o)->s.heap.objs.size<=s.heap.objs.size+1->(∃k,h'.get? (s.heap.objs.size+1)=some (seqObj "list" (toArray<|p.toList.map λi=>vs.getD i Value.none) k))->Q (.ref<|s.heap.objs.size+1) {s with heap:=h'}):
  wpAny (model prog w) A (call (.builtin "sorted") [.ref l]) Q E s:=by
 refine Calls.call_function_entry kind_sorted plain_sorted entry_sorted (args_sorted1 _) ?_;unfold Builtin.«sorted»;refine Wb (m:=checkCount "sorted" 1 1 _)<|Wp ?_;refine Wb<|om F ?_ (by rw[sizeLine_eq];omega);refine Wb<|wpAny_newList ?_ (by rw[sizeLine_eq];omega);have n:((s.heap.push<|seqObj "list" #[] 0).update s.heap.objs.size (Obj.mapSeq (· ++ vs.toArray))).objs.size=s.heap.objs.size+1:=by
  rw[size_update,size_push']
 have g:(((s.heap.push<|seqObj "list" #[] 0).update s.heap.objs.size (Obj.mapSeq (· ++ vs.toArray))).push (seqObj "list" vs.toArray 0)).get? (s.heap.objs.size+1)=some (seqObj "list" vs.toArray 0):=by
  rw[<-n];exact get?_push_size _ rfl
 have r:∀b o,s.heap.get? b=some o->(((s.heap.push<|seqObj "list" #[] 0).update s.heap.objs.size (Obj.mapSeq (· ++ vs.toArray))).push (seqObj "list" vs.toArray 0)).get? b=some o:=λb o q=>by
  have c:b<s.heap.objs.size:=lt_size q;rw[get?_push_ne _ _ _ (by rw[n];exact ne_of_lt<|lt_succ_of_lt c),get?_update_ne _ _ _ _<|ne_of_lt c,get?_push_ne _ _ _<|ne_of_lt c];exact q
 have d:∀b o,s.heap.get? b=some o->b≠s.heap.objs.size+1:=λb o q=>ne_of_lt<|lt_succ_of_lt (lt_size q);show wpAny _ _ _ _ _ {s with heap:=((s.heap.push<|seqObj "list" #[] 0).update s.heap.objs.size (Obj.mapSeq (· ++ vs.toArray))).push (seqObj "list" vs.toArray 0)}
 rw[n];refine Wb<|wpAny_holding (wpAny_call_entry slot_list_sort ⟨_,g,rfl⟩ entry_list_sort (gT (κ:=κ) (s:={s with heap:=((s.heap.push<|seqObj "list" #[] 0).update s.heap.objs.size (Obj.mapSeq (· ++ vs.toArray))).push (seqObj "list" vs.toArray 0)}) u g y ?_ ?_ λp I J=>⟨_,rfl,?_⟩)<|args_list_sort _)
 ·intro s' h v h2 H;exact D _ s' (by simp[Around.in1_units]) (λb o e=>h b o (d b o e)<|r b o e) v h2 H
 ·intro s' h i j C hi B z;exact c _ s' (by simp[Around.in1_units]) (λb o e=>h b o (d b o e)<|r b o e) i j C hi B z
 ·refine Wp ⟨_,rfl,x p _ I J (λb o e=>?_) (le_succ _) ?_⟩
  ·unfold sortedHeap;rw[get?_update_ne _ _ _ _<|d b o e];refine get?_push_of_some _<|get?_push_of_some _ ?_;rw[get?_update_ne _ _ _ _<|d b o e];exact r b o e
  ·unfold sortedHeap;obtain⟨t,G⟩:∃t,((((s.heap.push<|seqObj "list" #[] 0).update s.heap.objs.size (Obj.mapSeq (· ++ vs.toArray))).push (seqObj "list" vs.toArray 0)).update (s.heap.objs.size+1) (Obj.mapSeq λ_=>(#[]:Array zt))).get? (s.heap.objs.size+1)=some (seqObj "list" #[] t):=⟨_,get?_update_seq g λ_=>#[]⟩;exact⟨_,get?_update_seq (get?_push_of_some _<|get?_push_of_some _ G) _⟩
theorem sR{f:Nat->Nat->Bool}{l:zo}{vs:List zt}{κ:SortKind}{Q:zt->zi->Prop}(c:Ord f vs.length)(h:s.heap.IsList l vs.toArray)(e:vs.length<64)(g:∀(a:xg) (s':zi),a.units<=A.units+2->(∀b o,s.heap.get? b=some o->s'.heap.get? b=some o)->∀Q:SortKind->zi->Prop,2<=vs.length->Q κ s'->wpAny (model prog w) a (keyKind' vs.toArray) Q (λ_ _=>False) s')(m:∀(a:xg) (s':zi),a.units<=A.units+2->(∀b o,s.heap.get? b=some o->s'.heap.get? b=some o)->∀(i j:Nat) (C:Bool->zi->Prop),i<vs.length->j<vs.length->C (f i j) s'->wpAny (model prog w) a (keyLt' κ (vs.getD i Value.none)<|vs.getD j Value.none) C (λ_ _=>False) s')(d:∀(p:Array Nat) (h':qa),Row vs.length p->Up f p vs.length->(∀b o,s.heap.get? b=some o->h'.get? b=some o)->s.heap.objs.size<=s.heap.objs.size+1->(∃k,h'.get? (s.heap.objs.size+1)=some (seqObj "list" (toArray<|p.toList.map λi=>vs.getD i Value.none) k))->Q (.ref<|s.heap.objs.size+1) {s with heap:=h'}):
  wpAny (model prog w) A (call (.builtin "sorted") [.ref l]) Q E s:=eA c (.inl h) e g m d
end
end SRT
namespace L2
open PySem PySem.Spec PyProof.Rows
section
variable{X:Cx}{tg:Expr}
theorem rp:∀{bs:List Bool}{us:List zt},aq (bs.map V.bl) us->us=bs.map Value.bool
 |[],_,.nil=>rfl
 |b::bs,_,.cons r t=>by
  have e:_=Value.bool b:=r;rw[e,rp t];rfl
theorem uQ(t:X.calm=true):bu X (.builtin "all") (λxs H Q=>∃a,∃bs:List Bool,xs=[.ref a]/\SqL X.K H a (bs.map V.bl)/\Q (.bl<|bs.all id) H):=by
 intro pins s σ H xs us Q I r h;obtain⟨a,bs,rfl,A,q⟩:=h;obtain⟨u,rfl,C⟩:=bY r;cases C;obtain⟨G,D,pl,F⟩:=I.list A;have e:=rp D;subst e;refine call_all_walk<|wpAny_pyIter_list pl.isList ?_;have y:a<s.heap.objs.size:=by obtain⟨o,e,_⟩:=pl.isList;exact lt_size e
 have z:a≠s.heap.objs.size:=ne_of_lt y;refine⟨s.heap.objs.size,_,_,_,_,_,λi=>bs.getD i false,rfl,Walks.list (by simp[I.ok.hd t]) s.heap.objs.size a z (bs.map Value.bool).toArray,⟨⟨_,get?_push_size _ rfl,rfl,rfl⟩,pl.isList.push _⟩,?_,?_⟩
 ·intro i v s' k E n p;have c:(bs.map Value.bool)[i]?=some v:=by simpa using n
  rw[getElem?_map]at c;cases d:bs[i]? with
  |none=>rw[d]at c;cases c
  |some b =>
   rw[d]at c;have m:Value.bool b=v:=Option.some.inj c;subst m;refine wpAny_truthy_bool ?_;have g:k (bs.getD i false) s':=p;rw[getD_eq_getElem?_getD,d]at g;exact g
 ·intro h' tk w;refine⟨.bl<|bs.all id,H,I.kept (t':=tk) λb o e=>w b o (by simp only[mem_singleton];exact ne_of_lt<|lt_size e)<|get?_push_of_some _ e,?_,q⟩;have l:((List.range (bs.map Value.bool).toArray.size).all λi=>bs.getD i false)=bs.all id:=by
   rw[size_toArray,length_map];rw[Bool.eq_iff_iff,all_eq_true,all_eq_true];constructor
   ·intro f x B;obtain⟨i,hi,e⟩:=mem_iff_getElem.mp B;have:=f i<|mem_range.mpr hi;rw[getD_eq_getElem?_getD,getElem?_eq_getElem hi,e]at this;exact this
   ·intro f i hi;have j:=mem_range.mp hi;rw[getD_eq_getElem?_getD,getElem?_eq_getElem j];exact f _<|getElem_mem j
  show _=Value.bool _;rw[l]
theorem iQ:bu X (.builtin "isinstance") (λxs H Q=>∃x n t b,xs=[x,.ty n]/\TyOf X.K H x t/\kitOne X.K t (.type n)=some b/\Q (.bl b) H):=by
 intro pins s σ H xs us Q I r h;obtain⟨x,n,t,b,rfl,ty,e,q⟩:=h;obtain⟨u,d,rfl,a,c⟩:=uq r;cases (show d=Value.type n from c);exact sF I a ty e λtk=>⟨.bl b,H,I.tok tk,rfl,q⟩
def Its(x:Str):It:=⟨λi _=>i<x.cps.size,λi H v H'=>H'=H/\∃c,x.cps[i]?=some c/\v=.str ⟨#[c]⟩,λi _=>x.cps.size<=i⟩
theorem uR{P:xx}{w:qq}{K:Frag}(x:Str)(t:Tok)(it:zo):Turn P w K tg (Its x) [it] it (λi h=>h.IsStrIter it (strIterType x) x t i) where
 mem:=by simp
 obj:=λi h st b f=>by
  have e:b=it:=by simpa using f
  subst e;obtain⟨o,e,c,d⟩:=st;exact⟨o,e,λv R=>by rw[d]at R;cases R⟩
 keep:=λi h h' st k=>by
  obtain⟨o,e,r⟩:=st;exact⟨o,k it (by simp) o e,r⟩
 item:=by
  intro X G M F J i pins s σ H E I C st L;subst G M F;obtain⟨n,p,T,q,u,z⟩:=C it (by simp);have j:i<x.cps.size:=L;have B:∀(h':qa)(tk:Nat),h'.IsStrIter it (strIterType x) x t (i+1)->SameBut it s.heap h'->∃N,some (Value.str ⟨#[x.cps[i]]⟩ s.toks)=some N/\wpAny (model X.prog X.w) X.A (letOwnedTupleGo tg (.ref it) N) (λ_ O=>∃y H',Inv X pins σ H' O/\aw y N/\(Its x).yld i H y H'/\O.heap.IsStrIter it (strIterType x) x t (i+1)/\∀b∈[it],H' b=none) E {s with heap:=h',toks:=tk}:=λh' tk l m=>by
   have S:Inv X pins σ H {s with heap:=h',toks:=tk}:=I.turned (t':=tk) (λb o f e=>(m.2 b f).trans e) n p q u z
   obtain⟨o,e,c,d⟩:=id l;refine⟨_,rfl,lm (s:={s with heap:=h',toks:=tk}) e c d ?_ ⟨.str ⟨#[x.cps[i]]⟩,H,S,⟨_,rfl⟩,⟨rfl,x.cps[i],by simp[j],rfl⟩,l,λb f=>(C b f).1⟩⟩;unfold strIterType
   split<;>decide
  cases g:x.cps.all (· < 128)with
  |true =>
   have a:strIterType x="str_ascii_iterator":=by simp[strIterType,g]
   rw[a]at st B|-;exact wpAny_pyNext_ascii_item st (c:=x.cps[i]) (by simp[j]) λh' l m=>B h' _ l m
  |false =>
   have a:strIterType x="str_iterator":=by simp[strIterType,g]
   rw[a]at st B|-;exact wpAny_pyNext_wide_item st (c:=x.cps[i]) (by simp[j]) λh' l m=>B h' _ l m
 done:=by
  intro X G M F J i pins s σ H E I C st L;subst G M F;obtain⟨n,p,T,q,u,z⟩:=C it (by simp);have j:x.cps.size<=i:=L;cases g:x.cps.all (· < 128)with
  |true =>
   have a:strIterType x="str_ascii_iterator":=by simp[strIterType,g]
   rw[a]at st;exact wpAny_pyNext_ascii_end (I.ok.hd J) st (by simp[j]) λh' D=>⟨rfl,I.turned (t':=s.toks) (λb o f e=>D b o f e) n p q u z⟩
  |false =>
   have a:strIterType x="str_iterator":=by simp[strIterType,g]
   rw[a]at st;exact wpAny_pyNext_wide_end (I.ok.hd J) st (by simp[j]) λh' D=>⟨rfl,I.turned (t':=s.toks) (λb o f e=>D b o f e) n p q u z⟩
 self:=λA i s Q E st h=>by
  cases g:x.cps.all (· < 128)with
  |true =>
   have a:strIterType x="str_ascii_iterator":=by simp[strIterType,g]
   rw[a]at st;exact wpAny_pyIter_striter_ascii st h
  |false =>
   have a:strIterType x="str_iterator":=by simp[strIterType,g]
   rw[a]at st;exact wpAny_pyIter_striter_wide st h
def Dy(a:TE):TI:=λσ H R=>a σ H λv H1=>∃x,v=.str x/\R (Its x) H1
theorem Aj{l:Expr}{c:TE}(f:PE X l c):PI X tg l (Dy c):=by
 intro pins s σ H R I h;refine thn (f pins s σ H _ I h) λv s1 g=>?_;obtain⟨y,H1,a,j,i⟩:=g;obtain⟨x,e,q⟩:=i;subst e;obtain⟨t,rfl⟩:=j;refine wpAny_pyIter_strU ?_;refine⟨s1.heap.objs.size,[s1.heap.objs.size],_,_,H1,rfl,a.kept (t':=s1.toks) λb o e=>get?_push_of_some _ e,uR x t _,⟨_,get?_push_size _ rfl,rfl,rfl⟩,λb d=>?_,q⟩;have e:b=s1.heap.objs.size:=by simpa using d
 subst e;exact a.fpOk (le_refl _)<|a.hok.fresh (le_refl _)
theorem sS{i:List (zo×Obj)}{j:St}{b:Hp}{s:zi}{a:zo}{ks:List Key}(f:Inv X i j b s)(g:b a=some (.tup<|ks.map kV))(P:xx)(w:qq):IsTupleKey (ap P w) s.heap ks a:=by
 obtain⟨_,h,r,o,e,c,n,d⟩:=f.hok a _ g;exact⟨o,h.toArray,n,e,c,d,by simpa using iu r⟩
theorem cV:∀{a:List zo}{us:List zt},aq (a.map V.ref) us->us=a.map Value.ref
 |[],_,.nil=>rfl
 |b::bs,_,.cons r t=>by
  have e:_=Value.ref b:=r;rw[e,cV t];rfl
theorem kO(t:X.A.units+1<cLine):OpR X (compareOp .NotIn) (λx y H Q=>∃a p ks,∃d:List<|zo×List Key,x=.ref a/\H a=some (.tup<|ks.map kV)/\y=.ref p/\SqL X.K H p ((d.map (·.1)).map V.ref) /\
  (∀z∈d,H z.1=some (.tup<|z.2.map kV))/\Q (.bl<|!(d.any λz=>decide<|z.2=ks)) H):=by
 intro pins s σ H x y v u Q I E F h;obtain⟨a,p,ks,d,rfl,n,rfl,r,j,q⟩:=h;cases E;cases F;obtain⟨M,D,pl,L⟩:=I.list r;have e:=cV D;subst e
 let e:zt->Bool:=λv=>match v with | .ref b=>((d.find? λz=>z.1==b).map λz=>decide<|z.2=ks).getD false | _=>false
 have i:∀z∈d,e (.ref z.1)=decide (z.2=ks):=λz c=>by
  show((d.find? λy=>y.1==z.1).map λz=>decide<|z.2=ks).getD false=_;cases g:d.find? λy=>y.1==z.1 with
  |none=>have:=List.find?_eq_none.mp g z c;simp at this
  |some y =>
   have h1:=find?_some g;have h2:=List.mem_of_find?_eq_some g;have f:y.1=z.1:=by simpa using h1
   have k:=j y h2;rw[f,j z c]at k;have l:z.2.map kV=y.2.map kV:=by injection (Option.some.inj k)
   rw[ra l];rfl
 refine SeqAt.notIn_listAt e pl.isList (λy B=>?_) ⟨.bl _,H,I,rfl,?_⟩
 ·have C:y∈(d.map (·.1)).map Value.ref:=by simpa using B
  obtain⟨b,o,rfl⟩:=mem_map.mp C;obtain⟨z,c,rfl⟩:=mem_map.mp o;rw[i z c];intro prog w G J m;exact wpAny_eqBool_tuple (knd:=ap prog w) (by simp;exact t) (sS I (j z c) prog w) (sS I n prog w) m
 ·have f:(((d.map (·.1)).map Value.ref).toArray.any e)=d.any λz=>decide (z.2=ks):=by
   rw[List.any_toArray,any_map,any_map];apply Bool.eq_iff_iff.mpr;rw[any_eq_true,any_eq_true];constructor
   ·rintro⟨z,c,h1⟩;exact⟨z,c,by rw[<-i z c];exact h1⟩
   ·rintro⟨z,c,h1⟩;exact⟨z,c,by show e (.ref z.1)=true;rw[i z c];exact h1⟩
  rw[f];exact q
def xV:V->List V->Hp->VK->Prop:=λx vs H Q=>∃d kvs k y,x=.ref d/\vs=[kV k,y]/\H d=some (.dK kvs)/\kvs.length<sizeLine/\(∀v,aO kvs k=some v->Q v H)/\(aO kvs k=none->Q y (upd H d<|.dK (cf kvs k y)))
theorem gb:MtM X "dict.setdefault" xV:=by
 intro pins s σ H x vs v us Q I z t h;obtain⟨d,kvs,k,y,rfl,rfl,f,D,o,p⟩:=h;cases z;obtain⟨u,B,rfl,r,i⟩:=t.two;obtain⟨C,g,ws,a,dd⟩:=rb I.hok f;have n:ws.length<=sizeLine:=by rw[<-a.length];exact C
 refine call_meetsIn F.slot_dict_setdefault dd.typeIs F.entry_dict_setdefault (F.args_dict_setdefault_3 _ _ _) (kt_meets_setdefault (ap X.prog X.w) d (fX r) g B) ⟨ws,dd,n,λE b=>?_,λb h' c A=>?_⟩
 ·have:=a.val k;rw[b]at this;cases e:aO kvs k with
  |none=>rw[e]at this;cases this
  |some v =>
   rw[e]at this;exact⟨v,H,I.tok _,this,o v e⟩
 ·have:=a.val k;rw[b]at this;cases e:aO kvs k with
  |some v=>rw[e]at this;cases this
  |none =>
   have j:∃q,h'.get? d=some q:=let⟨q,_,_,m,_⟩:=c;⟨q,m⟩;have l:(cf kvs k y).length<=sizeLine:=by have:=cF kvs k y;omega
   exact⟨y,_,gJ I (by rw[f];exact True.intro) A j<|jy l g (a.put k i) c,i,p e⟩
theorem sT:bu X (.type "range") (λxs H Q=>∃i j,xs=[.int i,.int j]/\∀p,H p=none->Q (.ref p) (upd H p<|.rng i j)):=by
 intro pins s σ H xs us Q I r h;obtain⟨i,j,rfl,q⟩:=h;obtain⟨u,c,rfl,⟨t,rfl⟩,⟨t',rfl⟩⟩:=uq r;refine call_range_2 ⟨.ref s.heap.objs.size,_,I.laid (t':=s.toks+1) (o:=.rng i j) (λb a q=>get?_push_of_some _ q) (le_refl _) ?_,rfl,q _<|I.hok.fresh (le_refl _)⟩;exact⟨t,t',_,get?_push_size _ rfl⟩
theorem qb{lo:Int}{n:Nat}{a:Array zt}(c:ItemsOf (λi v=>∃t,v=.int (lo+i*1) t) a n):aq ((List.range n).map λk=>V.int<|lo+(k:Nat)) a.toList:=by
 obtain⟨h1,h2⟩:=c;have key:∀(l:List zt)(k:Nat),(∀(i:Nat)(v:zt),l[i]?=some v->∃t,v=Value.int (lo+(k+i:Nat)) t)->aq ((range' k l.length).map λk=>V.int<|lo+(k:Nat)) l:=by
  intro l
  induction l with
  |nil=>intro k _;exact .nil
  |cons v l h =>
   intro k b;rw[length_cons,List.range'_succ,map_cons];refine .cons ?_<|h (k+1) λi w g=>?_
   ·obtain⟨t,e⟩:=b 0 v rfl;exact⟨t,e⟩
   ·obtain⟨t,e⟩:=b (i+1) w g;exact⟨t,by rw[e,show k+(i+1)=k+1+i by omega]⟩
 have d:a.toList.length=n:=by simpa using h1
 have:=key a.toList 0 λi v b=>by
  have f:a[i]?=some v:=by simpa using b
  obtain⟨t,e⟩:=h2 i v f;exact⟨t,by rw[e,Int.mul_one,zero_add]⟩
 rw[d]at this;rw[List.range_eq_range'];exact this
theorem kQ(m:X.calm=true):bu X (.type "list") (λxs H Q=>∃p i j,xs=[.ref p]/\H p=some (.rng i j)/\(-(2 ^ 62)<=i/\i<2 ^ 62/\-(2 ^ 62)<=j/\j<2 ^ 62)/\(j-i).toNat<=1000 /\
  ∀l,H l=none->Q (.ref l) (upd H l<|.lst ((List.range (j-i).toNat).map λk=>V.int<|i+(k:Nat)))):=by
 intro pins s σ H xs us Q I r h;obtain⟨p,i,j,rfl,v,⟨b,c,d,f⟩,A,q⟩:=h;obtain⟨u,rfl,z⟩:=bY r;cases z;obtain⟨t,t',B,e⟩:=(show aU X.prog X.w H s.heap p (.rng i j)from I.hok p _ v);have x:Builtin.Range.rangeSize i j 1=((j-i).toNat:Nat):=by rw[rangeSize_one];split<;>omega
 refine call_list_range (n:=(j-i).toNat) (I.ok.hd m) e (small_one b c d f) x (by omega) λh' tk a g y o hi=>?_;refine⟨.ref s.heap.objs.size,_,I.laid (t':=tk) y (le_refl _) (show aU X.prog X.w _ h' _ (.lst _)from⟨?_,a.toList,g,qb hi,by simpa using o⟩),rfl,q _<|I.hok.fresh (le_refl _)⟩
 rw[length_map,length_range,sizeLine_eq];omega
theorem gU{prog:xx}{w:qq}{A:xg}{E:zt->zi->Prop}{s:zi}{t c:zo}{items:Array zt}{f g:zt}{lo b:Option Int}{Q:zt->zi->Prop}(a:IsTup s.heap t items)(d:s.heap.IsSliceOf c f g .none)(pl:IsPart f lo)(m:IsPart g b)(e:HT.sIx items.size 0 lo=0/\HT.sIx items.size items.size b=items.size)(h:Q (.ref t) s):wpAny (model prog w) A (getItem (.ref t)<|.ref c) Q E s:=by
 obtain⟨os,k,j,n⟩:=id d;have i:s.TypeIs (.ref c) "slice":=⟨os,k,j⟩;unfold getItem
 try with_reducible refine wpAny_holding ?_
 first|refine Wb (Wp ?_)|skip
 refine Wb<|wpAny_sequenceKey a.typeIs (by decide) ?_;refine Wb (wpAny_callSpecial?_slot (name:=ofString "__getitem__") a.typeIs PyProof.Rows.slot_tuple_getitem
  (wpAny_call_entry PyProof.Rows.slot_tuple_getitem a.typeIs entry_tuple_getitem ?_<|args_tuple_getitem _ _))
 show wpAny _ _ (Builtin.Tuple.tupleItemsOf (.ref t) >>= _) _ _ s;refine Wb<|tupleItemsOf_ a ?_;refine Wb<|wpAny_typeOf i ?_;rw[if_pos (by decide)];refine Wb<|HT.dI d pl m ?_;have l:((((HT.sIx items.size 0 lo:Nat):Int)==0&&(1:Int)==1&&(HT.sIx items.size items.size b-HT.sIx items.size 0 lo)==items.size)=true):=by
  rw[e.1,e.2];simp
 show wpAny _ _ (if (((HT.sIx items.size 0 lo:Nat):Int)==0&&(1:Int)==1&&(HT.sIx items.size items.size b-HT.sIx items.size 0 lo)==items.size)=true then _ else _) _ _ s
 rw[if_pos l];refine Wb ?_;unfold Builtin.Tuple.tupleIsExact;refine Wb<|wpAny_typeOf a.typeIs (Wp ?_);rw[if_pos (by decide)];exact Wb<|wpAny_rule (Wp ⟨_,rfl,Wp h⟩)
theorem qc:SlR X (λx lo hi H Q=>∃a xs,x=.ref a/\SqT X.K H a xs/\HT.sIx xs.length 0 lo=0/\HT.sIx xs.length xs.length hi=xs.length/\Q (.ref a) H):=by
 intro pins s σ H x v l m lo hi k Q I i d pl g h;obtain⟨a,xs,rfl,e,h1,h2,q⟩:=h;cases i;obtain⟨f,r,b,j⟩:=I.tuple e;have c:f.toArray.size=xs.length:=by rw[size_toArray];exact r.length.symm
 exact⟨"tuple",_,PyProof.Rows.slot_tuple_getitem.lookup,b.typeIs,gU b d pl g (by rw[c];exact⟨h1,h2⟩) ⟨.ref a,H,I,rfl,q⟩⟩
theorem qd(g:X.A.units<cLine):OpR X (compareOp .Eq) (λx y H Q=>∃a b xs,x=.ref a/\y=.ref b/\SqL X.K H a xs/\SqL X.K H b []/\Q (.bl<|decide (xs=[])) H):=by
 intro pins s σ H x y v u Q I p r h;obtain⟨a,b,xs,rfl,rfl,m,n,q⟩:=h;cases p;cases r;obtain⟨i,j,f,_⟩:=I.list m;obtain⟨t,o,d,_⟩:=I.list n;cases o
 by_cases e:xs=[]
 ·subst e;cases j;refine eq_listAt (e:=λ_=>true) f.isList d.isList rfl g (λw h1 h2=>absurd h2 (by simp)) ⟨.bl _,H,I,?_,q⟩;rfl
 ·have k:i≠[]:=λc=>e<|j.nil_iff.mp c;have l:i.length≠0:=λc=>k<|length_eq_zero_iff.mp c;refine SeqAt.eq_list_lengthsAt f.isList d.isList (by simp[l]) g ⟨.bl _,H,I,?_,q⟩;show _=Value.bool _;simp[e]
end
open PySem PySem.Spec PyProof.Rows
section
variable{X:Cx}{tg:Expr}
abbrev kR:=zo×Int×List V
def numAt(zs:List kR)(i:Nat):Int:=(zs.getD i (0,0,[])).2.1
theorem uS{zs:List kR}(c:(zs.map (·.2.1)).Nodup):SRT.Ord (λi j=>decide<|numAt zs i<numAt zs j) zs.length:=by
 refine⟨λi _=>by simp,λi j k _ _ _ h1 h2=>?_,λi j hi a d=>?_⟩
 ·simp only[decide_eq_true_eq]at *;omega
 ·simp only[decide_eq_true_eq];have:numAt zs i≠numAt zs j:=by
   unfold numAt;rw[getD_eq_getElem?_getD,getD_eq_getElem?_getD,getElem?_eq_getElem hi,getElem?_eq_getElem a];intro e;have b:(zs.map (·.2.1))[i]'(by simpa using hi)=(zs.map (·.2.1))[j]'(by simpa using a):=by simpa using e
   exact d<|(getElem_inj c).mp b
  omega
theorem gW{prog:xx}{w:qq}{A:xg}{s:zi}{b:Bool}{Q:Bool->zi->Prop}(h:Q false s):∀(l:List zt)(i:Nat),PySem.W.KatLex prog w A b false Q (l.zip l) i s
 |[],i=>h
 |v::l,i=>kat_cons<|EqAt.same v prog w _ _ (kat_yes<|gW h l (i+1))
theorem gX:bu X (.builtin "sorted") (λxs H Q=>∃l,∃zs:List kR,xs=[.ref l]/\(SqL X.K H l ((zs.map (·.1)).map V.ref)\/SqT X.K H l ((zs.map (·.1)).map V.ref))/\(∀z∈zs,H z.1=some (.tup (.int z.2.1::z.2.2)))/\(zs.map (·.2.1)).Nodup/\zs.length<64 /\
  ∀g:List kR,g.Perm zs->g.Pairwise (λa b=>a.2.1<b.2.1)->∀p,H p=none->Q (.ref p) (upd H p<|.lst ((g.map (·.1)).map V.ref))):=by
 intro pins s σ H xs us Q I r h;obtain⟨l,zs,rfl,B,b8,a5,b5,q⟩:=h;obtain⟨u,rfl,c8⟩:=bY r;cases c8;obtain⟨d,E,pl⟩:∃d,aq ((zs.map (·.1)).map V.ref) d/\(s.heap.IsList l d.toArray\/IsTup s.heap l d.toArray):=by
  rcases B with B | B
  ·obtain⟨d,E,pl,c3⟩:=I.list B;exact⟨d,E,.inl pl.isList⟩
  ·obtain⟨d,E,pl,c3⟩:=I.tuple B;exact⟨d,E,.inr pl⟩
 have e:=cV E;subst e;have A:((zs.map (·.1)).map Value.ref).length=zs.length:=by simp
 have U:∀z∈zs,∃o d n t,s.heap.get? z.1=some o/\o.cls=.type "tuple"/\o.data=.seq d n/\d.toList=.int z.2.1 t::d.toList.drop 1:=λz Y=>by
  obtain⟨_,d,c7,o,N,m,n,O⟩:=I.hok z.1 _<|b8 z Y;cases c7 with
  |cons c6 d8 =>
   obtain⟨t,rfl⟩:=c6;exact⟨o,_,n,t,N,m,O,by simp⟩
 have R:∀i,i<zs.length->((zs.map (·.1)).map Value.ref).getD i Value.none=.ref (zs.getD i (0,0,[])).1/\zs.getD i (0,0,[])∈zs:=λi hi=>by
  rw[getD_eq_getElem?_getD,getD_eq_getElem?_getD,getElem?_map,getElem?_map,getElem?_eq_getElem hi];exact⟨rfl,getElem_mem hi⟩
 refine SRT.eA (κ:=tuples' true) (f:=λi j=>decide<|numAt zs i<numAt zs j) (by rw[A];exact uS a5) pl (by rw[A];exact b5) ?kind ?less ?fin
 case kind =>
  intro a9 s' _ x c9 h2 b6;have key:∀ys:List kR,(∀z∈ys,z∈zs)->∃fs:List zt,KatTups s'.heap ((ys.map (·.1)).map Value.ref) fs/\fs.length=ys.length/\∀v∈fs,∃i t,v=Value.int i t:=by
   intro ys
   induction ys with
   |nil=>intro _;exact⟨[],KatTups.nil,rfl,λv k=>by simp at k⟩
   |cons z ys Z =>
    intro a4;obtain⟨fs,h1,P,h3⟩:=Z λy c2=>a4 y (by simp[c2]);obtain⟨o,d,n,t,N,m,O,b2⟩:=U z<|a4 z (by simp);refine⟨.int z.2.1 t::fs,KatTups.cons (x _ _ N) m O ?_ h1,by simp[P],λv k=>?_⟩
    ·rw[<-getElem?_toList,b2];rfl
    ·rcases mem_cons.mp k with rfl|k
     ·exact⟨_,_,rfl⟩
     ·exact h3 v k
  obtain⟨fs,h1,P,h3⟩:=key zs λz Y=>Y;refine kat_kind (T:=.type "int") h1 (by rw[P];rw[A]at h2;omega) (λv k=>?_) (by rfl) b6;obtain⟨i,t,rfl⟩:=h3 v k;exact .now
 case less =>
  intro a9 s' _ x i j C hi w a3;rw[A]at hi w;obtain⟨b3,c4⟩:=R i hi;obtain⟨b4,c5⟩:=R j w;rw[b3,b4];obtain⟨d6,a8,d4,d9,a0,d0,a1,b0⟩:=U _ c4;obtain⟨d7,d3,d5,e0,L,d1,M,b1⟩:=U _ c5;refine kat_lt (x _ _ a0) a1 (x _ _ L) M ?_
  by_cases G:i=j
  ·subst G;rw[a0]at L;cases L;rw[a1]at M;cases M;have:C false s':=by simpa using a3
   have m:decide (a8.size<a8.size)=false:=by simp
   rw[m];exact gW this _ _
  ·have b9:numAt zs i≠numAt zs j:=by
    rcases (uS a5).tot i j hi w G with h1|h1<;>simp only[decide_eq_true_eq]at h1<;>omega
   rw[b0,b1];refine kat_cons<|wpAny_eqBool_int ?_;have m:((zs.getD i (0,0,[])).2.1==(zs.getD j (0,0,[])).2.1)=false:=beq_eq_false_iff_ne.mpr b9;rw[m];refine kat_no ?_;exact kat_lt_int a3
 case fin =>
  intro p h' J a7 x _ F;obtain⟨c,F⟩:=F;rw[A]at J a7;obtain⟨g,D⟩:∃g,g=p.toList.map λi=>zs.getD i (0,0,[]):=⟨_,rfl⟩;have a6:g.Perm zs:=by
   rw[D];refine(J.perm.map _).trans ?_;have:(List.range zs.length).map (λi=>zs.getD i (0,0,[]))=zs:=by
    apply ext_getElem?;intro i;rw[getElem?_map]
    by_cases hi:i<zs.length
    ·rw[getElem?_range hi,getElem?_eq_getElem hi];show some (zs.getD i (0,0,[]))=_;rw[getD_eq_getElem?_getD,getElem?_eq_getElem hi];rfl
    ·rw[getElem?_eq_none (by rw[length_range];omega),getElem?_eq_none (by omega)];rfl
   rw[this]
  have d2:p.size=zs.length:=J.size;have c1:g.Pairwise (λa b=>a.2.1<b.2.1):=by
   rw[pairwise_iff_getElem];intro i j hi w G;have S:i<p.size:=by rw[D,length_map,length_toList]at hi;exact hi
   have b7:j<p.size:=by rw[D,length_map,length_toList]at w;exact w
   have:=a7 i j G (by omega);simp only[decide_eq_true_eq,numAt]at this;rw[getD_eq_getD_getElem?,getD_eq_getD_getElem?,Array.getElem?_eq_getElem S,Array.getElem?_eq_getElem b7]at this;simpa [D]using this
  have c0:(toArray<|p.toList.map λi=>((zs.map (·.1)).map Value.ref).getD i Value.none)=((g.map (·.1)).map Value.ref).toArray:=by
   congr 1
   rw[D];simp only[map_map];apply map_congr_left;intro i hi;have S:i<zs.length:=mem_range.mp<|J.perm.mem_iff.mp hi;have:=(R i S).1;simp only[map_map]at this;exact this
  rw[c0]at F;have k:aq ((g.map (·.1)).map V.ref) ((g.map (·.1)).map Value.ref):=by
   generalize g.map (·.1)=a2
   induction a2 with
   |nil=>exact .nil
   |cons a a2 Z=>exact .cons rfl Z
  refine⟨.ref<|s.heap.objs.size+1,_,I.laid (t':=s.toks) (o:=.lst<|(g.map (·.1)).map V.ref) x (le_succ _) ⟨?_,_,c,k,F⟩,rfl,q g a6 c1 _<|I.hok.fresh (le_succ _)⟩;rw[length_map,length_map,a6.length_eq,sizeLine_eq];omega
theorem iy:bu X (.builtin "sorted") (λxs H Q=>∃l,∃zs:List kR,xs=[.ref l]/\SqL X.K H l ((zs.map (·.1)).map V.ref)/\(∀z∈zs,H z.1=some (.tup (.int z.2.1::z.2.2)))/\(zs.map (·.2.1)).Nodup/\zs.length<64 /\
  ∀c:List kR,c.Perm zs->c.Pairwise (λa b=>a.2.1<b.2.1)->∀p,H p=none->Q (.ref p) (upd H p<|.lst ((c.map (·.1)).map V.ref))) :=
 λpins s σ H xs us Q I r ⟨l,zs,e,d,h⟩=>gX pins s σ H xs us Q I r ⟨l,zs,e,.inl d,h⟩
end
theorem my{scope:Scope}{env:Env}(a:∀y∈scope.names,y.2≠.free):relabel scope env=scope:=by
 unfold relabel;rw[map_eq_self (l:=scope.names) (λx b=>by
  obtain⟨n,k⟩:=x;have:(k==NameKind.free)=false:=by simpa using a _ b
  simp[this])]
theorem fc{X:Cx}{a:Scope}(e:a.kind=.function)(b:∀y∈a.names,y.2≠.free)(d:∀y∈a.names,y.2≠.cell)(f:∀x∈a.names,x.2=.local->a.names.lookup x.1=some .local):LcOk X a [] :=
 ⟨e,closureFor_none b,f,d,λx c h=>by simp at h,λx h=>by
  rw[my b]at h;rcases h with h|h
  ·exact absurd rfl (d _<|PySem.mem_of_lookup h)
  ·exact absurd rfl<|b _ (PySem.mem_of_lookup h)⟩
theorem uT{k:Nat}{js:List Nat}{J:It}{g:TG}{f:TE}{b:St}{o:Hp}{Q:VK}{p:zo}(n:Nat)(v:n<=1000)(Pv:Nat->List V->St->Hp->Prop)(s:Pv 0 [] (cA k js b)<|upd o p (.lst []))(t:∀i ys a H',Pv i ys a H'->ys.length<=i)(go:∀i ys a H',i<n->Pv i ys a H'->J.go i H')(stop:∀ys a H',Pv n ys a H'->J.stop n H'/\Q (.ref p) H')(step:∀i ys a H',i<n->Pv i ys a H'->∀x H2,J.yld i H' x H2->g x a H2 λl q=>f l q λy h=>h p=some (.lst ys)/\Pv (i+1) (ys++[y]) l (upd h p<|.lst (ys++[y])))(mg:∀x b H (Q c:St->Hp->Prop),(∀b H,Q b H->c b H)->g x b H Q->g x b H c)(u:∀b H (Q c:VK),(∀y H,Q y H->c y H)->f b H Q->f b H c):
  LcW k js g f b Q J o p:=by
 refine⟨λi m ys a H'=>m=n-i/\i<=n/\Pv i ys a H',⟨n,by simp,zero_le _,s⟩,?_⟩;rintro i m ys a H' ⟨rfl,hi,d⟩
 by_cases j:i<n
 ·refine .inr ⟨go i ys a H' j d,?_,λx H2 y=>?_⟩
  ·have:=t i ys a H' d;exact lt_of_le_of_lt this<|au (by omega)
  ·refine mg _ _ _ _ _ (λl q h3=>u _ _ _ _ (λw h r=>⟨r.1,n-(i+1),by omega,rfl,j,r.2⟩) h3)<|step i ys a H' j d x H2 y
 ·have e:i=n:=by omega
  subst e;exact .inl<|stop ys a H' d
theorem ag{H:Hp}{p:zo}{o:HO}(h:H p=none):Same H (upd H p o):=λb u e=>by rw[ae<|ak e h];exact e
theorem ca{H:Hp}{p a:zo}{o u:HO}(h:H p=none)(e:H a=some u):upd H p o a=some u:=by rw[ae<|ak e h];exact e
theorem aC{H0 a:Hp}{p:zo}{o:HO}(c:H0 p=none)(s:Same H0 a):Same H0 (upd a p o):=λb u e=>by
 rw[ae<|ak e c];exact s b u e
structure Fly(P:xx)(w:qq)(outer:List Env)(H:Hp)(s:zi)(H':Hp)(ea C:zo)(s':zi):Prop where
 os:s'.os=s.os
 bare:AllBare s'.gens
 un:Un (frs outer) [] H H' s.heap s'.heap
 new:H' ea=none
 fly:∃B a0,FlyingW B outer ea (.ref C) a0 s'.heap/\HOk P w H' B/\(∀b o,s.heap.get? b=some o->H b=none->b∉frs outer->B.get? b=some o) /\
  ∀b o,s.heap.get? b=some o->b∉frs outer->∃o',B.get? b=some o'
def CX1(P:xx)(w:qq):CXT:=λouter H s E e s'=>∃ea C H',e=.ref ea/\Fly P w outer H s H' ea C s'/\E (.ref C) none H'
theorem aU.ex{P:xx}{w:qq}{c:Hp}{b:qa}{a:zo}{o:HO}(x:aU P w c b a o):∃ob,b.get? a=some ob:=by
 cases o with
 |lst xs=>obtain⟨_,_,_,_,e⟩:=x;exact⟨_,e⟩
 |tup xs=>obtain⟨_,_,_,ob,e,_⟩:=x;exact⟨ob,e⟩
 |dK kvs=>obtain⟨_,_,_,_,o,_,_,e,_⟩:=x;exact⟨_,e⟩
 |dT kvs=>obtain⟨_,_,_,_,o,_,_,e,_⟩:=x;exact⟨_,e⟩
 |set S n=>obtain⟨o,_,_,_,e,_⟩:=x;exact⟨_,e⟩
 |ins C dx fs=>obtain⟨_,_,_,e,_⟩:=x;exact⟨_,e⟩
 |own y=>obtain⟨_,e⟩:=x;exact⟨_,e⟩
 |xd fs=>obtain⟨_,⟨_,_,_,e,_⟩,_⟩:=x;exact⟨_,e⟩
 |rng lo hi=>obtain⟨_,_,_,e⟩:=x;exact⟨_,e⟩
 |frz ob u=>obtain⟨e,_⟩:=x;exact⟨_,e⟩
 |tbl ps=>exact⟨_,(show b.get? a=some _ from x)⟩
 |met f y=>exact⟨_,(show b.get? a=some _ from x)⟩
 |ext d=>obtain⟨_,⟨_,e⟩,_⟩:=x;exact⟨_,e⟩
theorem uU{P:xx}{w:qq}{d:Hp}{f:qa}{l:List zo}(x:HOk P w d f)(g:∀b∈l,d b=none):HOk P w d (hideAll f l):=λa o e =>
 (x a o e).stay (λb u c q=>hideAll_get l q λh=>by
  have:=g b h;rcases c with c|c
  ·rw[c,e]at this;cases this
  ·rw[c]at this;cases this) (λ_ q=>q) λ_ _ q=>q
section
variable{P:xx}{w:qq}{l:List Env}{H H':Hp}{h1 h2 h3 B:qa}{ea:zo}{cls a0:zt}
theorem uV(un:Un (frs l) [] H H' h1 h2)(g:FlyingW B l ea cls a0 h2)(j:HOk P w H' B)(m:∀b o,h1.get? b=some o->H b=none->b∉frs l->B.get? b=some o)(p:∀b o,h1.get? b=some o->b∉frs l->∃o',B.get? b=some o')(st:B.StaysIn h3)(h:h2.UpToSlots h3):Un (frs l) [] H H' h1 h3/\HOk P w H' h3:=by
 refine⟨⟨λb o e n a _=>st b o<|m b o e n a,λb o e n a k=>?_,un.free,λb o e _=>?_,un.tups,un.frzs,un.tbls⟩,j.kept st⟩
 ·obtain⟨r,q⟩:=un.slot b o e n a k;obtain⟨_,o',c,d⟩:=g.2.2.1.mem a;rw[q]at c;cases c;obtain⟨i,f⟩:=h b _ q d;exact⟨i,f⟩
 ·by_cases a:b∈frs l
  ·obtain⟨_,o',c,d⟩:=g.2.2.1.mem a;obtain⟨i,f⟩:=h b _ c d;exact⟨_,f⟩
  ·obtain⟨o',q⟩:=p b o e a;exact⟨o',st b o' q⟩
end
section
variable{X:Cx}{pins:List (zo×Obj)}{σ:St}{H H':Hp}{s s':zi}{ea C:zo}{E:XK}
theorem Inv.fly_up(f:Inv X pins σ H s)(i:X.ex=[])(J:Inv X pins σ H' s')(r:H' ea=none){c:qa}{h:zt}(l:FlyingW c X.outer ea (.ref C) h s'.heap)(m:HOk X.prog X.w H' c)(p:∀b o,s.heap.get? b=some o->H b=none->b∉frs X.stack->c.get? b=some o)(t:∀b o,s.heap.get? b=some o->b∉frs X.stack->∃o',c.get? b=some o'):Fly X.prog X.w X.outer X.H₀ X.s₀ H' ea C s':=by
 have d:=f.base;rw[i]at d;have k:=J.base;rw[i]at k;have j:∀b o,X.s₀.heap.get? b=some o->b∉frs X.outer->b∉frs X.stack:=λb o e n a=>by
  rcases mem_cons.mp (f.stkSub b a)with g|g
  ·have:=lt_size e;rw[g]at this;exact absurd (lt_of_lt_of_le this f.ok.above)<|lt_irrefl _
  ·exact n g
 refine⟨J.os,J.bare,k,r,c,h,l,m,λb o e n a=>?_,λb o e a=>?_⟩
 ·exact p b o (d.keep b o e n a (by simp)) (d.free b o e n (by simp))<|j b o e a
 ·obtain⟨o',q⟩:=d.there b o e (by simp);exact t b o' q<|j b o e a
structure Lv(X:Cx)(E:XK):Prop where
 ex:X.ex=[]
 stk:X.stack=X.env::X.outer
 fr:X.env.frame=some X.env.locals
 xe:X.xe=λe s'=>wpAny (model X.prog X.w) X.A (leaving X.env e) (λ_ s''=>CX1 X.prog X.w X.outer X.H₀ X.s₀ E e s'') (λe' s''=>CX1 X.prog X.w X.outer X.H₀ X.s₀ E e' s'') s'
theorem uW{P:xx}{w:qq}{K:Frag}{mg:Str->Option zt}{base:qa}{N:List Str}{qual:Str}{c:Scope}{f:zo}{b:zt}{A:xg}{outer:List Env}{s:zi}{a:Hp}{E:XK} :
  Lv (fO (CX1 P w) P w K mg base N qual c f b A outer s a E) E:=⟨rfl,rfl,rfl,rfl⟩
theorem Ca(a:Lv X E):de (CX1 X.prog X.w) X E:=by
 intro pins σ H s e s' I h;obtain⟨ea,C,H',rfl,F,k⟩:=h;rw[a.xe];obtain⟨B,a0,c,g,i,th⟩:=id F.fly;have d:=c;rw[a.stk]at d;refine wpAny_leaves_onW (by rw[I.ok.frames,a.stk]) a.fr d λh' f l=>?_;obtain⟨u,m⟩:=uV F.un c g i th f.1 l;have j:Inv X pins σ H' {s' with heap:=h'}:=I.call' (s':={s' with heap:=h'}) F.os u m F.bare λb n=>absurd n (by simp)
 exact⟨ea,C,H',rfl,I.fly_up a.ex j F.new f g i th,k⟩
theorem Inv.ground(a:Inv X pins σ H s):(hideAll s.heap<|frs X.stack).StaysIn s.heap/\s.heap.FunFrames (hideAll s.heap<|frs X.stack) X.stack/\HOk X.prog X.w H (hideAll s.heap<|frs X.stack) :=
 ⟨λb o q=>of_hideAll _ q,PySem.W.funFrames_hide a.stack λc e b d=>mem_filterMap.mpr ⟨c,e,d⟩,uU a.hok a.stkFree⟩
theorem Cb(d:Lv X E)(c:Inv X pins σ H s){h':qa}{vs:List zt}(i:Heap.MadeExcOf s.heap h' ea (.ref C) vs)(m:E (.ref C) none H):X.xe (.ref ea) {s with heap:=h'}:=by
 rw[d.xe];obtain⟨g1,g2,g3⟩:=c.ground;have l:s.heap.FunFrames (hideAll s.heap<|frs X.stack) (X.env::X.outer):=d.stk ▸ g2;refine wpAny_leaves_madeW (s:={s with heap:=h'}) (by rw[c.ok.frames,d.stk]) d.fr g1 l i λh'' t f _ _ p=>?_;have j:s.heap.UpToSlots h'':=(Heap.UpToSlots.of_keeps i.keeps).trans p;have u:Un (frs X.stack) [] H H s.heap h'':=⟨λb o e n a _=>f.1 b o<|hideAll_get _ e a,λb o e n a _=>by
   obtain⟨_,o',g,h⟩:=g2.mem a;rw[e]at g;cases g;exact j b o e h,λb o e n _=>n,λb o e _=>by
   by_cases a:b∈frs X.stack
   ·obtain⟨_,o',g,h⟩:=g2.mem a;obtain⟨x,q⟩:=j b o' g h;exact⟨_,q⟩
   ·exact⟨o,f.1 b o<|hideAll_get _ e a⟩,λ_ _ q=>q,λ_ _ _ q=>q,λb ps q=>⟨#[],by simpa using q⟩⟩
 have k:Inv X pins σ H {s with heap:=h''}:=c.call' (s':={s with heap:=h''}) rfl u (g3.kept f.1) c.bare λb v=>absurd v (by simp)
 have r:H ea=none:=by
  cases q:H ea with
  |none=>rfl
  |some o =>
   obtain⟨w,e⟩:=(c.hok ea o q).ex;have h2:=i.new;rw[e]at h2;cases h2
 exact⟨ea,C,H,rfl,c.fly_up d.ex k r f g3 (λb o e _ a=>hideAll_get _ e a) λb o e a=>⟨o,hideAll_get _ e a⟩,m⟩
end
open PySem PySem.Spec PyProof.Rows
section
variable{X:Cx}{pins:List (zo×Obj)}{σ:St}{H:Hp}{s:zi}
abbrev bmV:List zt:=[.type "ValueError",.type "Exception",.type "BaseException",.type "object"]
abbrev Cc(X:Cx)(x:Str)(C:zo):Prop:=OwnCls x C bmV "ValueError.__new__" X.mg X.base
def Ak(C:zo)(E:XK)(a:TE):TS:=λ_ σ H=>iN a nM σ H λvs H1=>vs.length<=sizeLine/\E (.ref C) none H1
theorem oo{E:XK}(j:Lv X E){x:Str}{C:zo}{w g pos:Pos}{a:Expr}{d:TE}(f:Cc X x C)(r:X.A.handled=none)(p:Gl X x)(n:PE X a d)(c:starEach [a] X.env=[(false,eval a X.env)]:=by rfl)(o:(x==("__debug__":Str))=false:=by decide):PS X (.Raise (some<|.Call (.Name x w) [a] [] g) none pos) (Ak C E d):=by
 intro pins s σ H z I h;obtain⟨tl,N,nm,q,bs,hdct,sn,sub,ab,col,dd,k0,k1,k2,k3,k5,mN,l,m,t,T⟩:=f.obj;refine wpAny_Raise_call_subT (C:=C) (nm:=nm) (q:=q) (N:=N) (bs:=bs) (bm:=tl) (hdct:=hdct) (sn:=sn) (sub:=sub) (ab:=ab) (col:=col) (dd:=dd) (k0:=k0) (k1:=k1) (k2:=k2) (k3:=k3) (k5:=k5)
  PySem.F.excBase_ValueError (mN:=mN) (T.hasType PySem.F.excBase_ValueError.hasBase) r (by rw[c];rfl) t (gD I p f.bound ⟨rfl,?_⟩ o)
 have k:PA X [a] (iN d nM):=aa n af c;have h':=k g pins s σ H (λvs H1=>vs.length<=sizeLine/\E (.ref C) none H1) I h;rw[c]at h'|-;refine evalArgs_plain<|thn h' λus B u=>?_;obtain⟨vs,H2,b,y,i⟩:=u;exact⟨rfl,by rw[<-y.length];exact i.1,b.bk _ _ l,m.keeps b.bk,T.keeps b.bk,λh' e v=>Cb j b v i.2⟩
end
end L2
namespace DL
open PySem PySem.Spec PyProof.Rows
theorem jF:entryFor table "dict.update.loop"=some Builtin.«dict.update.loop»:=entryFor_of_tree (by kernel_rfl)
theorem eB:plainId "dict.update.loop"=true:=by decide +kernel
theorem mD:typeLookup (.type "list") "keys"=pure none:=by rw[typeLookup_type,builtinLookup_eq_fast];kernel_rfl
section
variable{prog:xx}{w:qq}{A:xg}{E:zt->zi->Prop}{s:zi}
theorem xW{a:zo}{xs:Array zt}{k:Nat}{h:Array (Option zt)}{u:Tok}{Q:zt->zi->Prop}(c:s.heap.get? a=some {cls:=.type "list",dict:=none,data:=.seq xs k,slots:=h})(l:A.handled=none)(j:∀h' tk e,Heap.NewExcOf s.heap h' e "AttributeError"->E (.ref e) {s with heap:=h',toks:=tk}):
  wpAny (model prog w) A (getAttrBy (.ref a) (.str "keys" u) false) Q E s:=by
 obtain⟨m,g,d,tk,os⟩:=s;have b:∀i,(⟨m,g,d,i,os⟩:zi).TypeIs (.ref a) "list":=λ_=>⟨_,c,rfl⟩;have n:=sub_AttributeError;have o:=F.slot_list_getattribute.lookup;have p:=F.slot_list_getattribute.bind<|.ref a;have q:=am_list_getattr_none;unfold getAttrBy
 repeat (any_goals (first|assumption|exact b _|((with_reducible show wpAny _ _ (call (builtin "list.__getattribute__") _ _) _ _ _);refine call_meets F.slot_list_getattribute (b _) am_entry_list_getattribute (F.args_list_getattribute_2 _ _) (meets_getattribute_miss_list a xs k h "keys" _ mD (by decide) (by size_fits)) ⟨c,l,λh' i e f=>?_⟩)|wp_step))
 obtain⟨t,v,r⟩:=f.there;show wpAny _ _ (getattributeRaised _ _ _ _ _ _ _) _ _ _;unfold getattributeRaised
 repeat (any_goals (first|assumption|wp_step))
 exact j _ _ _ f.of
theorem xX{a:zo}{xs:Array zt}{k:Nat}{n:Array (Option zt)}{Q:Option zt->zi->Prop}(m:s.heap.get? a=some {cls:=.type "list",dict:=none,data:=.seq xs k,slots:=n})(i:A.handled=none)(h:∀h' tk,(∀b o,s.heap.get? b=some o->h'.get? b=some o)->Q none {s with heap:=h',toks:=tk}):
  wpAny (model prog w) A (getAttr? (.ref a) "keys") Q E s:=by
 obtain⟨l,g,d,tk,os⟩:=s;have q:=sub_AttributeError;unfold getAttr? getAttrBy?
 repeat (any_goals (first|assumption|((with_reducible show wpAny _ _ (getAttrBy _ _ false) _ _ _);refine xW (s:=⟨l,g,d,_,os⟩) m i λh' p e f=>?_)|wp_step))
 obtain⟨⟨r,t,u,v⟩,vs,j,c,_,_⟩:=f.there;simp only at c;subst c
 repeat (any_goals (first|assumption|with_reducible refine wpAny_loadPart_at j ?_|wp_step))
 exact h h' p λb o e=>f.keeps b o e
end
section
variable{prog:xx}{w:qq}{A:xg}{E:zt->zi->Prop}{R:Result->zi->Prop}{I:zo}{fp wr:List zo}{G:Array GenState->Array GenState->Prop}{n:Nat}{P:Nat->zt->Prop}{St:Nat->zi->Prop}
theorem sU(W:WalksS prog w A.in1 I fp wr G n P St)(d:zo)(F:d∉fp)(ad:Nat->zo)(B C:Nat->zt)(a9:∀i v,P i v->v=.ref (ad i))(u:∀i,i<n->ad i∉d::wr)(a:Nat->qa->Prop)(D:∀i (h h':qa),a i h->(∀b o,b∉wr->h.get? b=some o->h'.get? b=some o)->a i h')(step:∀i (s:zi) (E:zt->zi->Prop) (Q:Unit->zi->Prop),i<n->a i s.heap->(∀h' tk,s.toks<=tk->SameBut d s.heap h'->a (i+1) h'->Q () {s with heap:=h',toks:=tk})->wpAny (model prog w) A.in1 (dictSet d (B i)<|C i) Q E s):
  ∀(k i:Nat)(s:zi)(tk:Tok),n-i=k->i<=n->St i s->a i s.heap->(∀j,j<n->IsTup s.heap (ad j) #[B j,C j]) ->
   (∀s',Moved (d::wr) G s s'->a n s'.heap->R (.ok<|.ret .none) s') ->
   codeAny (model prog w) A (.builtin "dict.update.loop" ⟨[.ref d,.ref I,.int i tk,.none],[]⟩) R s:=by
 have b6:d∉wr:=λh=>F<|W.sub _ h;have N:∀b∈wr,b∈d::wr:=λb c=>mem_cons_of_mem _ c;have a2:∀i,i<n->ad i∉wr:=λi hi h=>u i hi<|mem_cons_of_mem _ h;have b5:∀i,i<n->ad i≠d:=λi hi h=>u i hi (by rw[h];exact mem_cons_self);intro k
 induction k with
 |zero =>
  intro i s tk a4 hi z p S q;have a3:i=n:=by omega
  subst a3;refine codeAny_builtin jF ?_;rw[Around.under_plainId eB _];show wpAny _ A.in1 (pyNext (.ref I) >>= _) _ _ s;refine Wb<|W.done s _ _ z λs' f=>?_;show wpAny _ A.in1 (Builtin.Dict.addKeywords d [] >>= λ_=>ret Value.none) _ _ s';exact Wb<|Wp (Wp<|q s' (f.mono N) (D _ _ _ p f.heap))
 |succ k b0 =>
  intro i s tk a4 hi z p S q;have m:i<n:=by omega
  refine codeAny_builtin jF ?_;rw[Around.under_plainId eB _];show wpAny _ A.in1 (pyNext (.ref I) >>= _) _ _ s;refine Wb<|W.item i s _ _ m z λv s' a0 a7 f=>?_;have a8:=a9 i v a0;subst a8;have Z:a i s'.heap:=D _ _ _ p f.heap;have T:∀j,j<n->IsTup s'.heap (ad j) #[B j,C j]:=λj l=>by
   obtain⟨o,y,r⟩:=S j l;exact⟨o,f.heap _ o (a2 j l) y,r⟩
  obtain⟨U,K,x,b7,H⟩:=T i m;have a1:s'.TypeIs (.ref<|ad i) "tuple":=⟨U,K,x⟩;refine Wb<|wpAny_holding ?_;refine Wb<|wpAny_tryCatch ?_;unfold Builtin.Dict.pairItems;refine Wb<|wpAny_typeOf a1 ?_;rw[if_pos (by decide)];generalize Y:dictSet=b3;obtain⟨L,g,b4,t,os⟩:=s';obtain⟨b8,c0,b9,c1⟩:=U;simp only at x H;subst x H
  repeat (any_goals (first|assumption|with_reducible refine wpAny_loadPart_at K ?_|wp_step))
  subst Y;refine step i _ _ _ m Z λh' c2 O a6 V=>?_;have M:SameBut d L h':=a6;have J:∀b o,b∉d::wr->L.get? b=some o->h'.get? b=some o:=λb o c e=>by
   rw[M.2 b λb2:b=d=>c (by rw[b2];exact mem_cons_self)];exact e
  refine Wp ⟨plainId_quiet eB _,?_⟩;refine b0 (i+1) _ _ (by omega) m (W.frame _ _ _ _ a7 O λb c o e=>?_) V (λj l=>?_) λb1 a5 X=>?_
  ·rw[M.2 b λh:b=d=>F (by rw[<-h];exact c)];exact e
  ·obtain⟨o,y,r⟩:=T j l;exact⟨o,J _ o (u j l) y,r⟩
  ·exact q b1 (Moved.trans W.gtrans ((f.mono N).then_heap O λb o c e=>J b o c e) a5) X
end
section
variable{prog:xx}{w:qq}{A:xg}{E:zt->zi->Prop}{s:zi}
theorem jG{l:zo}{items:Array zt}{x:Nat}{K:Array (Option zt)}{Q:zt->zi->Prop}(D:A.handled=none)(G:s.heap.get? l=some {cls:=.type "list",dict:=none,data:=.seq items x,slots:=K})(ad:Nat->zo)(u y:Nat->zt)(V:∀(i:Nat) (v:zt),items[i]?=some v->v=Value.ref (ad i))(I:∀i,i<items.size->IsTup s.heap (ad i) #[u i,y i])(a:Nat->qa->Prop)(S:∀h',h'.get? s.heap.objs.size=some {cls:=.type "dict",data:=.dict #[]}->(∀b o,s.heap.get? b=some o->h'.get? b=some o)->a 0 h')(R:∀i (f h':qa),a i f->(∀b o,b<=s.heap.objs.size->f.get? b=some o->h'.get? b=some o)->a i h')(step:∀i (s':zi) (E:zt->zi->Prop) (Q:Unit->zi->Prop),i<items.size->a i s'.heap->(∀h' tk,s'.toks<=tk->SameBut s.heap.objs.size s'.heap h'->a (i+1) h'->Q () {s' with heap:=h',toks:=tk}) ->
   wpAny (model prog w) A.in1.in1 (dictSet s.heap.objs.size (u i)<|y i) Q E s')(f:∀h' tk,a items.size h'->(∀b o,s.heap.get? b=some o->h'.get? b=some o)->Q (.ref s.heap.objs.size) {s with heap:=h',toks:=tk}):
  wpAny (model prog w) A (call (.type "dict") [.ref l]) Q E s:=by
 refine callType_codes (Q₁:=λJ L=>J=.ref s.heap.objs.size/\L={s with heap:=s.heap.push {cls:=.type "dict",data:=.dict #[]}}) F.kt_called_dict (F.kt_typeCall_dict_1 _) F.entry_dict_init (kt_code_dict_new _ ⟨rfl,rfl⟩) ?_;rintro J L ⟨rfl,rfl⟩;have q:(s.heap.push {cls:=.type "dict",data:=.dict #[]}).get? s.heap.objs.size=some {cls:=.type "dict",data:=.dict #[]}:=get?_push_size _ rfl;have B:Shared.TypeIs {s with heap:=s.heap.push {cls:=.type "dict",data:=.dict #[]}} (.ref s.heap.objs.size) "dict":=⟨_,q,rfl⟩
 have p:(s.heap.push {cls:=.type "dict",data:=.dict #[]}).get? l=some {cls:=.type "list",dict:=none,data:=.seq items x,slots:=K}:=get?_push_of_some _ G;have U:Shared.TypeIs {s with heap:=s.heap.push {cls:=.type "dict",data:=.dict #[]}} (.ref l) "list":=⟨_,p,rfl⟩
 refine⟨B,F.args_dict_init_2 _ _,?_⟩;unfold Builtin.«dict.__init__»;refine Wb ?_;unfold Builtin.Dict.selfAndRest;refine Wb<|wpAny_notOrdered_dict B ?_;show wpAny _ _ (pure (s.heap.objs.size,[Value.ref l])) _ _ _;refine Wp ?_;show wpAny _ _ (Builtin.Dict.updateFrom "dict.__init__" s.heap.objs.size (.ref l) [] .none) _ _ _;unfold Builtin.Dict.updateFrom;refine Wb<|wpAny_typeOf U ?_;rw[if_pos (by decide)];refine Wb<|xX (s:={s with heap:=s.heap.push {cls:=.type "dict",data:=.dict #[]}}) p (show A.in1.in1.handled=none by simp[D]) λh1 a3 Y=>?_;have j:∀b o,(s.heap.push {cls:=.type "dict",data:=.dict #[]}).get? b=some o->h1.get? b=some o:=Y;have z:h1.IsList l items:=⟨_,j _ _ p,rfl,x,rfl⟩;rw[if_pos (show(none:Option zt).isNone=true from rfl)];refine Wb<|wpAny_rule ?_;refine Wb<|wpAny_pyIter_list z ?_;have H:l<s.heap.objs.size:=lt_size G;have d:s.heap.objs.size<h1.objs.size:=lt_size<|j _ _ q;have k0:∀b o,s.heap.get? b=some o->h1.get? b=some o:=λb o e=>j b o<|get?_push_of_some _ e;have C:∀i,i<items.size->ad i<s.heap.objs.size:=λi c=>by
  obtain⟨o,t,_⟩:=I i c;exact lt_size t
 refine Wp ⟨plainId_quiet eB _,sU (A:=A.in1) ((Walks.list (show A.in1.in1.handled=none by simp[D]) h1.objs.size l (ne_of_lt<|lt_trans H d) items).toS) s.heap.objs.size ?hdf ad u y V ?had a ?hD' (λi s' E Q c n Z=>step i s' E Q c n Z)
  (items.size-0) 0 _ 0 (by omega) (zero_le _) ⟨⟨_,get?_push_size _ rfl,rfl,rfl⟩,z.push _⟩ ?hD0' ?ht' λs' k T=>?_⟩
 case hdf =>
  simp only[mem_cons,not_mem_nil,or_false,not_or];exact⟨ne_of_lt d,ne_of_gt H⟩
 case had =>
  intro i c;simp only[mem_cons,not_mem_nil,or_false,not_or];exact⟨ne_of_lt<|C i c,ne_of_lt<|lt_trans (C i c) d⟩
 case hD' =>
  intro i g m n X;refine R i g m n λb o h e=>X b o ?_ e;simp only[mem_cons,not_mem_nil,or_false];exact ne_of_lt<|lt_of_le_of_lt h d
 case hD0' =>
  exact S _ (get?_push_of_some _<|j _ _ q) λb o e=>get?_push_of_some _<|k0 b o e
 case ht' =>
  intro a0 W;obtain⟨o,t,r⟩:=I a0 W;exact⟨o,get?_push_of_some _<|k0 _ _ t,r⟩
 obtain⟨h',m,M,a2,a1⟩:=s';have O:m=s.gens:=k.gens;have N:M=s.drawn:=k.drawn;have P:a1=s.os:=k.os;subst O;subst N;subst P;refine⟨rfl,f h' a2 T λb o e=>?_⟩;have h:b<s.heap.objs.size:=lt_size e;refine k.heap b o ?_<|get?_push_of_some _ (k0 b o e);simp only[mem_cons,not_mem_nil,or_false,not_or];exact⟨ne_of_lt h,ne_of_lt<|lt_trans h d⟩
end
end DL
namespace L2
open PySem PySem.Spec PyProof.Rows
section
variable{X:Cx}
theorem qe{f:List (zo×Obj)}{i:St}{b:Hp}{s:zi}(c:Inv X f i b s){a:zo}{x y:V}(d:b a=some (.tup [x,y])):∃u v,aw x u/\aw y v/\IsTup s.heap a #[u,v]:=by
 obtain⟨_,j,r,e⟩:=c.hok a _ d;cases r with
 |cons g r =>
  cases r with
  |cons h r=>cases r;exact⟨_,_,g,h,by simpa using e⟩
theorem uX{κ:Type}{m:List (zo×Obj)}{n:St}{e:Hp}{s:zi}(j:Inv X m n e s){zs:List (zo×κ×V)}(d:zo×κ×V->V)(k:∀z∈zs,e z.1=some (.tup [d z,z.2.2])):
  ∃f:zo×κ×V->zt×zt,∀z∈zs,aw (d z) (f z).1/\aw z.2.2 (f z).2/\IsTup s.heap z.1 #[(f z).1,(f z).2]:=by
 have g:∀z:zo×κ×V,∃p:zt×zt,z∈zs->aw (d z) p.1/\aw z.2.2 p.2/\IsTup s.heap z.1 #[p.1,p.2]:=λz=>by
  by_cases i:z∈zs
  ·obtain⟨u,v,a,b,c⟩:=qe j<|k z i;exact⟨(u,v),λ_=>⟨a,b,c⟩⟩
  ·exact⟨(.none,.none),λh=>absurd h i⟩
 exact⟨λz=>Classical.choose<|g z,λz l=>Classical.choose_spec (g z) l⟩
theorem aN{b:Type}{l:List b}{i:Nat}{d:b}(a:i<l.length):l.getD i d∈l/\l[i]?=some (l.getD i d):=by
 rw[getD_eq_getElem?_getD,getElem?_eq_getElem a];exact⟨getElem_mem a,rfl⟩
theorem sV{κ:Type}{zs:List (zo×κ×V)}{d:zo×κ×V}{i:Nat}{v:zt}(h:(((zs.map (·.1)).map Value.ref).toArray)[i]?=some v):v=Value.ref (zs.getD i d).1:=by
 have h':((zs.map (·.1)).map Value.ref)[i]?=some v:=by simpa using h
 rw[getElem?_map,getElem?_map]at h';rw[getD_eq_getElem?_getD];cases e:zs[i]? with
 |none=>rw[e]at h';cases h'
 |some z=>rw[e]at h';exact(Option.some.inj h').symm
theorem bH{a:Type}{l:List a}{i:Nat}{x:a}(b:l[i]?=some x):l.take (i+1)=l.take i++[x]:=by rw[take_succ,b];rfl
theorem sW{a κ:Type}{l:List a}{f:a->κ}{i:Nat}{x:a}(k:(l.map f).Nodup)(c:l[i]?=some x):f x∉(l.take i).map f:=by
 intro j;obtain⟨y,m,e⟩:=mem_map.mp j;obtain⟨d,h,b⟩:=mem_iff_getElem.mp m;have n:d<i:=by rw[length_take]at h;omega
 have hi:i<l.length:=(List.getElem?_eq_some_iff.mp c).1;have g:(l.map f)[d]'(by rw[length_map];omega)=(l.map f)[i]'(by rw[length_map];omega):=by
  rw[getElem_map,getElem_map];rw[getElem_take]at b;rw[b,e,(List.getElem?_eq_some_iff.mp c).2]
 have:=(getElem_inj k).mp g;omega
theorem iR(K:X.calm=true):bu X (.type "dict") (λxs H Q=>∃l,∃zs:List<|zo×Key×V,xs=[.ref l]/\H l=some (.lst<|(zs.map (·.1)).map V.ref)/\(∀z∈zs,H z.1=some (.tup [kV z.2.1,z.2.2]))/\zs.length<=1000 /\
  (zs.map (·.2.1)).Nodup/\((∀d o,H d=none->Q (.ref d) (upd H d<|.frz o (.dK<|zs.map (·.2))))\/∀d,H d=none->Q (.ref d) (upd H d<|.dK (zs.map (·.2))))):=by
 intro pins s σ H xs us Q I r h;obtain⟨l,zs,rfl,L,A,m,M,q⟩:=h;obtain⟨u,rfl,Z⟩:=bY r;cases Z;obtain⟨_,a2,a3,a0,b⟩:=I.hok l _ L;have e:=cV a0;subst e;obtain⟨f,x⟩:=uX I (λz=>kV z.2.1) A;have hsz:(((zs.map (·.1)).map Value.ref).toArray).size=zs.length:=by simp
 refine DL.jG (s:=s) (I.ok.hd K) b (λi=>(zs.getD i (0,.inl 0,.non)).1) (λi=>(f<|zs.getD i (0,.inl 0,.non)).1) (λi=>(f<|zs.getD i (0,.inl 0,.non)).2) (λi v T=>sV T) (λi hi=>?_)
  (λi h'=>h'.DictOf (ap X.prog X.w) s.heap.objs.size<|(zs.take i).map λz=>(z.2.1,(f z).2)) (λh' c _=>?_) (λi g a1 a A=>?_) (λi s' E Q hi a P=>?_) λh' tk a C=>?_
 ·rw[hsz]at hi;exact(x _ (aN hi).1).2.2
 ·exact⟨_,#[],0,c,⟨rfl,rfl,rfl⟩,rfl,λ_ t=>by simp at t,Pairs.nil,nodup_nil⟩
 ·obtain⟨o,es,G,b,r⟩:=a;exact⟨o,es,G,A _ o (le_refl _) b,r⟩
 ·rw[hsz]at hi;obtain⟨j,c⟩:=aN (d:=((0,.inl 0,.non):zo×Key×V)) hi;refine wpAny_dictSet_pairs (hsz:=by rw[length_map,length_take];have:=au m;omega) (k:=(zs.getD i (0,.inl 0,.non)).2.1) (fX (x _ j).1) a λh' n S=>P h' _ (le_succ _) S ?_;have D:=bH c;have F:=sW M c;rw[D,map_append];unfold stored at n;rw[if_neg]at n
  ·exact n
  ·intro J;obtain⟨p,O,t⟩:=any_eq_true.mp J;obtain⟨z,W,rfl⟩:=mem_map.mp O;exact F<|mem_map.mpr ⟨z,W,of_decide_eq_true t⟩
 ·rw[hsz,take_length]at a;obtain⟨ob,N⟩:∃ob,h'.get? s.heap.objs.size=some ob:=let⟨o,_,_,b,_⟩:=a;⟨o,b⟩;have R:KV (zs.map (·.2)) (zs.map λz=>(z.2.1,(f z).2)):=by
   have:∀ys:List<|zo×Key×V,(∀z∈ys,z∈zs)->KV (ys.map (·.2)) (ys.map λz=>(z.2.1,(f z).2)):=by
    intro ys
    induction ys with
    |nil=>intro _;exact .nil
    |cons z ys Y=>intro j;exact .cons ⟨rfl,(x z<|j z (by simp)).2.1⟩<|Y λy U=>j y (by simp[U])
   exact this zs λz m=>m
  have B:∀H':Hp,aU X.prog X.w H' h' s.heap.objs.size (.dK<|zs.map (·.2)):=λH'=>jy (le_of_lt<|au (by rw[length_map];exact m)) (beq_eq_false_iff_ne.mpr<|Ne.symm (ne_of_lt I.big)) R a;rcases q with q|q
  ·exact⟨.ref s.heap.objs.size,_,I.laid (t':=tk) (o:=.frz ob<|.dK (zs.map (·.2))) C (le_refl _) ⟨N,B _⟩,rfl,q _ ob<|I.hok.fresh (le_refl _)⟩
  ·exact⟨.ref s.heap.objs.size,_,I.laid (t':=tk) (o:=.dK<|zs.map (·.2)) C (le_refl _)<|B _,rfl,q _<|I.hok.fresh (le_refl _)⟩
theorem qf(c:X.calm=true):bu X (.type "dict") (λxs H Q=>∃l,∃zs:List<|zo×Key×V,xs=[.ref l]/\H l=some (.lst<|(zs.map (·.1)).map V.ref)/\(∀z∈zs,H z.1=some (.tup [kV z.2.1,z.2.2]))/\zs.length<=1000/\(zs.map (·.2.1)).Nodup/\∀d o,H d=none->Q (.ref d) (upd H d<|.frz o (.dK<|zs.map (·.2)))) :=
 λpins s σ H xs us Q I r ⟨l,zs,h1,h2,h3,a,b,q⟩=>iR c pins s σ H xs us Q I r ⟨l,zs,h1,h2,h3,a,b,.inl q⟩
theorem iS(c:X.calm=true):bu X (.type "dict") (λxs H Q=>∃l,∃zs:List<|zo×Key×V,xs=[.ref l]/\H l=some (.lst<|(zs.map (·.1)).map V.ref)/\(∀z∈zs,H z.1=some (.tup [kV z.2.1,z.2.2]))/\zs.length<=1000/\(zs.map (·.2.1)).Nodup/\∀d,H d=none->Q (.ref d) (upd H d<|.dK (zs.map (·.2)))) :=
 λpins s σ H xs us Q I r ⟨l,zs,h1,h2,h3,a,b,q⟩=>iR c pins s σ H xs us Q I r ⟨l,zs,h1,h2,h3,a,b,.inr q⟩
end
def Al(b:qa)(d:zo)(a:Array DictEntry)(ep:Nat):Prop:=∃o,b.get? d=some o/\o.ExactDict/\o.data=.dict a ep
section
variable{prog:xx}{w:qq}{A:xg}{E:zt->zi->Prop}{s:zi}
theorem uY{d:zo}{c:Array DictEntry}{ep:Nat}{Q:zt->zi->Prop}(h:(d==sysModules)=false)(i:Al s.heap d c ep)(f:Q (.ref s.heap.objs.size) {s with heap:=s.heap.push {cls:=.type "dict_keyiterator",data:=.fields #[.ref d,.int 0 0,.int c.size 0,.int ep 0]}}):
  wpAny (model prog w) A (pyIter<|.ref d) Q E s:=by
 obtain⟨o,b,g,e⟩:=id i;have a:s.TypeIs (.ref d) "dict":=⟨o,b,g.1⟩;refine wpAny_pyIter_slot a PySem.F.slot_dict_iter<|wpAny_call_entry PySem.F.slot_dict_iter a PySem.F.entry_dict_iter ?_ (PySem.F.args_dict_iter_1 _);unfold Builtin.«dict.__iter__»;refine Wb ?_;unfold Builtin.Dict.dictSlotNone;refine Wb<|wpAny_notOrdered_dict a ?_;show wpAny _ _ (pure<|Value.ref d) _ _ s;refine Wp ?_;show wpAny _ _ (Builtin.Dict.showsAll d >>= _) _ _ s;unfold Builtin.Dict.showsAll;rw[if_neg (by rw[h];exact Bool.false_ne_true)];refine Wb<|Wp ?_;refine Wb<|wpAny_dictEntries b e ?_;refine Wb<|wpAny_dictEpoch b e ?_;refine Wb<|wpAny_newObj_type (Wp ⟨_,rfl,"dict_keyiterator",_,⟨_,get?_push_size _ rfl,rfl⟩,slot_dict_keyiterator_next.lookup,?_⟩);simpa [rawInt]using f
theorem uZ{c d:zo}{i ep:Nat}{a:Array DictEntry}{e:DictEntry}{Q:Option zt->zi->Prop}(b:s.heap.IsKeyIter c d i a.size ep)(r:Al s.heap d a ep)(l:a[i]?=some e)(m:∀h',h'.IsKeyIter c d (i+1) a.size ep->SameBut c s.heap h'->Q (some e.key) {s with heap:=h'}):
  wpAny (model prog w) A (pyNext<|.ref c) Q E s:=by
 obtain⟨o,g,n,f⟩:=id b;obtain⟨v,k,u,h⟩:=id r;unfold pyNext;refine Wb<|wpAny_attempt (wpAny_callSpecial?_slot (name:=ofString "__next__") b.typeIs slot_dict_keyiterator_next
  (wpAny_call_entry slot_dict_keyiterator_next b.typeIs PySem.F.entry_dict_keyiterator_next ?_<|PySem.F.args_dict_keyiterator_next_1 _))
 refine Wb<|Wp ?_;refine Wb ?_;refine Wb ?_
 first|refine Wb (wpAny_typeNameOfWhole_keyiter b.typeIs<|Wp ?_)|refine Wb<|wpAny_typeNameOf_keyiter b.typeIs (Wp ?_)
 refine Wb<|wpAny_fieldsOf g f ?_;have t:Builtin.Dict_items.ownsTuple "dict_keyiterator"=false:=by decide
 simp only[t,false_eq_true,if_false];show wpAny _ _ (if (Value.ref d==Value.none)=true then _ else _) _ _ s
 rw[if_neg (show ¬((Value.ref d==Value.none)=true)from Bool.false_ne_true)];refine Wb<|Wp ?_;refine Wb<|wpAny_dictEntries k h ?_;rw[if_neg (by simp)];refine Wb<|Wp ?_;refine Wb<|wpAny_dictEpoch k h ?_;rw[if_neg (by simp)];refine Wp ?_;have q:i<a.size:=(Array.getElem?_eq_some_iff.mp l).1;have p:a[i]=e:=(Array.getElem?_eq_some_iff.mp l).2;simp only[show ¬((i:Int)<0)from by omega,if_false,toNat_natCast,Array.getElem?_eq_getElem q];refine Wb ?_
 first|refine Wb (wpAny_typeNameOfWhole_keyiter b.typeIs<|Wp ?_)|refine Wb<|wpAny_typeNameOf_keyiter b.typeIs (Wp ?_)
 refine Wb<|wpAny_isOneOf_keyiter b.typeIs ?_;show wpAny _ _ (setField (.ref c) 1 (rawInt<|(i:Int)+1) >>= _) _ _ s;refine Wb<|wpAny_setField g f (by simp) ?_;have j:(s.heap.update c<|Obj.mapFields (·.setIfInBounds 1 (rawInt<|(i:Int)+1))).IsKeyIter c d (i+1) a.size ep :=
  ⟨_,get?_update_self _ g<|Obj.isFreed_of_fields (Obj.data_mapFields f _),(Obj.cls_mapFields ..).trans n,by rw[Obj.data_mapFields f];simp[rawInt]⟩
 refine Wb<|wpAny_holding ?_;refine Wb<|wpAny_isOneOf_keyiter (s:={s with heap:=s.heap.update c (Obj.mapFields (·.setIfInBounds 1 (rawInt<|(i:Int)+1)))}) j.typeIs ?_
 show wpAny _ _ (pure a[i].key) _ _ _;rw[p];exact Wp<|Wp ⟨_,rfl,Wp<|m _ j (SameBut.update ..)⟩
theorem xY{e d:zo}{i ep:Nat}{f:Array DictEntry}{Q:Option zt->zi->Prop}(p:A.handled=none)(c:s.heap.IsKeyIter e d i f.size ep)(q:Al s.heap d f ep)(n:f.size<=i)(l:∀h',ExtBut e s.heap h'->Q none {s with heap:=h'}):wpAny (model prog w) A (pyNext<|.ref e) Q E s:=by
 obtain⟨o,j,t,g⟩:=id c;obtain⟨v,k,u,h⟩:=id q;unfold pyNext;refine Wb<|wpAny_attempt (wpAny_callSpecial?_slot (name:=ofString "__next__") c.typeIs slot_dict_keyiterator_next
  (wpAny_call_entry slot_dict_keyiterator_next c.typeIs PySem.F.entry_dict_keyiterator_next ?_<|PySem.F.args_dict_keyiterator_next_1 _))
 refine Wb<|Wp ?_;refine Wb ?_;refine Wb ?_
 first|refine Wb (wpAny_typeNameOfWhole_keyiter c.typeIs<|Wp ?_)|refine Wb<|wpAny_typeNameOf_keyiter c.typeIs (Wp ?_)
 refine Wb<|wpAny_fieldsOf j g ?_;have r:Builtin.Dict_items.ownsTuple "dict_keyiterator"=false:=by decide
 simp only[r,false_eq_true,if_false];show wpAny _ _ (if (Value.ref d==Value.none)=true then _ else _) _ _ s
 rw[if_neg (show ¬((Value.ref d==Value.none)=true)from Bool.false_ne_true)];refine Wb<|Wp ?_;refine Wb<|wpAny_dictEntries k h ?_;rw[if_neg (by simp)];refine Wb<|Wp ?_;refine Wb<|wpAny_dictEpoch k h ?_;rw[if_neg (by simp)];refine Wp ?_;simp only[show ¬((i:Int)<0)from by omega,if_false,toNat_natCast,Array.getElem?_eq_none n];refine Wb ?_
 first|refine Wb (wpAny_typeNameOfWhole_keyiter c.typeIs<|Wp ?_)|refine Wb<|wpAny_typeNameOf_keyiter c.typeIs (Wp ?_)
 show wpAny _ _ (setField (.ref e) 0 .none >>= _) _ _ s;refine Wb<|wpAny_setField j g (by simp) ?_;show wpAny _ _ (newExc (.type "StopIteration") [] >>= _) _ _ _;refine Wb ?_;simp only[newExc,newTuple];refine Wb<|wpAny_newObj_type ?_ (by size_fits);refine Wb (m:=firstArgMember _ _)<|wpAny_of_eq (a:=Value.none) (by first|rfl|(simp only[firstArgMember];rfl)) ?_
 refine wpAny_newObj_type ?_ (by size_fits);simp only[raiseNew];refine Wb<|wpAny_handled ?_;rw[show A.in1.handled=none from p];refine Wb<|Wp (wpAny_throw ?_);refine Wb<|wpAny_isInstance (T:="StopIteration") (b:=true) ⟨_,get?_push_size _ rfl,rfl⟩ isSubtype_stop ?_;exact Wp<|l _ (((SameBut.update ..).extBut.push _).push _)
end
def Itk(d:zo)(o:Obj)(u:HO)(ks:List V):It:=⟨λi H=>H d=some (.frz o u)/\i<ks.length,λi H x H'=>H'=H/\ks[i]?=some x,λi H=>H d=some (.frz o u)/\ks.length<=i⟩
theorem sX{P:xx}{w:qq}{K:Frag}{U:Expr}{d it:zo}{o:Obj}{u:HO}{a:Array DictEntry}{ep:Nat}{ks:List V}(G:o.ExactDict)(C:o.data=.dict a ep)(z:aq ks<|a.toList.map (·.key)):
  Turn P w K U (Itk d o u ks) [it] it (λi h=>h.IsKeyIter it d i a.size ep) where
 mem:=by simp
 obj:=λi h st b f=>by
  have e:b=it:=by simpa using f
  subst e;obtain⟨o,e,c,d⟩:=st;exact⟨o,e,λv L=>by rw[d]at L;cases L⟩
 keep:=λi h h' st k=>st.at λo e=>k it (by simp) o e
 item:=by
  intro X t A r B i pins s σ H E I g st x;subst t A r;obtain⟨q,hi⟩:=x;have y:=(I.hok d _ q).1;have R:ks.length=a.size:=by rw[z.length,length_map,length_toList]
  have D:i<a.size:=by omega
  obtain⟨v,F,S⟩:=z.get<|getElem?_eq_getElem hi;obtain⟨j,l,Q,m,n,p⟩:=g it (by simp);have O:v=a[i].key:=by
   rw[getElem?_map,getElem?_toList,Array.getElem?_eq_getElem D]at F;exact(Option.some.inj F).symm
  refine uZ st ⟨o,y,G,C⟩ (Array.getElem?_eq_getElem D) λh' J T=>?_;have M:Inv X pins σ H {s with heap:=h'}:=I.turned (t':=s.toks) (λb o f e=>(T.2 b f).trans e) j l m n p
  obtain⟨Y,e,c,dd⟩:=id J;exact⟨_,rfl,lm (s:={s with heap:=h'}) e c dd (by decide) ⟨ks[i],H,M,O ▸ S,⟨rfl,getElem?_eq_getElem hi⟩,J,λb f=>(g b f).1⟩⟩
 done:=by
  intro X t A r B i pins s σ H E I g st x;subst t A r;obtain⟨q,hi⟩:=x;have y:=(I.hok d _ q).1;have R:ks.length=a.size:=by rw[z.length,length_map,length_toList]
  obtain⟨j,l,Q,m,n,p⟩:=g it (by simp);exact xY (I.ok.hd B) st ⟨o,y,G,C⟩ (by omega) λh' N=>⟨rfl,I.turned (t':=s.toks) (λb o f e=>N b o f e) j l m n p⟩
 self:=λ_ _ _ _ _ st h=>wpAny_pyIter_keyiter st h
section
variable{X:Cx}{tg:Expr}
def iDF(a:TE):TI:=λσ H R=>a σ H λv H1=>∃d o kvs,v=.ref d/\H1 d=some (.frz o<|.dK kvs)/\R (Itk d o (.dK kvs)<|kvs.map λp=>kV p.1) H1
theorem Cd{l:Expr}{y:TE}(B:PE X l y):PI X tg l (iDF y):=by
 intro pins s σ H R I h;refine thn (B pins s σ H _ I h) λv s1 C=>?_;obtain⟨x,H1,a,j,F⟩:=C;obtain⟨d,o,kvs,e,z,q⟩:=F;subst e;cases j;obtain⟨m,_,D,vs,J,o',es,K,n,u,k,L,g,M⟩:=a.hok d _ z;rw[m]at n;cases n;refine uY D ⟨o,m,u,k⟩ ?_;refine⟨s1.heap.objs.size,[s1.heap.objs.size],_,_,H1,rfl,a.kept (t':=s1.toks) λb o e=>get?_push_of_some _ e,sX u k ?_,⟨_,get?_push_size _ rfl,rfl,rfl⟩,λb A=>?_,q⟩
 ·have key:∀(es:List DictEntry)(vs:List<|Key×zt)(kvs:List<|Key×V),Pairs (ap X.prog X.w) es vs->KV kvs vs->aq (kvs.map λp=>kV p.1) (es.map (·.key)):=by
   intro es vs kvs g
   induction g generalizing kvs with
   |nil=>intro r;cases r;exact .nil
   |cons h1 h2 _ E =>
    intro r;cases r with
    |cons j G =>
     refine .cons ?_<|E _ G;dsimp only;rw[j.1];rcases az h1 with⟨i,t,c,f⟩|⟨x,t,c,f⟩
     ·rw[c,f];exact⟨t,rfl⟩
     ·rw[c,f];exact⟨t,rfl⟩
  exact key _ _ _ g J
 ·have e:b=s1.heap.objs.size:=by simpa using A
  subst e;exact a.fpOk (le_refl _)<|a.hok.fresh (le_refl _)
end
theorem sY:typeLookup (.type "list_reverseiterator") "__len__"=pure none:=by rw[typeLookup_type,builtinLookup_eq_fast];kernel_rfl
theorem va:typeLookup (.type "list_reverseiterator") "__length_hint__"=pure (some<|.builtin "list_reverseiterator.__length_hint__"):=by rw[typeLookup_type,builtinLookup_eq_fast];kernel_rfl
theorem xZ:isSubtype (.type "list_reverseiterator") (.type "list_reverseiterator")=pure true:=by rw[isSubtype_type];kernel_rfl
section
variable{prog:xx}{w:qq}{A:xg}{E:zt->zi->Prop}{s:zi}
theorem oq{I l:zo}{items:Array zt}{Q:List zt->zi->Prop}(K:A.handled=none)(m:s.heap.IsRevIter I l<|(items.size:Int)-1)(q:s.heap.IsList l items)(N:l≠I)(M:items.size<=sizeLine)(B:∀h' tk d,(∀b o,b≠I->s.heap.get? b=some o->h'.get? b=some o)->d=items.toList.reverse->Q d {s with heap:=h',toks:=tk}):wpAny (model prog w) A (collect<|.ref I) Q E s:=by
 have W:=(Walks.listRev (prog:=prog) (w:=w) (show A.in1.handled=none by simp[K]) I l N items).toS;obtain⟨V,O,_⟩:=id m;obtain⟨X,P,_⟩:=id q;have r:I<s.heap.objs.size:=lt_size O;have S:l<s.heap.objs.size:=lt_size P;have H:s.heap.objs.size∉[I,l]:=by
  simp only[mem_cons,not_mem_nil,or_false,not_or];exact⟨ne_of_gt r,ne_of_gt S⟩
 have G:s.heap.objs.size≠I:=ne_of_gt r;have key:∀(s':zi)(d:Array zt),Moved [I] (λa b=>b=a) s s'->ItemsOf (λi v=>items[items.size-1-i]?=some v) d items.size->Q d.toList s':=by
  intro s' d f g;obtain⟨h',z,t,U,T⟩:=s';have x:z=s.gens:=f.gens;have u:t=s.drawn:=f.drawn;have y:T=s.os:=f.os;subst x;subst u;subst y;refine B h' U d.toList (λb o J e=>f.heap b o (by simpa using J) e) ?_;apply ext_getElem?;intro i;rw[getElem?_toList]
  by_cases hi:i<items.size
  ·have L:i<d.size:=by rw[g.1];exact hi
   have n:d[i]?=some d[i]:=Array.getElem?_eq_getElem L;rw[List.getElem?_reverse (by simpa using hi),n,length_toList,getElem?_toList];exact(g.2 i _ n).symm
  ·rw[Array.getElem?_eq_none (by rw[g.1];omega),getElem?_eq_none (by simp;omega)]
 have k:∀o,(λ(i:Nat) (h:qa)=>i<=items.size/\h.IsRevIter I l ((items.size:Int)-1-(i:Int))/\h.IsList l items) 0 (s.heap.push o):=λo=>by
  refine⟨zero_le _,?_,?_⟩
  ·rw[show(items.size:Int)-1-((0:Nat):Int)=(items.size:Int)-1 by omega];exact m.at λo' e=>get?_push_of_some _ e
  ·exact q.push _
 unfold collect;refine Wb<|wpAny_runValue (codeAny_builtin PySem.F.entry_proto_collect ?_);rw[Around.under_plainId PySem.F.plain_proto_collect _];show wpAny _ A.in1 (newList [] >>= λl=>again<|.builtin "list.__iadd__" ⟨[l,.ref I],[]⟩) _ _ s;refine Wb<|wpAny_newObj_type (Wp ⟨plainId_quiet plain_list_iadd _,codeAny_builtin PySem.F.entry_list_iadd ?_⟩);rw[Around.under_plainId plain_list_iadd _];have j:Shared.TypeIs {s with heap:=s.heap.push {cls:=.type "list",data:=.seq ([]:List zt).toArray}} (.ref I) "list_reverseiterator":=((k _).2.1).typeIs
 have h1:Builtin.List.listSameRef (.ref s.heap.objs.size) (.ref I)=false:=by simp[Builtin.List.listSameRef,G]
 show wpAny _ A.in1 (Builtin.List.listExtendWith (.ref s.heap.objs.size) (.ref I)<|.ref s.heap.objs.size) _ _ _;unfold Builtin.List.listExtendWith;refine Wb<|wpAny_typeOf j ?_;rw[if_neg (by rw[h1];decide)];refine Wb<|W.self 0 _ _ _ (k _) (Wb<|wpAny_holding ?_);unfold Builtin.List.listLengthHint;refine Wb<|wpAny_specialOf j sY ?_;show wpAny _ A.in1 (specialOf (Value.ref I) (ofString "__length_hint__") >>= _) _ _ _;refine Wb<|wpAny_specialOf j va ?_;generalize p:("list_reverseiterator.__length_hint__":String)=R
 wp_delta
 rw[show splitId R=some ("list_reverseiterator","__length_hint__")from by subst p;decide +kernel];subst p;refine Wb<|wpAny_isInstance (b:=true) j xZ (Wp ?_);rw[if_neg (by decide)];have C:(s.heap.push {cls:=.type "list",data:=.seq ([]:List zt).toArray}).get? s.heap.objs.size=some {cls:=.type "list",data:=.seq ([]:List zt).toArray}:=get?_push_size _ rfl;refine Wp ⟨plainId_quiet PySem.F.plain_extend_loop _,codeAny_extend_loopS W M _ H _ items.size 0 _ _ _ rfl (zero_le _) (k _) C (ItemsOf.nil _) λs' d c f D g=>?_⟩;show wpAny _ A (load s.heap.objs.size >>= _) _ _ s';exact Wb<|wpAny_load D (Wp<|key s' d (Moved.drop_new (o:={cls:=.type "list",data:=.seq ([]:List zt).toArray}) (tk:=s.toks) f<|le_refl _) g)
theorem jH{a l:zo}{items:Array zt}{Q:zt->zi->Prop}(k:A.handled=none)(f:s.heap.IsRevIter a l<|(items.size:Int)-1)(n:s.heap.IsList l items)(p:l≠a)(g:items.size<=sizeLine)(h:∀(h':qa) (tk:Nat),(∀b o,b≠a->s.heap.get? b=some o->h'.get? b=some o)->Q (.ref h'.objs.size) {s with heap:=h'.push {cls:=.type "tuple",data:=.seq items.toList.reverse.toArray},toks:=tk}):
  wpAny (model prog w) A (call (.type "tuple") [.ref a]) Q E s:=by
 refine callType_codes (Q₁:=λc d=>d.TypeIs c "tuple"/\Q c d) called_tuple (PySem.F.typeCall_tuple_1 _) PySem.F.entry_object_init ?_ λc d e=>?_
 ·refine codeAny_of_tree ?_;show wpAny _ A.in1.in1 (do checkBuiltinCall "tuple.__new__" ⟨[.type "tuple",.ref a],[]⟩;again (.builtin "tuple.__new__" ⟨[.type "tuple",.ref a],[]⟩)) _ _ s
  refine Wb<|wpAny_of_eq (PySem.F.newCall_tuple_1 _) (Wp ⟨plainId_quiet PySem.F.plain_tuple_new _,codeAny_builtin PySem.F.entry_tuple_new ?_⟩);rw[Around.under_plainId PySem.F.plain_tuple_new _];have x:=sub_tuple_self;have t:=init_tuple_lookup;have u:=madeHere_tuple;have i:s.TypeIs (.ref a) "list_reverseiterator":=f.typeIs
  wp_walk using wpAny_typeOf i,oq (show A.in1.in1.handled=none by simp[k]) f n p g
  intro h' tk r m j;subst j;refine Wb<|Wp ?_;show wpAny _ _ (Builtin.Tuple.tupleExact items.toList.reverse.toArray >>= λv=>ret v) _ _ _;unfold Builtin.Tuple.tupleExact;have q:items.toList.reverse.toArray.size<=sizeLine:=by simpa using g
  exact Wb<|wpAny_newObj_type (Wp ⟨⟨_,get?_push_size _ rfl,rfl⟩,h h' tk m⟩) q
 ·exact⟨e.1,PySem.F.args_object_init_2 c _,object_init_meets called_tuple.init.lookup called_tuple.made (by decide) prog w A.in1 _ d ⟨e.1,rfl,e.2⟩⟩
end
section
variable{X:Cx}
def ya(a:TE):TE:=λσ H Q=>iN a nM σ H λvs H1=>∃l ys,vs=[.ref l]/\H1 l=some (.lst ys)/\∀p,H1 p=none->Q (.ref p) (upd H1 p<|.tup ys.reverse)
theorem sZ{e:Expr}{g:TE}{d N f M:Pos}(A:X.calm=true)(C:Gl X "tuple")(J:X.mg "tuple"=none)(D:Gl X "reversed")(K:X.mg "reversed"=none)(B:PE X e g)(t:starEach [e] X.env=[(false,eval e X.env)]:=by rfl)(v:starEach [.Call (.Name "reversed" d) [e] [] f] X.env=[(false,eval (.Call (.Name "reversed" d) [e] [] f) X.env)]:=by rfl):
  PE X (.Call (.Name "tuple" N) [.Call (.Name "reversed" d) [e] [] f] [] M) (ya g):=by
 intro pins s σ H Q I h;refine wpAny_Call_Name_kw<|eW I C J boot_tuple ?_ (by decide) (by decide);refine PyProof.Rows.callWith_type1 ?_ v rfl;rw[v];refine spliced_cons ?_;refine wpAny_Call_Name_kw<|eW I D K PyProof.Rows.boot_reversed ?_ (by decide) (by decide);have z:PA X [e] (iN g nM):=aa B af t;refine PyProof.Rows.callWith_type1 (thn (z f pins s σ H _ I h) λus c ⟨vs,H1,i,O,d⟩=>?_) t rfl;obtain⟨l,ys,rfl,F,q⟩:=d;obtain⟨u,rfl,P⟩:=bY O;cases P;obtain⟨p,a,n,r,m⟩:=i.hok l _ F;have k:c.heap.IsList l a.toArray:=⟨_,m,rfl,n,rfl⟩;have G:a.toArray.size<=sizeLine:=by rw[size_toArray,<-r.length];exact p
 refine call_reversed_list k<|spliced_nil ?_;have L:l<c.heap.objs.size:=lt_size m;refine jH (s:={c with heap:=c.heap.push (revObj l<|(a.toArray.size:Int)-1)}) (items:=a.toArray) (I.ok.hd A) ⟨_,get?_push_size _ rfl,rfl,rfl⟩ (k.push _) (ne_of_lt L) G λh' tk E=>?_
 have k0:∀b o,c.heap.get? b=some o->h'.get? b=some o:=λb o e=>E b o (ne_of_lt<|lt_size e)<|get?_push_of_some _ e;have j:Inv X pins σ H1 {c with heap:=h',toks:=tk}:=i.kept (t':=tk) k0
 have y:a.toArray.toList.reverse.toArray=a.reverse.toArray:=by simp
 rw[y];have x:Inv X pins σ (upd H1 h'.objs.size<|.tup ys.reverse) {c with heap:=h'.push {cls:=.type "tuple",data:=.seq a.reverse.toArray},toks:=tk} :=
  j.laid (t':=tk) (λb o e=>get?_push_of_some _ e) (le_refl _) (show aU X.prog X.w _ _ _ (.tup ys.reverse)from⟨by rw[List.length_reverse];exact p,a.reverse,r.reverse,IsTup.new _ _⟩)
 exact⟨.ref h'.objs.size,_,x,rfl,q _<|j.hok.fresh (le_refl _)⟩
theorem yb{P:xx}{w:qq}{kvs:List (Key×V)}{vs:List (Key×zt)}{b:Array zt}(n:KV kvs vs)(m:ItemsOf (λi v=>∃k x,vs[i]?=some (k,x)/\(ap P w).is k v=true) b vs.length):aq (kvs.map λp=>kV p.1) b.toList:=by
 obtain⟨h1,h2⟩:=m;have c:b.toList.length=vs.length:=by simpa using h1
 have h3:∀(i:Nat)(v:zt),b.toList[i]?=some v->∃k x,vs[i]?=some (k,x)/\(ap P w).is k v=true:=λi v f=>h2 i v (by simpa using f);clear h1 h2;generalize b.toList=l at c h3
 induction n generalizing l with
 |nil =>
  cases l with
  |nil=>exact .nil
  |cons a r=>simp at c
 |@cons p q kvs vs r _ ih =>
  cases l with
  |nil=>simp at c
  |cons a l =>
   refine .cons ?_ (ih l (by simpa using c) λi v f=>by simpa using h3 (i+1) v (by simpa using f))
   obtain⟨k,x,g,h⟩:=h3 0 a rfl;have j:q=(k,x):=by simpa using g
   show aw (kV p.1) a;rw[r.1,j];rcases az h with⟨i,t,d,e⟩|⟨y,t,d,e⟩
   ·rw[d,e];exact⟨t,rfl⟩
   ·rw[d,e];exact⟨t,rfl⟩
end
end L2
namespace HT
open PySem PyProof.Rows
def ci(x y:Str):Bool:=decide<|x.cps.toList<y.cps.toList
def cG:List Str->List Str->Bool
 |[],[]=>false
 |[],_::_=>true
 |_::_,[]=>false
 |x::xs,y::ys=>if x=y then cG xs ys else ci x y
theorem dO(x y:Str)(xs ys:List Str):cG (x::xs) (y::ys)=if x=y then cG xs ys else ci x y:=rfl
theorem mG:cG [] []=false:=rfl
theorem kW(y:Str)(ys:List Str):cG [] (y::ys)=true:=rfl
theorem kX(x:Str)(xs:List Str):cG (x::xs) []=false:=rfl
theorem yc{x y:Str}(h:x.cps.toList=y.cps.toList):x=y:=by
 obtain⟨x⟩:=x;obtain⟨y⟩:=y
 congr
 exact toList_inj.mp h
theorem cW(x:Str):ci x x=false:=decide_eq_false<|List.lt_irrefl _
theorem gY{x y z:Str}(a:ci x y=true)(h2:ci y z=true):ci x z=true:=by
 unfold ci at *;rw[decide_eq_true_eq]at *;exact List.lt_trans a h2
theorem iz{x y:Str}(c:x≠y):ci x y=true\/ci y x=true:=by
 unfold ci;rw[decide_eq_true_eq,decide_eq_true_eq];rcases Decidable.em (x.cps.toList<y.cps.toList)with a|a
 ·exact .inl a
 ·refine .inr ?_;have d:y.cps.toList<=x.cps.toList:=List.not_lt.mp a;rcases Decidable.em (y.cps.toList<x.cps.toList)with b|b
  ·exact b
  ·have e:x.cps.toList<=y.cps.toList:=List.not_lt.mp b;exact absurd (yc<|List.le_antisymm e d) c
theorem cH:∀p:List Str,cG p p=false
 |[]=>rfl
 |x::p=>by rw[dO,if_pos rfl];exact cH p
theorem jk:∀{p q r:List Str},cG p q=true->cG q r=true->cG p r=true
 |[],[],_,h,_=>by cases h
 |[],_::_,[],_,h=>by cases h
 |[],_::_,_::_,_,_=>rfl
 |_::_,[],_,h,_=>by cases h
 |_::_,_::_,[],_,h=>by cases h
 |x::p,y::q,z::r,h1,h2=>by
  rw[dO]at h1 h2|-
  by_cases a:x=y
  ·subst a;rw[if_pos rfl]at h1
   by_cases b:x=z
   ·rw[if_pos b]at h2|-;exact jk h1 h2
   ·rw[if_neg b]at h2|-;exact h2
  ·rw[if_neg a]at h1
   by_cases b:y=z
   ·subst b;rw[if_neg a];exact h1
   ·rw[if_neg b]at h2;have h3:=gY h1 h2;have c:x≠z:=λe=>by
     subst e;rw[cW]at h3;cases h3
    rw[if_neg c];exact h3
theorem jI:∀{p q:List Str},p≠q->cG p q=true\/cG q p=true
 |[],[],h=>absurd rfl h
 |[],_::_,_=>.inl rfl
 |_::_,[],_=>.inr rfl
 |x::p,y::q,h=>by
  rw[dO,dO]
  by_cases a:x=y
  ·subst a;rw[if_pos rfl,if_pos rfl];exact jI λe=>h (by rw[e])
  ·rw[if_neg a,if_neg<|Ne.symm a];exact iz a
theorem vb(A:xg)(s:zi)(a:Str)(t:Tok)(c:Str)(u:Tok):∃e,EqAt A s (.str a t) (.str c u) e/\(e=true↔a=c) :=
 ⟨decide<|a=c,λprog w E Q h=>wpAny_eqBool_str h,by simp⟩
theorem vc(A:xg)(s:zi)(a:Str)(t:Tok)(c:Str)(u:Tok)(prog:xx)(w:qq)(E:zt->zi->Prop)(Q:zt->zi->Prop)(h:Q (.bool<|ci a c) s):
  wpAny (model prog w) A (richCompare .Lt (.str a t)<|.str c u) Q E s :=
 (lt_str h:wpAny (model prog w) A (compareOp .Lt (.str a t)<|.str c u) Q E s)
section
open PySem.SeqAt
open PySem.AutoSeq1 (wpAny_loadPart')
open PySem.MeetsSeq PySem.MeetsSeq2 PySem.MeetsSeq3
theorem kY(l b:zo)(items j:Array zt)(n T:Nat)(dd G:Option zo)(U V:Array<|Option zt)(ns v:List Str)(C:StrsAre items.toList ns)(E:StrsAre j.toList v):
  Meets (Builtin.«tuple.__lt__» ⟨[.ref l,.ref b],[]⟩)
   (λ_ R s=>s.heap.get? l=some {cls:=.type "tuple",dict:=dd,data:=.seq items n,slots:=U}/\s.heap.get? b=some {cls:=.type "tuple",dict:=G,data:=.seq j T,slots:=V} /\
    R (.ok<|.ret (.bool<|cG ns v)) s) :=
 .of_wp λprog w A R s h=>by
  obtain⟨p,g,d,tk,os⟩:=s;obtain⟨J,H,h⟩:=h;have Y:=AutoSeq1.sub_tuple_tuple;have Z:items.size=ns.length:=by rw[<-C.length];simp
  have a0:j.size=v.length:=by rw[<-E.length];simp
  wp_walk using wpAny_loadPart' J,wpAny_loadPart' H,wpAny_forIn_list _ (λrest b s'=>b.1=none/\s'=⟨p,g,d,tk,os⟩/\∃(vs ws:List zt) (m k:List Str),rest=vs.zip ws /\
   StrsAre vs m/\StrsAre ws k/\m.length+j.size=k.length+items.size/\R (.ok<|.ret (.bool<|cG m k)) ⟨p,g,d,tk,os⟩) _
  case turn =>
   rintro⟨y,x⟩ rest b s' ⟨z,rfl,vs,ws,m,k,f,B,r,o,i⟩;cases B with
   |nil=>rw[List.zip_nil_left]at f;cases f
   |cons a t M =>
    cases r with
    |nil=>rw[List.zip_nil_right]at f;cases f
    |cons c u O =>
     rw[zip_cons_cons]at f;injection f with S K
     injection S with Q P
     subst Q P;rw[dO]at i;simp only[length_cons]at o;obtain⟨e,I,D⟩:=vb A.in1 ⟨p,g,d,tk,os⟩ a t c u;refine Wb<|I prog w _ _ ?_;cases e with
     |true =>
      rw[if_pos<|D.mp rfl]at i
      wp_walk
      exact⟨rfl,rfl,_,_,_,_,K,M,O,by omega,i⟩
     |false =>
      rw[if_neg λq=>absurd (D.mpr q) Bool.false_ne_true]at i;have L:=vc A.in1 ⟨p,g,d,tk,os⟩ a t c u prog w
      wp_walk using L
      exact⟨_,rfl,by simpa using i⟩
  case fin =>
   rintro⟨W,X⟩ s' ⟨z,rfl,vs,ws,m,k,f,B,r,o,i⟩;simp only at z;subst z;have F:cG m k=decide (items.size<j.size):=by
    cases B with
    |nil =>
     cases r with
     |nil =>
      simp only[length_nil]at o;rw[mG];exact(decide_eq_false (by omega)).symm
     |cons c u N =>
      simp only[length_nil,length_cons]at o;rw[kW];exact(decide_eq_true (by omega)).symm
    |cons a t F =>
     cases r with
     |nil =>
      simp only[length_nil,length_cons]at o;rw[kX];exact(decide_eq_false (by omega)).symm
     |cons c u N =>
      rw[zip_cons_cons]at f;cases f
   rw[F]at i
   wp_walk
   exact⟨_,rfl,by simpa [Builtin.Tuple.tupleCompareSizes]using i⟩
  case h =>
   exact⟨rfl,rfl,items.toList,j.toList,ns,v,rfl,C,E,by omega,h⟩
end
section
variable{prog:xx}{w:qq}{A:xg}{E:zt->zi->Prop}{s:zi}
theorem jJ{l b:zo}{items c:Array zt}{ns a:List Str}{Q:zt->zi->Prop}(q:IsTup s.heap l items)(m:IsTup s.heap b c)(o:StrsAre items.toList ns)(p:StrsAre c.toList a)(r:A.units<cLine)(k:Q (.bool<|cG ns a) s):wpAny (model prog w) A (compareOp .Lt (.ref l)<|.ref b) Q E s:=by
 obtain⟨⟨cls,dd,z,u⟩,h,d,n,f⟩:=id q;obtain⟨⟨y,j,data2,v⟩,i,e,t,g⟩:=id m;simp only at d f e g;subst d f e g;exact richCompare_meets_room (op:=.Lt) ⟨_,h,rfl⟩ ⟨_,i,rfl⟩ PySem.F.slot_tuple_lt PySem.F.entry_tuple_lt (PySem.F.args_tuple_lt_2 _ _) (kY l b items c n t dd j u v ns a o p)
  ⟨h,i,show Value.bool (cG ns a)≠Value.notImplemented/\Q (.bool<|cG ns a) s from⟨(λx=>nomatch x),k⟩⟩ r
end
end HT
namespace L2
open PySem PySem.Spec PyProof.Rows
section
variable{X:Cx}
theorem vd{a b:Type}{l:List a}{f:a->b}{d:a}{e:b}{i:Nat}(c:i<l.length):(l.map f).getD i e=f (l.getD i d):=by
 rw[getD_eq_getElem?_getD,getD_eq_getElem?_getD,getElem?_map,getElem?_eq_getElem c];rfl
theorem iA{a:Type}{zs:List a}{val:a->V}{d:a}:∀{us:List zt},aq (zs.map val) us->∀(ps:List Nat),(∀i∈ps,i<zs.length)->aq ((ps.map λi=>zs.getD i d).map val) (ps.map λi=>us.getD i Value.none):=by
 intro us g ps
 induction ps with
 |nil=>intro _;exact .nil
 |cons i ps e =>
  intro h;refine .cons ?_<|e λf b=>h f (by simp[b]);have hi:=h i (by simp);obtain⟨u,c,r⟩:=g.get (i:=i) (x:=val<|zs.getD i d) (by rw[getElem?_map,(aN (d:=d) hi).2];rfl);have:us.getD i Value.none=u:=by rw[getD_eq_getElem?_getD,c];rfl
  show aw (val<|zs.getD i d) (us.getD i Value.none);rw[this];exact r
theorem fe{g:Type}{zs:List g}{val:g->V}{d:g}{us:List zt}{f:g->g->Bool}{l:zo}{y:List (zo×Obj)}{B:St}{k:Hp}{s:zi}{Q:VK}{κ:SortKind}{E:zt->zi->Prop}(u:Inv X y B k s)(z:aq (zs.map val) us)(D:SRT.Ord (λi j=>f (zs.getD i d)<|zs.getD j d) zs.length)(pl:s.heap.IsList l us.toArray)(G:zs.length<64)(L:∀(e:xg) (s':zi),e.units<=X.A.units+2->(∀b o,s.heap.get? b=some o->s'.heap.get? b=some o)->∀Q:SortKind->zi->Prop,2<=zs.length->Q κ s'->wpAny (model X.prog X.w) e (keyKind' us.toArray) Q (λ_ _=>False) s')(M:∀(e:xg) (s':zi),e.units<=X.A.units+2->(∀b o,s.heap.get? b=some o->s'.heap.get? b=some o)->∀(i j:Nat) (C:Bool->zi->Prop),i<zs.length->j<zs.length->C (f (zs.getD i d)<|zs.getD j d) s'->wpAny (model X.prog X.w) e (keyLt' κ (us.getD i Value.none)<|us.getD j Value.none) C (λ_ _=>False) s')(q:∀t:List g,t.Perm zs->t.Pairwise (λa b=>f a b=true)->∀p,k p=none->Q (.ref p) (upd k p<|.lst (t.map val))):wpAny (model X.prog X.w) X.A (call (.builtin "sorted") [.ref l]) (EP X y B Q) E s:=by
 have r:us.length=zs.length:=by rw[<-z.length,length_map]
 refine SRT.sR (κ:=κ) (f:=λi j=>f (zs.getD i d)<|zs.getD j d) (by rw[r];exact D) pl (by rw[r];exact G) (λe s' h1 h2 F h3=>L e s' h1 h2 F (by omega)) (λe s' h1 h2 i j C hi n=>M e s' h1 h2 i j C (by omega) (by omega)) ?_;intro p h' h x O _ m;obtain⟨c,m⟩:=m;rw[r]at h x;have J:∀i∈p.toList,i<zs.length:=λi hi=>mem_range.mp<|h.perm.mem_iff.mp hi;have v:(p.toList.map λi=>zs.getD i d).Perm zs:=by
  refine(h.perm.map _).trans ?_;have:(List.range zs.length).map (λi=>zs.getD i d)=zs:=by
   apply ext_getElem?;intro i;rw[getElem?_map]
   by_cases hi:i<zs.length
   ·rw[getElem?_range hi,(aN (d:=d) hi).2];rfl
   ·rw[getElem?_eq_none (by rw[length_range];omega),getElem?_eq_none (by omega)];rfl
  rw[this]
 have P:p.size=zs.length:=h.size;have N:(p.toList.map λi=>zs.getD i d).Pairwise (λa b=>f a b=true):=by
  rw[pairwise_iff_getElem];intro i j hi n I;have H:i<p.size:=by rw[length_map,length_toList]at hi;exact hi
  have K:j<p.size:=by rw[length_map,length_toList]at n;exact n
  have:=x i j I (by omega);simp only[]at this;rw[getD_eq_getD_getElem?,getD_eq_getD_getElem?,Array.getElem?_eq_getElem H,Array.getElem?_eq_getElem K]at this;simpa using this
 refine⟨.ref<|s.heap.objs.size+1,_,u.laid (t':=s.toks) (o:=.lst<|(p.toList.map λi=>zs.getD i d).map val) O (le_succ _) ⟨?_,_,c,iA z p.toList J,m⟩,rfl,q _ v N _<|u.hok.fresh (le_succ _)⟩;rw[length_map,v.length_eq,sizeLine_eq];omega
theorem rq{ns:List Int}{us:List zt}(r:aq (ns.map V.int) us):IntsAre us ns:=pQ r
theorem iB:bu X (.builtin "sorted") (λxs H Q=>∃l,∃ns:List Int,xs=[.ref l]/\H l=some (.lst<|ns.map V.int)/\ns.Nodup/\ns.length<64 /\
  ∀o:List Int,o.Perm ns->o.Pairwise (λa b=>a<b)->∀p,H p=none->Q (.ref p) (upd H p<|.lst (o.map V.int))):=by
 intro pins s σ H xs us Q I r h;obtain⟨l,ns,rfl,J,K,B,q⟩:=h;obtain⟨u,rfl,O⟩:=bY r;cases O;obtain⟨_,m,n,g,L⟩:=I.hok l _ J;have E:=rq g;have S:m.length=ns.length:=by rw[<-g.length,length_map]
 refine fe (val:=V.int) (d:=(0:Int)) (f:=λa b=>decide<|a<b) (κ:=oneType') I g ⟨λi _=>by simp,λi c k _ _ _ h1 h2=>?_,λi c hi j G=>?_⟩ ⟨_,L,rfl,n,rfl⟩ B (λy s' _ _ R h2 F=>?_) (λy s' _ _ i c C hi j D=>?_) λP h1 h2 p M=>q P h1 (h2.imp λh=>by simpa using h) p M
 ·simp only[decide_eq_true_eq]at *;omega
 ·simp only[decide_eq_true_eq];have:ns.getD i 0≠ns.getD c 0:=by
   rw[getD_eq_getElem?_getD,getD_eq_getElem?_getD,getElem?_eq_getElem hi,getElem?_eq_getElem j];exact λe=>G<|(getElem_inj K).mp e
  omega
 ·rw[ksk_kind (keys:=m.toArray) (kz:=ns) (by simpa using E) (by rw[size_toArray];omega)];exact Wp F
 ·have w:∀i,i<ns.length->∃t,m.getD i Value.none=.int (ns.getD i 0) t:=λi hi=>by
   obtain⟨v,N,r⟩:=g.get (i:=i) (x:=.int<|ns.getD i 0) (by rw[getElem?_map,(aN (d:=(0:Int)) hi).2];rfl);obtain⟨t,rfl⟩:=r;exact⟨t,by rw[getD_eq_getElem?_getD,N];rfl⟩
  obtain⟨t,z⟩:=w i hi;obtain⟨T,A⟩:=w c j;rw[z,A];exact kat_lt_int D
structure Cp where
 a:zo
 t:zo
 p:List Str
 n:Int
def ou(H:Hp)(z:Cp):Prop:=H z.a=some (.tup [.ref z.t,.int z.n])/\H z.t=some (.tup<|z.p.map V.str)
theorem mH:∀{ps:List Str}{us:List zt},aq (ps.map V.str) us->StrsAre us ps
 |[],_,.nil=>.nil
 |p::ps,_,.cons ⟨t,e⟩ r=>by subst e;exact .cons p t<|mH r
theorem ja(e0:X.A.units+8<cLine):bu X (.builtin "sorted") (λxs H Q=>∃l,∃zs:List Cp,xs=[.ref l]/\H l=some (.lst<|zs.map λz=>V.ref z.a)/\(∀z∈zs,ou H z)/\(zs.map (·.p)).Nodup/\zs.length<64 /\
  ∀a5:List Cp,a5.Perm zs->a5.Pairwise (λa b=>HT.cG a.p b.p=true)->∀p,H p=none->Q (.ref p) (upd H p<|.lst (a5.map λz=>V.ref z.a))):=by
 intro pins s σ H xs us Q I r h;obtain⟨l,zs,rfl,c4,J,b0,c0,q⟩:=h;obtain⟨u,rfl,d2⟩:=bY r;cases d2;obtain⟨_,K,n,M,c6⟩:=I.hok l _ c4
 let d:Cp:=⟨0,0,[],0⟩
 have d9:K.length=zs.length:=by rw[<-M.length,length_map]
 have a8:∀i,i<zs.length->K.getD i Value.none=.ref (zs.getD i d).a:=λi hi=>by
  obtain⟨v,a0,r⟩:=M.get (i:=i) (x:=.ref (zs.getD i d).a) (by rw[getElem?_map,(aN (d:=d) hi).2];rfl);cases r;rw[getD_eq_getElem?_getD,a0];rfl
 have b8:K=zs.map λz=>Value.ref z.a:=by
  have key:∀(l:List Cp)(us:List zt),aq (l.map λz=>V.ref z.a) us->us=l.map λz=>Value.ref z.a:=by
   intro l
   induction l with
   |nil=>intro us r;cases r;rfl
   |cons z l a2 =>
    intro us r;cases r with
    |cons G a4 =>
     rw[a2 _ a4];cases G;rfl
  exact key zs K M
 have U:∀z∈zs,∃N,IsTup s.heap z.a #[.ref z.t,.int z.n N]:=λz j=>by
  obtain⟨u,v,G,a4,Y⟩:=qe I (J z j).1;cases G;obtain⟨N,rfl⟩:=a4;exact⟨N,Y⟩
 have Z:∀z∈zs,∃ws:List zt,StrsAre ws z.p/\IsTup s.heap z.t ws.toArray:=λz j=>by
  obtain⟨_,ws,G,Y⟩:=I.hok z.t _ (J z j).2;exact⟨ws,mH G,Y⟩
 have b2:∀{s':zi}{a:zo}{xs:Array zt},(∀b o,s.heap.get? b=some o->s'.heap.get? b=some o)->IsTup s.heap a xs->IsTup s'.heap a xs:=λk ⟨o,e,r⟩=>⟨o,k _ o e,r⟩;refine fe (val:=λz:Cp=>V.ref z.a) (d:=d) (f:=λa b=>HT.cG a.p b.p) (κ:=tuples' false) I M ⟨λi _=>HT.cH _,λi D k _ _ _ h1 h2=>HT.jk h1 h2,λi D hi B c3=>HT.jI ?_⟩ ⟨_,c6,rfl,n,rfl⟩ c0 (λa6 s' _ c d5 h2 c2=>?_) (λa6 s' d8 c i D C hi B m=>?_) q
 ·intro e;have O:(zs.map (·.p))[i]'(by simpa using hi)=(zs.map (·.p))[D]'(by simpa using B):=by
   have h1:=(aN (d:=d) hi).2;have h2:=(aN (d:=d) B).2;rw[getElem_map,getElem_map,(List.getElem?_eq_some_iff.mp h1).2,(List.getElem?_eq_some_iff.mp h2).2];exact e
  exact c3<|(getElem_inj b0).mp O
 ·have key:∀ys:List Cp,(∀z∈ys,z∈zs)->KatTups s'.heap (ys.map λz=>Value.ref z.a) (ys.map λz=>Value.ref z.t):=by
   intro ys
   induction ys with
   |nil=>intro _;exact KatTups.nil
   |cons z ys a2 =>
    intro a9;obtain⟨N,o,P,R,L,b7⟩:=U z<|a9 z (by simp);exact KatTups.cons (c _ _ P) R b7 rfl<|a2 λy a1=>a9 y (by simp[a1])
  rw[b8];refine kat_kind (T:=.type "tuple") (key zs λz j=>j) (by rw[length_map];omega) (λv a0=>?_) (by rfl) c2;obtain⟨z,j,rfl⟩:=mem_map.mp a0;obtain⟨ws,_,o,P,R,_⟩:=Z z j;exact R ▸ (Looks.ld<|c _ _ P).andThen .now
 ·rw[a8 i hi,a8 D B];have E:=(aN (d:=d) hi).1;have F:=(aN (d:=d) B).1;generalize zs.getD i d=g at E m|-;generalize zs.getD D d=zj at F m|-;obtain⟨e5,e3,b3,d6,e1,b4⟩:=U g E;obtain⟨e6,e4,b5,d7,e2,b6⟩:=U zj F;refine kat_lt (c _ _ b3) b4 (c _ _ b5) b6 ?_;obtain⟨wi,d3,d0⟩:=Z g E;obtain⟨e7,d4,d1⟩:=Z zj F;have b1:a6.units<cLine:=by omega
  have c8:IsTupleKey (ap X.prog X.w) s'.heap (g.p.map Sum.inr) g.t:=by
   obtain⟨o,a3,L,S,r⟩:=sS (ks:=g.p.map Sum.inr) I (by rw[map_map];exact(J g E).2) X.prog X.w;exact⟨o,a3,L,c _ _ S,r⟩
  have c9:IsTupleKey (ap X.prog X.w) s'.heap (zj.p.map Sum.inr) zj.t:=by
   obtain⟨o,a3,L,S,r⟩:=sS (ks:=zj.p.map Sum.inr) I (by rw[map_map];exact(J zj F).2) X.prog X.w;exact⟨o,a3,L,c _ _ S,r⟩
  refine kat_cons<|wpAny_eqBool_tuple (knd:=ap X.prog X.w) b1 c8 c9 ?_
  by_cases e:g.p=zj.p
  ·rw[e,decide_eq_true rfl];have c1:C false s':=by rw[e,HT.cH]at m;exact m
   have b9:g=zj:=by
    obtain⟨x,c7,ex⟩:=mem_iff_getElem.mp E;obtain⟨y,a1,a7⟩:=mem_iff_getElem.mp F;have O:(zs.map (·.p))[x]'(by simpa using c7)=(zs.map (·.p))[y]'(by simpa using a1):=by rw[getElem_map,getElem_map,ex,a7];exact e
    have:=(getElem_inj b0).mp O;subst this;rw[<-ex,<-a7]
   subst b9;refine kat_yes<|kat_cons (wpAny_eqBool_int ?_);rw[beq_self_eq_true];exact kat_yes<|kat_nil (by simpa using c1)
  ·have c5:¬(g.p.map Sum.inr:List Key)=zj.p.map Sum.inr:=λz=>e (by
    have:=congrArg (List.map λk:Key=>match k with | .inr x=>x | .inl _=>empty) z;simpa [map_map,Function.comp_def]using this)
   rw[decide_eq_false c5];refine kat_no<|kat_one _ _ ?_;exact HT.jJ (b2 c d0) (b2 c d1) (by simpa using d3) (by simpa using d4) b1 m
end
def rA(H:Hp):Nat->V->V->Prop
 |0,x,y=>x=y/\dJ x=true
 |n+1,x,y=>(x=y/\dJ x=true)\/∃a b xs ys,x=.ref a/\y=.ref b/\H a=some (.tup xs)/\H b=some (.tup ys)/\xs.length=ys.length/\∀(i:Nat) x' y',xs[i]?=some x'->ys[i]?=some y'->rA H n x' y'
theorem gZ{x:V}(f:dJ x=true):eqV x x=true:=by
 cases x<;>first|rfl|(simp[eqV];done) | (exact absurd (show false=true from f) Bool.false_ne_true)
theorem gu{H:Hp}{n:Nat}{x y:V}(h:x=y/\dJ x=true):rA H n x y:=by
 cases n with
 |zero=>exact h
 |succ n=>exact .inl h
section
variable{X:Cx}{pins:List (zo×Obj)}{σ:St}{H:Hp}{s:zi}
theorem ve(i:Inv X pins σ H s):∀(n:Nat){A:xg}{x y:V}{u v:zt},aw x u->aw y v->rA H n x y->A.units+n<cLine->EqAt A s u v true:=by
 intro n
 induction n with
 |zero =>
  intro A x y u v d g h z;obtain⟨e,f⟩:=h;subst e;have:=gk (A:=A) (s:=s) d g f f;rw[gZ f]at this;exact this
 |succ n G =>
  intro A x y u v d g h z;rcases h with⟨e,f⟩|⟨a,b,xs,ys,rfl,rfl,t,w,K,F⟩
  ·subst e;have:=gk (A:=A) (s:=s) d g f f;rw[gZ f]at this;exact this
  ·cases d;cases g
   by_cases l:a=b
   ·subst l;exact EqAt.same _
   ·obtain⟨_,us,m,I⟩:=i.hok a _ t;obtain⟨_,ws,o,J⟩:=i.hok b _ w;have l1:=m.length;have l2:=o.length;have:=RcAt.tuples (A:=A) (s:=s) (e:=λ_=>true) I J (by omega) (λc h1 h2=>by
     have j:c<xs.length:=by rw[l1];simpa using h1
     have k:c<ys.length:=by rw[l2];simpa using h2
     obtain⟨u',B,C⟩:=m.get<|getElem?_eq_getElem j;obtain⟨v',D,E⟩:=o.get<|getElem?_eq_getElem k;have p:us.toArray[c]=u':=by
      have:us[c]?=some us.toArray[c]:=by rw[getElem?_eq_getElem (by simpa using h1)];simp
      rw[B]at this;exact(Option.some.inj this).symm
     have q:ws.toArray[c]=v':=by
      have:ws[c]?=some ws.toArray[c]:=by rw[getElem?_eq_getElem (by simpa using h2)];simp
      rw[D]at this;exact(Option.some.inj this).symm
     rw[p,q];exact G C E (F c _ _ (getElem?_eq_getElem j)<|getElem?_eq_getElem k) (by simp[Around.in1_units];omega))
    have r:((List.range<|min us.toArray.size ws.toArray.size).all (λ_=>true)&&us.toArray.size==ws.toArray.size)=true:=by
     have:us.toArray.size=ws.toArray.size:=by simp only[size_toArray];omega
     simp[this]
    rw[r]at this;exact EqAt.of_refs l this
def jK(H:Hp)(xs ys:List V):Prop:=xs.length=ys.length/\∀(i:Nat) x y,xs[i]?=some x->ys[i]?=some y->rA H 3 x y
theorem ow{q:List (zo×Obj)}{r:St}{b:Hp}{s:zi}(g:Inv X q r b s){xs ys:List V}{us a:List zt}(e:aq xs us)(f:aq ys a)(k:jK b xs ys){A:xg}(l:A.units+3<cLine):
  ∀j (h1:j<us.toArray.size) (h2:j<a.toArray.size),EqAt A s us.toArray[j] a.toArray[j] true:=λj h1 h2=>by
 have c:j<xs.length:=by rw[e.length];simpa using h1
 have d:j<ys.length:=by rw[f.length];simpa using h2
 obtain⟨u',m,n⟩:=e.get<|getElem?_eq_getElem c;obtain⟨v',o,p⟩:=f.get<|getElem?_eq_getElem d;have h:us.toArray[j]=u':=by
  have:us[j]?=some us.toArray[j]:=by rw[getElem?_eq_getElem (by simpa using h1)];simp
  rw[m]at this;exact(Option.some.inj this).symm
 have i:a.toArray[j]=v':=by
  have:a[j]?=some a.toArray[j]:=by rw[getElem?_eq_getElem (by simpa using h2)];simp
  rw[o]at this;exact(Option.some.inj this).symm
 rw[h,i];exact ve g 3 n p (k.2 j _ _ (getElem?_eq_getElem c)<|getElem?_eq_getElem d) l
end
section
variable{prog:xx}{w:qq}{A:xg}{E:zt->zi->Prop}{s:zi}
theorem tm{Q:Int->zi->Prop}(c:Q 4238894112 {s with toks:=s.toks+1}):wpAny (model prog w) A (pyHash .none) Q E s:=by
 have a:s.TypeIs .none "NoneType":=rfl;have b:=slot_NoneType_hash.lookup;show wpAny _ _ (pyHashByItsType .none) _ _ _;unfold pyHashByItsType;refine Wb ?_;rw[cRoomFor,if_neg (by show ¬([Value.none].any Value.onHeap=true);decide)];refine Wp<|Wb (wpAny_specialOf a b ?_);rw[if_neg (by decide)];refine Wb<|wpAny_specialOf a b ?_;rw[if_neg (by decide)];refine Wb<|wpAny_callSpecialIfBoundUnlessNone?_slot a slot_NoneType_hash (wpAny_call_entry slot_NoneType_hash a PySem.F.entry_NoneType_hash (show wpAny _ _ (do ret (<- mkInt 0xFCA86420)) _ _ s from wpAny_ret_mkInt ?_)<|PySem.F.args_NoneType_hash_1 _)
 show wpAny _ _ (if (decide (-(2:Int) ^ 63<=4238894112)&&decide ((4238894112:Int)<2 ^ 63))=true then _ else _) Q E _
 rw[if_pos (by decide)];exact Wp c
end
def nIs:Option Key->zt->Bool
 |some k,v=>eR k v
 |none,.none=>true
 |none,_=>false
theorem cI{v:zt}(h:nIs none v=true):v=.none:=by
 cases v<;>first|rfl|(exact absurd (show false=true from h) Bool.false_ne_true)
def lG(prog:xx)(w:qq):PySem.KeyKind prog w (Option Key) where
 is:=nIs
 hash:=λk=>match k with|some k=>BC w k|none=>4238894112
 inj:=λv a b f g=>by
  cases a with
  |none =>
   have e:=cI f;subst e;cases b with
   |none=>rfl
   |some k=>rcases az (show eR k .none=true from g)with⟨i,t,_,e⟩|⟨x,t,_,e⟩<;>cases e
  |some d =>
   cases b with
   |none =>
    have e:=cI g;subst e;rcases az (show eR d .none=true from f)with⟨i,t,_,e⟩|⟨x,t,_,e⟩<;>cases e
   |some k=>rw[(ap prog w).inj v d k f g]
 byValue:=λk v h=>by
  cases k with
  |none=>rw[cI h];rfl
  |some k=>exact(ap prog w).byValue k v h
 pyHash:=λ{A E s k v Q} c h=>by
  cases k with
  |none=>rw[cI c];exact tm h
  |some k=>exact(ap prog w).pyHash (k:=k) c h
 eqBool:=λ{A E s a b u v Q} j c h=>by
  cases a with
  |none =>
   rw[cI j];cases b with
   |none =>
    rw[cI c];exact EqAt.same _ _ _ _ _ (by simpa using h)
   |some k =>
    have h':Q false s:=by simpa using h
    rcases az (show eR k v=true from c)with⟨i,t,_,e⟩|⟨x,t,_,e⟩
    ·rw[e];exact EqAt.none_int i t _ _ _ _ h'
    ·rw[e];exact EqAt.none_str x t _ _ _ _ h'
  |some d =>
   cases b with
   |none =>
    rw[cI c];have h':Q false s:=by simpa using h
    rcases az (show eR d u=true from j)with⟨i,t,_,e⟩|⟨x,t,_,e⟩
    ·rw[e];exact EqAt.int_none i t _ _ _ _ h'
    ·rw[e];exact EqAt.str_none x t _ _ _ _ h'
   |some k =>
    refine(ap prog w).eqBool (a:=d) (b:=k) j c ?_;have:decide ((some d:Option Key)=some k)=decide (d=k):=by simp
    rw[<-this];exact h
 «strs»:=λk x t v h=>by
  cases k with
  |none=>exact absurd (cI h) (by simp)
  |some k=>exact(ap prog w).strs k x t v h
def Ext(p:zo)(H H':Hp):Prop:=∀b o,b≠p->H b=some o->H' b=some o
theorem Ext.of{p:zo}{H H':Hp}(s:Same H H'):Ext p H H':=λb o _ e=>s b o e
theorem Ext.upd{p:zo}{a:Hp}{o:HO}:Ext p a (upd a p o):=λb u c e=>by rw[ae c];exact e
theorem Ext.trans{p:zo}{d f H2:Hp}(a:Ext p d f)(b:Ext p f H2):Ext p d H2:=λc o g e=>b c o g<|a c o g e
def Ce(b:TE):Prop:=∀σ H (Q a:VK),(∀y H,Q y H->a y H)->b σ H Q->b σ H a
theorem qg{js:List Nat}{J:It}{g:TE}{u:St}{a:Hp}{Q:VK}{p:zo}{fr:List (Option V)}(n:Nat)(G:n<=1000)(s:a p=none)(C:cA 1 js u=none::fr)(R:Nat->V->Hp->Prop)(l:∀i y H H',R i y H->Ext p H H'->R i y H')(go:∀i H',i<n->Same a H'->J.go i H')(stop:∀H',Same a H'->J.stop n H')(t:Ce g)(step:∀i H' x H2,i<n->Same a H'->(∃ys,H' p=some (.lst ys))->J.yld i H' x H2->H2=H'/\g (some x::fr) H' λy d=>Same H' d/\R i y d)(A:∀ys H',Same a H'->H' p=some (.lst ys)->ys.length=n->(∀(j:Nat) y,ys[j]?=some y->R j y H')->Q (.ref p) H'):LcW 1 js (br 0) g u Q J a p:=by
 refine uT (k:=1) (js:=js) (J:=J) (p:=p) n G (λi ys c H'=>(∃o,c=o::fr)/\Same a H'/\H' p=some (.lst ys)/\ys.length=i/\∀(j:Nat) y,ys[j]?=some y->R j y H') ⟨⟨none,C⟩,ag s,ac,rfl,λj y h=>by simp at h⟩
  (λi ys c H' h=>by have:=h.2.2.2.1;omega) (λi ys c H' hi h=>go i H' hi h.2.1) (λys c H' h=>⟨stop H' h.2.1,A ys H' h.2.1 h.2.2.1 h.2.2.2.1 h.2.2.2.2⟩) (λi ys c H' hi h x H2 L=>?_) ?_ t
 ·obtain⟨⟨o,rfl⟩,s1,r,F,I⟩:=h;obtain⟨rfl,K⟩:=step i H' x H2 hi s1 ⟨ys,r⟩ L;refine t _ _ _ _ (λy d B=>?_) K;obtain⟨f,M⟩:=B;refine⟨f _ _ r,⟨some x,rfl⟩,aC s<|s1.trans f,ac,by rw[length_append,F];rfl,λj z b=>?_⟩;have ex:Ext p H2 (upd d p<|.lst (ys++[y])):=(Ext.of f).trans Ext.upd
  by_cases D:j<ys.length
  ·rw[getElem?_append_left D]at b;exact l _ _ _ _ (I j z b) ex
  ·rw[getElem?_append_right (by omega)]at b;have E:j-ys.length=0:=by
    cases e:j-ys.length with
    |zero=>rfl
    |succ m=>rw[e]at b;simp at b
   rw[E]at b;have w:y=z:=by simpa using b
   subst w;have v:j=i:=by omega
   subst v;exact l _ _ _ _ M Ext.upd
 ·intro _ _ _ _ _ m q;exact m _ _ q
theorem gw{a:Hp}{p q:zo}(b:∃ys,a p=some (.lst ys))(c:a q=none):q≠p:=λe=>by
 obtain⟨ys,h⟩:=b;rw[<-e,c]at h;cases h
section
variable{X:Cx}{N:List Str}{scope:Scope}{cl:List (Str×zo)}{k:Nat}{js:List Nat}
theorem tu{d c iter:Expr}{oc:Option Expr}{pos w f:Pos}{y:Str}{ii:Nat}{B:TI}{g:TG}{tc:TT}{z:TE}{r:St->VK->It->Hp->zo->Prop}(P:∀{σ Q} J H1 p,r σ Q J H1 p->pU k js g tc z σ Q J H1 p)(S:X.N.Nodup)(a1:X.N[ii]?=some y)(a9:Loc X.env.scope y)(V:X.calm=true)(G:LcOk X scope cl)(R:N.length=k+js.length)(a2:∀(i j:Nat) x,js[i]?=some j->N[k+i]?=some x->X.N[j]?=some x/\Vis X.env.scope x/\X.env.scope.names.lookup x≠some .local/\((relabel scope X.env).names.lookup x=some .cell\/(relabel scope X.env).names.lookup x=some .free))(a0:PI X c iter B)(Z:∀s H fp,PG (cg X N scope cl s H fp) c g)(a8:∀s H fp,ocT (cg X N scope cl s H fp) oc tc)(W:∀s H fp,PE (cg X N scope cl s H fp) d z)(a5:∀x,foldedSetIterable iter X.env x=pure x)(a7:swapsWith (.ListComp d [⟨c,iter,oc.toList,0⟩] scope pos) (some<|.Name y f) w.line X.env=pure true)(Y:X.fn y=true\/X.env.scope.names.lookup y=some .local):PS X (.Assign [.Name y f] (.ListComp d [⟨c,iter,oc.toList,0⟩] scope pos) w) (xq (λσ H Q=>B σ H λJ H1=>∀p,H1 p=none->r σ Q J H1 p)<|br ii):=by
 intro pins s σ H D I h;rw[exec_Assign_Name_used _ _ _ _ a7];refine Wb<|wpAny_standAt (Wb ?_);show wpAny _ X.A (do let _ <- comprehension (.ListComp d [⟨c,iter,oc.toList,0⟩] scope pos) scope X.env _ (newList []) false (eval iter X.env) (some<|assign (.Name y f) X.env)) _ _ s
 refine Wb<|wpAny_mono (rc (Qc:=λ_ s'=>∃C H',Inv X pins C H' s'/\D.nx C H') V G R a2 a0 Z a8 W a5 P I h λ{b1 s4 b5 l b7 fp p} q L n b0=>?_) (λ_ s' a4=>Wp<|Wp a4) λ_ _ e=>e;obtain⟨m,a3,_⟩:=n.loc;have E:Inv X pins σ l s4:=uG q L n<|SameBut.refl _ _;obtain⟨K,t,b6,M,u,O⟩:=q.fpOk (b:=b1.heap.objs.size) (le_refl _) (H':=l) n.free;show wpAny _ _ (assign (.Name y f) X.env<|.ref p) _ _ _;refine wpAny_assign_Name<|ll E S a1 a9 (v:=.ref p) rfl (λb2 F ⟨a,b3,T⟩=>⟨m,a3.sameBut b3 ?_,λh' a6=>⟨_,l,F.turned (t':=b2.toks) (λb o U e=>(a6.2 b U).trans e) K t M u O,b0⟩⟩) Y;rcases T with e|e
 ·rw[e];exact t
 ·exact λb4=>u _ _ e b4.symm
theorem tw{b a iter c:Expr}{pos e d:Pos}{y:Str}{ii:Nat}{l:TI}{g:TG}{tc:TT}{f:TE}(o:X.N.Nodup)(v:X.N[ii]?=some y)(C:Loc X.env.scope y)(p:X.calm=true)(m:LcOk X scope cl)(n:N.length=k+js.length)(w:∀(i j:Nat) x,js[i]?=some j->N[k+i]?=some x->X.N[j]?=some x/\Vis X.env.scope x/\X.env.scope.names.lookup x≠some .local/\((relabel scope X.env).names.lookup x=some .cell\/(relabel scope X.env).names.lookup x=some .free))(u:PI X a iter l)(t:∀s H fp,PG (cg X N scope cl s H fp) a g)(B:∀s H fp,PT (cg X N scope cl s H fp) c tc)(q:∀s H fp,PE (cg X N scope cl s H fp) b f)(z:∀x,foldedSetIterable iter X.env x=pure x:=by intro _;rfl)(A:swapsWith (.ListComp b [⟨a,iter,[c],0⟩] scope pos) (some<|.Name y d) e.line X.env=pure true:=by rfl)(r:X.fn y=true\/X.env.scope.names.lookup y=some .local:=by first|exact .inl rfl|exact .inr rfl|assumption):PS X (.Assign [.Name y d] (.ListComp b [⟨a,iter,[c],0⟩] scope pos) e) (xq (BY k js l g tc f)<|br ii):=tu (oc:=some c) (λ_ _ _ h=>h) o v C p m n w u t B q z A r
end
abbrev TJ:=St->Hp->(Hp->Prop)->Prop
section
variable{X:Cx}{tg:Expr}
def PJ(X:Cx)(ps:List Expr)(b:Nat)(t:TJ):Prop :=
 ∀(a:Str)(pins:List<|zo×Obj)(s:zi)(σ:St)(H:Hp)(Q:VK),Inv X pins σ H s->a.length+b<=1000->(t σ H λH1=>∀y,Q (.str y) H1)->wpAny (model X.prog X.w) X.A (joinParts a<|evalEach ps X.env) (EP X pins σ Q) X.xe s
theorem vf:PJ X [] 0 (λσ H k=>k H):=by
 intro b pins s σ H Q I a h;exact joinParts_nilE<|joinParts_nil ⟨.str _,H,I.tok _,⟨_,rfl⟩,h _⟩ (le_of_lt<|au (by omega))
theorem vg{x:Str}{c b:Nat}{j:Nat}{p:Pos}{ps:List Expr}{t:TJ}(h:x.length<=c)(d:PJ X ps b t):PJ X (.Constant (.str x) j p::ps) (c+b) t:=by
 intro a pins s σ H Q I f e;refine joinParts_cons<|Calls.Constant_str ?_;have g:(a++x).length=a.length+x.length:=strLen_append ..;exact⟨le_of_lt<|au (by omega),d _ pins _ σ H Q (I.tok _) (by omega) e⟩
def Cf(t:TJ):TE:=λσ H Q=>t σ H λH1=>∀y,Q (.str y) H1
theorem rB{a c:Expr}{ps:List Expr}{pos:Pos}{b:Nat}{t:TJ}(d:PJ X (a::c::ps) b t)(f:b<=1000):PE X (.JoinedStr (a::c::ps) pos) (Cf t):=by
 intro pins s σ H Q I e;exact JoinedStr_many<|d empty pins s σ H Q I (by show 0+b<=1000;omega) e
theorem qh(w:X.A.units+4<cLine):OpR X (compareOp .Eq) (λx y H Q=>rEq x y H Q\/(∃a b xs ys,x=.ref a/\y=.ref b/\jK H xs ys/\((H a=some (.lst xs)/\H b=some (.lst ys))\/(H a=some (.tup xs)/\H b=some (.tup ys)))/\Q (.bl true) H)):=by
 intro pins s σ H x y v u Q I j k h;rcases h with h|⟨a,b,xs,ys,rfl,rfl,f,h,q⟩
 ·exact BN pins s σ H x y v u Q I j k h
 ·cases j;cases k;rcases h with⟨g,i⟩|⟨g,i⟩
  ·obtain⟨_,us,m,c,o⟩:=I.hok a _ g;obtain⟨_,ws,n,d,p⟩:=I.hok b _ i;have l:=f.1;have l1:=c.length;have l2:=d.length;refine eq_listAt (e:=λ_=>true) ⟨_,o,rfl,m,rfl⟩ ⟨_,p,rfl,n,rfl⟩ (by simp only[size_toArray];omega) (by omega) (ow I c d f (by simp[Around.in1_units];omega)) ⟨.bl true,H,I,?_,q⟩;show _=Value.bool true;simp
  ·obtain⟨_,us,c,r⟩:=I.hok a _ g;obtain⟨_,ws,d,t⟩:=I.hok b _ i;have l:=f.1;have l1:=c.length;have l2:=d.length;refine SeqAt.eq_tupleAt (e:=λ_=>true) r t (by omega) (ow I c d f (by simp[Around.in1_units];omega)) ⟨.bl true,H,I,?_,q⟩;show _=Value.bool true;have:us.toArray.size=ws.toArray.size:=by simp only[size_toArray];omega
   simp[this]
end
theorem Same.seqT{K:Frag}{H H':Hp}{a:zo}{xs:List V}(e:Same H H')(h:SqT K H a xs):SqT K H' a xs:=by
 rcases h with (h|⟨o,h⟩)|h
 ·exact .inl<|.inl (e _ _ h)
 ·exact .inl<|.inr ⟨o,e _ _ h⟩
 ·exact .inr h
structure Src(J:It)(H1:Hp)(xs:List V):Prop where
 go:∀i H',i<xs.length->Same H1 H'->J.go i H'
 stop:∀H',Same H1 H'->J.stop xs.length H'
 yl:∀i H' x H2,i<xs.length->Same H1 H'->J.yld i H' x H2->H2=H'/\xs[i]?=some x
theorem rC{K:Frag}{a:zo}{xs:List V}{c:Hp}(b:SqT K c a xs):Src (Itt K a) c xs :=
 ⟨λi H' hi s=>⟨xs,xs[i],s.seqT b,getElem?_eq_getElem hi⟩,λH' s=>⟨xs,s.seqT b,le_refl _⟩,λi H' x H2 _ s ⟨e,y⟩=>⟨e,y xs (by subst e;exact s.seqT b)⟩⟩
theorem eD{K:Frag}{a:zo}{xs:List V}{c:Hp}(b:SqL K c a xs):Src (Itl K a) c xs :=
 ⟨λi H' hi s=>⟨xs,xs[i],s.seq b,getElem?_eq_getElem hi⟩,λH' s=>⟨xs,s.seq b,le_refl _⟩,λi H' x H2 _ s ⟨e,y⟩=>⟨e,y xs (by subst e;exact s.seq b)⟩⟩
theorem Paired.snoc{c d:Type}{R:c->d->Prop}:∀{e:List c}{bs:List d}{a:c}{b:d},Paired R e bs->R a b->Paired R (e++[a]) (bs++[b])
 |_,_,_,_,.nil,h=>.cons h .nil
 |_,_,_,_,.cons r t,h=>.cons r<|Paired.snoc t h
theorem qi{j:Type}{js:List Nat}{J:It}{tc:TT}{G:TE}{I:St}{f:Hp}{Q:VK}{p:zo}{fr:List (Option V)}(zs:List j)(val:j->V)(P:zs.length<=1000)(E:f p=none)(S:Src J f<|zs.map val)(N:cA 1 js I=none::fr)(g:j->Bool)(R:j->V->Hp->Prop)(C:∀z y H H',R z y H->Ext p H H'->R z y H')(cond:∀z H' (k:Bool->Hp->Prop),z∈zs->Same f H'->(∃ys,H' p=some (.lst ys))->(∀c,Same H' c->k (g z) c)->tc (some (val z)::fr) H' k)(L:∀z H' (k:VK),z∈zs->g z=true->Same f H'->(∃ys,H' p=some (.lst ys))->(∀y c,Same H' c->R z y c->k y c)->G (some (val z)::fr) H' k)(M:∀ys H',Same f H'->H' p=some (.lst ys)->Paired (λz y=>R z y H') (zs.filter g) ys->Q (.ref p) H'):pU 1 js (br 0) tc G I Q J f p:=by
 have B:∀{l:List j}{ys:List V}{H H':Hp},Ext p H H'->Paired (λz y=>R z y H) l ys->Paired (λz y=>R z y H') l ys:=λex r=>Paired.mapP r λa b h=>C a b _ _ h ex;have O:∀{l:List j}{ys:List V}{H:Hp},Paired (λz y=>R z y H) l ys->ys.length=l.length:=λr=>(Paired.length r).symm;refine⟨λi m ys K H'=>m=zs.length-i/\i<=zs.length/\(∃o,K=o::fr)/\Same f H'/\H' p=some (.lst ys)/\Paired (λz y=>R z y H') ((zs.take i).filter g) ys,⟨zs.length,by simp,zero_le _,⟨none,N⟩,ag E,ac,.nil⟩,?_⟩;rintro i m ys K H' ⟨rfl,hi,⟨o,rfl⟩,s1,n,q⟩
 by_cases t:i<zs.length
 ·have D:i<(zs.map val).length:=by rw[length_map];exact t
  refine .inr ⟨S.go i H' D s1,?_,λx H2 T=>?_⟩
  ·have h1:ys.length<=zs.length:=by
    rw[O q];exact le_trans (length_filter_le _ _) (by rw[length_take];omega)
   exact lt_of_le_of_lt h1<|au P
  ·obtain⟨rfl,F⟩:=S.yl i H' x H2 D s1 T;have s:zs[i]?=some zs[i]:=getElem?_eq_getElem t;have w:=mem_of_getElem? s;rw[getElem?_map,s]at F;have ex:val zs[i]=x:=Option.some.inj F;have u:zs.take (i+1)=zs.take i++[zs[i]]:=bH s;subst ex;generalize zs[i]=z at s w u|-;refine cond z H2 _ w s1 ⟨ys,n⟩ λc d=>?_;cases v:g z with
   |true =>
    rw[if_pos rfl];refine L z c _ w v (s1.trans d) ⟨ys,d _ _ n⟩ λy W A U=>⟨A _ _<|d _ _ n,zs.length-(i+1),by omega,rfl,t,⟨_,rfl⟩,aC E<|(s1.trans d).trans A,ac,?_⟩;rw[u,filter_append,filter_cons_of_pos v];exact Paired.snoc (B ((Ext.of<|d.trans A).trans Ext.upd) q)<|C _ _ _ _ U Ext.upd
   |false =>
    rw[if_neg (by simp)];refine⟨zs.length-(i+1),by omega,rfl,t,⟨_,rfl⟩,s1.trans d,d _ _ n,?_⟩;rw[u,filter_append,filter_cons_of_neg (by simp[v]),filter_nil,append_nil];exact B (Ext.of d) q
 ·have e:i=zs.length:=by omega
  subst e;have st:=S.stop H' s1;rw[length_map]at st;refine .inl ⟨st,M ys H' s1 n ?_⟩;rw[take_length]at q;exact q
theorem fJ{f:Type}{js:List Nat}{J:It}{C:TE}{D:St}{c:Hp}{Q:VK}{p:zo}{fr:List (Option V)}(zs:List f)(val:f->V)(M:zs.length<=1000)(w:c p=none)(S:Src J c<|zs.map val)(K:cA 1 js D=none::fr)(R:f->V->Hp->Prop)(u:∀z y H H',R z y H->Ext p H H'->R z y H')(F:∀z H' (k:VK),z∈zs->Same c H'->(∃ys,H' p=some (.lst ys))->(∀y l,Same H' l->R z y l->k y l)->C (some (val z)::fr) H' k)(G:∀ys H',Same c H'->H' p=some (.lst ys)->Paired (λz y=>R z y H') zs ys->Q (.ref p) H'):LcW 1 js (br 0) C D Q J c p:=by
 have I:∀{d:List f}{ys:List V}{H H':Hp},Ext p H H'->Paired (λz y=>R z y H) d ys->Paired (λz y=>R z y H') d ys:=λex r=>Paired.mapP r λa b h=>u a b _ _ h ex;have L:∀{d:List f}{ys:List V}{H:Hp},Paired (λz y=>R z y H) d ys->ys.length=d.length:=λr=>(Paired.length r).symm;refine⟨λi m ys E H'=>m=zs.length-i/\i<=zs.length/\(∃o,E=o::fr)/\Same c H'/\H' p=some (.lst ys)/\Paired (λz y=>R z y H') (zs.take i) ys,⟨zs.length,by simp,zero_le _,⟨none,K⟩,ag w,ac,.nil⟩,?_⟩;rintro i m ys E H' ⟨rfl,hi,⟨o,rfl⟩,s1,n,j⟩
 by_cases q:i<zs.length
 ·have v:i<(zs.map val).length:=by rw[length_map];exact q
  refine .inr ⟨S.go i H' v s1,?_,λx H2 N=>?_⟩
  ·have h1:ys.length<=zs.length:=by
    rw[L j,length_take];omega
   exact lt_of_le_of_lt h1<|au M
  ·obtain⟨rfl,A⟩:=S.yl i H' x H2 v s1 N;have g:zs[i]?=some zs[i]:=getElem?_eq_getElem q;have B:=mem_of_getElem? g;rw[getElem?_map,g]at A;have ex:val zs[i]=x:=Option.some.inj A;have t:zs.take (i+1)=zs.take i++[zs[i]]:=bH g;subst ex;generalize zs[i]=z at g B t|-;refine F z H2 _ B s1 ⟨ys,n⟩ λy P s O=>⟨s _ _ n,zs.length-(i+1),by omega,rfl,q,⟨_,rfl⟩,aC w<|s1.trans s,ac,?_⟩;rw[t];exact Paired.snoc (I ((Ext.of s).trans Ext.upd) j)<|u _ _ _ _ O Ext.upd
 ·have e:i=zs.length:=by omega
  subst e;have st:=S.stop H' s1;rw[length_map]at st;refine .inl ⟨st,G ys H' s1 n ?_⟩;rw[take_length]at j;exact j
theorem dP{c g:Type}{R:c->V->Prop}{val:g->V}{S:c->g->Prop}{zs:List c}{ys:List V}(l:Paired R zs ys)(f:∀z y,z∈zs->R z y->∃b,y=val b/\S z b):
  ∃bs:List<|c×g,bs.map (·.1)=zs/\ys=bs.map (λx=>val x.2)/\∀x∈bs,S x.1 x.2:=by
 induction l with
 |nil=>exact⟨[],rfl,rfl,by simp⟩
 |@cons a y as bs r _ ih =>
  obtain⟨h,i,j,k⟩:=ih λz y m=>f z y (by simp[m]);obtain⟨b,e,s⟩:=f _ _ (by simp) r;refine⟨(a,b)::h,by rw[map_cons,i],by rw[map_cons,<-j,e],λx d=>?_⟩;rcases mem_cons.mp d with rfl|d
  ·exact s
  ·exact k x d
theorem dh{a:Type}{R:a->V->Prop}{f:a->V}{zs:List a}{ys:List V}(c:Paired R zs ys)(b:∀z y,z∈zs->R z y->y=f z):ys=zs.map f:=by
 induction c with
 |nil=>rfl
 |cons r _ e=>rw[map_cons,<-e λz y d=>b z y (by simp[d]),b _ _ (by simp) r]
theorem vh{X:Cx}:de (CX1 X.prog X.w) X E0:=λ_ _ _ _ _ _ _ ⟨_,_,_,_,_,h⟩=>h.elim
end L2
namespace TW
structure Nd(S:Type) where
 num:Int
 par:Int
 nm:S
 st:Option Int
section
variable{S:Type}
inductive Reach(ns:List<|Nd S)(f:Int):Nd S->Prop where
 |base {n:Nd S}:n∈ns->n.par=f->Reach ns f n
 |step {m n:Nd S}:Reach ns f m->m.st=none->n∈ns->n.par=m.num->Reach ns f n
theorem Reach.mem{ns:List (Nd S)}{f:Int}{n:Nd S}(h:Reach ns f n):n∈ns:=by
 cases h<;>assumption
theorem Reach.mono{ns d:List (Nd S)}{f:Int}{n:Nd S}(e:Reach ns f n)(c:∀x∈ns,x∈d):Reach d f n:=by
 induction e with
 |base a b=>exact .base (c _ a) b
 |step _ g a b h=>exact .step h g (c _ a) b
def jL(ns:List<|Nd S)(k:Int):List (Nd S):=ns.filter λn=>decide<|n.par=k
def eS(a:List Int)(n:Nd S):Bool:=decide<|n.par∈a
structure Walk(ns:List<|Nd S)(f:Int)(dn:List Int)(fd:List<|Nd S)(pd:List Int):Prop where
 perm:fd.Perm<|ns.filter (eS dn)
 reach:∀n∈fd,Reach ns f n
 cover:∀k,(k∈pd\/k∈dn)↔(k=f\/∃m∈fd,m.st=none/\m.num=k)
theorem Walk.start(ns:List<|Nd S)(f:Int):Walk ns f [] [] [f]:=by
 refine⟨?_,by simp,λk=>by simp⟩;have e:ns.filter (eS [])=[]:=by
  rw[List.filter_eq_nil_iff];intro a _;simp[eS]
 rw[e]
theorem ff{e:Type}(p q:e->Bool)(d:∀x,p x=true->q x=true->False):∀l:List e,
  (l.filter p++l.filter q).Perm (l.filter λx=>p x||q x)
 |[]=>by simp
 |x::l=>by
  have c:=ff p q d l;cases a:p x with
  |true =>
   have b:q x=false:=by
    cases h:q x with
    |false=>rfl
    |true=>exact(d x a h).elim
   rw[filter_cons_of_pos a,filter_cons_of_neg (by simp[b]),filter_cons_of_pos (by simp[a])];exact List.Perm.cons x c
  |false =>
   cases b:q x with
   |true =>
    rw[filter_cons_of_neg (by simp[a]),filter_cons_of_pos b,filter_cons_of_pos (by simp[b])];exact List.perm_middle.trans<|List.Perm.cons x c
   |false =>
    rw[filter_cons_of_neg (by simp[a]),filter_cons_of_neg (by simp[b]),filter_cons_of_neg (by simp[a,b])];exact c
def here(ns:List<|Nd S)(a:List Int)(x:Int):List (Nd S):=if x∈a then []else jL ns x
def aD(l:List<|Nd S):List Int:=(l.filter λn=>n.st.isNone).map (·.num)
theorem iT{l:List (Nd S)}{k:Int}:k∈aD l↔∃m∈l,m.st=none/\m.num=k:=by
 unfold aD;rw[mem_map];constructor
 ·rintro⟨m,a,e⟩;rw[mem_filter]at a;exact⟨m,a.1,by simpa using a.2,e⟩
 ·rintro⟨m,a,h,e⟩;exact⟨m,mem_filter.mpr ⟨a,by simp[h]⟩,e⟩
theorem Walk.turn{ns:List (Nd S)}{f x:Int}{b:List Int}{l:List (Nd S)}{o:List Int}(w:Walk ns f b l<|o++[x]):
  Walk ns f (x::b) (l++here ns b x) (o++aD (here ns b x)):=by
 have s:=(w.cover x).mp (.inl (by simp))
 by_cases g:x∈b
 ·have i:here ns b x=[]:=by unfold here;rw[if_pos g]
  rw[i];refine⟨?_,by simpa using w.reach,λk=>?_⟩
  ·have e:ns.filter (eS (x::b))=ns.filter (eS b):=by
    apply filter_congr;intro n _;simp only[eS,mem_cons,decide_eq_decide];constructor
    ·rintro(h|h)
     ·rw[h];exact g
     ·exact h
    ·exact .inr
   rw[e,append_nil];exact w.perm
  ·have c:=w.cover k;rw[append_nil,<-c];simp only[aD,filter_nil,map_nil,append_nil,mem_append,mem_cons,not_mem_nil,or_false];constructor
   ·rintro(h|h|h)
    ·exact .inl<|.inl h
    ·exact .inl<|.inr h
    ·exact .inr h
   ·rintro((h|h)|h)
    ·exact .inl h
    ·exact .inr<|.inl h
    ·exact .inr<|.inr h
 ·have i:here ns b x=jL ns x:=by unfold here;rw[if_neg g]
  rw[i];refine⟨?_,λn r=>?_,λk=>?_⟩
  ·have e:ns.filter (eS (x::b))=ns.filter λn=>eS b n||decide (n.par=x):=by
    apply filter_congr;intro n _;rw[Bool.eq_iff_iff];simp only[eS,mem_cons,decide_eq_true_eq,or_eq_true];constructor
    ·rintro(h|h)
     ·exact .inr h
     ·exact .inl h
    ·rintro(h|h)
     ·exact .inr h
     ·exact .inl h
   rw[e];refine(List.Perm.append_right _ w.perm).trans (ff _ _ (λy h1 h2=>?_) ns);simp only[eS,decide_eq_true_eq]at h1 h2;rw[h2]at h1;exact g h1
  ·rcases mem_append.mp r with h|h
   ·exact w.reach n h
   ·unfold jL at h;rw[mem_filter]at h;obtain⟨a,j⟩:=h;simp only[decide_eq_true_eq]at j;rcases s with e|⟨m,q,p,e⟩
    ·exact .base a<|j.trans e
    ·exact .step (w.reach m q) p a<|j.trans e.symm
  ·have c:=w.cover k;simp only[mem_append,mem_cons,not_mem_nil,or_false]at c|-;rw[iT];constructor
   ·rintro((h|⟨m,a,h1,h2⟩)|h|h)
    ·rcases c.mp (.inl<|.inl h)with e|⟨m,a,d⟩
     ·exact .inl e
     ·exact .inr ⟨m,.inl a,d⟩
    ·exact .inr ⟨m,.inr a,h1,h2⟩
    ·rcases c.mp (.inl<|.inr h)with e|⟨m,a,d⟩
     ·exact .inl e
     ·exact .inr ⟨m,.inl a,d⟩
    ·rcases c.mp (.inr h)with e|⟨m,a,d⟩
     ·exact .inl e
     ·exact .inr ⟨m,.inl a,d⟩
   ·rintro(e|⟨m,a|a,d⟩)
    ·rcases c.mpr (.inl e)with (h|h)|h
     ·exact .inl<|.inl h
     ·exact .inr<|.inl h
     ·exact .inr<|.inr h
    ·rcases c.mpr (.inr ⟨m,a,d⟩)with (h|h)|h
     ·exact .inl<|.inl h
     ·exact .inr<|.inl h
     ·exact .inr<|.inr h
    ·exact .inl<|.inr ⟨m,a,d⟩
theorem Walk.len{ns:List (Nd S)}{f:Int}{b:List Int}{a:List (Nd S)}{c:List Int}(w:Walk ns f b a c):a.length<=ns.length:=by
 rw[w.perm.length_eq];exact length_filter_le _ _
theorem dz(l:List<|Nd S):(aD l).length<=l.length:=by
 unfold aD;rw[length_map];exact length_filter_le _ _
theorem Walk.mem{ns:List (Nd S)}{f:Int}{dn:List Int}{fd:List (Nd S)}(w:Walk ns f dn fd [])(n:Nd S):n∈fd↔Reach ns f n:=by
 constructor
 ·exact w.reach n
 ·have d:∀k,(k=f\/∃m∈fd,m.st=none/\m.num=k)->k∈dn:=λk h=>by
   rcases (w.cover k).mpr h with c|c
   ·simp at c
   ·exact c
  have back:∀x,x∈ns->x.par∈dn->x∈fd:=λx g a=>w.perm.mem_iff.mpr<|mem_filter.mpr ⟨g,by simp[eS,a]⟩;intro h
  induction h with
  |base b a=>exact back _ b<|d _ (.inl a)
  |step _ e b a i=>exact back _ b<|d _ (.inr ⟨_,i,e,a.symm⟩)
def oz(ns:List<|Nd S):Prop:=ns.Pairwise λa b=>a.num<b.num
def eE(ns:List<|Nd S):Prop:=(ns.map λn=>(n.par,n.nm)).Nodup
structure Tree(ns:List<|Nd S):Prop where
 rise:oz ns
 own:eE ns
 down:∀n∈ns,Reach ns 0 n
inductive Built:List (Nd S)->Prop where
 |nil:Built []
 |snoc {l:List (Nd S)} {n:Nd S}:Built l->(n.par=0\/∃m∈l,m.st=none/\m.num=n.par)->Built (l++[n])
theorem Built.down{l:List (Nd S)}(b:Built l):∀n∈l,Reach l 0 n:=by
 induction b with
 |nil=>simp
 |@snoc l n b h ih =>
  intro x a;have c:∀y∈l,y∈l++[n]:=λy i=>mem_append_left _ i;rcases mem_append.mp a with a|a
  ·exact(ih x a).mono c
  ·have e:x=n:=by simpa using a
   subst e;rcases h with h|⟨m,g,f,d⟩
   ·exact .base (by simp) h
   ·exact .step ((ih m g).mono c) f (by simp) d.symm
theorem yd{l t:List (Nd S)}(b:Built l)(p:t.Perm l)(f:t.Pairwise λa b=>a.num<=b.num)(d:(l.map (·.num)).Nodup)(e:eE l):Tree t:=by
 refine⟨?_,?_,λn c=>?_⟩
 ·have c:(t.map (·.num)).Nodup:=((p.map _).nodup_iff).mpr d;unfold Nodup at c;rw[pairwise_map]at c;unfold oz;exact f.imp₂ (λa b h1 h2=>by omega) c
 ·unfold eE;exact((p.map _).nodup_iff).mpr e
 ·exact(b.down n<|p.mem_iff.mp c).mono λx g=>p.mem_iff.mpr g
theorem vi{t:List (Nd S)}(c:oz t){a b:Nd S}(g:a∈t)(i:b∈t)(e:a.num=b.num):a=b:=by
 unfold oz at c
 induction t with
 |nil=>simp at g
 |cons x r j =>
  rw[pairwise_cons]at c;rcases mem_cons.mp g with ea|h
  ·rcases mem_cons.mp i with d|f
   ·rw[ea,d]
   ·have:=c.1 b f;rw[<-ea]at this;omega
  ·rcases mem_cons.mp i with d|f
   ·have:=c.1 a h;rw[<-d]at this;omega
   ·exact j c.2 h f
end
section
variable{S:Type}
inductive PathTo(ns:List<|Nd S):Int->List S->Prop where
 |top:PathTo ns 0 []
 |node {n:Nd S} {p:List S}:n∈ns->PathTo ns n.par p->PathTo ns n.num (p++[n.nm])
structure Tree1(ns:List<|Nd S):Prop extends Tree ns where
 pos:∀n∈ns,1<=n.num
theorem Tree1.inj{ns:List (Nd S)}(T:Tree1 ns){a b:Nd S}(c:a∈ns)(d:b∈ns)(e:a.num=b.num):a=b:=vi T.rise c d e
theorem PathTo.zero{ns:List (Nd S)}(T:Tree1 ns){k:Int}{p:List S}(h:PathTo ns k p)(e:k=0):p=[]:=by
 cases h with
 |top=>rfl
 |@node n p hm _=>have:=T.pos n hm;omega
theorem PathTo.inv{ns:List (Nd S)}(T:Tree1 ns){k:Int}{p:List S}(b:PathTo ns k p){n:Nd S}(a:n∈ns)(e:k=n.num):∃q,p=q++[n.nm]/\PathTo ns n.par q:=by
 cases b with
 |top=>have:=T.pos n a;omega
 |@node m q hm hq =>
  have:m=n:=T.inj hm a e;subst this;exact⟨q,rfl,hq⟩
theorem PathTo.uniq{ns:List (Nd S)}(T:Tree1 ns){k:Int}{p:List S}(b:PathTo ns k p):∀{q:List S},PathTo ns k q->p=q:=by
 induction b with
 |top=>intro q a;exact(a.zero T rfl).symm
 |@node n p hm _ ih =>
  intro q a;obtain⟨d,e,c⟩:=a.inv T hm rfl;rw[e,ih c]
theorem PathTo.ex{ns:List (Nd S)}(T:Tree1 ns){n:Nd S}(c:n∈ns):∃p,PathTo ns n.num p:=by
 have key:∀x,Reach ns 0 x->∃p,PathTo ns x.num p:=by
  intro x r
  induction r with
  |base a b=>exact⟨_,.node a (by rw[b];exact .top)⟩
  |step _ _ a b d =>
   obtain⟨p,h⟩:=d;exact⟨_,.node a (by rw[b];exact h)⟩
 exact key n<|T.down n c
theorem PathTo.key{ns:List (Nd S)}(T:Tree1 ns):∀{p:List S}{k j:Int},PathTo ns k p->PathTo ns j p->k=j:=by
 have F:∀(m:Nat){p:List S}{k j:Int},p.length=m->PathTo ns k p->PathTo ns j p->k=j:=by
  intro m
  induction m with
  |zero =>
   intro p k j a h1 h2;have e:p=[]:=length_eq_zero_iff.mp a;subst e;have b:∀{k:Int}{q:List S},PathTo ns k q->q=[]->k=0:=by
    intro k q h e;cases h with
    |top=>rfl
    |node _ _=>simp at e
   rw[b h1 rfl,b h2 rfl]
  |succ m D =>
   intro p k j a h1 h2;have b:∀{k:Int}{q:List S},PathTo ns k q->q=p->∃n q',n∈ns/\n.num=k/\p=q'++[n.nm]/\PathTo ns n.par q':=by
    intro k q h e;cases h with
    |top=>rw[<-e]at a;simp at a
    |@node n q' hm c=>exact⟨n,q',hm,rfl,e.symm,c⟩
   obtain⟨n,q,A,o,d,C⟩:=b h1 rfl;obtain⟨n',q',B,r,s,c⟩:=b h2 rfl;have t:q++[n.nm]=q'++[n'.nm]:=d.symm.trans s;obtain⟨u,v⟩:=List.append_inj' t rfl;subst u;have w:n.nm=n'.nm:=by simpa using v
   have x:n.par=n'.par:=D (by rw[d]at a;simpa using a) C c;have l:=T.own;have:n=n':=by
    unfold eE at l;obtain⟨i,hi,f⟩:=mem_iff_getElem.mp A;obtain⟨E,z,g⟩:=mem_iff_getElem.mp B;have:(ns.map λn=>(n.par,n.nm))[i]'(by simpa using hi)=(ns.map λn=>(n.par,n.nm))[E]'(by simpa using z):=by
     rw[getElem_map,getElem_map,f,g,w,x]
    have y:=(getElem_inj l).mp this;subst y;rw[<-f,<-g]
   rw[<-o,<-r,this]
 intro p k j h1 h2;exact F p.length rfl h1 h2
theorem PathTo.chain{ns:List (Nd S)}(T:Tree1 ns){k:Int}{p:List S}(h:PathTo ns k p):∃l:List Int,l.length=p.length/\l.Nodup/\∀x∈l,x∈ns.map (·.num)/\∃q,PathTo ns x q/\q.length<=p.length:=by
 induction h with
 |top=>exact⟨[],rfl,nodup_nil,by simp⟩
 |@node n p hm hp ih =>
  obtain⟨l,e,o,f⟩:=ih;refine⟨n.num::l,by simp[e],nodup_cons.mpr ⟨λi=>?_,o⟩,λx m=>?_⟩
  ·obtain⟨_,q,j,d⟩:=f _ i;have:=j.uniq T<|.node hm hp;rw[this]at d;simp at d;omega
  ·rcases mem_cons.mp m with g|h'
   ·rw[g];exact⟨mem_map.mpr ⟨n,hm,rfl⟩,_,.node hm hp,le_refl _⟩
   ·obtain⟨a,q,b,c⟩:=f x h';exact⟨a,q,b,by simp;omega⟩
theorem PathTo.len{ns:List (Nd S)}(T:Tree1 ns){k:Int}{p:List S}(a:PathTo ns k p):p.length<=ns.length:=by
 obtain⟨l,e,d,b⟩:=a.chain T;rw[<-e];have:=Nodup.length_le_of_subset d λx c=>(b x c).1;rw[length_map]at this;exact this
inductive Und(ns:List<|Nd S)(g:Int):Int->Prop where
 |here:Und ns g g
 |up {n:Nd S}:n∈ns->Und ns g n.par->Und ns g n.num
theorem Und.zero{ns:List (Nd S)}(T:Tree1 ns){g k:Int}(h:Und ns g k)(e:k=0):g=0:=by
 cases h with
 |here=>exact e
 |@up n hm _=>have:=T.pos n hm;omega
theorem Und.inv{ns:List (Nd S)}(T:Tree1 ns){g k:Int}(a:Und ns g k){n:Nd S}(c:n∈ns)(e:k=n.num)(b:k≠g):Und ns g n.par:=by
 cases a with
 |here=>exact absurd rfl b
 |@up m hm hu =>
  have:m=n:=T.inj hm c e;subst this;exact hu
theorem tz{ns:List (Nd S)}(T:Tree1 ns){n:Nd S}(b:n∈ns):n.par=0\/∃m∈ns,m.st=none/\m.num=n.par:=by
 have:=T.down n b;cases this with
 |base _ a=>exact .inl a
 |@step m _ hr hf _ a=>exact .inr ⟨m,hr.mem,hf,a.symm⟩
theorem lH{ns:List (Nd S)}(T:Tree1 ns){g:Int}{n:Nd S}(a:Reach ns g n):Und ns g n.num/\∃p q,PathTo ns n.num (p++q)/\q≠[]/\PathTo ns g p:=by
 induction a with
 |@base n hm hp =>
  obtain⟨p,a⟩:=PathTo.ex T hm;obtain⟨q,e,b⟩:=a.inv T hm rfl;refine⟨.up hm (by rw[hp];exact .here),q,[n.nm],by rw[<-e];exact a,by simp,by rw[<-hp];exact b⟩
 |@step m n hr hf hm hp ih =>
  obtain⟨c,p,q,h1,h2,h3⟩:=ih;refine⟨.up hm (by rw[hp];exact c),p,q++[n.nm],?_,by simp,h3⟩;rw[<-append_assoc];exact .node hm (by rw[hp];exact h1)
theorem vj{ns:List (Nd S)}(T:Tree1 ns){g:Int}{n:Nd S}(a:Reach ns g n):n.num≠g:=by
 obtain⟨_,p,q,h1,h2,h3⟩:=lH T a;intro e;rw[e]at h1;have:=h1.uniq T h3;have b:=congrArg length this;rw[length_append]at b;have:q.length≠0:=λc=>h2<|length_eq_zero_iff.mp c;omega
theorem tD{ns:List (Nd S)}(T:Tree1 ns){g:Int}(q:1<=g):∀{k:Int}{p:List S},PathTo ns k p->∀{n:Nd S},n∈ns->k=n.num->Und ns g k->k≠g->Reach ns g n:=by
 intro k p h
 induction h with
 |top=>intro n a e;have:=T.pos n a;omega
 |@node m p hm hp ih =>
  intro n a e o j;have:m=n:=T.inj hm a e;subst this;have d:=o.inv T hm rfl j
  by_cases c:m.par=g
  ·exact .base hm c
  ·rcases tz T hm with f|⟨r,l,i,b⟩
   ·have:=d.zero T f;omega
   ·exact .step (ih l b.symm d c) i hm b.symm
theorem tE{ns:List (Nd S)}(T:Tree1 ns){g:Int}(b:1<=g){n:Nd S}(a:n∈ns):Reach ns g n↔n.num≠g/\Und ns g n.num:=by
 constructor
 ·intro h;exact⟨vj T h,(lH T h).1⟩
 ·rintro⟨h1,h2⟩;obtain⟨p,c⟩:=PathTo.ex T a;exact tD T b c a rfl h2 h1
end
end TW
namespace L2
open PySem PySem.Spec PyProof.Rows
section
variable{P:xx}{w:qq}{K:Frag}{mg:Str->Option zt}{base:qa}
theorem Fun.okX{x qual:Str}{st:Stmt}{f:zo}{a:xl}{N ps:List Str}{k:Nat}{sp:Sp}(F:Fun K x qual st f a)(S:FnScope N ps<|aj st)(g:∀vs H Q E,sp vs H Q E->vs.length=ps.length)(b:∀(cdv:zt) (A:xg) (outer:List Env) (s:zi) (H:Hp) (vs:List V) (Q:VK) (E:XK),Room k (A.deeper<|envOfC qual (aj st) s.heap.objs.size f cdv)->sp vs H Q E ->
   ∃t,PSs (fO (CX1 P w) P w K mg base N qual (aj st) f cdv A outer s H E) (aZ st) t/\t {nx:=λ_ H'=>Q .non H',rt:=Q} (start N vs) H):FnOk P w K mg base (CX1 P w) (k+1) f a ps sp:=by
 obtain⟨m,n,kV,l,pm,i,cdv,j,o,rfl,h,c⟩:=F.ex;exact ux h c S g λA outer s H vs Q E d e=>b cdv A outer s H vs Q E d e
theorem LcOk.mk'{X:Cx}{a:Scope}{cl:List (Str×zo)}(fs:List Str)(s:a.kind=.function)(o:closureFor a X.env=pure cl)(v:∀x∈a.names,x.2=.local->a.names.lookup x.1=some .local)(j:∀x∈a.names,x.2≠.cell)(p:∀y∈cl,X.env.cells.lookup y.1=some y.2)(r:cl.map (·.1)=fs)(n:a.names.all (λy=>!(y.2==.free)||fs.contains y.1)=true):LcOk X a cl:=by
 refine⟨s,o,v,j,λx c h=>p (x,c)<|PySem.mem_of_lookup h,λx h=>?_⟩;have d:∃k,(x,k)∈(relabel a X.env).names/\(k=.cell\/k=.free):=by
  rcases h with h|h
  ·exact⟨_,PySem.mem_of_lookup h,.inl rfl⟩
  ·exact⟨_,PySem.mem_of_lookup h,.inr rfl⟩
 obtain⟨k,d,t⟩:=d;unfold relabel at d;obtain⟨⟨y,k0⟩,f,e⟩:=mem_map.mp d;have q:x=y/\k0=.free:=by
  cases k0 with
  |free =>
   simp only at e
   split at e
   ·injection e with g b;exact⟨g.symm,rfl⟩
   ·injection e with g b;exact⟨g.symm,rfl⟩
  |cell=>exact absurd rfl<|j _ f
  |_ =>
   exfalso
   have b:k=_:=(congrArg Prod.snd e).symm;simp at b;rcases t with l|l<;>rw[l]at b<;>cases b
 obtain⟨rfl,rfl⟩:=q;have:=all_eq_true.mp n _ f;have i:fs.contains x=true:=by simpa using this
 rw[<-r]at i;have u:x∈cl.map (·.1):=List.contains_iff_mem.mp i;cases e:cl.lookup x with
 |some c=>exact⟨c,rfl⟩
 |none =>
  exfalso
  obtain⟨y,f,m⟩:=mem_map.mp u;have:=List.lookup_eq_none_iff.mp e y f;rw[m]at this;simp at this
end
end L2
namespace TK
open PySem L2
abbrev Nd:=TW.Nd Str
def stV:Option Int->V
 |none=>.non
 |some i=>.int i
def vals(n:Nd):List V:=[.int n.num,.int n.par,.str n.nm,stV n.st]
abbrev ZN:=List<|zo×Nd
def bg(zs:ZN):List V:=(zs.map (·.1)).map V.ref
def nds(zs:ZN):List Nd:=zs.map (·.2)
def At(H:Hp)(zs:ZN):Prop:=∀z∈zs,H z.1=some (.tup<|vals z.2)
theorem At.same{a H':Hp}{zs:ZN}(b:At a zs)(s:Same a H'):At H' zs:=λd c=>s _ _<|b d c
theorem cb(zs:ZN):(bg zs).length=zs.length:=by simp[bg]
theorem bh(zs:ZN):(nds zs).length=zs.length:=by simp[nds]
theorem di{zs:ZN}{i:Nat}{x:V}(h:(bg zs)[i]?=some x):∃z,zs[i]?=some z/\x=.ref z.1:=by
 unfold bg at h;rw[getElem?_map,getElem?_map]at h;cases e:zs[i]? with
 |none=>rw[e]at h;cases h
 |some z=>rw[e]at h;exact⟨z,rfl,(Option.some.inj h).symm⟩
theorem jM{zs:ZN}{i:Nat}{z:zo×Nd}(h:zs[i]?=some z):(bg zs)[i]?=some (.ref z.1):=by
 unfold bg;rw[getElem?_map,getElem?_map,h];rfl
theorem at0(n:Nd):atI (vals n) 0=some (.int n.num):=rfl
theorem at1(n:Nd):atI (vals n) 1=some (.int n.par):=rfl
theorem at2(n:Nd):atI (vals n) 2=some (.str n.nm):=rfl
theorem at3(n:Nd):atI (vals n) 3=some (stV n.st):=rfl
theorem Am{b:St}(c:b.length=1):∃a,b=[a]:=by
 match b,c with
 |[a],_=>exact⟨a,rfl⟩
theorem aW{n:Nat}(h:n<=1000):n<=sizeLine:=le_of_lt<|au h
theorem le2:2<=sizeLine:=aW (by decide)
theorem vk{A:xg}{k:Nat}(a:Room k A):A.units+4<cLine:=lt_of_le_of_lt (Nat.add_le_add_left (by decide:4<=64) _) a.units
def plK(n:Nd):List Key:=[.inl n.par,.inr n.nm]
def ins(zs:ZN)(k:Int):ZN:=zs.filter λz=>decide<|z.2.par=k
theorem rD(zs:ZN)(k:Int):nds (ins zs k)=TW.jL (nds zs) k:=by
 unfold nds ins TW.jL;rw[filter_map];rfl
theorem fg(zs:ZN)(z:zo×Nd)(k:Int):ins (zs++[z]) k=if z.2.par=k then ins zs k++[z]else ins zs k:=by
 unfold ins;rw[filter_append]
 by_cases h:z.2.par=k
 ·rw[if_pos h,filter_cons_of_pos (by simp[h])];rfl
 ·rw[if_neg h,filter_cons_of_neg (by simp[h])];simp
theorem ye{zs:ZN}{k:Int}{z:zo×Nd}(h:z∈ins zs k):z∈zs:=(mem_filter.mp h).1
theorem lI(zs:ZN)(z:zo×Nd):bg (zs++[z])=bg zs++[.ref z.1]:=by simp[bg]
structure Mem(H0 H:Hp)(d:zo)(L:Int->zo)(kvs:List<|Key×V)(xs:ZN)(dn:List Int):Prop where
 dict:H d=some (.dK kvs)
 d0:H0 d=none
 len:kvs.length<=xs.length
 val:∀k:Int,aO kvs (Sum.inl k:Key)=if k∈dn\/ins xs k=[]then none else some (.ref<|L k)
 at':∀k,k∉dn->ins xs k≠[]->H (L k)=some (.lst<|bg (ins xs k))/\H0 (L k)=none
 inj:∀k k',k∉dn->k'∉dn->ins xs k≠[]->ins xs k'≠[]->L k=L k'->k=k'
 same:Same H0 H
theorem Mem.grow{H0 H H':Hp}{d:zo}{L:Int->zo}{kvs:List (Key×V)}{xs:ZN}{dn:List Int}(m:Mem H0 H d L kvs xs dn)(s:Same H H'):Mem H0 H' d L kvs xs dn :=
 ⟨s _ _ m.dict,m.d0,m.len,m.val,λk h1 h2=>⟨s _ _ (m.at' k h1 h2).1,(m.at' k h1 h2).2⟩,m.inj,m.same.trans s⟩
theorem Mem.other{H0 c:Hp}{d p:zo}{f:Int->zo}{kvs:List (Key×V)}{xs:ZN}{dn:List Int}{j:List Int}{o:HO}(m:Mem H0 c d f kvs xs dn)(h:c p=some (.lst<|j.map V.int))(l:H0 p=none):Mem H0 (upd c p o) d f kvs xs dn:=by
 refine⟨?_,m.d0,m.len,m.val,λk h1 h2=>⟨?_,(m.at' k h1 h2).2⟩,m.inj,aC l m.same⟩
 ·rw[ae]
  ·exact m.dict
  ·intro e;have:=m.dict;rw[e,h]at this;cases this
 ·have b:=(m.at' k h1 h2).1;rw[ae]
  ·exact b
  ·intro e;rw[e,h]at b;injection b with b
   injection b with b
   have n:=h2;cases g:ins xs k with
   |nil=>exact h2 g
   |cons a r =>
    rw[g]at b;cases j with
    |nil=>simp[bg]at b
    |cons i q=>simp[bg]at b
theorem Mem.start{H0:Hp}{d:zo}(a:H0 d=none):Mem H0 (upd H0 d<|.dK []) d (λ_=>d) [] [] [] :=
 ⟨ac,a,by simp,λk=>by rw[if_pos<|.inr rfl];rfl,λk _ a=>absurd rfl a,λk b _ _ a=>absurd rfl a,ag a⟩
theorem Mem.hit{H0 g:Hp}{d:zo}{a:Int->zo}{kvs:List (Key×V)}{xs:ZN}{z:zo×Nd}(m:Mem H0 g d a kvs xs [])(f:ins xs z.2.par≠[]):
  Mem H0 (upd g (a z.2.par)<|.lst (bg (ins xs z.2.par)++[.ref z.1])) d a kvs (xs++[z]) []:=by
 have i:=(m.at' z.2.par (by simp) f);have l:d≠a z.2.par:=λe=>by
  have:=m.dict;rw[e,i.1]at this;cases this
 have b:∀k,ins (xs++[z]) k=[]↔ins xs k=[]:=λk=>by
  rw[fg]
  by_cases h:z.2.par=k
  ·rw[if_pos h];subst h;simp[f]
  ·rw[if_neg h]
 refine⟨by rw[ae l];exact m.dict,m.d0,by have:=m.len;simp;omega,λk=>?_,λk h1 h2=>?_,λk j _ _ h2 h3 e=>m.inj k j (by simp) (by simp) (λh=>h2<|(b k).mpr h) (λh=>h3<|(b j).mpr h) e,aC i.2 m.same⟩
 ·rw[m.val k];simp only[b k]
 ·have c:ins xs k≠[]:=λh=>h2<|(b k).mpr h;refine⟨?_,(m.at' k h1 c).2⟩
  by_cases h:z.2.par=k
  ·subst h;rw[ac,fg,if_pos rfl,lI]
  ·rw[ae,fg,if_neg h]
   ·exact(m.at' k h1 c).1
   ·intro e;exact h<|m.inj _ _ (by simp) (by simp) f c e.symm
theorem Mem.fresh{H0 i:Hp}{d q:zo}{c:Int->zo}{kvs:List (Key×V)}{xs:ZN}{z:zo×Nd}(m:Mem H0 i d c kvs xs [])(o:ins xs z.2.par=[])(f:i q=none):
  Mem H0 (upd (upd (upd i q<|.lst []) d<|.dK (cf kvs (Sum.inl z.2.par:Key)<|.ref q)) q<|.lst ([]++[.ref z.1])) d (λk=>if k=z.2.par then q else c k) (cf kvs (Sum.inl z.2.par:Key)<|.ref q) (xs++[z]) []:=by
 have n:d≠q:=λe=>by
  have:=m.dict;rw[e,f]at this;cases this
 have g:∀k,ins xs k≠[]->c k≠q:=λk h e=>by
  have:=(m.at' k (by simp) h).1;rw[e,f]at this;cases this
 have ld:∀k,ins xs k≠[]->c k≠d:=λk h e=>by
  have:=(m.at' k (by simp) h).1;rw[e,m.dict]at this;cases this
 have l:H0 q=none:=m.same.free f;have a:∀k,k≠z.2.par->ins (xs++[z]) k=ins xs k:=λk h=>by rw[fg,if_neg λe=>h e.symm]
 have j:ins (xs++[z]) z.2.par=[z]:=by rw[fg,if_pos rfl,o];rfl
 refine⟨by rw[ae n,ac],m.d0,?_,λk=>?_,λk h1 h2=>?_,λk b _ _ h2 h3 e=>?_,?_⟩
 ·have h1:=m.len;have h2:=cF kvs (Sum.inl z.2.par:Key)<|.ref q;rw[length_append,length_singleton];omega
 ·rw[nQ]
  by_cases h:k=z.2.par
  ·subst h;rw[if_pos rfl,if_neg (by rw[j];simp),if_pos rfl]
  ·rw[if_neg λe=>h<|Sum.inl.inj e,m.val k,a k h,if_neg h]
 ·by_cases h:k=z.2.par
  ·subst h;simp only[if_true];exact⟨by rw[ac,j];rfl,l⟩
  ·rw[a k h]at h2;simp only[if_neg h];refine⟨?_,(m.at' k h1 h2).2⟩;rw[ae<|g k h2,ae<|ld k h2,ae<|g k h2,a k h];exact(m.at' k h1 h2).1
 ·by_cases h:k=z.2.par
  ·by_cases h':b=z.2.par
   ·rw[h,h']
   ·rw[a b h']at h3;simp only[if_pos h,if_neg h']at e;exact absurd e.symm<|g b h3
  ·rw[a k h]at h2
   by_cases h':b=z.2.par
   ·simp only[if_neg h,if_pos h']at e;exact absurd e<|g k h2
   ·rw[a b h']at h3;simp only[if_neg h,if_neg h']at e;exact m.inj k b (by simp) (by simp) h2 h3 e
 ·exact aC l<|aC m.d0 (m.same.trans<|ag f)
theorem tF{κ:Type}[DecidableEq κ](kvs:List<|κ×V)(k j:κ):aO (cO kvs k) j=if j=k then none else aO kvs j:=by
 induction kvs with
 |nil=>simp[cO,aO]
 |cons p r b =>
  by_cases e:p.1=k
  ·rw[sN e,b]
   by_cases h:j=k
   ·rw[if_pos h,if_pos h]
   ·rw[if_neg h,if_neg h,aK λa=>h<|a.symm.trans e]
  ·rw[sO e]
   by_cases h:p.1=j
   ·rw[aV h,if_neg λa=>e<|h.trans a,aV h]
   ·rw[aK h,b,aK h]
theorem Mem.drop{H0 f:Hp}{d:zo}{b:Int->zo}{kvs:List (Key×V)}{xs:ZN}{dn:List Int}(m:Mem H0 f d b kvs xs dn)(x:Int):Mem H0 (upd f d<|.dK (cO kvs (Sum.inl x:Key))) d b (cO kvs (Sum.inl x:Key)) xs (x::dn):=by
 have ld:∀k,k∉dn->ins xs k≠[]->b k≠d:=λk c h e=>by
  have:=(m.at' k c h).1;rw[e,m.dict]at this;cases this
 have a:∀k,k∉x::dn->k∉dn:=λk h h'=>h<|mem_cons_of_mem _ h';refine⟨ac,m.d0,le_trans (nS _ _) m.len,λk=>?_,λk h1 h2=>?_,λk g c h1 h2 h3 e=>m.inj k g (a k c) (a g h1) h2 h3 e,aC m.d0 m.same⟩
 ·rw[tF,m.val k]
  by_cases h:k=x
  ·rw[if_pos (by rw[h]),if_pos<|.inl (by rw[h];simp)]
  ·rw[if_neg λe=>h<|Sum.inl.inj e];simp[h]
 ·rw[ae<|ld k (a k h1) h2];exact m.at' k (a k h1) h2
theorem Mem.skip{H0 b:Hp}{d:zo}{c:Int->zo}{kvs:List (Key×V)}{xs:ZN}{dn:List Int}(m:Mem H0 b d c kvs xs dn){x:Int}(i:x∈dn\/ins xs x=[]):Mem H0 b d c kvs xs (x::dn):=by
 have a:∀k,k∉x::dn->k∉dn:=λk h h'=>h<|mem_cons_of_mem _ h';refine⟨m.dict,m.d0,m.len,λk=>?_,λk h1 h2=>m.at' k (a k h1) h2,λk f g h1 h2 h3 e=>m.inj k f (a k g) (a f h1) h2 h3 e,m.same⟩;rw[m.val k]
 by_cases h:k=x
 ·subst h;rw[if_pos i,if_pos<|.inl (by simp)]
 ·simp[h]
theorem vm{Q:VK}{H0 b:Hp}{d q:zo}{g:Int->zo}{kvs:List (Key×V)}{zs:ZN}{dn:List Int}{x:Int}(m:Mem H0 b d g kvs zs dn)(o:b q=some (.lst []))(k:∀j f s i,Mem H0 f d g s zs (x::dn)->f j=some (.lst<|bg i)->nds i=TW.here (nds zs) dn x->(∀z∈i,z∈zs)->(∀p,p≠d->f p=b p)->(i=[]->j=q)->Q (.ref j) f):
  ∃kvs k,b d=some (.dK kvs)/\V.int x=kV k/\(∀v,aO kvs k=some v->Q v (upd b d<|.dK (cO kvs k)))/\(aO kvs k=none->Q (.ref q) b):=by
 refine⟨kvs,.inl x,m.dict,rfl,λv c=>?_,λl=>?_⟩
 ·rw[m.val x]at c
  by_cases h:x∈dn\/ins zs x=[]
  ·rw[if_pos h]at c;cases c
  ·rw[if_neg h]at c;have h1:x∉dn:=λz=>h<|.inl z;have h2:ins zs x≠[]:=λz=>h<|.inr z;cases c;have a:=(m.at' x h1 h2).1;have ld:g x≠d:=λe=>by rw[e,m.dict]at a;cases a
   refine k (g x) _ _ (ins zs x) (m.drop x) (by rw[ae ld];exact a) ?_ (λz r=>ye r) (λp n=>ae n) λe=>absurd e h2;rw[rD];unfold TW.here;rw[if_neg h1]
 ·rw[m.val x]at l
  by_cases h:x∈dn\/ins zs x=[]
  ·refine k q _ _ [] (m.skip h) o ?_ (by simp) (λp _=>rfl) λ_=>rfl;unfold TW.here
   by_cases h1:x∈dn
   ·rw[if_pos h1];rfl
   ·rw[if_neg h1];rcases h with h|h
    ·exact absurd h h1
    ·rw[<-rD,h]
  ·rw[if_neg h]at l;cases l
theorem rE{d:Hp}{p f:zo}{c:ZN}{g:List Int}(j:d p=some (.lst<|g.map V.int))(b:d f=some (.lst<|bg c))(h:c≠[]):f≠p:=by
 intro e;rw[e,j]at b;injection b with b
 injection b with b
 cases c with
 |nil=>exact h rfl
 |cons a r =>
  cases g with
  |nil=>simp[bg]at b
  |cons i k=>simp[bg]at b
def hJ(H:Hp)(p:zo):Nat:=match H p with
 |some (.lst xs)=>xs.length
 |_=>0
theorem dQ{H:Hp}{p:zo}{xs:List V}(h:H p=some (.lst xs)):hJ H p=xs.length:=by unfold hJ;rw[h]
def dR(l:List Nd):List V:=(l.map (·.num)).map V.int
def jN(K:Frag)(H:Hp)(a:zo):Prop:=∃ns:List Int,SqL K H a<|ns.map V.int
theorem jN.same{K:Frag}{H H':Hp}{a:zo}(h:jN K H a)(s:Same H H'):jN K H' a:=let⟨ns,e⟩:=h;⟨ns,s.seq e⟩
theorem oB{ns:List Int}{i:Int}(a:0<=i)(b:i<ns.length):∃j,atI (ns.map V.int) i=some (.int j):=by
 refine⟨ns[i.toNat]'(by omega),?_⟩;have:=ml (xs:=ns.map V.int) (j:=i.toNat) (v:=.int<|ns[i.toNat]'(by omega)) (by rw[getElem?_map,getElem?_eq_getElem (by omega)];rfl);rw[show((i.toNat:Nat):Int)=i by omega]at this;exact this
def Has(P:xx)(w:qq)(K:Frag)(mg:Str->Option zt)(base:qa)(k:Nat)(x:Str)(ps:List Str)(sp:Sp):Prop:=∃f fd,FnOk P w K mg base CX0 k f fd ps sp/\mg x=some (.ref f)/\keepIn K (.ref f)=true/\aE K fd ps []
def An(n:Nd):Prop:=1<=n.num/\n.num<=12/\(n.nm="a"\/n.nm="b"\/n.nm="c"\/n.nm="abcde")/\(n.st=none\/n.st=some 0\/n.st=some 1\/n.st=some 2\/n.st=some 999)
structure Bd(zs:ZN)(lf:List Int):Prop where
 built:TW.Built<|nds zs
 nd:((nds zs).map (·.num)++lf).Nodup
 rng:∀x∈lf,1<=x/\x<=12
 own:TW.eE<|nds zs
 ok:∀z∈zs,An z.2
theorem Bd.skip{zs:ZN}{a:List Int}(b:Bd zs a)(i:Nat):Bd zs (a.eraseIdx i) :=
 ⟨b.built,Nodup.sublist (Sublist.append (Sublist.refl _)<|List.eraseIdx_sublist a i) b.nd,λx c=>b.rng x<|(List.eraseIdx_sublist a i).mem c,b.own,b.ok⟩
theorem jO:∀{l:List Int}{i:Nat}{x:Int},l[i]?=some x->(x::l.eraseIdx i).Perm l
 |a::l,0,x,h=>by
  have:a=x:=by simpa using h
  subst this;exact List.Perm.refl _
 |a::l,i+1,x,h=>by
  have h':l[i]?=some x:=by simpa using h
  exact(List.Perm.swap a x _).trans (List.Perm.cons a<|jO h')
 |[],i,x,h=>by simp at h
theorem Bd.add{zs:ZN}{a:List Int}{i:Nat}{q:zo}{n:Nd}(b:Bd zs a)(f:a[i]?=some n.num)(r:n.par∈(0:Int)::TW.aD (nds zs))(p:∀z∈zs,¬(z.2.par=n.par/\z.2.nm=n.nm))(k:n.nm="a"\/n.nm="b"\/n.nm="c"\/n.nm="abcde")(l:n.st=none\/n.st=some 0\/n.st=some 1\/n.st=some 2\/n.st=some 999):Bd (zs++[(q,n)]) (a.eraseIdx i):=by
 have e:nds (zs++[(q,n)])=nds zs++[n]:=by simp[nds]
 have pm:=jO f;refine⟨?_,?_,λx c=>b.rng x<|(List.eraseIdx_sublist a i).mem c,?_,λz d=>?_⟩
 ·rw[e];refine .snoc b.built ?_;rcases mem_cons.mp r with h|h
  ·exact .inl h
  ·exact .inr<|TW.iT.mp h
 ·rw[e,map_append,append_assoc];exact((List.Perm.append_left _ pm).nodup_iff).mpr b.nd
 ·rw[e];unfold TW.eE;rw[map_append,nodup_append];refine⟨b.own,by simp,λx c y s=>?_⟩;have g:y=(n.par,n.nm):=by simpa using s
  subst g;obtain⟨m,o,rfl⟩:=mem_map.mp c;obtain⟨z,d,rfl⟩:=mem_map.mp o;intro h;injection h with h1 h2
  exact p z d ⟨h1,h2⟩
 ·rcases mem_append.mp d with h|h
  ·exact b.ok z h
  ·have j:z=(q,n):=by simpa using h
   subst j;have:=b.rng n.num<|mem_of_getElem? f;exact⟨this.1,this.2,k,l⟩
def tp(z:zo×Nd):kR:=(z.1,z.2.num,[.int z.2.par,.str z.2.nm,stV z.2.st])
def un(t:kR):zo×Nd:=(t.1,match t.2.2 with
 |[.int p,.str s,.int i]=>⟨t.2.1,p,s,some i⟩
 |[.int p,.str s,_]=>⟨t.2.1,p,s,none⟩
 | _=>⟨0,0,"",none⟩)
theorem zu(z:zo×Nd):un (tp z)=z:=by
 obtain⟨a,⟨n,p,s,st⟩⟩:=z;cases st<;>rfl
theorem back{zs:ZN}{ts:List kR}(b:ts.Perm<|zs.map tp):(ts.map un).Perm zs/\(ts.map un).map tp=ts:=by
 constructor
 ·have:=b.map un;rw[map_map]at this;have e:zs.map (un∘tp)=zs.map id:=map_congr_left λa _=>zu a;rw[e,List.map_id]at this;exact this
 ·rw[map_map,map_congr_left (g:=id)]
  ·simp
  ·intro t c;obtain⟨a,_,rfl⟩:=mem_map.mp<|b.mem_iff.mp c;show tp (un<|tp a)=tp a;rw[zu]
theorem rF(zs:ZN):((zs.map tp).map (·.1)).map V.ref=bg zs:=by
 unfold bg;simp only[map_map];rfl
theorem Ao{n:Nat}{j:Int}(a:0<=j)(b:j<n):seqIndex? j n=some j.toNat:=(qW (by unfold ixN;rw[if_pos a,if_pos b])).1
theorem lJ:∀(l:List Int)(i:Nat),(l.map V.int).eraseIdx i=(l.eraseIdx i).map V.int
 |[],i=>by simp
 |a::l,0=>rfl
 |a::l,i+1=>by
  show V.int a::(l.map V.int).eraseIdx i=V.int a::(l.eraseIdx i).map V.int;rw[lJ l i]
theorem yf{ns:List Int}{i:Int}(a:0<=i)(b:i<ns.length):∃x∈ns,atI (ns.map V.int) i=some (.int x):=by
 refine⟨ns[i.toNat]'(by omega),getElem_mem _,?_⟩;have:=ml (xs:=ns.map V.int) (j:=i.toNat) (v:=.int<|ns[i.toNat]'(by omega)) (by rw[getElem?_map,getElem?_eq_getElem (by omega)];rfl);rw[show((i.toNat:Nat):Int)=i by omega]at this;exact this
theorem yg{j:Int}(a:0<=j)(b:j<4):∃x:Str,(x="a"\/x="b"\/x="c"\/x="abcde")/\atI [V.str "a",.str "b",.str "c",.str "abcde"] j=some (.str x):=by
 obtain rfl|rfl|rfl|rfl:j=0\/j=1\/j=2\/j=3:=by omega
 ·exact⟨"a",.inl rfl,rfl⟩
 ·exact⟨"b",.inr<|.inl rfl,rfl⟩
 ·exact⟨"c",.inr<|.inr (.inl rfl),rfl⟩
 ·exact⟨"abcde",.inr<|.inr (.inr rfl),rfl⟩
theorem yh{j:Int}(a:0<=j)(b:j<4):∃i:Int,(some i=none\/some i=some (0:Int)\/some i=some 1\/some i=some 2\/some i=some 999)/\atI [V.int 0,.int 1,.int 2,.int 999] j=some (.int i):=by
 obtain rfl|rfl|rfl|rfl:j=0\/j=1\/j=2\/j=3:=by omega
 ·exact⟨0,.inr<|.inl rfl,rfl⟩
 ·exact⟨1,.inr<|.inr (.inl rfl),rfl⟩
 ·exact⟨2,.inr<|.inr (.inr<|.inl rfl),rfl⟩
 ·exact⟨999,.inr<|.inr (.inr<|.inr rfl),rfl⟩
structure Sta(H:Hp)(pl pf pn:zo)(Hx:Hp)(lf fs:List Int)(zs:ZN):Prop where
 same:Same H Hx
 l:Hx pl=some (.lst<|lf.map V.int)
 f:Hx pf=some (.lst<|fs.map V.int)
 n:Hx pn=some (.lst<|bg zs)
 nd:At Hx zs
 l0:H pl=none
 f0:H pf=none
 n0:H pn=none
 lf':pl≠pf
 ln':pl≠pn
 fn':pf≠pn
theorem Sta.grow{b c d:Hp}{pl g pn:zo}{e fs:List Int}{zs:ZN}(a:Sta b pl g pn c e fs zs)(s:Same c d):Sta b pl g pn d e fs zs :=
 ⟨a.same.trans s,s _ _ a.l,s _ _ a.f,s _ _ a.n,a.nd.same s,a.l0,a.f0,a.n0,a.lf',a.ln',a.fn'⟩
theorem At.over{a:Hp}{p:zo}{xs:List V}{o:HO}{zs:ZN}(b:At a zs)(f:a p=some (.lst xs)):At (upd a p o) zs:=λd c=>by
 rw[ae]
 ·exact b d c
 ·intro e;have:=b d c;rw[e,f]at this;cases this
theorem Sta.pop{b c:Hp}{pl e pn:zo}{g fs:List Int}{zs:ZN}(a:Sta b pl e pn c g fs zs)(d:List Int):Sta b pl e pn (upd c pl<|.lst (d.map V.int)) d fs zs :=
 ⟨aC a.l0 a.same,ac,by rw[ae<|Ne.symm a.lf'];exact a.f,by rw[ae<|Ne.symm a.ln'];exact a.n,a.nd.over a.l,a.l0,a.f0,a.n0,a.lf',a.ln',a.fn'⟩
theorem Sta.fold{c d:Hp}{pl b pn:zo}{e fs:List Int}{zs:ZN}(a:Sta c pl b pn d e fs zs)(x:Int):Sta c pl b pn (upd d b<|.lst (fs.map V.int++[.int x])) e (fs++[x]) zs :=
 ⟨aC a.f0 a.same,by rw[ae a.lf'];exact a.l,by rw[ac];simp,by rw[ae<|Ne.symm a.fn'];exact a.n,a.nd.over a.f,a.l0,a.f0,a.n0,a.lf',a.ln',a.fn'⟩
theorem Sta.node{d b:Hp}{pl i pn q:zo}{g fs:List Int}{zs:ZN}{n:Nd}(a:Sta d pl i pn b g fs zs)(c:b q=some (.tup<|vals n)):Sta d pl i pn (upd b pn<|.lst (bg zs++[.ref q])) g fs (zs++[(q,n)]) :=
 ⟨aC a.n0 a.same,by rw[ae a.ln'];exact a.l,by rw[ae a.fn'];exact a.f,by rw[ac,lI],(λj o=>by
  rcases mem_append.mp o with h|h
  ·exact a.nd.over a.n j h
  ·have m:j=(q,n):=by simpa using h
   subst m;rw[ae]
   ·exact c
   ·intro e;have k:q=pn:=e;rw[k,a.n]at c;cases c),a.l0,a.f0,a.n0,a.lf',a.ln',a.fn'⟩
def lf0(m:Int):List Int:=(List.range (m+4-1).toNat).map λk=>(1:Int)+(k:Nat)
theorem yi{m:Int}(h:0<=m):((lf0 m).length:Int)=m+3:=by unfold lf0;rw[length_map,length_range];omega
theorem yj{m:Int}(c:m<=9):∀x∈lf0 m,1<=x/\x<=12:=λx a=>by
 unfold lf0 at a;obtain⟨k,b,rfl⟩:=mem_map.mp a;have:=mem_range.mp b;omega
theorem Ap(m:Int):(lf0 m).Nodup:=by
 unfold lf0 Nodup;rw[pairwise_map];exact nodup_range.imp λh e=>h (by omega)
theorem Bd.zero{m:Int}(h:m<=9):Bd [] (lf0 m):=⟨.nil,by show(([]:List Int)++lf0 m).Nodup;rw[nil_append];exact Ap m,yj h,by unfold TW.eE nds;simp,by simp⟩
def cN(zs:ZN):List (Key×V):=zs.map λz=>((Sum.inl z.2.num:Key),V.ref z.1)
theorem mJ{zs:ZN}(c:((nds zs).map (·.num)).Nodup){z:zo×Nd}(hz:z∈zs):aO (cN zs) (Sum.inl z.2.num:Key)=some (.ref z.1):=by
 induction zs with
 |nil=>simp at hz
 |cons y zs d =>
  have a:y.2.num∉(nds zs).map (·.num)/\((nds zs).map (·.num)).Nodup:=by simpa [nds]using c
  show aO (((Sum.inl y.2.num:Key),V.ref y.1)::cN zs) _=_;rcases mem_cons.mp hz with e|b
  ·subst e;exact aV rfl
  ·rw[aK]
   ·exact d a.2 b
   ·intro e;injection e with e
    exact a.1<|mem_map.mpr ⟨z.2,mem_map.mpr ⟨z,b,rfl⟩,e.symm⟩
theorem qj{zs:ZN}{k:Int}(a:∀z∈zs,z.2.num≠k):aO (cN zs) (Sum.inl k:Key)=none:=by
 induction zs with
 |nil=>rfl
 |cons y zs c =>
  show aO (((Sum.inl y.2.num:Key),V.ref y.1)::cN zs) _=_;rw[aK]
  ·exact c λz b=>a z<|mem_cons_of_mem _ b
  ·intro e;injection e with e
   exact a y (by simp) e
def jP(H:Hp)(d:zo)(zs:ZN):Prop:=∃o,H d=some (.frz o<|.dK (cN zs))
theorem jP.same{H H':Hp}{d:zo}{zs:ZN}(h:jP H d zs)(s:Same H H'):jP H' d zs:=let⟨o,e⟩:=h;⟨o,s _ _ e⟩
theorem jP.get{a:Hp}{d:zo}{zs:ZN}(b:jP a d zs)(c:((nds zs).map (·.num)).Nodup){z:zo×Nd}(hz:z∈zs):cM a d (.int z.2.num) (some<|.ref z.1):=by
 obtain⟨o,e⟩:=b;exact .inl ⟨cN zs,Sum.inl z.2.num,.inr ⟨o,e⟩,rfl,(mJ c hz).symm⟩
theorem jP.not{a:Hp}{d:zo}{zs:ZN}(b:jP a d zs){k:Int}(c:∀z∈zs,z.2.num≠k):cM a d (.int k) none:=by
 obtain⟨o,e⟩:=b;exact .inl ⟨cN zs,Sum.inl k,.inr ⟨o,e⟩,rfl,(qj c).symm⟩
theorem cB{ns:List Nd}(T:TW.Tree1 ns):(ns.map (·.num)).Nodup:=by
 have h:=T.rise;unfold TW.oz at h;unfold Nodup;rw[pairwise_map];exact h.imp λh e=>by omega
theorem yk{ys:List V}{zs:ZN}{e:Hp}{p:zo}{g:zo×Nd->List V}(d:ys.length=zs.length)(f:∀(i:Nat) y,ys[i]?=some y->∃q z,zs[i]?=some z/\y=.ref q/\q≠p/\e q=some (.tup<|g z)):
  ∃b:List<|zo×(zo×Nd),b.map (·.2)=zs/\ys=(b.map (·.1)).map V.ref/\∀a∈b,a.1≠p/\e a.1=some (.tup<|g a.2):=by
 induction ys generalizing zs with
 |nil =>
  have:zs=[]:=length_eq_zero_iff.mp d.symm;subst this;exact⟨[],rfl,rfl,by simp⟩
 |cons y ys s =>
  cases zs with
  |nil=>simp at d
  |cons z zs =>
   obtain⟨b,h,j,k⟩:=s (zs:=zs) (by simpa using d) λi x r=>by simpa using f (i+1) x (by simpa using r)
   obtain⟨q,z',l,m,n,o⟩:=f 0 y rfl;have:z=z':=by simpa using l
   subst this;refine⟨(q,z)::b,by simp[h],by simp[j,m],λa c=>?_⟩;rcases mem_cons.mp c with rfl|c
   ·exact⟨n,o⟩
   ·exact k a c
theorem oC{κ:Type}[DecidableEq κ]{kvs:List (κ×V)}(c:(kvs.map (·.1)).Nodup){k:κ}{v:V}(a:(k,v)∈kvs):aO kvs k=some v:=by
 induction kvs with
 |nil=>simp at a
 |cons y kvs d =>
  have b:y.1∉kvs.map (·.1)/\(kvs.map (·.1)).Nodup:=by simpa using c
  rcases mem_cons.mp a with e|h'
  ·subst e;exact aV rfl
  ·rw[aK]
   ·exact d b.2 h'
   ·intro e;exact b.1<|mem_map.mpr ⟨_,h',e.symm⟩
theorem rG{κ:Type}[DecidableEq κ]{kvs:List (κ×V)}{k:κ}(a:k∉kvs.map (·.1)):aO kvs k=none:=by
 induction kvs with
 |nil=>rfl
 |cons y kvs b =>
  have h':¬k=y.1/\k∉kvs.map (·.1):=by simpa using a
  rw[aK λe=>h'.1 e.symm];exact b h'.2
theorem ym{zs:ZN}{k:Int}{q:List Str}(T:TW.Tree1<|nds zs)(a:TW.PathTo (nds zs) k q)(b:k≠0):∃z∈zs,z.2.num=k/\∃q',q=q'++[z.2.nm]/\TW.PathTo (nds zs) z.2.par q':=by
 cases a with
 |top=>exact absurd rfl b
 |@node n q' hm hq' =>
  obtain⟨z,c,rfl⟩:=mem_map.mp hm;exact⟨z,c,rfl,q',rfl,hq'⟩
def vp(P:xx)(w:qq)(K:Frag)(mg:Str->Option zt)(base:qa)(k:Nat)(x:Str)(ps:List Str)(sp:Sp):Prop:=∃f fd,FnOk P w K mg base (CX1 P w) k f fd ps sp/\mg x=some (.ref f)/\keepIn K (.ref f)=true/\aE K fd ps []
structure Tre(H:Hp)(t:zo)(zs:ZN):Prop where
 tup:H t=some (.tup<|bg zs)
 nod:At H zs
 tr:TW.Tree1<|nds zs
 len:zs.length<=30
theorem Tre.same{H H':Hp}{t:zo}{zs:ZN}(h:Tre H t zs)(s:Same H H'):Tre H' t zs:=⟨s _ _ h.tup,h.nod.same s,h.tr,h.len⟩
theorem tG{ns:List Nd}(T:TW.Tree1 ns){f:Int}{b:List Int}{a:List Nd}(c:TW.Walk ns f b a []):(a.map (·.num)).Nodup:=by
 have h:=cB T;have:(a.map (·.num)).Perm ((ns.filter<|TW.eS b).map (·.num)):=c.perm.map _;exact this.nodup_iff.mpr<|h.sublist (filter_sublist.map _)
theorem _root_.L2.Same.rd{H H':Hp}(s:Same H H'){a:zo}{u:HO}(r:Rd H a u):Rd H' a u:=by
 rcases r with r|⟨o,r⟩
 ·exact .inl<|s _ _ r
 ·exact .inr ⟨o,s _ _ r⟩
def gc(b:List<|zo×(zo×Nd)):List (Key×V):=b.map λa=>((Sum.inl a.2.2.num:Key),V.ref a.1)
def ba(n:Nd):List V:=[.int n.par,.str n.nm,stV n.st]
structure Book(H:Hp)(d:zo)(as:List<|zo×(zo×Nd))(zs:ZN):Prop where
 dict:Rd H d<|.dK (gc as)
 of:as.map (·.2)=zs
 at':∀a∈as,H a.1=some (.tup<|ba a.2.2)
theorem Book.same{c H':Hp}{d:zo}{e:List (zo×(zo×Nd))}{zs:ZN}(b:Book c d e zs)(s:Same c H'):Book H' d e zs:=⟨s.rd b.dict,b.of,λa f=>s _ _<|b.at' a f⟩
theorem gy{a:List (zo×(zo×Nd))}{zs:ZN}(b:a.map (·.2)=zs):(gc a).map (·.1)=((nds zs).map (·.num)).map (Sum.inl:Int->Key):=by
 rw[<-b];unfold gc nds;simp only[map_map];rfl
theorem vq{b:List (zo×(zo×Nd))}{zs:ZN}(a:b.map (·.2)=zs)(c:((nds zs).map (·.num)).Nodup):((gc b).map (·.1)).Nodup:=by
 rw[gy a];unfold Nodup at c|-;rw[pairwise_map];exact c.imp λa e=>a (by injection e)
theorem Book.get{c:Hp}{d:zo}{e:List (zo×(zo×Nd))}{zs:ZN}(b:Book c d e zs)(g:((nds zs).map (·.num)).Nodup){z:zo×Nd}(hz:z∈zs):∃q,cM c d (.int z.2.num) (some<|.ref q)/\c q=some (.tup<|ba z.2):=by
 have:z∈e.map (·.2):=by rw[b.of];exact hz
 obtain⟨a,f,rfl⟩:=mem_map.mp this;refine⟨a.1,.inl ⟨gc e,Sum.inl a.2.2.num,b.dict,rfl,?_⟩,b.at' a f⟩;exact(oC (vq b.of g)<|mem_map.mpr ⟨a,f,rfl⟩).symm
theorem Book.not{a:Hp}{d:zo}{c:List (zo×(zo×Nd))}{zs:ZN}(b:Book a d c zs){k:Int}(g:∀z∈zs,z.2.num≠k):cM a d (.int k) none:=by
 refine .inl ⟨gc c,Sum.inl k,b.dict,rfl,(rG λf=>?_).symm⟩;rw[gy b.of]at f;obtain⟨i,hi,e⟩:=mem_map.mp f;obtain⟨n,h,rfl⟩:=mem_map.mp hi;obtain⟨z,j,rfl⟩:=mem_map.mp h;injection e with e
 exact g z j e
abbrev vt(x:Str)(mg:Str->Option zt)(base:qa)(C:zo):Prop:=PyProof.Rows.OwnCls x C bmV "ValueError.__new__" mg base
theorem fi(zs:ZN):zs.map (λz=>V.ref z.1)=bg zs:=by simp[bg]
theorem bc{zs:ZN}{z:zo×Nd}(h:z∈zs):z.2∈nds zs:=mem_map.mpr ⟨z,h,rfl⟩
theorem mK{zs:ZN}{n:Nd}(h:n∈nds zs):∃z∈zs,z.2=n:=mem_map.mp h
def rH(bs:List<|zo×Nd):List (Key×V):=bs.map λb=>((Sum.inl b.2.num:Key),V.ref b.1)
theorem tH{bs:List (zo×Nd)}(a:(bs.map (·.2.num)).Nodup){b:zo×Nd}(c:b∈bs):aO (rH bs) (Sum.inl b.2.num:Key)=some (.ref b.1):=by
 refine oC ?_<|mem_map.mpr ⟨b,c,rfl⟩;unfold rH;rw[map_map];unfold Nodup at a|-;rw[pairwise_map]at a|-;exact a.imp λh e=>h (by injection e)
def top(i:Nat):Stmt:=PySem.Challenge.pw_treewatch_k91_whole_told_lists.main.body.getD i<|.Pass ⟨0,0,0,0⟩
abbrev eF:Stmt:=fA (top 27) 0
abbrev dD:Stmt:=fA (top 27) 1
abbrev fj:Stmt:=fA (top 27) 3
abbrev eG:Stmt:=fA (top 27) 6
abbrev dE:Stmt:=fA (top 27) 9
abbrev dF:Stmt:=fA (top 27) 13
abbrev vw:Stmt:=top 10
abbrev Aq:Stmt:=top 11
abbrev vx:Stmt:=top 12
abbrev Ar:Stmt:=top 13
abbrev As:Stmt:=top 14
abbrev Au:Stmt:=top 15
abbrev Av:Stmt:=top 16
abbrev yn:Stmt:=top 17
abbrev cp:Stmt:=top 19
abbrev cw:Stmt:=top 20
abbrev aI:Stmt:=top 21
abbrev bV:Stmt:=top 23
abbrev cx:Stmt:=top 24
abbrev cR:Stmt:=top 25
abbrev hO:Stmt:=top 29
abbrev bW:Stmt:=top 30
abbrev be:Stmt:=top 31
abbrev aT:Stmt:=top 32
abbrev vz:Stmt:=top 34
abbrev vA:Stmt:=top 35
abbrev iC:Stmt:=top 36
abbrev cJ:Stmt:=top 37
abbrev tI:Stmt:=top 38
structure Txt(mg:Str->Option zt):Prop where
 isin:mg "isinstance"=none
 dict:mg "dict"=none
 len:mg "len"=none
 tuple:mg "tuple"=none
 list:mg "list"=none
 range:mg "range"=none
 sorted:mg "sorted"=none
 reversed:mg "reversed"=none
 ValueError:mg "ValueError"=none
 str:mg "str"=none
 set:mg "set"=none
 max:mg "max"=none
 min:mg "min"=none
 sum:mg "sum"=none
 zip:mg "zip"=none
 enumerate:mg "enumerate"=none
 all:mg "all"=none
 int:mg "int"=none
 bool:mg "bool"=none
 top:∃t,mg "TOP"=some (.int 0 t)
 letters:∃t,mg "LETTERS"=some (.str "abcdefghijklmnopqrstuvwxyz" t)
 longest:∃t,mg "LONGEST_NAME"=some (.int 5 t)
end TK
namespace TB
open PySem PySem.SetTable
theorem tJ{t:SetTable}{l:List Nat}(T:Tb t l)(mk:Mk t.mask)(n:l.length<=t.mask)(a:Int):∃j,t.freeSlot a=some (j,false)/\j∉l/\j<=t.mask:=by
 obtain⟨v,h,k⟩:=pY t.mask l n;obtain⟨r,u,d⟩:=cover mk.cyc a h;obtain⟨N,s,b,f⟩:=uK (λm=>pos t.mask a m∉l) r (by rw[d];exact k);have p:=nZ t (λ_=>a+1) a N (st t.mask a) (10*turns t.mask) (by omega) (λm o=>by
  have g:pos t.mask a m∈l:=by
   by_cases c:pos t.mask a m∈l
   ·exact c
   ·exact(f m o c).elim
  obtain⟨i,hi,e⟩:=mem_iff_getElem.mp g;exact⟨i,xP T (by show l[i]?=some (pos t.mask a m);rw[getElem?_eq_getElem hi,e]),by rw[beq_eq_false_iff_ne];omega⟩)<|uL T b
 refine⟨pos t.mask a N,?_,b,jC _ _ _⟩;unfold SetTable.freeSlot;have q:t.probe (λ_=>a+1) a (t.probeStart a)=some (.empty (pos t.mask a N) none):=p;rw[q];rfl
theorem yo{t:SetTable}{l:List Nat}(T:Tb t l)(mk:Mk t.mask)(o:l.length+1<=t.mask)(b:Array<|Int×zt)(j:b.size=l.length)(c:Int)(x:zt):
  ∃p t' i,layNew t b c x=(insertAt b p (c,x),t',false,false)/\Tb t' i/\i.length=l.length+1/\t'.mask=t.mask/\t'.plain=t.plain/\t'.led=t.led:=by
 obtain⟨a,k,m,n⟩:=tJ T mk (by omega) c;obtain⟨d,q,g⟩:=Ag T m n;have f:(l.take (below l.toArray a)++a::l.drop (below l.toArray a)).length=l.length+1:=by
  rw[length_append,length_cons,length_take,length_drop];have:=(cu T.up a).1;omega
 have h:(insertAt b (t.put a).2 (c,x)).size=l.length+1:=by
  rw[<-length_toList,SetTable.toList_insertAt,length_append,length_cons,length_take,length_drop,length_toList,j,q];have:=(cu T.up a).1;omega
 have e:(t.put a).1.fits (insertAt b (t.put a).2 (c,x)).size=true:=mv d (by rw[f,h]) (by rw[h,g];exact o);refine⟨(t.put a).2,(t.put a).1,_,?_,d,f,g,rfl,rfl⟩;unfold layNew;rw[k];show(insertAt b (t.put a).2 (c,x),(t.put a).1.orStandIn (insertAt b (t.put a).2 (c,x)).size,false,!((t.put a).1.fits (insertAt b (t.put a).2 (c,x)).size))=_;rw[e];unfold SetTable.orStandIn;rw[if_pos e];rfl
theorem tK{t:SetTable}(a:Array<|Int×zt)(p:0<a.size)(r:a.size<=60):
  ∃es' t' j,relayAll t a (grown a.size)=(es',t',false)/\es'.toList.Perm a.toList/\Tb t' j/\j.length=a.size/\Mk t'.mask/\a.size*5<t'.mask*3/\t'.plain=t.plain/\t'.led=t.led:=by
 have o:grown a.size=a.size*4:=by unfold SetTable.grown;rw[if_neg (by omega)]
 obtain⟨f,s,q⟩:=jB (w:=a.size*4) (by omega);rw[o];obtain⟨t',zs,e,c,m,n,T,b,_⟩:=lE (t:=t) (hashes:=a.map (·.1)) (wanted:=a.size*4) f.cyc (by rw[size_map];omega);rw[size_map]at b;have d:zs.length=a.size:=by
  have:=b.length_eq;rw[length_map,length_range]at this;exact this
 have g:(((zs.map (·.2)).toArray).filterMap (λi=>a[i]?)).toList.Perm a.toList:=by
  rw[Array.toList_filterMap];exact(b.filterMap _).trans (by rw[filterMap_getElem?_range])
 have h:(((zs.map (·.2)).toArray).filterMap (λi=>a[i]?)).size=a.size:=by
  rw[<-length_toList,g.length_eq,length_toList]
 have l:t'.fits (((zs.map (·.2)).toArray).filterMap (λi=>a[i]?)).size=true:=mv T (by rw[h,length_map,d]) (by rw[h,c];omega);have k:coversAll (zs.map (·.2)).toArray a.size=true:=by
  unfold coversAll;exact List.isPerm_iff.mpr b
 refine⟨((zs.map (·.2)).toArray).filterMap (λi=>a[i]?),t',zs.map (·.1),?_,g,T,by rw[length_map,d],by rw[c];exact f,by rw[c];omega,n,m⟩;unfold relayAll;rw[e];dsimp only;rw[k,l];rfl
def bt(w:qq):Bool:=w.params.followText "set-order"
def fR(tk:Int->Tok)(n:Int):Int×zt:=(hashInt n,.int n<|tk n)
structure ISt(w:qq)(es:Array<|Int×zt)(t:SetTable)(ns:List Int):Prop where
 ent:∃tk,es.toList=ns.map (fR tk)
 nd:ns.Nodup
 tb:∃l,Tb t l/\l.length=ns.length
 mkm:Mk t.mask
 room:ns.length*5<t.mask*3
 pl:t.plain=true
 led:bt w=false->t.led=true
def IS(w:qq)(c:qa)(a:zo)(ns:List Int):Prop:=∃o es b t,c.get? a=some o/\o.ExactSet/\o.data=.set es b t/\ISt w es t ns
theorem ISt.size{w:qq}{a:Array (Int×zt)}{t:SetTable}{ns:List Int}(b:ISt w a t ns):a.size=ns.length:=by
 obtain⟨tk,e⟩:=b.ent;rw[<-length_toList,e,length_map]
theorem ISt.fits{w:qq}{b:Array (Int×zt)}{t:SetTable}{ns:List Int}(a:ISt w b t ns):t.fits b.size=true:=by
 obtain⟨l,T,c⟩:=a.tb;have:=a.mkm.ge;have:=a.room;exact mv T (by rw[c,a.size]) (by rw[a.size];omega)
theorem ISt.elems{prog:xx}{w:qq}{a:Array (Int×zt)}{t:SetTable}{ns:List Int}(b:ISt w a t ns):ElemsOf (intKind prog w) a.toList:=by
 obtain⟨tk,e⟩:=b.ent;rw[e];intro f c;obtain⟨n,d,rfl⟩:=mem_map.mp c;exact⟨⟨n,intKind_is _ _ _ _,rfl⟩,rfl⟩
theorem cy{es':List (Int×zt)}:∀{l:List (Int×zt)},es'.Perm l->∀{tk:Int->Tok}{ns:List Int},l=ns.map (fR tk)->∃a:List Int,a.Perm ns/\es'=a.map (fR tk):=by
 intro l p tk ns e;have f:∀b∈es',∃n,b=fR tk n:=λb j=>by
  have:=p.mem_iff.mp j;rw[e]at this;obtain⟨n,g,e⟩:=mem_map.mp this;exact⟨n,e.symm⟩
 obtain⟨a,d⟩:∃a:List Int,es'=a.map (fR tk):=by
  clear p e
  induction es' with
  |nil=>exact⟨[],rfl⟩
  |cons b es' c =>
   obtain⟨n,g⟩:=f b mem_cons_self;obtain⟨a,e⟩:=c λy i=>f y<|mem_cons_of_mem _ i;exact⟨n::a,by rw[g,e];rfl⟩
 refine⟨a,?_,d⟩;have h:∀m:List Int,(m.map<|fR tk).map (λb=>match b.2 with | .int n _=>n | _=>0)=m:=λm=>by
  rw[map_map]
  induction m with
  |nil=>rfl
  |cons x m c=>rw[map_cons,c];rfl
 have:=p.map λb=>match b.2 with | .int n _=>n | _=>0;rw[d,e,h,h]at this;exact this
theorem vB{tk:Int->Tok}{ns:List Int}{n:Int}{t:Tok}(c:n∉ns):∃a,(fR a n=(hashInt n,Value.int n t))/\ns.map (fR a)=ns.map (fR tk):=by
 refine⟨λm=>if m=n then t else tk m,by show(hashInt n,Value.int n (if n=n then t else tk n))=_;rw[if_pos rfl],?_⟩
 apply map_congr_left;intro m b;show(hashInt m,Value.int m (if m=n then t else tk m))=_;rw[if_neg (by rintro rfl;exact c b)];rfl
section
variable{prog:xx}{w:qq}{A:xg}{E:zt->zi->Prop}{s:zi}
theorem add_int{a:zo}{ns:List Int}{n:Int}{b:Tok}{Q:Bool->zi->Prop}(M:IS w s.heap a ns)(c6:ns.length<60)(v:∀r h' J,SameBut a s.heap h'->IS w h' a J->((n∈ns/\J=ns)\/(n∉ns/\J.Perm (n::ns)))->Q r {s with heap:=h'}):
  wpAny (model prog w) A (setAddHashed a (.int n b)<|hashInt n) Q E s:=by
 obtain⟨o,es,c2,t,i,P,f,S⟩:=id M;have c7:=S.size;have R:=S.fits;have N:ElemsOf (intKind prog w) es.toList:=S.elems;have a9:(intKind prog w).is n (.int n b)=true:=intKind_is _ _ _ _;have a6:es.size<scanBound:=by unfold scanBound;omega
 have c3:=S.mkm.ge;have c5:=S.room;unfold setAddHashed setAddHashedIn;refine wpAny_holding<|Wb (wpAny_setState_of i f R ?_);dsimp only;rw[byScan_of (knd:=intKind prog w) (x:=.int n b) rfl a6 N];simp only[↓reduceIte];unfold setAddByScan;refine Wb ?_;refine Wb<|wpAny_rule ?_;refine Wb<|wpAny_setScan_of (knd:=intKind prog w) (k:=n) a9 i f R N ?_;obtain⟨tk,y⟩:=S.ent;cases Y:List.findIdx? (λe=>(intKind prog w).is n e.2) es.toList with
 |some a1 =>
  dsimp only;obtain⟨a8,X,_⟩:=List.findIdx?_eq_some_iff_getElem.mp Y;have B:n∈ns:=by
   have C:es.toList[a1]∈es.toList:=getElem_mem a8;generalize es.toList[a1]=q at C X;rw[y]at C;obtain⟨m,D,rfl⟩:=mem_map.mp C;have:=(intKind prog w).inj _ n m X (intKind_is _ _ _ _);rw[this];exact D
  refine Wp<|Wp ?_;have e:s={s with heap:=s.heap}:=by cases s;rfl
  have:=v false s.heap ns (SameBut.refl a s.heap) M<|.inl ⟨B,rfl⟩;rw[e];exact this
 |none =>
  dsimp only;have g:n∉ns:=λB=>by
   have:=List.findIdx?_eq_none_iff.mp Y (fR tk n) (by rw[y];exact mem_map.mpr ⟨n,B,rfl⟩);have h2:(intKind prog w).is n (fR tk n).2=true:=intKind_is _ _ _ _;rw[h2]at this;cases this
  obtain⟨l,T,b0⟩:=S.tb;obtain⟨p,c,l1,a4,L,b1,D,I,V⟩:=yo T S.mkm (by omega) es (by omega) (hashInt n)<|.int n b;rw[a4];dsimp only;obtain⟨j,c0,c1⟩:=vB (tk:=tk) (t:=b) g;obtain⟨d,h,z⟩:=cy (es':=(insertAt es p (hashInt n,Value.int n b)).toList) (l:=(n::ns).map (fR j)) (tk:=j) (ns:=n::ns) (by
   refine(SetTable.insertAt_perm es p _).trans ?_;rw[toList_push,y,<-c1,map_cons,c0];exact List.perm_append_singleton _ _) rfl
  have b4:d.length=ns.length+1:=by rw[h.length_eq,length_cons]
  have W:d.Nodup:=h.nodup_iff.mpr<|nodup_cons.mpr ⟨g,S.nd⟩;have a0:(insertAt es p (hashInt n,Value.int n b)).size=d.length:=by rw[<-length_toList,z,length_map]
  refine Wb<|Wp ?_;rw[I,S.pl];simp only[if_true];refine Wb ?_;rw[hashByValue_scannable 8 (x:=.int n b) rfl];refine Wp ?_;simp only[plainKind,if_true];refine Wb<|wpAny_storeSet_of i f ?_ (by rw[a0];exact uO (by omega));have H:=stored i f (insertAt es p (hashInt n,Value.int n b)) c;have Z:=SameBut.update s.heap a<|Obj.putSet (insertAt es p (hashInt n,Value.int n b)) c;have a7:c.fill=d.length:=by rw[gQ L,b1,b0,b4]
  by_cases U:c.tooFull=true
  ·rw[U];simp only[Bool.not_false,Bool.and_self,if_true];obtain⟨u,a2,l2,a5,p2,a3,c4,b3,b8,b7,b2⟩:=tK (t:=c) (insertAt es p (hashInt n,Value.int n b)) (by omega) (by omega);rw[a5];dsimp only;obtain⟨K,G,O⟩:=cy p2 z;have b5:K.length=d.length:=G.length_eq;have b9:u.size=K.length:=by rw[<-length_toList,O,length_map]
   refine Wb<|Wp ?_;refine Wb<|wpAny_storeSet_of H rfl ?_ (by rw[b9];exact uO (by omega));have b6:=stored (s:={s with heap:=s.heap.update a (Obj.putSet (insertAt es p (hashInt n,Value.int n b)) c)}) H rfl u a2
   refine Wp<|Wp (v true _ K (Z.trans<|SameBut.update _ a _) ⟨_,u,_,a2,b6,P,rfl,⟨⟨j,O⟩,G.nodup_iff.mpr W,⟨l2,a3,by omega⟩,b3,by rw[b5,<-a0];exact b8,by rw[b7,I];exact S.pl,λq=>by rw[b2,V];exact S.led q⟩⟩<|.inr ⟨g,G.trans h⟩)
  ·have F:c.tooFull=false:=by simpa using U
   rw[F];simp only[Bool.and_false,false_eq_true,if_false];refine Wp<|Wp (v true _ d Z ⟨_,_,_,c,H,P,rfl,⟨⟨j,z⟩,W,⟨l1,L,by omega⟩,by rw[D];exact S.mkm,?_,by rw[I];exact S.pl,λq=>by rw[V];exact S.led q⟩⟩<|.inr ⟨g,h⟩);unfold SetTable.tooFull at F;rw[decide_eq_false_iff_not,a7]at F;omega
end
theorem jQ:entryFor table "set.__iter__"=some Builtin.«frozenset.__iter__» :=
 entryFor_alias (id':="frozenset.__iter__") (by kernel_rfl) rfl (by decide +kernel) (by kernel_rfl)
theorem bJ:Slot "set_iterator" "__next__" "set_iterator.__next__" :=
 .of (owner:="set_iterator") (n:="__next__") (by rw[typeLookup_type,builtinLookup_eq_fast];kernel_rfl) (by decide +kernel) (by decide +kernel) (by decide +kernel)
  (by first|exact .inl (by decide +kernel)|exact .inr (by decide +kernel)) (by rw[isSubtype_type];kernel_rfl)
theorem hV:Slot "set_iterator" "__iter__" "set_iterator.__iter__" :=
 .of (owner:="set_iterator") (n:="__iter__") (by rw[typeLookup_type,builtinLookup_eq_fast];kernel_rfl) (by decide +kernel) (by decide +kernel) (by decide +kernel)
  (by first|exact .inl (by decide +kernel)|exact .inr (by decide +kernel)) (by rw[isSubtype_type];kernel_rfl)
theorem gf:entryFor table "set_iterator.__next__"=some Builtin.«set_iterator.__next__»:=entryFor_of_tree (by kernel_rfl)
theorem oE:Manifest.owners.lookup (String.ofList ['r','o','t','a','r','e','t','i','_','t','e','s'].reverse)=some Manifest.sig_set_iterator:=by kernel_rfl
theorem hX(a:zt):argsOk "set_iterator.__next__" ⟨[a],[]⟩:=by
 unfold argsOk;rw[signature?_of (id:="set_iterator.__next__") (n:=['_','_','t','x','e','n','_','_']) (o:=['r','o','t','a','r','e','t','i','_','t','e','s']) (by kernel_rfl) oE];kernel_rfl
theorem mM(a:zt):argsOk "set_iterator.__iter__" ⟨[a],[]⟩:=by
 unfold argsOk;rw[signature?_of (id:="set_iterator.__iter__") (n:=['_','_','r','e','t','i','_','_']) (o:=['r','o','t','a','r','e','t','i','_','t','e','s']) (by kernel_rfl) oE];kernel_rfl
theorem kZ:∃b,entryFor table "set_iterator.__iter__"=some b/\b=Builtin.«dict_keyiterator.__iter__» :=
 ⟨_,entryFor_alias (id':="dict_keyiterator.__iter__") (by kernel_rfl) rfl (by decide +kernel) (by kernel_rfl),rfl⟩
theorem lK{d:Type}(next:Nat->Nat):∀(a k:Nat)(left:List d)(b:Array d),left.length=a->(pickOrder.go next a k left b).toList.Perm (b.toList++left)
 |0,k,left,b,h=>by
  have:left=[]:=length_eq_zero_iff.mp h;subst this;rw[append_nil];exact .rfl
 |a+1,k,left,b,h=>by
  unfold pickOrder.go;have c:next k % left.length<left.length:=mod_lt _ (by omega);rw[getElem?_eq_getElem c];dsimp only;refine(lK next a (k+1) _ _ (by rw[List.length_eraseIdx,if_pos c];omega)).trans ?_;rw[toList_push,append_assoc];refine List.Perm.append_left _ ?_;rw[List.singleton_append];rw[List.eraseIdx_eq_take_drop_succ];refine List.perm_middle.symm.trans ?_;rw[List.getElem_cons_drop,List.take_append_drop]
def fk(w:qq)(a:zo)(ep:Nat)(b:Array<|Int×zt):Array (Int×zt):=if bt w then pickOrder (w.params.setOrder a ep) b else b
theorem hZ(w:qq)(a:zo)(ep:Nat)(b:Array<|Int×zt):(fk w a ep b).toList.Perm b.toList:=by
 unfold fk
 split
 ·exact lK _ _ _ _ _ rfl
 ·exact .rfl
theorem oF(w:qq)(a:zo)(ep:Nat)(b:Array<|Int×zt):(fk w a ep b).size=b.size:=by
 rw[<-length_toList,(hZ w a ep b).length_eq,length_toList]
def qk(w:qq)(t:SetTable)(d:qa)(c a:zo)(n ep i:Nat):Prop :=
 ∃o b,d.get? c=some o/\o.cls=.type "set_iterator"/\o.data=.fields #[.int (b:Nat) 0,.int (i:Nat) 0,.ref a,.int (n:Nat) 0,.int (ep:Nat) 0]/\(bt w=false->below t.place b=i)
theorem qk.typeIs{w:qq}{t:SetTable}{s:zi}{b a:zo}{n ep i:Nat}(x:qk w t s.heap b a n ep i):s.TypeIs (.ref b) "set_iterator":=let⟨o,_,d,c,_⟩:=x;⟨o,d,c⟩
section
variable{prog:xx}{w:qq}{A:xg}{E:zt->zi->Prop}{s:zi}
theorem iD{a:Array (Int×zt)}{t:SetTable}{ns:List Int}(S:ISt w a t ns):(!t.plain&&decide (a.size>1))=false:=by rw[S.pl];rfl
theorem vC{a:zo}{o:Obj}{b:Array (Int×zt)}{ep:Nat}{t:SetTable}{ns:List Int}{Q:zt->zi->Prop}(S:ISt w b t ns)(c:s.heap.get? a=some o)(h:o.ExactSet)(d:o.data=.set b ep t)(f:Q (.ref s.heap.objs.size) {s with heap:=s.heap.push {cls:=.type "set_iterator",data:=.fields #[.int 0 0,.int 0 0,.ref a,.int b.size 0,.int ep 0]}}):wpAny (model prog w) A (pyIter<|.ref a) Q E s:=by
 have e:s.TypeIs (.ref a) "set":=⟨o,c,h.1⟩;refine wpAny_pyIter_slot e F.slot_set_iter<|wpAny_call_entry F.slot_set_iter e jQ ?_ (F.args_set_iter_1 _);unfold Builtin.«frozenset.__iter__» Builtin.Frozenset.slot0;refine Wb ?_;show wpAny _ _ (pure a) _ _ s;refine Wp ?_;unfold Builtin.Frozenset.sizeOf;refine Wb<|Wb (wpAny_setEntries_of c d S.fits<|Wp ?_);refine Wb ?_;unfold setDrawn;refine Wb<|wpAny_setState_of c d S.fits ?_;unfold setsByText;refine Wb<|Wb (wpAny_askSetting<|Wp ?_);refine Wp ?_;have g:(!(model prog w).w.params.followText "set-order"&&(!t.plain&&decide (b.size>1)))=false:=by rw[iD S,Bool.and_false]
 show wpAny _ _ (if (!(model prog w).w.params.followText "set-order"&&(!t.plain&&decide (b.size>1)))=true then _ else _) _ _ _
 rw[g];simp only[false_eq_true,if_false];refine Wb<|Wp ?_;refine Wb<|wpAny_setEpoch_of c d S.fits ?_;refine Wb<|wpAny_newObj_type (Wp ⟨_,rfl,"set_iterator",_,⟨_,get?_push_size _ rfl,rfl⟩,bJ.lookup,?_⟩);simpa [rawInt]using f
theorem oG{a:zo}{o:Obj}{es:Array (Int×zt)}{ep g i:Nat}{t:SetTable}{ns:List Int}{Q:Option (zt×Nat)->zi->Prop}(S:ISt w es t ns)(k:s.heap.get? a=some o)(h:o.data=.set es ep t)(y:bt w=false->below t.place g=i)(f:∀v n,(fk w a ep es)[i]?.map (·.2)=some v->(bt w=false->below t.place n=i+1)->Q (some (v,n)) s)(h2:(fk w a ep es)[i]?=none->Q none s):wpAny (model prog w) A (setNext a g i ep) Q E s:=by
 unfold setNext;refine Wb<|wpAny_setState_of k h S.fits ?_;unfold setsByText;refine Wb<|Wb (wpAny_askSetting<|Wp ?_);show wpAny _ _ (if bt w=true then _ else _) _ _ _;cases b:bt w with
 |true =>
  simp only[if_true,bne_self_eq_false,false_eq_true,if_false];refine Wb ?_;unfold setWalk;refine Wb<|wpAny_setState_of k h S.fits ?_;unfold setsByText;refine Wb<|Wb (wpAny_askSetting<|Wp ?_);show wpAny _ _ (if bt w=true then _ else _) _ _ _;rw[b];simp only[if_true];refine Wb<|wpAny_askSetting (Wp ?_);have e:fk w a ep es=pickOrder (w.params.setOrder a ep) es:=by unfold fk;rw[b];rfl
  rw[e]at f h2;show wpAny _ _ (pure<|((pickOrder (w.params.setOrder a ep) es)[i]?).map λe=>(e.2,g)) _ _ _;cases m:(pickOrder (w.params.setOrder a ep) es)[i]? with
  |none=>exact Wp<|h2 m
  |some x=>exact Wp<|f x.2 g (by rw[m];rfl) (λc=>absurd (b.symm.trans c) (by decide))
 |false =>
  simp only[false_eq_true,if_false];have e:fk w a ep es=es:=by unfold fk;rw[b];rfl
  rw[e]at f h2;show wpAny _ _ (if (!t.plain&&decide (es.size>1))=true then _ else _) _ _ _
  rw[iD S];simp only[false_eq_true,if_false];refine Wb ?_;show wpAny _ _ (if (!t.led && !es.isEmpty)=true then _ else _) _ _ _
  rw[S.led b];simp only[Bool.not_true,Bool.false_and,false_eq_true,if_false];refine Wp ?_;have z:=y b;obtain⟨l,T,u⟩:=S.tb;have C:l.length=es.size:=by rw[u,S.size]
  rw[z]
  by_cases hi:i<es.size
  ·have d:es[i]?=some es[i]:=Array.getElem?_eq_getElem hi;have r:t.place[i]?=some (l[i]'(by omega)):=by rw[T.pl,List.getElem?_toArray,getElem?_eq_getElem (by omega)]
   rw[d,r];refine Wp<|f _ _ (by rw[d];rfl) λ_=>?_;obtain⟨B,p,q⟩:=cu T.up<|l[i]'(by omega)+1;rw[T.pl];rcases Nat.lt_trichotomy (below l.toArray<|l[i]'(by omega)+1) (i+1)with c|c|c
   ·have:=q i (by omega) (by omega);omega
   ·exact c
   ·have j:i+1<l.length:=by omega
    have D:=p (i+1) j c;have F:=pairwise_iff_getElem.mp T.up i (i+1) (by omega) j (by omega);omega
  ·have d:es[i]?=none:=Array.getElem?_eq_none (by omega);rw[d];exact Wp<|h2 d
theorem yq{b a:zo}{o:Obj}{c:Array (Int×zt)}{ep i:Nat}{t:SetTable}{ns:List Int}{Q:Option zt->zi->Prop}(S:ISt w c t ns)(u:i<c.size)(e:qk w t s.heap b a c.size ep i)(h:s.heap.get? a=some o)(g:o.data=.set c ep t)(x:a≠b)(k:∀v h',(fk w a ep c)[i]?.map (·.2)=some v->qk w t h' b a c.size ep (i+1)->SameBut b s.heap h'->Q (some v) {s with heap:=h'}):wpAny (model prog w) A (pyNext<|.ref b) Q E s:=by
 obtain⟨y,r,f,l,d,p⟩:=id e;unfold pyNext;refine Wb<|wpAny_attempt (wpAny_callSpecial?_slot (name:=ofString "__next__") e.typeIs bJ
  (wpAny_call_entry bJ e.typeIs gf ?_<|hX _))
 unfold Builtin.«set_iterator.__next__»;refine Wb<|Wp ?_;refine Wb<|wpAny_fieldsOf f d ?_;dsimp only;refine Wb<|wpAny_setEntries_of h g S.fits ?_;rw[if_neg (by simp)];show wpAny _ _ (setNext a (toNat (r:Int)) (toNat (i:Int)) (toNat (ep:Int)) >>= _) _ _ _;rw[toNat_natCast,toNat_natCast,toNat_natCast];refine Wb<|oG S h g p (λv j q n=>?_) λm=>?_
 ·dsimp only;refine Wb<|wpAny_setField f d (by simp) ?_;have h1:(s.heap.update b<|Obj.mapFields (·.setIfInBounds 0 (rawInt (j:Nat)))).get? b=some _:=get?_update_self _ f<|Obj.isFreed_of_fields (Obj.data_mapFields d _);refine Wb<|wpAny_setField h1 (Obj.data_mapFields d _) (by simp) ?_;have h2:=get?_update_self (Obj.mapFields (·.setIfInBounds 1 (rawInt<|(i:Int)+1))) h1<|Obj.isFreed_of_fields (Obj.data_mapFields (Obj.data_mapFields d _) _);refine Wp ⟨_,rfl,Wp<|k v _ q ⟨_,j,h2,?_,?_,n⟩ ((SameBut.update ..).trans (SameBut.update ..))⟩
  ·rw[Obj.cls_mapFields,Obj.cls_mapFields];exact l
  ·rw[Obj.data_mapFields<|Obj.data_mapFields d _];simp[rawInt]
 ·exfalso
  rw[Array.getElem?_eq_none_iff,oF]at m;omega
theorem Aw{d a:zo}{o:Obj}{c:Array (Int×zt)}{ep:Nat}{t:SetTable}{ns:List Int}{Q:Option zt->zi->Prop}(l:A.handled=none)(S:ISt w c t ns)(e:qk w t s.heap d a c.size ep c.size)(h:s.heap.get? a=some o)(f:o.data=.set c ep t)(k:∀h',ExtBut d s.heap h'->Q none {s with heap:=h'}):wpAny (model prog w) A (pyNext<|.ref d) Q E s:=by
 obtain⟨x,p,i,q,g,n⟩:=id e;unfold pyNext;refine Wb<|wpAny_attempt (wpAny_callSpecial?_slot (name:=ofString "__next__") e.typeIs bJ
  (wpAny_call_entry bJ e.typeIs gf ?_<|hX _))
 unfold Builtin.«set_iterator.__next__»;refine Wb<|Wp ?_;refine Wb<|wpAny_fieldsOf i g ?_;dsimp only;refine Wb<|wpAny_setEntries_of h f S.fits ?_;rw[if_neg (by simp)];show wpAny _ _ (setNext a (toNat (p:Int)) (toNat (c.size:Int)) (toNat (ep:Int)) >>= _) _ _ _;rw[toNat_natCast,toNat_natCast,toNat_natCast];refine Wb<|oG S h f n (λv y j u=>?_) λr=>?_
 ·exfalso
  have:(fk w a ep c)[c.size]?=none:=Array.getElem?_eq_none (by rw[oF];exact le_refl _);rw[this]at j;cases j
 ·dsimp only;refine Wb<|wpAny_setField i g (by simp) ?_;show wpAny _ _ (newExc (.type "StopIteration") [] >>= _) _ _ _;refine Wb ?_;simp only[newExc,newTuple];refine Wb<|wpAny_newObj_type ?_ (by size_fits);refine Wb (m:=firstArgMember _ _) (wpAny_of_eq (a:=Value.none) (by first|rfl|(simp only[firstArgMember];rfl)) ?_)
  refine wpAny_newObj_type ?_ (by size_fits);simp only[raiseNew];refine Wb<|wpAny_handled ?_;rw[show A.in1.handled=none from l];refine Wb<|Wp (wpAny_throw ?_);refine Wb<|wpAny_isInstance (T:="StopIteration") (b:=true) ⟨_,get?_push_size _ rfl,rfl⟩ isSubtype_stop ?_;exact Wp<|k _ (((SameBut.update ..).extBut.push _).push _)
theorem yr{c a:zo}{n ep i:Nat}{t:SetTable}{Q:zt->zi->Prop}(d:qk w t s.heap c a n ep i)(f:Q (.ref c) s):wpAny (model prog w) A (pyIter<|.ref c) Q E s:=by
 obtain⟨b,g,e⟩:=kZ;subst e;refine wpAny_pyIter_slot d.typeIs hV<|wpAny_call_entry hV d.typeIs g ?_ (mM _);show wpAny _ _ (ret<|.ref c) _ _ s;exact Wp ⟨_,rfl,"set_iterator",_,d.typeIs,bJ.lookup,f⟩
theorem tL{f:Array (Int×zt)}{t:SetTable}{ns:List Int}{ep:Nat}(S:ISt w f t ns)(p:A.handled=none)(c a:zo)(l:a≠c)(o:Obj)(j:o.data=.set f ep t):
  Walks prog w A c [c,a] [c] f.size (λi v=>(fk w a ep f)[i]?.map (·.2)=some v) (λi h=>qk w t h c a f.size ep i/\h.get? a=some o) where
 sub:=λb d=>by simp at d;simp[d]
 frame:=λi h h' st k=>by
  obtain⟨⟨u,x,h1,h2⟩,h3⟩:=st;exact⟨⟨u,x,k c (by simp) _ h1,h2⟩,k a (by simp) _ h3⟩
 item:=λi s Q E hi st g=>by
  refine yq S hi st.1 st.2 j l λv h' r q m=>?_;exact g v h' s.toks r ⟨q,m.extBut a o l st.2⟩ λb o d e=>m.extBut b o (λh=>d (by simp[h])) e
 done:=λs Q E st g=>Aw p S st.1 st.2 j λh' n=>g h' s.toks λb o d e=>n b o (λh=>d (by simp[h])) e
 self:=λ_ _ _ _ st g=>yr st.1 g
theorem vD{r:zo}{Q:Bool->zi->Prop}(a:s.TypeIs (.ref r) "set")(e:Q false s):wpAny (model prog w) A (Builtin.List.listLengthHint<|.ref r) Q E s:=by
 unfold Builtin.List.listLengthHint;refine Wb<|wpAny_specialOf a PySem.F.slot_set_len.lookup ?_;generalize d:("set.__len__":String)=f
 wp_delta
 rw[show splitId f=some ("set","__len__")from by subst d;decide +kernel];subst d;refine Wb<|wpAny_isInstance (T:="set") (b:=true) a (by rw[isSubtype_type];kernel_rfl) ?_;refine wpAny_ite_split (λc=>absurd c (by decide)) λ_=>?_;refine wpAny_ite_split (λ_=>?_) λc=>absurd (by decide +kernel) c;refine Wb<|wpAny_typeOf a ?_;exact Wp e
theorem yt{c:Array (Int×zt)}{t:SetTable}{ns:List Int}{ep:Nat}{a:zo}{o:Obj}(S:ISt w c t ns)(d:o.ExactSet)(g:o.data=.set c ep t):
  KdlSrc prog w "set" a a c.size (λi v=>(fk w a ep c)[i]?.map (·.2)=some v) (λh=>h.get? a=some o) where
 type:=λ_ b=>⟨o,b,d.1⟩
 there:=λ_ b=>⟨lt_size b,lt_size b⟩
 keep:=λ_ _ b m=>m a (.inl rfl) o b
 notList:=by decide
 notTuple:=by decide
 hint:=λ_ _ _ _ b e=>vD ⟨o,b,d.1⟩ e
 iter:=λA s k b=>⟨{cls:=.type "set_iterator",data:=.fields #[.int 0 0,.int 0 0,.ref a,.int c.size 0,.int ep 0]},_,(λ_ _ e=>vC S b d g e),tL S k _ a (ne_of_lt<|lt_size b) o g,
  ⟨⟨_,0,get?_push_size _ rfl,rfl,rfl,λ_=>by
   obtain⟨l,T,q⟩:=S.tb;obtain⟨n,j,p⟩:=cu T.up 0;rw[T.pl];rcases Nat.eq_zero_or_pos (below l.toArray 0)with f|f
   ·exact f
   ·have:=j 0 (by omega) f;omega⟩,get?_push_of_some _ b⟩⟩
end
theorem IS.at{w:qq}{a h':qa}{S:zo}{ns:List Int}(x:IS w a S ns)(k:∀o,a.get? S=some o->h'.get? S=some o):IS w h' S ns:=by
 obtain⟨o,es,b,t,c,r⟩:=x;exact⟨o,es,b,t,k o c,r⟩
theorem oH{w:qq}{b:qa}{a:zo}(c:b.get? a=some {cls:=.type "set",dict:=none,data:=.set #[] 0 (.fresh 0 0<|!bt w)}):IS w b a [] :=
 ⟨_,#[],0,_,c,⟨rfl,rfl,rfl⟩,rfl,⟨⟨λ_=>0,rfl⟩,nodup_nil,⟨[],⟨rfl,rfl,Pairwise.nil,λ_ b=>by simp at b⟩,rfl⟩,Or.inl rfl,(by show 0<21;decide),rfl,λd=>by show(!bt w)=true;rw[d];rfl⟩⟩
section
variable{prog:xx}{w:qq}{A:xg}{E:zt->zi->Prop}{s:zi}
theorem la(a:zt){Q₁:zt->zi->Prop}(b:Q₁ (.ref s.heap.objs.size) {s with heap:=s.heap.push {cls:=.type "set",dict:=none,data:=.set #[] 0 (.fresh 0 0<|!bt w)}}):
  codeAny (model prog w) A (.call (.builtin "set.__new__") ⟨[.type "set",a],[]⟩) (wants Q₁ E) s:=by
 refine codeAny_of_tree ?_;show wpAny _ A.in1 (do checkBuiltinCall "set.__new__" ⟨[.type "set",a],[]⟩;again (.builtin "set.__new__" ⟨[.type "set",a],[]⟩)) _ _ s
 refine Wb<|wpAny_of_eq (F.newCall_set_1 a) (Wp ⟨plainId_quiet F.plain_set_new _,codeAny_builtin F.entry_set_new ?_⟩);rw[Around.under_plainId F.plain_set_new _];unfold Builtin.«set.__new__» Builtin.Frozenset.newClass;have e:=sub_set_self;obtain⟨c,g,d,tk,os⟩:=s;dsimp only
 wp_walk
 refine wpAny_askSetting<|Wp ?_;dsimp only;simp only[newObj];refine Wb<|wpAny_alloc (Wp ?_);exact Wp b
set_option maxRecDepth 100000 in
set_option maxHeartbeats 3200000 in
theorem mO{x:zt}{Q:zt->zi->Prop}(m:wpAny (model prog w) A.in1.in1 (Builtin.«set.__init__» ⟨[.ref s.heap.objs.size,x],[]⟩)
   (λj s'=>match j with | .done f=>wants (λr a=>r=.none/\Q (.ref s.heap.objs.size) a) E (.ok f) s' | .again g=>g.quiet=true/\codeAny (model prog w) A.in1 g (wants (λr a=>r=.none/\Q (.ref s.heap.objs.size) a) E) s')
   (λe s'=>wants (λr a=>r=.none/\Q (.ref s.heap.objs.size) a) E (.error e) s') {s with heap:=s.heap.push {cls:=.type "set",dict:=none,data:=.set #[] 0 (.fresh 0 0<|!bt w)}}):
  wpAny (model prog w) A (call (.type "set") [x]) Q E s:=by
 obtain⟨c,tl,y⟩:=F.called_set.mro;have v:=F.called_set.made;have B:=F.called_set.sub;refine wpAny_call<|codeAny_of_tree ?_;show wpAny _ _ (callAny (.type "set") _) _ _ _;refine Wp ⟨Code.quiet_builtin _ (by decide +kernel),codeAny_builtin F.entry_type_call ?_⟩;rw[Around.under_plain (weight_type_call_type "set" [x] []) rfl];have h1:=F.called_set.notType;have h2:=F.called_set.canCreate;have t:=F.typeCall_set_1 x
 repeat (any_goals (first|assumption|wp_step))
 refine codeAny_mono (la x (E:=E) (Q₁:=λh i=>h=.ref s.heap.objs.size/\i={s with heap:=s.heap.push {cls:=.type "set",dict:=none,data:=.set #[] 0 (.fresh 0 0<|!bt w)}}) ⟨rfl,rfl⟩) λr i b=>?_
 cases r with
 |error e=>exact b
 |ok k =>
  cases k with
  |ret h =>
   obtain⟨rfl,rfl⟩:=b;have n:(s.heap.push {cls:=.type "set",dict:=none,data:=.set #[] 0 (.fresh 0 0<|!bt w)}).get? s.heap.objs.size=some {cls:=.type "set",dict:=none,data:=.set #[] 0 (.fresh 0 0<|!bt w)}:=get?_push_size _ rfl;have o:Shared.TypeIs {s with heap:=s.heap.push {cls:=.type "set",dict:=none,data:=.set #[] 0 (.fresh 0 0<|!bt w)}} (.ref s.heap.objs.size) "set":=⟨_,n,rfl⟩
   have u:=F.called_set.init.lookup;have q:=F.called_set.init.bind<|.ref s.heap.objs.size
   repeat (any_goals (first|assumption|wp_step))
   refine codeAny_mono (codeAny_call_builtin (R:=wants (λr a=>r=.none/\Q (.ref s.heap.objs.size) a) E) F.called_set.init.plain F.entry_set_init<|check_set_init_1 o ?_) λp a d=>?_
   ·exact m
   ·cases p with
    |error e=>exact d
    |ok l =>
     cases l with
     |ret r =>
      obtain⟨rfl,z⟩:=d
      repeat (any_goals (first|assumption|wp_step))
     |_=>exact d.elim
  |_=>exact b.elim
end
end TB
namespace SRT
open PySem PySem.W PyProof.Rows
section
variable{prog:xx}{w:qq}{A:xg}{E:zt->zi->Prop}{s:zi}
theorem oJ{f:Nat->Nat->Bool}{vs:List zt}{κ:SortKind}{Q:zt->zi->Prop}(n:Ord f vs.length)(x:vs.length<64)(B:∀(a:xg) (s':zi),a.units<=A.units+1->(∀b o,s.heap.get? b=some o->s'.heap.get? b=some o)->∀Q:SortKind->zi->Prop,2<=vs.length->Q κ s'->wpAny (model prog w) a (keyKind' vs.toArray) Q (λ_ _=>False) s')(D:∀(a:xg) (s':zi),a.units<=A.units+1->(∀b o,s.heap.get? b=some o->s'.heap.get? b=some o)->∀(i j:Nat) (C:Bool->zi->Prop),i<vs.length->j<vs.length->C (f i j) s'->wpAny (model prog w) a (keyLt' κ (vs.getD i Value.none)<|vs.getD j Value.none) C (λ_ _=>False) s')(u:∀(p:Array Nat) (h':qa),Row vs.length p->Up f p vs.length->(∀b o,s.heap.get? b=some o->h'.get? b=some o)->(∃k,h'.get? s.heap.objs.size=some (seqObj "list" (toArray<|p.toList.map λi=>vs.getD i Value.none) k))->Q (.ref s.heap.objs.size) {s with heap:=h'}):
  wpAny (model prog w) A (do
   let l <- newList vs
   let _ <- holding [l] (call (.builtin "list.sort") [l] [])
   ret l) (λt s'=>∃v,t=.done (.ret v)/\Q v s') E s:=by
 refine Wb<|wpAny_newList ?_ (by rw[sizeLine_eq];omega);have d:(s.heap.push<|seqObj "list" vs.toArray 0).get? s.heap.objs.size=some (seqObj "list" vs.toArray 0):=get?_push_size _ rfl;have h:∀b o,s.heap.get? b=some o->(s.heap.push<|seqObj "list" vs.toArray 0).get? b=some o:=λb o q=>get?_push_of_some _ q;have c:∀b o,s.heap.get? b=some o->b≠s.heap.objs.size:=λb o q=>ne_of_lt<|lt_size q;show wpAny _ _ _ _ _ {s with heap:=s.heap.push (seqObj "list" vs.toArray 0)}
 refine Wb<|wpAny_holding (wpAny_call_entry slot_list_sort ⟨_,d,rfl⟩ entry_list_sort (gT (κ:=κ) (s:={s with heap:=s.heap.push (seqObj "list" vs.toArray 0)}) n d x ?_ ?_ λp H I=>⟨_,rfl,?_⟩)<|args_list_sort _)
 ·intro s' g r h2 G;exact B _ s' (by simp[Around.in1_units]) (λb o e=>g b o (c b o e)<|h b o e) r h2 G
 ·intro s' g i j C hi z y;exact D _ s' (by simp[Around.in1_units]) (λb o e=>g b o (c b o e)<|h b o e) i j C hi z y
 ·refine Wp ⟨_,rfl,u p _ H I (λb o e=>?_) ?_⟩
  ·unfold sortedHeap;rw[get?_update_ne _ _ _ _<|c b o e];refine get?_push_of_some _<|get?_push_of_some _ ?_;rw[get?_update_ne _ _ _ _<|c b o e];exact h b o e
  ·unfold sortedHeap;obtain⟨m,F⟩:∃m,((s.heap.push<|seqObj "list" vs.toArray 0).update s.heap.objs.size (Obj.mapSeq λ_=>(#[]:Array zt))).get? s.heap.objs.size=some (seqObj "list" #[] m):=⟨_,get?_update_seq d λ_=>#[]⟩;exact⟨_,get?_update_seq (get?_push_of_some _<|get?_push_of_some _ F) _⟩
theorem oK{T:String}{r d:zo}{n:Nat}{P:Nat->zt->Prop}{p:qa->Prop}{Q:List zt->zi->Prop}(K:KdlSrc prog w T r d n P p)(B:A.handled=none)(u:p s.heap)(C:n<=sizeLine)(y:∀h' tk a,(∀b o,s.heap.get? b=some o->h'.get? b=some o)->s.heap.objs.size<h'.objs.size->ItemsOf P a n->Q a.toList {s with heap:=h',toks:=tk}):wpAny (model prog w) A (collect<|.ref r) Q E s:=by
 unfold collect;refine Wb<|wpAny_runValue (codeAny_builtin entry_proto_collect' ?_);show wpAny _ _ (do again (.builtin "list.__iadd__" ⟨[<-newList [],.ref r],[]⟩)) _ _ s
 refine Wb<|wpAny_newList (Wp ⟨Code.quiet_builtin _ (by decide +kernel),codeAny_builtin entry_list_iadd' ?_⟩);rw[Around.under_plainId plain_list_iadd _];show wpAny _ _ (Builtin.List.listExtendWith (.ref s.heap.objs.size) (.ref r)<|.ref s.heap.objs.size) _ _ {s with heap:=s.heap.push (seqObj "list" #[] 0)}
 have t:=K.there _ u;have z:(s.heap.push<|seqObj "list" #[] 0).get? s.heap.objs.size=some (seqObj "list" #[] 0):=get?_push_size _ rfl;have key:=PySem.W.kdl_extend (A:=A) (s:={s with heap:=s.heap.push (seqObj "list" #[] 0)}) (R:=λr s'=>∃h' tk a g,r=.ok (.ret<|.ref s.heap.objs.size)/\s'={s with heap:=h',toks:=tk}/\(∀b o,s.heap.get? b=some o->h'.get? b=some o)/\h'.get? s.heap.objs.size=some {cls:=.type "list",dict:=none,data:=.seq a g,slots:=#[]}/\ItemsOf P a n)
  K B (K.keep _ _ u λb _ o e=>get?_push_of_some _ e) s.heap.objs.size (ne_of_gt t.1) (ne_of_gt t.2) (.ref s.heap.objs.size) 0 z (λh' tk v g j h i=>⟨h',tk,v,g,rfl,rfl,λb o e=>j b o (ne_of_lt<|lt_size e)<|get?_push_of_some _ e,h,i⟩) C
 have q:∀(h':qa)(tk:Nat)(a:Array zt)(g:Nat),(∀b o,s.heap.get? b=some o->h'.get? b=some o)->h'.get? s.heap.objs.size=some {cls:=.type "list",dict:=none,data:=.seq a g,slots:=#[]}->ItemsOf P a n->wpAny (model prog w) A (do
   let o <- load s.heap.objs.size
   match o.data with
   |.seq xs _=>pure xs.toList
   | _=>unsupported "internal:collect") Q E {s with heap:=h',toks:=tk}:=λh' tk a g j h i=>by
  refine Wb<|wpAny_load h ?_;exact Wp<|y h' tk a j (lt_size h) i
 refine wpAny_mono key (λx s' l=>?_) λe s' l=>?_
 ·cases x with
  |done f =>
   obtain⟨h',tk,a,g,k,m,j,h,i⟩:=l;cases k;subst m;exact q h' tk a g j h i
  |again c =>
   refine⟨l.1,codeAny_mono l.2 λr s' D=>?_⟩;obtain⟨h',tk,a,g,k,m,j,h,i⟩:=D;subst k m;exact q h' tk a g j h i
 ·obtain⟨h',tk,a,g,k,_⟩:=l;cases k
theorem jR{T:String}{r d:zo}{n:Nat}{P:Nat->zt->Prop}{l:qa->Prop}{κ:SortKind}{Q:zt->zi->Prop}(K:KdlSrc prog w T r d n P l)(z:A.handled=none)(H:l s.heap)(G:n<=sizeLine)(v:∀(h1:qa) (tk:Nat) (vs:List zt),(∀b o,s.heap.get? b=some o->h1.get? b=some o)->s.heap.objs.size<h1.objs.size->ItemsOf P vs.toArray n->∃f:Nat->Nat->Bool,Ord f vs.length/\vs.length<64 /\
   (∀(a:xg) (s':zi),a.units<=A.units+2->(∀b o,s.heap.get? b=some o->s'.heap.get? b=some o)->∀Q:SortKind->zi->Prop,2<=vs.length->Q κ s'->wpAny (model prog w) a (keyKind' vs.toArray) Q (λ_ _=>False) s') /\
   (∀(a:xg) (s':zi),a.units<=A.units+2->(∀b o,s.heap.get? b=some o->s'.heap.get? b=some o)->∀(i j:Nat) (C:Bool->zi->Prop),i<vs.length->j<vs.length->C (f i j) s'->wpAny (model prog w) a (keyLt' κ (vs.getD i Value.none)<|vs.getD j Value.none) C (λ_ _=>False) s') /\
   ∀(p:Array Nat) (h':qa),Row vs.length p->Up f p vs.length->(∀b o,s.heap.get? b=some o->h'.get? b=some o)->(∃k,h'.get? h1.objs.size=some (seqObj "list" (toArray<|p.toList.map λi=>vs.getD i Value.none) k))->Q (.ref h1.objs.size) {s with heap:=h',toks:=tk}):
  wpAny (model prog w) A (call (.builtin "sorted") [.ref r]) Q E s:=by
 refine Calls.call_function_entry kind_sorted plain_sorted entry_sorted (args_sorted1 _) ?_;unfold Builtin.«sorted»;refine Wb (m:=checkCount "sorted" 1 1 _)<|Wp ?_;refine Wb<|oK K z H G λh1 tk t g D x=>?_;obtain⟨f,q,u,B,F,I⟩:=v h1 tk t.toList g D (by rw[Array.toArray_toList];exact x);exact oJ (s:={s with heap:=h1,toks:=tk}) q u (λa s' h c=>B a s' (by have:=h;simp only[Around.in1_units]at this;omega) λb o e=>c b o<|g b o e) (λa s' h c=>F a s' (by have:=h;simp only[Around.in1_units]at this;omega) λb o e=>c b o<|g b o e)
  λp h' J L c y=>I p h' J L (λb o e=>c b o<|g b o e) y
end
end SRT
namespace L2
open PySem PySem.Spec PyProof.Rows
section
variable{X:Cx}
def bK(w:qq)(a:zo)(ns:List Int):HO:=.ext λh=>TB.IS w h a ns
theorem Inv.intS{e:List (zo×Obj)}{f:St}{b:Hp}{s:zi}(c:Inv X e f b s){a:zo}{ns:List Int}(d:b a=some (bK X.w a ns)):TB.IS X.w s.heap a ns:=(c.hok a _ d).1
theorem Inv.layS{e:List (zo×Obj)}{f:St}{c:Hp}{s:zi}(g:Inv X e f c s){h':qa}{t':Nat}{a:zo}{ns:List Int}(k:∀b u,s.heap.get? b=some u->h'.get? b=some u)(l:s.heap.objs.size<=a)(d:TB.IS X.w h' a ns):
  Inv X e f (upd c a<|bK X.w a ns) {s with heap:=h',toks:=t'}:=by
 obtain⟨o,es,m,t,j,r⟩:=id d;exact g.laid k l ⟨d,⟨o,j⟩,λh1 h2 h i=>h.at i⟩
theorem fm(Z:X.calm=true):bu X (.builtin "sorted") (λxs H Q=>∃l,∃ns:List Int,xs=[.ref l]/\H l=some (bK X.w l ns)/\ns.length<=60 /\
  ∀F:List Int,F.Perm ns->F.Pairwise (λa b=>a<b)->∀p,H p=none->Q (.ref p) (upd H p<|.lst (F.map V.int))):=by
 intro pins s σ H xs us Q I r h;obtain⟨l,ns,rfl,a6,b3,q⟩:=h;obtain⟨u,rfl,b1⟩:=bY r;cases b1;obtain⟨o,es,G,t,a7,a2,a0,S⟩:=I.intS a6;obtain⟨y,a1⟩:=S.ent;obtain⟨ns',m,M⟩:=TB.cy (TB.hZ X.w l G es) a1;have L:ns'.Nodup:=m.nodup_iff.mpr S.nd;have J:ns'.length=ns.length:=m.length_eq;refine SRT.jR (κ:=oneType') (TB.yt S a2 a0) (I.ok.hd Z) a7 (by rw[S.size,sizeLine_eq];omega) λh1 tk vs b4 K D=>?_;have g:vs=ns'.map λn=>Value.int n (y n):=by
  apply ext_getElem?;intro i;have E:vs.length=es.size:=by have:=D.1;rw[size_toArray]at this;exact this
  by_cases hi:i<vs.length
  ·have:Option.map (λx=>x.2) (TB.fk X.w l G es)[i]?=some vs[i]:=D.2 i vs[i] (by rw[List.getElem?_toArray];exact getElem?_eq_getElem hi);rw[getElem?_eq_getElem hi,getElem?_map];rw[<-getElem?_toList,M,getElem?_map]at this;cases e:ns'[i]? with
   |none=>rw[e]at this;cases this
   |some n =>
    rw[e]at this;have T:(TB.fR y n).2=vs[i]:=Option.some.inj this;show some vs[i]=some (Value.int n<|y n);rw[<-T];rfl
  ·rw[getElem?_eq_none (by omega),getElem?_eq_none (by rw[length_map,J,<-S.size];omega)]
 have E:vs.length=ns'.length:=by rw[g,length_map]
 have z:∀i,i<ns'.length->vs.getD i Value.none=.int (ns'.getD i 0) (y<|ns'.getD i 0):=λi hi=>by
  rw[g,vd (d:=(0:Int)) hi]
 have P:aq (ns'.map V.int) vs:=by
  rw[g];clear m M L J g E z D
  induction ns' with
  |nil=>exact .nil
  |cons n ns' a9=>exact .cons ⟨_,rfl⟩ a9
 refine⟨λi f=>decide<|ns'.getD i 0<ns'.getD f 0,⟨λi _=>by simp,λi f k _ _ _ h1 h2=>?_,λi f hi j B=>?_⟩,by omega,λR s' _ _ b2 h2 Y=>?_,λR s' _ _ i f C hi j U=>?_,λp h' v O b0 A=>?_⟩
 ·simp only[decide_eq_true_eq]at *;omega
 ·simp only[decide_eq_true_eq];have:ns'.getD i 0≠ns'.getD f 0:=by
   rw[getD_eq_getElem?_getD,getD_eq_getElem?_getD,getElem?_eq_getElem (by omega),getElem?_eq_getElem (by omega)];exact λe=>B<|(getElem_inj L).mp e
  omega
 ·rw[ksk_kind (keys:=vs.toArray) (kz:=ns') (by simpa using rq P) (by rw[size_toArray];omega)];exact Wp Y
 ·rw[z i (by omega),z f (by omega)];exact kat_lt_int U
 ·obtain⟨c,A⟩:=A;rw[E]at v O;have a4:∀i∈p.toList,i<ns'.length:=λi hi=>mem_range.mp<|v.perm.mem_iff.mp hi;have N:(p.toList.map λi=>ns'.getD i 0).Perm ns':=by
   refine(v.perm.map _).trans ?_;have:(List.range ns'.length).map (λi=>ns'.getD i 0)=ns':=by
    apply ext_getElem?;intro i;rw[getElem?_map]
    by_cases hi:i<ns'.length
    ·rw[getElem?_range hi,(aN (d:=(0:Int)) hi).2];rfl
    ·rw[getElem?_eq_none (by rw[length_range];omega),getElem?_eq_none (by omega)];rfl
   rw[this]
  have b5:p.size=ns'.length:=v.size;have a8:(p.toList.map λi=>ns'.getD i 0).Pairwise (λa b=>a<b):=by
   rw[pairwise_iff_getElem];intro i f hi j B;have a3:i<p.size:=by rw[length_map,length_toList]at hi;exact hi
   have a5:f<p.size:=by rw[length_map,length_toList]at j;exact j
   have:=O i f B (by omega);simp only[]at this;rw[getD_eq_getD_getElem?,getD_eq_getD_getElem?,Array.getElem?_eq_getElem a3,Array.getElem?_eq_getElem a5]at this;simpa using this
  refine⟨.ref h1.objs.size,_,I.laid (t':=tk) (o:=.lst<|(p.toList.map λi=>ns'.getD i 0).map V.int) b0 (le_of_lt K) ⟨?_,_,c,iA P p.toList a4,A⟩,rfl,q _ (N.trans m) a8 _<|I.hok.fresh (le_of_lt K)⟩;rw[length_map,N.length_eq,sizeLine_eq];omega
end
end L2
namespace TB
open PySem PySem.SetTable
theorem yu{mask finger moves:Nat}{led plain:Bool}{hashes:Array Int}(c:Cyc mask)(o:hashes.size<=mask+1):
  ∃(t':SetTable) (zs:List<|Nat×Nat),SetTable.laid mask finger moves led plain hashes=some (t',(zs.map (·.2)).toArray)/\t'.mask=mask/\t'.led=led/\t'.plain=plain /\
   Tb t' (zs.map (·.1))/\(zs.map (·.2)).Perm (List.range hashes.size):=by
 obtain⟨d,e,L⟩:=iP c hashes o;refine⟨{mask:=mask,place:=((live mask d).map (·.1)).toArray,dummies:=#[],finger:=finger,led:=led,moves:=moves,plain:=plain},live mask d,?_,rfl,rfl,rfl,⟨rfl,rfl,?_,?_⟩,?_⟩
 ·unfold laid;rw[e];rfl
 ·unfold Up live;rw[List.map_filterMap];have a:((List.range<|mask+1).filterMap λf=>((d.getD f none).map (f,·)).map (·.1))=(List.range<|mask+1).filter λf=>(d.getD f none).isSome:=by
   generalize List.range (mask+1)=l
   induction l with
   |nil=>rfl
   |cons x l h =>
    cases ex:d.getD x none with
    |none=>rw[filterMap_cons_none (by rw[ex];rfl),filter_cons_of_neg (by simp[ex])];exact h
    |some i=>rw[filterMap_cons_some (b:=x) (by rw[ex];rfl),filter_cons_of_pos (by simp[ex]),h]
  rw[a];exact Pairwise.sublist filter_sublist List.pairwise_lt_range
 ·intro f m;obtain⟨z,g,rfl⟩:=mem_map.mp m;unfold live at g;obtain⟨k,n,a⟩:=mem_filterMap.mp g;cases ex:d.getD k none with
  |none=>rw[ex]at a;cases a
  |some i =>
   rw[ex]at a;have j:(k,i)=z:=Option.some.inj a;subst j;have:=mem_range.mp n;show k<=mask;omega
 ·have:=L.perm;rw[length_toList]at this;exact this
theorem oM{a:Array (Int×zt)}{zs:List (Nat×Nat)}(b:(zs.map (·.2)).Perm (List.range a.size)):(((zs.map (·.2)).toArray).filterMap (λi=>a[i]?)).toList.Perm a.toList:=by
 rw[Array.toList_filterMap];exact(b.filterMap _).trans (by rw[filterMap_getElem?_range])
section
variable{prog:xx}{w:qq}{A:xg}{E:zt->zi->Prop}{s:zi}
theorem vE{a:zo}{ns:List Int}{wanted:Nat}{Q:Unit->zi->Prop}(p:IS w s.heap a ns)(B:wanted<=255)(z:ns.length*5<(sizeAbove wanted-1)*3)(n:∀h' b o es ep t,SameBut a s.heap h'->h'.get? a=some o->o.ExactSet->o.data=.set es ep t->ISt w es t b->b.Perm ns->t.mask=sizeAbove wanted-1->Q () {s with heap:=h'}):wpAny (model prog w) A (setRelay a wanted) Q E s:=by
 obtain⟨o,es,ep,t,h,u,c,S⟩:=p;obtain⟨f,G,D⟩:=jB B;have H:=S.size;have F:=f.ge;unfold setRelay;refine Wb<|wpAny_setState_of h c S.fits ?_;dsimp only;rw[if_neg (by rw[sizeLine_eq];omega)];obtain⟨m,zs,e,d,v,y,T,j,_⟩:=lE (t:=t) (hashes:=es.map (·.1)) (wanted:=wanted) f.cyc (by rw[size_map];omega);rw[size_map]at j;have k:=oM j;have l:(((zs.map (·.2)).toArray).filterMap (λi=>es[i]?)).size=es.size:=by rw[<-length_toList,k.length_eq,length_toList]
 obtain⟨tk,q⟩:=S.ent;obtain⟨b,g,r⟩:=cy k q;have I:zs.length=es.size:=by
  have:=j.length_eq;rw[length_map,length_range]at this;exact this
 have x:b.length=ns.length:=g.length_eq;refine Wb ?_;rw[e];show wpAny _ _ (@ite _ _ _ _ _) _ _ _;rw[if_neg (by rw[l];simp)];refine Wp ?_;dsimp only;refine wpAny_storeSet_of h c ?_ (by rw[l,sizeLine_eq];omega);exact n _ b _ _ _ m (SameBut.update s.heap a _) (stored h c _ m) u rfl ⟨⟨tk,r⟩,g.nodup_iff.mpr S.nd,⟨_,T,by rw[length_map];omega⟩,by rw[d];exact f,by rw[d,x];exact z,by rw[y];exact S.pl,λC=>by rw[v];exact S.led C⟩ g d
theorem mQ{a:zo}{ns:List Int}{more:Nat}{Q:Unit->zi->Prop}(g:IS w s.heap a ns)(H:ns.length+more<=120)(f:∀h' b o es ep t,SameBut a s.heap h'->h'.get? a=some o->o.ExactSet->o.data=.set es ep t->ISt w es t b->b.Perm ns->(ns.length+more)*5<t.mask*3->Q () {s with heap:=h'}):wpAny (model prog w) A (setRoomFor a more) Q E s:=by
 obtain⟨o,es,ep,t,j,p,h,S⟩:=id g;obtain⟨l,T,i⟩:=S.tb;have r:t.fill=ns.length:=by rw[gQ T,i]
 have z:t.place.size=ns.length:=by rw[T.pl,size_toArray,i]
 unfold setRoomFor;refine Wb<|wpAny_setState_of j h S.fits ?_;dsimp only
 by_cases d:(t.fill+more)*5>=t.mask*3
 ·have e:t.roomFor more=some ((t.place.size+more)*2):=by unfold SetTable.roomFor;rw[if_pos d]
  rw[e];dsimp only;rw[z];obtain⟨v,G,_⟩:=jB (w:=(ns.length+more)*2) (by omega);have D:=v.ge;have F:=S.mkm.ge;refine vE g (by omega) (by omega) λh' b o' c m C B x q n k y u=>f h' b o' c m C B x q n k y ?_;rw[u];omega
 ·have e:t.roomFor more=none:=by unfold SetTable.roomFor;rw[if_neg d]
  rw[e];dsimp only;have c:s={s with heap:=s.heap}:=by cases s;rfl
  rw[c];exact Wp<|f s.heap ns o es ep t (SameBut.refl a s.heap) j p h S (.refl _) (by rw[r]at d;omega)
theorem lL{a b:zo}{ns:List Int}{J:Sem Unit}{Q:Unit->zi->Prop}(x:a≠b)(v:IS w s.heap a [])(L:IS w s.heap b ns)(a8:ns.length<=60)(o:∀h' l,SameBut a s.heap h'->IS w h' a l->l.Perm ns->Q () {s with heap:=h'}):wpAny (model prog w) A (setMerge a b J) Q E s:=by
 obtain⟨ob,g,a3,tb,C,a6,M,c⟩:=id L;unfold setMerge;have V:(a==b)=false:=by simpa using x
 rw[V];simp only[false_eq_true,if_false];refine Wb<|wpAny_setState_of C M c.fits ?_;dsimp only;have K:s={s with heap:=s.heap}:=by cases s;rfl
 by_cases p:g.isEmpty=true
 ·rw[p];simp only[if_true];have Z:ns=[]:=by
   have:=c.size;have a5:g.size=0:=by simpa [isEmpty]using p
   exact length_eq_zero_iff.mp (by omega)
  subst Z;rw[K];exact Wp<|o s.heap [] (SameBut.refl a s.heap) v (.refl _)
 ·have N:g.isEmpty=false:=by simpa using p
  rw[N];simp only[false_eq_true,if_false];have u:=c.size;refine Wb<|mQ v (by rw[length_nil];omega) λh1 a1 b1 a4 a2 f t j z h d X F=>?_;have I:a1=[]:=X.eq_nil;subst I;rw[length_nil,zero_add]at F;have a9:h1.get? b=some ob:=(t.2 b<|Ne.symm x).trans C;refine Wb<|wpAny_setState_of (s:={s with heap:=h1}) j h d.fits ?_;dsimp only;obtain⟨l1,H,R⟩:=d.tb;have P:f.fill=0:=by rw[gQ H,R];rfl
  obtain⟨a0,n,S⟩:=c.tb;obtain⟨tk,y⟩:=c.ent;have a7:=d.mkm.ge;cases k:f.road tb with
  |slotForSlot =>
   dsimp only;refine wpAny_storeSet_of (s:={s with heap:=h1}) j h ?_ (by rw[u,sizeLine_eq];omega);refine o _ ns (t.trans<|SameBut.update ..) ⟨_,_,_,_,stored (s:={s with heap:=h1}) j h _ _,z,rfl,⟨⟨tk,y⟩,c.nd,⟨a0,⟨n.pl,n.nd,n.up,n.le⟩,S⟩,c.mkm,c.room,by show(f.plain&&tb.plain)=true;rw[d.pl,c.pl];rfl,λm=>by show(f.led&&tb.led)=true;rw[d.led m,c.led m];rfl⟩⟩<|.refl _
  |clean =>
   dsimp only;obtain⟨b2,zs,e,B,U,Y,T,r⟩:=yu (mask:=f.mask) (finger:=f.finger) (moves:=f.moves) (led:=f.led&&tb.led) (plain:=f.plain&&tb.plain) (hashes:=g.map (·.1)) d.mkm.cyc (by rw[size_map];omega);rw[size_map]at r;have D:=oM r;have G:(((zs.map (·.2)).toArray).filterMap (λi=>g[i]?)).size=g.size:=by rw[<-length_toList,D.length_eq,length_toList]
   obtain⟨l,q,O⟩:=cy D y;have b0:zs.length=g.size:=by
    have:=r.length_eq;rw[length_map,length_range]at this;exact this
   have W:l.length=ns.length:=q.length_eq;refine Wb ?_;rw[e];show wpAny _ _ (@ite _ _ _ _ _) _ _ _;rw[if_neg (by rw[G];simp)];refine Wp ?_;dsimp only;refine wpAny_storeSet_of (s:={s with heap:=h1}) j h ?_ (by rw[G,u,sizeLine_eq];omega);exact o _ l (t.trans<|SameBut.update ..) ⟨_,_,_,_,stored (s:={s with heap:=h1}) j h _ _,z,rfl,⟨⟨tk,O⟩,q.nodup_iff.mpr c.nd,⟨_,T,by rw[length_map];omega⟩,by rw[B];exact d.mkm,by rw[B,W,<-u];exact F,by rw[Y,d.pl,c.pl];rfl,λm=>by rw[U,d.led m,c.led m];rfl⟩⟩ q
  |oneByOne =>
   exfalso
   unfold SetTable.road at k;rw[P]at k;simp only[bne_self_eq_false,false_eq_true,if_false]at k
   split at k<;>cases k
theorem yx{b:zo}{o:Obj}{c:Array (Int×zt)}{ep:Nat}{t:SetTable}{ns:List Int}{Q:Array (Int×zt)->zi->Prop}(S:ISt w c t ns)(f:s.heap.get? b=some o)(e:o.data=.set c ep t)(a:Q (fk w b ep c) s):wpAny (model prog w) A (setWalk b) Q E s:=by
 unfold setWalk;refine Wb<|wpAny_setState_of f e S.fits ?_;unfold setsByText;refine Wb<|Wb (wpAny_askSetting<|Wp ?_);show wpAny _ _ (if bt w=true then _ else _) _ _ _;unfold fk at a;cases d:bt w with
 |true =>
  rw[d]at a;simp only[if_true]at a|-;exact Wb<|wpAny_askSetting (Wp a)
 |false =>
  rw[d]at a;simp only[false_eq_true,if_false]at a|-;show wpAny _ _ (if (!t.plain&&decide (c.size>1))=true then _ else _) _ _ _
  rw[iD S];simp only[false_eq_true,if_false];refine Wb ?_;show wpAny _ _ (if (!t.led&&decide (c.size>1))=true then _ else _) _ _ _
  rw[S.led d];simp only[Bool.not_true,Bool.false_and,false_eq_true,if_false];exact Wp<|Wp a
theorem iU{b:zo}{os:List zo}{f:Option zo}{o:Obj}{a:Array (Int×zt)}{ep:Nat}{t:SetTable}{ns:List Int}{Q:Array (Int×zt)->zi->Prop}(S:ISt w a t ns)(e:s.heap.get? b=some o)(d:o.data=.set a ep t)(g:Q (fk w b ep a) s):wpAny (model prog w) A (setWalkUnseen b os f) Q E s:=by
 unfold setWalkUnseen;refine Wb<|wpAny_setState_of e d S.fits ?_;dsimp only;refine Wb ?_;unfold setsByText;refine Wb<|wpAny_askSetting (Wp ?_);have h:((model prog w).w.params.followText "set-order"||t.led&&t.plain||decide (a.size<=1))=true:=by
  cases c:bt w with
  |true =>
   have:(model prog w).w.params.followText "set-order"=true:=c;rw[this];rfl
  |false=>rw[S.led c,S.pl];simp
 show wpAny _ _ (if ((model prog w).w.params.followText "set-order"||t.led&&t.plain||decide (a.size<=1))=true then _ else _) _ _ _
 rw[h];simp only[if_true];exact yx S e d g
theorem vF{a b:zo}{f ns:List Int}{G:Sem Unit}{Q:Unit->zi->Prop}(m:a≠b)(q:IS w s.heap a f)(H:IS w s.heap b ns)(c7:f.length+ns.length<=60)(Y:∀(h':qa) (F:Unit->zi->Prop),SameBut a s.heap h'->F () {s with heap:=h'}->wpAny (model prog w) A G F E {s with heap:=h'})(o:∀h' us,SameBut a s.heap h'->IS w h' a us->(∀x,x∈us↔x∈f\/x∈ns)->Q () {s with heap:=h'}):wpAny (model prog w) A (setMerge a b G) Q E s:=by
 by_cases K:f=[]
 ·subst K;exact lL m q H (by omega) λh' d P Z b2=>o h' d P Z λx=>by rw[b2.mem_iff];simp
 ·obtain⟨ob,l,V,tb,z,c5,t,g⟩:=id H;have c6:0<f.length:=List.length_pos_iff.mpr K;unfold setMerge;have a8:(a==b)=false:=by simpa using m
  rw[a8];simp only[false_eq_true,if_false];refine Wb<|wpAny_setState_of z t g.fits ?_;dsimp only;have W:s={s with heap:=s.heap}:=by cases s;rfl
  by_cases u:l.isEmpty=true
  ·rw[u];simp only[if_true];have b8:ns=[]:=by
    have:=g.size;have c4:l.size=0:=by simpa [isEmpty]using u
    exact length_eq_zero_iff.mp (by omega)
   subst b8;rw[W];exact Wp (o s.heap f (SameBut.refl a s.heap) q λx=>by simp)
  ·have a1:l.isEmpty=false:=by simpa using u
   rw[a1];simp only[false_eq_true,if_false];have P:=g.size;refine Wb<|mQ q (by omega) λh1 b9 c0 X U D O M a3 I n B c9=>?_;have a9:h1.get? b=some ob:=(O.2 b<|Ne.symm m).trans z;refine Wb<|wpAny_setState_of (s:={s with heap:=h1}) M I n.fits ?_;dsimp only;obtain⟨l1,S,a6⟩:=n.tb;have a4:D.fill≠0:=by rw[gQ S,a6,B.length_eq];omega
   have b6:D.road tb=.oneByOne:=by
    unfold SetTable.road;rw[if_pos (by simpa using a4)]
   rw[b6];dsimp only;refine Wb<|iU (s:={s with heap:=h1}) g a9 t ?_;obtain⟨tk,a2⟩:=g.ent;obtain⟨d,L,b1⟩:=cy (hZ w b V l) a2;have c8:d.length=ns.length:=L.length_eq;rw[<-forIn_toList,b1];refine Wb ?_;refine wpAny_forIn_list _ (λrest _ s'=>∃h' us i,s'={s with heap:=h'}/\rest=(d.drop i).map (fR tk)/\SameBut a s.heap h'/\IS w h' a us/\(∀x,x∈us↔x∈f\/x∈d.take i)/\us.length<=f.length+i/\i<=d.length) _ ?_ ?_ _ _
    ⟨h1,b9,0,rfl,rfl,O,⟨c0,X,U,D,M,a3,I,n⟩,λx=>by rw[B.mem_iff];simp,by rw[B.length_eq];omega,zero_le _⟩
   ·rintro⟨J,R⟩ rest T s' ⟨h',us,i,rfl,h,k,p,j,a7,hi⟩;have y:i<d.length:=by
     rcases lt_or_ge i d.length with c|c
     ·exact c
     ·rw[List.drop_of_length_le c]at h;cases h
    rw[List.drop_eq_getElem_cons y,map_cons]at h;injection h with b3 b4
    have b5:J=hashInt d[i]/\R=Value.int d[i] (tk d[i]):=by
     have:(J,R)=(hashInt d[i],Value.int d[i] (tk d[i])):=b3;injection this with c1 c2
     exact⟨c1,c2⟩
    obtain⟨rfl,rfl⟩:=b5;refine Wb<|wpAny_holding (add_int (s:={s with heap:=h'}) p (by omega) λr h2 c3 C a0 N=>?_);refine Wb<|Y h2 _ (k.trans C) ?_;have b0:h2.get? b=some ob:=((k.trans C).2 b (Ne.symm m)).trans z;refine Wb<|wpAny_setState_of (s:={s with heap:=h2}) b0 t g.fits ?_;rw[if_neg (by simp)];refine Wp ⟨h2,c3,i+1,rfl,b4,k.trans C,a0,λx=>?_,?_,y⟩
    ·have b7:d.take (i+1)=d.take i++[d[i]]:=by rw[take_succ,getElem?_eq_getElem y];rfl
     rw[b7,mem_append,mem_singleton];rcases N with⟨v,e⟩|⟨_,e⟩
     ·rw[e,j x];constructor
      ·rintro(c|c)
       ·exact .inl c
       ·exact .inr<|.inl c
      ·rintro(c|c|c)
       ·exact .inl c
       ·exact .inr c
       ·rw[c];exact(j _).mp v
     ·rw[e.mem_iff,mem_cons,j x];constructor
      ·rintro(c|c|c)
       ·exact .inr<|.inr c
       ·exact .inl c
       ·exact .inr<|.inl c
      ·rintro(c|c|c)
       ·exact .inr<|.inl c
       ·exact .inr<|.inr c
       ·exact .inl c
    ·rcases N with⟨_,e⟩|⟨_,e⟩
     ·rw[e];omega
     ·have:=e.length_eq;rw[length_cons]at this;omega
   ·rintro T s' ⟨h',us,i,rfl,h,k,p,j,a7,hi⟩;have a5:d.drop i=[]:=by simpa using h.symm
    have v:i=d.length:=by
     have:=congrArg length a5;rw[length_drop,length_nil]at this;omega
    refine Wp<|o h' us k p λx=>?_;rw[j x,v,take_length,L.mem_iff]
end
theorem mR:entryFor table "set.__or__"=some Builtin.«frozenset.__or__» :=
 entryFor_alias (id':="frozenset.__or__") (by kernel_rfl) rfl (by decide +kernel) (by kernel_rfl)
section
variable{prog:xx}{w:qq}{A:xg}{E:zt->zi->Prop}{s:zi}
theorem vG{Q:zt->zi->Prop}(h:∀h',(∀b o,s.heap.get? b=some o->h'.get? b=some o)->IS w h' s.heap.objs.size []->Q (.ref s.heap.objs.size) {s with heap:=h'}):wpAny (model prog w) A (newSet<|.type "set") Q E s:=by
 unfold newSet setsByText;refine Wb<|Wb (wpAny_askSetting<|Wp ?_);dsimp only;simp only[newObj];exact Wb<|wpAny_alloc (Wp<|h _ (λb o e=>get?_push_of_some _ e) (oH<|get?_push_size _ rfl))
theorem fK{a:zo}{Q:Bool->zi->Prop}(d:s.TypeIs (.ref a) "set")(c:Q true s):wpAny (model prog w) A (Builtin.Frozenset.isAnySet<|.ref a) Q E s:=by
 unfold Builtin.Frozenset.isAnySet;refine Wb<|wpAny_isInstance (b:=true) d sub_set_self ?_;exact Wp c
theorem yz{a:zo}{ns:List Int}{Q:zt->zi->Prop}(c:IS w s.heap a ns)(m:ns.length<=60)(g:∀h' us,(∀b o,s.heap.get? b=some o->h'.get? b=some o)->IS w h' s.heap.objs.size us->us.Perm ns->Q (.ref s.heap.objs.size) {s with heap:=h'}):wpAny (model prog w) A (Builtin.Frozenset.copyOf a) Q E s:=by
 obtain⟨o,es,q,t,f,k,r,S⟩:=id c;have j:s.TypeIs (.ref a) "set":=⟨o,f,k.1⟩;unfold Builtin.Frozenset.copyOf Builtin.Frozenset.baseOf;refine Wb ?_;refine Wb<|wpAny_isInstance (b:=true) j sub_set_self ?_;refine Wp ?_;simp only[if_true];refine Wb<|vG λh1 d h=>?_;refine Wb ?_;show wpAny _ _ (pure s.heap.objs.size) _ _ _;refine Wp ?_;have l:a<s.heap.objs.size:=lt_size f;refine Wb<|lL (s:={s with heap:=h1}) (ne_of_gt l) h (c.at λo e=>d a o e) m λh' us p i n=>?_;refine Wp<|g h' us (λb o e=>?_) i n;rw[p.2 b<|ne_of_lt (lt_size e)];exact d b o e
theorem vH{a b:zo}{j ns:List Int}{Q:zt->zi->Prop}(B:a≠b)(m:IS w s.heap a j)(n:IS w s.heap b ns)(G:j.length+ns.length<=60)(u:∀h' us,(∀b o,s.heap.get? b=some o->h'.get? b=some o)->IS w h' s.heap.objs.size us->(∀x,x∈us↔x∈j\/x∈ns)->Q (.ref s.heap.objs.size) {s with heap:=h'}):wpAny (model prog w) A (binaryOp .BitOr (.ref a)<|.ref b) Q E s:=by
 obtain⟨L,ea,P,ta,I,C,S,N⟩:=id m;obtain⟨ob,O,R,tb,g,r,q,k⟩:=id n;have d:s.TypeIs (.ref a) "set":=⟨L,I,C.1⟩;have l:s.TypeIs (.ref b) "set":=⟨ob,g,r.1⟩;refine wpAny_binaryOp_same d l F.fills_set_or F.slot_set_or<|wpAny_call_entry F.slot_set_or d mR ?_ (F.args_set_or_2 _ _);unfold Builtin.«frozenset.__or__»;refine Wb ?_;unfold Builtin.Frozenset.slot1;refine Wb<|Wp (Wp ?_);dsimp only;simp only[false_eq_true,if_false];refine Wb ?_;refine Wb<|fK d ?_;show wpAny _ _ (Builtin.Frozenset.isAnySet<|.ref b) _ _ _;refine fK l ?_;simp only[Bool.not_true,false_eq_true,if_false];refine Wb ?_;show wpAny _ _ (pure a) _ _ _;refine Wp ?_;refine Wb ?_;refine Wb<|yz m (by omega) λh1 us f v t=>?_;have H:(Value.ref b != Value.ref a)=true:=by
  rw[bne_iff_ne];intro e;injection e with e
  exact B e.symm
 rw[H];simp only[if_true];refine Wb ?_;show wpAny _ _ (pure s.heap.objs.size) _ _ _;refine Wp ?_;refine Wb ?_;refine wpAny_holding ?_;unfold Builtin.Frozenset.updateFrom;have h:h1.get? b=some ob:=f b ob g;have z:Shared.TypeIs {s with heap:=h1} (.ref b) "set":=⟨ob,h,r.1⟩
 refine Wb<|fK z ?_;simp only[if_true];refine Wb ?_;show wpAny _ _ (pure b) _ _ _;refine Wp ?_;unfold Builtin.Frozenset.merge;refine Wb<|wpAny_setEpoch_of (s:={s with heap:=h1}) h q k.fits ?_;have p:s.heap.objs.size≠b:=ne_of_gt<|lt_size g;refine vF (s:={s with heap:=h1}) p v (n.at λo e=>f b o e) (by rw[t.length_eq];exact G) (λh' M i K=>?_) λh' vs i y D=>?_
 ·unfold Builtin.Frozenset.unchanged;have J:h'.get? b=some ob:=(i.2 b<|Ne.symm p).trans h;refine Wb<|wpAny_setEpoch_of (s:={s with heap:=h'}) J q k.fits ?_;rw[if_neg (by simp)];exact Wp K
 ·refine Wp<|Wp ⟨_,rfl,(λe=>nomatch e),u h' vs (λc o e=>?_) y λx=>by rw[D x,t.mem_iff]⟩;rw[i.2 c<|ne_of_lt (lt_size e)];exact f c o e
theorem vI{d:zo}{od:Obj}{a:Array DictEntry}{O:Nat}{ks:List Int}{Q:zt->zi->Prop}(F:s.heap.get? d=some od)(U:od.ExactDict)(j:od.data=.dict a O)(b6:(d==sysModules)=false)(V:∀(i:Nat) (e:DictEntry),a[i]?=some e->∃k t,ks[i]?=some k/\e.key=.int k t/\e.hash=hashInt k)(a0:a.size=ks.length)(b5:ks.length<=60)(g:∀h' us,(∀b o,s.heap.get? b=some o->h'.get? b=some o)->IS w h' s.heap.objs.size us->(∀x,x∈us↔x∈ks)->Q (.ref s.heap.objs.size) {s with heap:=h'}):wpAny (model prog w) A (call (.type "set") [.ref d]) Q E s:=by
 refine mO ?_;have p:(s.heap.push {cls:=.type "set",dict:=none,data:=.set #[] 0 (.fresh 0 0<|!bt w)}).get? s.heap.objs.size=some {cls:=.type "set",dict:=none,data:=.set #[] 0 (.fresh 0 0<|!bt w)}:=get?_push_size _ rfl;have B:IS w (s.heap.push {cls:=.type "set",dict:=none,data:=.set #[] 0 (.fresh 0 0<|!bt w)}) s.heap.objs.size []:=oH p;have m:(s.heap.push {cls:=.type "set",dict:=none,data:=.set #[] 0 (.fresh 0 0<|!bt w)}).get? d=some od:=get?_push_of_some _ F;have C:∀b o,s.heap.get? b=some o->(s.heap.push {cls:=.type "set",dict:=none,data:=.set #[] 0 (.fresh 0 0<|!bt w)}).get? b=some o:=λb o e=>get?_push_of_some _ e;have u:s.heap.objs.size≠d:=ne_of_gt<|lt_size F;generalize (s.heap.push {cls:=.type "set",dict:=none,data:=.set #[] 0 (.fresh 0 0<|!bt w)})=h at p B m C|-;have b2:Shared.TypeIs {s with heap:=h} (.ref d) "dict":=⟨od,m,U.1⟩
 have b3:Shared.TypeIs {s with heap:=h} (.ref s.heap.objs.size) "set":=⟨_,p,rfl⟩
 have h1:isSubtype (.type "dict") (.type "set")=pure false:=by rw[isSubtype_type];kernel_rfl
 have h2:isSubtype (.type "dict") (.type "frozenset")=pure false:=by rw[isSubtype_type];kernel_rfl
 generalize b4:@Builtin.Frozenset.updateFrom=b1;unfold Builtin.«set.__init__» noKeywords
 wp_walk
 rw[j];refine Wp ?_;refine Wb<|wpAny_dictEntries (s:={s with heap:=h}) m j ?_;refine Wb<|mQ (s:={s with heap:=h}) B (by rw[length_nil];omega) λh3 a7 a8 P N a9 I a1 T S L a4 _=>?_;have M:a7=[]:=a4.eq_nil;subst M;have a3:h3.get? d=some od:=(I.2 d<|Ne.symm u).trans m;refine Wb<|wpAny_dictEntries (s:={s with heap:=h3}) a3 j ?_;refine Wb ?_;rw[Std.Legacy.Range.forIn_eq_forIn_range'];simp only[Std.Legacy.Range.size,Nat.sub_zero,Nat.add_sub_cancel,Nat.div_one];refine wpAny_forIn_list _ (λrest _ s'=>∃h' us i,s'={s with heap:=h'}/\rest=range' i (a.size-i)/\i<=a.size/\SameBut s.heap.objs.size h h'/\IS w h' s.heap.objs.size us/\(∀x,x∈us↔x∈ks.take i)/\us.length<=i) _ ?_ ?_ _ _
  ⟨h3,[],0,rfl,by simp,zero_le _,I,⟨a8,P,N,a9,a1,T,S,L⟩,λx=>by simp,le_refl _⟩
 ·rintro x rest b s' ⟨h',us,i,rfl,f,hi,n,q,l,Z⟩;have D:i<a.size:=by
   rcases lt_or_ge i a.size with g|g
   ·exact g
   ·rw[Nat.sub_eq_zero_of_le g]at f;simp at f
  obtain⟨rfl,a5⟩:x=i/\rest=range' (i+1) (a.size-(i+1)):=by
   have e:a.size-i=(a.size-(i+1))+1:=by omega
   rw[e,List.range'_succ]at f;injection f with h1 h2
   exact⟨h1,h2⟩
  have G:h'.get? d=some od:=(n.2 d<|Ne.symm u).trans m;refine Wb<|wpAny_dictEntries (s:={s with heap:=h'}) G j ?_;have K:a[x]?=some a[x]:=Array.getElem?_eq_getElem D;obtain⟨k,b7,W,X,Y⟩:=V x _ K;rw[K];show wpAny _ _ (holding [a[x].key] (setAddHashed s.heap.objs.size a[x].key a[x].hash) >>= _) _ _ _;rw[X,Y];refine Wb<|wpAny_holding (add_int (s:={s with heap:=h'}) q (by omega) λr h2 b0 J R H=>?_);have a2:h2.get? d=some od:=(J.2 d<|Ne.symm u).trans G;refine Wb<|wpAny_dictEpoch (s:={s with heap:=h2}) a2 j ?_;rw[if_neg (by simp)];refine Wp ⟨h2,b0,x+1,rfl,a5,D,n.trans J,R,λy=>?_,?_⟩
  ·have a6:ks.take (x+1)=ks.take x++[k]:=by rw[take_succ,W];rfl
   rw[a6,mem_append,mem_singleton];rcases H with⟨v,e⟩|⟨_,e⟩
   ·rw[e,l y];constructor
    ·exact .inl
    ·rintro(z|z)
     ·exact z
     ·rw[z];exact(l _).mp v
   ·rw[e.mem_iff,mem_cons,l y];exact Or.comm
  ·rcases H with⟨_,e⟩|⟨_,e⟩
   ·rw[e];omega
   ·have:=e.length_eq;rw[length_cons]at this;omega
 ·rintro b s' ⟨h',us,i,rfl,f,hi,n,q,l,Z⟩;have v:i=a.size:=by
   have:=congrArg length f;rw[length_nil,List.length_range']at this;omega
  refine Wp<|Wp ⟨rfl,g h' us (λc o e=>?_) q λx=>?_⟩
  ·rw[n.2 c<|ne_of_lt (lt_size e)];exact C c o e
  ·rw[l x,v,a0,take_length]
end
end TB
namespace L2
open PySem PySem.Spec PyProof.Rows
section
variable{X:Cx}
theorem Inv.dK{h:List (zo×Obj)}{i:St}{f:Hp}{s:zi}(g:Inv X h i f s){a:zo}{kvs:List (Key×V)}(b:Rd f a<|.dK kvs):
  kvs.length<=sizeLine/\(a==sysModules)=false/\∃vs,KV kvs vs/\s.heap.DictOf (ap X.prog X.w) a vs:=by
 rcases b with b|⟨o,b⟩
 ·obtain⟨d,c,vs,e,dd⟩:=g.hok a _ b;exact⟨d,c,vs,e,dd⟩
 ·obtain⟨_,d,c,vs,e,dd⟩:=g.hok a _ b;exact⟨d,c,vs,e,dd⟩
def ia:V->Bool
 |.non=>true
 |.int _=>true
 |.str _=>true
 |_=>false
theorem eI{x:V}(h:ia x=true):dJ x=true:=by cases x<;>first|rfl|cases h
theorem oN{x y:V}(a:ia x=true)(b:ia y=true):eqV x y=decide (x=y):=by
 cases x<;>cases y<;>simp_all [eqV,ia]<;>rw[Bool.eq_iff_iff]<;>simp
def OT(H:Hp)(x:V)(o:Option<|List V):Prop:=(x=.non/\o=none)\/∃a xs,x=.ref a/\H a=some (.tup xs)/\o=some xs/\∀v∈xs,ia v=true
theorem vJ{xs ys:List V}(a:xs.length=ys.length):((List.range xs.length).all λi=>decide<|xs.getD i .non=ys.getD i .non)=decide (xs=ys):=by
 rw[Bool.eq_iff_iff,all_eq_true,decide_eq_true_eq];constructor
 ·intro h;apply ext_getElem?;intro i
  by_cases hi:i<xs.length
  ·have:=h i<|mem_range.mpr hi;rw[decide_eq_true_eq,getD_eq_getElem?_getD,getD_eq_getElem?_getD,getElem?_eq_getElem hi,getElem?_eq_getElem (by omega)]at this;rw[getElem?_eq_getElem hi,getElem?_eq_getElem (by omega)];exact congrArg some this
  ·rw[getElem?_eq_none (by omega),getElem?_eq_none (by omega)]
 ·intro h i hi;rw[h];simp
theorem Ax(P:X.A.units+1<cLine):OpR X (compareOp .NotEq) (λx y H Q=>∃k l,OT H x k/\OT H y l/\Q (.bl<|!decide (k=l)) H):=by
 intro pins s σ H x y v u Q I N O h;obtain⟨k,l,L,M,q⟩:=h;have j:X.A.units<cLine:=by omega
 rcases L with⟨rfl,rfl⟩|⟨a,xs,rfl,w,rfl,D⟩<;>rcases M with⟨rfl,rfl⟩|⟨b,ys,rfl,z,rfl,E⟩<;>cases N<;>cases O
 ·exact RcNeAt.none_none _ _ _ _ ⟨.bl false,H,I,rfl,q⟩
 ·obtain⟨_,ws,n,p⟩:=I.hok b _ z;exact RcNeAt.none_tuple p j _ _ _ _ ⟨.bl true,H,I,rfl,q⟩
 ·obtain⟨_,us,m,o⟩:=I.hok a _ w;exact RcNeAt.tuple_none o j _ _ _ _ ⟨.bl true,H,I,rfl,q⟩
 ·obtain⟨_,us,m,o⟩:=I.hok a _ w;obtain⟨_,ws,n,p⟩:=I.hok b _ z;have l1:=m.length;have l2:=n.length;refine RcNeAt.tuples (e:=λi=>decide<|xs.getD i .non=ys.getD i .non) o p j (λc h1 h2=>?_) _ _ _ _ ⟨.bl _,H,I,rfl,?_⟩
  ·have f:c<xs.length:=by rw[l1];simpa using h1
   have g:c<ys.length:=by rw[l2];simpa using h2
   obtain⟨u',F,G⟩:=m.get<|getElem?_eq_getElem f;obtain⟨v',J,K⟩:=n.get<|getElem?_eq_getElem g;have B:us.toArray[c]=u':=by
    have:us[c]?=some us.toArray[c]:=by rw[getElem?_eq_getElem (by simpa using h1)];simp
    rw[F]at this;exact(Option.some.inj this).symm
   have C:ws.toArray[c]=v':=by
    have:ws[c]?=some ws.toArray[c]:=by rw[getElem?_eq_getElem (by simpa using h2)];simp
    rw[J]at this;exact(Option.some.inj this).symm
   rw[B,C,getD_eq_getElem?_getD,getD_eq_getElem?_getD,getElem?_eq_getElem f,getElem?_eq_getElem g];have r:=D _<|getElem_mem f;have t:=E _<|getElem_mem g;show EqAt _ _ _ _ (decide<|xs[c]=ys[c]);rw[<-oN r t];exact gk G K (eI r)<|eI t
  ·have e:((List.range<|min us.toArray.size ws.toArray.size).all (λi=>decide<|xs.getD i .non=ys.getD i .non)&&us.toArray.size==ws.toArray.size)=decide (some xs=some ys):=by
    simp only[size_toArray,<-l1,<-l2]
    by_cases d:xs.length=ys.length
    ·rw[<-d,min_self,vJ d];simp
    ·have:(xs.length==ys.length)=false:=by simpa using d
     rw[this,Bool.and_false];refine(decide_eq_false ?_).symm;intro e;injection e with e
     exact d (by rw[e])
   rw[e];exact q
end
theorem ce{c:Type}[DecidableEq c]:∀{l m:List c},l.Nodup->(∀x∈l,x∈m)->l.length<=m.length
 |[],_,_,_=>zero_le _
 |x::l,m,hn,h=>by
  obtain⟨h1,h2⟩:=nodup_cons.mp hn;have a:=h x mem_cons_self;have d:=ce (l:=l) (m:=m.erase x) h2 λy b=>(List.mem_erase_of_ne (by rintro rfl;exact h1 b)).mpr (h y<|mem_cons_of_mem _ b);rw[List.length_erase_of_mem a]at d;have:=List.length_pos_of_mem a;rw[length_cons];omega
section
variable{X:Cx}
theorem dA:bu X (.type "set") (λxs H Q=>∃d kvs,∃ks:List Int,xs=[.ref d]/\Rd H d (.dK kvs)/\kvs.map (·.1)=ks.map (Sum.inl:Int->Key)/\ks.length<=60 /\
  ∀l:List Int,l.Nodup->(∀x,x∈l↔x∈ks)->∀q,H q=none->Q (.ref q) (upd H q<|bK X.w q l)):=by
 intro pins s σ H xs us Q I r h;obtain⟨d,kvs,ks,rfl,B,c,G,q⟩:=h;obtain⟨u,rfl,R⟩:=bY r;cases R;obtain⟨W,N,vs,n,o,es,T,M,O,C,f,g,U⟩:=I.dK B;have J:es.size=ks.length:=by
  have b:=g.length;have j:=n.length;have v:=congrArg length c;rw[length_map,length_map]at v;rw[length_toList]at b;omega
 have key:∀(es:List DictEntry)(vs:List<|Key×zt)(kvs:List<|Key×V)(ks:List Int),Pairs (ap X.prog X.w) es vs->KV kvs vs->kvs.map (·.1)=ks.map (Sum.inl:Int->Key)->(∀e∈es,∃k,(ap X.prog X.w).is k e.key=true/\e.hash=(ap X.prog X.w).hash k) ->
   ∀(i:Nat)(e:DictEntry),es[i]?=some e->∃k t,ks[i]?=some k/\e.key=.int k t/\e.hash=hashInt k:=by
  intro es vs kvs ks g
  induction g generalizing kvs ks with
  |nil=>intro _ _ _ i e a;simp at a
  |@cons e0 kv0 es0 kvs0 h1 h2 _ ih =>
   intro r c f i e a;cases r with
   |@cons p _ kvs1 _ r1 r2 =>
    cases ks with
    |nil=>simp at c
    |cons k ks =>
     rw[map_cons,map_cons]at c;injection c with g1 g2
     cases i with
     |zero =>
      have z:e0=e:=by simpa using a
      subst z;have g3:kv0.1=Sum.inl k:=r1.1.symm.trans g1;rw[g3]at h1;obtain⟨P,D,E⟩:=f _ mem_cons_self;have g4:P=Sum.inl k:=(ap X.prog X.w).inj _ _ _ D h1;subst g4;have A:eR (Sum.inl k) e0.key=true:=h1;rcases az A with⟨Y,t,b,j⟩|⟨y,t,b,j⟩
      ·injection b with b
       subst b;exact⟨k,t,rfl,j,E⟩
      ·cases b
     |succ i=>exact ih _ ks r2 g2 (λe a=>f e<|mem_cons_of_mem _ a) i e (by simpa using a)
 refine TB.vI (ks:=ks) M O C N (λi e a=>?_) J G λh' us F m K=>?_
 ·exact key es.toList vs kvs ks g n c (λe a=>f e (by simpa using a)) i e (by rw[getElem?_toList];exact a)
 ·have L:us.Nodup:=by obtain⟨_,_,_,_,_,_,_,S⟩:=m;exact S.nd
  exact⟨.ref s.heap.objs.size,_,I.layS (t':=s.toks) F (le_refl _) m,rfl,q us L K _<|I.hok.fresh (le_refl _)⟩
theorem vK:OpR X (binaryOp .BitOr) (λx y H Q=>∃a b,∃c ns:List Int,x=.ref a/\y=.ref b/\a≠b/\H a=some (bK X.w a c)/\H b=some (bK X.w b ns)/\c.length+ns.length<=60 /\
  ∀us:List Int,us.Nodup->(∀x,x∈us↔x∈c\/x∈ns)->∀q,H q=none->Q (.ref q) (upd H q<|bK X.w q us)):=by
 intro pins s σ H x y v u Q I m n h;obtain⟨a,b,c,ns,rfl,rfl,f,e,g,j,q⟩:=h;cases m;cases n;refine TB.vH f (I.intS e) (I.intS g) j λh' us i d k=>?_;have l:us.Nodup:=by obtain⟨_,_,_,_,_,_,_,S⟩:=d;exact S.nd
 exact⟨.ref s.heap.objs.size,_,I.layS (t':=s.toks) i (le_refl _) d,rfl,q us l k _<|I.hok.fresh (le_refl _)⟩
end
end L2
namespace TW
section
variable{S:Type}
def ay(t:List<|Nd S)(k:Int):Option (Nd S):=t.find? λn=>n.num==k
theorem ql{t:List (Nd S)}(T:Tree1 t){m:Nd S}(a:m∈t){k:Int}(e:m.num=k):ay t k=some m:=by
 subst e;unfold ay;cases h:t.find? λn=>n.num==m.num with
 |none=>have:=List.find?_eq_none.mp h m a;simp at this
 |some y =>
  have h1:=find?_some h;have h2:=List.mem_of_find?_eq_some h;have h3:y.num=m.num:=by simpa using h1
  rw[T.inj h2 a h3]
theorem qm{t:List (Nd S)}{k:Int}(a:∀m∈t,m.num≠k):ay t k=none:=by
 unfold ay;rw[List.find?_eq_none];intro m b;simpa using a m b
end
section
variable{S:Type}
structure Row(S:Type) where
 k:Int
 o:Option<|Nd S
 n:Option<|Nd S
structure Chg(t u:List<|Nd S)(rs:List<|Row S):Prop where
 up:rs.Pairwise λa b=>a.k<b.k
 mem:∀r,r∈rs↔r.o=ay t r.k/\r.n=ay u r.k/\r.o≠r.n
theorem cX{t:List (Nd S)}{k:Int}{m:Nd S}(h:ay t k=some m):m∈t/\m.num=k:=by
 unfold ay at h;have h1:=find?_some h;have h2:=List.mem_of_find?_eq_some h;exact⟨h2,by simpa using h1⟩
def ib(t u:List<|Nd S)(k:Int):Row S:=⟨k,ay t k,ay u k⟩
theorem Ay[DecidableEq<|Nd S]{t u:List (Nd S)}{ns:List Int}(f:ns.Pairwise (· < ·))(d:∀k,ay t k≠none\/ay u k≠none->k∈ns\/ay t k=ay u k):Chg t u ((ns.map<|ib t u).filter λr=>decide<|r.o≠r.n):=by
 refine⟨?_,λr=>?_⟩
 ·refine Pairwise.filter _ ?_;rw[pairwise_map];exact f
 ·rw[mem_filter,mem_map,decide_eq_true_eq];constructor
  ·rintro⟨⟨k,h,rfl⟩,e⟩;exact⟨rfl,rfl,e⟩
  ·rintro⟨h1,h2,h3⟩;refine⟨⟨r.k,?_,?_⟩,h3⟩
   ·have b:ay t r.k≠ay u r.k:=by rw[<-h1,<-h2];exact h3
    have c:ay t r.k≠none\/ay u r.k≠none:=by
     by_cases a:ay t r.k=none
     ·exact .inr λg=>b<|a.trans g.symm
     ·exact .inl a
    rcases d r.k c with a|a
    ·exact a
    ·exact absurd a b
   ·show(⟨r.k,ay t r.k,ay u r.k⟩:Row S)=r;rw[<-h1,<-h2]
end
end TW
namespace TK
open PySem L2
instance decNd:DecidableEq (TW.Nd Str):=λa b=>Classical.propDecidable _
abbrev Row:=TW.Row Str
def iE(H:Hp)(v:V)(o:Option Nd):Prop:=(v=.non/\o=none)\/∃q n,v=.ref q/\H q=some (.tup<|ba n)/\o=some n
theorem iE.same{b H':Hp}{v:V}{o:Option Nd}(a:iE b v o)(s:Same b H'):iE H' v o:=by
 rcases a with a|⟨q,n,e,a,c⟩
 ·exact .inl a
 ·exact .inr ⟨q,n,e,s _ _ a,c⟩
theorem qp(n:Nd):∀v∈ba n,ia v=true:=λv a=>by
 unfold ba at a;simp only[mem_cons,not_mem_nil,or_false]at a;rcases a with rfl|rfl|rfl
 ·rfl
 ·rfl
 ·cases n.st<;>rfl
theorem iE.ot{c:Hp}{v:V}{o:Option Nd}(b:iE c v o):OT c v (o.map ba):=by
 rcases b with⟨e,a⟩|⟨q,n,e,b,a⟩
 ·exact .inl ⟨e,by rw[a];rfl⟩
 ·exact .inr ⟨q,ba n,e,b,by rw[a];rfl,qp n⟩
theorem tM{a b:Nd}(c:ba a=ba b)(e:a.num=b.num):a=b:=by
 obtain⟨h,j,f,s1⟩:=a;obtain⟨i,p2,g,s2⟩:=b;unfold ba at c;simp only[List.cons.injEq,V.int.injEq,V.str.injEq,and_true]at c;obtain⟨h1,h2,h3⟩:=c;have d:s1=s2:=by
  cases s1<;>cases s2<;>simp_all [stV]
 simp only at e;subst e h1 h2 d;rfl
def vL(r:Row):Prop:=(∀n,r.o=some n->n.num=r.k)/\∀n,r.n=some n->n.num=r.k
theorem vL.eq{r:Row}(c:vL r):r.o.map ba=r.n.map ba↔r.o=r.n:=by
 obtain⟨k,o,n⟩:=r;constructor
 ·intro e;cases o with
  |none=>cases n with
   |none=>rfl
   |some b=>cases e
  |some a=>cases n with
   |none=>cases e
   |some b =>
    have d:ba a=ba b:=Option.some.inj e;exact congrArg some<|tM d ((c.1 a rfl).trans (c.2 b rfl).symm)
 ·intro e;show o.map ba=n.map ba;have:o=n:=e;rw[this]
structure RowAt(H:Hp)(e:zo)(r:Row):Prop where
 at':∃vo vn,H e=some (.tup [.int r.k,vo,vn])/\iE H vo r.o/\iE H vn r.n
 ok:vL r
theorem RowAt.same{a H':Hp}{e:zo}{r:Row}(b:RowAt a e r)(s:Same a H'):RowAt H' e r:=by
 obtain⟨⟨f,d,h1,h2,h3⟩,c⟩:=b;exact⟨⟨f,d,s _ _ h1,h2.same s,h3.same s⟩,c⟩
abbrev ZR:=List<|zo×Row
def vM(a:ZR):List V:=a.map λe=>V.ref e.1
def iF(a:ZR):List Row:=a.map (·.2)
structure ChgAt(H:Hp)(c:zo)(es:ZR):Prop where
 tup:H c=some (.tup<|vM es)
 at':∀e∈es,RowAt H e.1 e.2
 len:es.length<=60
theorem ChgAt.same{b H':Hp}{c:zo}{es:ZR}(a:ChgAt b c es)(s:Same b H'):ChgAt H' c es:=⟨s _ _ a.tup,λe d=>(a.at' e d).same s,a.len⟩
theorem vN{t u:List Nd}(k:Int):vL (TW.ib t u k):=⟨λn h=>(TW.cX h).2,λn h=>(TW.cX h).2⟩
theorem Book.optV{f:Hp}{d:zo}{h:List (zo×(zo×Nd))}{zs:ZN}(b:Book f d h zs)(T:TW.Tree1<|nds zs)(k:Int):∃r,cM f d (.int k) r/\iE f (r.getD .non) (TW.ay (nds zs) k):=by
 by_cases g:∃a∈zs,a.2.num=k
 ·obtain⟨a,c,rfl⟩:=g;obtain⟨q,j,l⟩:=b.get (cB T) c;refine⟨_,j,?_⟩;rw[TW.ql T (bc c) rfl];exact .inr ⟨q,a.2,rfl,l,rfl⟩
 ·refine⟨none,b.not λa c e=>g ⟨a,c,e⟩,?_⟩;rw[TW.qm λm i e=>?_]
  ·exact .inl ⟨rfl,rfl⟩
  ·obtain⟨a,c,rfl⟩:=mK i;exact g ⟨a,c,e⟩
theorem jS{a:List (zo×(zo×Nd))}{zs:ZN}(b:a.map (·.2)=zs):(gc a).map (·.1)=((nds zs).map (·.num)).map (Sum.inl:Int->Key):=gy b
theorem oO{a:ZR}{t u:List Nd}{ns:List Int}(b:iF a=ns.map (TW.ib t u)):iF (a.filter λe=>!decide (e.2.o=e.2.n))=(ns.map<|TW.ib t u).filter λr=>decide (r.o≠r.n):=by
 rw[<-b];unfold iF;rw[filter_map]
 congr 1
 apply filter_congr;intro e _;show(!decide (e.2.o=e.2.n))=decide (e.2.o≠e.2.n)
 by_cases c:e.2.o=e.2.n<;>simp[c]
theorem lM{t:List Nd}{k:Int}(h:TW.ay t k≠none):k∈t.map (·.num):=by
 cases e:TW.ay t k with
 |none=>exact absurd e h
 |some m =>
  obtain⟨h1,h2⟩:=TW.cX e;exact mem_map.mpr ⟨m,h1,h2⟩
end TK
namespace L2
open PySem PySem.Spec PyProof.Rows
theorem rJ{A:xg}{s:zi}{a b:zo}{xs ys:List V}{us d:List zt}(l:aq xs us)(m:aq ys d)(y:s.heap.IsTuple a us.toArray)(z:s.heap.IsTuple b d.toArray)(r:A.units<cLine)(p:∀v∈xs,ia v=true)(q:∀v∈ys,ia v=true):RcAt A s (.ref a) (.ref b) (decide<|xs=ys):=by
 have l1:=l.length;have l2:=m.length;have e:((List.range<|min us.toArray.size d.toArray.size).all (λi=>decide<|xs.getD i .non=ys.getD i .non)&&us.toArray.size==d.toArray.size)=decide (xs=ys):=by
  simp only[size_toArray,<-l1,<-l2]
  by_cases f:xs.length=ys.length
  ·rw[<-f,min_self,vJ f];simp
  ·have:(xs.length==ys.length)=false:=by simpa using f
   rw[this,Bool.and_false];exact(decide_eq_false λe=>f (by rw[e])).symm
 rw[<-e];refine RcAt.tuples y z r λc h1 h2=>?_;have g:c<xs.length:=by rw[l1];simpa using h1
 have h:c<ys.length:=by rw[l2];simpa using h2
 obtain⟨u',t,u⟩:=l.get<|getElem?_eq_getElem g;obtain⟨v',w,x⟩:=m.get<|getElem?_eq_getElem h;have n:us.toArray[c]=u':=by
  have:us[c]?=some us.toArray[c]:=by rw[getElem?_eq_getElem (by simpa using h1)];simp
  rw[t]at this;exact(Option.some.inj this).symm
 have o:d.toArray[c]=v':=by
  have:d[c]?=some d.toArray[c]:=by rw[getElem?_eq_getElem (by simpa using h2)];simp
  rw[w]at this;exact(Option.some.inj this).symm
 rw[n,o,getD_eq_getElem?_getD,getD_eq_getElem?_getD,getElem?_eq_getElem g,getElem?_eq_getElem h];have j:=p _<|getElem_mem g;have k:=q _<|getElem_mem h;show EqAt _ _ _ _ (decide<|xs[c]=ys[c]);rw[<-oN j k];exact gk u x (eI j)<|eI k
theorem cut_from{xs:List V}{k:Nat}(h:k<=xs.length):fQ xs (some (k:Int)) none=xs.drop k:=by
 unfold fQ;rw[HT.ju,HT.jh,Nat.min_eq_left h,take_of_length_le (by rw[length_drop];exact le_refl _)]
open PySem PySem.Spec PyProof.Rows
def vO(CX:CXT)(P:xx)(w:qq)(K:Frag)(mg:Str->Option zt)(base:qa)(N:List Str)(qual:Str)(b:Scope)(f:zo)(a:zt)(cl:List<|Str×zo)(A:xg)(outer:List Env)(s:zi)(c:Hp)(E:XK):Cx where
 prog:=P
 w:=w
 K:=K
 mg:=mg
 base:=base
 A:=A.deeper<|envX qual b s.heap.objs.size f a cl
 N:=N
 s₀:=s
 H₀:=c
 env:=envX qual b s.heap.objs.size f a cl
 outer:=outer
 stack:=envX qual b s.heap.objs.size f a cl::outer
 ex:=[]
 calm:=true
 fn:=λ_=>false
 pn:=[]
 xe:=λe s'=>wpAny (model P w) (A.deeper<|envX qual b s.heap.objs.size f a cl) (leaving (envX qual b s.heap.objs.size f a cl) e) (λ_ d=>CX outer c s E e d) (λg d=>CX outer c s E g d) s'
structure LaScope(ps:List Str)(scope:Scope)(cl:List<|Str×zo):Prop where
 kind:scope.kind=.function
 co:scope.isCoroutine=false
 gen:scope.isGenerator=false
 nocell:∀x∈scope.names,x.2≠.cell
 par:∀x∈ps,scope.names.lookup x=some .local
 nd:ps.Nodup
 has:∀x,scope.names.lookup x=some .free->∃c,cl.lookup x=some c
 inj:∀x y c,cl.lookup x=some c->cl.lookup y=some c->x=y
structure Capt(base:qa)(scope:Scope)(cl:List<|Str×zo)(fs:List Str)(fv:List V):Prop where
 cell:∀x c,cl.lookup x=some c->∃v,base.IsCell c v
 len:fs.length=fv.length
 val:∀(i:Nat) x v,fs[i]?=some x->fv[i]?=some v->scope.names.lookup x=some .free/\∃c u,cl.lookup x=some c/\base.IsCell c (some u)/\aw v u
theorem rK:∀(ps:List Str)(us:List zt),((ps.zip us).map (·.1)).Sublist ps
 |[],_=>by simp
 |_::_,[]=>by simp
 |p::ps,u::us=>by rw[zip_cons_cons,map_cons];exact(rK ps us).cons₂ _
theorem oP{ps:List Str}{us:List zt}{i:Nat}{x:Str}{u:zt}(g:ps.Nodup)(d:ps[i]?=some x)(h2:us[i]?=some u):(ps.zip us).reverse.lookup x=some u:=by
 have c:(x,u)∈(ps.zip us).reverse:=by
  rw[List.mem_reverse];exact mem_of_getElem? (i:=i) (by rw[List.getElem?_zip_eq_some];exact⟨d,h2⟩)
 have b:((ps.zip us).reverse.map (·.1)).Nodup:=by
  rw[List.map_reverse];unfold Nodup;rw[List.pairwise_reverse];exact(g.sublist<|rK ps us).imp λh=>Ne.symm h
 generalize (ps.zip us).reverse=l at c b
 induction l with
 |nil=>cases c
 |cons a r f =>
  obtain⟨y,w⟩:=a;rw[map_cons,nodup_cons]at b;rcases mem_cons.mp c with e|e
  ·cases e;rw[lookup_cons,beq_self_eq_true]
  ·have j:x≠y:=λk=>b.1 (by rw[<-k];exact mem_map.mpr ⟨(x,u),e,rfl⟩);rw[lookup_cons,show(x==y)=false by simpa using j]
   exact f e b.2
section
variable{CX:CXT}{P:xx}{w:qq}{K:Frag}{mg:Str->Option zt}{base:qa}{k:Nat}{f c:zo}{name qual:Str}{params:Arguments}{body:Expr}{scope:Scope}{cl:List (Str×zo)}{pm ctv:zt}{ps fs:List Str}{fv:List V}{sp:Sp}
theorem vP{A:xg}{outer:List Env}{s:zi}{k:Hp}{E:XK}{us:List zt}{vs:List V}{m:qa}{tk:Nat}(S:LaScope ps scope cl)(C:Capt base scope cl fs fv)(G:A.handled=none)(g:Env0 P w K mg base A outer s k)(D:vs.length=ps.length)(r:aq vs us)(H:m.Ns s.heap.objs.size λx=>(ps.zip us).reverse.lookup x)(q:∀b o,s.heap.get? b=some o->m.get? b=some o):
  Inv (vO CX P w K mg base (ps++fs) qual scope f (.ref c) cl A outer s k E) [] (vs.map some++fv.map some) k {s with heap:=m,toks:=tk}:=by
 have z:∀b:zo,b∉(vO CX P w K mg base (ps++fs) qual scope f (.ref c) cl A outer s k E).ex:=λb l=>absurd (show b∈([]:List zo)from l) (by simp);have n:∀c v,base.IsCell c v->m.IsCell c v/\k c=none/\c≠s.heap.objs.size:=λc v ⟨o,e,d⟩=>⟨⟨o,q c o (g.bs _ _ e).1,d⟩,(g.bs _ _ e).2,ne_of_lt<|lt_size (g.bs _ _ e).1⟩;refine⟨⟨g.mod,S.kind,rfl,rfl,le_refl _,S.inj,λy j=>?_,λy c h _=>absurd h (by simp[vO]),λ_=>G,Around.frames_deeper g.frames,.inr ⟨rfl,rfl⟩,λb l=>absurd l<|z b,g.bs,g.bsz,λb _ _=>z b,λb l=>absurd l<|z b,g.funs,g.frf⟩,
  rfl,g.bare,Un.kept q,⟨_,H,λi y v h1 h2 h3=>?_⟩,λy c h=>?_,g.hok.fresh<|le_refl _,λy c h=>?_,λp I=>absurd (show p∈([]:List<|zo×Obj)from I) (by simp),g.hok.kept q,?_⟩
 ·have j:scope.names.lookup y=some .cell\/scope.names.lookup y=some .free:=j;rcases j with j|j
  ·exact absurd rfl<|S.nocell _ (PySem.mem_of_lookup j)
  ·exact S.has y j
 ·have h1:(ps++fs)[i]?=some y:=h1
  by_cases hi:i<ps.length
  ·rw[getElem?_append_left hi]at h1;rw[getElem?_append_left (by rw[length_map];omega),getElem?_map]at h2;cases e:vs[i]? with
   |none=>rw[e]at h2;cases h2
   |some a =>
    rw[e]at h2;cases h2;obtain⟨u,J,B⟩:=r.get e;exact⟨u,B,.inl ⟨S.par y<|mem_of_getElem? h1,oP S.nd h1 J⟩⟩
  ·rw[getElem?_append_right (by omega)]at h1;rw[getElem?_append_right (by rw[length_map];omega),length_map,D,getElem?_map]at h2;cases e:fv[i-ps.length]? with
   |none=>rw[e]at h2;cases h2
   |some a =>
    rw[e]at h2;cases h2;obtain⟨g1,F,u,g2,g3,B⟩:=C.val _ _ _ h1 e;exact⟨u,B,.inr ⟨.inr g1,F,g2,(n _ _ g3).1⟩⟩
 ·obtain⟨v,t⟩:=C.cell y c h;exact⟨v,(n _ _ t).1⟩
 ·obtain⟨v,t⟩:=C.cell y c h;exact(n _ _ t).2.1
 ·show _=(ps++fs).length;rw[length_append,length_append,length_map,length_map,D,C.len]
end
def cdφ(c:zo)(qual:Str)(h:qa):Prop:=h.CodeRec (.ref c) qual
theorem oQ{c:zo}{qual:Str}:∀h1 h2:qa,cdφ c qual h1->(∀o,h1.get? c=some o->h2.get? c=some o)->cdφ c qual h2:=λh1 h2 h k=>by
 obtain⟨g,e,vs,f,a,b,d⟩:=h;cases a;exact⟨c,e,vs,f,rfl,k _ b,d⟩
theorem vQ{c:zo}{qual:Str}{a:qa}(x:cdφ c qual a):∃o,a.get? c=some o:=by
 obtain⟨f,e,vs,h,b,d,g⟩:=x;cases b;exact⟨e,d⟩
def aL(a:Hp)(P:zo)(qual:Str):Prop:=∃ps:Array zt,a P=some (.tbl ps)/\TriplesOk ps.toList/\∀pos b,codeAmong pos ps.toList=some b->∃c,b=.ref c/\a c=some (.ext<|cdφ c qual)
theorem aL.start{a:Hp}{P:zo}{qual:Str}(b:a P=some (.tbl #[])):aL a P qual:=⟨#[],b,trivial,λpos c e=>by cases e⟩
theorem lN{pos:Pos}{a b:Int}{t u:Tok}{v cv:zt}:∀{l:List zt},TriplesOk l->codeAmong pos (l++[.int a t,.int b u,v])=some cv->codeAmong pos l=some cv\/cv=v
 |[],_,h=>by
  have h:(if a==pos.line&&b==pos.col then some v else codeAmong pos [])=some cv:=h
  split at h
  ·exact .inr (Option.some.inj h).symm
  ·cases h
 |.int x t1::.int y t2::c::rest,ht,h=>by
  have h:(if x==pos.line&&y==pos.col then some c else codeAmong pos (rest++[.int a t,.int b u,v]))=some cv:=h
  show(if x==pos.line&&y==pos.col then some c else codeAmong pos rest)=some cv\/cv=v
  split at h
  ·rename_i e;rw[if_pos e];exact .inl h
  ·rename_i e;rw[if_neg e];exact lN (show TriplesOk rest from ht) h
theorem iV{a b:Int}{t u:Tok}{v:zt}:∀{l:List zt},TriplesOk l->TriplesOk (l++[.int a t,.int b u,v])
 |[],_=>trivial
 |.int x t1::.int y t2::c::rest,ht=>iV (l:=rest) ht
def bO(P:zo)(H H':Hp):Prop:=∀b o,b≠P->H b=some o->H' b=some o
theorem bO.refl(P:zo)(H:Hp):bO P H H:=λ_ _ _ h=>h
theorem bO.trans{P:zo}{c d H3:Hp}(a:bO P c d)(b:bO P d H3):bO P c H3:=λx o n h=>b x o n<|a x o n h
def BmB(base:qa)(mg:Str->Option zt):Prop:=∃bm o,mg "__builtins__"=some (.ref bm)/\bm≠builtinsNs/\base.get? bm=some o/\o.cls=.type "module"/\o.dict=some builtinsNs/\o.data=.plain
section
variable{X:Cx}{pins:List (zo×Obj)}{σ:St}{H:Hp}{s:zi}
theorem Inv.tab{P:zo}{ps more:Array zt}{h':qa}{t':Nat}(i:Inv X pins σ H s)(f:H P=some (.tbl ps))(k:∀b o,b≠P->s.heap.get? b=some o->h'.get? b=some o)(j:h'.get? P=some {cls:=.none,data:=.fields (ps++more)}):Inv X pins σ (upd H P<|.tbl (ps++more)) {s with heap:=h',toks:=t'}:=by
 have h:∀b,H b=none->b≠P:=λb n a=>by rw[a,f]at n;cases n
 refine i.un (t':=t') ⟨λb o e n _ _=>k b o (h b n) e,λb o e n _ _=>⟨o.slots,k b o (h b n) e⟩,λb o e n _=>by rw[ae<|h b n];exact n,λb o e _=>?_,λb xs e=>?_,λb o u e=>?_,λb l e=>?_⟩ λb u e=>?_
 ·by_cases d:b=P
  ·rw[d];exact⟨_,j⟩
  ·exact⟨o,k b o d e⟩
 ·rw[ae (λa=>by rw[a,f]at e;cases e)];exact e
 ·rw[ae (λa=>by rw[a,f]at e;cases e)];exact e
 ·by_cases d:b=P
  ·subst d;rw[f]at e;cases e;exact⟨more,ac⟩
  ·exact⟨#[],by rw[ae d,e];simp⟩
 ·by_cases d:b=P
  ·subst d;rw[ac]at e;cases e;exact j
  ·rw[ae d]at e;refine(i.hok b u e).stay (λc v g q=>k c v (λa=>?_) q) (λc q=>?_) λc xs q=>?_
   ·rcases g with g|g
    ·exact d<|g.symm.trans a
    ·rw[a,f]at g;cases g
   ·rw[ae (λa=>by rw[a,f]at q;cases q)];exact q
   ·rw[ae (λa=>by rw[a,f]at q;cases q)];exact q
theorem rL{R P:zo}{k:Arguments}{t:Expr}{l:Scope}{pos:Pos}{cl:List (Str×zo)}{Q:zt->zi->Prop}{E:zt->zi->Prop}(a:Inv X pins σ H s)(a8:CodeHd X.base R P)(V:X.env.code=.ref R)(a7:BmB X.base X.mg)(T:aL H P<|X.env.qual++"<lambda>")(b8:defaultsOf k X.env=([],[]))(Y:closureFor l X.env=pure cl)(S:∀f c pm ctv H' s',bO P H H'->aL H' P (X.env.qual++"<lambda>")->H' c=some (.ext<|cdφ c (X.env.qual++"<lambda>"))->Inv X pins σ H' s'->s'.heap.get? f=some (kla_obj "<lambda>" (X.env.qual++"<lambda>") k t l cl pm c ctv)->s.heap.objs.size<=f->H' f=none->(∀b v,s.heap.IsCell b v->H b=none->s'.heap.IsCell b v)->Q (.ref f) s'):
  wpAny (model X.prog X.w) X.A (eval (.Lambda k t l pos) X.env) Q E s:=by
 obtain⟨ps,g,D,N⟩:=T;have U:s.heap.get? P=some (tabObj ps):=a.hok P _ g;have Z:s.heap.Ns mainGlobals X.mg:=a.ok.mod.glob.keeps a.bk;have b9:mainGlobals≠P:=λq=>by
  obtain⟨o,es,b6,e,j,_⟩:=a.ok.mod.glob;have:=(a.bs _ _ e).2;rw[q,g]at this;cases this
 have h:s.heap.BuiltinsAt X.mg P:=by
  obtain⟨bm,c5,b0,b1,F,b2,b3,I⟩:=a7;refine⟨bm,c5,b0,b1,λq=>?_,λq=>?_,a.bk _ _ F,b2,b3,I⟩
  ·obtain⟨o,es,b6,e,j,_⟩:=a.ok.mod.glob;rw[q,e]at F;cases F;rw[j]at I;cases I
  ·have:=(a.bs _ _ F).2;rw[q,g]at this;cases this
 have C:=a8.keeps a.bk;have b4:∀b v,s.heap.IsCell b v->H b=none->b≠P:=λb v _ n r=>by rw[r,g]at n;cases n
 refine PySem.W.kla_eval b8 ?_;cases M:codeAmong pos ps.toList with
 |none =>
  refine PySem.W.kla_makeFunction (mg:=X.mg) Y a.ok.glob Z V C U D M b9 h λc' ctv h' tk i y a1 c0 c1=>?_;have d:=a.tab (t':=tk) (more:=#[rawInt pos.line,rawInt pos.col,.ref c']) (h':=h'.push<|kla_obj "<lambda>" (X.env.qual++"<lambda>") k t l cl ((X.mg "__name__").getD .none) c' ctv) g (λb o n e=>get?_push_of_some _<|i b o n e)<|get?_push_of_some _ c1;have G:H c'=none:=a.hok.fresh y;have a5:c'≠P:=λr=>by rw[r,g]at G;cases G
  have B:upd H P (.tbl<|ps ++ #[rawInt pos.line,rawInt pos.col,.ref c']) c'=none:=by rw[ae a5];exact G
  have a3:cdφ c' (X.env.qual++"<lambda>") (h'.push<|kla_obj "<lambda>" (X.env.qual++"<lambda>") k t l cl ((X.mg "__name__").getD .none) c' ctv):=oQ _ _ c0 λo e=>get?_push_of_some _ e;have O:bO P H (upd (upd H P<|.tbl (ps ++ #[rawInt pos.line,rawInt pos.col,.ref c'])) c'<|.ext (cdφ c'<|X.env.qual++"<lambda>")):=λb o n e=>by
   rw[ae<|ak e G,ae n];exact e
  have a6:s.heap.objs.size<=h'.objs.size:=le_trans y<|le_of_lt a1;have c4:h'.objs.size≠c':=ne_of_gt a1;have L:H h'.objs.size=none:=a.hok.fresh a6;have c3:h'.objs.size≠P:=λr=>by rw[r,g]at L;cases L
  have a9:Inv X pins σ (upd (upd H P<|.tbl (ps ++ #[rawInt pos.line,rawInt pos.col,.ref c'])) c'<|.ext (cdφ c'<|X.env.qual++"<lambda>")) {s with heap:=h'.push<|kla_obj "<lambda>" (X.env.qual++"<lambda>") k t l cl ((X.mg "__name__").getD .none) c' ctv,toks:=tk}:=by
   refine⟨d.ok,d.os,d.bare,⟨λb o e n h i=>d.base.keep b o e n h i,λb o e n h i=>d.base.slot b o e n h i,λb o e n i=>?_,d.base.there,λb xs e=>?_,λb o u e=>?_,λb c6 e=>?_⟩,d.loc,d.cell,?_,λx c e=>?_,λp a2=>?_,λb u e=>?_,d.len⟩
   ·have h1:=d.base.free b o e n i;have:b≠c':=ne_of_lt<|lt_of_lt_of_le (lt_of_lt_of_le (lt_size e) a.sz) y;rw[ae this];exact h1
   ·have h1:=d.base.tups b xs e;rw[ae<|ak h1 B];exact h1
   ·have h1:=d.base.frzs b o u e;rw[ae<|ak h1 B];exact h1
   ·obtain⟨m,h1⟩:=d.base.tbls b c6 e;exact⟨m,by rw[ae<|ak h1 B];exact h1⟩
   ·rw[ae<|ne_of_lt (lt_of_lt_of_le a.lt y)];exact d.free
   ·have h1:=d.freeC x c e;obtain⟨v,o,z,_⟩:=a.cell x c e;rw[ae<|ne_of_lt (lt_of_lt_of_le (lt_size z) y)];exact h1
   ·obtain⟨g1,g2,g3,g4,g5⟩:=d.pin p a2;obtain⟨c2,_⟩:=a.pin p a2;exact⟨g1,by rw[ae<|ne_of_lt (lt_of_lt_of_le (lt_size c2) y)];exact g2,g3,g4,g5⟩
   ·by_cases h:b=c'
    ·subst h;rw[ac]at e;cases e;exact⟨a3,vQ a3,oQ⟩
    ·rw[ae h]at e;exact(d.hok b u e).stay (λ_ _ _ q=>q) (λc q=>by rw[ae<|ak q B];exact q) λc xs q=>by rw[ae<|ak q B];exact q
  refine S h'.objs.size c' _ ctv _ _ O ⟨_,by rw[ae<|Ne.symm a5];exact ac,?_,λpos' J e=>?_⟩ ac a9 (get?_push_size _ rfl) a6 ?_ λb v ⟨o,z,j⟩ n=>⟨o,get?_push_of_some _<|i b o (b4 b v ⟨o,z,j⟩ n) z,j⟩
  ·rw[Array.toList_append];exact iV D
  ·rw[Array.toList_append]at e;rcases lN D e with e|e
   ·obtain⟨c,b5,K⟩:=N pos' J e;refine⟨c,b5,O c _ (λr=>?_) K⟩;rw[r,g]at K;cases K
   ·exact⟨c',e,ac⟩
  ·rw[ae c4,ae c3];exact L
 |some J =>
  obtain⟨c,rfl,b7⟩:=N pos J M;refine PySem.W.kla_makeFunctionHit (mg:=X.mg) Y a.ok.glob Z V C U D M h λctv h' tk a0 a4=>?_;have d:=a.kept (t':=tk) (h':=h'.push<|kla_obj "<lambda>" (X.env.qual++"<lambda>") k t l cl ((X.mg "__name__").getD .none) c ctv) λb o e=>get?_push_of_some _<|a0 b o e;exact S h'.objs.size c _ ctv H _ (bO.refl _ _) ⟨ps,g,D,N⟩ b7 d (get?_push_size _ rfl) a4 (a.hok.fresh a4) λb v ⟨o,z,j⟩ _=>⟨o,get?_push_of_some _<|a0 b o z,j⟩
end
def bB(X:Cx)(H:Hp)(s:zi):qa:=hideAll s.heap<|trk s.heap H++frs X.stack
section
variable{X:Cx}{pins:List (zo×Obj)}{σ:St}{H:Hp}{s:zi}
theorem mV{b:zo}{o:Obj}(e:s.heap.get? b=some o)(n:H b=none)(c:b∉frs X.stack):(bB X H s).get? b=some o :=
 hideAll_get _ e λa=>by
  rcases mem_append.mp a with a|a
  ·have q:(H b).isSome=true:=(mem_filter.mp a).2;rw[n]at q;simp at q
  ·exact c a
theorem vR{b:zo}{o:Obj}(e:(bB X H s).get? b=some o):s.heap.get? b=some o/\H b=none/\b∉frs X.stack:=by
 have c:s.heap.get? b=some o:=of_hideAll (trk s.heap H++frs X.stack) e;have d:b∉trk s.heap H++frs X.stack:=λa=>by
  have f:(bB X H s).get? b=none:=hideAll_none _ a;rw[f]at e;cases e
 refine⟨c,?_,λa=>d<|mem_append_right _ a⟩;cases q:H b with
 |none=>rfl
 |some x=>exact absurd (mem_append_left _<|mem_filter.mpr ⟨mem_range.mpr<|lt_size c,by simp[q]⟩) d
theorem dS{c base a:qa}:∀{l:List Env},c.FunFrames base l->(∀b∈frs l,a.get? b=none)->c.FunFrames a l
 |[],_,_=>trivial
 |env::rest,⟨k,⟨L,o,hf,d,ho,hd⟩,r⟩,hn=>by
  have e:frs (env::rest)=L::frs rest:=by unfold frs;rw[filterMap_cons,hf]
  rw[e]at hn;exact⟨k,⟨L,o,hf,hn L mem_cons_self,ho,hd⟩,dS r λb d=>hn b<|mem_cons_of_mem _ d⟩
theorem Inv.bsub(a:Inv X pins σ H s):∀b o,X.base.get? b=some o->(bB X H s).get? b=some o:=λb o e=>by
 obtain⟨h1,h2⟩:=a.bs b o e;refine mV h1 h2 λc=>?_;have:=(a.stack.mem c).1;rw[e]at this;cases this
theorem Inv.env0B(a:Inv X pins σ H s):Env0 X.prog X.w X.K X.mg (bB X H s) X.A X.stack s H:=by
 have c:=a.bsub;obtain⟨g,d,f⟩:=a.ok.mod.blt;refine⟨a.ok.frames,⟨a.ok.mod.kin.keeps c,a.ok.mod.glob.keeps c,⟨g,d.keeps c,f⟩,a.ok.mod.nolimit.keeps c⟩,λb o e=>⟨(vR e).1,(vR e).2.1⟩,le_of_eq<|hideAll_size _ _,dS a.stack λb d=>?_,a.stkFree,a.hok,a.bare⟩;cases q:(bB X H s).get? b with
 |none=>rfl
 |some o=>exact absurd d (vR q).2.2
theorem yA{CX:CXT}{k:Nat}{f:zo}{c:xl}{ps:List Str}{sp:Sp}{E:XK}{Q:VK}{us:List zt}{vs:List V}(F:FnOk X.prog X.w X.K X.mg (bB X H s) CX k f c ps sp)(l:Room k X.A)(i:aE X.K c ps [])(m:de CX X E)(b:Inv X pins σ H s)(r:aq vs us)(d:sp vs H Q E):wpAny (model X.prog X.w) X.A (call (.ref f) us) (EP X pins σ Q) X.xe s:=by
 have j:(us++([]:List zt)).length=ps.length:=by rw[append_nil,<-r.length];exact F.len _ _ _ _ d
 have g:=i s us b.kIn j;rw[append_nil]at g;refine wpAny_call<|codeAny_mono (F.run X.A X.stack s H ⟨us,[]⟩ us vs Q E l b.env0B g r d) λr s' a=>?_;cases r with
 |error e=>exact m pins σ H s e s' b a
 |ok h =>
  cases h with
  |ret u=>exact b.after a
  |next=>exact False.elim a
  |brk=>exact False.elim a
  |cont=>exact False.elim a
def Cg(js:List Nat)(b:St)(fv:List V):Prop:=js.map (λa=>(b[a]?).getD none)=fv.map some
def Ch(P:zo)(qual:Str)(js:List Nat)(a:zo->zo->List V->Sp):TE:=λσ H Q=>aL H P qual/\∃fv,Cg js σ fv/\∀f c H',bO P H H'->aL H' P qual->H' c=some (.ext<|cdφ c qual)->H' f=none->a f c fv [.ref f] H' Q E0
structure CapOk(X:Cx)(scope:Scope)(cl:List<|Str×zo)(fs:List Str)(js:List Nat):Prop where
 len:fs.length=js.length
 cells:∀x c,cl.lookup x=some c->X.env.cells.lookup x=some c
 at':∀(i j:Nat) x,js[i]?=some j->fs[i]?=some x->X.N[j]?=some x/\X.env.scope.names.lookup x=some .cell/\scope.names.lookup x=some .free/\∃c,cl.lookup x=some c
 fn:∀x,X.fn x=true
theorem Inv.cellF(a:Inv X pins σ H s)(e:∀x,X.fn x=true){x:Str}{c:zo}(d:X.env.cells.lookup x=some c):c∉frs X.stack:=λf=>by
 rcases mem_cons.mp (a.stkSub c f)with b|b
 ·exact a.cne x c d b
 ·obtain⟨_,o,g,_⟩:=a.ok.funs.mem b;have:=lt_of_lt_of_le (lt_size g)<|a.ok.cab x c (e x) d;exact absurd this<|lt_irrefl _
theorem Inv.capt{n:Scope}{cl:List (Str×zo)}{fs:List Str}{js:List Nat}{fv:List V}(b:Inv X pins σ H s)(a:CapOk X n cl fs js)(f:Cg js σ fv):Capt (bB X H s) n cl fs fv:=by
 have k:∀x c v,X.env.cells.lookup x=some c->s.heap.IsCell c v->(bB X H s).IsCell c v:=λx c v e ⟨o,C,A⟩=>⟨o,mV C (b.freeC x c e)<|b.cellF a.fn e,A⟩;refine⟨λx c e=>?_,?_,λi x v h1 h2=>?_⟩
 ·obtain⟨v,f⟩:=b.cell x c<|a.cells x c e;exact⟨v,k x c v (a.cells x c e) f⟩
 ·rw[a.len];have:=congrArg length f;rw[length_map,length_map]at this;exact this
 ·have hi:i<js.length:=by rw[<-a.len];exact(List.getElem?_eq_some_iff.mp h1).1
  obtain⟨p,h,t,c,j⟩:=a.at' i js[i] x (getElem?_eq_getElem hi) h1;have e:(js.map λg=>(σ[g]?).getD none)[i]?=some (some v):=by
   rw[show js.map (λg=>(σ[g]?).getD none)=fv.map some from f,getElem?_map,h2];rfl
  rw[getElem?_map,getElem?_eq_getElem hi]at e;have d:(σ[js[i]]?).getD none=some v:=Option.some.inj e;have w:σ[js[i]]?=some (some v):=by
   cases q:σ[js[i]]? with
   |none=>rw[q]at d;cases d
   |some y=>rw[q]at d;exact congrArg some d
  obtain⟨m,_,B⟩:=b.loc;obtain⟨u,r,D⟩:=B js[i] x v p w (.inr<|.inl h);rcases D with⟨q,_⟩|⟨_,c',l,z⟩
  ·rw[show X.env.kindOf x=X.env.scope.names.lookup x from rfl,h]at q;cases q
  ·have:c=c':=Option.some.inj<|(a.cells x c j).symm.trans l;subst this;exact⟨t,c,u,j,k x c _ l z,r⟩
theorem qr{g P r:zo}{t:xl}{B x:Str}{k:Nat}{p l pos:Pos}{d:Arguments}{e:Expr}{a:Scope}{cl:List (Str×zo)}{fs:List Str}{js:List Nat}{qual:Str}{z:zo->zo->List V->Sp}(E:CodeHd X.base r P)(L:X.env.code=.ref r)(D:BmB X.base X.mg)(Z:X.env.qual++"<lambda>"=qual)(R:defaultsOf d X.env=([],[]))(N:closureFor a X.env=pure cl)(F:CapOk X a cl fs js)(G:∀(j:qa) (f c:zo) (pm ctv:zt) (fv:List V),(∀b o,X.base.get? b=some o->j.get? b=some o)->j.get? f=some (kla_obj "<lambda>" qual d e a cl pm c ctv)->Capt j a cl fs fv->FnOk X.prog X.w X.K X.mg j CX0 k g t [B] (z f c fv))(a0:Room k X.A)(S:Gl X x)(m:X.mg x=some (.ref g))(U:keepIn X.K (.ref g)=true)(J:aE X.K t [B] [])(O:(x==("__debug__":Str))=false:=by decide)(u:starEach [.Lambda d e a l] X.env=(false,eval (.Lambda d e a l) X.env)::starEach [] X.env:=by rfl):
  PE X (.Call (.Name x p) [.Lambda d e a l] [] pos) (Ch P qual js z):=by
 intro pins s σ H Q I h;obtain⟨T,fv,a1,q⟩:=h;subst Z;refine wpAny_Call_Name_kw<|gD I S m ?_ O;refine callWith_K (h₀:=X.base) I.ok.mod.kin U ?_ u rfl;rw[u];show wpAny _ _ (spliced ((false,eval (.Lambda d e a l) X.env)::backTo pos (starEach [] X.env))) _ _ s;refine spliced_cons<|rL I E L D T R N λf c pm ctv H' s' a3 a4 M i Y y v a5=>?_;refine spliced_nil ⟨i.kIn,?_⟩;have a2:f∉frs X.stack:=λm=>by
  rcases mem_cons.mp (I.stkSub f m)with n|n
  ·have:=I.lt;rw[<-n]at this;exact absurd this<|not_lt.mpr y
  ·exact I.nofs y n
 have C:=i.capt F a1;exact yA (G _ f c pm ctv fv i.bsub (mV Y v a2) C) a0 J aJ i (vs:=[.ref f]) (.cons (show aw (.ref f) (.ref f)from rfl) .nil)<|q f c H' a3 a4 M v
def Az(a:TE)(f:zo)(sp:Sp)(E:XK):TE:=λσ H Q=>a σ H λv H1=>v=.ref f/\sp [] H1 Q E
theorem lO{f:zo}{a:xl}{oc:zt}{c:Option zo}{d:Array (Option zt)}{k:Nat}{sp:Sp}{CX:CXT}{E:XK}{x:Str}{p pos:Pos}{g:TE}(n:PE X (.Name x p) g)(j:X.base.get? f=some ⟨oc,c,.func a,d⟩)(F:FnOk X.prog X.w X.K X.mg X.base CX k f a [] sp)(m:Room k X.A)(i:aE X.K a [] [])(o:de CX X E):
  PE X (.Call (.Name x p) [] [] pos) (Az g f sp E):=by
 intro pins s σ H Q I h;refine wpAny_Call_Name_kw<|thn (n pins s σ H _ I h) λu s1 l=>?_;obtain⟨v,H1,b,r,e,q⟩:=l;subst e;obtain rfl:u=Value.ref f:=r;refine PySem.W.callWith_of (P:=λh=>h.get? f=some ⟨oc,c,.func a,d⟩) rfl (λh e=>⟨.frame,.inl rfl,(Looks.ld (part:=none) e).andThen .now⟩)<|evalArgs_nil3 ⟨b.bk _ _ j,?_⟩;exact mf (us:=[]) (dvs:=[]) F m i .nil o b .nil q
end
section
variable{CX:CXT}{P:xx}{w:qq}{K:Frag}{mg:Str->Option zt}{base:qa}{k:Nat}{f c:zo}{name qual:Str}{params:Arguments}{body:Expr}{scope:Scope}{cl:List (Str×zo)}{pm ctv:zt}{ps fs:List Str}{fv:List V}{sp:Sp}
theorem rM(F:base.get? f=some (kla_obj name qual params body scope cl pm c ctv))(y:∀vs H Q E,sp vs H Q E->H c=some (.ext<|cdφ c qual))(S:LaScope ps scope cl)(C:Capt base scope cl fs fv)(m:∀vs H Q E,sp vs H Q E->vs.length=ps.length)(p:∀(A:xg) (outer:List Env) (s:zi) (H:Hp) (vs:List V) (Q:VK) (E:XK),Room k (A.deeper<|envX qual scope s.heap.objs.size f (.ref c) cl)->sp vs H Q E ->
   ∃t,PE (vO CX P w K mg base (ps++fs) qual scope f (.ref c) cl A outer s H E) body t/\t (vs.map some++fv.map some) H Q):
  FnOk P w K mg base CX (k+1) f (kla_fn name qual params body scope cl pm (.ref c) ctv) ps sp:=by
 refine⟨m,λA outer s H T us vs Q E g d n r i=>?_⟩;have B:=m _ _ _ _ i;have l:∀b o,base.get? b=some o->s.heap.get? b=some o:=λb o e=>(d.bs b o e).1;have O:s.heap.NoLimit:=d.mod.nolimit.keeps l;have z:s.heap.CodeRec (.ref c) qual:=(d.hok c _<|y _ _ _ _ i).1;refine PySem.W.kla_callFunE g.depth (l _ _ F) rfl S.co S.gen rfl z<|n _ _ _ _ ?_;refine wpAny_newFunctionEnv S.nocell (λx M=>S.par _ (of_mem_zip M).1) (λN D J=>?_) S.kind;have j:∀b o,s.heap.get? b=some o->N.get? b=some o:=λb o e=>J.extBut b o (ne_of_lt<|lt_size e)<|get?_push_of_some _ e;refine⟨O.keeps j,PySem.W.kla_codeExpr ?_⟩;obtain⟨t,L,G⟩:=p A outer s H vs Q E (g.deeper _) i;have I:=vP (CX:=CX) (P:=P) (w:=w) (K:=K) (mg:=mg) (qual:=qual) (f:=f) (c:=c) (E:=E) (tk:=s.toks+(ps.zip us).length) S C g.hd d B r D j;exact wpAny_mono (L [] _ _ H _ I G) (λu s' ⟨v,H',a,R,q⟩=>⟨v,H',a.os,a.bare,a.base,a.hok,R,q⟩) λe s' h=>h
end
theorem tN{P:xx}{w:qq}{K:Frag}{mg O:Str->Option zt}{k:Nat}{N a:zo}{T:xl}{x:Str}{sp:Sp}{s₁:zi}{vs:List zt}{ns:List Int}{tabs:List zo}(R:K.In s₁.heap)(a0:s₁.heap.Ns mainGlobals mg)(f:s₁.heap.Ns builtinsNs O)(b7:∀x:Str,x≠"__name__"->O x=bootBuiltins x)(c1:s₁.heap.NoLimit)(c0:s₁.gens=#[])(p:∀t∈tabs,(∃c,CodeHd s₁.heap c t)/\s₁.heap.get? t=some (tabObj #[]))(b4:∀t∈tabs,K.lookup t=none)(b9:BmB s₁.heap mg)(y:s₁.heap.get? a=some {cls:=.type "list",data:=.seq vs.toArray})(Y:IntsAre vs ns)(Z:ns.length<=sizeLine)(c2:Room k callerA)(F:∀base:qa,K.In base->base.Ns mainGlobals mg->BmB base mg->FnOk P w K mg base CX0 k N T [x] sp)(b8:∀(s:zi) (u:zt),BindsTo s T ⟨[u],[]⟩ [(x,u)])(c3:∀H:Hp,SqL K H a (ns.map V.int)->(∀t∈tabs,H t=some (.tbl #[]))->sp [.ref a] H (λv _=>v=.bl true) λ_ _ _=>False):
  codeAny (model P w) callerA (.call (.ref N) ⟨[.ref a],[]⟩) (λr s'=>r=.ok (.ret<|.bool true)/\OldK s₁.heap s'.heap/\s'.os=s₁.os/\AllBare s'.gens) s₁:=by
 have a4:=lA Y;have c4:=Y.length;have c6:a∉tabs:=λh=>by
  have:=(p a h).2;rw[y]at this;cases this
 have S:∀(H:Hp),SqL K H a (ns.map V.int)->HOk P w H s₁.heap->(∀t∈tabs,H t=some (.tbl #[]))->(∀b o,H b=some o->(b=a/\K.lookup a=none/\∃Q xs,o=.frz Q (.lst xs))\/b∈tabs) ->
   codeAny (model P w) callerA (.call (.ref N) ⟨[.ref a],[]⟩) (λr s'=>r=.ok (.ret<|.bool true)/\OldK s₁.heap s'.heap/\s'.os=s₁.os/\AllBare s'.gens) s₁:=by
  intro H b6 a1 X E;have L:∀{b:zo}{o:Obj},s₁.heap.get? b=some o->H b=none->(kK s₁.heap H).get? b=some o:=λe n=>ua e n;have c7:∀{b:zo}{o:Obj}{es:Array DictEntry}{D:Nat},s₁.heap.get? b=some o->o.data=.dict es D->H b=none:=λ{b o es D} e d=>by
   cases q:H b with
   |none=>rfl
   |some u =>
    rcases E b u q with⟨l,_⟩|i
    ·subst l;rw[y]at e;cases e;cases d
    ·rw[(p b i).2]at e;cases e;cases d
  have G:∀{b:zo}{m:Str->Option zt},s₁.heap.Ns b m->(kK s₁.heap H).Ns b m:=λ{b m} ⟨o,es,D,e,d,r⟩=>⟨o,es,D,L e<|c7 e d,d,r⟩;have U:K.In (kK s₁.heap H):=λb o e=>L (R b o e) (by
   cases q:H b with
   |none=>rfl
   |some u =>
    rcases E b u q with⟨l,B,_⟩|i
    ·subst l;rw[B]at e;cases e
    ·rw[b4 b i]at e;cases e)
  have b5:Mod K mg (kK s₁.heap H):=⟨U,G a0,⟨O,G f,b7⟩,let⟨c5,h1,h2⟩:=c1;⟨c5,G h1,h2⟩⟩;have b0:Env0 P w K mg (kK s₁.heap H) callerA [] s₁ H:=⟨rfl,b5,λb o e=>xp e,le_of_eq<|su _ _,trivial,λb f=>absurd (show b∈([]:List zo)from f) (by simp),a1,.of_eq c0⟩;have b3:BmB (kK s₁.heap H) mg:=by
   obtain⟨bm,o,a5,a6,z,a7,a8,J⟩:=b9;refine⟨bm,o,a5,a6,L z ?_,a7,a8,J⟩;cases q:H bm with
   |none=>rfl
   |some u =>
    rcases E bm u q with⟨l,_⟩|i
    ·subst l;rw[y]at z;cases z;cases J
    ·rw[(p bm i).2]at z;cases z;cases J
  refine codeAny_mono ((F _ U (G a0) b3).run callerA [] s₁ H ⟨[.ref a],[]⟩ [.ref a] [.ref a] _ _ c2 b0 (b8 s₁<|.ref a) (.cons rfl .nil) (c3 H b6 X)) λr s' h=>?_;cases r with
  |error e=>exact False.elim h
  |ok b2 =>
   cases b2 with
   |next=>exact False.elim h
   |brk=>exact False.elim h
   |cont=>exact False.elim h
   |ret u =>
    obtain⟨v,H',os,a9,un,a2,c9,q⟩:=h;have c8:v=.bl true:=q;subst c8;obtain rfl:u=Value.bool true:=c9;refine⟨rfl,⟨λb o e=>?_,λb o e=>?_⟩,os,a9⟩
    ·cases q:H b with
     |none=>exact .inl<|un.keep b o e q (by intro g;exact absurd (show b∈([]:List zo)from g) (by simp)) (by simp)
     |some u =>
      rcases E b u q with⟨l,_,Q,xs,g⟩|i
      ·subst g;have d0:=un.frzs b Q _ q;obtain⟨A,_⟩:=a1 b _ q;obtain⟨M,_⟩:=a2 b _ d0;rw[e]at A;cases A;exact .inl M
      ·obtain⟨⟨c,C⟩,A⟩:=p b i;obtain⟨a3,M⟩:=un.tbls b _<|X b i;have b1:s'.heap.get? b=some (tabObj<|#[]++a3):=a2 b _ M;rw[e]at A;cases A;exact .inr<|.inl ⟨(C.tab e).isCodeTable,rfl,#[],a3,rfl,b1⟩
    ·exact un.there b o e (by simp)
 cases B:K.lookup a with
 |some o =>
  have e:=R a o B;rw[y]at e;cases e;refine S (λb=>if b∈tabs then some (.tbl #[])else none) (.inr ⟨_,vs.toArray,_,B,rfl,rfl,rfl,by rw[size_toArray,c4];exact Z,by simpa using a4⟩) (λb u g=>?_) (λt h=>if_pos h) λb o g=>?_
  ·by_cases f:b∈tabs
   ·have j:=(if_pos f).symm.trans g;cases j;exact(p b f).2
   ·have j:=(if_neg f).symm.trans g;cases j
  ·by_cases f:b∈tabs
   ·exact .inr f
   ·have j:=(if_neg f).symm.trans g;cases j
 |none =>
  refine S (λb=>if b=a then some (.frz {cls:=.type "list",data:=.seq vs.toArray} (.lst<|ns.map V.int))else if b∈tabs then some (.tbl #[])else none) (.inl<|.inr ⟨{cls:=.type "list",data:=.seq vs.toArray},if_pos rfl⟩) (λb u g=>?_) (λt h=>?_) λb o g=>?_
  ·by_cases f:b=a
   ·have j:=(if_pos f).symm.trans g;cases j;subst f;exact⟨y,by rw[length_map];exact Z,vs,_,a4,y⟩
   ·have I:=(if_neg f).symm.trans g
    by_cases i:b∈tabs
    ·have j:=(if_pos i).symm.trans I;cases j;exact(p b i).2
    ·have j:=(if_neg i).symm.trans I;cases j
  ·have:t≠a:=λg=>c6 (by rw[<-g];exact h);rw[if_neg this,if_pos h]
  ·by_cases f:b=a
   ·have j:=(if_pos f).symm.trans g;exact .inl ⟨f,B,_,_,(Option.some.inj j).symm⟩
   ·have I:=(if_neg f).symm.trans g
    by_cases i:b∈tabs
    ·exact .inr i
    ·have j:=(if_neg i).symm.trans I;cases j
theorem vS{l:PySem.W.OpenLaw}{n k:Nat}{q:xx}{U:List Str}{z:(Str->Option zt)->qa->Prop}{m:qq->qa->Prop}{d:DefRec}{K:Params->Frag}{sp:qq->Sp}{x:Str}{tabs:List zo}(O:l.most=some n)(P:n<=sizeLine)(J:d.params.defaults=[])(R:Room k callerA)(E:∀(w:qq) (h:qa),m w h->(K w.params).In h)(C:∀(w:qq) (h:qa),m w h->∀t∈tabs,h.get? t=some (tabObj #[]))(r:∀w:qq,∀t∈tabs,(∃c,codeHdIn (K w.params) c t=true)/\(K w.params).lookup t=none)(F:∀(w:qq) (mg:Str->Option zt) (i:zo) (h:qa),(K w.params).In h->h.Ns mainGlobals mg->mg d.name=some (.ref i) ->
   ∃fd:xl,(∀(s:zi) (u:zt),BindsTo s fd ⟨[u],[]⟩ [(x,u)]) /\
    ∀base:qa,(K w.params).In base->base.Ns mainGlobals mg->BmB base mg->FnOk l.prog w (K w.params) mg base CX0 k i fd [x] (sp w))(S:∀(w:qq) (H:Hp) (a:zo) (ns:List Int),ns.length<=n->SqL (K w.params) H a (ns.map V.int)->(∀t∈tabs,H t=some (.tbl #[]))->sp w [.ref a] H (λv _=>v=.bl true) λ_ _ _=>False):
  PySem.W.WalkO q U z m l.row.toRowW d [] (λf vs=>PySem.call f vs):=by
 refine Att.nU O J λw a3 a4 mg a2 i o pm X Y a vs ns G p a1 a0 Z N Q M y L=>?_;have j:=E w _ p;obtain⟨fd,I,A⟩:=F w mg i _ j G.T.g N;exact tN j G.T.g G.T.b G.T.builtins G.T.nolimit L (λt h=>⟨let⟨c,e⟩:=(r w t h).1;⟨c,codeHd_of_K j e⟩,C w _ p t h⟩) (λt h=>(r w t h).2) G.T.bmain Q M (le_trans y P) R A I λH B D=>S w H a ns y B D
theorem Fun.okT{P:xx}{w:qq}{K:Frag}{mg:Str->Option zt}{base:qa}{x qual:Str}{st:Stmt}{f c0:zo}{a:xl}{N ps:List Str}{k:Nat}{sp:Sp}(F:Fun K x qual st f a)(c:a.code=.ref c0)(S:FnScope N ps<|aj st)(i:∀vs H Q E,sp vs H Q E->vs.length=ps.length)(b:∀(A:xg) (outer:List Env) (s:zi) (H:Hp) (vs:List V) (Q:VK) (E:XK),Room k (A.deeper<|envOfC qual (aj st) s.heap.objs.size f (.ref c0))->sp vs H Q E ->
   ∃t,PSs (fO CX0 P w K mg base N qual (aj st) f (.ref c0) A outer s H E).nox (aZ st) t/\t {nx:=λ_ H'=>Q .non H',rt:=Q} (start N vs) H):FnOk P w K mg base CX0 (k+1) f a ps sp:=by
 obtain⟨o,p,kV,n,pm,l,cdv,m,r,rfl,j,d⟩:=F.ex;obtain rfl:cdv=.ref c0:=c;refine ux j d S i λA outer s H vs Q E e g=>?_;obtain⟨t,h,q⟩:=b A outer s H vs Q E e g;exact⟨t,h.nox,q⟩
theorem BmB.sub{base a:qa}{mg:Str->Option zt}(f:BmB base mg)(s:∀b o,base.get? b=some o->a.get? b=some o):BmB a mg:=let⟨bm,o,c,d,e,r⟩:=f;⟨bm,o,c,d,s _ _ e,r⟩
def jT(H:Hp):Nat->V->V->Prop
 |0,x,y=>x=y/\dJ x=true
 |n+1,x,y=>(x=y/\dJ x=true)\/∃a b xs ys,x=.ref a/\y=.ref b/\((H a=some (.tup xs)/\H b=some (.tup ys))\/(H a=some (.lst xs)/\H b=some (.lst ys)))/\xs.length=ys.length/\∀(i:Nat) x' y',xs[i]?=some x'->ys[i]?=some y'->jT H n x' y'
theorem bi{H:Hp}{n:Nat}{x y:V}(h:x=y/\dJ x=true):jT H n x y:=by
 cases n with
 |zero=>exact h
 |succ n=>exact .inl h
section
variable{X:Cx}{pins:List (zo×Obj)}{σ:St}{H:Hp}{s:zi}
theorem jl{us:List zt}{j:Nat}{u:zt}(a:j<us.toArray.size)(b:us[j]?=some u):us.toArray[j]=u:=by
 have:us[j]?=some us.toArray[j]:=by rw[getElem?_eq_getElem (by simpa using a)];simp
 rw[b]at this;exact(Option.some.inj this).symm
theorem tO(i:Inv X pins σ H s):∀(n:Nat){A:xg}{x y:V}{u v:zt},aw x u->aw y v->jT H n x y->A.units+n<cLine->EqAt A s u v true:=by
 intro n
 induction n with
 |zero =>
  intro A x y u v j k h w;obtain⟨e,f⟩:=h;subst e;have:=gk (A:=A) (s:=s) j k f f
  rwa [gZ f]at this
 |succ n F =>
  intro A x y u v j k h w;rcases h with⟨e,f⟩|⟨a,b,xs,ys,rfl,rfl,t,N,E⟩
  ·subst e;have:=gk (A:=A) (s:=s) j k f f
   rwa [gZ f]at this
  ·cases j;cases k
   by_cases m:a=b
   ·subst m;exact EqAt.same _
   ·have part:∀{us ws:List zt},aq xs us->aq ys ws->∀c (h1:c<us.toArray.size) (h2:c<ws.toArray.size),EqAt A.in1 s us.toArray[c] ws.toArray[c] true:=λ{us ws} d g c h1 h2=>by
     have p:c<xs.length:=by rw[d.length];simpa using h1
     have q:c<ys.length:=by rw[g.length];simpa using h2
     obtain⟨O,z,B⟩:=d.get<|getElem?_eq_getElem p;obtain⟨P,C,D⟩:=g.get<|getElem?_eq_getElem q;rw[jl h1 z,jl h2 C];exact F B D (E c _ _ (getElem?_eq_getElem p)<|getElem?_eq_getElem q) (by simp[Around.in1_units];omega)
    rcases t with⟨l,o⟩|⟨l,o⟩
    ·obtain⟨_,us,d,L⟩:=i.hok a _ l;obtain⟨_,ws,g,M⟩:=i.hok b _ o;have l1:=d.length;have l2:=g.length;have:=RcAt.tuples (A:=A) (s:=s) (e:=λ_=>true) L M (by omega)<|part d g;have r:((List.range<|min us.toArray.size ws.toArray.size).all (λ_=>true)&&us.toArray.size==ws.toArray.size)=true:=by
      have:us.toArray.size=ws.toArray.size:=by simp only[size_toArray];omega
      simp[this]
     rw[r]at this;exact EqAt.of_refs m this
    ·obtain⟨_,us,G,d,J⟩:=i.hok a _ l;obtain⟨_,ws,I,g,K⟩:=i.hok b _ o;have l1:=d.length;have l2:=g.length;have:=RcAt.lists (A:=A) (s:=s) (e:=λ_=>true) ⟨_,J,rfl,G,rfl⟩ ⟨_,K,rfl,I,rfl⟩ (by simp only[size_toArray];omega) (by omega)<|part d g;rw[show((List.range us.toArray.size).all λ_=>true)=true by rw[all_eq_true];intros;rfl]at this;exact EqAt.of_refs m this
def cz(H:Hp)(xs ys:List V):Prop:=xs.length=ys.length/\∀(i:Nat) x y,xs[i]?=some x->ys[i]?=some y->jT H 3 x y
theorem AA(E:X.A.units+4<cLine):OpR X (compareOp .Eq) (λx y H Q=>∃a b xs ys,x=.ref a/\y=.ref b/\cz H xs ys/\H a=some (.lst xs)/\H b=some (.lst ys)/\Q (.bl true) H):=by
 intro pins s σ H x y v u Q I B C h;obtain⟨a,b,xs,ys,rfl,rfl,g,k,l,q⟩:=h;cases B;cases C;obtain⟨_,us,r,i,w⟩:=I.hok a _ k;obtain⟨_,ws,t,j,z⟩:=I.hok b _ l;have D:=g.1;have l1:=i.length;have l2:=j.length;refine eq_listAt (e:=λ_=>true) ⟨_,w,rfl,r,rfl⟩ ⟨_,z,rfl,t,rfl⟩ (by simp only[size_toArray];omega) (by omega) (λc h1 h2=>?_) ⟨.bl true,H,I,?_,q⟩
 ·have d:c<xs.length:=by rw[l1];simpa using h1
  have f:c<ys.length:=by rw[l2];simpa using h2
  obtain⟨F,m,n⟩:=i.get<|getElem?_eq_getElem d;obtain⟨G,o,p⟩:=j.get<|getElem?_eq_getElem f;rw[jl h1 m,jl h2 o];exact tO I 3 n p (g.2 c _ _ (getElem?_eq_getElem d)<|getElem?_eq_getElem f) (by simp[Around.in1_units];omega)
 ·show _=Value.bool true;simp
end
end L2
namespace TK
open PySem L2
section
variable{P:xx}{w:qq}{K:Frag}{mg:Str->Option zt}{base:qa}
def cS(f:zo)(c:Sp):Sp:=λvs H Q _=>vs=[.ref f]/\c [] H (λv H1=>∃l xs,v=.ref l/\H1 l=some (.lst xs)/\xs.length<=100/\∀b,H1 b=none ->
 c [] (upd (upd H1 b<|.lst xs) l<|.lst (xs++[.str "?"])) (λd a=>∃l2 ys,d=.ref l2/\a l2=some (.lst ys)/\a b=some (.lst xs)/\cz a ys xs/\Q (.bl true) a) E0) E0
theorem mW:FnScope ["_law_deed","_law_told","_law_kept"] ["_law_deed"] (aj cJ):=fsM
theorem vT{g f:zo}{o b:xl}{oc:zt}{B:Option zo}{C:Array (Option zt)}{a:Sp}{k:Nat}(F:Fun K "_law_stays" "_law_stays" cJ g o)(T:Txt mg)(u:base.get? f=some ⟨oc,B,.func b,C⟩)(m:FnOk P w K mg base CX0 k f b [] a)(p:aE K b [] [])(x:∀(H:Hp) (Q n:VK),(∀v H',Q v H'->n v H')->a [] H Q E0->a [] H n E0):FnOk P w K mg base CX0 (k+1) g o ["_law_deed"] (cS f a):=by
 refine F.ok mW (λvs H Q E h=>?_) λcdv A outer s H vs Q E d h=>?_
 ·obtain⟨rfl,_⟩:=h;rfl
 ·obtain⟨rfl,h⟩:=h;have z:=vk d;refine⟨_,ai (aA (i:=1) mW.nd rfl (Or.inl rfl)<|lO (pv 0) u m d p aJ)
   (ai (cZ (lV<|pF (aF iQ rfl T.isin boot_isinstance<|aa (pv 1) (aa (qQ (v:=.ty "list") rfl T.list boot_list rfl) af)) (λ_=>rfl)) (am<|aH ud) bj)
   (ai (aA (i:=2) mW.nd rfl (Or.inl rfl)<|aS mq rfl T.list boot_list (aa (pv 1) af))
   (ai (aQ<|cn plainAttrs_list PySem.F.slot_list_append PySem.F.type_list_append aM (pv 1) (aa dX af))
   (am<|aH (gF (AA z) (lO (pv 0) u m d p aJ) (pv 2)<|bz _))))),?_⟩
  refine⟨_,rfl,rfl,x _ _ _ (λv H1 e=>?_) h⟩;obtain⟨l,xs,rfl,c,G,y⟩:=e;refine⟨_,rfl,_,_,_,_,rfl,.lst c,(by kernel_rfl:_=some true),_,rfl,dM ?_⟩;refine⟨_,rfl,l,xs,rfl,.inl<|SqL.of c,λj r=>?_⟩;have t:upd H1 j (.lst xs) l=some (.lst xs):=ca r c;refine⟨_,rfl,.inl ⟨rfl,_,SqL.of t⟩,l,_,_,rfl,rfl,t,au (by omega),?_⟩;refine⟨_,rfl,rfl,x _ _ _ (λI D e=>?_)<|y j r⟩;obtain⟨l2,ys,rfl,h1,h2,h3,q⟩:=e;exact⟨_,rfl,l2,j,ys,xs,rfl,rfl,h3,h1,h2,q⟩
end
end TK
namespace L2
open PySem
theorem fsc{N P:List Str}{sc:Scope}(a:sc.kind=.function:=by rfl)(h2:sc.isCoroutine=false:=by rfl)(b:sc.isGenerator=false:=by rfl)(c:N.Nodup:=by decide +kernel)(d:N.take P.length=P:=by rfl)(e:∀x∈P,sc.names.lookup x=some .local\/sc.names.lookup x=some .cell:=by decide +kernel)(f:∀y∈sc.names,y.2≠.free:=by decide +kernel):FnScope N P sc:=⟨a,h2,b,c,d,e,f⟩
section
variable{X:Cx}{scope:Scope}{x:Str}{px pos:Pos}{elt iter c:Expr}{wi:TI}{te:TE}{tc:TT}{cl:List (Str×zo)}{js:List Nat}{fs:List Str}
structure LcF(X:Cx)(scope:Scope)(x:Str)(px:Pos)(cl:List<|Str×zo)(js:List Nat)(fs:List Str):Prop where
 c:X.calm=true
 L:LcOk X scope cl
 n:(x::fs).length=1+js.length
 j:∀(i j:Nat) y,js[i]?=some j->(x::fs)[1+i]?=some y->X.N[j]?=some y/\Vis X.env.scope y/\X.env.scope.names.lookup y≠some .local/\((relabel scope X.env).names.lookup y=some .cell\/(relabel scope X.env).names.lookup y=some .free)
 g:∀s H fp,PG (cg X (x::fs) scope cl s H fp) (.Name x px)<|br 0
theorem lcF(q:X.calm=true:=by rfl)(d:scope.kind=.function:=by rfl)(h2:closureFor scope X.env=pure cl:=by rfl)(f:∀x∈scope.names,x.2=.local->scope.names.lookup x.1=some .local:=by decide +kernel)(g:∀x∈scope.names,x.2≠.cell:=by decide +kernel)(j:∀y∈cl,X.env.cells.lookup y.1=some y.2:=by intro y a;repeat (first|cases a;done|(rcases mem_cons.mp a with e|a;· rw[e];rfl)))(k:cl.map (·.1)=fs.reverse:=by rfl)(l:scope.names.all (λy=>!(y.2==.free)||fs.reverse.contains y.1)=true:=by decide +kernel)(m:(x::fs).length=1+js.length:=by rfl)(o:∀p∈js.zip fs,X.N[p.1]?=some p.2/\Vis X.env.scope p.2/\X.env.scope.names.lookup p.2≠some .local/\((relabel scope X.env).names.lookup p.2=some .cell\/(relabel scope X.env).names.lookup p.2=some .free):=by intro p b;repeat (first|cases b;done|(rcases mem_cons.mp b with e|b;· rw[e];exact⟨rfl,Or.inr<|Or.inl rfl,(λh=>by first|exact absurd (show some NameKind.cell=some NameKind.local from h) (by decide)|exact absurd (show some NameKind.free=some NameKind.local from h) (by decide)),by first|exact Or.inl rfl|exact Or.inr rfl⟩)))(u:(x::fs).Nodup:=by decide +kernel)(t:∀n,Loc (compEnvC scope cl n X.env).scope x:=by intro _;exact Or.inl rfl)(r:∀n,(compEnvC scope cl n X.env).scope.names.lookup x=some .local:=by intro _;rfl):LcF X scope x px cl js fs :=
 ⟨q,LcOk.mk' fs.reverse d h2 f g j k l,m,λi c y hi a=>o (c,y) (by
  rw[show(x::fs)[1+i]?=fs[i]? by rw[Nat.add_comm];rfl]at a;exact mem_of_getElem? (List.getElem?_zip_eq_some.mpr ⟨hi,a⟩:(js.zip fs)[i]?=some (c,y))),λs H fp=>aB (i:=0) u rfl (t _)<|.inr (r _)⟩
theorem vU(a:LcF X scope x px cl js fs)(d:PI X (.Name x px) iter wi)(b:∀s H fp,PE (cg X (x::fs) scope cl s H fp) elt te)(e:∀x,foldedSetIterable iter X.env x=pure x:=by intro _;rfl):PE X (.ListComp elt [⟨.Name x px,iter,[],0⟩] scope pos) (tLc 1 js wi (br 0) te):=fY a.c a.L a.n a.j d a.g b e
theorem ixT{a b:Expr}{c d:TE}(K:Frag)(f:PE X a c)(g:PE X b d)(h:qY b:=by exact λ_ _=>rfl)(e:X.K=K:=by rfl):PE X (.Subscript a b pos) (tOp (iY K) c d):=by
 subst e;exact bD bv f g h
end
end L2
namespace TK
open PySem L2
theorem yB{X:Cx}{k:Nat}{y:Str}{ps:List Str}{sp:Sp}{e:Expr}{a:List Expr}{p pos:Pos}{t:TA}(C:Has X.prog X.w X.K X.mg X.base k y ps sp)(j:Room k X.A)(c:PA X (e::a) t)(h:Gl X y:=by rfl)(d:(y==("__debug__":Str))=false:=by decide)(g:starEach (e::a) X.env=(false,eval e X.env)::starEach a X.env:=by rfl)(i:(backTo pos<|starEach a X.env).any (·.1)=false:=by rfl):
  PE X (.Call (.Name y p) (e::a) [] pos) (uv sp [] E0 t):=by
 obtain⟨f,fd,G,m,l,b⟩:=C;exact ax G j h m l b .nil aJ c d g i
theorem _root_.L2.Fun.okA{P:xx}{w:qq}{K:Frag}{mg:Str->Option zt}{base:qa}{x qual:Str}{st:Stmt}{f:zo}{a:xl}{N ps:List Str}{k:Nat}{sp:Sp}(F:Fun K x qual st f a)(S:FnScope N ps<|aj st)(b:∀(cdv:zt) (A:xg) (outer:List Env) (s:zi) (H:Hp) (vs:List V) (Q:VK) (E:XK),Room k (A.deeper<|PyProof.Rows.envOfC qual (aj st) s.heap.objs.size f cdv)->sp vs H Q E ->
   ∃t,PSs (fO CX0 P w K mg base N qual (aj st) f cdv A outer s H E).nox (aZ st) t/\t {nx:=λ_ H'=>Q .non H',rt:=Q} (start N vs) H)(c:∀vs H Q E,sp vs H Q E->vs.length=ps.length:=by intro vs H Q E h;repeat first|(obtain⟨rfl,_⟩:=h;rfl)|obtain⟨_,h⟩:=h):FnOk P w K mg base CX0 (k+1) f a ps sp:=F.ok S c b
end TK
namespace L2
open PySem PySem.Spec PyProof.Rows
section
variable{prog:xx}{w:qq}{K:Type}[DecidableEq K](knd:PySem.KeyKind prog w K)
inductive RefsAre(h:qa):List (List K)->List zt->Prop
 |nil:RefsAre h [] []
 |cons {k:List K} {a:zo} {ks:List (List K)} {vs:List zt}:IsTupleKey knd h k a->RefsAre h ks vs->RefsAre h (k::ks) (.ref a::vs)
def bX(b:qa)(ks:List<|List K)(a:zo):Prop:=∃o c n,b.get? a=some o/\o.cls=.type "tuple"/\o.data=.seq c n/\RefsAre knd b ks c.toList
variable{knd}
theorem RefsAre.inj{a:qa}{x y:List (List K)}{vs:List zt}(c:RefsAre knd a x vs)(b:RefsAre knd a y vs):x=y:=by
 induction c generalizing y with
 |nil=>cases b;rfl
 |cons h1 _ d =>
  cases b with
  |cons h2 e=>rw[h1.inj h2,d e]
theorem RefsAre.mono{b h':qa}(m:∀k a,IsTupleKey knd b k a->IsTupleKey knd h' k a){x:List (List K)}{vs:List zt}(c:RefsAre knd b x vs):RefsAre knd h' x vs:=by
 induction c with
 |nil=>exact .nil
 |cons h1 _ d=>exact .cons (m _ _ h1) d
theorem bX.typeIs{s:zi}{ks:List (List K)}{a:zo}(x:bX knd s.heap ks a):s.TypeIs (.ref a) "tuple":=let⟨o,_,_,c,b,_⟩:=x;⟨o,c,b⟩
theorem bX.inj{b:qa}{a:zo}{x y:List (List K)}(h:bX knd b x a)(i:bX knd b y a):x=y:=by
 obtain⟨o,j,n,f,_,d,hi⟩:=h;obtain⟨o',k,l,g,_,c,e⟩:=i;obtain rfl:o=o':=Option.some.inj<|f.symm.trans g;rw[d]at c;injection c with h1 _
 subst h1;exact hi.inj e
theorem bX.keeps{c h':qa}{ks:List (List K)}{a d:zo}{o:Obj}{es ep}(x:bX knd c ks a)(g:c.get? d=some o)(f:o.data=.dict es ep)(i:SameBut d c h'):bX knd h' ks a:=by
 obtain⟨o',p,n,h,l,e,hi⟩:=x;have m:a≠d:=by
  rintro rfl;obtain rfl:o'=o:=Option.some.inj<|h.symm.trans g;rw[f]at e;exact nomatch e
 exact⟨o',p,n,(i.2 a m).trans h,l,e,hi.mono λk b j=>j.keeps g f i⟩
def vV(knd:PySem.KeyKind prog w K)(ks:List<|List K):Int:=reduceHash<|Builtin.Tuple.tupleHashOf (ks.map<|tupleKeyHash knd)
def qt(ks:List<|List K):Nat:=(ks.map λk=>k.length+1).sum+1
variable{A:xg}{E:zt->zi->Prop}{s:zi}
theorem oR{ks:List (List K)}{a:zo}{Q:Int->zi->Prop}(m:A.units+4<cLine)(i:bX knd s.heap ks a)(d:Q (vV knd ks) {s with toks:=s.toks+qt ks}):wpAny (model prog w) A (pyHash<|.ref a) Q E s:=by
 have e:=i.typeIs;obtain⟨o,p,n,l,_,j,hi⟩:=i;unfold pyHash
 first|unfold pyHashByItsType|skip
 first|refine Wb (wpAny_cRoomFor_or (.inr (by omega)) ?_)|skip
 refine Wb<|wpAny_specialOf e F.slot_tuple_hash.lookup ?_;show wpAny _ _ (if (some (builtin "tuple.__hash__")==some Value.none)=true then _ else _) Q E s
 rw[if_neg (by rw[beq_builtin_none];exact Bool.false_ne_true)];refine Wb<|wpAny_specialOf e F.slot_tuple_hash.lookup ?_;show wpAny _ _ (callSpecialIfBoundUnlessNone? (.ref a) "__hash__" _ >>= _) Q E s;refine Wb<|wpAny_callSpecialIfBoundUnlessNone?_slot e F.slot_tuple_hash (wpAny_call_entry F.slot_tuple_hash e F.entry_tuple_hash ?_<|F.args_tuple_hash_1 _);show wpAny _ _ (Builtin.Tuple.tupleItemsOf (.ref a) >>= _) _ _ s;refine Wb<|wpAny_tupleItemsOf l j ?_;refine Wb ?_;rw[<-forIn_toList];refine wpAny_forIn_list _
  (λrest (b:Array Int) s'=>∃done left,ks=done++left/\RefsAre knd s.heap left rest/\b.toList=done.map (tupleKeyHash knd)/\s'={s with toks:=s.toks+(done.map λk=>k.length+1).sum})
  _ ?_ ?_ _ _ ⟨[],ks,rfl,hi,rfl,rfl⟩
 ·rintro x rest b s' ⟨done,left,rfl,h,f,rfl⟩;cases h with
  |@cons k c ks' _ h1 hl' =>
   refine Wb<|wpAny_pyHash_tuple (ks:=k) (by first|omega|(simp;omega)) h1 ?_
   first
    |exact Wp ⟨done++[k],ks',by simp,hl',by simp[f],by simp[add_assoc]⟩
    |exact Wb<|Wp (Wp ⟨done++[k],ks',by simp,hl',by simp[f],by simp[add_assoc]⟩)
 ·rintro b s' ⟨done,left,rfl,h,f,rfl⟩;cases h;rw[append_nil]at d;show wpAny _ _ (retInt<|Builtin.Tuple.tupleHashOf b.toList) _ _ _;rw[f];refine wpAny_ret_mkInt ?_;show wpAny _ _ (if (decide (-(2:Int) ^ 63<=Builtin.Tuple.tupleHashOf (done.map<|tupleKeyHash knd))&&decide (Builtin.Tuple.tupleHashOf (done.map<|tupleKeyHash knd)<2 ^ 63))=true then _ else _) Q E _
  unfold vV reduceHash qt at d
  by_cases g:(decide (-(2:Int) ^ 63<=Builtin.Tuple.tupleHashOf (done.map<|tupleKeyHash knd))&&decide (Builtin.Tuple.tupleHashOf (done.map<|tupleKeyHash knd)<2 ^ 63))=true
  ·rw[if_pos g];rw[if_pos g]at d;exact Wp (by simpa [add_assoc]using d)
  ·rw[if_neg g];rw[if_neg g]at d;exact Wb<|wpAny_rule (Wp (by simpa [add_assoc]using d))
theorem vW{x y:List (List K)}{a b:zo}{P:PySem.Fin->zi->Prop}(J:A.units+2<cLine)(I:bX knd s.heap x a)(p:bX knd s.heap y b)(j:P (.done<|.ret (.bool<|decide (x=y))) s):
  wpAny (model prog w) A (Builtin.«tuple.__eq__» ⟨[.ref a,.ref b],[]⟩) P E s:=by
 have q:=p.typeIs;obtain⟨N,xs,L,G,_,t,D⟩:=I;obtain⟨O,ys,M,H,_,z,F⟩:=p;show wpAny _ _ (isInstance (.ref b) (.type "tuple") >>= _) _ _ s;refine Wb<|wpAny_isInstance q isSubtype_tuple_tuple ?_;simp only[Bool.not_true,false_eq_true,if_false];refine Wb<|wpAny_tupleItemsOf G t ?_;refine Wb<|wpAny_tupleItemsOf H z ?_;refine Wb ?_;refine wpAny_forIn_list _
  (λrest r s'=>r.1=none/\s'=s/\∃h i d e,rest=List.zip d e/\RefsAre knd s.heap h d/\RefsAre knd s.heap i e/\decide (h=i)=decide (x=y)/\(d.length==e.length)=(xs.size==ys.size))
  _ ?_ ?_ _ _ ⟨rfl,rfl,x,y,xs.toList,ys.toList,rfl,D,F,rfl,by simp⟩
 ·rintro⟨u,v⟩ rest r s' ⟨m,rfl,h,i,d,e,c,n,g,f,l⟩;cases n with
  |nil=>simp at c
  |@cons k1 u' x'' xs'' h1 hx'' =>
   cases g with
   |nil=>simp at c
   |@cons k2 v' y'' ys'' h2 hy'' =>
    simp only[zip_cons_cons,List.cons.injEq,Prod.mk.injEq]at c;obtain⟨⟨rfl,rfl⟩,rfl⟩:=c;refine Wb<|wpAny_eqBool_tuple (x:=k1) (y:=k2) (by omega) h1 h2 ?_
    by_cases k:k1=k2
    ·subst k;rw[decide_eq_true rfl];simp only[Bool.not_true,false_eq_true,if_false];refine Wp ⟨rfl,rfl,x'',y'',xs'',ys'',rfl,hx'',hy'',?_,by simpa using l⟩
     rw[<-f]
     by_cases o:x''=y''
     ·simp[o]
     ·simp[o]
    ·rw[decide_eq_false k];simp only[Bool.not_false,if_true];have B:decide (x=y)=false:=by rw[<-f];simp[k]
     rw[B]at j;exact Wb<|Wp (Wp<|Wp j)
 ·rintro⟨Q,R⟩ s' ⟨m,rfl,h,i,d,e,c,n,g,f,l⟩;simp only at m;subst m;refine Wp ?_;have C:(xs.size==ys.size)=decide (x=y):=by
   rw[<-f,<-l];cases n with
   |nil =>
    cases g with
    |nil=>simp
    |cons _ _=>simp
   |cons _ _ =>
    cases g with
    |nil=>simp
    |cons _ _=>simp at c
  show P (.done<|.ret (.bool<|xs.size==ys.size)) s';rw[C];exact j
theorem oS{x y:List (List K)}{a b:zo}{Q:Bool->zi->Prop}(h:A.units+4<cLine)(c:bX knd s.heap x a)(f:bX knd s.heap y b)(g:Q (decide<|x=y) s):
  wpAny (model prog w) A (eqBool (.ref a)<|.ref b) Q E s:=by
 unfold eqBool
 try with_reducible refine wpAny_holding ?_
 show wpAny _ _ (if (Value.ref a==Value.ref b)=true then _ else _) Q E s
 by_cases d:(Value.ref a==Value.ref b)=true
 ·rw[if_pos d];have e:a=b:=by have:=eq_of_beq d;injection this
  subst e;obtain rfl:=c.inj f;exact Wb<|wpAny_rule (Wp (by simpa using g))
 ·rw[if_neg d];exact Wb (wpAny_richCompare_same_room (op:=.Eq) c.typeIs f.typeIs F.slot_tuple_eq
   (wpAny_call_entry F.slot_tuple_eq c.typeIs F.entry_tuple_eq (vW (by first|omega|(simp;omega)) c f ⟨_,rfl,(λe=>nomatch e),wpAny_truthy_bool g⟩)<|F.args_tuple_eq_2 _ _) (by omega))
theorem AB{m:Nat}{ks:List K}{a:zo}{Q:Bool->zi->Prop}(e:IsTupleKey knd s.heap ks a)(f:Q true s):wpAny (model prog w) A (eqIsQuiet (m+1)<|.ref a) Q E s:=by
 have c:=e.typeIs;obtain⟨o,j,n,h,_,g,hi⟩:=e;unfold eqIsQuiet;refine Wb<|wpAny_specialOf c F.slot_tuple_eq.lookup ?_;show wpAny _ _ (isInstance (.ref a) (.type "tuple") >>= _) _ _ s;refine Wb<|wpAny_isInstance c isSubtype_tuple_tuple ?_;simp only[Bool.not_true,false_eq_true,if_false];refine Wb<|wpAny_seqItems h g ?_;refine Wb ?_;show wpAny _ _ (forIn j _ _) _ _ s;rw[<-forIn_toList];refine wpAny_forIn_list _ (λrest r s'=>r.1=none/\s'=s/\∀v∈rest,carriedByValue v=true) _ ?_ ?_ _ _ ⟨rfl,rfl,hi.byValue⟩
 ·rintro v rest r s' ⟨b,rfl,d⟩;rw[eqIsQuiet_byValue _<|d v mem_cons_self];refine Wb<|Wp ?_;simp only[Bool.not_true,false_eq_true,if_false];exact Wp ⟨rfl,rfl,λu i=>d u<|mem_cons_of_mem _ i⟩
 ·rintro⟨k,l⟩ s' ⟨b,rfl,_⟩;simp only at b;subst b;exact Wp f
theorem AC{ks:List (List K)}{a:zo}{Q:Bool->zi->Prop}(d:bX knd s.heap ks a)(e:Q true s):wpAny (model prog w) A (eqIsQuiet 8<|.ref a) Q E s:=by
 have c:=d.typeIs;obtain⟨o,i,n,h,_,g,hi⟩:=d;unfold eqIsQuiet;refine Wb<|wpAny_specialOf c F.slot_tuple_eq.lookup ?_;show wpAny _ _ (isInstance (.ref a) (.type "tuple") >>= _) _ _ s;refine Wb<|wpAny_isInstance c isSubtype_tuple_tuple ?_;simp only[Bool.not_true,false_eq_true,if_false];refine Wb<|wpAny_seqItems h g ?_;refine Wb ?_;show wpAny _ _ (forIn i _ _) _ _ s;rw[<-forIn_toList];refine wpAny_forIn_list _ (λrest r s'=>r.1=none/\s'=s/\∃x,RefsAre knd s.heap x rest) _ ?_ ?_ _ _ ⟨rfl,rfl,ks,hi⟩
 ·rintro v rest r s' ⟨b,rfl,x,f⟩;cases f with
  |cons h1 h2 =>
   refine Wb<|AB (m:=6) h1 ?_;simp only[Bool.not_true,false_eq_true,if_false];exact Wp ⟨rfl,rfl,_,h2⟩
 ·rintro⟨j,k⟩ s' ⟨b,rfl,_⟩;simp only at b;subst b;exact Wp e
end
def jU{prog:xx}{w:qq}{K:Type}[DecidableEq K](knd:PySem.KeyKind prog w K):HeapKind prog w (List<|List K) where
 is:=bX knd
 hash:=vV knd
 draws:=qt
 room:=λA=>A.units+4<cLine
 inj:=λc d=>c.inj d
 keeps:=λx f e g=>x.keeps f e g
 pyHash:=λb a h=>oR b a h
 eqBool:=λb c d h=>oS b c d h
 quiet:=λa h=>AC a h
section
variable{prog:xx}{w:qq}{K:Type}[DecidableEq K]{knd:HeapKind prog w K}{A:xg}{E:zt->zi->Prop}{s:zi}
theorem oT{d a:zo}{xs:List (K×zo×zt)}{k:K}{v:zt}{Q:zt->zi->Prop}(n:knd.room A)(h:knd.is s.heap k a)(u:s.heap.DictOfH knd d xs)(D:∀p,atKey xs k=some p->Q p.2 {s with toks:=s.toks+knd.draws k})(C:atKey xs k=none->∀h',h'.DictOfH knd d (xs++[(k,a,v)])->SameBut d s.heap h'->Q v {s with heap:=h',toks:=s.toks+knd.draws k})(hsz:xs.length<=sizeLine):
  wpAny (model prog w) A (dictSetDefault d (.ref a) v) Q E s:=by
 obtain⟨o,es,r,f,t,c,g,j,i⟩:=u;unfold dictSetDefault
 try with_reducible refine wpAny_holding ?_
 refine Wb<|knd.pyHash n h ?_;refine Wb<|wpAny_dictFind_heap (s:={s with toks:=s.toks+knd.draws k}) n h f c g j i ?_ ?_
 ·intro m;have z:k∉xs.map (·.1):=not_mem_keys_of_get m;refine Wb (wpAny_rule<|Wb (wpAny_updateDictKeys (hz:=by have e:=size_of_entries g;omega) (s:={s with toks:=s.toks+knd.draws k}) f c<|Wp (C (atKey_none_of_get m) _ ⟨_,_,r+1,get?_update_self _ f<|Obj.isFreed_of_dict (Obj.data_mapDictKeys c _),
   t.mapDictKeys _,Obj.data_mapDictKeys c _,?_,?_,?_⟩<|SameBut.update ..)))
  ·simp[g,entryOfKey]
  ·intro x b;rcases mem_append.mp b with b|b
   ·exact knd.keeps (j x b) f c<|SameBut.update ..
   ·simp only[mem_singleton]at b;subst b;exact knd.keeps h f c<|SameBut.update ..
  ·rw[map_append,nodup_append];refine⟨i,by simp,?_⟩;intro x b y q;simp only[map_cons,map_nil,mem_singleton]at q;subst q;exact λe=>z (e ▸ b)
 ·intro B p l;refine Wb<|wpAny_dictEntries (s:={s with toks:=s.toks+knd.draws k}) f c ?_;rw[entry_at g B,l];exact Wb<|wpAny_rule (Wp<|D p (atKey_of_get i l))
theorem lc{d a:zo}(v:zt)(c:(d==sysModules)=false):
  MeetsIn prog w (Builtin.«dict.setdefault» ⟨[.ref d,.ref a,v],[]⟩) (λA R s=>knd.room A.in1/\∃xs k,knd.is s.heap k a/\s.heap.DictOfH knd d xs/\xs.length<=sizeLine /\
   (∀p,atKey xs k=some p->R (.ok<|.ret p.2) {s with toks:=s.toks+knd.draws k}) /\
   (atKey xs k=none->∀h',h'.DictOfH knd d (xs++[(k,a,v)])->SameBut d s.heap h'->R (.ok<|.ret v) {s with heap:=h',toks:=s.toks+knd.draws k})) :=
 .of_wp λA R s ⟨j,xs,k,e,b,l,h1,h2⟩=>by
  unfold Builtin.«dict.setdefault»;refine Wb ?_;unfold Builtin.Dict.keyAndDefault;refine Wb<|wpAny_notOrdered_dict b.typeIs ?_;show wpAny _ _ (pure (d,Value.ref a,some v)) _ _ s;refine Wp ?_;show wpAny _ _ (if (d==sysModules)=true then _ else (dictSetDefault d (.ref a) v >>= _)) _ _ s
  rw[if_neg (by rw[c];exact Bool.false_ne_true)];exact Wb<|oT j e b (λp h=>Wp ⟨p.2,rfl,h1 p h⟩) (λg h' f i=>Wp ⟨v,rfl,h2 g h' f i⟩) l
end
abbrev oU:=Option Key
def nV:oU->V
 |none=>.non
 |some k=>kV k
abbrev bf:=List<|List oU
def dU(H:Hp)(a:zo)(k:bf):Prop:=∃bs:List zo,H a=some (.tup<|bs.map V.ref)/\Paired (λ(ks:List oU) (b:zo)=>H b=some (.tup<|ks.map nV)) k bs
theorem dU.same{H H':Hp}{a:zo}{k:bf}(s:Same H H')(h:dU H a k):dU H' a k:=by
 obtain⟨bs,h1,h2⟩:=h;exact⟨bs,s _ _ h1,Paired.imp' (λks b e=>s _ _ e) h2⟩
def D2(P:xx)(w:qq)(d:zo)(kvs:List<|bf×zo×Int)(b:qa):Prop:=(d==sysModules)=false/\∃xs:List<|bf×zo×zt,Paired (λ(p:bf×zo×Int) (q:bf×zo×zt)=>p.1=q.1/\p.2.1=q.2.1/\∃t,q.2.2=.int p.2.2 t) kvs xs /\
 ∃o es a,b.get? d=some o/\o.ExactDict/\o.data=.dict es a/\es.toList=xs.map (entryOfKey<|jU (lG P w))/\(xs.map (·.1)).Nodup
theorem D2.stay{P:xx}{w:qq}{d:zo}{kvs:List (bf×zo×Int)}:∀h1 h2:qa,D2 P w d kvs h1->(∀o,h1.get? d=some o->h2.get? d=some o)->D2 P w d kvs h2:=λh1 h2 ⟨b,xs,p,o,es,a,c,e⟩ k=>⟨b,xs,p,o,es,a,k _ c,e⟩
section
variable{P:xx}{w:qq}{H:Hp}{h:qa}
theorem ic:∀{ks:List oU}{us:List zt},aq (ks.map nV) us->ItemsAre (lG P w) ks us
 |[],_,.nil=>.nil
 |none::ks,_,.cons r q=>by
  cases r;exact .cons rfl<|ic q
 |some (.inl i)::ks,_,.cons r q=>by
  obtain⟨t,rfl⟩:=r;exact .cons (li i t)<|ic q
 |some (.inr x)::ks,_,.cons r q=>by
  obtain⟨t,rfl⟩:=r;exact .cons (lj x t)<|ic q
theorem rN(a:HOk P w H h):∀{k:bf}{bs:List zo}{us:List zt},Paired (λ(ks:List oU) (b:zo)=>H b=some (.tup<|ks.map nV)) k bs->aq (bs.map V.ref) us->RefsAre (lG P w) h k us
 |_,_,_,.nil,.nil=>.nil
 |_,_,_,.cons e p,.cons r q=>by
  cases r;obtain⟨_,i,g,o',c,d,n,f⟩:=a _ _ e;exact .cons ⟨o',_,n,c,d,f,by simpa using ic g⟩<|rN a p q
theorem dU.is(b:HOk P w H h){a:zo}{k:bf}(x:dU H a k):bX (lG P w) h k a:=by
 obtain⟨bs,f,g⟩:=x;obtain⟨_,j,i,o',c,d,n,e⟩:=b _ _ f;exact⟨o',_,n,c,d,e,by simpa using rN b g i⟩
end
section
variable{X:Cx}{pins:List (zo×Obj)}{σ:St}{H:Hp}{s:zi}
theorem D2.dict{P:xx}{w:qq}{a:qa}(n:HOk P w H a){d:zo}{kvs:List (bf×zo×Int)}(x:D2 P w d kvs a)(k:∀p∈kvs,dU H p.2.1 p.1):(d==sysModules)=false/\∃xs:List<|bf×zo×zt,Paired (λ(p:bf×zo×Int) (q:bf×zo×zt)=>p.1=q.1/\p.2.1=q.2.1/\∃t,q.2.2=.int p.2.2 t) kvs xs/\a.DictOfH (jU<|lG P w) d xs:=by
 obtain⟨h,xs,p,o,es,g,m,v,i,j,l⟩:=x;refine⟨h,xs,p,o,es,g,m,v,i,j,λq b=>?_,l⟩;have key:∀{kvs:List (bf×zo×Int)}{xs:List (bf×zo×zt)},Paired (λ(p:bf×zo×Int) (q:bf×zo×zt)=>p.1=q.1/\p.2.1=q.2.1/\∃t,q.2.2=.int p.2.2 t) kvs xs->∀q∈xs,∃p∈kvs,p.1=q.1/\p.2.1=q.2.1:=λ{kvs xs} r=>by
  induction r with
  |nil=>intro q b;cases b
  |cons r _ y =>
   intro q b;rcases mem_cons.mp b with e|e
   ·exact⟨_,mem_cons_self,by rw[e];exact⟨r.1,r.2.1⟩⟩
   ·obtain⟨p,s,a⟩:=y q e;exact⟨p,mem_cons_of_mem _ s,a⟩
 obtain⟨z,u,c,f⟩:=key p q b;have:=(k z u).is n;rw[c,f]at this;exact this
def eV(kvs:List<|bf×zo×Int)(k:bf):Option Int:=(kvs.find? λx=>decide<|x.1=k).map (·.2.2)
theorem rO{k:bf}:∀{kvs:List (bf×zo×Int)}{xs:List (bf×zo×zt)},Paired (λ(p:bf×zo×Int) (q:bf×zo×zt)=>p.1=q.1/\p.2.1=q.2.1/\∃t,q.2.2=.int p.2.2 t) kvs xs->(atKey xs k=none->eV kvs k=none)/\∀p,atKey xs k=some p->∃m t,eV kvs k=some m/\p.2=.int m t:=λ{kvs xs} r=>by
 unfold atKey eV
 induction r with
 |nil=>exact⟨λ_=>rfl,λp h=>by cases h⟩
 |@cons p q _ _ r _ ih =>
  rw[find?_cons,find?_cons,r.1]
  by_cases e:q.1=k
  ·rw[decide_eq_true e];refine⟨λh=>(by cases h),λb h=>?_⟩;cases h;obtain⟨t,a⟩:=r.2.2;exact⟨_,t,rfl,a⟩
  ·rw[decide_eq_false e];exact ih
def zv(P:xx)(w:qq):V->List V->Hp->VK->Prop:=λx vs H Q=>∃d a n k kvs,x=.ref d/\vs=[.ref a,.int n]/\H d=some (.ext<|D2 P w d kvs)/\(∀p∈kvs,dU H p.2.1 p.1)/\dU H a k/\kvs.length<1000/\(∀m,eV kvs k=some m->Q (.int m) H)/\(eV kvs k=none->Q (.int n) (upd H d<|.ext (D2 P w d<|kvs++[(k,a,n)])))
theorem yC(T:X.A.units+8<cLine):MtM X "dict.setdefault" (zv X.prog X.w):=by
 intro pins s σ H x vs v us Q I O N h;obtain⟨d,a,n,k,kvs,rfl,rfl,f,r,q,U,K,L⟩:=h;cases O;obtain⟨u,V,rfl,M,⟨t,rfl⟩⟩:=N.two;cases M;obtain⟨S,_,_⟩:=I.hok d _ f;obtain⟨g,xs,b,dd⟩:=S.dict I.hok r;have y:=b.length;refine call_meetsIn F.slot_dict_setdefault dd.typeIs F.entry_dict_setdefault (F.args_dict_setdefault_3 _ _ _) (lc (knd:=jU<|lG X.prog X.w) (.int n t) g) ⟨by show X.A.in1.units+4<cLine;simp[Around.in1_units];omega,xs,k,q.is I.hok,dd,by rw[<-y,sizeLine_eq];omega,λp D=>?_,λB h' i P=>?_⟩
 ·obtain⟨m,R,z,c⟩:=(rO b).2 p D;exact⟨.int m,H,I.tok _,⟨R,c⟩,K m z⟩
 ·have E:=(rO b).1 B;obtain⟨o,es,c,e,G,j,l,_,C⟩:=i;have J:D2 X.prog X.w d (kvs++[(k,a,n)]) h':=⟨g,xs++[(k,a,.int n t)],Paired.snoc b ⟨rfl,rfl,t,rfl⟩,o,es,c,e,G,j,l,C⟩;exact⟨.int n,_,gJ (ob:=.ext<|D2 X.prog X.w d (kvs++[(k,a,n)])) I (by rw[f];exact True.intro) P ⟨o,e⟩ ⟨J,⟨o,e⟩,D2.stay⟩,⟨t,rfl⟩,L E⟩
theorem Inv.as2{d:zo}(b:Inv X pins σ H s)(c:H d=some (.dK [])):Inv X pins σ (upd H d<|.ext (D2 X.prog X.w d [])) s:=by
 obtain⟨t,j,vs,n,o,es,h,a,k,i,p,f,r⟩:=b.hok d _ c;have g:es.toList=[]:=by
  cases n;generalize es.toList=l at f|-;cases f;rfl
 have m:D2 X.prog X.w d [] s.heap:=⟨j,[],.nil,o,es,h,a,k,i,by rw[g];rfl,nodup_nil⟩;exact b.write (t':=s.toks) (x:=d) (e:=d) (by rw[c];trivial) (.inl rfl) (λ_ _ _ q=>q) ⟨o,a⟩ ⟨m,⟨o,a⟩,D2.stay⟩
def Dz(P:xx)(w:qq)(t:TS):TS:=λD σ H=>∃d,H d=some (.dK [])/\t D σ (upd H d<|.ext (D2 P w d []))
theorem AD{st:Stmt}{t:TS}(b:PS X st t):PS X st (Dz X.prog X.w t):=λpins s σ H a I ⟨d,h,c⟩=>b pins s σ _ a (I.as2 h) c
end
theorem mX{prog:xx}{w:qq}{d:zo}(a:(d==sysModules)=false):
  MeetsIn prog w (Builtin.«dict.__len__» ⟨[.ref d],[]⟩) (λ_ R s=>∃o es ep,s.heap.get? d=some o/\o.data=.dict es ep/\R (.ok<|.ret (.int es.size s.toks)) {s with toks:=s.toks+1}) :=
 .of_wp λA R s ⟨o,es,ep,c,b,h⟩=>by
  show wpAny _ _ (dictSize d >>= _) _ _ s;unfold dictSize;refine Wb<|Wb (wpAny_dictEntries c b<|Wp ?_);show wpAny _ _ (Builtin.Dict.pendingCount d >>= _) _ _ s;refine Wb<|wpAny_pendingCount_other a ?_;refine wpAny_ret_mkInt ?_;rw[add_zero];exact h
theorem oV{prog:xx}{w:qq}{A:xg}{E:zt->zi->Prop}{s:zi}{d:zo}{o:Obj}{a:Array DictEntry}{ep:Nat}{Q:zt->zi->Prop}(e:(d==sysModules)=false)(b:s.heap.get? d=some o)(g:o.ExactDict)(f:o.data=.dict a ep)(h:(a.size:Int)<2 ^ 63)(c:Q (.int a.size<|s.toks+1) {s with toks:=s.toks+1+1}):wpAny (model prog w) A (call (.builtin "len") [.ref d]) Q E s:=by
 have ty:s.TypeIs (.ref d) "dict":=⟨o,b,g.1⟩;refine Calls.call_function_entry kind_len plain_len entry_len (args_len1 _) ?_;unfold Builtin.«len»;refine Wb (m:=oneArg "len" _)<|Wp ?_;refine Wb (m:=callSpecial? (.ref d)<|ofString "__len__") (wpAny_callSpecial?_slot (name:=ofString "__len__") ty F.slot_dict_len
  (call_meetsIn F.slot_dict_len ty F.entry_dict_len (F.args_dict_len_1 _) (mX e) ⟨o,a,ep,b,f,?_⟩))
 show wpAny _ _ _ _ _ {s with toks:=s.toks+1}
 refine Wb<|wpAny_holding (Wp ?_);refine Wb<|wpAny_letGo ?_;show wpAny _ _ (if ((a.size:Nat):Int)<0 then _ else _) _ _ _
 rw[if_neg (by omega)];show wpAny _ _ (if ((a.size:Nat):Int)>=2 ^ 63 then _ else _) _ _ _
 rw[if_neg (by omega)];exact Wb<|wpAny_mkInt (Wp ⟨_,rfl,c⟩)
theorem tP{X:Cx}:bu X (.builtin "len") (λxs H Q=>∃d kvs,xs=[.ref d]/\H d=some (.ext<|D2 X.prog X.w d kvs)/\kvs.length<=1000/\Q (.int kvs.length) H):=by
 intro pins s σ H xs us Q I r h;obtain⟨d,kvs,rfl,b,l,q⟩:=h;obtain⟨u,rfl,j⟩:=bY r;cases j;obtain⟨⟨c,xs,p,o,es,k,g,i,e,f,m⟩,_,_⟩:=I.hok d _ b;have a:es.size=kvs.length:=by rw[size_of_entries f,<-p.length]
 refine oV c g i e (by rw[a];omega) ⟨.int kvs.length,H,I.tok _,?_,q⟩;rw[a];exact⟨_,rfl⟩
def Ci(P:xx)(w:qq)(b e c:TE):TE:=λσ H Q=>b σ H λx H1=>∃d kvs,x=.ref d/\H1 d=some (.ext<|D2 P w d kvs)/\e σ H1 λy H2=>c σ H2 λf a=>zv P w (.ref d) [y,f] a Q
theorem yD{X:Cx}{o e f:Expr}{n q p:TE}{g i:Pos}(E:X.A.units+8<cLine)(C:PE X o n)(z:PE X e q)(B:PE X f p)(m:M2 X o "setdefault" g e f i):PE X (.Call (.Attribute o "setdefault" g) [e,f] [] i) (Ci X.prog X.w n q p):=by
 intro pins s σ H Q I h;refine wpAny_Call_method m.base m.few m.line plainAttrs_dict slot_dict_setdefault type_dict_setdefault<|thn (C pins s σ H _ I h) λu s1 D=>?_;obtain⟨x,H1,c,L,a,kvs,ex,d,G⟩:=D;subst ex;obtain rfl:u=Value.ref a:=L;obtain⟨⟨_,xs,_,l,es,S,j,k,_⟩,_,_⟩:=c.hok a _ d;refine⟨⟨l,j,k.1⟩,λb e=>by cases e;exact⟨l,j,k.2.1⟩,?_⟩;rw[m.trees];refine callWith_builtin rfl<|evalArgs_plain (spliced_cons (thn (z pins s1 σ H1 _ c G) λT O ⟨y,H2,t,M,J⟩ =>
  spliced_cons (thn (B pins O σ H2 _ t J) λfv P ⟨R,r,v,N,K⟩=>spliced_nil ?_)))
 exact yC E pins P σ r (.ref a) [y,R] _ _ Q v (show aw (.ref a) (Value.ref a)from rfl) (.cons M<|.cons N .nil) K
end L2
namespace TK
open PySem L2
def mY(z:zo×Nd):Bool:=z.2.st.isNone
def ar(zs:ZN):List Int:=(zs.filter mY).map λz=>z.2.num
def bo(zs:ZN)(k:Int):ZN:=zs.filter λz=>decide<|z.2.par=k
def eJ(L:Int->zo)(fs:List Int):List (Key×V):=fs.map λk=>((Sum.inl k:Key),V.ref<|L k)
theorem ie{fs:List Int}{b:Int->zo}{k:Int}:aO (eJ b fs) (Sum.inl k:Key)=if k∈fs then some (.ref<|b k)else none:=by
 unfold eJ
 induction fs with
 |nil=>rfl
 |cons a r c =>
  unfold aO at c|-;rw[map_cons,find?_cons]
  by_cases h:a=k
  ·subst h;simp
  ·have h1:decide ((Sum.inl a:Key)=Sum.inl k)=false:=by simp[h]
   have h2:(k∈a::r)↔k∈r:=by simp[Ne.symm h]
   simp only[h1,h2];exact c
structure Mems(H0 H:Hp)(d:zo)(L:Int->zo)(fs:List Int)(ys:ZN):Prop where
 dict:H d=some (.dK<|eJ L fs)
 d0:H0 d=none
 at':∀k∈fs,H (L k)=some (.lst<|bg (bo ys k))/\H0 (L k)=none
 inj:∀k∈fs,∀k'∈fs,L k=L k'->k=k'
 same:Same H0 H
theorem oW{L:Int->zo}{fs:List Int}:(eJ L fs).length=fs.length:=by unfold eJ;rw[length_map]
theorem Mems.more{H0 p:Hp}{d:zo}{a:Int->zo}{fs:List Int}(m:Mems H0 p d a fs []){k:Int}(r:k∉fs){l:zo}(g:p l=none):Mems H0 (upd (upd p l<|.lst []) d<|.dK (cf (eJ a fs) (Sum.inl k:Key)<|.ref l)) d (λj=>if j=k then l else a j) (fs++[k]) []:=by
 have y:l≠d:=λe=>by rw[e,m.dict]at g;cases g
 have v:cf (eJ a fs) (Sum.inl k:Key) (.ref l)=eJ (λj=>if j=k then l else a j) (fs++[k]):=by
  rw[nR _ (by rw[ie,if_neg r])];unfold eJ;rw[map_append,map_cons,map_nil];show _++[((Sum.inl k:Key),V.ref l)]=_++[((Sum.inl k:Key),V.ref (if k=k then l else a k))];rw[if_pos rfl]
  congr 1
  exact map_congr_left λj c=>by show _=((Sum.inl j:Key),V.ref (if j=k then l else a j));rw[if_neg λe=>r (by rw[<-e];exact c)]
 have s:∀j∈fs,a j≠l:=λj c e=>by have:=(m.at' j c).1;rw[e,g]at this;cases this
 refine⟨by rw[ac,v],m.d0,λj c=>?_,λj c f u e=>?_,λb o t=>?_⟩
 ·rcases mem_append.mp c with h|h
  ·have x:j≠k:=λe=>r (by rw[<-e];exact h);obtain⟨h1,h2⟩:=m.at' j h;have w:a j≠d:=λe=>by rw[e,m.dict]at h1;cases h1
   rw[if_neg x,ae w,ae<|s j h];exact⟨h1,h2⟩
  ·obtain rfl:=mem_singleton.mp h;rw[if_pos rfl,ae y,ac];exact⟨rfl,m.same.free g⟩
 ·have q:∀i∈fs++[k],i≠k->i∈fs:=λi hi n=>by
   rcases mem_append.mp hi with h|h
   ·exact h
   ·exact absurd (mem_singleton.mp h) n
  by_cases h1:j=k
  ·by_cases h2:f=k
   ·rw[h1,h2]
   ·simp only[if_pos h1,if_neg h2]at e;exact absurd e.symm<|s f (q f u h2)
  ·by_cases h2:f=k
   ·simp only[if_neg h1,if_pos h2]at e;exact absurd e<|s j (q j c h1)
   ·simp only[if_neg h1,if_neg h2]at e;exact m.inj j (q j c h1) f (q f u h2) e
 ·have h1:=m.same b o t;rw[ae<|ak t m.d0,ae<|ak h1 g];exact h1
theorem Mems.next{H0 c:Hp}{d:zo}{a:Int->zo}{fs:List Int}{ys:ZN}(m:Mems H0 c d a fs ys){z:zo×Nd}(g:z.2.par∈fs):Mems H0 (upd c (a z.2.par)<|.lst (bg (bo ys z.2.par)++[.ref z.1])) d a fs (ys++[z]):=by
 obtain⟨h1,h2⟩:=m.at' _ g;have i:d≠a z.2.par:=λe=>by have:=m.dict;rw[e,h1]at this;cases this
 refine⟨by rw[ae i];exact m.dict,m.d0,λk h=>?_,m.inj,λb o f=>?_⟩
 ·obtain⟨g1,g2⟩:=m.at' k h;refine⟨?_,g2⟩;unfold bo;rw[filter_append]
  by_cases e:z.2.par=k
  ·subst e;rw[ac,filter_cons_of_pos (by simp),filter_nil,<-fi,<-fi,map_append];rfl
  ·rw[filter_cons_of_neg (by simpa using e),filter_nil,append_nil,ae λq=>e<|m.inj _ g _ h q.symm];exact g1
 ·rw[ae<|ak f h2];exact m.same b o f
theorem Mems.skip{H0 a:Hp}{d:zo}{b:Int->zo}{fs:List Int}{ys:ZN}(m:Mems H0 a d b fs ys){z:zo×Nd}(f:z.2.par∉fs):Mems H0 a d b fs (ys++[z]):=by
 refine⟨m.dict,m.d0,λk c=>?_,m.inj,m.same⟩;obtain⟨g1,g2⟩:=m.at' k c;refine⟨?_,g2⟩;unfold bo;rw[filter_append,filter_cons_of_neg (by simpa using λe=>f (by rw[e];exact c)),filter_nil,append_nil]
 exact g1
theorem oX(ys:ZN)(z:zo×Nd):ar (ys++[z])=if mY z=true then ar ys++[z.2.num]else ar ys:=by
 unfold ar;rw[filter_append]
 by_cases h:mY z=true
 ·rw[if_pos h,filter_cons_of_pos h,map_append];rfl
 ·rw[if_neg h,filter_cons_of_neg h];simp
def ent(M:Int->Option Int)(z:zo×Nd):List oU:=[some<|.inr z.2.nm,z.2.st.map Sum.inl,(M z.2.num).map Sum.inl]
def Cj:List oU->Str
 |some (.inr x)::_=>x
 |_=>""
def DA(a b:List oU):Prop:=HT.ci (Cj a) (Cj b)=true
def dj(zs:ZN)(M:Int->Option Int)(k:Int)(e:bf):Prop:=e.Perm ((bo zs k).map (ent M))/\e.Pairwise DA
theorem vX{zs:ZN}{M:Int->Option Int}{k d:Int}{e e':bf}(c:dj zs M k e)(h':dj zs M d e'):e=e'↔((bo zs k).map (ent M)).Perm ((bo zs d).map (ent M)):=by
 constructor
 ·intro q;rw[q]at c;exact c.1.symm.trans h'.1
 ·intro q;have p:e.Perm e':=(c.1.trans q).trans h'.1.symm;exact p.eq_of_pairwise (λa b _ _ h1 h2=>by
   have:=HT.gY h1 h2;rw[HT.cW]at this;cases this) c.2 h'.2
def iG(M:Int->Option Int)(k m:Int):Int->Option Int:=λn=>if n=k then some m else M n
theorem yE{M:Int->Option Int}{k m:Int}{z:zo×Nd}(h:z.2.num≠k):ent (iG M k m) z=ent M z:=by unfold ent iG;rw[if_neg h]
theorem dj.set{zs:ZN}{M:Int->Option Int}{k j m:Int}{e:bf}(a:dj zs M j e)(n:∀z∈bo zs j,z.2.num≠k):dj zs (iG M k m) j e:=by
 refine⟨?_,a.2⟩;rw[map_congr_left λz b=>yE<|n z b];exact a.1
structure ShM(zs:ZN)(dn:List Int)(M:Int->Option Int)(kd:List<|bf×zo×Int):Prop where
 num:∀(j:Nat) p,kd[j]?=some p->p.2.2=(j:Int)
 dom:∀n,(M n).isSome=true↔n∈dn
 key:∀k∈dn,∃e,dj zs M k e/\eV kd e=M k
theorem ShM.start(zs:ZN):ShM zs [] (λ_=>none) []:=⟨λj p h=>by simp at h,λn=>by simp,λk h=>by cases h⟩
theorem vY{b:List (bf×zo×Int)}{x:bf×zo×Int}{e:bf}{m:Int}(a:eV b e=some m):eV (b++[x]) e=some m:=by
 unfold eV at *;rw[List.find?_append];cases f:b.find? (λx=>decide<|x.1=e)with
 |none=>rw[f]at a;cases a
 |some y=>rw[f]at a;exact a
theorem oY{b:List (bf×zo×Int)}{e:bf}{m:Int}(a:eV b e=some m):∃(j:Nat) (p:bf×zo×Int),b[j]?=some p/\p.1=e/\p.2.2=m:=by
 unfold eV at a;cases f:b.find? (λx=>decide<|x.1=e)with
 |none=>rw[f]at a;cases a
 |some y =>
  rw[f]at a;have d:=List.mem_of_find?_eq_some f;have g:=find?_some f;obtain⟨j,c⟩:=List.getElem?_of_mem d;exact⟨j,y,c,by simpa using g,Option.some.inj a⟩
section
variable{zs:ZN}{dn:List Int}{M:Int->Option Int}{kd:List (bf×zo×Int)}{k m:Int}{e:bf}
theorem ShM.put(f:ShM zs dn M kd)(cl:∀j∈dn++[k],∀z∈bo zs j,z.2.num≠k)(i:dj zs M k e){kd':List (bf×zo×Int)}(o:∀(j:Nat) p,kd'[j]?=some p->p.2.2=(j:Int))(l:k∉dn)(s:∀a d,eV kd a=some d->eV kd' a=some d)(r:eV kd' e=some m):ShM zs (dn++[k]) (iG M k m) kd':=by
 refine⟨o,λn=>?_,λj g=>?_⟩
 ·unfold iG
  by_cases c:n=k
  ·rw[if_pos c,c];simp
  ·rw[if_neg c,f.dom n,mem_append];simp[c]
 ·rcases mem_append.mp g with b|b
  ·obtain⟨a,h1,h2⟩:=f.key j b;have t:j≠k:=λq=>l (by rw[<-q];exact b);refine⟨a,h1.set<|cl j g,?_⟩;have h:=(f.dom j).mpr b;unfold iG;rw[if_neg t];cases q:M j with
   |none=>rw[q]at h;cases h
   |some d=>rw[q]at h2;exact s a d h2
  ·obtain rfl:=mem_singleton.mp b;exact⟨e,i.set<|cl j g,by unfold iG;rw[if_pos rfl];exact r⟩
theorem ShM.hit(a:ShM zs dn M kd)(cl:∀j∈dn++[k],∀z∈bo zs j,z.2.num≠k)(b:dj zs M k e)(c:k∉dn)(d:eV kd e=some m):ShM zs (dn++[k]) (iG M k m) kd:=a.put cl b a.num c (λ_ _ q=>q) d
theorem ShM.new{a:zo}(c:ShM zs dn M kd)(cl:∀j∈dn++[k],∀z∈bo zs j,z.2.num≠k)(g:dj zs M k e)(i:k∉dn)(d:eV kd e=none):ShM zs (dn++[k]) (iG M k kd.length) (kd++[(e,a,(kd.length:Int))]):=by
 refine c.put cl g (λj p b=>?_) i (λ_ _ q=>vY q) ?_
 ·by_cases h:j<kd.length
  ·rw[getElem?_append_left h]at b;exact c.num j p b
  ·rw[getElem?_append_right (by omega)]at b;have:j-kd.length=0:=by
    have:=(List.getElem?_eq_some_iff.mp b).1;simp at this;omega
   rw[this]at b;cases b;show(kd.length:Int)=j;omega
 ·unfold eV at *;rw[List.find?_append];cases f:kd.find? (λx=>decide<|x.1=e)with
  |some y=>rw[f]at d;cases d
  |none=>simp
structure Marks(zs:ZN)(M:Int->Option Int):Prop where
 dom:∀n,(M n).isSome=true↔n∈ar zs
 eq:∀k∈ar zs,∀k'∈ar zs,M k=M k'↔((bo zs k).map (ent M)).Perm ((bo zs k').map (ent M))
theorem ShM.marks(a:ShM zs dn M kd)(b:∀n,n∈dn↔n∈ar zs):Marks zs M:=by
 refine⟨λn=>(a.dom n).trans (b n),λk f h o=>?_⟩;obtain⟨e,h1,h2⟩:=a.key k<|(b k).mpr f;obtain⟨s,j,l⟩:=a.key h<|(b h).mpr o;rw[<-vX h1 j,<-h2,<-l];constructor
 ·intro q;have d:=(a.dom k).mpr ((b k).mpr f);rw[<-h2]at d;cases v:eV kd e with
  |none=>rw[v]at d;cases d
  |some m =>
   obtain⟨g,p,g1,g2,g3⟩:=oY v;obtain⟨j',r,c,i,w⟩:=oY<|q.symm.trans v;have t:=a.num g p g1;have u:=a.num j' r c;have:g=j':=by omega
   subst this;rw[g1]at c;cases c;rw[<-g2,<-i]
 ·intro q;rw[q]
end
section
variable{P:xx}{w:qq}{K:Frag}{mg:Str->Option zt}{base:qa}
def rP:Sp:=λvs H Q _=>∃t f zs,vs=[.ref t,.int f]/\H t=some (.tup<|bg zs)/\At H zs/\zs.length<=100/\∀fd dn l H',TW.Walk (nds zs) f dn fd []->H' l=some (.lst<|dR fd)->Same H H'->Q (.ref l) H'
theorem jV:FnScope ["nodes","folder","members","node","found","pending","here"] ["nodes","folder"] (aj Aq):=fsM
theorem AE{f:zo}{g:xl}(F:Fun K "numbers_inside" "numbers_inside" Aq f g)(T:Txt mg):FnOk P w K mg base CX0 1 f g ["nodes","folder"] rP:=by
 refine F.ok jV (λvs H Q E h=>?_) λcdv A outer s H vs Q E e6 h=>?_
 ·obtain⟨t,f,zs,rfl,_⟩:=h;rfl
 ·obtain⟨t,f,zs,rfl,c2,b4,r,k⟩:=h;refine⟨_,ai (aA (i:=2) jV.nd rfl (Or.inl rfl) dL)
   (ai (dY PassesOwn.never rfl (gh<|pv 0) (aB (i:=3) jV.nd rfl<|Or.inl rfl)<|am (aQ (cn plainAttrs_list PySem.F.slot_list_append PySem.F.type_list_append aM
     (cn plainAttrs_dict slot_dict_setdefault type_dict_setdefault gb (pv 2)<|aa (bD bv (pv 3) ao λ_ _=>rfl) (aa (bn af) af)) (aa (pv 3) af))))
   (ai (aA (i:=4) jV.nd rfl (Or.inl rfl)<|bn af)
   (ai (aA (i:=5) jV.nd rfl (Or.inl rfl)<|bn (aa (pv 1) af))
   (ai (nH PassesOwn.never (nJ (pv 5) λ_=>rfl)
    (ai (aA (i:=6) jV.nd rfl (Or.inl rfl)<|uE (pv 2) (zS plainAttrs_list slot_list_pop type_list_pop zT<|pv 5) (bn af) ⟨rfl,rfl,rfl,rfl⟩)
    (am (dY PassesOwn.never rfl (cm<|pv 6) (aB (i:=3) jV.nd rfl<|Or.inl rfl)
     (ai (aQ<|cn plainAttrs_list PySem.F.slot_list_append PySem.F.type_list_append aM (pv 4) (aa (bD bv (pv 3) ao λ_ _=>rfl) af))
     (am<|cZ (bw pI (bD bv (pv 3) ao λ_ _=>rfl) jm<|bz _) (am<|aQ (cn plainAttrs_list PySem.F.slot_list_append PySem.F.type_list_append aM (pv 5)<|aa (bD bv (pv 3) ao λ_ _=>rfl) af)) bj))))))
   (am<|aH (pv 4)))))),?_⟩
  refine λd b5=>?_;have X:∀{n:Nat},n<=100->n<sizeLine:=λh=>au (by omega);refine⟨_,rfl,t,rfl,⟨_,SqT.of<|ca b5 c2⟩,lY (xs:=bg zs) (λi σ H'=>∃L kvs p,σ=[some<|.ref t,some<|.int f,some<|.ref d,p,none,none,none]/\Mem H H' d L kvs (zs.take i) [])
   ⟨_,_,_,rfl,Mem.start b5⟩ (λi σ H' _ h=>?_) (λi x σ H' d9 h=>?_) (λσ H' h=>?_)⟩
  ·obtain⟨_,_,_,_,m⟩:=h;exact SqT.of<|m.same _ _ c2
  ·obtain⟨L,kvs,p,rfl,m⟩:=h;obtain⟨z,M,rfl⟩:=di d9;have a3:=mem_of_getElem? M;have D:zs.take (i+1)=zs.take i++[z]:=by rw[take_succ,M];rfl
   have d1:kvs.length<=100:=by have:=m.len;rw[length_take]at this;omega
   refine⟨_,rfl,.inr<|.inr (.inl ⟨rfl,.inl ⟨_,m.dict⟩⟩),_,rfl,z.1,_,_,_,rfl,rfl,SqT.of<|m.same _ _ (b4 z a3),at1 z.2,zero_le _,λq l=>?_⟩;have a2:=m.grow<|ag (o:=.lst []) l;refine⟨d,kvs,.inl z.2.par,.ref q,rfl,rfl,a2.dict,X d1,λv O=>?_,λZ=>?_⟩
   ·rw[m.val]at O
    by_cases h:z.2.par∈([]:List Int)\/ins (zs.take i) z.2.par=[]
    ·rw[if_pos h]at O;cases O
    ·rw[if_neg h]at O;cases O;have h2:ins (zs.take i) z.2.par≠[]:=λz=>h<|.inr z;have a:=(a2.at' z.2.par (by simp) h2).1;refine⟨.inl ⟨rfl,_,SqL.of a⟩,_,rfl,_,_,_,rfl,rfl,a,?_,?_⟩
     ·refine X ?_;rw[cb];exact le_trans (Sublist.length_le<|Sublist.trans filter_sublist (take_sublist _ _)) r
     ·refine⟨L,kvs,_,rfl,?_⟩;rw[D];exact a2.hit h2
   ·rw[m.val]at Z
    by_cases h:z.2.par∈([]:List Int)\/ins (zs.take i) z.2.par=[]
    ·have h2:ins (zs.take i) z.2.par=[]:=h.resolve_left (by simp);have d7:q≠d:=λe=>by rw[e,m.dict]at l;cases l
     have a:upd (upd H' q<|.lst []) d (.dK<|cf kvs (Sum.inl z.2.par:Key) (.ref q)) q=some (.lst []):=by rw[ae d7];exact ac
     refine⟨.inl ⟨rfl,_,SqL.of a⟩,_,rfl,q,[],_,rfl,rfl,a,X<|zero_le _,?_⟩;have b3:=m.fresh (z:=z) h2 l;rw[<-D]at b3;exact⟨_,_,_,rfl,b3⟩
    ·rw[if_neg h]at Z;cases Z
  ·obtain⟨L,kvs,p,rfl,m⟩:=h;rw[cb,take_length]at m;refine⟨zero_le _,λpf b8=>⟨_,rfl,aW (by simp),λpp N=>?_⟩⟩;have e1:=(m.grow<|ag (o:=.lst []) b8).grow (ag (o:=.lst [.int f]) N);have d5:H pf=none:=m.same.free b8;have G:pp≠pf:=λe=>by rw[e,ac]at N;cases N
   have b9:H pp=none:=by rw[ae G]at N;exact m.same.free N
   dsimp only[br,uf];refine nI (λσ H'=>∃L kvs dn g u p c3,σ=[some<|.ref t,some<|.int f,some<|.ref d,p,some<|.ref pf,some<|.ref pp,c3]/\u.length<=g.length+1/\Mem H H' d L kvs zs dn/\TW.Walk (nds zs) f dn g u/\H' pf=some (.lst<|dR g)/\H' pp=some (.lst<|u.map V.int))
    (λσ H'=>2*(zs.length-hJ H' pf)+hJ H' pp) ⟨L,kvs,[],[],[f],_,_,rfl,le_refl _,e1,TW.Walk.start _ _,by rw[ae<|Ne.symm G,ac];rfl,ac⟩ (λσ H' h=>?_) ?_
   ·obtain⟨L,kvs,dn,g,u,p,c3,rfl,d6,m,c4,J,C⟩:=h;refine⟨_,rfl,_,.inl ⟨_,SqL.of C,rfl⟩,?_⟩
    by_cases a0:u=[]
    ·subst a0;exact dM ⟨_,rfl,k g dn pf H' c4 J m.same⟩
    ·obtain⟨j,x,rfl⟩:∃j x,u=j++[x]:=⟨u.dropLast,u.getLast a0,(List.dropLast_concat_getLast a0).symm⟩;have d0:(!((j++[x]).map V.int).isEmpty)=true:=by simp
     rw[if_pos d0];have c9:((j++[x]).map V.int)[((j++[x]).map V.int).length-1]?=some (.int x):=by simp
     have c7:((j++[x]).map V.int).dropLast=j.map V.int:=by simp
     refine⟨_,rfl,d,rfl,.inl ⟨_,Rd.of m.dict⟩,_,rfl,.inl ⟨rfl,_,SqL.of C⟩,pp,_,.int x,rfl,rfl,C,c9,zero_le _,λq l=>?_⟩;rw[c7]at l|-;have e2:=(m.other (o:=.lst<|j.map V.int) C b9).grow (ag (o:=.lst []) l);have c1:q≠pp:=λe=>by rw[e,ac]at l;cases l
     have c0:q≠pf:=λe=>by rw[e,ae<|Ne.symm G,J]at l;cases l
     refine vm e2 ac λr a5 a1 b e3 S c8 d8 b6 b7=>?_;have c5:pf≠d:=λe=>by have:=m.dict;rw[<-e,J]at this;cases this
     have c6:pp≠d:=λe=>by have:=m.dict;rw[<-e,C]at this;cases this
     have b0:a5 pf=some (.lst<|dR g):=by rw[b6 pf c5,ae<|Ne.symm c0,ae<|Ne.symm G];exact J
     have b1:a5 pp=some (.lst<|j.map V.int):=by rw[b6 pp c6,ae<|Ne.symm c1,ac]
     have d3:r≠pf:=by
      by_cases h:b=[]
      ·rw[b7 h];exact c0
      ·exact rE b0 S h
     have d4:r≠pp:=by
      by_cases h:b=[]
      ·rw[b7 h];exact c1
      ·exact rE b1 S h
     have a4:=c4.turn;rw[<-c8]at a4;have d2:=a4.len;rw[length_append,bh,bh]at d2;rw[length_append,length_singleton]at d6;refine⟨_,rfl,r,rfl,⟨_,SqL.of S⟩,jn (xs:=bg b) (λc σ H'=>∃p,σ=[some<|.ref t,some<|.int f,some<|.ref d,p,some<|.ref pf,some<|.ref pp,some<|.ref r]/\Mem H H' d L a1 zs (x::dn)/\H' r=some (.lst<|bg b) /\
      H' pf=some (.lst<|dR (g++nds (b.take c)))/\H' pp=some (.lst<|(j++TW.aD (nds<|b.take c)).map V.int)) ⟨_,rfl,e3,S,by rw[b0];simp[nds],by rw[b1];simp[nds,TW.aD]⟩
      (λc σ H' _ h=>?_) (λc y σ H' e0 h=>?_) (λσ H' h=>?_)⟩
     ·obtain⟨_,_,_,e,_⟩:=h;exact SqL.of e
     ·obtain⟨p,rfl,U,a7,B,I⟩:=h;obtain⟨z,M,rfl⟩:=di e0;have a3:=d8 z<|mem_of_getElem? M;have D:b.take (c+1)=b.take c++[z]:=by rw[take_succ,M];rfl
      have l1:(dR<|g++nds (b.take c)).length<=100:=by
       unfold dR;rw[length_map,length_map,length_append,bh,length_take];omega
      have l2:((j++TW.aD (nds<|b.take c)).map V.int).length<=1000:=by
       have:=TW.dz<|nds (b.take c);rw[bh,length_take]at this;rw[length_map,length_append];omega
      have g0:∀{a6:Hp},Same H a6->a6 z.1=some (.tup<|vals z.2):=λs=>s _ _<|b4 z a3;have a8:dR (g++nds (b.take<|c+1))=dR (g++nds (b.take c))++[.int z.2.num]:=by rw[D];simp[dR,nds]
      have W:Mem H (upd H' pf<|.lst (dR (g++nds (b.take c))++[.int z.2.num])) d L a1 zs (x::dn):=U.other B d5;have a9:(upd H' pf<|.lst (dR (g++nds (b.take c))++[.int z.2.num])) r=some (.lst<|bg b):=by rw[ae d3];exact a7
      have R:(upd H' pf<|.lst (dR (g++nds (b.take c))++[.int z.2.num])) pp=some (.lst<|(j++TW.aD (nds<|b.take c)).map V.int):=by rw[ae G];exact I
      refine⟨_,rfl,.inl ⟨rfl,_,SqL.of B⟩,_,rfl,z.1,_,_,_,rfl,rfl,SqT.of<|g0 U.same,at0 z.2,pf,_,_,rfl,rfl,B,X l1,?_⟩;refine⟨_,rfl,z.1,_,_,_,rfl,rfl,SqT.of<|g0 W.same,at3 z.2,rfl,_,rfl,?_⟩;cases b2:z.2.st with
      |none =>
       have Y:TW.aD (nds<|b.take (c+1))=TW.aD (nds<|b.take c)++[z.2.num]:=by rw[D];simp[TW.aD,nds,b2]
       refine eU ⟨_,rfl,.inl ⟨rfl,_,SqL.of R⟩,_,rfl,z.1,_,_,_,rfl,rfl,SqT.of<|g0 W.same,at0 z.2,pp,_,_,rfl,rfl,R,au l2,?_⟩;refine⟨_,rfl,W.other R b9,by rw[ae d4];exact a9,by rw[ae<|Ne.symm G,ac,a8],?_⟩;rw[ac,Y];simp
      |some i =>
       have Y:TW.aD (nds<|b.take (c+1))=TW.aD (nds<|b.take c):=by rw[D];simp[TW.aD,nds,b2]
       refine dM ⟨_,rfl,W,a9,by rw[ac,a8],?_⟩;rw[R,Y]
     ·obtain⟨p,rfl,U,a7,B,I⟩:=h;rw[cb,take_length]at B I;refine⟨⟨L,a1,x::dn,_,_,p,_,rfl,?_,U,a4,B,I⟩,?_⟩
      ·have:=TW.dz<|nds b;rw[bh]at this;rw[length_append,length_append,bh];omega
      show 2*(zs.length-hJ H' pf)+hJ H' pp<_;rw[dQ B,dQ I,dQ J,dQ C];have:=TW.dz<|nds b;rw[bh]at this;simp only[dR,length_map,length_append,bh,length_singleton];omega
   ·rintro σ H Q e5 e4 ⟨v,e,k,tv,q⟩;exact⟨v,e,k,tv,e4 _ _ q⟩
def oZ:Sp:=λvs H Q _=>∃t zs,vs=[.ref t]/\Tre H t zs/\∀d L H',Mems H H' d L (ar zs) zs->Q (.ref d) H'
def mbN:List Str:=["tree","members","node"]
theorem yF:FnScope mbN ["tree"] (aj bW):=fsc
theorem AF{f:zo}{v:xl}(F:Fun K "members_by_folder" "members_by_folder" bW f v):FnOk P w K mg base CX0 1 f v ["tree"] oZ:=by
 refine F.okA yF λcdv A outer s H vs Q E p h=>?_;obtain⟨t,zs,rfl,b,q⟩:=h;refine⟨_,ai (aA (i:=1) yF.nd rfl (Or.inl rfl) dL)
  (ai (dY PassesOwn.never rfl (gh<|pv 0) (aB (i:=2) yF.nd rfl<|Or.inl rfl)<|am (cZ (bw pI (ixT K (pv 2) ao) jm<|bz _) (am<|mr (bx p) (pv 1) (ixT K (pv 2) ao) (bn af) rfl) bj))
  (ai (dY PassesOwn.never rfl (gh<|pv 0) (aB (i:=2) yF.nd rfl<|Or.inl rfl)<|am (cZ (pE<|pT (bx p) (ixT K (pv 2) ao) (pv 1)) (am<|aQ (cn plainAttrs_list PySem.F.slot_list_append PySem.F.type_list_append aM (cQ (bx p) (pv 1) (ixT K (pv 2) ao) λ_ _=>rfl)<|aa (pv 2) af)) bj))
  (am<|aH (pv 1)))),?_⟩
 refine λd B=>?_;have X:=b.len;have U:=cB b.tr;have u:Mems H (upd H d<|.dK []) d (λ_=>d) [] []:=⟨ac,B,λk a=>(by cases a),λk a=>(by cases a),ag B⟩;generalize upd H d (.dK [])=H1 at u|-;refine⟨_,rfl,t,rfl,⟨_,SqT.of<|u.same _ _ b.tup⟩,lY (xs:=bg zs) (λi σ H'=>∃x L,σ=[some<|.ref t,some<|.ref d,x]/\Mems H H' d L (ar<|zs.take i) []) ⟨_,_,rfl,u⟩ (λi σ H' _ h=>?_) (λi x σ H' r h=>?_) λσ H' h=>?_⟩
 ·obtain⟨x,L,rfl,m⟩:=h;exact SqT.of<|m.same _ _ b.tup
 ·obtain⟨x,L,rfl,m⟩:=h;obtain⟨z,c,rfl⟩:=di r;have n:=mem_of_getElem? c;rw[bH c,oX];refine⟨_,rfl,z.1,_,_,_,rfl,rfl,SqT.of<|m.same _ _ (b.nod z n),at3 z.2,rfl,_,rfl,?_⟩
  by_cases j:z.2.st=none
  ·rw[show decide (stV z.2.st=V.non)=true by rw[j];rfl];refine eU ?_;have o:mY z=true:=by unfold mY;rw[j];rfl
   rw[if_pos o];refine⟨zero_le _,λl g=>?_⟩;have R:z.2.num∉ar (zs.take i):=λD=>by
    unfold ar at D;obtain⟨y,S,e⟩:=mem_map.mp D;have T:=(mem_filter.mp S).1;obtain⟨I,N,C⟩:=List.getElem_of_mem T;rw[getElem_take]at C;have O:I<i:=by rw[length_take]at N;omega
    have M:i<zs.length:=(List.getElem?_eq_some_iff.mp c).1;have W:=pairwise_iff_getElem.mp U I i (by simp[nds];omega) (by simp[nds];omega) O;have J:zs[i]=z:=by have:=getElem?_eq_getElem M;rw[this]at c;exact Option.some.inj c
    apply W;simp only[nds,getElem_map,J,C];exact e
   refine⟨_,rfl,_,rfl,z.1,_,_,_,rfl,rfl,SqT.of<|(ag g) _ _ (m.same _ _<|b.nod z n),at0 z.2,d,_,rfl,.inl ⟨_,Sum.inl z.2.num,by rw[ae (λe=>by rw[<-e,m.dict]at g;cases g)];exact m.dict,rfl,?_,rfl⟩,_,_,rfl,m.more R g⟩;rw[oW];have:(ar<|zs.take i).length<=zs.length:=by
    unfold ar;rw[length_map];exact le_trans (length_filter_le _ _) (by rw[length_take];omega)
   rw[PySem.sizeLine_eq];omega
  ·rw[show decide (stV z.2.st=V.non)=false by cases e:z.2.st with|none=>exact absurd e j|some i=>rfl]
   have o:¬mY z=true:=by
    unfold mY;cases e:z.2.st with
    |none=>exact absurd e j
    |some i=>simp
   rw[if_neg o];exact dM ⟨_,L,rfl,m⟩
 ·obtain⟨x,L,rfl,m⟩:=h;rw[cb,take_length]at m;refine⟨_,rfl,t,rfl,⟨_,SqT.of<|m.same _ _ b.tup⟩,lY (xs:=bg zs) (λi σ H'=>∃x,σ=[some<|.ref t,some<|.ref d,x]/\Mems H H' d L (ar zs) (zs.take i)) ⟨_,rfl,by rw[take_zero];exact m⟩ (λi σ H' _ h=>?_) (λi x σ H' r h=>?_) λσ H' h=>?_⟩
  ·obtain⟨x,rfl,m⟩:=h;exact SqT.of<|m.same _ _ b.tup
  ·obtain⟨x,rfl,m⟩:=h;obtain⟨z,c,rfl⟩:=di r;have n:=mem_of_getElem? c;rw[bH c];have G:=m.same _ _<|b.nod z n;refine⟨_,rfl,z.1,_,_,_,rfl,rfl,SqT.of G,at1 z.2,_,rfl,d,_,rfl,cM.k (k:=Sum.inl z.2.par) m.dict,_,rfl,?_⟩;rw[ie]
   by_cases a:z.2.par∈ar zs
   ·rw[if_pos a];refine eU ?_;obtain⟨g1,g2⟩:=m.at' _ a;refine⟨_,rfl,_,rfl,z.1,_,_,_,rfl,rfl,SqT.of G,at1 z.2,d,.ref<|L z.2.par,rfl,by have:=cM.k (k:=Sum.inl z.2.par) m.dict;rw[ie,if_pos a]at this;exact this,.inl ⟨rfl,_,SqL.of g1⟩,_,rfl,_,_,_,rfl,rfl,g1,au ?_,_,rfl,m.next a⟩;have:(bo (zs.take i) z.2.par).length<=zs.length:=le_trans (length_filter_le _ _) (by rw[length_take];omega);rw[cb];omega
   ·rw[if_neg a];exact dM ⟨_,rfl,m.skip a⟩
  ·obtain⟨x,rfl,m⟩:=h;rw[cb,take_length]at m;exact⟨_,rfl,q d L H' m⟩
end
end TK
namespace L2
open PySem PySem.Spec PyProof.Rows
section
variable{X:Cx}
theorem pb(i:Int)(a:-1<=i)(b:i<=99):(ofString<|toString i).length<=100:=by
 have key:∀n:Fin 101,(ofString<|toString (((n.val:Nat):Int)-1)).length<=100:=by decide +kernel
 have:=key ⟨(i+1).toNat,by omega⟩;have e:(((i+1).toNat:Nat):Int)-1=i:=by omega
 rw[e]at this;exact this
theorem yG{e:Expr}{c:TE}{b:Nat}{p:Pos}{ps:List Expr}{t:TJ}(g:PE X e c)(f:PJ X ps b t):PJ X (.FormattedValue e (-1) none p::ps) (100+b) (λσ H k=>c σ H λv H1=>∃i:Int,v=.int i/\0<=i/\i<=99/\t σ H1 k):=by
 intro a pins s σ H Q I o j;refine joinParts_cons<|FormattedValue_plain (thn (g pins _ σ H _ I j) λv s1 h=>?_);obtain⟨y,H1,d,m,l⟩:=h;obtain⟨i,rfl,n,h1,q⟩:=l;obtain⟨tk,rfl⟩:=m;have h2:=pb i (by omega) h1;have r:(a++ofString (toString i)).length=a.length+(ofString<|toString i).length:=strLen_append ..;refine formatField_int_small (lt_of_le_of_lt (Nat.log2_le_self _) (by omega)) ⟨le_of_lt<|au (by omega),?_⟩;exact f _ pins _ σ H1 Q (d.tok _) (by omega) q
end
end L2
namespace TK
open PySem L2
section
variable{P:xx}{w:qq}{K:Frag}{mg:Str->Option zt}{base:qa}
def lP:Sp:=λvs H Q _=>∃t zs,vs=[.ref t]/\H t=some (.tup<|bg zs)/\At H zs/\zs.length<=100/\((nds zs).map (·.num)).Nodup/\∀d H',Same H H'->jP H' d zs->Q (.ref d) H'
theorem Ck:FnScope ["tree"] ["tree"] (aj vx):=fsM
theorem AG{f:zo}{C:xl}(F:Fun K "by_number" "by_number" vx f C)(T:Txt mg):FnOk P w K mg base CX0 1 f C ["tree"] lP:=by
 refine F.ok Ck (λvs H Q E h=>?_) λcdv A outer s H vs Q E b3 h=>?_
 ·obtain⟨t,zs,rfl,_⟩:=h;rfl
 ·obtain⟨t,zs,rfl,u,X,G,I,k⟩:=h;refine⟨_,am<|aH (aS (qf rfl) rfl T.dict boot_dict<|aa (fY (N:=["node"]) (k:=1) (js:=[]) (g:=br 0) rfl (fc rfl (by decide +kernel) (by decide +kernel) (by decide +kernel)) rfl (λi b4 x h=>by simp at h)
   (gh<|pv 0) (λs H fp=>aB (i:=0) (show(["node"]:List Str).Nodup by decide +kernel) rfl (Or.inl rfl)<|Or.inr rfl)
   (λs H fp=>bA<|aa (bD (r:=iY K) bv (pv 0) ao λ_ _=>rfl) (aa (pv 0) af))) af),?_⟩
  refine⟨_,rfl,t,rfl,⟨_,SqT.of u⟩,λp a1=>?_⟩;refine qg (fr:=[]) zs.length (by omega) a1 rfl (λi y H'=>∃q b,zs[i]?=some b/\y=.ref q/\q≠p/\H' q=some (.tup [.int b.2.num,.ref b.1])) (λi y H1 H2 h ex=>?_) (λi H' hi s1=>?_) (λH' s1=>?_) ?_ (λi H' x H2 hi s1 a3 a5=>?_) λys H' s1 a2 a0 a6=>?_
  ·obtain⟨q,b,c,v,n,B⟩:=h;exact⟨q,b,c,v,n,ex q _ n B⟩
  ·exact⟨_,_,SqT.of<|s1 _ _ u,jM<|getElem?_eq_getElem hi⟩
  ·exact⟨_,SqT.of<|s1 _ _ u,by rw[cb];exact le_refl _⟩
  ·rintro _ _ _ _ m ⟨b0,L,a9,xs,a7,b1,O,R,S,U,b2,M,z,q⟩;exact⟨b0,L,a9,xs,a7,b1,O,R,S,U,b2,M,z,λl G=>m _ _<|q l G⟩
  ·obtain⟨rfl,a4⟩:=a5;obtain⟨b,D,rfl⟩:=di<|a4 _ (SqT.of<|s1 _ _ u);have a8:=mem_of_getElem? D;refine⟨rfl,_,rfl,b.1,_,_,_,rfl,rfl,SqT.of<|s1 _ _ (X b a8),at0 b.2,_,rfl,le2,λq J=>⟨ag J,q,b,D,rfl,gw a3 J,ac⟩⟩
  ·obtain⟨j,c,v,n⟩:=yk (g:=λb=>[.int b.2.num,.ref b.1]) a0 a6;have B:j.length=zs.length:=by rw[<-c,length_map]
   have W:(j.map λa=>((Sum.inl a.2.2.num:Key),V.ref a.2.1))=cN zs:=by rw[<-c];unfold cN;rw[map_map];rfl
   refine⟨p,j.map λa=>(a.1,(Sum.inl a.2.2.num:Key),V.ref a.2.1),rfl,?_,?_,?_,?_,λd o Z=>?_⟩
   ·rw[a2,v,map_map,map_map,map_map];rfl
   ·intro b z;obtain⟨a,Y,rfl⟩:=mem_map.mp z;exact(n a Y).2
   ·rw[length_map];omega
   ·rw[map_map];have:(j.map<|(λx:zo×Key×V=>x.2.1)∘λa=>(a.1,(Sum.inl a.2.2.num:Key),V.ref a.2.1))=((nds zs).map (·.num)).map (Sum.inl:Int->Key):=by
     rw[<-c];unfold nds;simp only[map_map];rfl
    rw[this];unfold Nodup at I|-;rw[pairwise_map];exact I.imp λh e=>h (by injection e)
   ·refine k d _ (s1.trans<|ag Z) ⟨o,?_⟩;rw[ac,map_map];exact congrArg (λx=>some<|HO.frz o (.dK x)) W
abbrev vZ(mg:Str->Option zt)(base:qa)(C:zo):Prop:=PyProof.Rows.OwnCls "NoNode" C bmV "ValueError.__new__" mg base
def rQ(C:zo):Sp:=λvs H Q E=>∃d k zs,vs=[.ref d,.int k]/\jP H d zs/\((nds zs).map (·.num)).Nodup/\0<=k/\k<=99/\(∀z∈zs,z.2.num=k->Q (.ref z.1) H)/\((∀z∈zs,z.2.num≠k)->E (.ref C) none H)
theorem Cl:FnScope ["nodes","number"] ["nodes","number"] (aj Ar):=fsM
theorem AH{f C:zo}{l:xl}(F:Fun K "node_of" "node_of" Ar f l)(n:vZ mg base C):FnOk P w K mg base (CX1 P w) 1 f l ["nodes","number"] (rQ C):=by
 refine F.okX Cl (λvs H Q E h=>?_) λcdv A outer s H vs Q E j h=>?_
 ·obtain⟨d,k,zs,rfl,_⟩:=h;rfl
 ·obtain⟨d,k,zs,rfl,g,m,o,h1,p,q⟩:=h;refine⟨_,ai (cZ (pE<|sK (bx j) (pv 1) (pv 0)) (am<|oo uW n j.hd rfl (rB (vg (c:=100) (by decide +kernel)<|yG (pv 1) vf) (by decide))) bj)<|am (aH<|cQ (bx j) (pv 0) (pv 1) (λ_ _=>rfl)),?_⟩
  by_cases i:∀a∈zs,a.2.num≠k
  ·refine⟨_,rfl,_,rfl,d,_,rfl,g.not i,_,rfl,?_⟩;exact eU ⟨_,rfl,k,rfl,o,h1,λy=>⟨aW (show 1<=1000 by decide),q i⟩⟩
  ·obtain⟨a,b,e⟩:∃a∈zs,a.2.num=k:=by
    by_cases h:∃a∈zs,a.2.num=k
    ·exact h
    ·exact absurd (λa b e=>h ⟨a,b,e⟩) i
   subst e;refine⟨_,rfl,_,rfl,d,_,rfl,g.get m b,_,rfl,?_⟩;exact dM ⟨_,rfl,_,rfl,d,_,rfl,g.get m b,p a b rfl⟩
def wb(C:zo):Sp:=λvs H Q E=>∃t k zs,vs=[.ref t,.int k]/\Tre H t zs/\0<=k/\k<=99 /\
 ((k=0\/∃d∈zs,d.2.num=k)->∀(c:List Int)(l:zo)(H':Hp),Same H H'->c.Pairwise (λa b:Int=>a<b)->c.length<=zs.length->(∀x,x∈c↔∃n∈nds zs,n.num=x/\TW.Reach (nds zs) k n)->H' l=some (.lst<|c.map V.int)->Q (.ref l) H') /\
 (k≠0->(∀d∈zs,d.2.num≠k)->∀H',Same H H'->E (.ref C) none H')
theorem Cm:FnScope ["tree","number"] ["tree","number"] (aj Av):=fsM
theorem AI{f C:zo}{g:xl}(F:Fun K "below" "below" Av f g)(T:Txt mg)(D:Has P w K mg base 1 "by_number" ["tree"] lP)(CN:vp P w K mg base 1 "node_of" ["nodes","number"]<|rQ C)(G:Has P w K mg base 1 "numbers_inside" ["nodes","folder"] rP):
  FnOk P w K mg base (CX1 P w) 2 f g ["tree","number"] (wb C):=by
 obtain⟨a9,b1,I,a2,Z,bB⟩:=D;obtain⟨b0,b2,L,a4,a1,N⟩:=CN;obtain⟨fI,fdI,J,a3,a0,M⟩:=G;obtain⟨b4,S⟩:=T.top;refine F.okX Cm (λvs H Q E h=>?_) λcdv A outer s H vs Q E i h=>?_
 ·obtain⟨t,k,zs,rfl,_⟩:=h;rfl
 ·obtain⟨t,k,zs,rfl,c,R,h1,a6,a7⟩:=h;have y:=cB c.tr;have b3:=c.len;refine⟨_,ai (cZ (bw um (pv 1) (gE (v:=.int 0) rfl S ⟨_,rfl⟩)<|bz _)
    (am<|aQ (ax (E:=E) L i rfl a4 a1 N .nil (Ca uW)<|aa (ax I i rfl a2 Z bB .nil aJ<|aa (pv 0) af) (aa (pv 1) af))) bj)
   (am<|aH (aF iB rfl T.sorted boot_sorted<|aa (ax J i rfl a3 a0 M .nil aJ<|aa (pv 0) (aa (pv 1) af)) af)),?_⟩
  have B:∀H1,Same H H1->(k=0\/∃r∈zs,r.2.num=k)->BG (tCB (λxs H Q=>∃l,∃ns:List Int,xs=[.ref l]/\H l=some (.lst<|ns.map V.int)/\ns.Nodup/\ns.length<64/\∀j:List Int,j.Perm ns->j.Pairwise (λa b=>a<b)->∀p,H p=none->Q (.ref p) (upd H p<|.lst (j.map V.int)))
    (iN (uv rP [] E0<|iN (uc 0) (iN (uc 1) nM)) nM)) {nx:=λ_ H'=>Q .non H',rt:=Q} [some<|.ref t,some<|.int k] H1:=by
   intro H1 s1 q;refine⟨_,rfl,_,rfl,t,k,zs,rfl,s1 _ _ c.tup,c.nod.same s1,by omega,λg dn l H2 o O a8=>?_⟩;have u:=o.len;rw[bh]at u;refine⟨l,g.map λn:Nd=>n.num,rfl,(show H2 l=some (.lst<|(g.map λn:Nd=>n.num).map V.int)from O),tG c.tr o,by rw[length_map];omega,λj z X p W=>?_⟩;refine a6 q j p _ ((s1.trans a8).trans (ag W)) X (by rw[z.length_eq,length_map];exact u) (λx=>?_) ac;rw[z.mem_iff,mem_map];constructor
   ·rintro⟨n,U,e⟩;have:=(o.mem n).mp U;exact⟨n,this.mem,e,this⟩
   ·rintro⟨n,_,e,i⟩;exact⟨n,(o.mem n).mpr i,e⟩
  refine⟨_,rfl,rfl,_,rfl,?_⟩
  by_cases m:k=0
  ·have:decide (V.int k=V.int 0)=true:=by simp[m]
   rw[this];exact dM<|B H (Same.refl _) (.inl m)
  ·have:decide (V.int k=V.int 0)=false:=by simp[m]
   rw[this];refine eU ?_;refine⟨_,rfl,t,zs,rfl,c.tup,c.nod,by omega,y,λd H1 s1 a5=>?_⟩;refine⟨_,rfl,d,k,zs,rfl,a5,y,R,h1,λr Y e=>B H1 s1<|.inr ⟨r,Y,e⟩,λq=>a7 m q H1 s1⟩
end
end TK
namespace TW
section
variable{S:Type}{ns:List (Nd S)}
theorem wc(T:Tree1 ns){g k:Int}(b:Und ns g k):∀{p:List S},PathTo ns k p->∃q r,PathTo ns g q/\p=q++r:=by
 induction b with
 |here=>intro p a;exact⟨p,[],a,(append_nil _).symm⟩
 |@up n hn _ ih =>
  intro p a;obtain⟨q,e,c⟩:=a.inv T hn rfl;obtain⟨d,r,h1,h2⟩:=ih c;exact⟨d,r++[n.nm],h1,by rw[e,h2,append_assoc]⟩
variable[DecidableEq S]
end
end TW
namespace TK
open PySem L2
section
variable{P:xx}{w:qq}{K:Frag}{mg:Str->Option zt}{base:qa}
def rR:Sp:=λvs H Q _=>∃d k zs p,vs=[.ref d,.int k]/\jP H d zs/\At H zs/\TW.Tree1 (nds zs)/\zs.length<=100/\TW.PathTo (nds zs) k p/\∀t H',Same H H'->H' t=some (.tup<|p.map V.str)->Q (.ref t) H'
theorem rS:FnScope ["nodes","number","names","at"] ["nodes","number"] (aj Au):=fsM
theorem AJ{f:zo}{G:xl}(F:Fun K "path_up" "path_up" Au f G)(T:Txt mg):FnOk P w K mg base CX0 1 f G ["nodes","number"] rR:=by
 obtain⟨a9,W⟩:=T.top;refine F.ok rS (λvs H Q E h=>?_) λcdv A outer s H vs Q E O h=>?_
 ·obtain⟨d,k,zs,p,rfl,_⟩:=h;rfl
 ·obtain⟨d,k,zs,p,rfl,B,I,l,a4,L,q⟩:=h;have J:=cB l;have a5:p.length<=100:=by have:=L.len l;rw[bh]at this;omega
  refine⟨_,ai (aA (i:=2) rS.nd rfl (Or.inl rfl)<|bn af) (ai (aA (i:=3) rS.nd rfl (Or.inl rfl)<|pv 1)
   (ai (nH PassesOwn.never (bw um (pv 3) (gE (v:=.int 0) rfl W ⟨_,rfl⟩)<|bz _)
    (ai (aQ<|cn plainAttrs_list PySem.F.slot_list_append PySem.F.type_list_append aM (pv 2) (aa (bD bv (cQ (bx O) (pv 0) (pv 3) λ_ _=>rfl) ao λ_ _=>rfl) af))
    (am<|aA (i:=3) rS.nd rfl (Or.inl rfl) (bD bv (cQ (bx O) (pv 0) (pv 3) λ_ _=>rfl) ao λ_ _=>rfl))))
   (am<|aH (sZ rfl rfl T.tuple rfl T.reversed<|pv 2)))),?_⟩
  refine⟨zero_le _,λpn M=>⟨_,rfl,?_⟩⟩;dsimp only[br,uf];refine nI (λσ H'=>∃g u r,σ=[some<|.ref d,some<|.int k,some<|.ref pn,some<|.int g]/\TW.PathTo (nds zs) g u/\p=u++r/\H' pn=some (.lst<|r.reverse.map V.str)/\Same H H')
   (λσ H'=>p.length-hJ H' pn) ⟨k,p,[],rfl,L,by simp,ac,ag M⟩ (λσ H' h=>?_) ?_
  ·obtain⟨g,u,r,rfl,N,j,c,s1⟩:=h;refine⟨_,rfl,rfl,_,rfl,?_⟩
   by_cases y:g=0
   ·subst y;have R:u=[]:=N.zero l rfl;subst R;refine dM ⟨_,rfl,pn,_,rfl,c,λt a0=>q t _ (s1.trans<|ag a0) ?_⟩;rw[ac,j,nil_append,<-List.map_reverse,List.reverse_reverse]
   ·have Y:decide (V.int g=V.int 0)=false:=by simp[y]
    rw[Y];refine eU ?_;obtain⟨a,n,S,a1,x,Z⟩:=ym l N y;subst S;have X:=(B.same s1).get J n;have z:=s1 _ _<|I a n;have a8:r.length<100:=by
     have:=congrArg length j;rw[x]at this;simp at this;omega
    refine⟨_,rfl,.inl ⟨rfl,_,SqL.of c⟩,_,rfl,_,rfl,d,_,rfl,X,a.1,_,_,_,rfl,rfl,SqT.of z,at2 a.2,pn,_,_,rfl,rfl,c,au (by rw[length_map,List.length_reverse];omega),?_⟩;have a6:pn≠d:=λe=>by
     obtain⟨o,D⟩:=B.same s1;rw[<-e,c]at D;cases D
    have a7:a.1≠pn:=λe=>by rw[e,c]at z;cases z
    have C:Same H (upd H' pn<|.lst (r.reverse.map V.str++[.str a.2.nm])):=aC M s1;refine⟨_,rfl,_,rfl,d,_,rfl,(B.same C).get J n,a.1,_,_,_,rfl,rfl,SqT.of<|C _ _ (I a n),at1 a.2,?_⟩;refine⟨⟨a.2.par,a1,a.2.nm::r,rfl,Z,by rw[j,x];simp,by rw[ac];simp,C⟩,?_⟩;show p.length-hJ _ pn<p.length-hJ H' pn;rw[dQ ac,dQ c,j,x];simp;omega
  ·rintro σ H1 a2 a3 m ⟨v,e,h2,b,U,q⟩;exact⟨v,e,h2,b,U,m _ _ q⟩
theorem qu{A:xg}{k:Nat}(a:Room k A):A.units+8<cLine:=lt_of_le_of_lt (Nat.add_le_add_left (by decide:8<=64) _) a.units
structure Wl(H:Hp)(zs:ZN)(cs:List Cp):Prop where
 at':∀c∈cs,ou H c
 up:cs.Pairwise λa b=>HT.cG a.p b.p=true
 mem:∀p n,(∃c∈cs,c.p=p/\c.n=n)↔∃z∈zs,z.2.num=n/\TW.PathTo (nds zs) n p
structure Cps(H:Hp)(zs:ZN)(cs:List Cp):Prop where
 at':∀c∈cs,ou H c
 nums:cs.map (·.n)=(nds zs).map (·.num)
 path:∀c∈cs,TW.PathTo (nds zs) c.n c.p
theorem AK{f:Hp}{p:zo}{zs:ZN}{ys:List V}(A:ys.length=zs.length)(j:∀(i:Nat) y,ys[i]?=some y->∃q t z e,zs[i]?=some z/\y=.ref q/\q≠p/\t≠p/\f q=some (.tup [.ref t,.int z.2.num])/\f t=some (.tup<|e.map V.str)/\TW.PathTo (nds zs) z.2.num e):
  ∃b:List Cp,ys=b.map (λc=>V.ref c.a)/\Cps f zs b/\∀c∈b,c.a≠p/\c.t≠p:=by
 have D:∀(ys:List V)(xs:ZN),ys.length=xs.length->(∀(i:Nat) y,ys[i]?=some y->∃q t z e,xs[i]?=some z/\y=.ref q/\q≠p/\t≠p/\f q=some (.tup [.ref t,.int z.2.num])/\f t=some (.tup<|e.map V.str)/\TW.PathTo (nds zs) z.2.num e) ->
   ∃b:List Cp,ys=b.map (λc=>V.ref c.a)/\(∀c∈b,ou f c/\TW.PathTo (nds zs) c.n c.p/\c.a≠p/\c.t≠p)/\b.map (·.n)=(nds xs).map (·.num):=by
  intro ys
  induction ys with
  |nil =>
   intro xs k _;have:xs=[]:=length_eq_zero_iff.mp k.symm;subst this;exact⟨[],rfl,by simp,rfl⟩
  |cons y ys C =>
   intro xs k j;cases xs with
   |nil=>simp at k
   |cons x xs =>
    obtain⟨b,l,g,h⟩:=C xs (by simpa using k) λi y B=>by simpa using j (i+1) y (by simpa using B)
    obtain⟨q,t,z,e,m,o,r,s,u,v,w⟩:=j 0 y rfl;have:x=z:=by simpa using m
    subst this;refine⟨⟨q,t,e,x.2.num⟩::b,by simp[l,o],λc d=>?_,by simp[nds]at h|-;exact h⟩;rcases mem_cons.mp d with rfl|d
    ·exact⟨⟨u,v⟩,w,r,s⟩
    ·exact g c d
 obtain⟨b,l,g,h⟩:=D ys zs A j;exact⟨b,l,⟨λc d=>(g c d).1,h,λc d=>(g c d).2.1⟩,λc d=>(g c d).2.2⟩
theorem Cps.paths_nd{i:Hp}{zs:ZN}{a:List Cp}(f:Cps i zs a)(T:TW.Tree1<|nds zs):(a.map (·.p)).Nodup:=by
 have b:(a.map (·.n)).Nodup:=by rw[f.nums];exact cB T
 unfold Nodup at b|-;rw[pairwise_map]at b|-;have g:=f.path;clear f
 induction a with
 |nil=>exact .nil
 |cons c a k =>
  rw[pairwise_cons]at b|-;refine⟨λd h e=>b.1 d h ?_,k b.2 λx j=>g x (by simp[j])⟩;have h1:=g c (by simp);have h2:=g d (by simp[h]);rw[<-e]at h2;exact h1.key T h2
theorem Cps.wl{k:Hp}{zs:ZN}{h cs':List Cp}(f:Cps k zs h)(T:TW.Tree1<|nds zs)(i:cs'.Perm h)(q:cs'.Pairwise λa b=>HT.cG a.p b.p=true):Wl k zs cs':=by
 refine⟨λc d=>f.at' c<|i.mem_iff.mp d,q,λp n=>?_⟩;constructor
 ·rintro⟨c,d,rfl,rfl⟩;have l:=i.mem_iff.mp d;have:c.n∈(nds zs).map (·.num):=by rw[<-f.nums];exact mem_map.mpr ⟨c,l,rfl⟩
  obtain⟨n,m,e⟩:=mem_map.mp this;obtain⟨g,j,rfl⟩:=mem_map.mp m;exact⟨g,j,e,f.path c l⟩
 ·rintro⟨g,j,rfl,o⟩;have:g.2.num∈h.map (·.n):=by rw[f.nums];exact mem_map.mpr ⟨g.2,mem_map.mpr ⟨g,j,rfl⟩,rfl⟩
  obtain⟨c,d,e⟩:=mem_map.mp this;refine⟨c,i.mem_iff.mpr d,?_,e⟩;have:=f.path c d;rw[e]at this;exact this.uniq T o
def wd:Sp:=λvs H Q _=>∃t zs,vs=[.ref t]/\Tre H t zs/\∀b l H',Same H H'->Wl H' zs b->b.length=zs.length->H' l=some (.lst<|b.map λc=>V.ref c.a)->Q (.ref l) H'
theorem zw:FnScope ["tree","nodes"] ["tree"] (aj yn):=fsM
theorem AL{f:zo}{Y:xl}(F:Fun K "walked" "walked" yn f Y)(T:Txt mg)(a8:Has P w K mg base 1 "by_number" ["tree"] lP)(a9:Has P w K mg base 1 "path_up" ["nodes","number"] rR):
  FnOk P w K mg base CX0 2 f Y ["tree"] wd:=by
 obtain⟨e8,f0,b0,e0,d8,bB⟩:=a8;obtain⟨e9,f1,b1,e1,d9,b6⟩:=a9;refine F.ok zw (λvs H Q E h=>?_) λcdv A outer s H vs Q E J h=>?_
 ·obtain⟨t,zs,rfl,_⟩:=h;rfl
 ·obtain⟨t,zs,rfl,b,k⟩:=h;have c8:=cB b.tr;have Z:=b.len;refine⟨_,ai (aA (i:=1) zw.nd rfl (Or.inr rfl)<|ax b0 J rfl e0 d8 bB .nil aJ (aa (pv 0) af))
   (am<|aH (aF (ja<|qu J) rfl T.sorted boot_sorted<|aa (fY (N:=["number","nodes"]) (cl:=[("nodes",s.heap.objs.size+1)]) (k:=1) (js:=[1]) (g:=br 0) rfl
     (LcOk.mk' ["nodes"] rfl rfl (by decide +kernel) (by decide +kernel) ?hcl rfl (by decide +kernel)) rfl ?hj
    (Cd<|pv 1) (λs H fp=>aB (i:=0) (show(["number","nodes"]:List Str).Nodup by decide +kernel) rfl (Or.inl rfl)<|Or.inr rfl)
    (λs H fp=>bA<|aa (ax (X:=cg _ _ _ _ _ _ _) b1 J rfl e1 d9 b6 .nil aJ<|aa (pv 1) (aa (pv 0) af)) (aa (pv 0) af))) af)),?_⟩
  case hcl =>
   intro y z;rcases mem_cons.mp z with e|z
   ·rw[e];rfl
   ·cases z
  case hj =>
   intro i f2 x h1 h2
   match i,h1,h2 with
   |0,h1,h2 =>
    cases h1;cases h2;exact⟨rfl,Or.inr<|Or.inl rfl,(show((aj yn).names.lookup ("nodes":Str)≠some NameKind.local)by decide +kernel),by first|exact Or.inl rfl|exact Or.inr rfl⟩
   |i+1,h1,h2=>simp at h1
  refine⟨_,rfl,t,zs,rfl,b.tup,b.nod,by omega,c8,λd H1 s1 a6=>?_⟩;obtain⟨o,I⟩:=id a6;have f3:=b.same s1;refine⟨_,rfl,d,o,_,rfl,I,λp c9=>?_⟩;refine qg (fr:=[some<|.ref d]) zs.length (by omega) c9 rfl (λi y H'=>∃q t n j,zs[i]?=some n/\y=.ref q/\q≠p/\t≠p/\H' q=some (.tup [.ref t,.int n.2.num])/\H' t=some (.tup<|j.map V.str)/\TW.PathTo (nds zs) n.2.num j) (λi y H1 H2 h ex=>?_) (λi H' hi r=>?_) (λH' r=>?_) ?_ (λi H' x H2 hi r d1 z=>?_) λys H' r d0 a0 d5=>?_
  ·obtain⟨q,t,n,j,D,u,G,W,c4,c5,c6⟩:=h;exact⟨q,t,n,j,D,u,G,W,ex q _ G c4,ex t _ W c5,c6⟩
  ·exact⟨r _ _ I,by simpa [cN]using hi⟩
  ·exact⟨r _ _ I,by simp[cN]⟩
  ·rintro _ _ _ _ m ⟨e4,b3,e5,b4,c3,d7,e7,j,b7,b8,b9,c0,c1,c2,q⟩;refine⟨e4,b3,e5,b4,c3,d7,e7,j,b7,b8,b9,c0,c1,c2,λC H' st d2=>?_⟩;obtain⟨e6,b5,d6,e2⟩:=q C H' st d2;exact⟨e6,b5,d6,λl Z=>m _ _<|e2 l Z⟩
  ·obtain⟨rfl,L⟩:=z;have B:zs[i]?=some zs[i]:=getElem?_eq_getElem hi;have ex:x=.int zs[i].2.num:=by
    unfold cN at L;rw[getElem?_map,getElem?_map,B]at L;exact(Option.some.inj L).symm
   subst ex;have a5:=mem_of_getElem? B;generalize zs[i]=n at B a5|-;obtain⟨j,a1⟩:=TW.PathTo.ex b.tr (mem_map.mpr ⟨n,a5,rfl⟩:n.2∈nds zs);have e3:=s1.trans r;refine⟨rfl,_,rfl,_,rfl,d,_,zs,j,rfl,a6.same r,b.nod.same e3,b.tr,by omega,a1,λC b2 a7 a4=>?_⟩;have a2:∃ys,b2 p=some (.lst ys):=let⟨ys,e⟩:=d1;⟨ys,a7 _ _ e⟩;have d3:C≠p:=λe=>by obtain⟨ys,U⟩:=a2;rw[<-e,a4]at U;cases U
   refine⟨_,rfl,le2,λq v=>⟨a7.trans<|ag v,q,C,n,j,B,rfl,gw a2 v,d3,ac,ca v a4,a1⟩⟩
  ·obtain⟨R,D,u,G⟩:=AK (p:=p) a0 d5;subst D;have hcl:R.length=zs.length:=by rw[<-a0,length_map]
   refine⟨p,R,rfl,d0,u.at',u.paths_nd b.tr,by omega,λS a3 d4 q v=>?_⟩;have M:=ag (o:=.lst<|S.map λc=>V.ref c.a) v;have O:=u.wl b.tr a3 d4;refine k S q _ ((s1.trans r).trans M) ⟨λc c7=>?_,O.up,O.mem⟩ (a3.length_eq.trans hcl) ac;obtain⟨g1,g2⟩:=O.at' c c7;exact⟨M _ _ g1,M _ _ g2⟩
end
end TK
namespace L2
open PySem PySem.Spec PyProof.Rows
section
variable{X:Cx}
abbrev qv:=zo×Str×List V
def iW(zs:List qv)(i:Nat):Str:=(zs.getD i (0,"",[])).2.1
theorem Cn{zs:List qv}(c:(zs.map (·.2.1)).Nodup):SRT.Ord (λi j=>HT.ci (iW zs i)<|iW zs j) zs.length:=by
 refine⟨λi _=>HT.cW _,λi j k _ _ _ h1 h2=>HT.gY h1 h2,λi j hi a d=>HT.iz ?_⟩;unfold iW;rw[getD_eq_getElem?_getD,getD_eq_getElem?_getD,getElem?_eq_getElem hi,getElem?_eq_getElem a];intro e;have b:(zs.map (·.2.1))[i]'(by simpa using hi)=(zs.map (·.2.1))[j]'(by simpa using a):=by simpa using e
 exact d<|(getElem_inj c).mp b
theorem ig:bu X (.builtin "sorted") (λxs H Q=>∃l,∃zs:List qv,xs=[.ref l]/\(SqL X.K H l ((zs.map (·.1)).map V.ref)\/SqT X.K H l ((zs.map (·.1)).map V.ref))/\(∀z∈zs,H z.1=some (.tup (.str z.2.1::z.2.2)))/\(zs.map (·.2.1)).Nodup/\zs.length<64 /\
  ∀g:List qv,g.Perm zs->g.Pairwise (λa b=>HT.ci a.2.1 b.2.1=true)->∀p,H p=none->Q (.ref p) (upd H p<|.lst ((g.map (·.1)).map V.ref))):=by
 intro pins s σ H xs us Q I r h;obtain⟨l,zs,rfl,B,b8,a5,b5,q⟩:=h;obtain⟨u,rfl,c8⟩:=bY r;cases c8;obtain⟨d,E,pl⟩:∃d,aq ((zs.map (·.1)).map V.ref) d/\(s.heap.IsList l d.toArray\/IsTup s.heap l d.toArray):=by
  rcases B with B | B
  ·obtain⟨d,E,pl,c3⟩:=I.list B;exact⟨d,E,.inl pl.isList⟩
  ·obtain⟨d,E,pl,c3⟩:=I.tuple B;exact⟨d,E,.inr pl⟩
 have e:=cV E;subst e;have A:((zs.map (·.1)).map Value.ref).length=zs.length:=by simp
 have Y:∀z∈zs,∃o d n t,s.heap.get? z.1=some o/\o.cls=.type "tuple"/\o.data=.seq d n/\d.toList=.str z.2.1 t::d.toList.drop 1:=λz Z=>by
  obtain⟨_,d,c7,o,N,x,n,O⟩:=I.hok z.1 _<|b8 z Z;cases c7 with
  |cons c6 d8 =>
   obtain⟨t,rfl⟩:=c6;exact⟨o,_,n,t,N,x,O,by simp⟩
 have S:∀i,i<zs.length->((zs.map (·.1)).map Value.ref).getD i Value.none=.ref (zs.getD i (0,"",[])).1/\zs.getD i (0,"",[])∈zs:=λi hi=>by
  rw[getD_eq_getElem?_getD,getD_eq_getElem?_getD,getElem?_map,getElem?_map,getElem?_eq_getElem hi];exact⟨rfl,getElem_mem hi⟩
 refine SRT.eA (κ:=tuples' true) (f:=λi j=>HT.ci (iW zs i)<|iW zs j) (by rw[A];exact Cn a5) pl (by rw[A];exact b5) ?kind ?less ?fin
 case kind =>
  intro a9 s' _ w c9 h2 b6;have key:∀ys:List qv,(∀z∈ys,z∈zs)->∃fs:List zt,KatTups s'.heap ((ys.map (·.1)).map Value.ref) fs/\fs.length=ys.length/\∀v∈fs,∃i t,v=Value.str i t:=by
   intro ys
   induction ys with
   |nil=>intro _;exact⟨[],KatTups.nil,rfl,λv k=>by simp at k⟩
   |cons z ys a0 =>
    intro a4;obtain⟨fs,h1,P,h3⟩:=a0 λy c2=>a4 y (by simp[c2]);obtain⟨o,d,n,t,N,x,O,b2⟩:=Y z<|a4 z (by simp);refine⟨.str z.2.1 t::fs,KatTups.cons (w _ _ N) x O ?_ h1,by simp[P],λv k=>?_⟩
    ·rw[<-getElem?_toList,b2];rfl
    ·rcases mem_cons.mp k with rfl|k
     ·exact⟨_,_,rfl⟩
     ·exact h3 v k
  obtain⟨fs,h1,P,h3⟩:=key zs λz Z=>Z;refine kat_kind (T:=.type "str") h1 (by rw[P];rw[A]at h2;omega) (λv k=>?_) (by rfl) b6;obtain⟨i,t,rfl⟩:=h3 v k;exact .now
 case less =>
  intro a9 s' _ w i j C hi m R;rw[A]at hi m;obtain⟨b3,c4⟩:=S i hi;obtain⟨b4,c5⟩:=S j m;rw[b3,b4];obtain⟨d6,a8,d4,d9,a1,d0,a2,b0⟩:=Y _ c4;obtain⟨d7,d3,d5,e0,L,d1,M,b1⟩:=Y _ c5;refine kat_lt (w _ _ a1) a2 (w _ _ L) M ?_
  by_cases G:i=j
  ·subst G;rw[a1]at L;cases L;rw[a2]at M;cases M;have:C false s':=by rw[HT.cW]at R;exact R
   have x:decide (a8.size<a8.size)=false:=by simp
   rw[x];exact gW this _ _
  ·have b9:iW zs i≠iW zs j:=λe=>by
    rcases (Cn a5).tot i j hi m G with h1|h1<;>rw[e,HT.cW]at h1<;>cases h1
   rw[b0,b1];refine kat_cons<|wpAny_eqBool_str ?_;rw[decide_eq_false (show ¬(zs.getD i (0,"",[])).2.1=(zs.getD j (0,"",[])).2.1 from b9)];refine kat_no ?_;exact kas_lt_str R
 case fin =>
  intro p h' J a7 w _ F;obtain⟨c,F⟩:=F;rw[A]at J a7;obtain⟨g,D⟩:∃g,g=p.toList.map λi=>zs.getD i (0,"",[]):=⟨_,rfl⟩;have a6:g.Perm zs:=by
   rw[D];refine(J.perm.map _).trans ?_;have:(List.range zs.length).map (λi=>zs.getD i (0,"",[]))=zs:=by
    apply ext_getElem?;intro i;rw[getElem?_map]
    by_cases hi:i<zs.length
    ·rw[getElem?_range hi,getElem?_eq_getElem hi];show some (zs.getD i (0,"",[]))=_;rw[getD_eq_getElem?_getD,getElem?_eq_getElem hi];rfl
    ·rw[getElem?_eq_none (by rw[length_range];omega),getElem?_eq_none (by omega)];rfl
   rw[this]
  have d2:p.size=zs.length:=J.size;have c1:g.Pairwise (λa b=>HT.ci a.2.1 b.2.1=true):=by
   rw[pairwise_iff_getElem];intro i j hi m G;have U:i<p.size:=by rw[D,length_map,length_toList]at hi;exact hi
   have b7:j<p.size:=by rw[D,length_map,length_toList]at m;exact m
   have:=a7 i j G (by omega);simp only[iW]at this;rw[getD_eq_getD_getElem?,getD_eq_getD_getElem?,Array.getElem?_eq_getElem U,Array.getElem?_eq_getElem b7]at this;simpa [D]using this
  have c0:(toArray<|p.toList.map λi=>((zs.map (·.1)).map Value.ref).getD i Value.none)=((g.map (·.1)).map Value.ref).toArray:=by
   congr 1
   rw[D];simp only[map_map];apply map_congr_left;intro i hi;have U:i<zs.length:=mem_range.mp<|J.perm.mem_iff.mp hi;have:=(S i U).1;simp only[map_map]at this;exact this
  rw[c0]at F;have k:aq ((g.map (·.1)).map V.ref) ((g.map (·.1)).map Value.ref):=by
   generalize g.map (·.1)=a3
   induction a3 with
   |nil=>exact .nil
   |cons a a3 a0=>exact .cons rfl a0
  refine⟨.ref<|s.heap.objs.size+1,_,I.laid (t':=s.toks) (o:=.lst<|(g.map (·.1)).map V.ref) w (le_succ _) ⟨?_,_,c,k,F⟩,rfl,q g a6 c1 _<|I.hok.fresh (le_succ _)⟩;rw[length_map,length_map,a6.length_eq,sizeLine_eq];omega
end
open PySem PySem.W PySem.Spec PyProof.Rows
theorem iH{f i:Type}{g:f->i}{ps h:List i}(k:ps.Perm h):∀{zs:List f},zs.map g=h->∃ys:List f,ys.Perm zs/\ys.map g=ps:=by
 induction k with
 |nil=>intro zs e;exact⟨zs,.refl _,e⟩
 |cons x _ m =>
  intro zs e;cases zs with
  |nil=>cases e
  |cons t zs =>
   rw[map_cons]at e;injection e with d c
   obtain⟨ys,p,q⟩:=m c;exact⟨t::ys,p.cons _,by rw[map_cons,d,q]⟩
 |swap x y l =>
  intro zs e
  match zs,e with
  |a::b::zs,e =>
   rw[map_cons,map_cons]at e;injection e with d c
   injection c with c j
   exact⟨b::a::zs,.swap _ _ _,by rw[map_cons,map_cons,d,c,j]⟩
 |trans _ _ n o =>
  intro zs e;obtain⟨ys,p,q⟩:=o e;obtain⟨ws,r,s⟩:=n q;exact⟨ws,r.trans p,s⟩
theorem pc:∀{xs:List V}{us:List zt},aq xs us->∃zs:List<|V×zt,zs.map (·.1)=xs/\zs.map (·.2)=us/\∀z∈zs,aw z.1 z.2
 |_,_,.nil=>⟨[],rfl,rfl,λz h=>by cases h⟩
 |_,_,.cons (a:=x) (b:=u) r q=>by
  obtain⟨zs,h1,h2,h3⟩:=pc q;refine⟨(x,u)::zs,by rw[map_cons,h1],by rw[map_cons,h2],λz c=>?_⟩;rcases mem_cons.mp c with e|e
  ·rw[e];exact r
  ·exact h3 z e
theorem rT:∀{zs:List (V×zt)},(∀z∈zs,aw z.1 z.2)->aq (zs.map (·.1)) (zs.map (·.2))
 |[],_=>.nil
 |z::zs,h=>.cons (h z mem_cons_self)<|rT λy a=>h y<|mem_cons_of_mem _ a
theorem we{b:Bool}{key:V->Int}{xs:List V}{vs f:List zt}(r:aq xs vs)(h:KskOut b (xs.map key) vs f):∃ys:List V,ys.Perm xs/\aq ys f/\ys.Pairwise λx y=>if b then key y<=key x else key x<=key y:=by
 obtain⟨ps,g,rfl,c⟩:=h;obtain⟨zs,rfl,rfl,d⟩:=pc r;have e:zs.map (λa=>(key a.1,a.2))=((zs.map (·.1)).map key).zip (zs.map (·.2)):=by
  rw[map_map];clear d g c r
  induction zs with
  |nil=>rfl
  |cons a zs j=>rw[map_cons,map_cons,map_cons,zip_cons_cons,j];rfl
 obtain⟨ys,p,rfl⟩:=iH g e;refine⟨ys.map (·.1),p.map _,?_,?_⟩
 ·rw[map_map];exact rT λa i=>d a<|p.mem_iff.mp i
 ·rw[pairwise_map]at c|-;exact c
structure KSg(P:xx)(w:qq)(H H1:Hp)(fs:List zo)(s s':zi):Prop where
 os:s'.os=s.os
 bare:AllBare s'.gens
 hok:HOk P w H1 s'.heap
 un:Un fs [] H H1 s.heap s'.heap
theorem gg{base d h':qa}{fs:List zo}{c f:Hp}:∀{l:List Env},d.FunFrames base l->Un fs [] c f d h'->(∀b∈frs l,c b=none)->h'.FunFrames base l
 |[],_,_,_=>trivial
 |env::rest,⟨k,⟨L,o,hf,a,ho,hd⟩,r⟩,u,hn=>by
  have e:frs (env::rest)=L::frs rest:=by unfold frs;rw[filterMap_cons,hf]
  rw[e]at hn;obtain⟨g,q⟩:=u.any ho (hn L mem_cons_self) (by simp);exact⟨k,⟨L,_,hf,a,q,hd⟩,gg r u λb a=>hn b<|mem_cons_of_mem _ a⟩
section
variable{P:xx}{w:qq}{H H1:Hp}{fs:List zo}{s s1:zi}
theorem KSg.low(a:KSg P w H H1 fs s s1){Pv:zo->Prop}(j:∀b,Pv b->s.heap.objs.size<=b/\H1 b=none){h2:qa}{t:Nat}(k:∀b o,¬Pv b->s1.heap.get? b=some o->h2.get? b=some o):KSg P w H H1 fs s {s1 with heap:=h2,toks:=t}:=by
 have h:∀b o,s.heap.get? b=some o->¬Pv b:=λb o e i=>absurd (lt_size e)<|not_lt.mpr (j b i).1;refine⟨a.os,a.bare,λb u e=>(a.hok b u e).stay (λc v l q=>k c v (λi=>?_) q) (λ_ q=>q) λ_ _ q=>q,⟨λb o e n g d=>k b o (h b o e)<|a.un.keep b o e n g d,λb o e n g d=>?_,a.un.free,λb o e d=>?_,a.un.tups,a.un.frzs,a.un.tbls⟩⟩
 ·have f:=(j c i).2;rcases l with q|q
  ·rw[q,e]at f;cases f
  ·rw[q]at f;cases f
 ·obtain⟨m,q⟩:=a.un.slot b o e n g d;exact⟨m,k b _ (h b o e) q⟩
 ·obtain⟨o',q⟩:=a.un.there b o e d;exact⟨o',k b o' (h b o e) q⟩
variable{K:Frag}{mg:Str->Option zt}{base:qa}{A:xg}{outer:List Env}{k:Nat}{f:zo}{fd:xl}{y:Str}{spK:Sp}{key:V->Int}{b:Bool}{Rl:Hp->Hp->Prop}
theorem tQ(F:FnOk P w K mg base CX0 k f fd [y] spK)(d:aE K fd [y] [])(E:Room k A)(a:Env0 P w K mg base A outer s H)(c:KSg P w H H1 (frs outer) s s1)(hsz:s.heap.objs.size<=s1.heap.objs.size){x:V}{u:zt}(r:aw x u)(G:spK [x] H1 (λv H'=>v=.int (key x)/\Rl H1 H') E0):
  wpAny (model P w) A (call (.ref f) [u]) (λv l=>∃H2,Rl H1 H2/\KSg P w H H2 (frs outer) s l/\(∃t,v=.int (key x) t)/\∀b o,s.heap.objs.size<=b->H1 b=none->s1.heap.get? b=some o->l.heap.get? b=some o/\H2 b=none) (λ_ _=>False) s1:=by
 have I:∀b∈frs outer,b<s.heap.objs.size:=λb d=>by
  obtain⟨_,o,j,_⟩:=a.funs.mem d;exact lt_size j
 have bs:∀b o,base.get? b=some o->s1.heap.get? b=some o/\H1 b=none:=λb o e=>by
  obtain⟨h1,h2⟩:=a.bs b o e;refine⟨c.un.keep b o h1 h2 (λi=>?_) (by simp),c.un.free b o h1 h2 (by simp)⟩;have:=(a.funs.mem i).1;rw[e]at this;cases this
 have q:Env0 P w K mg base A outer s1 H1:=⟨a.frames,a.mod,bs,le_trans a.bsz hsz,gg a.funs c.un a.frf,λb d=>by
  obtain⟨_,o,j,_⟩:=a.funs.mem d;exact c.un.free b o j (a.frf b d) (by simp),c.hok,c.bare⟩
 have n:K.In s1.heap:=a.mod.kin.keeps λb o e=>(bs b o e).1;have h:=d s1 [u] n rfl;refine wpAny_call<|codeAny_mono (F.run A outer s1 H1 ⟨[u],[]⟩ [u] [x] _ E0 E q h (.cons r .nil) G) λJ l g=>?_;cases J with
 |error e=>exact g
 |ok C =>
  cases C with
  |next=>exact False.elim g
  |brk=>exact False.elim g
  |cont=>exact False.elim g
  |ret v =>
   obtain⟨M,H',os,p,un,D,L,B,z⟩:=g;subst B;refine⟨H',z,⟨os.trans c.os,p,D,c.un.trans un⟩,L,λb o h m e=>⟨un.keep b o e m (λi=>?_) (by simp),un.free b o e m (by simp)⟩⟩;exact absurd (I b i)<|not_lt.mpr h
theorem tR(e2:∀H,Rl H H)(e4:∀H H' a7,Rl H H'->Rl H' a7->Rl H a7)(F:FnOk P w K mg base CX0 k f fd [y] spK)(U:aE K fd [y] [])(d7:Room k A)(T:Env0 P w K mg base A outer s H){a:zo}{vs:List zt}{xs:List V}{n:Nat}(d0:KSg P w H H (frs outer) s s1)(z:s.heap.objs.size<=a)(L:s1.heap.get? a=some (seqObj "list" vs.toArray n))(c2:aq xs vs)(e6:xs.length<64)(d8:∀x∈xs,∀H1,Rl H H1->spK [x] H1 (λv H'=>v=.int (key x)/\Rl H1 H') E0){Q:PySem.Fin->zi->Prop}{E:zt->zi->Prop}(q:∀(c1:Array zt) s2 c H2,KskOut b (xs.map key) vs c1.toList->Rl H H2->KSg P w H H2 (frs outer) s s2->H2 a=none->s2.heap.get? a=some (seqObj "list" c1 c)->Q (.done<|.ret .none) s2):
  wpAny (model P w) A (ksk_tree a (.ref f) b) Q E s1:=by
 have e9:=c2.length;have c3:=SameBut.update s1.heap a<|Obj.mapSeq λ_=>(#[]:Array zt);obtain⟨l,Z⟩:∃l,(s1.heap.update a<|Obj.mapSeq λ_=>(#[]:Array zt)).get? a=some (seqObj "list" #[] l):=⟨_,get?_update_seq L λ_=>#[]⟩;have b1:a<s1.heap.objs.size:=lt_size L;have b0:H a=none:=T.hok.fresh z;unfold ksk_tree;refine Wb<|listItems_at L rfl (Wb<|listUpdate_at L rfl ?_ (by rw[size_toArray,sizeLine_eq];omega) (zero_le _));refine Wb<|seqEpoch_at Z rfl (Wb<|wpAny_newTuple ?_ (by show vs.length<=_;rw[sizeLine_eq];omega));refine Wb<|wpAny_newList (wpAny_holding ?_) (zero_le _);have X:((s1.heap.update a<|Obj.mapSeq λ_=>(#[]:Array zt)).push (seqObj "tuple" vs.toArray 0)).objs.size=s1.heap.objs.size+1:=by rw[size_push',size_update]
 have b6:(((s1.heap.update a<|Obj.mapSeq λ_=>(#[]:Array zt)).push (seqObj "tuple" vs.toArray 0)).push (seqObj "list" #[] 0)).get? a=some (seqObj "list" #[] l):=get?_push_of_some _<|get?_push_of_some _ Z;have b3:(((s1.heap.update a<|Obj.mapSeq λ_=>(#[]:Array zt)).push (seqObj "tuple" vs.toArray 0)).push (seqObj "list" #[] 0)).get? (s1.heap.objs.size+1)=some (seqObj "list" #[] 0):=by rw[<-X];exact get?_push_size _ rfl
 have a8:KSg P w H H (frs outer) s {s1 with heap:=((s1.heap.update a<|Obj.mapSeq λ_=>(#[]:Array zt)).push (seqObj "tuple" vs.toArray 0)).push (seqObj "list" #[] 0),toks:=s1.toks}:=d0.low (Pv:=λb=>b=a) (λb g=>by rw[g];exact⟨z,b0⟩) λb o U e=>get?_push_of_some _<|get?_push_of_some _ ((c3.2 b U).trans e)
 show wpAny (model P w) A (ksk_rest a (.ref f) b vs.toArray l<|.ref ((s1.heap.update a<|Obj.mapSeq λ_=>(#[]:Array zt)).push (seqObj "tuple" vs.toArray 0)).objs.size) Q E {s1 with heap:=((s1.heap.update a<|Obj.mapSeq λ_=>(#[]:Array zt)).push (seqObj "tuple" vs.toArray 0)).push (seqObj "list" #[] 0)}
 rw[X];have Y:s1.heap.objs.size+1≠a:=ne_of_gt<|lt_succ_of_lt b1;have p:s.heap.objs.size<=s1.heap.objs.size+1:=Nat.le_succ_of_le<|le_trans z (le_of_lt b1);generalize I:({s1 with heap:=((s1.heap.update a<|Obj.mapSeq λ_=>(#[]:Array zt)).push (seqObj "tuple" vs.toArray 0)).push (seqObj "list" #[] 0)}:zi)=s2
 have d4:s2.heap.get? a=some (seqObj "list" #[] l):=by rw[<-I];exact b6
 have b4:s2.heap.get? (s1.heap.objs.size+1)=some (seqObj "list" #[] 0):=by rw[<-I];exact b3
 have c5:KSg P w H H (frs outer) s s2:=by rw[<-I];exact a8
 generalize s1.heap.objs.size+1=h at Y p b4|-;clear a8 b3 b6 X Z c3 I;unfold ksk_rest;refine Wb<|wpAny_rule ?_;rw[<-forIn_toList];refine Wb<|ksk_fold (λi s'=>∃H1,Rl H H1/\KSg P w H H1 (frs outer) s s'/\H1 a=none/\H1 h=none/\s'.heap.get? a=some (seqObj "list" #[] l)/\∃d c,s'.heap.get? h=some (seqObj "list" d c)/\IntsAre d.toList ((xs.take i).map key)) vs.toArray.toList 0 s2 ⟨H,e2 H,c5,b0,T.hok.fresh p,d4,#[],0,b4,by rw[take_zero];exact .nil⟩ ?step ?done
 case step =>
  rintro j u s' a4 ⟨H1,O,R,N,a6,a0,d,c,B,m⟩;rw[List.toList_toArray]at a4;rw[zero_add]at m|-;have b2:j<vs.length:=(List.getElem?_eq_some_iff.mp a4).1;have W:j<xs.length:=by omega
  have e1:aw xs[j] u:=by
   obtain⟨f1,h1,h2⟩:=c2.get<|getElem?_eq_getElem W;rw[a4]at h1;cases h1;exact h2
  have e8:d.size<=vs.length:=by
   have h1:=m.length;rw[length_toList,length_map,length_take]at h1;omega
  refine Wb<|wpAny_attempt (wpAny_mono (tQ F U d7 T R (le_of_lt<|lt_of_le_of_lt p (lt_size B)) e1<|d8 _ (getElem_mem W) H1 O) (λv c4 d9=>?_) λ_ _ g=>g.elim);obtain⟨H2,e3,c6,⟨t,rfl⟩,b9⟩:=d9;obtain⟨b5,c0⟩:=b9 _ _ p a6 B;obtain⟨d5,e0⟩:=b9 _ _ z N a0;have D:=SameBut.update c4.heap h<|Obj.mapSeq (·.push (Value.int (key xs[j]) t));dsimp only;refine Wb<|listUpdate_at b5 rfl ?_ (by rw[sizeLine_eq];omega) (le_trans (le_of_eq<|Array.size_push ..) (by rw[sizeLine_eq];omega));refine Wp ⟨rfl,H2,e4 _ _ _ O e3,c6.low (t:=c4.toks) (Pv:=λb=>b=h) (λb g=>by rw[g];exact⟨p,c0⟩) λb o G e=>(D.2 b G).trans e,e0,c0,(D.2 a<|Ne.symm Y).trans d5,d.push<|.int (key xs[j]) t,_,get?_update_seq b5 (·.push (Value.int (key xs[j]) t)),?_⟩;rw[List.take_add_one,getElem?_eq_getElem W,toList_push,map_append];exact ksk_snoc m
 case done =>
  rintro s' ⟨H1,O,R,N,a6,a0,d,c,B,m⟩;have J:IntsAre d.toList (xs.map key):=by
   rw[zero_add,take_of_length_le (by rw[List.toList_toArray];omega)]at m;exact m
  have a5:d.size=vs.length:=by
   have h1:=J.length;rw[length_toList,length_map]at h1;omega
  refine Wb<|listItems_at B rfl ?_;have M:(d.zip vs.toArray).size=vs.length:=by rw[Array.size_zip,a5,size_toArray,min_self]
  have a9:∀(st:SortSt),(arrOf st).Perm (d.zip vs.toArray)->SortedTo (arrOf st) (arrOf st).size->failedOf st=none->wpAny (model P w) A (ksk_tail a b l (.ref h) st) Q E s':=λst C a2 d2=>by
   have b7:(arrOf st).size=vs.length:=by rw[C.size_eq,M]
   have d6:(if b then ((arrOf st).map (·.2)).reverse else (arrOf st).map (·.2)).size=vs.length:=by
    cases b with
    |false=>simp only[false_eq_true,if_false,size_map];exact b7
    |true=>simp only[if_true,Array.size_reverse,size_map];exact b7
   have D:=SameBut.update s'.heap h<|Obj.mapSeq λ_=>(#[]:Array zt);have a1:=(D.2 a<|Ne.symm Y).trans a0;have e5:=SameBut.update (s'.heap.update h<|Obj.mapSeq λ_=>(#[]:Array zt)) a<|Obj.mapSeq λ_=>if b then ((arrOf st).map (·.2)).reverse else (arrOf st).map (·.2)
   unfold ksk_tail
   try dsimp only
   refine Wb<|listUpdate_at B rfl (Wb<|wpAny_letGo (Wb<|seqEpoch_at a1 rfl ?_)) (by rw[a5,sizeLine_eq];omega) (zero_le _);refine Wb<|listUpdate_at a1 rfl ?_ (zero_le _) (le_trans (le_of_eq d6) (by rw[sizeLine_eq];omega));rw[d2];simp only[bne_self_eq_false,false_eq_true,if_false];refine Wp<|q _ _ _ H1 (ksk_out J C a2) O (R.low (t:=s'.toks) (Pv:=λb=>b=a\/b=h) (λS g=>g.elim (λg=>by rw[g];exact⟨z,N⟩) λg=>by rw[g];exact⟨p,a6⟩) λS o G e=>?_) N (get?_update_seq a1 _);exact(e5.2 S λg=>G<|.inl g).trans ((D.2 S λg=>G<|.inr g).trans e)
  have step:∀t:Sem PySem.Fin,wpAny (model P w) A t Q E s'->wpAny (model P w) A (if b=true then (do let _ <- rule "list.sort.reverse";t)else t) Q E s':=by
   intro t b8
   split
   ·exact Wb<|wpAny_rule b8
   ·exact b8
  have a3:(if b=true then (d.zip vs.toArray).reverse else d.zip vs.toArray).Perm (d.zip vs.toArray):=by
   cases b with
   |false=>exact Array.Perm.refl _
   |true=>exact Array.perm_iff_toList_perm.mpr (by rw[if_pos rfl,Array.toList_reverse];exact List.reverse_perm _)
  unfold ksk_end
  try dsimp only
  refine step _ ?_
  by_cases h2:vs.toArray.size<2
  ·rw[if_pos h2,if_pos h2];refine Wb<|Wp ?_;rw[StateT.run_pure];refine Wb (Wp ?_)
   try dsimp only
   refine a9 (SortSt.mk' general' (if b=true then (d.zip vs.toArray).reverse else d.zip vs.toArray) #[] 7 none) a3 (λi j e7 b2=>?_) rfl
   have d3:j<(if b=true then (d.zip vs.toArray).reverse else d.zip vs.toArray).size:=b2
   rw[a3.size_eq,M]at d3;rw[size_toArray]at h2;have:i=j:=by omega
   subst this;exact Int.le_refl _
  ·rw[if_neg h2,if_neg h2];rw[size_toArray]at h2;rw[ksk_kind J (by rw[a5];omega)];refine Wb<|Wp ?_;refine Wb (wpAny_mono (wpS_sortRuns (a₀:=d.zip vs.toArray) (st:=SortSt.mk' oneType' (if b=true then (d.zip vs.toArray).reverse else d.zip vs.toArray) #[] 7 none)
    (Q:=λ_ r=>(arrOf r).Perm (d.zip vs.toArray)/\failedOf r=none/\SortedTo (arrOf r) (d.zip vs.toArray).size)
    (ksk_intKeys J) ⟨a3,rfl,rfl,rfl⟩ (by rw[M];omega) (by rw[M];omega) λr c7 c8 c9=>⟨c7,c8,c9⟩) ?_ λ_ _ e=>e)
   rintro⟨⟨⟩,r⟩ f0 ⟨rfl,C,d1,a2⟩
   try dsimp only
   exact a9 r C (by rw[C.size_eq];exact a2) d1
end
theorem qw{X:Cx}{M:List (zo×Obj)}{O:St}{d:Hp}{s:zi}{g:qa}{tk k:Nat}{f:zo}{H:xl}{y:Str}{spK:Sp}{key:V->Int}{b:Bool}{Rl:Hp->Hp->Prop}{p:List zt}{xs:List V}{z:List (Str×zt)}{E:zt->zi->Prop}{Q:VK}(a9:∀d,Rl d d)(b0:∀d H' G,Rl d H'->Rl H' G->Rl d G)(J:Inv X M O d s)(Z:∀b o,s.heap.get? b=some o->g.get? b=some o)(L:s.heap.objs.size<=g.objs.size)(C:aq xs p)(W:xs.length<64)(F:FnOk X.prog X.w X.K X.mg (bB X d s) CX0 k f H [y] spK)(r:aE X.K H [y] [])(a1:Room (k+2) X.A)(a6:∀a,Builtin.«list.sort» ⟨[.ref a],z⟩=ksk_tree a (.ref f) b)(a4:∀a,argsOk "list.sort" ⟨[a],z⟩)(a2:∀x∈xs,∀H1,Rl d H1->spK [x] H1 (λv H'=>v=.int (key x)/\Rl H1 H') E0)(q:∀B ys H2,ys.Perm xs->ys.Pairwise (λx y=>if b then key y<=key x else key x<=key y)->Rl d H2->H2 B=none->Q (.ref B) (upd H2 B<|.lst ys)):
  wpAny (model X.prog X.w) X.A.in1 (do
   let l <- newList p
   let _ <- holding [l] (call (.builtin "list.sort") [l] z)
   ret l) (λU s'=>∃v,U=.done (.ret v)/\EP X M O Q v s') E {s with heap:=g,toks:=tk}:=by
 have b3:=C.length;refine Wb<|wpAny_newList ?_ (by rw[sizeLine_eq];omega);have I:(g.push<|seqObj "list" p.toArray 0).get? g.objs.size=some (seqObj "list" p.toArray 0):=get?_push_size _ rfl;have R:KSg X.prog X.w d d (frs X.stack) s s:=⟨rfl,J.bare,J.hok,Un.refl⟩;have S:=R.low (t:=tk) (h2:=g.push<|seqObj "list" p.toArray 0) (Pv:=λ_=>False) (λ_ h=>h.elim) λb o _ e=>get?_push_of_some _<|Z b o e;show wpAny _ _ _ _ _ {s with heap:=g.push<|seqObj "list" p.toArray 0,toks:=tk}
 refine Wb<|wpAny_holding (wpAny_call_entry_kw slot_list_sort ⟨_,I,rfl⟩ entry_list_sort ?_<|a4 _);show wpAny _ _ (Builtin.«list.sort» ⟨[.ref g.objs.size],z⟩) _ _ _;rw[a6];refine tR (b:=b) (key:=key) a9 b0 F r a1.in1.in1 J.env0B.in1.in1 S L I C W a2 λb4 D T H2 a5 a8 i j Y=>⟨_,rfl,Wp ⟨_,rfl,?_⟩⟩;obtain⟨ys,N,b1,b2⟩:=we C a5;have a7:ys.length=xs.length:=N.length_eq;have un:Un (frs X.stack) [] d (upd H2 g.objs.size<|.lst ys) s.heap D.heap:=by
  refine⟨i.un.keep,i.un.slot,λb o e n a3=>?_,i.un.there,λb xs e=>?_,λb o u e=>?_,λb ps e=>?_⟩
  ·rw[ae<|ne_of_lt (lt_of_lt_of_le (lt_size e) L)];exact i.un.free b o e n a3
  ·have e:=i.un.tups _ _ e;rw[ae<|ak e j];exact e
  ·have e:=i.un.frzs _ _ _ e;rw[ae<|ak e j];exact e
  ·obtain⟨m,e⟩:=i.un.tbls _ _ e;exact⟨m,by rw[ae<|ak e j,e]⟩
 have a0:HOk X.prog X.w (upd H2 g.objs.size<|.lst ys) D.heap:=λb u e=>by
  by_cases r:b=g.objs.size
  ·subst r;rw[ac]at e;cases e;exact⟨by rw[a7,sizeLine_eq];omega,_,T,b1,by rw[Array.toArray_toList];exact Y⟩
  ·rw[ae r]at e;exact(i.hok b u e).stay (λ_ _ _ h=>h) (λc h=>by rw[ae<|ak h j];exact h) λc xs h=>by rw[ae<|ak h j];exact h
 have P:=J.call' (s':=D) (ch:=[]) i.os un a0 i.bare λb h=>absurd h (by simp);exact⟨.ref g.objs.size,_,P,rfl,q _ _ _ N b2 a8 j⟩
open PySem PySem.Spec PyProof.Rows
def wf(P:zo)(qual:Str)(spK:zo->zo->Sp)(key:Hp->V->Int)(Q:VK):List V->Hp->Prop
 |[v],H1=>∃l xs,v=.ref l/\H1 l=some (.lst xs)/\xs.length<64/\aL H1 P qual/\∀f c H',bO P H1 H'->aL H' P qual->H' c=some (.ext<|cdφ c qual) ->
  (∀x∈xs,spK f c [x] H' (λv H2=>v=.int (key H' x)/\H2=H') E0)/\∀D ys,ys.Perm xs->ys.Pairwise (λa b=>key H' b<=key H' a)->H' D=none->Q (.ref D) (upd H' D<|.lst ys)
 |_,_=>False
def AM(P:zo)(qual:Str)(spK:zo->zo->Sp)(key:Hp->V->Int)(a:TE):TE:=λσ H Q=>a σ H λv H1=>wf P qual spK key Q [v] H1
section
variable{X:Cx}
theorem wg{P E:zo}{k:Nat}{y:Str}{p M c2 pos G c5:Pos}{F:Nat}{d:Arguments}{i:Expr}{g:Scope}{qual:Str}{spK:zo->zo->Sp}{key:Hp->V->Int}{e:Expr}{U:TE}(Z:CodeHd X.base E P)(a6:X.env.code=.ref E)(Y:BmB X.base X.mg)(b8:X.env.qual++"<lambda>"=qual)(a9:defaultsOf d X.env=([],[]))(a8:closureFor g X.env=pure [])(a3:∀(B:qa) (f c:zo) (pm ctv:zt),(∀b o,X.base.get? b=some o->B.get? b=some o)->B.get? f=some (kla_obj "<lambda>" qual d i g [] pm c ctv)->FnOk X.prog X.w X.K X.mg B CX0 k f (kla_fn "<lambda>" qual d i g [] pm (.ref c) ctv) [y] (spK f c))(a5:∀(pm ctv:zt) (c:zo),aE X.K (kla_fn "<lambda>" qual d i g [] pm (.ref c) ctv) [y] [])(b9:Room (k+2) X.A)(b2:Gl X "sorted")(D:X.mg "sorted"=none)(b0:PE X e U)(J:starEach [e] X.env=(false,eval e X.env)::starEach [] X.env:=by rfl)(b6:(backTo pos<|starEach [e] X.env).any (·.1)=false:=by rfl):
  PE X (.Call (.Name "sorted" p) [e] [⟨some "key",.Lambda d i g M,c2⟩,⟨some "reverse",.Constant (.bool true) F G,c5⟩] pos) (AM P qual spK key U):=by
 intro pins s σ H Q I h;subst b8;refine wpAny_Call_Name_kw<|eW I b2 D boot_sorted ?_ (by decide) (by decide);refine PyProof.Rows.callWith_kw ?_ (by rw[J];rfl) b6 rfl rfl;refine thn (aa b0 af J pos pins s σ H (wf P (X.env.qual++"<lambda>") spK key Q) I h) λus s1 b7=>?_;obtain⟨vs,H1,t,r,O⟩:=b7;obtain⟨v,rfl⟩:∃v,vs=[v]:=by
  match vs,O with
  |[v],_=>exact⟨v,rfl⟩
 obtain⟨l,xs,rfl,C,a2,T,q⟩:=O;obtain⟨u,rfl,c6⟩:=bY r;cases c6;show wpAny _ _ (evalAll [(do let v <- eval (.Lambda d i g M) X.env;standAt pos;pure v),(do let v <- eval (.Constant (.bool true) F G) X.env;standAt pos;pure v)]) _ _ s1
 refine wpAny_evalAll_cons<|Wb (rL t Z a6 Y T a9 a8 λf c pm ctv H' S N c7 a7 z b4 L b1 d0=>Wb<|wpAny_standAt (Wp<|wpAny_evalAll_cons (Wb<|Constant_bool (Wb<|wpAny_standAt (Wp<|wpAny_evalAll_nil ?_)))));obtain⟨c0,c4⟩:=q f c H' N c7 a7;have b3:H' l=some (.lst xs):=N l _ (λj=>by obtain⟨ps,a4,_⟩:=T;rw[j,a4]at C;cases C) C;have c3:f∉frs X.stack:=λD=>by
  rcases mem_cons.mp (t.stkSub f D)with j|j
  ·have:=t.lt;rw[<-j]at this;exact absurd this<|not_lt.mpr L
  ·exact t.nofs L j
 obtain⟨_,d1,n,R,b5⟩:=z.hok l _ b3;have d2:=R.length;show wpAny _ _ (call (.builtin "sorted") [.ref l] [("key",.ref f),("reverse",.bool true)]) _ _ S;refine call_function_entry_kw kind_sorted plain_sorted entry_sorted (ksk_s2 _ _ _) ?_;unfold Builtin.«sorted»;refine Wb (m:=checkCount "sorted" 1 1 _)<|Wp (Wb<|collect_list ⟨_,b5,rfl,n,rfl⟩ ?_ (by rw[sizeLine_eq];omega));refine qw (key:=key H') (b:=true) (Rl:=λa b=>b=a) (tk:=S.toks) (λ_=>rfl) (λ_ _ _ a b=>b.trans a) z (λb o e=>?_) (by rw[size_update,size_push'];exact le_succ _) R a2 (a3 _ f c pm ctv z.bsub<|mV b4 b1 c3) (a5 pm ctv c) b9 (λ_=>rfl) (λ_=>ksk_l2 _ _ _) (λx c1 H1 e=>?_) λa0 ys H2 c8 c9 e a1=>?_
 ·rw[get?_update_ne _ _ _ _<|ne_of_lt (lt_size e),get?_push_ne _ _ _<|ne_of_lt (lt_size e)];exact e
 ·subst e;exact c0 x c1
 ·subst e;exact c4 a0 ys c8 (by simpa using c9) a1
end
end L2
namespace TK
open PySem L2
def shN:List Str:=["tree","members","marks","known","path","number","inner"]
theorem qx:FnScope shN ["tree"] (aj be):=fsc
def yH:Stmt->List Stmt
 |.For _ _ b _ _=>b
 |_=>[]
def DB:Stmt->List Stmt
 |.If _ b _ _=>b
 |_=>[]
def shS(i:Nat):Stmt:=(DB<|(yH<|(aZ be).getD 3 (.Pass ⟨0,0,0,0⟩)).getD 0 (.Pass ⟨0,0,0,0⟩)).getD i (.Pass ⟨0,0,0,0⟩)
abbrev ShX(P:xx)(w:qq)(K:Frag)(mg:Str->Option zt)(base:qa)(f:zo)(cdv:zt)(A:xg)(outer:List Env)(s:zi)(H:Hp)(E:XK):Cx:=(fO CX0 P w K mg base shN "shape_marks" (aj be) f cdv A outer s H E).nox
theorem pe(M:Int->Option Int)(z:zo×Nd):(ent M z).map nV=[.str z.2.nm,stV z.2.st,((M z.2.num).map V.int).getD .non]:=by
 unfold ent;cases h1:z.2.st<;>cases h2:M z.2.num<;>rfl
theorem yI{zs:ZN}(T:TW.Tree1<|nds zs)(k:Int):((bo zs k).map λz=>z.2.nm).Nodup:=by
 have h:=T.own;unfold TW.eE nds Nodup at h;unfold bo Nodup;rw[pairwise_map];rw[map_map,pairwise_map]at h;refine(Pairwise.sublist filter_sublist h).imp_of_mem ?_;intro a b c f d e;have h1:=(mem_filter.mp c).2;have h2:=(mem_filter.mp f).2;simp only[decide_eq_true_eq]at h1 h2;exact d<|Prod.ext (h1.trans h2.symm) e
theorem rU{a c d:Type}{R:c->d->Prop}{g:a->c}{g':a->d}:∀{l:List a},(∀b∈l,R (g b)<|g' b)->Paired R (l.map g) (l.map g')
 |[],_=>.nil
 |b::l,h=>.cons (h b mem_cons_self)<|rU λx e=>h x<|mem_cons_of_mem _ e
section
variable{P:xx}{w:qq}{K:Frag}{mg:Str->Option zt}{base:qa}{f:zo}{cdv:zt}{A:xg}{outer:List Env}{s:zi}{H0:Hp}{E:XK}
theorem sm0(T:Txt mg)(W:Room 2<|A.deeper (PyProof.Rows.envOfC "shape_marks" (aj be) s.heap.objs.size f cdv)):
  ∃X,PS (ShX P w K mg base f cdv A outer s H0 E) (shS 0) X/\∀(B:Ends)(H:Hp)(t m l:zo)(J N:Option V)(k:Int)(Z:Option V)(zs:ZN)(L:Int->zo)(fs:List Int)(M:Int->Option Int)(kvs:List<|Key×V),Tre H t zs->H m=some (.dK<|eJ L fs)->k∈fs->H (L k)=some (.lst<|bg (bo zs k))->H l=some (.dK kvs)->(∀n,aO kvs (Sum.inl n:Key)=(M n).map V.int) ->
   (∀a e H',Same H H'->dU H' a e->dj zs M k e->B.nx [some<|.ref t,some<|.ref m,some<|.ref l,J,N,some<|.int k,some<|.ref a] H')->X B [some<|.ref t,some<|.ref m,some<|.ref l,J,N,some<|.int k,Z] H:=by
 refine⟨_,aA (i:=6) qx.nd rfl (Or.inl rfl)<|aS dC rfl T.tuple rfl (aa (aF ig rfl T.sorted boot_sorted<|aa (vU (fs:=["marks"]) (cl:=[("marks",s.heap.objs.size+1)]) (js:=[2]) lcF (cm<|cQ (bx W) (pv 1) (pv 5) (λ_ _=>rfl))
  (λs H fp=>aR (r:=zp K) xB (eY (r:=uz K) mh (pv 0) (fz ao) ji)<|bA (aa (gK (bx W) (pv 1) (ixT K (pv 0) ao) ⟨rfl,rfl,rfl,rfl⟩) af))) af) af),?_⟩
 intro B H t m l J N k Z zs L fs M kvs I a4 a2 Q a5 b0 q;have c0:=I.len;have sub:∀d∈bo zs k,d∈zs:=λd j=>(mem_filter.mp j).1;have c1:(bo zs k).length<=zs.length:=length_filter_le _ _;refine⟨_,rfl,_,rfl,m,.ref<|L k,rfl,by have:=cM.k (k:=Sum.inl k) a4;rw[ie,if_pos a2]at this;exact this,L k,rfl,⟨_,SqL.of Q⟩,λp a6=>?_⟩;refine fJ (fr:=[some<|.ref l]) (bo zs k) (λd=>V.ref d.1) (by omega) a6 (eD (by rw[fi];exact SqL.of Q)) rfl (λd y H'=>∃a,y=.ref a/\a≠p/\H' a=some (.tup<|(ent M d).map nV)) (λd y b7 b8 ⟨a,h1,h2,h3⟩ x=>⟨a,h1,h2,x a _ h2 h3⟩) (λd H' c2 b3 s1 a9 a3=>?_) λys H1 s1 F b1=>?_
 ·obtain⟨c3,b2⟩:=a9;have j:=s1 _ _<|I.nod d (sub d b3);refine⟨_,rfl,_,rfl,d.1,_,rfl,SqT.of j,λh=>absurd (show HT.sIx 4 0 (some 2)=0 from h.1) (by decide +kernel),λz F=>?_⟩;have g:=ag (o:=.tup<|fQ (vals d.2) (some 2) none) F;have g1:upd H' z (.tup<|fQ (vals d.2) (some 2) none) z=some (.tup [.str d.2.nm,stV d.2.st]):=by rw[ac];rfl
  generalize upd H' z (.tup<|fQ (vals d.2) (some 2) none)=H2 at g g1|-;have U:=g _ _<|s1 _ _ a5;refine⟨_,rfl,l,rfl,.inl ⟨kvs,.inl U⟩,_,rfl,d.1,_,_,_,rfl,rfl,SqT.of<|g _ _ j,at0 d.2,_,cM.k (k:=Sum.inl d.2.num) U,aW (show 1<=1000 by decide),λp2 a8=>?_⟩;rw[b0];have G:=ag (o:=.tup [((M d.2.num).map V.int).getD .non]) a8;refine⟨z,p2,_,_,rfl,rfl,SqT.of<|G _ _ g1,SqT.of ac,by simp,aW (show 3<=1000 by decide),λe=>(by cases e),λ_ b5 v=>?_⟩;refine a3 _ _ ((g.trans G).trans (ag v)) ⟨b5,rfl,λe=>?_,by rw[ac,pe];rfl⟩;rw[e]at v;rw[G _ _<|g _ _ b2]at v;cases v
 ·obtain⟨bs,C,a0,R⟩:=dP (val:=λa:zo=>V.ref a) (S:=λ(d:zo×Nd) (a:zo)=>H1 a=some (.tup<|(ent M d).map nV)) b1 λd y _ ⟨a,h1,_,h3⟩=>⟨a,h1,h3⟩;have b9:bs.length=(bo zs k).length:=by rw[<-C,length_map]
  refine⟨p,bs.map λb=>(b.2,b.1.2.nm,[stV b.1.2.st,((M b.1.2.num).map V.int).getD .non]),rfl,.inl<|SqL.of (by rw[F,a0,map_map,map_map];rfl),λd j=>?_,?_,by rw[length_map];omega,λws b6 Y b4 a7=>?_⟩
  ·obtain⟨b,D,rfl⟩:=mem_map.mp j;rw[R b D,pe]
  ·rw[map_map];have:=yI I.tr k;rw[<-C,map_map]at this;exact this
  ·obtain⟨u,O,rfl⟩:=iH b6 rfl;refine⟨b4,_,rfl,.inl ⟨SqL.of ac,λc a1=>?_⟩⟩;have g:=(ag (o:=.lst<|((u.map λb=>((b.2,b.1.2.nm,[stV b.1.2.st,((M b.1.2.num).map V.int).getD .non]):qv)).map (·.1)).map V.ref) a7).trans (ag (o:=.tup<|((u.map λb=>((b.2,b.1.2.nm,[stV b.1.2.st,((M b.1.2.num).map V.int).getD .non]):qv)).map (·.1)).map V.ref) a1);refine q c (u.map λb=>ent M b.1) _ (s1.trans g) ⟨u.map (·.2),by rw[ac,map_map,map_map,map_map];rfl,?_⟩ ⟨?_,?_⟩
   ·exact rU λb D=>g _ _<|R b (O.mem_iff.mp D)
   ·rw[<-C,map_map];exact O.map _
   ·rw[pairwise_map]at Y|-;exact Y
end
theorem bQ{a H':Hp}{b:zo}{qual:Str}(h:aL a b qual)(s:Same a H'):aL H' b qual:=by
 obtain⟨ps,h1,h2,h3⟩:=h;refine⟨ps,s _ _ h1,h2,λpos d e=>?_⟩;obtain⟨c,f,g⟩:=h3 pos d e;exact⟨c,f,s _ _ g⟩
def wq(H H':Hp):Prop:=∀b xs,H b=some (.tup xs)->H' b=some (.tup xs)
theorem wt{H H':Hp}{a:zo}{k:bf}(h:dU H a k)(s:wq H H'):dU H' a k:=by
 obtain⟨bs,h1,h2⟩:=h;exact⟨bs,s _ _ h1,Paired.imp' (λks b e=>s _ _ e) h2⟩
structure ShI(P:xx)(w:qq)(H:Hp)(zs:ZN)(md kn:zo)(dn:List Int)(M:Int->Option Int)(kvs:List<|Key×V)(kd:List<|bf×zo×Int)(i:Nat):Prop where
 md':H md=some (.dK kvs)
 val:∀n,aO kvs (Sum.inl n:Key)=(M n).map V.int
 kl:kvs.length<=i
 kn':H kn=some (.ext<|D2 P w kn kd)
 keys:∀p∈kd,dU H p.2.1 p.1
 dl:kd.length<=i
 ne:md≠kn
 sh:ShM zs dn M kd
theorem ShI.same{P:xx}{w:qq}{b H':Hp}{zs:ZN}{g f:zo}{c:List Int}{M:Int->Option Int}{kvs:List (Key×V)}{e:List (bf×zo×Int)}{i j:Nat}(a:ShI P w b zs g f c M kvs e i)(s:Same b H')(d:i<=j):ShI P w H' zs g f c M kvs e j :=
 ⟨s _ _ a.md',a.val,le_trans a.kl d,s _ _ a.kn',λp h=>(a.keys p h).same s,le_trans a.dl d,a.ne,a.sh⟩
section
variable{P:xx}{w:qq}{K:Frag}{mg:Str->Option zt}{base:qa}{f:zo}{cdv:zt}{A:xg}{outer:List Env}{s:zi}{H0:Hp}{E:XK}
theorem sm1(T:Txt mg)(F:Room 2<|A.deeper (PyProof.Rows.envOfC "shape_marks" (aj be) s.heap.objs.size f cdv)):
  ∃J,PS (ShX P w K mg base f cdv A outer s H0 E) (shS 1) J/\∀(l:Ends)(H:Hp)(t u md c a:zo)(x:Option V)(k:Int)(zs:ZN)(dn:List Int)(M:Int->Option Int)(kvs:List<|Key×V)(kd:List<|bf×zo×Int)(e:bf)(i:Nat),ShI P w H zs md c dn M kvs kd i->i<=100->dU H a e->dj zs M k e->k∉dn->(∀j∈dn++[k],∀z∈bo zs j,z.2.num≠k) ->
   (∀N Q O H',(∀b o,b≠md->b≠c->H b=some o->H' b=some o)->ShI P w H' zs md c (dn++[k]) N Q O (i+1)->l.nx [some<|.ref t,some<|.ref u,some<|.ref md,some<|.ref c,x,some<|.int k,some<|.ref a] H')->J l [some<|.ref t,some<|.ref u,some<|.ref md,some<|.ref c,x,some<|.int k,some<|.ref a] H:=by
 refine⟨_,mr (bx F) (pv 2) (pv 5) (yD (qu F) (pv 3) (pv 6) (aF tP rfl T.len boot_len<|aa (pv 3) af) ⟨rfl,rfl,rfl,rfl⟩) rfl,?_⟩;intro l H t u md c a x k zs dn M kvs kd e i I hi B C D cl q;have R:=I.kl;have dl:=I.dl;have y:∀{H1:Hp}{m:Int},H1 md=some (.dK kvs)->pS H1 md (.int k) (.int m) (upd H1 md<|.dK (cf kvs (Sum.inl k:Key)<|.int m)):=λ{H1 m} h1=>pS.k (k:=Sum.inl k) h1 (by rw[PySem.sizeLine_eq];omega);have L:∀(m:Int)(n:Int),aO (cf kvs (Sum.inl k:Key)<|.int m) (Sum.inl n:Key)=(iG M k m n).map V.int:=λm n=>by
  rw[nQ];unfold iG
  by_cases h:n=k
  ·rw[if_pos (by rw[h]),if_pos h];rfl
  ·rw[if_neg (by simpa using h),if_neg h];exact I.val n
 have G:∀m:Int,(cf kvs (Sum.inl k:Key)<|.int m).length<=i+1:=λm=>by have:=cF kvs (Sum.inl k:Key)<|.int m;omega
 refine⟨_,rfl,c,kd,rfl,I.kn',_,rfl,_,rfl,c,kd,rfl,I.kn',by omega,c,a,_,e,kd,rfl,rfl,I.kn',I.keys,B,by omega,λm r=>?_,λr=>?_⟩
 ·refine⟨_,rfl,_,rfl,md,_,rfl,y I.md',?_⟩;have v:c≠md:=Ne.symm I.ne;have tk:wq H (upd H md<|.dK (cf kvs (Sum.inl k:Key)<|.int m)):=λb xs d=>by rw[ae (λz=>by rw[z,I.md']at d;cases d)];exact d
  exact q (iG M k m) _ kd _ (λb o h1 _ d=>by rw[ae h1];exact d) ⟨ac,L m,G m,by rw[ae v];exact I.kn',λp g=>wt (I.keys p g) tk,by omega,I.ne,I.sh.hit cl C D r⟩
 ·have v:c≠md:=Ne.symm I.ne;have h1:upd H c (.ext<|D2 P w c (kd++[(e,a,(kd.length:Int))])) md=some (.dK kvs):=by rw[ae I.ne];exact I.md'
  refine⟨_,rfl,_,rfl,md,_,rfl,y h1,?_⟩;have tk:wq H (upd (upd H c<|.ext (D2 P w c<|kd++[(e,a,(kd.length:Int))])) md<|.dK (cf kvs (Sum.inl k:Key)<|.int kd.length)):=λb xs d=>by
   rw[ae (λz=>by rw[z,I.md']at d;cases d),ae (λz=>by rw[z,I.kn']at d;cases d)];exact d
  refine q (iG M k kd.length) _ (kd++[(e,a,(kd.length:Int))]) _ (λb o h1 h2 d=>by rw[ae h1,ae h2];exact d) ⟨ac,L _,G _,by rw[ae v,ac];rfl,λp g=>?_,by rw[length_append];exact Nat.add_le_add_right dl 1,I.ne,I.sh.new cl C D r⟩;rcases mem_append.mp g with g|g
  ·exact wt (I.keys p g) tk
  ·rw[mem_singleton.mp g];exact wt B tk
end
def dm:Str:=("shape_marks"++".<locals>.")++"<lambda>"
def AN(c:zo):Sp:=λvs H Q _=>∃z:Cp,vs=[.ref z.a]/\ou H z/\H c=some (.ext<|cdφ c dm)/\Q (.int (z.p.length:Int)) H
def Co(H:Hp)(v:V):Int:=match v with
 |.ref a=>match H a with
  |some (.tup [.ref t,_])=>match H t with
   |some (.tup xs)=>(xs.length:Int)
   |_=>0
  |_=>0
 |_=>0
theorem mZ{H:Hp}{z:Cp}(h:ou H z):Co H (.ref z.a)=(z.p.length:Int):=by
 show(match H z.a with
  |some (.tup [.ref t,_])=>match H t with
   |some (.tup xs)=>(xs.length:Int)
   |_=>0
  | _=>0)=_
 rw[h.1];show(match H z.t with
   |some (.tup xs)=>(xs.length:Int)
   | _=>0)=_
 rw[h.2];show((z.p.map V.str).length:Int)=_;rw[length_map]
theorem Cq{P:xx}{w:qq}{d:zo}{kvs:List (bf×zo×Int)}{q:Str}(e:D2 P w d kvs=cdφ d q):False:=by
 obtain⟨o,a⟩:∃o:Obj,o=⟨.none,none,.fields #[.none,.str q 0],#[]⟩:=⟨_,rfl⟩;obtain⟨h,b⟩:∃h:qa,h=⟨Array.replicate (d+1) o,{}⟩:=⟨_,rfl⟩;have g:h.get? d=some o:=by
  rw[b];unfold Heap.get?;have:(Array.replicate (d+1) o)[d]?=some o:=by rw[Array.getElem?_replicate];exact if_pos<|Nat.lt_succ_self d
  dsimp only;rw[this,a]
 have c:cdφ d q h:=⟨d,o,#[.none,.str q 0],0,rfl,g,by rw[a],rfl⟩;rw[<-e]at c;obtain⟨_,xs,_,o',es,f,h1,_,h2,_⟩:=c;rw[g]at h1;cases h1;rw[a]at h2;cases h2
theorem rV{zs:ZN}(T:TW.Tree1<|nds zs){j k:Int}{p q:List Str}(c:TW.PathTo (nds zs) j p)(d:TW.PathTo (nds zs) k q){z:zo×Nd}(hz:z∈bo zs j)(e:z.2.num=k):q.length=p.length+1:=by
 obtain⟨h1,h2⟩:=mem_filter.mp hz;simp only[decide_eq_true_eq]at h2;obtain⟨r,b,a⟩:=d.inv T (bc h1) e.symm;rw[h2]at a;rw[b,TW.PathTo.uniq T a c,length_append];rfl
section
variable{P:xx}{w:qq}{K:Frag}{mg:Str->Option zt}{base:qa}{f c0 Pt:zo}
def wu(a:zo):Sp:=λvs H Q _=>∃t zs,vs=[.ref t]/\Tre H t zs/\aL H a dm/\∀d M kvs H',bO a H H'->aL H' a dm->H' d=some (.dK kvs)->H d=none->(∀n,aO kvs (Sum.inl n:Key)=(M n).map V.int)->Marks zs M->Q (.ref d) H'
theorem AO{c6:xl}(F:Fun K "shape_marks" "shape_marks" be f c6)(g:c6.code=.ref c0)(T:Txt mg)(e9:CodeHd base c0 Pt)(e8:BmB base mg)(f0:Has P w K mg base 1 "members_by_folder" ["tree"] oZ)(f1:Has P w K mg base 2 "walked" ["tree"] wd):FnOk P w K mg base CX0 4 f c6 ["tree"] (wu Pt):=by
 refine F.okT g qx (λvs H Q E h=>?_) λA outer s H vs Q E b1 h=>?_
 ·obtain⟨t,zs,rfl,_⟩:=h;rfl
 obtain⟨t,zs,rfl,D,c5,q⟩:=h;have i8:Room 1 _:=b1.mono (by decide);have d0:Room 2 _:=b1.mono (by decide);obtain⟨l0,j9,h6⟩:=sm0 (P:=P) (w:=w) (K:=K) (mg:=mg) (base:=base) (f:=f) (cdv:=.ref c0) (A:=A) (outer:=outer) (s:=s) (H0:=H) (E:=E) T d0;obtain⟨l1,k0,h1⟩:=sm1 (P:=P) (w:=w) (K:=K) (mg:=mg) (base:=base) (f:=f) (cdv:=.ref c0) (A:=A) (outer:=outer) (s:=s) (H0:=H) (E:=E) T d0;refine⟨_,ai (aA (i:=1) qx.nd rfl (Or.inl rfl)<|yB f0 i8 (aa (pv 0) af))
  (ai (aA (i:=2) qx.nd rfl (Or.inr rfl) dL)
  (ai (aA (i:=3) qx.nd rfl (Or.inl rfl) dL)
  (ai (AD (dY PassesOwn.never rfl (cm<|wg (k:=1) (y:="place") (qual:=dm) (spK:=λf c=>AN c) (key:=Co) e9 rfl e8 rfl rfl rfl ?hK ?hbn b1 rfl T.sorted (yB f1 d0<|aa (pv 0) af))
   (lW (n:=2) rfl<|cD (aB (i:=4) qx.nd rfl<|Or.inl rfl) (cD (aB (i:=5) qx.nd rfl<|Or.inl rfl) jf))
   (am<|cZ (pE<|pT (bx b1) (pv 5) (pv 1)) (ai j9<|am k0) bj)))
  (am<|aH (pv 2))))),?_⟩
 case hK =>
  intro k7 h3 c pm ctv sub i7;refine rM (k:=0) (fs:=[]) (fv:=[]) i7 (λvs H Q E h=>?_) ⟨rfl,rfl,rfl,by decide +kernel,λx G=>?_,by decide +kernel,λx h=>?_,λx y c h=>by simp at h⟩ ⟨λx c h=>by simp at h,rfl,λi x v h=>by simp at h⟩ (λvs H Q E h=>?_) λA outer s H vs Q E b1 h=>?_
  ·obtain⟨d,_,_,h,_⟩:=h;exact h
  ·have:x="place":=by simpa using G
   subst this;rfl
  ·exact absurd rfl<|(by decide +kernel:∀y∈_,y.2≠NameKind.free) _ (PySem.mem_of_lookup h)
  ·obtain⟨d,rfl,_⟩:=h;rfl
  ·obtain⟨d,rfl,B,g,q⟩:=h;refine⟨_,aF aY rfl T.len boot_len<|aa (bD (r:=iY K) bv (pv 0) ao λ_ _=>rfl) af,?_⟩;refine⟨_,rfl,d.a,_,_,_,rfl,rfl,SqT.of B.1,ml (j:=0) rfl,d.t,_,rfl,.inr<|SqT.of B.2,?_⟩;rw[length_map];exact q
 case hbn=>exact λpm ctv c=>.all λus d8=>match us,d8 with | [_],_=>rfl
 have d8:=D.len;refine⟨_,rfl,t,zs,rfl,D,λa1 L H1 a0=>λmd c7=>λkn a6=>⟨kn,ac,?_⟩⟩;have b7:H1 kn=none:=by
  by_cases d:kn=md
  ·rw[d,ac]at a6;cases a6
  ·rw[ae d]at a6;exact a6
 have d2:md≠kn:=λd=>by rw[<-d,ac]at a6;cases a6
 have b4:Same H1 (upd (upd (upd H1 md<|.dK []) kn<|.dK []) kn<|.ext (D2 P w kn [])):=λb o e=>by
  rw[ae<|ak e b7,ae<|ak e b7,ae<|ak e c7];exact e
 have g1:upd (upd (upd H1 md<|.dK []) kn<|.dK []) kn (.ext<|D2 P w kn []) md=some (.dK []):=by rw[ae d2,ae d2,ac]
 have g2:upd (upd (upd H1 md<|.dK []) kn<|.dK []) kn (.ext<|D2 P w kn []) kn=some (.ext<|D2 P w kn []):=ac;refine(λkey:∀a2,Same H1 a2->a2 md=some (.dK [])->a2 kn=some (.ext<|D2 P w kn [])->BL _ _ _ _ _ a2=>key _ b4 g1 g2) λa2 b4 g1 g2=>?_;have b3:=a0.same.trans b4;refine⟨_,rfl,t,zs,rfl,D.same b3,λcs l f2 b9 b5 i1 i4=>⟨l,_,rfl,i4,by rw[length_map];omega,bQ c5<|b3.trans b9,λh3 c S e2 k2 i0=>?_⟩⟩;have f6:=bQ c5<|b3.trans b9;have c8:∀b u,f2 b=some u->(∀ps,u≠.tbl ps)->S b=some u:=λb u e n=>e2 b u (λd=>by
  obtain⟨ps,h1,_⟩:=f6;rw[d,h1]at e;exact n ps (Option.some.inj e).symm) e
 have a5:∀c∈cs,ou S c:=λc g=>⟨c8 _ _ (b5.at' c g).1 (λps e=>by cases e),c8 _ _ (b5.at' c g).2 (λps e=>by cases e)⟩;refine⟨λx G=>?_,λR ys k5 e7 h7=>?_⟩
 ·obtain⟨z,J,rfl⟩:=mem_map.mp G;exact⟨z,rfl,a5 z J,i0,⟨by rw[mZ<|a5 z J],rfl⟩⟩
 obtain⟨ws,c1,rfl⟩:=iH k5 rfl;have b6:∀c∈ws,c∈cs:=λc g=>c1.mem_iff.mp g;have k4:ws.Pairwise λa b=>b.p.length<=a.p.length:=by
  rw[pairwise_map]at e7;refine Pairwise.imp_of_mem ?_ e7;intro a b h8 h9 h;rw[mZ<|a5 a (b6 a h8),mZ<|a5 b (b6 b h9)]at h;omega
 have k3:(ws.map (·.p)).Nodup:=by
  refine(c1.map _).nodup_iff.mpr ?_;unfold Nodup;rw[pairwise_map];exact b5.up.imp λh e=>by rw[e,HT.cH]at h;cases h
 have path:∀c∈ws,TW.PathTo (nds zs) c.n c.p:=λc g=>by
  obtain⟨d,_,e,h⟩:=(b5.mem c.p c.n).mp ⟨c,b6 c g,rfl,rfl⟩;exact h
 have a9:=ag (o:=.lst<|ws.map λc=>V.ref c.a) h7;have X:upd S R (.lst<|ws.map λc=>V.ref c.a) R=some (.lst<|ws.map λc=>V.ref c.a):=ac;have Z:∀b u,a2 b=some u->(∀ps,u≠.tbl ps)->upd S R (.lst<|ws.map λc=>V.ref c.a) b=some u:=λb u e n=>a9 _ _<|c8 _ _ (b9 _ _ e) n;have d7:∀c∈ws,ou (upd S R<|.lst (ws.map λc=>V.ref c.a)) c:=λc g=>⟨a9 _ _ (a5 c<|b6 c g).1,a9 _ _ (a5 c<|b6 c g).2⟩;have e3:bO Pt H (upd S R<|.lst (ws.map λc=>V.ref c.a)):=λb u n e=>a9 _ _<|e2 b u n (b9 _ _<|b3 _ _ e);have e5:=bQ k2 a9;generalize upd S R (.lst<|ws.map λc=>V.ref c.a)=a3 at a9 X Z d7 e3 e5|-;have e6:=D.same b3;have j4:=Z a1 _ (b4 _ _ a0.dict) (λps e=>by cases e);have f4:∀k∈ar zs,a3 (L k)=some (.lst<|bg (bo zs k)):=λk O=>Z _ _ (b4 _ _ (a0.at' k O).1) (λps e=>by cases e);have a8:=Z md _ g1 (λps e=>by cases e);have a7:=Z kn _ g2 (λps e=>by cases e);have k1:a3 t=some (.tup<|bg zs):=Z _ _ e6.tup (λps e=>by cases e);have j5:∀d∈zs,a3 d.1=some (.tup<|vals d.2):=λd B=>Z _ _ (e6.nod d B) (λps e=>by cases e);have j7:a1≠md:=λe=>by have:=a0.dict;rw[e,c7]at this;cases this
 have j8:a1≠kn:=λe=>by have:=a0.dict;rw[e,b7]at this;cases this
 have d6:H md=none:=a0.same.free c7;have l2:ws.length=zs.length:=c1.length_eq.trans i1;refine⟨R,rfl,⟨_,SqL.of X⟩,jn (xs:=ws.map λc=>V.ref c.a) (λi σ H'=>∃c2 c3 c4 M kvs kd dn,σ=[some<|.ref t,some<|.ref a1,some<|.ref md,some<|.ref kn,c2,c3,c4]/\(∀b o,b≠md->b≠kn->a3 b=some o->H' b=some o)/\ShI P w H' zs md kn dn M kvs kd i/\∀n,n∈dn↔n∈ar zs/\n∈(ws.take i).map (·.n))
  ⟨_,_,_,λ_=>none,[],[],[],rfl,λb o _ _ e=>e,⟨a8,λn=>rfl,le_refl _,a7,λp c9=>(by cases c9),le_refl _,d2,ShM.start zs⟩,λn=>by simp⟩ (λi σ H' _ h=>?_) (λi x σ H' G h=>?_) (λσ H' h=>?_)⟩
 ·obtain⟨c2,c3,c4,M,kvs,kd,dn,rfl,C,I,N⟩:=h;exact SqL.of<|C _ _ (λe=>by rw[e,a8]at X;cases X) (λe=>by rw[e,a7]at X;cases X) X
 ·obtain⟨c2,c3,c4,M,kvs,kd,dn,rfl,C,I,N⟩:=h;have d1:∀b xs,a3 b=some (.tup xs)->H' b=some (.tup xs):=λb xs e=>C _ _ (λd=>by rw[d,a8]at e;cases e) (λd=>by rw[d,a7]at e;cases e) e;have i9:∀b xs,a3 b=some (.lst xs)->H' b=some (.lst xs):=λb xs e=>C _ _ (λd=>by rw[d,a8]at e;cases e) (λd=>by rw[d,a7]at e;cases e) e;rw[getElem?_map]at G;cases a4:ws[i]? with
  |none=>rw[a4]at G;cases G
  |some c =>
   rw[a4]at G;cases G;have b2:=mem_of_getElem? a4;have e0:i<ws.length:=(List.getElem?_eq_some_iff.mp a4).1;have e1:=C _ _ j7 j8 j4;have d5:(ws.take<|i+1).map (·.n)=(ws.take i).map (·.n)++[c.n]:=by rw[bH a4,map_append];rfl
   refine⟨c.a,_,rfl,SqT.of<|d1 _ _ (d7 c b2).1,rfl,_,_,rfl,_,_,rfl,rfl,?_⟩;refine⟨_,rfl,_,rfl,a1,_,rfl,cM.k (k:=Sum.inl c.n) e1,_,rfl,?_⟩;rw[ie]
   by_cases O:c.n∈ar zs
   ·rw[if_pos O];have d3:∀j∈(ws.take i).map (·.n),∃z∈ws,z.n=j/\c.p.length<=z.p.length/\z.p≠c.p:=λj Y=>by
     obtain⟨z,J,e⟩:=mem_map.mp Y;obtain⟨m,i6,b8⟩:=List.getElem_of_mem J;rw[length_take]at i6;rw[getElem_take]at b8;have d4:ws[i]=c:=Option.some.inj<|(getElem?_eq_getElem e0).symm.trans a4;have h1:=pairwise_iff_getElem.mp k4 m i (by omega) e0 (by omega);have h2:=pairwise_iff_getElem.mp k3 m i (by rw[length_map];omega) (by rw[length_map];omega) (by omega);rw[b8,d4]at h1;rw[getElem_map,getElem_map,b8,d4]at h2;exact⟨z,by rw[<-b8];exact getElem_mem _,e,h1,h2⟩
    have i3:c.n∉dn:=λi5=>by
     obtain⟨z,J,e,_,j6⟩:=d3 _ ((N _).mp i5).2;have:=path z J;rw[e]at this;exact j6<|TW.PathTo.uniq D.tr this (path c b2)
    have cl:∀j∈dn++[c.n],∀d∈bo zs j,d.2.num≠c.n:=λj Y d B e=>by
     rcases mem_append.mp Y with Y | Y
     ·obtain⟨z,J,f8,k9,_⟩:=d3 _ ((N _).mp Y).2;have:=path z J;rw[f8]at this;have:=rV D.tr this (path c b2) B e;omega
     ·rw[mem_singleton.mp Y]at B;have:=rV D.tr (path c b2) (path c b2) B e;omega
    refine eU ?_;refine h6 _ H' t a1 md _ _ c.n _ zs L (ar zs) M kvs ⟨d1 _ _ k1,λd B=>d1 _ _<|j5 d B,D.tr,D.len⟩ e1 O (i9 _ _<|f4 _ O) I.md' I.val λa e H2 e4 j0 i2=>?_;refine h1 _ H2 t a1 md kn a _ c.n zs dn M kvs kd e i (I.same e4<|le_refl _) (by omega) j0 i2 i3 cl λf5 j3 j1 k6 j2 f3=>?_;refine⟨_,_,_,f5,j3,j1,dn++[c.n],rfl,λb o h1 h2 e=>j2 _ _ h1 h2<|e4 _ _ (C _ _ h1 h2 e),f3,λn=>?_⟩;rw[d5,mem_append,mem_append,N n,mem_singleton];constructor
    ·rintro(⟨h1,h2⟩|rfl)
     ·exact⟨h1,.inl h2⟩
     ·exact⟨O,.inr rfl⟩
    ·rintro⟨h1,h2|h2⟩
     ·exact .inl ⟨h1,h2⟩
     ·exact .inr h2
   ·rw[if_neg O];refine dM ⟨_,_,_,M,kvs,kd,dn,rfl,C,I.same (Same.refl _)<|le_succ _,λn=>?_⟩;rw[d5,mem_append,N n,mem_singleton];constructor
    ·rintro⟨h1,h2⟩;exact⟨h1,.inl h2⟩
    ·rintro⟨h1,h2|h2⟩
     ·exact⟨h1,h2⟩
     ·exact absurd (by rw[<-h2];exact h1) O
 ·obtain⟨c2,c3,c4,M,kvs,kd,dn,rfl,C,I,N⟩:=h;rw[length_map,take_length]at N;have all:∀n,n∈dn↔n∈ar zs:=λn=>by
   rw[N n];refine⟨λh=>h.1,λh=>⟨h,?_⟩⟩;unfold ar at h;obtain⟨d,B,e⟩:=mem_map.mp h;have d9:=(mem_filter.mp B).1;obtain⟨p,c9⟩:=TW.PathTo.ex D.tr<|bc d9;obtain⟨c,g,_,U⟩:=(b5.mem p d.2.num).mpr ⟨d,d9,rfl,c9⟩;exact mem_map.mpr ⟨c,c1.mem_iff.mpr g,U.trans e⟩
  have k8:H Pt≠none:=by obtain⟨ps,h1,_⟩:=c5;rw[h1];simp
  refine⟨_,rfl,q md M kvs H' (λb o n e=>?_) ?_ I.md' d6 I.val<|I.sh.marks all⟩
  ·exact C _ _ (ak e d6) (ak e<|a0.same.free b7)<|e3 b o n e
  ·obtain⟨ps,b0,h4,h5⟩:=e5;refine⟨ps,C _ _ (λd=>by rw[d,a8]at b0;cases b0) (λd=>by rw[d,a7]at b0;cases b0) b0,h4,λpos f7 e=>?_⟩;obtain⟨c,f9,U⟩:=h5 pos f7 e;refine⟨c,f9,C _ _ (λd=>by rw[d,a8]at U;cases U) (λd=>?_) U⟩;rw[d,a7]at U;have h0:D2 P w kn []=cdφ kn dm:=by injection (Option.some.inj U)
   exact Cq h0
end
end TK
namespace L2
open PySem PySem.Spec PyProof.Rows
section
variable{X:Cx}
structure Cv where
 a:zo
 t:zo
 p:List Str
 v:V
def yJ(H:Hp)(z:Cv):Prop:=H z.a=some (.tup [.ref z.t,z.v])/\H z.t=some (.tup<|z.p.map V.str)
theorem jb(e4:X.A.units+8<cLine):bu X (.builtin "sorted") (λxs H Q=>∃l,∃zs:List Cv,xs=[.ref l]/\H l=some (.lst<|zs.map λz=>V.ref z.a)/\(∀z∈zs,yJ H z)/\(∀z∈zs,dJ z.v=true/\eqV z.v z.v=true)/\(zs.map (·.p)).Nodup/\zs.length<64 /\
  ∀a5:List Cv,a5.Perm zs->a5.Pairwise (λa b=>HT.cG a.p b.p=true)->∀p,H p=none->Q (.ref p) (upd H p<|.lst (a5.map λz=>V.ref z.a))):=by
 intro pins s σ H xs us Q I r h;obtain⟨l,zs,rfl,c6,J,R,b0,c2,q⟩:=h;obtain⟨u,rfl,d6⟩:=bY r;cases d6;obtain⟨_,K,n,M,c8⟩:=I.hok l _ c6
 let d:Cv:=⟨0,0,[],.non⟩
 have e3:K.length=zs.length:=by rw[<-M.length,length_map]
 have a8:∀i,i<zs.length->K.getD i Value.none=.ref (zs.getD i d).a:=λi hi=>by
  obtain⟨v,a0,r⟩:=M.get (i:=i) (x:=.ref (zs.getD i d).a) (by rw[getElem?_map,(aN (d:=d) hi).2];rfl);cases r;rw[getD_eq_getElem?_getD,a0];rfl
 have c0:K=zs.map λz=>Value.ref z.a:=by
  have key:∀(l:List Cv)(us:List zt),aq (l.map λz=>V.ref z.a) us->us=l.map λz=>Value.ref z.a:=by
   intro l
   induction l with
   |nil=>intro us r;cases r;rfl
   |cons z l a2 =>
    intro us r;cases r with
    |cons G a4 =>
     rw[a2 _ a4];cases G;rfl
  exact key zs K M
 have U:∀z∈zs,∃b3,aw z.v b3/\IsTup s.heap z.a #[.ref z.t,b3]:=λz m=>by
  obtain⟨u,v,G,a4,Y⟩:=qe I (J z m).1;cases G;exact⟨v,a4,Y⟩
 have Z:∀z∈zs,∃ws:List zt,StrsAre ws z.p/\IsTup s.heap z.t ws.toArray:=λz m=>by
  obtain⟨_,ws,G,Y⟩:=I.hok z.t _ (J z m).2;exact⟨ws,mH G,Y⟩
 have b2:∀{s':zi}{a:zo}{xs:Array zt},(∀b o,s.heap.get? b=some o->s'.heap.get? b=some o)->IsTup s.heap a xs->IsTup s'.heap a xs:=λk ⟨o,e,r⟩=>⟨o,k _ o e,r⟩;refine fe (val:=λz:Cv=>V.ref z.a) (d:=d) (f:=λa b=>HT.cG a.p b.p) (κ:=tuples' false) I M ⟨λi _=>HT.cH _,λi E k _ _ _ h1 h2=>HT.jk h1 h2,λi E hi D c5=>HT.jI ?_⟩ ⟨_,c8,rfl,n,rfl⟩ c2 (λa6 s' _ g d9 h2 c4=>?_) (λa6 s' e2 g i E C hi D B=>?_) q
 ·intro e;have N:(zs.map (·.p))[i]'(by simpa using hi)=(zs.map (·.p))[E]'(by simpa using D):=by
   have h1:=(aN (d:=d) hi).2;have h2:=(aN (d:=d) D).2;rw[getElem_map,getElem_map,(List.getElem?_eq_some_iff.mp h1).2,(List.getElem?_eq_some_iff.mp h2).2];exact e
  exact c5<|(getElem_inj b0).mp N
 ·have key:∀ys:List Cv,(∀z∈ys,z∈zs)->KatTups s'.heap (ys.map λz=>Value.ref z.a) (ys.map λz=>Value.ref z.t):=by
   intro ys
   induction ys with
   |nil=>intro _;exact KatTups.nil
   |cons z ys a2 =>
    intro a9;obtain⟨e9,_,o,O,P,L,b8⟩:=U z<|a9 z (by simp);exact KatTups.cons (g _ _ O) P b8 rfl<|a2 λy a1=>a9 y (by simp[a1])
  rw[c0];refine kat_kind (T:=.type "tuple") (key zs λz m=>m) (by rw[length_map];omega) (λv a0=>?_) (by rfl) c4;obtain⟨z,m,rfl⟩:=mem_map.mp a0;obtain⟨ws,_,o,O,P,_⟩:=Z z m;exact P ▸ (Looks.ld<|g _ _ O).andThen .now
 ·rw[a8 i hi,a8 E D];have j:=(aN (d:=d) hi).1;have F:=(aN (d:=d) D).1;generalize zs.getD i d=c at j B|-;generalize zs.getD E d=zj at F B|-;obtain⟨f0,d4,e7,b4,e0,e5,b5⟩:=U c j;obtain⟨f1,d5,e8,b6,e1,e6,b7⟩:=U zj F;refine kat_lt (g _ _ b4) b5 (g _ _ b6) b7 ?_;obtain⟨wi,d7,d2⟩:=Z c j;obtain⟨f2,d8,d3⟩:=Z zj F;have b1:a6.units<cLine:=by omega
  have d0:IsTupleKey (ap X.prog X.w) s'.heap (c.p.map Sum.inr) c.t:=by
   obtain⟨o,a3,L,S,r⟩:=sS (ks:=c.p.map Sum.inr) I (by rw[map_map];exact(J c j).2) X.prog X.w;exact⟨o,a3,L,g _ _ S,r⟩
  have d1:IsTupleKey (ap X.prog X.w) s'.heap (zj.p.map Sum.inr) zj.t:=by
   obtain⟨o,a3,L,S,r⟩:=sS (ks:=zj.p.map Sum.inr) I (by rw[map_map];exact(J zj F).2) X.prog X.w;exact⟨o,a3,L,g _ _ S,r⟩
  refine kat_cons<|wpAny_eqBool_tuple (knd:=ap X.prog X.w) b1 d0 d1 ?_
  by_cases e:c.p=zj.p
  ·rw[e,decide_eq_true rfl];have c3:C false s':=by rw[e,HT.cH]at B;exact B
   have c1:c=zj:=by
    obtain⟨x,c9,ex⟩:=mem_iff_getElem.mp j;obtain⟨y,a1,a7⟩:=mem_iff_getElem.mp F;have N:(zs.map (·.p))[x]'(by simpa using c9)=(zs.map (·.p))[y]'(by simpa using a1):=by rw[getElem_map,getElem_map,ex,a7];exact e
    have:=(getElem_inj b0).mp N;subst this;rw[<-ex,<-a7]
   subst c1;have b9:=(R c j).2;refine kat_yes<|kat_cons (gk d4 d5 (R c j).1 (R c j).1 X.prog X.w _ _ ?_);rw[b9];exact kat_yes<|kat_nil (by simpa using c3)
  ·have c7:¬(c.p.map Sum.inr:List Key)=zj.p.map Sum.inr:=λz=>e (by
    have:=congrArg (List.map λk:Key=>match k with | .inr x=>x | .inl _=>empty) z;simpa [map_map,Function.comp_def]using this)
   rw[decide_eq_false c7];refine kat_no<|kat_one _ _ ?_;exact HT.jJ (b2 g d2) (b2 g d3) (by simpa using d7) (by simpa using d8) b1 B
abbrev jc:=zo×Int×Int
def cP(a b:Int×Int):Bool:=if a.1=b.1 then decide (a.2<b.2)else decide (a.1<b.1)
theorem cY{a b:Int×Int}:cP a b=true↔a.1<b.1\/(a.1=b.1/\a.2<b.2):=by
 unfold cP
 by_cases h:a.1=b.1
 ·rw[if_pos h,decide_eq_true_eq];omega
 ·rw[if_neg h,decide_eq_true_eq];omega
theorem iI(a:Int×Int):cP a a=false:=by unfold cP;simp
def dB(zs:List jc)(i:Nat):Int×Int:=(zs.getD i (0,0,0)).2
theorem Cr{zs:List jc}(a:(zs.map (·.2)).Nodup):SRT.Ord (λi j=>cP (dB zs i)<|dB zs j) zs.length:=by
 refine⟨λi _=>iI _,λi j k _ _ _ h1 h2=>?_,λi j hi b d=>?_⟩
 ·rw[cY]at *;omega
 ·have f:dB zs i≠dB zs j:=by
   unfold dB;rw[getD_eq_getElem?_getD,getD_eq_getElem?_getD,getElem?_eq_getElem hi,getElem?_eq_getElem b];intro e;have c:(zs.map (·.2))[i]'(by simpa using hi)=(zs.map (·.2))[j]'(by simpa using b):=by simpa using e
   exact d<|(getElem_inj a).mp c
  rw[cY,cY];have:¬((dB zs i).1=(dB zs j).1/\(dB zs i).2=(dB zs j).2):=λa=>f<|Prod.ext a.1 a.2;omega
theorem jd:bu X (.builtin "sorted") (λxs H Q=>∃l,∃zs:List jc,xs=[.ref l]/\(SqL X.K H l ((zs.map (·.1)).map V.ref)\/SqT X.K H l ((zs.map (·.1)).map V.ref))/\(∀z∈zs,H z.1=some (.tup<|[.int z.2.1,.int z.2.2]))/\(zs.map (·.2)).Nodup/\zs.length<64 /\
  ∀d:List jc,d.Perm zs->d.Pairwise (λa b=>cP a.2 b.2=true)->∀p,H p=none->Q (.ref p) (upd H p<|.lst ((d.map (·.1)).map V.ref))):=by
 intro pins s σ H xs us Q I r h;obtain⟨l,zs,rfl,D,c0,a7,b7,q⟩:=h;obtain⟨u,rfl,d1⟩:=bY r;cases d1;obtain⟨g,F,pl⟩:∃g,aq ((zs.map (·.1)).map V.ref) g/\(s.heap.IsList l g.toArray\/IsTup s.heap l g.toArray):=by
  rcases D with D | D
  ·obtain⟨g,F,pl,c5⟩:=I.list D;exact⟨g,F,.inl pl.isList⟩
  ·obtain⟨g,F,pl,c5⟩:=I.tuple D;exact⟨g,F,.inr pl⟩
 have e:=cV F;subst e;have B:((zs.map (·.1)).map Value.ref).length=zs.length:=by simp
 have Z:∀z∈zs,∃o g n t t',s.heap.get? z.1=some o/\o.cls=.type "tuple"/\o.data=.seq g n/\g.toList=[.int z.2.1 t,.int z.2.2 t']:=λz a0=>by
  obtain⟨_,g,d0,o,O,A,n,P⟩:=I.hok z.1 _<|c0 z a0;cases d0 with
  |cons c8 a2=>cases a2 with
   |cons a2 c9 =>
    cases c9;obtain⟨t,rfl⟩:=c8;obtain⟨t',rfl⟩:=a2;exact⟨o,_,n,t,t',O,A,P,rfl⟩
 have U:∀i,i<zs.length->((zs.map (·.1)).map Value.ref).getD i Value.none=.ref (zs.getD i (0,0,0)).1/\zs.getD i (0,0,0)∈zs:=λi hi=>by
  rw[getD_eq_getElem?_getD,getD_eq_getElem?_getD,getElem?_map,getElem?_map,getElem?_eq_getElem hi];exact⟨rfl,getElem_mem hi⟩
 refine SRT.eA (κ:=tuples' true) (f:=λi j=>cP (dB zs i)<|dB zs j) (by rw[B];exact Cr a7) pl (by rw[B];exact b7) ?kind ?less ?fin
 case kind =>
  intro b1 s' _ x d2 h2 b8;have key:∀ys:List jc,(∀z∈ys,z∈zs)->∃fs:List zt,KatTups s'.heap ((ys.map (·.1)).map Value.ref) fs/\fs.length=ys.length/\∀v∈fs,∃i t,v=Value.int i t:=by
   intro ys
   induction ys with
   |nil=>intro _;exact⟨[],KatTups.nil,rfl,λv k=>by simp at k⟩
   |cons z ys a1 =>
    intro a6;obtain⟨fs,h1,R,h3⟩:=a1 λy c4=>a6 y (by simp[c4]);obtain⟨o,g,n,t,t',O,A,P,b4⟩:=Z z<|a6 z (by simp);refine⟨.int z.2.1 t::fs,KatTups.cons (x _ _ O) A P ?_ h1,by simp[R],λv k=>?_⟩
    ·rw[<-getElem?_toList,b4];rfl
    ·rcases mem_cons.mp k with rfl|k
     ·exact⟨_,_,rfl⟩
     ·exact h3 v k
  obtain⟨fs,h1,R,h3⟩:=key zs λz a0=>a0;refine kat_kind (T:=.type "int") h1 (by rw[R];rw[B]at h2;omega) (λv k=>?_) (by rfl) b8;obtain⟨i,t,rfl⟩:=h3 v k;exact .now
 case less =>
  intro b1 s' _ x i j C hi w S;rw[B]at hi w;obtain⟨b5,c6⟩:=U i hi;obtain⟨b6,c7⟩:=U j w;rw[b5,b6];obtain⟨d9,b0,d7,e1,e2,a3,d3,a4,b2⟩:=Z _ c6;obtain⟨e0,d6,d8,e3,e4,M,d4,N,b3⟩:=Z _ c7;refine kat_lt (x _ _ a3) a4 (x _ _ M) N ?_
  by_cases J:i=j
  ·subst J;rw[a3]at M;cases M;rw[a4]at N;cases N;have:C false s':=by rw[iI]at S;exact S
   have A:decide (b0.size<b0.size)=false:=by simp
   rw[A];exact gW this _ _
  ·have c1:dB zs i≠dB zs j:=λe=>by
    rcases (Cr a7).tot i j hi w J with h1|h1<;>rw[e,iI]at h1<;>cases h1
   have m:C (cP (zs.getD i (0,0,0)).2 (zs.getD j (0,0,0)).2) s':=S;rw[b2,b3];refine kat_cons<|wpAny_eqBool_int ?_
   by_cases h1:(zs.getD i (0,0,0)).2.1=(zs.getD j (0,0,0)).2.1
   ·rw[show((zs.getD i (0,0,0)).2.1==(zs.getD j (0,0,0)).2.1)=true from beq_iff_eq.mpr h1];refine kat_yes<|kat_cons (wpAny_eqBool_int ?_);have h2:(zs.getD i (0,0,0)).2.2≠(zs.getD j (0,0,0)).2.2:=λe=>c1<|Prod.ext h1 e;rw[show((zs.getD i (0,0,0)).2.2==(zs.getD j (0,0,0)).2.2)=false from beq_eq_false_iff_ne.mpr h2];refine kat_no<|kat_one _ _ (PyProof.Rows.lt_int ?_);unfold cP at m;rw[if_pos h1]at m;exact m
   ·rw[show((zs.getD i (0,0,0)).2.1==(zs.getD j (0,0,0)).2.1)=false from beq_eq_false_iff_ne.mpr h1];refine kat_no ?_;unfold cP at m;rw[if_neg h1]at m;exact kat_lt_int m
 case fin =>
  intro p h' L a9 x _ G;obtain⟨c,G⟩:=G;rw[B]at L a9;obtain⟨d,E⟩:∃d,d=p.toList.map λi=>zs.getD i (0,0,0):=⟨_,rfl⟩;have a8:d.Perm zs:=by
   rw[E];refine(L.perm.map _).trans ?_;have:(List.range zs.length).map (λi=>zs.getD i (0,0,0))=zs:=by
    apply ext_getElem?;intro i;rw[getElem?_map]
    by_cases hi:i<zs.length
    ·rw[getElem?_range hi,getElem?_eq_getElem hi];show some (zs.getD i (0,0,0))=_;rw[getD_eq_getElem?_getD,getElem?_eq_getElem hi];rfl
    ·rw[getElem?_eq_none (by rw[length_range];omega),getElem?_eq_none (by omega)];rfl
   rw[this]
  have d5:p.size=zs.length:=L.size;have c3:d.Pairwise (λa b=>cP a.2 b.2=true):=by
   rw[pairwise_iff_getElem];intro i j hi w J;have Y:i<p.size:=by rw[E,length_map,length_toList]at hi;exact hi
   have b9:j<p.size:=by rw[E,length_map,length_toList]at w;exact w
   have:=a9 i j J (by omega);simp only[dB]at this;rw[getD_eq_getD_getElem?,getD_eq_getD_getElem?,Array.getElem?_eq_getElem Y,Array.getElem?_eq_getElem b9]at this;simpa [E]using this
  have c2:(toArray<|p.toList.map λi=>((zs.map (·.1)).map Value.ref).getD i Value.none)=((d.map (·.1)).map Value.ref).toArray:=by
   congr 1
   rw[E];simp only[map_map];apply map_congr_left;intro i hi;have Y:i<zs.length:=mem_range.mp<|L.perm.mem_iff.mp hi;have:=(U i Y).1;simp only[map_map]at this;exact this
  rw[c2]at G;have k:aq ((d.map (·.1)).map V.ref) ((d.map (·.1)).map Value.ref):=by
   generalize d.map (·.1)=a5
   induction a5 with
   |nil=>exact .nil
   |cons a a5 a1=>exact .cons rfl a1
  refine⟨.ref<|s.heap.objs.size+1,_,I.laid (t':=s.toks) (o:=.lst<|(d.map (·.1)).map V.ref) x (le_succ _) ⟨?_,_,c,k,G⟩,rfl,q d a8 c3 _<|I.hok.fresh (le_succ _)⟩;rw[length_map,length_map,a8.length_eq,sizeLine_eq];omega
theorem zx{kvs:List (Key×V)}{vs:List (Key×zt)}(r:KV kvs vs){j:Nat}{q:Key×zt}(a:vs[j]?=some q):∃p,kvs[j]?=some p/\p.1=q.1/\aw p.2 q.2:=by
 induction r generalizing j with
 |nil=>cases a
 |cons b _ c =>
  cases j with
  |zero=>cases a;exact⟨_,rfl,b.1,b.2⟩
  |succ j=>exact c a
theorem Cs{P:xx}{w:qq}{k:Key}{u:zt}(c:(ap P w).is k u=true):aw (kV k) u:=by
 rcases az c with⟨i,t,a,b⟩|⟨y,t,a,b⟩
 ·rw[a,b];exact⟨_,rfl⟩
 ·rw[a,b];exact⟨_,rfl⟩
end
open PySem PySem.Spec PyProof.Rows
theorem jW:entryFor table "dict_itemiterator.__iter__"=some Builtin.«dict_keyiterator.__iter__» :=
 entryFor_alias (id':="dict_keyiterator.__iter__") (by kernel_rfl) rfl (by decide +kernel) (by kernel_rfl)
def Iti(d:zo)(o:Obj)(kvs:List<|Key×V):It :=
 ⟨λi H=>H d=some (.frz o<|.dK kvs)/\i<kvs.length,λi H v H'=>∃p a,H p=none/\v=.ref p/\kvs[i]?=some a/\H'=upd H p (.tup [kV a.1,a.2]),λi H=>H d=some (.frz o<|.dK kvs)/\kvs.length<=i⟩
theorem nc{X:Cx}{n:List (zo×Obj)}{q:St}{a:Hp}{s:zi}{d:zo}{o:Obj}{kvs:List (Key×V)}{b:Array DictEntry}{ep:Nat}(h:Inv X n q a s)(c:o.data=.dict b ep)(i:a d=some (.frz o<|.dK kvs)):
  ∃vs,KV kvs vs/\s.heap.DictAt (ap X.prog X.w) d vs ep:=by
 obtain⟨f,v,u,vs,p,o',t,r,g,m,e,j,l,k⟩:=h.hok d _ i;rw[f]at g;cases g;rw[c]at e;cases e;exact⟨vs,p,o,b,f,m,c,j,l,k⟩
theorem qy{P:xx}{w:qq}{K:Frag}{b4:List Expr}{k:Nat}{c8:Pos}{d it:zo}{o:Obj}{kvs:List (Key×V)}{b0:Array DictEntry}{ep:Nat}(p:o.data=.dict b0 ep):
  Turn P w K (.Tuple b4 k c8) (Iti d o kvs) [it] it (λi h=>∃j l,IsItemIter h it d i kvs.length ep j l) where
 mem:=by simp
 obj:=λi h st b U=>by
  have e:b=it:=by simpa using U
  subst e;obtain⟨j,l,e⟩:=st;exact⟨_,e,λv d0=>nomatch d0⟩
 keep:=λi h h' st k=>by
  obtain⟨j,l,e⟩:=st;exact⟨j,l,k it (by simp) _ e⟩
 item:=by
  intro X S a1 R a5 i pins s σ H E I t st Z;subst S a1 R;obtain⟨O,hi⟩:=Z;obtain⟨j,l,a⟩:=st;obtain⟨vs,M,N⟩:=nc I p O;obtain⟨z,B,a4,C,D,G⟩:=t it (by simp);have J:kvs.length=vs.length:=M.length;obtain⟨⟨k,v⟩,L⟩:∃q,vs[i]?=some q:=⟨vs[i]'(by omega),getElem?_eq_getElem (by omega)⟩;obtain⟨x,b8,b2,c9⟩:=zx M L;have b3:x.1=k:=b2;rw[J]at a;refine wpAny_pyNext_items_item a N L λkey g b7 c2 c0 d1 c3=>⟨_,rfl,?_⟩;refine wpAny_letOwnedTupleGo_items c2 λg' b6 a8=>?_;have a7:s.heap.objs.size≠it:=ne_of_gt<|lt_size a;have c4:∀c o,c≠it->s.heap.get? c=some o->g'.get? c=some o:=λc o a2 e=>(a8.2 c a2).trans (c3 c o a2 e);have y:∀c o,c∉[it]->s.heap.get? c=some o->g'.get? c=some o:=λc o f e=>c4 c o (λq=>f (by simp[q])) e;have a6:∀c o,H c=some o->c∉[it]:=λc o e a0=>by rw[(t c a0).1]at e;cases e
  have c6:∀c o,s.heap.get? c=some o->c≠s.heap.objs.size:=λc o e=>ne_of_lt<|lt_size e;have trk:∀c o,H c=some o->c≠s.heap.objs.size:=λc o e=>ne_of_lt<|I.hok.lt e;have c5:g'.get? s.heap.objs.size=some {cls:=.type "tuple",data:=.seq #[key,v]}:=(a8.2 _ a7).trans c0;have c7:HOk X.prog X.w (upd H s.heap.objs.size<|.tup [kV x.1,x.2]) g':=λc o e=>by
   by_cases a3:c=s.heap.objs.size
   ·subst a3;rw[ac]at e;cases e;exact⟨by show 2<=sizeLine;rw[sizeLine_eq];decide,[key,v],.cons (by rw[b3];exact Cs b7)<|.cons c9 .nil,⟨_,c5,rfl,0,rfl⟩⟩
   ·rw[ae a3]at e;refine(I.hok c o e).stay (λd v p q=>y d v ?_ q) (λd q=>by rw[ae<|trk d _ q];exact q) λd zs q=>by rw[ae<|trk d _ q];exact q
    rcases p with rfl|p
    ·exact a6 _ _ e
    ·exact a6 _ _ p
  have a9:Inv X pins σ (upd H s.heap.objs.size<|.tup [kV x.1,x.2]) {s with heap:=g'}:=by
   refine I.step (g':=s.gens) (t':=s.toks) (d':=s.drawn) (ch:=[it]) (λc Y=>?_) (λc o _ _ f e _=>y c o f e) (λc o _ _ f e _=>⟨o.slots,y c o f e⟩) (λc o _ e n=>by rw[ae<|c6 c o e];exact n) (λc o f e=>⟨o,y c o f e⟩)
    (λc zs q=>by rw[ae<|trk c _ q];exact q) (λc o u q=>by rw[ae<|trk c _ q];exact q) (λc ps q=>⟨#[],by rw[ae<|trk c _ q,q];simp⟩) (λm a0=>?_) c7 I.bare
   ·obtain⟨z,B,a4,C,D,G⟩:=t c Y;exact⟨C,B,D,G⟩
   ·obtain⟨o,b5,ep,c1,r⟩:=a0;exact⟨o,b5,ep,y _ o (λb9=>(t _ b9).2.1 rfl) c1,r⟩
  refine⟨.ref s.heap.objs.size,_,a9,rfl,⟨s.heap.objs.size,x,I.hok.fresh<|le_refl _,rfl,b8,rfl⟩,⟨_,_,by rw[J];exact b6⟩,λc Y=>?_⟩;have e:c=it:=by simpa using Y
  subst e;rw[ae<|Ne.symm a7];exact z
 done:=by
  intro X S a1 R a5 i pins s σ H E I t st Z;subst S a1 R;obtain⟨O,hi⟩:=Z;obtain⟨j,l,a⟩:=st;obtain⟨vs,M,N⟩:=nc I p O;obtain⟨z,B,a4,C,D,G⟩:=t it (by simp);have J:kvs.length=vs.length:=M.length;rw[J]at a;exact wpAny_pyNext_items_end (I.ok.hd a5) a N (getElem?_eq_none (by omega)) λh' b1=>⟨rfl,I.turned (t':=s.toks) (λb o U e=>b1 b o U e) z B C D G⟩
 self:=λA i s Q E st L=>by
  obtain⟨j,l,a⟩:=st;have T:s.TypeIs (.ref it) "dict_itemiterator":=⟨_,a,rfl⟩;refine wpAny_pyIter_slot T PySem.F.slot_dict_itemiterator_iter<|wpAny_call_entry PySem.F.slot_dict_itemiterator_iter T jW ?_ (PySem.F.args_dict_itemiterator_iter_1 _);show wpAny _ _ (ret<|.ref it) _ _ s;exact Wp ⟨_,rfl,"dict_itemiterator",_,T,PySem.F.slot_dict_itemiterator_next.lookup,L⟩
section
variable{X:Cx}
def AQ(a:TE):TI:=λσ H R=>a σ H λv H1=>∃d kvs,v=.ref d/\H1 d=some (.dK kvs)/\∀o,R (Iti d o kvs)<|upd H1 d (.frz o<|.dK kvs)
theorem wv{f:List Expr}{k:Nat}{S:Pos}{e:Expr}{C:TE}{r t:Pos}(K:PE X e C)(J:attributeBase e "items" X.env (eval e X.env)=eval e X.env:=by rfl)(L:(r.endLine==t.line)=true:=by rfl):
  PI X (.Tuple f k S) (.Call (.Attribute e "items" r) [] [] t) (AQ C):=by
 intro pins s σ H R I h;refine wpAny_Call_method0_late J L<|thn (K pins s σ H _ I h) λv s1 M=>?_;obtain⟨x,H1,p,U,T⟩:=M;obtain⟨d,kvs,rfl,u,q⟩:=T;cases U;obtain⟨P,z,vs,B,o,f,ep,c,i,g,l,n,m⟩:=p.hok d _ u;have j:Inv X pins σ (upd H1 d<|.frz o (.dK kvs)) s1:=p.write (t':=s1.toks) (x:=d) (e:=d) (by rw[u];trivial) (.inl rfl) (λ_ _ _ q=>q) ⟨o,c⟩ ⟨c,P,z,vs,B,o,f,ep,c,i,g,l,n,m⟩;have dd:s1.heap.DictOf (ap X.prog X.w) d vs:=⟨o,f,ep,c,i,g,l,n,m⟩;have D:s1.heap.DictAt (ap X.prog X.w) d vs ep:=⟨o,f,c,i,g,l,n,m⟩;have y:s1.TypeIs (.ref d) "dict":=dd.typeIs;refine⟨"dict","dict.items",plainAttrs_dict,slot_dict_items,PySem.F.type_dict_items,y,?_,callWith_builtin rfl<|PySem.evalArgs_none ?_⟩
 ·intro a ea;cases ea;exact⟨o,c,i.2.1⟩
 ·show wpAny _ _ (call (.builtin "dict.items") [.ref d]) _ _ _;have key:∀(Q:zt->zi->Prop)(E:zt->zi->Prop),Q (.ref s1.heap.objs.size) {s1 with heap:=s1.heap.push {cls:=.type "dict_items",data:=.fields #[.ref d]}}->wpAny (model X.prog X.w) X.A (call (.builtin "dict.items") [.ref d]) Q E s1:=λQ E N =>
   wpAny_call (codeAny_call_builtin slot_dict_items.plain PySem.F.entry_dict_items<|slot_dict_items.check _ _ _ _ _ _ _ _ y (PySem.F.args_dict_items_1 _) (meets_dict_items (ap X.prog X.w) d z X.A (wants Q E) s1 ⟨⟨vs,dd⟩,N⟩))
  refine key _ _ ?_;have O:(s1.heap.push {cls:=.type "dict_items",data:=.fields #[.ref d]}).objs.size=s1.heap.objs.size+1:=size_push' ..;refine wpAny_pyIter_items (knd:=ap X.prog X.w) (d:=d) (kvs:=vs) (ep:=ep) ⟨_,get?_push_size _ rfl,rfl,rfl⟩ (D.push _) ?_;refine⟨(s1.heap.push {cls:=.type "dict_items",data:=.fields #[.ref d]}).objs.size,[(s1.heap.push {cls:=.type "dict_items",data:=.fields #[.ref d]}).objs.size],_,_,upd H1 d<|.frz o (.dK kvs),rfl,j.kept (t':=s1.toks) λb o e=>get?_push_of_some _<|get?_push_of_some _ e,qy g,⟨.none,.none,by rw[B.length];exact get?_push_size _ rfl⟩,λb G=>?_,q o⟩;have e:b=s1.heap.objs.size+1:=by rw[<-O];simpa using G
  subst e;exact j.fpOk (le_succ _)<|j.hok.fresh (le_succ _)
end
theorem lg:entryFor table "dict_valueiterator.__iter__"=some Builtin.«dict_keyiterator.__iter__» :=
 entryFor_alias (id':="dict_keyiterator.__iter__") (by kernel_rfl) rfl (by decide +kernel) (by kernel_rfl)
def Itv(d:zo)(o:Obj)(kvs:List<|Key×V):It :=
 ⟨λi H=>H d=some (.frz o<|.dK kvs)/\i<kvs.length,λi H v H'=>H'=H/\∃a,kvs[i]?=some a/\v=a.2,λi H=>H d=some (.frz o<|.dK kvs)/\kvs.length<=i⟩
theorem tS{P:xx}{w:qq}{K:Frag}{a1:Expr}{d it:zo}{o:Obj}{kvs:List (Key×V)}{S:Array DictEntry}{ep:Nat}(L:o.data=.dict S ep):
  Turn P w K a1 (Itv d o kvs) [it] it (λi h=>h.IsValIter it d i kvs.length ep) where
 mem:=by simp
 obj:=λi h st b a=>by
  have e:b=it:=by simpa using a
  subst e;obtain⟨o,e,c,d⟩:=st;exact⟨o,e,λv O=>by rw[d]at O;cases O⟩
 keep:=λi h h' st k=>by
  obtain⟨o,e,r⟩:=st;exact⟨o,k it (by simp) _ e,r⟩
 item:=by
  intro X B G z J i pins s σ H E I f st D;subst B G z;obtain⟨y,hi⟩:=D;obtain⟨vs,l,m⟩:=nc I L y;obtain⟨n,p,U,t,u,x⟩:=f it (by simp);have g:kvs.length=vs.length:=l.length;obtain⟨⟨k,v⟩,j⟩:∃q,vs[i]?=some q:=⟨vs[i]'(by omega),getElem?_eq_getElem (by omega)⟩;obtain⟨M,Y,a2,Z⟩:=zx l j;rw[g]at st;refine wpAny_pyNext_values_item st m j λh' N a0=>?_;have R:Inv X pins σ H {s with heap:=h'}:=I.turned (t':=s.toks) (λb o a e=>(a0.2 b a).trans e) n p t u x
  obtain⟨a3,e,c,dd⟩:=id N;exact⟨_,rfl,lm (s:={s with heap:=h'}) e c dd (by decide) ⟨M.2,H,R,Z,⟨rfl,M,Y,rfl⟩,by rw[g];exact N,λb a=>(f b a).1⟩⟩
 done:=by
  intro X B G z J i pins s σ H E I f st D;subst B G z;obtain⟨y,hi⟩:=D;obtain⟨vs,l,m⟩:=nc I L y;obtain⟨n,p,U,t,u,x⟩:=f it (by simp);have g:kvs.length=vs.length:=l.length;rw[g]at st;exact wpAny_pyNext_values_end (I.ok.hd J) st m (getElem?_eq_none (by omega)) λh' T=>⟨rfl,I.turned (t':=s.toks) (λb o a e=>T b o a e) n p t u x⟩
 self:=λA i s Q E st j=>by
  have C:s.TypeIs (.ref it) "dict_valueiterator":=st.typeIs;refine wpAny_pyIter_slot C PySem.F.slot_dict_valueiterator_iter<|wpAny_call_entry PySem.F.slot_dict_valueiterator_iter C lg ?_ (PySem.F.args_dict_valueiterator_iter_1 _);show wpAny _ _ (ret<|.ref it) _ _ s;exact Wp ⟨_,rfl,"dict_valueiterator",_,C,PySem.F.slot_dict_valueiterator_next.lookup,j⟩
section
variable{X:Cx}{tg:Expr}
def Ct(a:TE):TI:=λσ H R=>a σ H λv H1=>∃d kvs,v=.ref d/\H1 d=some (.dK kvs)/\∀o,R (Itv d o kvs)<|upd H1 d (.frz o<|.dK kvs)
theorem yK{e:Expr}{z:TE}{n p:Pos}(G:PE X e z)(D:attributeBase e "values" X.env (eval e X.env)=eval e X.env:=by rfl)(J:(n.endLine==p.line)=true:=by rfl):
  PI X tg (.Call (.Attribute e "values" n) [] [] p) (Ct z):=by
 intro pins s σ H R I h;refine wpAny_Call_method0_late D J<|thn (G pins s σ H _ I h) λv s1 K=>?_;obtain⟨x,H1,m,P,O⟩:=K;obtain⟨d,kvs,rfl,r,q⟩:=O;cases P;obtain⟨N,u,vs,y,o,es,ep,c,g,f,j,l,k⟩:=m.hok d _ r;have i:Inv X pins σ (upd H1 d<|.frz o (.dK kvs)) s1:=m.write (t':=s1.toks) (x:=d) (e:=d) (by rw[r];trivial) (.inl rfl) (λ_ _ _ q=>q) ⟨o,c⟩ ⟨c,N,u,vs,y,o,es,ep,c,g,f,j,l,k⟩;have dd:s1.heap.DictOf (ap X.prog X.w) d vs:=⟨o,es,ep,c,g,f,j,l,k⟩;have B:s1.heap.DictAt (ap X.prog X.w) d vs ep:=⟨o,es,c,g,f,j,l,k⟩;have t:s1.TypeIs (.ref d) "dict":=dd.typeIs;refine⟨"dict","dict.values",plainAttrs_dict,slot_dict_values,PySem.F.type_dict_values,t,?_,callWith_builtin rfl<|PySem.evalArgs_none ?_⟩
 ·intro a ea;cases ea;exact⟨o,c,g.2.1⟩
 ·show wpAny _ _ (call (.builtin "dict.values") [.ref d]) _ _ _;have key:∀(Q:zt->zi->Prop)(E:zt->zi->Prop),Q (.ref s1.heap.objs.size) {s1 with heap:=s1.heap.push {cls:=.type "dict_values",data:=.fields #[.ref d]}}->wpAny (model X.prog X.w) X.A (call (.builtin "dict.values") [.ref d]) Q E s1:=λQ E L =>
   wpAny_call (codeAny_call_builtin slot_dict_values.plain PySem.F.entry_dict_values<|slot_dict_values.check _ _ _ _ _ _ _ _ t (PySem.F.args_dict_values_1 _) (meets_dict_values (ap X.prog X.w) d u X.A (wants Q E) s1 ⟨⟨vs,dd⟩,L⟩))
  refine key _ _ ?_;have M:(s1.heap.push {cls:=.type "dict_values",data:=.fields #[.ref d]}).objs.size=s1.heap.objs.size+1:=size_push' ..;refine wpAny_pyIter_values (knd:=ap X.prog X.w) (d:=d) (kvs:=vs) (ep:=ep) ⟨_,get?_push_size _ rfl,rfl,rfl⟩ (B.push _) ?_;refine⟨(s1.heap.push {cls:=.type "dict_values",data:=.fields #[.ref d]}).objs.size,[(s1.heap.push {cls:=.type "dict_values",data:=.fields #[.ref d]}).objs.size],_,_,upd H1 d<|.frz o (.dK kvs),rfl,i.kept (t':=s1.toks) λb o e=>get?_push_of_some _<|get?_push_of_some _ e,tS f,⟨_,get?_push_size _ rfl,rfl,by rw[y.length];rfl⟩,λb C=>?_,q o⟩;have e:b=s1.heap.objs.size+1:=by rw[<-M];simpa using C
  subst e;exact i.fpOk (le_succ _)<|i.hok.fresh (le_succ _)
theorem wx{d:zo}{o:Obj}{kvs:List (Key×V)}{g:TG}{q:TS}{c:Ends}{b:St}{a:Hp}(Pv:Nat->St->Hp->Prop)(r:Pv 0 b a)(l:∀i b a,i<=kvs.length->Pv i b a->a d=some (.frz o<|.dK kvs))(v:∀i h b a,kvs[i]?=some h->Pv i b a->g h.2 b a λk H2=>q {c with nx:=Pv<|i+1,ct:=Pv<|i+1,bk:=c.nx} k H2)(t:∀b a,Pv kvs.length b a->c.nx b a):
  ∃W:Nat->Nat->St->Hp->Prop,(∃m,W 0 m b a)/\∀i m b a,W i m b a ->
   ((Itv d o kvs).stop i a/\c.nx b a)\/((Itv d o kvs).go i a/\∃N:St->Hp->Prop,(∀j H',N j H'->∃p,p<m/\W (i+1) p j H')/\∀x H',(Itv d o kvs).yld i a x H'->g x b H' λk H2=>q {c with nx:=N,ct:=N,bk:=c.nx} k H2):=by
 refine⟨λi m b a=>m=kvs.length-i/\i<=kvs.length/\Pv i b a,⟨kvs.length,by simp,zero_le _,r⟩,?_⟩;rintro i m b a ⟨rfl,hi,f⟩
 by_cases n:i<kvs.length
 ·refine .inr ⟨⟨l i b a hi f,n⟩,Pv<|i+1,λj H' s=>⟨kvs.length-(i+1),by omega,rfl,n,s⟩,?_⟩;rintro x H' ⟨rfl,h,u,rfl⟩;exact v i h b H' u f
 ·have e:i=kvs.length:=by omega
  subst e;exact .inl ⟨⟨l _ b a hi f,le_refl _⟩,t b a f⟩
end
theorem wy{k:Nat}{js:List Nat}{g:TG}{tc:TT}{S:TE}{T:St}{l:Hp}{Q:VK}{p d:zo}{o:Obj}{fr:List (Option V)}(zs:List<|Key×V)(a1:zs.length<=1000)(N:l p=none)(L:l d=some (.frz o<|.dK zs))(Z:∃j:St,j.length=k/\cA k js T=j++fr)(u:Key×V->Bool)(R:Key×V->V->Hp->Prop)(K:∀z y H H',R z y H->Ext p H H'->R z y H')(X:∀z q (j:St) H' (O:St->VK) (P:St->Hp->Prop),j.length=k->z∈zs->Same l H'->(∃ys,H' p=some (.lst ys))->H' q=some (.tup [kV z.1,z.2])->(∀c y f,(∃t:St,t.length=k/\c=t++fr)->Same H' f->u z=true->R z y f->O c y f)->(∀c f,(∃t:St,t.length=k/\c=t++fr)->Same H' f->u z=false->P c f)->g (.ref q) (j++fr) H' λc W=>tc c W λb f=>if b=true then S c f (O c)else P c f)(Y:∀ys H',Same l H'->H' p=some (.lst ys)->Paired (λz y=>R z y H') (zs.filter u) ys->Q (.ref p) H'):pU k js g tc S T Q (Iti d o zs) l p:=by
 have I:∀{n:List (Key×V)}{ys:List V}{H H':Hp},Ext p H H'->Paired (λz y=>R z y H) n ys->Paired (λz y=>R z y H') n ys:=λex r=>Paired.mapP r λa b h=>K a b _ _ h ex;have a0:∀{n:List (Key×V)}{ys:List V}{H:Hp},Paired (λz y=>R z y H) n ys->ys.length=n.length:=λr=>(Paired.length r).symm;refine⟨λi m ys U H'=>m=zs.length-i/\i<=zs.length/\(∃j:St,j.length=k/\U=j++fr)/\Same l H'/\H' p=some (.lst ys)/\Paired (λz y=>R z y H') ((zs.take i).filter u) ys,⟨zs.length,by simp,zero_le _,Z,ag N,ac,.nil⟩,?_⟩;rintro i m ys U H' ⟨rfl,hi,⟨j,a4,rfl⟩,s1,M,s⟩
 by_cases B:i<zs.length
 ·refine .inr ⟨⟨s1 _ _ L,B⟩,?_,λx H2 a3=>?_⟩
  ·have h1:ys.length<=zs.length:=by
    rw[a0 s];exact le_trans (length_filter_le _ _) (by rw[length_take];omega)
   exact lt_of_le_of_lt h1<|au a1
  ·obtain⟨q,z,a2,rfl,J,rfl⟩:=a3;have a6:=mem_of_getElem? J;have G:zs.take (i+1)=zs.take i++[z]:=bH J;have v:=ag (o:=.tup [kV z.1,z.2]) a2;have D:=s1.trans v;have A:=v _ _ M;refine X z q j _ _ (λc f=>∃a5,a5<zs.length-i/\_) a4 a6 D ⟨ys,A⟩ ac (λc y a8 C F w a7=>⟨F _ _ A,zs.length-(i+1),by omega,rfl,B,C,aC N<|D.trans F,ac,?_⟩) (λc f C E w=>⟨zs.length-(i+1),by omega,rfl,B,C,D.trans E,E _ _ A,?_⟩)
   ·rw[G,filter_append,filter_cons_of_pos w];exact Paired.snoc (I ((Ext.of<|v.trans F).trans Ext.upd) s)<|K _ _ _ _ a7 Ext.upd
   ·rw[G,filter_append,filter_cons_of_neg (by simp[w]),filter_nil,append_nil];exact I (Ext.of<|v.trans E) s
 ·have e:i=zs.length:=by omega
  subst e;refine .inl ⟨⟨s1 _ _ L,le_refl _⟩,Y ys H' s1 M ?_⟩;rw[take_length]at s;exact s
end L2
namespace PySem
open Sem (wp)
open AutoSeq1 (wpAny_loadPart')
theorem EN.typeCall(a b:zt):checkTypeCall "enumerate" ⟨[a],[("start",b)]⟩=pure ():=by kernel_rfl
def EN.HI(i:Int):Prop:=0<=i/\i<=1000
theorem EN.newCall(a b:zt):checkBuiltinCall "enumerate.__new__" ⟨[.type "enumerate",a],[("start",b)]⟩=pure ():=by kernel_rfl
theorem EN.initArgs(o a b:zt):argsOk "object.__init__" ⟨[o,a],[("start",b)]⟩:=by unfold argsOk;kernel_rfl
open AutoSeq1 (wpAny_loadPart')
theorem EN.new(l:zo)(items:Array zt)(n:Nat)(e:Option zo)(o:Array<|Option zt)(i:Int)(t:Tok)(k:EN.HI i):
  Meets (Builtin.«enumerate.__new__» ⟨[.type "enumerate",.ref l],[("start",.int i t)]⟩) (λ_ R s=>s.heap.get? l=some {cls:=.type "list",dict:=e,data:=.seq items n,slots:=o} /\
   R (.ok<|.ret (.ref (s.heap.push {cls:=.type "list_iterator",data:=.fields #[.ref l,.int 0 0]}).objs.size))
    {s with heap:=(s.heap.push {cls:=.type "list_iterator",data:=.fields #[.ref l,.int 0 0]}).push {cls:=.type "enumerate",data:=.fields #[.none,.bool false,.ref s.heap.objs.size,rawInt i,.none,.none]}}) :=
 .of_wp λprog w A R s h=>by
  obtain⟨m,g,d,tk,os⟩:=s;obtain⟨a,h⟩:=h;have r:=sub_enumerate;have b:Heap.IsList (Shared.heap ⟨m,g,d,tk,os⟩) l items:=⟨_,a,rfl,n,rfl⟩
  wp_walk using wpAny_loadPart' a
  have q:Builtin.SmallTypes.fitsIndex i=true:=by
   unfold Builtin.SmallTypes.fitsIndex;obtain⟨p,h1⟩:=k;have f:decide (-(2 ^ 63:Int)<=i)=true:=decide_eq_true (by omega);have j:decide (i<(2 ^ 63:Int))=true:=decide_eq_true (by omega);rw[f,j];rfl
  refine wpAny_stack_any λst=>Wp ?_
  split
  ·rename_i c _ _ _ _ _
   cases (c==Value.type "enumerate")
   ·wp_walk using wpAny_loadPart' a,wpAny_pyIter_list b
    exact⟨_,rfl,h⟩
   ·wp_walk using wpAny_loadPart' a,wpAny_pyIter_list b
    exact⟨_,rfl,h⟩
  ·wp_walk using wpAny_loadPart' a,wpAny_pyIter_list b
   exact⟨_,rfl,h⟩
theorem EN.init{c a b:zt}(g:typeLookup (.type "enumerate") "__init__"=pure (some<|.builtin "object.__init__"))(h:Bind.madeBy (.type "enumerate")=pure (some "enumerate.__new__"))(i:(some "enumerate.__new__" != some "object.__new__")=true):
  Meets (Builtin.«object.__init__» ⟨[c,a],[("start",b)]⟩) (λ_ R s=>s.TypeIs c "enumerate"/\R (.ok<|.ret .none) s):=by
 refine Meets.of_wp λprog w A R s e=>?_;obtain⟨f,d⟩:=e
 repeat (any_goals (first|assumption|wp_step))
 exact⟨_,rfl,d⟩
theorem EN.call{prog:xx}{w:qq}{A:xg}{E:zt->zi->Prop}{s:zi}{l:zo}{items:Array zt}{i:Int}{t:Tok}{Q:zt->zi->Prop}(G:EN.HI i)(D:s.heap.IsList l items)(C:∀h',IsEnum h' (s.heap.objs.size+1) s.heap.objs.size i .none->h'.IsListIter s.heap.objs.size l 0->h'.objs.size=s.heap.objs.size+2 ->
   (∀b o,s.heap.get? b=some o->h'.get? b=some o)->Q (.ref<|s.heap.objs.size+1) {s with heap:=h'}):
  wpAny (model prog w) A (call (.type "enumerate") [.ref l] [("start",.int i t)]) Q E s:=by
 obtain⟨⟨c,v,y,J⟩,H,f,n,g⟩:=D
 replace f:c=.type "list":=f
 replace g:y=.seq items n:=g
 subst f g;have ft:=F.called_enumerate;obtain⟨c,tl,O⟩:=ft.mro;have N:=ft.made;have P:=ft.sub;have L:=EN.typeCall (.ref l)<|.int i t;refine wpAny_call<|codeAny_of_tree ?_;show wpAny _ _ (callAny (.type "enumerate") _) _ _ _;refine Wp ⟨Code.quiet_builtin _ (by decide +kernel),codeAny_builtin F.entry_type_call ?_⟩;rw[Around.under_plain (weight_type_call_type "enumerate" _ _)<|units_type_call_type "enumerate" _ _];have h1:=ft.notType;have h2:=ft.canCreate
 repeat (any_goals (first|assumption|wp_step))
 have k:(s.heap.push {cls:=.type "list_iterator",data:=.fields #[.ref l,.int 0 0]}).objs.size=s.heap.objs.size+1:=size_push ..;have p:IsEnum ((s.heap.push {cls:=.type "list_iterator",data:=.fields #[.ref l,.int 0 0]}).push
   {cls:=.type "enumerate",data:=.fields #[.none,.bool false,.ref s.heap.objs.size,rawInt i,.none,.none]}) (s.heap.objs.size+1) s.heap.objs.size i .none:=by
  have:=get?_push_size (s.heap.push {cls:=.type "list_iterator",data:=.fields #[.ref l,.int 0 0]})
   (o:={cls:=.type "enumerate",data:=.fields #[.none,.bool false,.ref s.heap.objs.size,rawInt i,.none,.none]}) rfl
  rw[k]at this;exact this
 refine codeAny_mono (codeAny_call_builtin ft.plain F.entry_enumerate_new<|wpAny_of_eq (EN.newCall (.ref l)<|.int i t) (EN.new l items n v J i t G prog w A.in1 (wants (λa d=>d.TypeIs a "enumerate"/\Q a d) E) s ⟨H,?_⟩)) λr d h=>?_
 ·show _/\_;rw[k];exact⟨⟨_,p,rfl⟩,C _ p ⟨_,get?_push_of_some _<|get?_push_size _ rfl,rfl,rfl⟩ (by rw[size_push,k]) λb o x=>get?_push_of_some _<|get?_push_of_some _ x⟩
 ·cases r with
  |error e=>exact h
  |ok z =>
   cases z with
   |ret a =>
    obtain⟨m,q⟩:=h;have M:=ft.init.lookup;have K:=ft.init.bind a
    repeat (any_goals (first|assumption|wp_step))
    refine codeAny_mono (codeAny_call_builtin ft.init.plain F.entry_object_init<|ft.init.check _ _ _ _ _ _ _ _ m (EN.initArgs a (.ref l)<|.int i t) ((EN.init ft.init.lookup ft.made (by decide)) prog w A.in1 (wants (λr u=>r=.none/\Q a u) E) d ⟨m,rfl,q⟩)) λI u j=>?_;cases I with
    |error e=>exact j
    |ok B =>
     cases B with
     |ret r =>
      obtain⟨rfl,q⟩:=j
      repeat (any_goals (first|assumption|wp_step))
     |_=>exact j.elim
   |_=>exact h.elim
section
variable{prog:xx}{w:qq}{A:xg}{E:zt->zi->Prop}{s:zi}
theorem EN.next{e a l:zo}{i:Nat}{c:Int}{items:Array zt}{x old:zt}{Q:Option zt->zi->Prop}(t:IsEnum s.heap e a c old)(T:s.heap.IsListIter a l i)(U:s.heap.IsList l items)(W:items[i]?=some x)(u:e≠a)(S:∀h',IsEnumOut h' e a (c+1) x s.heap.objs.size->h'.IsListIter a l (i+1) ->
   h'.get? s.heap.objs.size=some {cls:=.type "tuple",data:=.seq #[.int c s.toks,x]}->h'.objs.size=s.heap.objs.size+1 ->
   (∀b o,b≠e->b≠a->s.heap.get? b=some o->h'.get? b=some o)->Q (some<|.ref s.heap.objs.size) {s with heap:=h',toks:=s.toks+1}):
  wpAny (model prog w) A (pyNext<|.ref e) Q E s:=by
 have O:s.TypeIs (.ref e) "enumerate":=⟨_,t,rfl⟩;unfold pyNext;refine Wb<|wpAny_attempt (wpAny_callSpecial?_slot (name:=ofString "__next__") O F.slot_enumerate_next<|wpAny_call_entry F.slot_enumerate_next O F.entry_enumerate_next ?_ (F.args_enumerate_next_1 _));obtain⟨f,g,d,tk,os⟩:=s;show wpAny _ _ (field (.ref e) 2 >>= _) _ _ _;refine Wb<|wpAny_field t rfl (x:=.ref a) rfl (Wb<|wpAny_nextOf_list_item T U W λh1 X k=>?_)
 replace k:SameBut a f h1:=k
 have B:IsEnum h1 e a c old:=(k.2 e u).trans t;show wpAny _ _ (field (.ref e) 3 >>= _) _ _ ⟨h1,g,d,tk,os⟩;refine Wb<|wpAny_field B rfl (x:=rawInt c) rfl ?_;show wpAny _ _ (field (.ref e) 4 >>= _) _ _ ⟨h1,g,d,tk,os⟩;refine Wb<|wpAny_field B rfl (x:=.none) rfl ?_;show wpAny _ _ (mkInt c >>= _) _ _ ⟨h1,g,d,tk,os⟩;refine Wb<|wpAny_mkInt ?_;show wpAny _ _ (setField (.ref e) 3 (rawInt<|c+1) >>= _) _ _ ⟨h1,g,d,tk+1,os⟩;refine Wb<|wpAny_setField_rec B (by simp) λh2 C m=>?_
 replace m:SameBut e h1 h2:=m
 replace C:IsEnum h2 e a (c+1) old:=C
 show wpAny _ _ (setField (.ref e) 4 .none >>= _) _ _ ⟨h2,g,d,tk+1,os⟩;refine Wb<|wpAny_setField_rec C (by simp) λh3 D p=>?_
 replace p:SameBut e h2 h3:=p
 replace D:IsEnum h3 e a (c+1) old:=D
 have N:h3.objs.size=f.objs.size:=by rw[p.1,m.1,k.1]
 have Y:h3.IsListIter a l (i+1):=(X.extBut m.extBut<|Ne.symm u).extBut p.extBut (Ne.symm u);have k3:∀b o,b≠e->b≠a->f.get? b=some o->h3.get? b=some o:=λb o j L h=>p.extBut b o j<|m.extBut b o j (k.extBut b o L h);show wpAny _ _ (newTuple [.int c tk,x] >>= _) _ _ ⟨h3,g,d,tk+1,os⟩;refine Wb<|wpAny_newTuple ?_;have q:IsEnum (h3.push {cls:=.type "tuple",data:=.seq #[.int c tk,x]}) e a (c+1) old:=get?_push_of_some _ D;have P:(h3.push {cls:=.type "tuple",data:=.seq #[.int c tk,x]}).get? f.objs.size=some {cls:=.type "tuple",data:=.seq #[.int c tk,x]}:=by rw[<-N];exact get?_push_size _ rfl
 have R:(h3.push {cls:=.type "tuple",data:=.seq #[.int c tk,x]}).objs.size=f.objs.size+1:=by rw[size_push,N]
 have K:∀b o,h3.get? b=some o->(h3.push {cls:=.type "tuple",data:=.seq #[.int c tk,x]}).get? b=some o:=λb o h=>get?_push_of_some _ h;rw[N];generalize h3.push {cls:=.type "tuple",data:=.seq #[.int c tk,x]}=J at q P R K|-;have Z:f.objs.size≠e:=ne_of_gt<|lt_size t;show wpAny _ _ (Builtin.SmallTypes.ownedTupleIsFree (.ref e) >>= _) _ _ ⟨J,g,d,tk+1,os⟩;refine Wb ?_;unfold Builtin.SmallTypes.ownedTupleIsFree;refine Wb<|wpAny_field q rfl (x:=.none) rfl (Wp ?_);simp only[if_true];refine Wb<|wpAny_rule (Wb<|wpAny_field q rfl (x:=old) rfl (Wb<|wpAny_setField_rec q (by simp) λh5 G v=>?_))
 replace v:SameBut e J h5:=v
 replace G:IsEnum h5 e a (c+1) x:=G
 show wpAny _ _ (Builtin.SmallTypes.ownedTupleHandOut (.ref e) (.ref f.objs.size) >>= _) _ _ ⟨h5,g,d,tk+1,os⟩;refine Wb ?_;unfold Builtin.SmallTypes.ownedTupleHandOut;refine Wb<|wpAny_setField_rec G (by simp) λh6 H y=>?_
 replace y:SameBut e h5 h6:=y
 replace H:IsEnumOut h6 e a (c+1) x f.objs.size:=H
 refine wpAny_setField_rec H (by simp) λh7 I z=>?_
 replace z:SameBut e h6 h7:=z
 replace I:IsEnumOut h7 e a (c+1) x f.objs.size:=I
 have M:∀b o,b≠e->J.get? b=some o->h7.get? b=some o:=λb o n h=>z.extBut b o n<|y.extBut b o n (v.extBut b o n h);refine Wb<|wpAny_letGo (Wp ⟨_,rfl,Wp<|S h7 I ?_ (M _ _ Z P) (by rw[z.1,y.1,v.1,R]) λb o j L h=>M b o j<|K b o (k3 b o j L h)⟩);obtain⟨o,V,r⟩:=Y;exact⟨o,M _ _ (Ne.symm u)<|K _ _ V,r⟩
theorem EN.stop{e a l:zo}{i:Nat}{c:Int}{items:Array zt}{t:zt}{Q:Option zt->zi->Prop}(k:A.handled=none)(f:IsEnum s.heap e a c t)(m:s.heap.IsListIter a l i)(n:s.heap.IsList l items)(r:items[i]?=none)(g:∀h',ExtBut a s.heap h'->Q none {s with heap:=h'}):wpAny (model prog w) A (pyNext<|.ref e) Q E s:=by
 have d:s.TypeIs (.ref e) "enumerate":=⟨_,f,rfl⟩;unfold pyNext;refine Wb<|wpAny_attempt (wpAny_callSpecial?_slot (name:=ofString "__next__") d F.slot_enumerate_next<|wpAny_call_entry F.slot_enumerate_next d F.entry_enumerate_next ?_ (F.args_enumerate_next_1 _));show wpAny _ _ (field (.ref e) 2 >>= _) _ _ _;refine Wb<|wpAny_field f rfl (x:=.ref a) rfl (Wb<|wpAny_nextOf_list_end k m n r λh' x j q=>?_);obtain⟨o,p,h⟩:=q;exact Wb<|wpAny_isInstance (T:="StopIteration") (b:=true) ⟨o,p,h⟩ isSubtype_stop (Wp<|g _ j)
end
end PySem
namespace L2
open PySem PySem.Spec PyProof.Rows
section
variable{X:Cx}{tg:Expr}
def Ite(K:Frag)(a:zo)(b:Int):It :=
 ⟨λi H=>∃xs x,SqL K H a xs/\xs[i]?=some x,λi H v H'=>∃p x,H p=none/\v=.ref p/\(∀xs,SqL K H a xs->xs[i]?=some x)/\H'=upd H p (.tup [.int<|b+i,x]),λi H=>∃xs,SqL K H a xs/\xs.length<=i⟩
theorem tT{P:xx}{w:qq}{K:Frag}{b6:List Expr}{k:Nat}{c8:Pos}(e f a:zo)(t:Int)(b2:e≠f):
  Turn P w K (.Tuple b6 k c8) (Ite K a t) [e,f] e (λi h=>(∃y,IsEnum h e f (t+i) y)/\h.IsListIter f a i) where
 mem:=by simp
 obj:=λi h R c L=>by
  obtain⟨⟨y,a8⟩,b4,a9,_,d2⟩:=R;simp only[mem_cons,not_mem_nil,or_false]at L;rcases L with rfl|rfl
  ·exact⟨_,a8,λv l=>nomatch l⟩
  ·exact⟨_,a9,λv l=>by rw[d2]at l;cases l⟩
 keep:=λi h h' R J=>by
  obtain⟨⟨y,a8⟩,b4,a9,c9⟩:=R;exact⟨⟨y,J _ (by simp) _ a8⟩,b4,J _ (by simp) _ a9,c9⟩
 item:=by
  intro X a1 a5 a0 L i pins s σ H E I z st a2;subst a1 a5 a0;obtain⟨xs,x,G,b1⟩:=a2;obtain⟨c3,a6,k1,_⟩:=I.list G;obtain⟨O,c1,d0⟩:=a6.get b1;obtain⟨⟨y,D⟩,N⟩:=st;refine EN.next D N k1.isList (x:=O) (by simpa using c1) b2 λg c0 b9 c4 d5 J=>⟨_,rfl,?_⟩;refine wpAny_letOwnedTupleGo_enum c0 λg' d1 a7=>?_;have c6:s.heap.objs.size≠e:=ne_of_gt<|lt_size D;have p:∀c o,c∉[e,f]->s.heap.get? c=some o->g'.get? c=some o:=λc o b q=>(a7.2 c λl=>b (by simp[l])).trans (J c o (λl=>b (by simp[l])) (λl=>b (by simp[l])) q);have M:∀c o,H c=some o->c∉[e,f]:=λc o q F=>by rw[(z c F).1]at q;cases q
  have b3:∀c o,s.heap.get? c=some o->c≠s.heap.objs.size:=λc o q=>ne_of_lt<|lt_size q;have trk:∀c o,H c=some o->c≠s.heap.objs.size:=λc o q=>ne_of_lt<|I.hok.lt q;have c5:g'.get? s.heap.objs.size=some {cls:=.type "tuple",data:=.seq #[.int (t+i) s.toks,O]}:=(a7.2 _ c6).trans c4;have R2:(∃y,IsEnum g' e f (t+((i+1:Nat):Int)) y)/\g'.IsListIter f a (i+1):=by
   refine⟨⟨O,?_⟩,?_⟩
   ·have:t+((i+1:Nat):Int)=t+i+1:=by omega
    rw[this];exact d1
   ·obtain⟨o,h1,h2⟩:=b9;exact⟨o,(a7.2 f<|Ne.symm b2).trans h1,h2⟩
  have c7:HOk X.prog X.w (upd H s.heap.objs.size<|.tup [.int<|t+i,x]) g':=λc o q=>by
   by_cases b0:c=s.heap.objs.size
   ·subst b0;rw[ac]at q;cases q;exact⟨by show 2<=sizeLine;rw[sizeLine_eq];decide,[.int (t+i) s.toks,O],.cons ⟨_,rfl⟩<|.cons d0 .nil,⟨_,c5,rfl,0,rfl⟩⟩
   ·rw[ae b0]at q;refine(I.hok c o q).stay (λd v C j=>p d v ?_ j) (λd j=>by rw[ae<|trk d _ j];exact j) λd zs j=>by rw[ae<|trk d _ j];exact j
    rcases C with rfl | C
    ·exact M _ _ q
    ·exact M _ _ C
  have b5:Inv X pins σ (upd H s.heap.objs.size<|.tup [.int<|t+i,x]) {s with heap:=g',toks:=s.toks+1}:=by
   refine I.step (g':=s.gens) (t':=s.toks+1) (d':=s.drawn) (ch:=[e,f]) (λc B=>?_) (λc o _ _ b q _=>p c o b q) (λc o _ _ b q _=>⟨o.slots,p c o b q⟩) (λc o _ q n=>by rw[ae<|b3 c o q];exact n) (λc o b q=>⟨o,p c o b q⟩)
    (λc zs q=>by rw[ae<|trk c _ q];exact q) (λc o u q=>by rw[ae<|trk c _ q];exact q) (λc ps q=>⟨#[],by rw[ae<|trk c _ q,q];simp⟩) (λm F=>?_) c7 I.bare
   ·obtain⟨b7,U,b8,V,Y,Z⟩:=z c B;exact⟨V,U,Y,Z⟩
   ·obtain⟨o,T,S,a4,r⟩:=F;exact⟨o,T,S,p _ o (λa3=>(z _ a3).2.1 rfl) a4,r⟩
  refine⟨.ref s.heap.objs.size,_,b5,rfl,⟨s.heap.objs.size,x,I.hok.fresh<|le_refl _,rfl,λzs c2=>?_,rfl⟩,R2,λc B=>?_⟩
  ·rw[I.list_inj c2 G];exact b1
  ·obtain⟨o,q⟩:∃o,s.heap.get? c=some o:=by
    simp only[mem_cons,not_mem_nil,or_false]at B;rcases B with rfl|rfl
    ·exact⟨_,D⟩
    ·obtain⟨o,h1,_⟩:=N;exact⟨o,h1⟩
   rw[ae<|b3 c o q];exact(z c B).1
 done:=by
  intro X a1 a5 a0 L i pins s σ H E I z st a2;subst a1 a5 a0;obtain⟨xs,G,d4⟩:=a2;obtain⟨c3,a6,k1,_⟩:=I.list G;have d3:=a6.length;obtain⟨⟨y,D⟩,N⟩:=st;refine EN.stop (I.ok.hd L) D N k1.isList (Array.getElem?_eq_none (by simp;omega)) λg J=>⟨rfl,?_⟩;have p:∀c o,c∉[e,f]->s.heap.get? c=some o->g.get? c=some o:=λc o b q=>J c o (λl=>b (by simp[l])) q;have M:∀c o,H c=some o->c∉[e,f]:=λc o q F=>by rw[(z c F).1]at q;cases q
  refine I.step (g':=s.gens) (t':=s.toks) (d':=s.drawn) (ch:=[e,f]) (λc B=>?_) (λc o _ _ b q _=>p c o b q) (λc o _ _ b q _=>⟨o.slots,p c o b q⟩) (λc o _ q n=>n) (λc o b q=>⟨o,p c o b q⟩)
   (λc zs q=>q) (λc o u q=>q) (λc ps q=>⟨#[],by rw[q];simp⟩) (λm F=>?_) (λc o q=>?_) I.bare
  ·obtain⟨b7,U,b8,V,Y,Z⟩:=z c B;exact⟨V,U,Y,Z⟩
  ·obtain⟨o,T,S,a4,r⟩:=F;exact⟨o,T,S,p _ o (λa3=>(z _ a3).2.1 rfl) a4,r⟩
  ·refine(I.hok c o q).stay (λd v C j=>p d v ?_ j) (λd j=>j) λd zs j=>j;rcases C with rfl | C
   ·exact M _ _ q
   ·exact M _ _ C
 self:=λA i s Q E ⟨⟨y,D⟩,_⟩ G=>wpAny_pyIter_enum D G
theorem ng{M:Model}{A:xg}{env:Env}{E:zt->zi->Prop}{s:zi}{pos:Pos}{T:String}{e:Expr}{c:List Expr}{b:List Keyword}{Q:zt->zi->Prop}(g:wpAny M A (spliced<|backTo pos (starEach (e::c) env)) (λvs d=>wpAny M A (evalAll<|(backToKw pos<|keywordEach b env).map (·.2))
   (λkvs j=>wpAny M A (call (.type T) vs<|((backToKw pos<|keywordEach b env).filterMap (·.1)).zip kvs) Q E j) E d) E s)(h:backTo pos (starEach (e::c) env)=(false,eval e env)::backTo pos (starEach c env))(i:(backTo pos<|starEach (e::c) env).any (·.1)=false)(k:(backToKw pos<|keywordEach b env).all (·.1.isSome)=true)(l:(backToKw pos<|keywordEach b env).any (·.1.isNone)=false):
  wpAny M A (callWith pos (.type T) [] (backTo pos<|starEach (e::c) env)<|backToKw pos (keywordEach b env)) Q E s:=by
 unfold callWith;rw[h]at g|-;rw[h]at i;refine Wb<|wpAny_holding (wpAny_mono (evalArgs_kwB (f:=.type T) (Q:=λa d=>wpAny M A (call (.type T) ([]++a.pos) a.kw) Q E d) k g) (λa d n=>Wb<|wpAny_standAt ?_) λ_ _ x=>x);simp only[i,l,Bool.or_false];refine Wb<|Wp ?_;exact Wb<|wpAny_mono n (λr j m=>Wb<|wpAny_holding (wpAny_point<|Wp m)) λ_ _ x=>x
def enQ(b:TE)(d:St)(R:It->Hp->Prop)(K:Frag):List V->Hp->Prop
 |[v],H1=>∃l xs,v=.ref l/\H1 l=some (.lst xs)/\b d H1 λa H2=>∃c:Int,a=.int c/\0<=c/\c<=1000/\H2 l=some (.lst xs)/\R (Ite K l c) H2
 |_,_=>False
theorem wz{B:List Expr}{k:Nat}{O:Pos}{p z pos:Pos}{e f:Expr}{w g:TE}(F:Gl X "enumerate")(J:X.mg "enumerate"=none)(E:PE X e w)(D:PE X f g)(n:starEach [e] X.env=(false,eval e X.env)::starEach [] X.env:=by rfl)(L:(backTo pos<|starEach [e] X.env).any (·.1)=false:=by rfl):
  PI X (.Tuple B k O) (.Call (.Name "enumerate" p) [e] [⟨some "start",f,z⟩] pos) (λσ H R=>w σ H λv H1=>enQ g σ R X.K [v] H1):=by
 intro pins s σ H R I h;refine wpAny_Call_Name_kw<|eW I F J PyProof.Rows.boot_enumerate ?_ (by decide) (by decide);refine ng ?_ (by rw[n];rfl) L rfl rfl;refine thn (aa E af n pos pins s σ H (enQ g σ R X.K) I h) λus s1 M=>?_;obtain⟨vs,H1,x,r,o⟩:=M;obtain⟨v,rfl⟩:∃v,vs=[v]:=by
  match vs,o with
  |[v],_=>exact⟨v,rfl⟩
 obtain⟨l,xs,rfl,V,q⟩:=o;obtain⟨u,rfl,S⟩:=bY r;cases S;show wpAny _ _ (evalAll [(do let v <- eval f X.env;standAt pos;pure v)]) _ _ s1;refine wpAny_evalAll_cons<|Wb (thn (D _ s1 σ H1 _ x q) λT a ⟨U,H2,d,Q,c,A,c0,y,G,P⟩=>Wb<|wpAny_standAt (Wp<|wpAny_evalAll_nil ?_));subst A;obtain⟨t,rfl⟩:=Q;show wpAny _ _ (call (.type "enumerate") [.ref l] [("start",.int c t)]) _ _ a;obtain⟨Z,a0,k1,_⟩:=d.list<|SqL.of G;refine EN.call ⟨c0,y⟩ k1.isList λh' i C Y N=>?_;refine wpAny_pyIter_enum i ?_;have W:a.heap.objs.size<=a.heap.objs.size:=le_refl _;refine⟨a.heap.objs.size+1,[a.heap.objs.size+1,a.heap.objs.size],_,Ite X.K l c,H2,rfl,d.kept (t':=a.toks) N,tT _ _ l c<|Nat.succ_ne_self _,⟨⟨_,by rw[show c+((0:Nat):Int)=c by omega];exact i⟩,C⟩,λb j=>?_,P⟩;have m:a.heap.objs.size<=b:=by
  simp only[mem_cons,not_mem_nil,or_false]at j;rcases j with rfl|rfl
  ·exact Nat.le_add_right _ _
  ·exact le_refl _
 exact d.fpOk m<|d.hok.fresh m
end
theorem wA{K:Frag}{a:zo}{c:Int}{xs:List V}{g:TG}{n:TS}{f:Ends}{d:St}{b:Hp}(Pv:Nat->St->Hp->Prop)(o:Pv 0 d b)(s:∀i d b,i<=xs.length->Pv i d b->SqL K b a xs)(u:∀i x d b p,xs[i]?=some x->Pv i d b->b p=none->g (.ref p) d (upd b p<|.tup [.int<|c+i,x]) λj H2=>n {f with nx:=Pv<|i+1,ct:=Pv<|i+1,bk:=f.nx} j H2)(r:∀d b,Pv xs.length d b->f.nx d b):
  ∃W:Nat->Nat->St->Hp->Prop,(∃m,W 0 m d b)/\∀i m d b,W i m d b ->
   ((Ite K a c).stop i b/\f.nx d b)\/((Ite K a c).go i b/\∃N:St->Hp->Prop,(∀h H',N h H'->∃l,l<m/\W (i+1) l h H')/\∀x H',(Ite K a c).yld i b x H'->g x d H' λj H2=>n {f with nx:=N,ct:=N,bk:=f.nx} j H2):=by
 refine⟨λi m d b=>m=xs.length-i/\i<=xs.length/\Pv i d b,⟨xs.length,by simp,zero_le _,o⟩,?_⟩;rintro i m d b ⟨rfl,hi,p⟩;have q:=s i d b hi p
 by_cases k:i<xs.length
 ·refine .inr ⟨⟨xs,xs[i],q,by simp[k]⟩,Pv<|i+1,λh H' z=>⟨xs.length-(i+1),by omega,rfl,k,z⟩,λv H' y=>?_⟩;obtain⟨A,x,t,rfl,w,rfl⟩:=y;exact u i x d b A (w xs q) p t
 ·have e:i=xs.length:=by omega
  subst e;exact .inl ⟨⟨xs,q,le_refl _⟩,r d b p⟩
end L2
namespace TG
open PySem L2 TK
def gv(xs:List<|Int×V)(k:Int):List V:=(xs.filter λx=>decide<|x.1=k).map (·.2)
theorem ik(xs:List<|Int×V)(a k:Int)(v:V):gv (xs++[(a,v)]) k=if a=k then gv xs k++[v]else gv xs k:=by
 unfold gv;rw[filter_append]
 by_cases h:a=k
 ·rw[if_pos h,filter_cons_of_pos (by simpa using h),map_append];rfl
 ·rw[if_neg h,filter_cons_of_neg (by simpa using h)];simp
theorem AR(xs:List<|Int×V)(k:Int):(gv xs k).length<=xs.length:=by
 unfold gv;rw[length_map];exact length_filter_le _ _
structure Grp(H0 H:Hp)(d:zo)(L:Int->zo)(ns:List Int)(xs:List<|Int×V):Prop where
 dict:H d=some (.dK<|ns.map λk=>((Sum.inl k:Key),V.ref<|L k))
 d0:H0 d=none
 nd:ns.Nodup
 mem:∀k,k∈ns↔gv xs k≠[]
 at':∀k∈ns,H (L k)=some (.lst<|gv xs k)/\H0 (L k)=none
 inj:∀k∈ns,∀k'∈ns,L k=L k'->k=k'
 same:Same H0 H
 len:ns.length<=xs.length
theorem nh{ns:List Int}{b:Int->zo}{k:Int}:aO (ns.map λk=>((Sum.inl k:Key),V.ref<|b k)) (Sum.inl k:Key)=if k∈ns then some (.ref<|b k)else none:=by
 induction ns with
 |nil=>rfl
 |cons a r c =>
  unfold aO at c|-;rw[map_cons,find?_cons]
  by_cases h:a=k
  ·subst h;simp
  ·have h1:decide ((Sum.inl a:Key)=Sum.inl k)=false:=by simp[h]
   have h2:(k∈a::r)↔k∈r:=by simp[Ne.symm h]
   simp only[h1,h2];exact c
section
variable{H0 H H':Hp}{d:zo}{L:Int->zo}{ns:List Int}{xs:List (Int×V)}
theorem Grp.grow(m:Grp H0 H d L ns xs)(s:Same H H'):Grp H0 H' d L ns xs :=
 ⟨s _ _ m.dict,m.d0,m.nd,m.mem,λk a=>⟨s _ _ (m.at' k a).1,(m.at' k a).2⟩,m.inj,m.same.trans s,m.len⟩
theorem Grp.start(h:H0 d=none):Grp H0 (upd H0 d<|.dK []) d (λ_=>d) [] [] :=
 ⟨ac,h,nodup_nil,λk=>by simp[gv],λk h=>(by cases h),λk h=>(by cases h),ag h,le_refl _⟩
theorem Grp.hit{k:Int}{v:V}(m:Grp H0 H d L ns xs)(c:k∈ns):Grp H0 (upd H (L k)<|.lst (gv xs k++[v])) d L ns (xs++[(k,v)]):=by
 obtain⟨f,g⟩:=m.at' k c;have i:d≠L k:=λe=>by
  have:=m.dict;rw[e,f]at this;cases this
 refine⟨by rw[ae i];exact m.dict,m.d0,m.nd,λa=>?_,λa b=>⟨?_,(m.at' a b).2⟩,m.inj,aC g m.same,by have:=m.len;rw[length_append];omega⟩
 ·rw[ik,m.mem a]
  by_cases h:k=a
  ·subst h;rw[if_pos rfl];exact⟨λ_=>by simp,λ_=>(m.mem k).mp c⟩
  ·rw[if_neg h]
 ·rw[ik]
  by_cases h:k=a
  ·subst h;rw[if_pos rfl,ac]
  ·rw[if_neg h,ae λe=>h<|m.inj k c a b e.symm];exact(m.at' a b).1
theorem Grp.fresh{k:Int}{v:V}{q:zo}(m:Grp H0 H d L ns xs)(p:k∉ns)(l:H q=none):
  Grp H0 (upd (upd (upd H q<|.lst []) d<|.dK (cf (ns.map λk=>((Sum.inl k:Key),V.ref<|L k)) (Sum.inl k:Key)<|.ref q)) q<|.lst ([]++[v])) d (λj=>if j=k then q else L j) (ns++[k]) (xs++[(k,v)]):=by
 have x:d≠q:=λe=>by
  have:=m.dict;rw[e,l]at this;cases this
 have n:∀j∈ns,L j≠q:=λj h e=>by
  have:=(m.at' j h).1;rw[e,l]at this;cases this
 have ld:∀j∈ns,L j≠d:=λj h e=>by
  have:=(m.at' j h).1;rw[e,m.dict]at this;cases this
 have t:H0 q=none:=m.same.free l;have g0:gv xs k=[]:=by
  cases e:gv xs k with
  |nil=>rfl
  |cons a r=>exact absurd ((m.mem k).mpr (by rw[e];simp)) p
 have g:∀j∈ns,j≠k:=λj h e=>p (by rw[<-e];exact h);refine⟨?_,m.d0,?_,λj=>?_,λj c=>?_,λi hi j c e=>?_,?_,by have:=m.len;rw[length_append,length_append];show ns.length+1<=xs.length+1;omega⟩
 ·rw[ae x,ac,nR _ (by rw[nh,if_neg p]),map_append];have o:(ns.map λk=>((Sum.inl k:Key),V.ref<|L k))=ns.map λj=>((Sum.inl j:Key),V.ref (if j=k then q else L j)):=by
   apply map_congr_left;intro j c;rw[if_neg<|g j c]
  have f:[((Sum.inl k:Key),V.ref q)]=[k].map λj=>((Sum.inl j:Key),V.ref (if j=k then q else L j)):=by
   show _=[((Sum.inl k:Key),V.ref (if k=k then q else L k))];rw[if_pos rfl]
  rw[o,f]
 ·rw[nodup_append];exact⟨m.nd,by simp,λa u b w=>by
   have:b=k:=by simpa using w
   subst this;exact g a u⟩
 ·rw[ik,mem_append,m.mem j]
  by_cases h:k=j
  ·subst h;rw[if_pos rfl];exact⟨λ_=>by simp,λ_=>.inr (by simp)⟩
  ·rw[if_neg h];have:j∉[k]:=by simp[Ne.symm h]
   simp[this]
 ·rcases mem_append.mp c with c|c
  ·have s:=g j c;rw[if_neg s];refine⟨?_,(m.at' j c).2⟩;rw[ae<|n j c,ae<|ld j c,ae<|n j c,ik,if_neg<|Ne.symm s];exact(m.at' j c).1
  ·have:j=k:=by simpa using c
   subst this;rw[if_pos rfl];exact⟨by rw[ac,ik,if_pos rfl,g0],t⟩
 ·rcases mem_append.mp hi with hi|hi<;>rcases mem_append.mp c with c|c
  ·rw[if_neg<|g i hi,if_neg<|g j c]at e;exact m.inj i hi j c e
  ·have f:j=k:=by simpa using c
   rw[if_neg<|g i hi,if_pos f]at e;exact absurd e<|n i hi
  ·have f:i=k:=by simpa using hi
   rw[if_neg<|g j c,if_pos f]at e;exact absurd e.symm<|n j c
  ·have o:i=k:=by simpa using hi
   have f:j=k:=by simpa using c
   rw[o,f]
 ·exact aC t<|aC m.d0 (m.same.trans<|ag l)
end
end TG
namespace TK
open PySem L2
def alN:List Str:=["tree","marks","filled","alike","number","couples","numbers","count","one"]
theorem nq:FnScope alN ["tree"] (aj aT):=fsc
def alS(i:Nat):Stmt:=(aZ aT).getD i (.Pass ⟨0,0,0,0⟩)
abbrev AlX(P:xx)(w:qq)(K:Frag)(mg:Str->Option zt)(base:qa)(f:zo)(cdv:zt)(A:xg)(outer:List Env)(s:zi)(H:Hp)(E:XK):Cx:=(fO CX0 P w K mg base alN "alike_folders" (aj aT) f cdv A outer s H E).nox
def av(zs:ZN):List Int:=(ar zs).filter λk=>!(bo zs k).isEmpty
theorem Cu{b:Bool}{p q:Prop}(h:b=true)(x:p):if b=true then p else q:=by rw[if_pos h];exact x
theorem Cw{b:Bool}{p q:Prop}(h:b=false)(x:q):if b=true then p else q:=by rw[if_neg (by rw[h];decide)];exact x
section
variable{P:xx}{w:qq}{K:Frag}{mg:Str->Option zt}{base:qa}{f:zo}{cdv:zt}{A:xg}{outer:List Env}{s:zi}{H0:Hp}{E:XK}
theorem al1(a3:Room 4<|A.deeper (PyProof.Rows.envOfC "alike_folders" (aj aT) s.heap.objs.size f cdv))(W:Has P w K mg base 1 "members_by_folder" ["tree"] oZ):
  ∃O,PS (AlX P w K mg base f cdv A outer s H0 E) (alS 1) O/\∀(z:Ends)(H:Hp)(t:zo)(G S:Option V)(zs:ZN),Tre H t zs ->
   (∀l H',Same H H'->H l=none->H' l=some (.lst<|(av zs).map V.int)->z.nx [some<|.ref t,G,some<|.ref l,none,none,none,none,none,none] H')->O z [some<|.ref t,G,S,none,none,none,none,none,none] H:=by
 have a4:Room 1 _:=a3.mono (by decide);refine⟨_,tw (ii:=2) (N:=["number","inner"]) (cl:=[]) (k:=2) (js:=[]) (g:=BI K 2<|ug (br 0) (ug (br 1) BH)) (tc:=λσ H Q=>uc 1 σ H λx H'=>∃k,zP K x H' k/\Q k H') nq.nd rfl (Or.inl rfl) rfl (fc rfl (by decide +kernel) (by decide +kernel) (by decide +kernel)) rfl (λi b0 x h=>by simp at h) (wv<|yB W a4 (aa (pv 0) af))
   (λs H fp=>lW (n:=2) rfl<|cD (aB (i:=0) (show(["number","inner"]:List Str).Nodup by decide +kernel) rfl (Or.inl rfl)<|Or.inr rfl) (cD (aB (i:=1) (show(["number","inner"]:List Str).Nodup by decide +kernel) rfl (Or.inl rfl)<|Or.inr rfl) jf))
   (λs H fp=>nJ (X:=cg _ _ _ _ _ _ _) (pv 1) λ_=>rfl) (λs H fp=>pv 0),?_⟩
 intro z H t G S zs R q;have a8:=R.len;refine⟨_,rfl,t,zs,rfl,R,λd L H1 j=>⟨d,eJ L<|ar zs,rfl,j.dict,λo p C=>?_⟩⟩;have D:Same H (upd H1 d<|.frz o (.dK<|eJ L (ar zs))):=λb u e=>by rw[ae<|ak e j.d0];exact j.same _ _ e
 have J:upd H1 d (.frz o<|.dK (eJ L<|ar zs)) d=some (.frz o<|.dK (eJ L<|ar zs)):=ac;have I:∀k∈ar zs,upd H1 d (.frz o<|.dK (eJ L<|ar zs)) (L k)=some (.lst<|bg (bo zs k)):=λk B=>by
  have h:=(j.at' k B).1;rw[ae (λT=>by rw[T,j.dict]at h;cases h)];exact h
 have a7:(ar zs).length<=zs.length:=by
  unfold ar;rw[length_map];exact length_filter_le _ _
 generalize upd H1 d (.frz o<|.dK (eJ L<|ar zs))=H2 at C D J I|-;refine wy (fr:=[]) (eJ L<|ar zs) (by rw[oW];omega) C J ⟨[none,none],rfl,rfl⟩ (λc=>match c.1 with | .inl k=>!(bo zs k).isEmpty | .inr _=>false) (λc y _=>y=kV c.1) (λ_ _ _ _ h _=>h) (λc a U H' b1 b2 a6 M F a9 Z B a1=>?_) λys H' F a2 a5=>?_
 ·unfold eJ at M;obtain⟨k,a0,rfl⟩:=mem_map.mp M;obtain⟨r,v,rfl⟩:∃r v,U=[r,v]:=by
   match U,a6 with
   |[r,v],_=>exact⟨r,v,rfl⟩
  refine⟨a,_,rfl,SqT.of Z,rfl,_,_,rfl,_,_,rfl,rfl,?_⟩;refine⟨_,rfl,!(bo zs k).isEmpty,.inl ⟨_,SqL.of<|F _ _ (I k a0),by rw[<-fi];simp⟩,?_⟩
  by_cases m:(bo zs k).isEmpty=true
  ·refine Cw (by rw[m];rfl)<|a1 _ _ ⟨[some<|.int k,some<|.ref (L k)],rfl,rfl⟩ (Same.refl _) (by simp[m])
  ·exact Cu (by simpa using m) ⟨_,rfl,B _ _ _ ⟨[some<|.int k,some<|.ref (L k)],rfl,rfl⟩ (Same.refl _) (by simpa using m) rfl⟩
 ·have Y:=dh (f:=λc:Key×V=>kV c.1) a5 λT y _ h=>h;refine q p H' (D.trans F) (D.free C) ?_;rw[a2,Y];unfold eJ av;rw[filter_map,map_map];rfl
end
def mkX(m:Int->Int)(ks:List Int):List (Int×V):=ks.map λk=>(m k,V.int k)
theorem wB(m:Int->Int)(ks:List Int)(k:Int):mkX m (ks++[k])=mkX m ks++[(m k,.int k)]:=by unfold mkX;rw[map_append];rfl
section
variable{P:xx}{w:qq}{K:Frag}{mg:Str->Option zt}{base:qa}{f:zo}{cdv:zt}{A:xg}{outer:List Env}{s:zi}{H0:Hp}{E:XK}
theorem al3(N:Room 4<|A.deeper (PyProof.Rows.envOfC "alike_folders" (aj aT) s.heap.objs.size f cdv)):
  ∃C,PS (AlX P w K mg base f cdv A outer s H0 E) (alS 3) C/\∀(r:Ends)(H H1:Hp)(t b l e:zo)(ks:List Int)(m:Int->Int)(kvs:List<|Key×V),H1=upd H e (.dK [])->H e=none->H l=some (.lst<|ks.map V.int)->H b=some (.dK kvs)->(∀k∈ks,aO kvs (Sum.inl k:Key)=some (.int<|m k))->ks.length<=60 ->
   (∀L ns a H',TG.Grp H H' e L ns (mkX m ks)->r.nx [some<|.ref t,some<|.ref b,some<|.ref l,some<|.ref e,a,none,none,none,none] H')->C r [some<|.ref t,some<|.ref b,some<|.ref l,some<|.ref e,none,none,none,none,none] H1:=by
 refine⟨_,dY PassesOwn.never rfl (cm<|pv 2) (aB (i:=4) nq.nd rfl<|Or.inl rfl)<|am (aQ (cn plainAttrs_list PySem.F.slot_list_append PySem.F.type_list_append aM
  (cn plainAttrs_dict slot_dict_setdefault type_dict_setdefault gb (pv 3)<|aa (cQ (bx N) (pv 1) (pv 4) λ_ _=>rfl) (aa (bn af) af)) (aa (pv 4) af))),?_⟩
 rintro r H H1 t b l e ks m kvs rfl D z G O S q;have g0:=TG.Grp.start D;refine⟨_,rfl,l,rfl,⟨_,SqL.of<|g0.same _ _ z⟩,jn (xs:=ks.map V.int) (λi σ H'=>∃L ns a,σ=[some<|.ref t,some<|.ref b,some<|.ref l,some<|.ref e,a,none,none,none,none]/\TG.Grp H H' e L ns (mkX m<|ks.take i)) ⟨_,_,_,rfl,by rw[take_zero];exact g0⟩ (λi σ H' _ h=>?_) (λi v σ H' d h=>?_) λσ H' h=>?_⟩
 ·obtain⟨L,ns,a,rfl,g⟩:=h;exact SqL.of<|g.same _ _ z
 ·obtain⟨L,ns,a,rfl,g⟩:=h;rw[getElem?_map]at d;cases n:ks[i]? with
  |none=>rw[n]at d;cases d
  |some k =>
   rw[n]at d;cases d;have Q:=mem_of_getElem? n;have I:=g.same _ _ G;have T:(mkX m<|ks.take i).length<=60:=by unfold mkX;rw[length_map,length_take];omega
   have J:(ns.map λk=>((Sum.inl k:Key),V.ref<|L k)).length<sizeLine:=by rw[length_map,PySem.sizeLine_eq];have:=g.len;omega
   rw[bH n,wB];refine⟨_,rfl,.inr<|.inr (.inl ⟨rfl,.inl ⟨_,g.dict⟩⟩),_,rfl,_,rfl,b,_,rfl,by have:=cM.k (k:=Sum.inl k) I;rw[O k Q]at this;exact this,zero_le _,λj p=>?_⟩;have u:=g.grow<|ag (o:=.lst []) p;refine⟨e,_,.inl<|m k,.ref j,rfl,rfl,u.dict,J,λv c=>?_,λx=>?_⟩
   ·rw[TG.nh]at c
    by_cases h:m k∈ns
    ·rw[if_pos h]at c;cases c;obtain⟨y,a0⟩:=u.at' (m k) h;exact⟨.inl ⟨rfl,_,SqL.of y⟩,_,rfl,_,_,_,rfl,rfl,y,au<|le_trans (TG.AR _ _) (by omega),L,ns,_,rfl,u.hit h⟩
    ·rw[if_neg h]at c;cases c
   ·rw[TG.nh]at x
    by_cases h:m k∈ns
    ·rw[if_pos h]at x;cases x
    ·have M:j≠e:=λR=>by rw[R,g.dict]at p;cases p
     have B:upd (upd H' j<|.lst []) e (.dK<|cf (ns.map λk=>((Sum.inl k:Key),V.ref<|L k)) (Sum.inl (m k):Key) (.ref j)) j=some (.lst []):=by rw[ae M,ac]
     exact⟨.inl ⟨rfl,_,SqL.of B⟩,_,rfl,_,_,_,rfl,rfl,B,au (by decide),_,_,_,rfl,g.fresh h p⟩
 ·obtain⟨L,ns,a,rfl,g⟩:=h;rw[length_map,take_length]at g;exact q L ns a H' g
end
def gB(a:Hp)(b:List jc):Prop:=∀c∈b,a c.1=some (.tup [.int c.2.1,.int c.2.2])
def crf(a:List jc):List V:=a.map λc=>V.ref c.1
theorem gB.same{a H':Hp}{cs:List jc}(b:gB a cs)(s:Same a H'):gB H' cs:=λc d=>s _ _<|b c d
theorem gB.ext{a H':Hp}{l:zo}{xs:List V}{cs:List jc}(b:gB a cs)(f:a l=some (.lst xs))(e:Ext l a H'):gB H' cs:=λc d=>e _ _ (λy=>by have:=b c d;rw[y,f]at this;cases this)<|b c d
def alT:Stmt:=(yH<|(yH<|alS 5).getD 0 (.Pass ⟨0,0,0,0⟩)).getD 0 (.Pass ⟨0,0,0,0⟩)
def eT(xs:List Int):Nat->List (Int×Int)
 |0=>[]
 |i+1=>eT xs i++(xs.drop<|i+1).map λb=>(xs.getD i 0,b)
section
variable{P:xx}{w:qq}{K:Frag}{mg:Str->Option zt}{base:qa}{f:zo}{cdv:zt}{A:xg}{outer:List Env}{s:zi}{H0:Hp}{E:XK}
theorem DC:∃L,PS (AlX P w K mg base f cdv A outer s H0 E) alT L/\∀(t:Ends) (H:Hp) v z B C D (c l:zo) (xs:List Int) (i:Nat) (a:Int) (j:List jc),H c=some (.lst<|crf j)->gB H j->j.length+xs.length<=1000->H l=some (.lst<|xs.map V.int)->i<xs.length ->
   (∀u H',Ext c H H'->H' c=some (.lst<|crf u)->gB H' u->u.map (·.2)=j.map (·.2)++(xs.drop<|i+1).map (λb=>(a,b))->t.nx [v,z,B,C,D,some<|.ref c,some<|.ref l,some<|.int (1+i),some<|.int a] H')->L t [v,z,B,C,D,some<|.ref c,some<|.ref l,some<|.int (1+i),some<|.int a] H:=by
 refine⟨_,aQ<|cn plainAttrs_list PySem.F.slot_list_extend PySem.F.type_list_extend sH (pv 5) (aa (vU (fs:=["one"]) (cl:=[("one",s.heap.objs.size+1)]) (js:=[8]) lcF (cm<|eY xC (pv 6) (fz<|pv 7) ji) λs H fp=>bA<|aa (pv 1) (aa (pv 0) af)) af),?_⟩;intro t H v z B C D c l xs i a j m Q cl U hi q;refine⟨_,rfl,.inl ⟨rfl,_,SqL.of m⟩,_,rfl,_,rfl,_,rfl,l,_,rfl,SqL.of U,λr W=>?_⟩;have O:fQ (xs.map V.int) (some<|1+i) none=(xs.drop<|i+1).map V.int:=by
  have:=cut_from (xs:=xs.map V.int) (k:=i+1) (by rw[length_map];exact hi);rw[List.map_drop,<-this,show(1:Int)+(i:Int)=((i+1:Nat):Int)by omega]
 rw[O];have s1:=ag (o:=.lst<|(xs.drop<|i+1).map V.int) W;have h1:upd H r (.lst<|(xs.drop<|i+1).map V.int) r=some (.lst<|(xs.drop<|i+1).map V.int):=ac;generalize upd H r (.lst<|(xs.drop<|i+1).map V.int)=H1 at s1 h1|-;refine⟨r,rfl,⟨_,SqL.of h1⟩,λp2 X=>?_⟩;have a4:(xs.drop<|i+1).length<=xs.length:=by rw[length_drop];omega
 refine fJ (fr:=[some<|.int a]) (xs.drop<|i+1) V.int (by omega) X (eD<|SqL.of h1) rfl (λb y H=>∃g,y=.ref g/\g≠p2/\H g=some (.tup [.int a,.int b])) (λb y a2 a3 ⟨c,e,n,h⟩ ex=>⟨c,e,n,ex c _ n h⟩) (λb H' a5 a6 G Z T=>?_) λys H2 G Y J=>?_
 ·obtain⟨a7,a1⟩:=Z;exact⟨_,rfl,_,rfl,le2,λc m=>T _ _ (ag m) ⟨c,rfl,(λg=>by rw[g,a1]at m;cases m),ac⟩⟩
 ·obtain⟨bs,M,N,R⟩:=dP (val:=V.ref) (S:=λ(b:Int) g=>H2 g=some (.tup [.int a,.int b])) J λb y _ ⟨c,e,_,h⟩=>⟨c,e,h⟩;have I:=G _ _<|s1 _ _ m;refine⟨c,p2,_,_,rfl,rfl,I,Y,?_,?_⟩
  ·have:=J.length;unfold crf;rw[length_map];exact le_of_lt<|au (by omega)
  have ex:Ext c H (upd H2 c<|.lst (crf j++ys)):=(Ext.of<|s1.trans G).trans Ext.upd;refine q (j++bs.map λx=>(x.2,a,x.1)) _ ex (by rw[ac,N];unfold crf;rw[map_append,map_map];rfl) (λd p=>?_) ?_
  ·rcases mem_append.mp p with p|p
   ·exact(Q.ext m ex) d p
   ·obtain⟨x,a0,rfl⟩:=mem_map.mp p;have:=R x a0;show upd H2 c _ x.2=_;rw[ae λg=>by rw[g,I]at this;cases this];exact this
  ·rw[map_append,map_map]
   congr 1
   rw[<-M,map_map];rfl
end
theorem lQ(xs:List Int):∀i,(eT xs i).length<=i*xs.length
 |0=>zero_le _
 |i+1=>by
  have:=lQ xs i;unfold eT;rw[length_append,length_map,length_drop,succ_mul];omega
def dq(m:Int->Int)(ks:List Int)(k:Int):List Int:=ks.filter λj=>decide<|m j=k
theorem wC(m:Int->Int)(ks:List Int)(k:Int):TG.gv (mkX m ks) k=(dq m ks k).map V.int:=by
 unfold TG.gv mkX dq;rw[filter_map,map_map];rfl
theorem wD(m:Int->Int)(ks:List Int)(k:Int):(dq m ks k).length<=ks.length:=length_filter_le _ _
def jX(xs:List Int):List (Int×Int):=eT xs xs.length
def alU:Stmt:=(yH<|alS 5).getD 0 (.Pass ⟨0,0,0,0⟩)
section
variable{P:xx}{w:qq}{K:Frag}{mg:Str->Option zt}{base:qa}{f:zo}{cdv:zt}{A:xg}{outer:List Env}{s:zi}{H0:Hp}{E:XK}
theorem DD(T:Txt mg):∃S,PS (AlX P w K mg base f cdv A outer s H0 E) alU S/\∀(F:Ends) (H:Hp) t u v y z (c l:zo) Q R (xs:List Int) (g:List jc),H c=some (.lst<|crf g)->gB H g->g.length+xs.length*xs.length<=1000->H l=some (.lst<|xs.map V.int)->l≠c ->
   (∀d H' j k,Ext c H H'->H' c=some (.lst<|crf d)->gB H' d->d.map (·.2)=g.map (·.2)++jX xs->F.nx [t,u,v,y,z,some<|.ref c,some<|.ref l,j,k] H')->S F [t,u,v,y,z,some<|.ref c,some<|.ref l,Q,R] H:=by
 obtain⟨a8,px,a5⟩:=DC (P:=P) (w:=w) (K:=K) (mg:=mg) (base:=base) (f:=f) (cdv:=cdv) (A:=A) (outer:=outer) (s:=s) (H0:=H0) (E:=E);refine⟨_,dY PassesOwn.never rfl (wz rfl T.enumerate (pv 6) ao) (lW (n:=2) rfl<|cD (aB (i:=7) nq.nd rfl<|Or.inl rfl) (cD (aB (i:=8) nq.nd rfl<|Or.inr rfl) jf))<|am px,?_⟩;intro F H t u v y z c l Q R xs g a2 Z a7 D N q;refine⟨_,rfl,l,_,rfl,D,1,rfl,by decide,by decide,D,wA (xs:=xs.map V.int) (λi σ H'=>∃j k d,σ=[t,u,v,y,z,some<|.ref c,some<|.ref l,j,k]/\Ext c H H'/\H' c=some (.lst<|crf d)/\gB H' d/\d.map (·.2)=g.map (·.2)++eT xs i)
   ⟨_,_,g,rfl,λb o _ e=>e,a2,Z,by unfold eT;rw[append_nil]⟩ (λi σ H' _ h=>?_) (λi x σ H' p r h a4=>?_) (λσ H' h=>?_)⟩
 ·obtain⟨j,k,d,rfl,ex,_⟩:=h;exact SqL.of<|ex _ _ N D
 ·obtain⟨j,k,d,rfl,ex,I,G,m⟩:=h;rw[getElem?_map]at r;cases C:xs[i]? with
  |none=>rw[C]at r;cases r
  |some a =>
   rw[C]at r;cases r;have hi:i<xs.length:=(List.getElem?_eq_some_iff.mp C).1;have B:=ag (o:=.tup [.int<|1+i,.int a]) a4;have O:upd H' p (.tup [.int<|1+i,.int a]) p=some (.tup [.int<|1+i,.int a]):=ac;have M:=B _ _<|ex _ _ N D;have L:=B _ _ I;have J:=G.same B;generalize upd H' p (.tup [.int<|1+i,.int a])=U at B O M L J|-;have a1:d.length+xs.length<=1000:=by
    have h1:=congrArg length m;rw[length_append,length_map,length_map]at h1;have h2:=lQ xs i;have h3:=Nat.mul_le_mul_right xs.length (show i+1<=xs.length from hi);rw[succ_mul]at h3;omega
   refine⟨p,_,rfl,SqT.of O,rfl,_,_,rfl,_,_,rfl,rfl,?_⟩;refine a5 _ U t u v y z c l xs i a d L J a1 M hi λW a6 Y a3 a0 X=>?_;refine⟨_,_,W,rfl,(ex.trans<|Ext.of B).trans Y,a3,a0,?_⟩;rw[X,m,append_assoc];rw[show eT xs (i+1)=eT xs i++(xs.drop<|i+1).map λb=>(xs.getD i 0,b)from rfl,getD_eq_getElem?_getD,C];rfl
 ·obtain⟨j,k,d,rfl,ex,I,G,m⟩:=h;rw[length_map]at m;exact q d H' j k ex I G m
end
def prs:List Int->List (Int×Int)
 |[]=>[]
 |a::r=>r.map (λb=>(a,b))++prs r
theorem jY(a:Int)(r:List Int):∀i,eT (a::r) (i+1)=r.map (λb=>(a,b))++eT r i
 |0=>by
  show[]++_=_++[];rw[append_nil];rfl
 |i+1=>by
  rw[show eT (a::r) (i+1+1)=eT (a::r) (i+1)++((a::r).drop (i+1+1)).map λb=>((a::r).getD (i+1) 0,b)from rfl,jY a r i,append_assoc];rfl
theorem jZ:∀xs:List Int,jX xs=prs xs
 |[]=>rfl
 |a::r=>by
  unfold jX;rw[length_cons,jY];have:=jZ r;unfold jX at this;rw[this];rfl
theorem rW:∀xs:List Int,2*(prs xs).length+xs.length=xs.length*xs.length
 |[]=>rfl
 |a::r=>by
  have:=rW r;unfold prs;rw[length_append,length_map,length_cons];simp only[Nat.add_mul,Nat.mul_add,Nat.one_mul,Nat.mul_one];omega
theorem cT{a b:Int}:∀{xs:List Int},(a,b)∈prs xs->a∈xs/\b∈xs
 |[],h=>by cases h
 |c::r,h=>by
  unfold prs at h;rcases mem_append.mp h with h|h
  ·obtain⟨f,d,e⟩:=mem_map.mp h;cases e;exact⟨mem_cons_self,mem_cons_of_mem _ d⟩
  ·obtain⟨h1,h2⟩:=cT h;exact⟨mem_cons_of_mem _ h1,mem_cons_of_mem _ h2⟩
theorem dk(p:Int->Bool):∀xs:List Int,prs (xs.filter p)=(prs xs).filter λx=>p x.1&&p x.2
 |[]=>rfl
 |a::r=>by
  have c:=dk p r;show prs (filter p (a::r))=filter _ (r.map (λb=>(a,b))++prs r);rw[filter_append,filter_map,<-c]
  by_cases h:p a=true
  ·rw[filter_cons_of_pos h];show(r.filter p).map _++_=_
   congr 3
   funext b
   simp[h]
  ·rw[filter_cons_of_neg h];have:r.filter ((λx:Int×Int=>p x.1&&p x.2)∘λb=>(a,b))=[]:=List.filter_eq_nil_iff.mpr λb _=>by simp[h]
   rw[this];rfl
theorem wE:∀{xs:List Int},xs.Nodup->(prs xs).Nodup
 |[],_=>nodup_nil
 |a::r,h=>by
  obtain⟨h1,h2⟩:=nodup_cons.mp h;unfold prs;refine nodup_append.mpr ⟨?_,wE h2,λx c y d e=>?_⟩
  ·unfold Nodup;rw[pairwise_map];exact h2.imp λn e=>n (by cases e;rfl)
  ·obtain⟨b,f,rfl⟩:=mem_map.mp c;subst e;exact h1 (cT d).1
theorem ph{m:Int->Int}{ks ns:List Int}(c:∀k,k∈ns↔dq m ks k≠[])(a b:Int):(a,b)∈ns.flatMap (λk=>prs<|dq m ks k)↔(a,b)∈prs ks/\m a=m b:=by
 rw[mem_flatMap];constructor
 ·rintro⟨k,_,h⟩;unfold dq at h;rw[dk,mem_filter]at h;obtain⟨h1,h2⟩:=h;simp only[and_eq_true,decide_eq_true_eq]at h2;exact⟨h1,by omega⟩
 ·rintro⟨h1,h2⟩;refine⟨m a,(c _).mpr (List.ne_nil_of_mem (a:=a) ?_),?_⟩
  ·exact mem_filter.mpr ⟨(cT h1).1,by simp⟩
  ·unfold dq;rw[dk,mem_filter];exact⟨h1,by simp[h2]⟩
theorem eK{m:Int->Int}{ks:List Int}(g:ks.Nodup):∀{ns:List Int},ns.Nodup->(ns.flatMap λk=>prs<|dq m ks k).Nodup
 |[],_=>nodup_nil
 |k::r,h=>by
  obtain⟨h1,h2⟩:=nodup_cons.mp h;rw[List.flatMap_cons];refine nodup_append.mpr ⟨wE<|g.filter _,eK g h2,λx j y c e=>?_⟩;subst e;obtain⟨l,i,c⟩:=mem_flatMap.mp c;have d:=(mem_filter.mp (cT (a:=x.1) (b:=x.2) j).1).2;have f:=(mem_filter.mp (cT (a:=x.1) (b:=x.2) c).1).2;simp only[decide_eq_true_eq]at d f;exact h1 (by rw[<-d,f];exact i)
theorem qz{m:Int->Int}{ks ns:List Int}(b:ks.Nodup)(e:ns.Nodup)(c:ks.length<=18):(ns.flatMap λk=>prs<|dq m ks k).length<=153:=by
 have h1:=ce (eK (m:=m) b e) (m:=prs ks) λx d=>by
  obtain⟨k,_,h⟩:=mem_flatMap.mp d;unfold dq at h;rw[dk,mem_filter]at h;exact h.1
 have h2:=rW ks;have h3:ks.length*(ks.length-1)<=18*17:=Nat.mul_le_mul c (by omega);have f:ks.length*(ks.length-1)+ks.length=ks.length*ks.length:=by
  cases ks with
  |nil=>rfl
  |cons a r =>
   rw[length_cons,Nat.add_sub_cancel];exact(Nat.mul_succ _ _).symm
 omega
theorem pq{m:Int->Int}{M:Int->Option Int}{ks ns:List Int}(d:ks.Nodup)(i:ns.Nodup)(c:∀k∈ks,M k=some (m k)):(ns.flatMap λk=>prs<|dq m ks k).length<=((prs ks).filter λx=>decide<|M x.1=M x.2).length :=
 ce (eK (m:=m) d i) λx e=>by
  obtain⟨k,_,h⟩:=mem_flatMap.mp e;unfold dq at h;rw[dk,mem_filter]at h;obtain⟨h1,h2⟩:=h;simp only[and_eq_true,decide_eq_true_eq]at h2;obtain⟨f,g⟩:=cT (a:=x.1) (b:=x.2) h1;exact mem_filter.mpr ⟨h1,by rw[c _ f,c _ g,h2.1,h2.2];simp⟩
theorem Tre.offp{a H':Hp}{t f:zo}{zs:ZN}{qual:Str}(c:Tre a t zs)(o:bO f a H')(h:aL a f qual):Tre H' t zs:=by
 have g:∀b u,a b=some u->(∀ps,u≠.tbl ps)->H' b=some u:=λb u e n=>o b u (λd=>by
  obtain⟨ps,h1,_⟩:=h;rw[d,h1]at e;exact n ps (Option.some.inj e).symm) e
 exact {c with tup:=g _ _ c.tup (λps e=>by cases e),nod:=λd i=>g _ _ (c.nod d i) (λps e=>by cases e)}
theorem qA{zs:ZN}(T:TW.Tree1<|nds zs):(av zs).Pairwise (· < ·):=by
 unfold av ar;refine Pairwise.filter _ ?_;have h:=T.rise;unfold TW.oz nds at h;rw[pairwise_map]at h|-;exact Pairwise.sublist filter_sublist h
theorem eM{zs:ZN}(T:TW.Tree1<|nds zs):(av zs).Nodup:=(qA T).imp λh=>by omega
theorem aP{zs:ZN}{k:Int}(h:k∈av zs):k∈ar zs:=(mem_filter.mp h).1
section
variable{P:xx}{w:qq}{K:Frag}{mg:Str->Option zt}{base:qa}{f Pt:zo}{cdv:zt}{A:xg}{outer:List Env}{s:zi}{H0:Hp}{E:XK}
def kc(c:zo):Sp:=λvs H Q _=>∃t zs,vs=[.ref t]/\Tre H t zs/\aL H c dm/\(av zs).length<=18/\(∀M,Marks zs M->((prs<|av zs).filter λx=>decide<|M x.1=M x.2).length<64)/\∀l (ws:List jc) M H',bO c H H'->H l=none->ws.length<64->aL H' c dm->Marks zs M->H' l=some (.lst<|crf ws)->gB H' ws->ws.Pairwise (λa b=>cP a.2 b.2=true) ->
 (∀a b,(a,b)∈ws.map (·.2)↔(a,b)∈prs (av zs)/\M a=M b)->Q (.ref l) H'
theorem al5(T:Txt mg):∃S,PS (AlX P w K mg base f cdv A outer s H0 E) (alS 5) S/\∀(F:Ends) (r H:Hp) y z B (e:zo) C (c:zo) (L:Int->zo) (ns:List Int) (m:Int->Int) (ks:List Int),TG.Grp r H e L ns (mkX m ks)->H c=some (.lst [])->r c=none->ks.length<=18->ks.Nodup ->
   (∀a H' j l n,Same r H'->H' c=some (.lst<|crf a)->gB H' a->a.map (·.2)=ns.flatMap (λk=>jX<|dq m ks k)->F.nx [y,z,B,some<|.ref e,C,some<|.ref c,j,l,n] H')->S F [y,z,B,some<|.ref e,C,some<|.ref c,none,none,none] H:=by
 obtain⟨a8,px,a1⟩:=DD (P:=P) (w:=w) (K:=K) (mg:=mg) (base:=base) (f:=f) (cdv:=cdv) (A:=A) (outer:=outer) (s:=s) (H0:=H0) (E:=E) T;refine⟨_,dY PassesOwn.never rfl (yK<|pv 3) (aB (i:=6) nq.nd rfl<|Or.inl rfl)<|am px,?_⟩;intro F r H y z B e C c L ns m ks g p a2 a3 knd q;have Q:c≠e:=λD=>by rw[D,g.dict]at p;cases p
 refine⟨_,rfl,e,_,rfl,g.dict,λo=>?_⟩;have R:∀k∈ns,L k≠c:=λk d D=>by
  have h1:=(g.at' k d).1;rw[D,p]at h1;exact(g.mem k).mp d (by injection h1 with h1;injection h1 with h1;exact h1.symm)
 have a4:∀k∈ns,L k≠e:=λk d D=>by
  have h1:=(g.at' k d).1;rw[D,g.dict]at h1;cases h1
 have O:upd H e (.frz o<|.dK (ns.map λk=>((Sum.inl k:Key),V.ref<|L k))) e=some (.frz o<|.dK (ns.map λk=>((Sum.inl k:Key),V.ref<|L k))):=ac;have N:upd H e (.frz o<|.dK (ns.map λk=>((Sum.inl k:Key),V.ref<|L k))) c=some (.lst []):=by rw[ae Q];exact p
 have M:∀k∈ns,upd H e (.frz o<|.dK (ns.map λk=>((Sum.inl k:Key),V.ref<|L k))) (L k)=some (.lst<|(dq m ks k).map V.int):=λk d=>by rw[ae<|a4 k d,(g.at' k d).1,wC]
 have U:Same r (upd H e<|.frz o (.dK<|ns.map λk=>((Sum.inl k:Key),V.ref<|L k))):=λb u h=>by rw[ae<|ak h g.d0];exact g.same _ _ h
 generalize upd H e (.frz o<|.dK (ns.map λk=>((Sum.inl k:Key),V.ref<|L k)))=H2 at O N M U|-;refine wx (λi σ H'=>∃j l n a,σ=[y,z,B,some<|.ref e,C,some<|.ref c,j,l,n]/\Ext c H2 H'/\H' c=some (.lst<|crf a)/\gB H' a/\a.map (·.2)=(ns.take i).flatMap (λk=>jX<|dq m ks k))
  ⟨_,_,_,[],rfl,λb o _ e=>e,N,λc p=>(by cases p),rfl⟩ (λi σ H' _ h=>?_) (λi a6 σ H' x h=>?_) (λσ H' h=>?_)
 ·obtain⟨j,l,n,a,rfl,ex,_⟩:=h;exact ex _ _ (Ne.symm Q) O
 ·obtain⟨j,l,n,a,rfl,ex,I,G,t⟩:=h;rw[getElem?_map]at x;cases v:ns[i]? with
  |none=>rw[v]at x;cases x
  |some k =>
   rw[v]at x;cases x;have hi:i<ns.length:=(List.getElem?_eq_some_iff.mp v).1;have J:=mem_of_getElem? v;have b0:=wD m ks k;have a9:(dq m ks k).length*(dq m ks k).length<=18*18:=Nat.mul_le_mul (show _<=18 by omega) (show _<=18 by omega);have a7:a.length<=153:=by
    have h1:=congrArg length t;rw[length_map,show(λk=>jX<|dq m ks k)=λk=>prs (dq m ks k)from funext λk=>jZ _]at h1;rw[h1];exact qz knd (g.nd.sublist<|take_sublist _ _) a3
   refine a1 _ H' y z B _ C c (L k) _ _ (dq m ks k) a I G (by omega) (ex _ _ (R k J)<|M k J) (R k J) λW a5 b1 b2 Y a0 Z X=>?_;refine⟨_,_,_,W,rfl,ex.trans Y,a0,Z,?_⟩;rw[X,t,bH v,List.flatMap_append,List.flatMap_singleton]
 ·obtain⟨j,l,n,a,rfl,ex,I,G,t⟩:=h;rw[length_map,take_length]at t;exact q a H' j l n (λb u h=>ex _ _ (ak h a2)<|U _ _ h) I G t
theorem AS{N:xl}(F:Fun K "alike_folders" "alike_folders" aT f N)(T:Txt mg)(a1:Has P w K mg base 1 "members_by_folder" ["tree"] oZ)(a2:Has P w K mg base 4 "shape_marks" ["tree"]<|wu Pt):FnOk P w K mg base CX0 5 f N ["tree"] (kc Pt):=by
 refine F.ok nq (λvs H Q E h=>?_) λcdv A outer s H vs Q E v h=>?_
 ·obtain⟨t,zs,rfl,_⟩:=h;rfl
 obtain⟨t,zs,rfl,y,I,a8,a7,q⟩:=h;have d3:Room 2 _:=v.mono (by decide);obtain⟨d6,c4,h1⟩:=al1 (P:=P) (w:=w) (K:=K) (mg:=mg) (base:=base) (f:=f) (cdv:=cdv) (A:=A) (outer:=outer) (s:=s) (H0:=H) (E:=E) v a1;obtain⟨d7,c5,h3⟩:=al3 (P:=P) (w:=w) (K:=K) (mg:=mg) (base:=base) (f:=f) (cdv:=cdv) (A:=A) (outer:=outer) (s:=s) (H0:=H) (E:=E) v;obtain⟨c7,c6,b1⟩:=al5 (P:=P) (w:=w) (K:=K) (mg:=mg) (base:=base) (f:=f) (cdv:=cdv) (A:=A) (outer:=outer) (s:=s) (H0:=H) (E:=E) T;refine⟨_,ai (aA (i:=1) nq.nd rfl (Or.inl rfl)<|yB a2 v (aa (pv 0) af))
  (ai c4<|ai (aA (i:=3) nq.nd rfl (Or.inl rfl) dL) (ai c5
  (ai (aA (i:=5) nq.nd rfl (Or.inl rfl)<|bn af) (ai c6
  (am<|aH (aF jd rfl T.sorted boot_sorted<|aa (pv 5) af)))))),?_⟩
 refine⟨_,rfl,t,zs,rfl,y,I,λc2 M kvs H1 C Z b7 d2 b8 mk=>?_⟩;have c8:=y.offp C I;refine h1 _ H1 t _ _ zs c8 λl H2 D d1 b6=>?_;intro e b5;have r:∀k∈av zs,∃j,M k=some j:=λk d=>isSome_iff_exists.mp<|(mk.dom k).mpr (aP d);refine h3 _ H2 _ t c2 l e (av zs) (λk=>(M k).getD 0) kvs rfl b5 b6 (D _ _ b7) (λk d=>?_) (by omega) λL ns d8 a3 g=>?_
 ·obtain⟨j,e⟩:=r k d;rw[b8,e];rfl
 refine⟨zero_le _,λc S=>?_⟩;have b0:=g.grow<|ag (o:=.lst []) S;have b4:upd a3 c (.lst []) c=some (.lst []):=ac;have b2:H2 c=none:=g.same.free S;show c7 _ _ _;refine b1 _ H2 _ _ _ _ e _ c L ns _ (av zs) b0 b4 b2 a8 (eM y.tr) λz d0 d9 e0 e1 W b3 R a6=>?_;have O:=eM y.tr;have c3:∀k,k∈ns↔dq (λk=>(M k).getD 0) (av zs) k≠[]:=λk=>by rw[g.mem,wC];simp
 have B:z.map (·.2)=ns.flatMap λk=>prs (dq (λk=>(M k).getD 0) (av zs) k):=by rw[a6];congr 1;funext k;exact jZ _
 have J:z.length<64:=by
  have h1:=pq (m:=λk=>(M k).getD 0) (M:=M) O g.nd λk d=>by
   obtain⟨j,e⟩:=r k d;rw[e];rfl
  rw[<-B,length_map]at h1;exact lt_of_le_of_lt h1<|a7 M mk
 refine⟨_,rfl,c,z,rfl,.inl<|SqL.of (by rw[b3];unfold crf;rw[map_map];rfl),R,by rw[B];exact eK O g.nd,J,λws G c9 p U=>?_⟩;have X:=ag (o:=.lst<|(ws.map (·.1)).map V.ref) U;have Y:=(D.trans W).trans X;have a9:H p=none:=by
  have h1:=(D.trans W).free U;cases e:H p with
  |none=>rfl
  |some o =>
   by_cases a0:p=Pt
   ·obtain⟨ps,g,_⟩:=Z;rw[a0,g]at h1;cases h1
   ·rw[C p o a0 e]at h1;cases h1
 refine q p ws M _ (λb u n h=>Y _ _<|C b u n h) a9 (by rw[G.length_eq];exact J) (bQ Z Y) mk (by rw[ac];unfold crf;rw[map_map];rfl) (λx b9=>X _ _<|R x (G.mem_iff.mp b9)) c9 λa b=>?_;rw[(G.map (·.2)).mem_iff,B,ph c3];constructor
 ·rintro⟨h1,h2⟩;obtain⟨c0,c1⟩:=cT h1;obtain⟨d4,a4⟩:=r a c0;obtain⟨d5,a5⟩:=r b c1;rw[a4,a5]at h2|-;exact⟨h1,congrArg some h2⟩
 ·rintro⟨h1,h2⟩;exact⟨h1,by rw[h2]⟩
end
theorem rX{i j:Type}{g:i->j}:∀{l:List i},(l.map g).Nodup->∀{a b:i},a∈l->b∈l->g a=g b->a=b
 |c::r,h,a,b,f,d,e=>by
  rw[map_cons]at h;obtain⟨h1,h2⟩:=nodup_cons.mp h;rcases mem_cons.mp f with f|f
  ·rcases mem_cons.mp d with d|d
   ·rw[f,d]
   ·exact absurd (mem_map.mpr ⟨b,d,by rw[<-e,f]⟩) h1
  ·rcases mem_cons.mp d with d|d
   ·exact absurd (mem_map.mpr ⟨a,f,by rw[e,d]⟩) h1
   ·exact rX h2 f d e
inductive Bel(zs:ZN):Int->List Str->Option Int->Prop where
 |one {z:zo×Nd}:z∈zs->Bel zs z.2.par [z.2.nm] z.2.st
 |step {z:zo×Nd} {r:List Str} {st:Option Int}:z∈zs->z.2.st=none->Bel zs z.2.num r st->Bel zs z.2.par (z.2.nm::r) st
theorem cq{zs:ZN}{k:Int}{z:zo×Nd}:z∈bo zs k↔z∈zs/\z.2.par=k:=by
 unfold bo;rw[mem_filter,decide_eq_true_eq]
theorem eN{zs:ZN}{z:zo×Nd}(hz:z∈zs)(h:z.2.st=none):z.2.num∈ar zs:=by
 unfold ar mY;exact mem_map.mpr ⟨z,mem_filter.mpr ⟨hz,by rw[h];rfl⟩,rfl⟩
theorem zy{zs:ZN}(T:TW.Tree1<|nds zs){z:zo×Nd}(hz:z∈zs)(a:z.2.num∈ar zs):z.2.st=none:=by
 unfold ar mY at a;obtain⟨y,b,e⟩:=mem_map.mp a;obtain⟨h1,h2⟩:=mem_filter.mp b;have:=T.inj (bc h1) (bc hz) e;rw[<-this];exact Option.isNone_iff_eq_none.mp h2
theorem Bel.ne{zs:ZN}{k:Int}{r:List Str}{st:Option Int}(h:Bel zs k r st):r≠[]:=by cases h<;>simp
theorem Bel.path{zs:ZN}{k:Int}{r:List Str}{st:Option Int}(b:Bel zs k r st):∀{p},TW.PathTo (nds zs) k p->∃z∈zs,z.2.st=st/\TW.PathTo (nds zs) z.2.num (p++r):=by
 induction b with
 |@one z hz=>intro p a;exact⟨z,hz,rfl,.node (bc hz) a⟩
 |@step z r st hz hs _ ih =>
  intro p a;obtain⟨y,h1,h2,h3⟩:=ih<|.node (bc hz) a;exact⟨y,h1,h2,by rw[append_assoc]at h3;exact h3⟩
theorem Marks.to{zs:ZN}{M:Int->Option Int}(s:Marks zs M)(T:TW.Tree1<|nds zs){k:Int}{r:List Str}{st:Option Int}(b:Bel zs k r st):∀{c},k∈ar zs->c∈ar zs->M k=M c->Bel zs c r st:=by
 have key:∀{d:zo×Nd}{c},d∈zs->d.2.par∈ar zs->c∈ar zs->M d.2.par=M c->∃y∈zs,y.2.par=c/\y.2.nm=d.2.nm/\y.2.st=d.2.st/\M y.2.num=M d.2.num:=λ{d c} f h i e=>by
  have u:ent M d∈(bo zs c).map (ent M):=((s.eq _ h _ i).mp e).mem_iff.mp (mem_map.mpr ⟨d,cq.mpr ⟨f,rfl⟩,rfl⟩);obtain⟨y,v,q⟩:=mem_map.mp u;obtain⟨g,j⟩:=cq.mp v;unfold ent at q;injection q with l n
  injection n with n o
  injection o with o _
  have t:∀a b:Option Int,a.map (Sum.inl:Int->Key)=b.map Sum.inl->a=b:=λa b s=>by
   cases a<;>cases b<;>simp_all
  refine⟨y,g,j,?_,t _ _ n,t _ _ o⟩;injection l with l
  injection l with l
 induction b with
 |@one d f =>
  intro c h i e;obtain⟨y,g,j,p,m,_⟩:=key f h i e;have:=Bel.one g;rw[j,p,m]at this;exact this
 |@step d r st f hs _ ih =>
  intro c h i e;obtain⟨y,g,j,p,m,w⟩:=key f h i e;have:=Bel.step (r:=r) (st:=st) g (m.trans hs)<|ih (eN f hs) (eN g<|m.trans hs) w.symm;rw[j,p]at this;exact this
theorem Bel.inv{zs:ZN}{k:Int}{r:List Str}{st:Option Int}(c:Bel zs k r st):∃z∈zs,z.2.par=k/\((r=[z.2.nm]/\st=z.2.st)\/∃a,r=z.2.nm::a/\z.2.st=none/\Bel zs z.2.num a st):=by
 cases c with
 |@one z hz=>exact⟨z,hz,rfl,.inl ⟨rfl,rfl⟩⟩
 |@step z r st hz hs b=>exact⟨z,hz,rfl,.inr ⟨_,rfl,hs,b⟩⟩
theorem Marks.back{zs:ZN}{M:Int->Option Int}(D:Marks zs M)(T:TW.Tree1<|nds zs):∀(n:Nat){k k':Int},k∈ar zs->k'∈ar zs->(∀r st,Bel zs k r st->r.length<=n)->(∀r st,Bel zs k r st↔Bel zs k' r st)->M k=M k':=by
 have w:∀{y z:zo×Nd},y∈zs->z∈zs->y.2.par=z.2.par->y.2.nm=z.2.nm->y=z:=λ{y z} f p c h=>by
  have:=T.own;unfold TW.eE nds at this;rw[map_map]at this;exact rX this f p<|Prod.ext c h
 have sub:∀n,(∀m,m<n->∀{k k':Int},k∈ar zs->k'∈ar zs->(∀r st,Bel zs k r st->r.length<=m)->(∀r st,Bel zs k r st↔Bel zs k' r st)->M k=M k')->∀{k k':Int},(∀r st,Bel zs k r st->r.length<=n)->(∀r st,Bel zs k r st↔Bel zs k' r st)->∀e∈(bo zs k).map (ent M),e∈(bo zs k').map (ent M):=by
  intro n u k k' o d e O;obtain⟨z,p,rfl⟩:=mem_map.mp O;obtain⟨l,rfl⟩:=cq.mp p;obtain⟨y,s,C,q⟩:=((d _ _).mp (Bel.one l)).inv;have f:y.2.nm=z.2.nm/\y.2.st=z.2.st:=by
   rcases q with⟨c,h⟩|⟨G,c,h,b⟩
   ·injection c with c
    exact⟨c.symm,h.symm⟩
   ·injection c with c K
    exact absurd K.symm b.ne
  refine mem_map.mpr ⟨y,cq.mpr ⟨s,C⟩,?_⟩;have L:M y.2.num=M z.2.num:=by
   cases j:z.2.st with
   |some i =>
    have F:∀{x:zo×Nd},x∈zs->x.2.st=some i->M x.2.num=none:=λ{x} R e=>by
     cases g:M x.2.num with
     |none=>rfl
     |some S =>
      have:=zy T R<|(D.dom _).mp (by rw[g];rfl);rw[this]at e;cases e
    rw[F l j,F s<|f.2.trans j]
   |none =>
    have h1:=o _ _<|Bel.one l;refine(u (n-1) (by have:([z.2.nm]:List Str).length=1:=rfl;omega) (eN l j) (eN s<|f.2.trans j) (λr st b=>?_) λr st=>⟨λb=>?_,λb=>?_⟩).symm
    ·have:=o _ _<|Bel.step l j b;rw[length_cons]at this;omega
    ·obtain⟨x,A,B,q⟩:=((d _ _).mp (Bel.step l j b)).inv;rcases q with⟨c,_⟩|⟨G,c,_,v⟩
     ·injection c with _ c
      exact absurd c b.ne
     ·injection c with c h
      have:=w A s (B.trans C.symm)<|c.symm.trans f.1.symm;rw[<-this,h];exact v
    ·have t:=Bel.step s (f.2.trans j) b;rw[C]at t;obtain⟨x,A,B,q⟩:=((d _ _).mpr t).inv;rcases q with⟨c,_⟩|⟨G,c,_,v⟩
     ·injection c with _ c
      exact absurd c b.ne
     ·injection c with c h
      have:=w A l B<|c.symm.trans f.1;rw[<-this,h];exact v
  unfold ent;rw[f.1,f.2,L]
 have E:∀k,((bo zs k).map (ent M)).Nodup:=λk=>by
  unfold Nodup;rw[pairwise_map];have p:zs.Pairwise λa b=>a.2.num<b.2.num:=by
   have:=T.rise;unfold TW.oz nds at this;rw[pairwise_map]at this;exact this
  refine(Pairwise.sublist filter_sublist p).imp_of_mem λ{a b} N d lt e=>?_;obtain⟨H,I⟩:=cq.mp N;obtain⟨J,t⟩:=cq.mp d;unfold ent at e;injection e with c _
  injection c with c
  injection c with c
  have:=w H J (I.trans t.symm) c;rw[this]at lt;omega
 intro n
 induction n using Nat.strongRecOn with
 |ind n u =>
  intro k k' P Q o d;refine(D.eq k P k' Q).mpr ((List.perm_ext_iff_of_nodup (E k)<|E k').mpr λe=>⟨sub n u o d e,sub n u (λr st b=>o r st<|(d r st).mpr b) (λr st=>(d r st).symm) e⟩)
theorem nr{zs:ZN}(T:TW.Tree1<|nds zs){k:Int}(a:k∈ar zs):∃p,TW.PathTo (nds zs) k p:=by
 unfold ar at a;obtain⟨c,b,rfl⟩:=mem_map.mp a;exact TW.PathTo.ex T<|bc (mem_filter.mp b).1
theorem Marks.iff{zs:ZN}{M:Int->Option Int}(c:Marks zs M)(T:TW.Tree1<|nds zs){k f:Int}(a:k∈ar zs)(d:f∈ar zs):M k=M f↔∀r st,Bel zs k r st↔Bel zs f r st:=by
 refine⟨λe r st=>⟨λb=>c.to T b a d e,λb=>c.to T b d a e.symm⟩,λg=>c.back T zs.length a d (λr st b=>?_) g⟩;obtain⟨p,h⟩:=nr T a;obtain⟨j,_,_,i⟩:=b.path h;have:=i.len T;rw[length_append]at this;unfold nds at this;rw[length_map]at this;omega
inductive BelE(zs:ZN):Int->List Str->Nd->Prop where
 |one {z:zo×Nd}:z∈zs->BelE zs z.2.par [z.2.nm] z.2
 |step {z:zo×Nd} {r:List Str} {n:Nd}:z∈zs->z.2.st=none->BelE zs z.2.num r n->BelE zs z.2.par (z.2.nm::r) n
theorem BelE.bel{zs:ZN}{k:Int}{r:List Str}{n:Nd}(b:BelE zs k r n):Bel zs k r n.st:=by
 induction b with
 |one a=>exact .one a
 |step a c _ d=>exact .step a c d
theorem Bel.e{zs:ZN}{k:Int}{r:List Str}{st:Option Int}(b:Bel zs k r st):∃n,BelE zs k r n/\n.st=st:=by
 induction b with
 |one a=>exact⟨_,.one a,rfl⟩
 |step a c _ d=>obtain⟨n,h1,h2⟩:=d;exact⟨n,.step a c h1,h2⟩
theorem BelE.snoc{zs:ZN}{k:Int}{r:List Str}{n:Nd}(b:BelE zs k r n):∀{y:zo×Nd},n.st=none->y∈zs->y.2.par=n.num->BelE zs k (r++[y.2.nm]) y.2:=by
 induction b with
 |@one z hz =>
  intro y a c e;have:=BelE.one c;rw[e]at this;exact .step hz a this
 |@step z r n hz a _ ih=>intro y h1 h2 h3;exact .step hz a<|ih h1 h2 h3
theorem wF{ns:List Nd}{m n:Nd}(b:m∈ns)(d:m.st=none)(a:TW.Reach ns m.num n):TW.Reach ns m.par n:=by
 induction a with
 |base c e=>exact .step (.base b rfl) d c e
 |step _ h1 h2 h3 f=>exact .step f h1 h2 h3
theorem BelE.reach{zs:ZN}{k:Int}{r:List Str}{n:Nd}(b:BelE zs k r n):TW.Reach (nds zs) k n/\∀{p},TW.PathTo (nds zs) k p->TW.PathTo (nds zs) n.num (p++r):=by
 induction b with
 |@one z hz=>exact⟨.base (bc hz) rfl,λa=>.node (bc hz) a⟩
 |@step z r n hz hs _ ih =>
  refine⟨wF (bc hz) hs ih.1,λ{p} a=>?_⟩;have:=ih.2<|TW.PathTo.node (bc hz) a;rw[append_assoc]at this;exact this
theorem wG{zs:ZN}{k:Int}:bo zs k≠[]↔∃r st,Bel zs k r st:=by
 constructor
 ·intro h;obtain⟨b,a⟩:=List.exists_mem_of_ne_nil _ h;obtain⟨h1,rfl⟩:=cq.mp a;exact⟨_,_,.one h1⟩
 ·rintro⟨r,st,h⟩;obtain⟨b,a,e,_⟩:=h.inv;exact List.ne_nil_of_mem<|cq.mpr ⟨a,e⟩
def rY(m:Nat):Nat->Nat
 |0=>0
 |n+1=>min m n+rY m n
theorem rZ{M:Int->Option Int}{m:Nat}:∀{xs:List Int},(∀a∈xs,(xs.filter λb=>decide<|M a=M b).length<=m+1)->((prs xs).filter λx=>decide<|M x.1=M x.2).length<=rY m xs.length
 |[],_=>zero_le _
 |a::r,h=>by
  have h1:=h a mem_cons_self;rw[filter_cons_of_pos (by simp),length_cons]at h1;have h2:(r.filter λb=>decide<|M a=M b).length<=r.length:=length_filter_le _ _;have d:=rZ (M:=M) (m:=m) (xs:=r) λb c=>by
   have:=h b<|mem_cons_of_mem _ c;refine le_trans (Sublist.length_le ?_) this;exact Sublist.filter _<|List.sublist_cons_self _ _
  unfold prs;rw[filter_append,length_append,filter_map,length_map,length_cons];show(r.filter λb=>decide<|M a=M b).length+_<=min m r.length+rY m r.length;omega
theorem wH:∀f:Fin 19,∀m:Fin 19,f.val+(m.val+1)<=18->rY m.val f.val<64:=by decide +kernel
theorem longest{zs:ZN}{k:Int}:∀b:Nat,(∀r st,Bel zs k r st->r.length<=b)->(∃r st,Bel zs k r st)->∃r st,Bel zs k r st/\∀a c,Bel zs k a c->a.length<=r.length
 |0,h,⟨r,st,x⟩=>⟨r,st,x,λa c y=>by have:=h _ _ y;omega⟩
 |b+1,h,e=>by
  by_cases d:∃r st,Bel zs k r st/\r.length=b+1
  ·obtain⟨r,st,x,f⟩:=d;exact⟨r,st,x,λa c y=>by rw[f];exact h _ _ y⟩
  ·refine longest b (λr st y=>?_) e;have h1:=h _ _ y;have h2:r.length≠b+1:=λg=>d ⟨r,st,y,g⟩;omega
theorem lR{zs:ZN}{M:Int->Option Int}(D:Marks zs M)(T:TW.Tree1<|nds zs){k:Int}(w:k∈av zs):(av zs).length+((av zs).filter λb=>decide<|M k=M b).length<=zs.length:=by
 have bound:∀{c},c∈ar zs->∀r st,Bel zs c r st->r.length<=zs.length:=λ{c} d r st b=>by
  obtain⟨p,i⟩:=nr T d;obtain⟨j,_,_,K⟩:=b.path i;have:=K.len T;rw[length_append]at this;unfold nds at this;rw[length_map]at this;omega
 have u:=aP w;have I:bo zs k≠[]:=λe=>by
  have:=(mem_filter.mp w).2;rw[e]at this;cases this
 obtain⟨r,st,l,H⟩:=longest zs.length (bound u)<|wG.mp I;have key:∀c∈(av zs).filter (λb=>decide<|M k=M b),∃n,n∈nds zs/\n.num∉av zs/\∃p,TW.PathTo (nds zs) c p/\TW.PathTo (nds zs) n.num (p++r):=λc d=>by
  obtain⟨h1,h2⟩:=mem_filter.mp d;rw[decide_eq_true_eq]at h2;have v:=aP h1;have same:=(D.iff T u v).mp h2;obtain⟨n,z,_⟩:=((same r st).mp l).e;obtain⟨p,i⟩:=nr T v;obtain⟨B,U⟩:=z.reach;refine⟨n,B.mem,λt=>?_,p,i,U i⟩;obtain⟨j,s,rfl⟩:=mem_map.mp B.mem;have L:=zy T s<|aP t;have J:bo zs j.2.num≠[]:=λe=>by
   have:=(mem_filter.mp t).2;rw[e]at this;cases this
  obtain⟨y,o⟩:=List.exists_mem_of_ne_nil _ J;obtain⟨V,W⟩:=cq.mp o;have:=H _ _<|(same _ _).mpr (z.snoc L V W).bel;rw[length_append,length_cons]at this;omega
 obtain⟨h,g⟩:∃h:Int->Int,∀c∈(av zs).filter (λb=>decide<|M k=M b),h c∈(nds zs).map (·.num)/\h c∉av zs/\∃p,TW.PathTo (nds zs) c p/\TW.PathTo (nds zs) (h c) (p++r):=by
  refine⟨λc=>(Classical.epsilon λx=>x∈(nds zs).map (·.num)/\x∉av zs/\∃p,TW.PathTo (nds zs) c p/\TW.PathTo (nds zs) x (p++r)),λc d=>?_⟩;obtain⟨n,N,O,P⟩:=key c d;exact Classical.epsilon_spec (p:=λx=>x∈(nds zs).map (·.num)/\x∉av zs/\∃p,TW.PathTo (nds zs) c p/\TW.PathTo (nds zs) x (p++r)) ⟨n.num,mem_map.mpr ⟨n,N,rfl⟩,O,P⟩
 generalize E:(av zs).filter (λb=>decide<|M k=M b)=G at g|-;have C:G.Nodup:=by rw[<-E];exact Pairwise.filter _<|eM T
 have Q:(av zs++G.map h).Nodup:=by
  refine nodup_append.mpr ⟨eM T,?_,λx f y o e=>?_⟩
  ·unfold Nodup;rw[pairwise_map];refine Pairwise.imp_of_mem (λ{a b} F l n e=>?_) C;obtain⟨_,_,p,A,p2⟩:=g a F;obtain⟨_,_,q,R,S⟩:=g b l;rw[e]at p2;have:=List.append_cancel_right<|TW.PathTo.uniq T p2 S;rw[this]at A;exact n<|TW.PathTo.key T A R
  ·obtain⟨c,d,rfl⟩:=mem_map.mp o;exact(g c d).2.1 (by rw[<-e];exact f)
 have:=ce Q (m:=(nds zs).map (·.num)) λx f=>by
  rcases mem_append.mp f with f|f
  ·have:=aP f;unfold ar at this;obtain⟨j,s,rfl⟩:=mem_map.mp this;exact mem_map.mpr ⟨j.2,bc (mem_filter.mp s).1,rfl⟩
  ·obtain⟨c,d,rfl⟩:=mem_map.mp f;exact(g c d).1
 rw[length_append,length_map,length_map]at this;unfold nds at this;rw[length_map]at this;exact this
theorem few{zs:ZN}{M:Int->Option Int}(c:Marks zs M)(T:TW.Tree1<|nds zs)(i:zs.length<=18):((prs<|av zs).filter λx=>decide<|M x.1=M x.2).length<64:=by
 by_cases e:(av zs).length=0
 ·rw[length_eq_zero_iff.mp e];exact(by decide:0<64)
 have h:(av zs).length+1<=18:=by
  obtain⟨k,d⟩:=List.exists_mem_of_ne_nil (av zs) λg=>e (by rw[g];rfl);have h1:=lR c T d;have h2:0<((av zs).filter λb=>decide<|M k=M b).length:=List.length_pos_of_mem<|mem_filter.mpr ⟨d,by simp⟩;omega
 refine lt_of_le_of_lt (rZ (m:=17-(av zs).length) λa f=>?_)<|wH ⟨(av zs).length,by omega⟩ ⟨17-(av zs).length,by omega⟩ (by show(av zs).length+(17-(av zs).length+1)<=18;omega);have:=lR c T f;omega
open PySem L2
theorem tU{d n:Type}{g:d->n}{l:List d}(c:(l.map g).Nodup){a b:d}(h:a∈l)(k:b∈l)(e:g a=g b):a=b:=by
 induction l with
 |nil=>cases h
 |cons x r m =>
  rw[map_cons,nodup_cons]at c;rcases mem_cons.mp h with ea|i<;>rcases mem_cons.mp k with f|j
  ·rw[ea,f]
  ·exact absurd (mem_map.mpr ⟨b,j,by rw[<-e,ea]⟩) c.1
  ·exact absurd (mem_map.mpr ⟨a,i,by rw[e,f]⟩) c.1
  ·exact m c.2 i j
def zz(zs:ZN):List V:=zs.map λz=>V.int z.2.num
theorem eO{f:Type}{R:f->f->Prop}(d:∀a,¬R a a)(g:∀a b,R a b->¬R b a):∀{l m:List f},l.Pairwise R->m.Pairwise R->(∀x,x∈l↔x∈m)->l=m
 |[],[],_,_,_=>rfl
 |[],b::m,_,_,h=>absurd ((h b).mpr mem_cons_self) (by simp)
 |a::l,[],_,_,h=>absurd ((h a).mp mem_cons_self) (by simp)
 |a::l,b::m,hl,hm,h=>by
  obtain⟨l1,l2⟩:=pairwise_cons.mp hl;obtain⟨i,j⟩:=pairwise_cons.mp hm;have e:a=b:=by
   rcases mem_cons.mp ((h a).mp mem_cons_self)with e|h1
   ·exact e
   ·rcases mem_cons.mp ((h b).mpr mem_cons_self)with e|h2
    ·exact e.symm
    ·exact absurd (i a h1)<|g _ _ (l1 b h2)
  subst e;rw[eO d g l2 j λx=>⟨λc=>?_,λc=>?_⟩]
  ·rcases mem_cons.mp ((h x).mp (mem_cons_of_mem _ c))with e|h1
   ·subst e;exact absurd (l1 x c)<|d _
   ·exact h1
  ·rcases mem_cons.mp ((h x).mpr (mem_cons_of_mem _ c))with e|h1
   ·subst e;exact absurd (i x c)<|d _
   ·exact h1
section
variable{P:xx}{w:qq}{K:Frag}{mg:Str->Option zt}{base:qa}{f:zo}
def wI:Sp:=λvs H Q _=>∃d k zs,vs=[.ref d,.int k]/\jP H d zs/\At H zs/\((nds zs).map (·.num)).Nodup/\0<=k/\k<=99/\(k=0\/∃z∈zs,z.2.num=k/\z.2.st=none)/\Q .non H
theorem Cy:FnScope ["nodes","number"] ["nodes","number"] (aj As):=fsM
theorem AT{l:zo}{c:xl}(F:Fun K "check_folder" "check_folder" As f c)(T:Txt mg)(CN:vp P w K mg base 1 "node_of" ["nodes","number"]<|rQ l):FnOk P w K mg base CX0 2 f c ["nodes","number"] wI:=by
 obtain⟨I,J,m,G,D,n⟩:=CN;obtain⟨L,r⟩:=T.top;refine F.ok Cy (λvs H Q E h=>?_) λcdv A outer s H vs Q E B h=>?_
 ·obtain⟨d,k,zs,rfl,_⟩:=h;rfl
 ·obtain⟨d,k,zs,rfl,t,p,a,k0,k1,u,q⟩:=h;refine⟨_,am<|cZ (PW.pt<|pw_and (bw um (pv 1) (gE (v:=.int 0) rfl r ⟨_,rfl⟩)<|bz _) (pw_and1<|bw xt (bD bv (ax m B rfl G D n .nil vh<|aa (pv 0) (aa (pv 1) af)) ao λ_ _=>rfl) jm (bz _))) sv bj,?_⟩
  by_cases b:k=0
  ·subst b;exact⟨_,rfl,rfl,_,rfl,dM<|dM q⟩
  ·obtain⟨z,j,e,C⟩:=u.resolve_left b;refine⟨_,rfl,rfl,_,rfl,?_⟩;rw[show(!decide (V.int k=V.int 0))=true by simp[b]];refine eU ⟨_,rfl,_,rfl,d,k,zs,rfl,t,a,k0,k1,λy i o=>?_,λx=>absurd e<|x z j⟩;have:y=z:=tU (g:=λz:zo×Nd=>z.2.num) (by unfold nds at a;rw[map_map]at a;exact a) i j<|o.trans e.symm;subst this;refine⟨y.1,_,_,_,rfl,rfl,SqT.of<|p y i,at3 y.2,rfl,_,rfl,?_⟩;rw[C];exact dM q
end
end TK
namespace TW
theorem qB{S:Type}{ns:List (Nd S)}{n:Nd S}(b:Reach ns 0 n):Und ns 0 n.num:=by
 induction b with
 |base a e=>exact .up a (by rw[e];exact .here)
 |step _ _ a e c=>exact .up a (by rw[e];exact c)
theorem tV{S:Type}{ns:List (Nd S)}(T:Tree1 ns){k:Int}(b:k=0\/1<=k){n:Nd S}(a:n∈ns):Reach ns k n↔n.num≠k/\Und ns k n.num:=by
 rcases b with e|h
 ·subst e;have h1:=T.down n a;have h2:=T.pos n a;exact⟨λ_=>⟨by omega,qB h1⟩,λ_=>h1⟩
 ·exact tE T h a
end TW
namespace TK
open PySem L2
def nums(zs:ZN):List Int:=zs.map λz=>z.2.num
theorem qC(zs:ZN):zz zs=(nums zs).map V.int:=by unfold zz nums;rw[map_map];rfl
theorem wJ{l m:List Int}(d:l.Pairwise λa b:Int=>a<b)(e:m.Pairwise λa b:Int=>a<b)(c:∀x,x∈l↔x∈m):l=m:=eO (R:=λa b:Int=>a<b) (λa=>Int.lt_irrefl a) (λa b h1 h2=>by omega) d e c
def isB(zs:ZN)(k:Int)(z:zo×Nd):Bool:=@decide (TW.Reach (nds zs) k z.2)<|Classical.propDecidable _
theorem nu{zs:ZN}{k:Int}{z:zo×Nd}:isB zs k z=true↔TW.Reach (nds zs) k z.2:=@decide_eq_true_iff _<|Classical.propDecidable _
theorem wK{zs:ZN}(T:TW.Tree1<|nds zs)(g:zo×Nd->Bool):(nums<|zs.filter g).Pairwise λa b:Int=>a<b:=by
 have:=T.rise;unfold TW.oz nds at this;unfold nums;rw[pairwise_map]at this|-;exact this.sublist filter_sublist
def bel(zs:ZN)(k:Int):ZN:=zs.filter<|isB zs k
theorem yL{zs:ZN}{k:Int}{z:zo×Nd}(h:z∈bel zs k):z∈zs:=(mem_filter.mp h).1
theorem yM(zs:ZN)(k:Int):(bel zs k).length<=zs.length:=length_filter_le _ _
theorem yN{zs:ZN}(T:TW.Tree1<|nds zs){k:Int}{d:List Int}(j:d.Pairwise λa b:Int=>a<b)(g:∀x,x∈d↔∃n∈nds zs,n.num=x/\TW.Reach (nds zs) k n):d=nums (bel zs k) :=
 wJ j (wK T _) λx=>by
  rw[g];unfold nums bel;rw[mem_map];constructor
  ·rintro⟨n,h,e,i⟩;obtain⟨f,c,rfl⟩:=mK h;exact⟨f,mem_filter.mpr ⟨c,nu.mpr i⟩,e⟩
  ·rintro⟨f,c,e⟩;have:=mem_filter.mp c;exact⟨f.2,bc this.1,e,nu.mp this.2⟩
def Cz(zs:ZN)(k:Int):Prop:=k=0\/∃z∈zs,z.2.num=k/\z.2.st=none
abbrev CA(K:Frag):V->Option Int->Option Int->Hp->VK->Prop:=λx lo hi H Q=>uz K x lo hi H Q\/∃a xs,x=.ref a/\SqT K H a xs/\HT.sIx xs.length 0 lo=0/\HT.sIx xs.length xs.length hi=xs.length/\Q (.ref a) H
theorem cut_from{xs:List V}{k:Nat}(h:k<=xs.length):fQ xs (some (k:Int)) none=xs.drop k:=by
 unfold fQ;rw[HT.jh,HT.ju,Nat.min_eq_left h,<-length_drop,take_length]
theorem yO{K:Frag}{b:Hp}{t:zo}{a r:List Str}{Q:VK}(c:b t=some (.tup<|(a++r).map V.str))(q:∀t' H',Same b H'->H' t'=some (.tup<|r.map V.str)->Q (.ref t') H'):CA K (.ref t) (some (a.length:Int)) none b Q:=by
 have d:a.length<=((a++r).map V.str).length:=by rw[length_map,length_append];omega
 by_cases h:a=[]
 ·subst h;exact .inr ⟨t,_,rfl,SqT.of c,by rw[HT.jh];simp,by rw[HT.ju],q t b (Same.refl _) (by simpa using c)⟩
 ·refine .inl ⟨t,_,rfl,SqT.of c,λf=>?_,λt' e=>q t' _ (ag e) ?_⟩
  ·have:=f.1;rw[HT.jh,Nat.min_eq_left d]at this;exact h<|length_eq_zero_iff.mp this
  ·rw[ac,cut_from d,<-List.map_drop,List.drop_left]
theorem wL{zs:ZN}(T:TW.Tree1<|nds zs){k:Int}(b:k=0\/1<=k){a:List Str}(d:TW.PathTo (nds zs) k a){z:zo×Nd}(hz:z∈bel zs k){p:List Str}(c:TW.PathTo (nds zs) z.2.num p):∃r,p=a++r:=by
 have h:=mem_filter.mp hz;have e:=((TW.tV T b<|bc h.1).mp (nu.mp h.2)).2;obtain⟨q,r,h1,h2⟩:=TW.wc T e c;exact⟨r,by rw[h2,h1.uniq T d]⟩
structure ShAt(H:Hp)(zs:ZN)(k:Int)(pk:List Str)(cs:List Cv):Prop where
 at':∀c∈cs,yJ H c
 up:cs.Pairwise λa b=>HT.cG a.p b.p=true
 mem:∀p v,(∃c∈cs,c.p=p/\c.v=v)↔∃z∈bel zs k,v=stV z.2.st/\TW.PathTo (nds zs) z.2.num (pk++p)
theorem yP{zs:ZN}(T:TW.Tree1<|nds zs){k:Int}(a:Cz zs k):k=0\/1<=k:=by
 rcases a with a|⟨c,b,e,_⟩
 ·exact .inl a
 ·have:=T.pos c.2<|bc b;exact .inr (by omega)
theorem wM(n:Nd):dJ (stV n.st)=true/\eqV (stV n.st) (stV n.st)=true:=by
 cases n.st with
 |none=>exact⟨rfl,rfl⟩
 |some i=>exact⟨rfl,by simp[stV,eqV]⟩
section
variable{P:xx}{w:qq}{K:Frag}{mg:Str->Option zt}{base:qa}{f:zo}
def ke:Sp:=λvs H Q _=>∃t k zs d,vs=[.ref t,.int k]/\Tre H t zs/\0<=k/\k<=99/\Cz zs k/\TW.PathTo (nds zs) k d/\∀l b H',Same H H'->H l=none->b.length<=30->H' l=some (.lst<|b.map λc=>V.ref c.a)->ShAt H' zs k d b->Q (.ref l) H'
theorem wN:FnScope ["tree","number","nodes","start"] ["tree","number"] (aj hO):=fsM
theorem AU{c9:zo}{a6:xl}(F:Fun K "shape" "shape" hO f a6)(T:Txt mg)(c6:Has P w K mg base 1 "by_number" ["tree"] lP)(c7:Has P w K mg base 2 "check_folder" ["nodes","number"] wI)(d0:Has P w K mg base 1 "path_up" ["nodes","number"] rR)(c8:vp P w K mg base 2 "below" ["tree","number"]<|wb c9):FnOk P w K mg base CX0 3 f a6 ["tree","number"] ke:=by
 obtain⟨i5,i9,d1,h6,f9,bB⟩:=c6;obtain⟨i6,j0,d2,h7,h0,d6⟩:=c7;obtain⟨i8,j2,a2,b6,b5,a3⟩:=d0;obtain⟨i7,j1,d3,h8,h4,d7⟩:=c8;refine F.ok wN (λvs H Q E h=>?_) λcdv A outer s H vs Q E I h=>?_
 ·obtain⟨t,k,zs,B,rfl,_⟩:=h;rfl
 ·obtain⟨t,k,zs,B,rfl,m,k0,k1,D,b1,q⟩:=h;have Y:Room 1 _:=I.mono (by decide);refine⟨_,ai (aA (i:=2) wN.nd rfl (Or.inr rfl)<|ax d1 Y rfl h6 f9 bB .nil aJ (aa (pv 0) af))
   (ai (aQ<|ax d2 I rfl h7 h0 d6 .nil aJ (aa (pv 2)<|aa (pv 1) af))
   (ai (aA (i:=3) wN.nd rfl (Or.inr rfl)<|aF aY rfl T.len boot_len (aa (ax a2 Y rfl b6 b5 a3 .nil aJ<|aa (pv 2) (aa (pv 1) af)) af))
   (am<|aH (aF (jb<|qu I) rfl T.sorted boot_sorted<|aa (fY (N:=["inner","nodes","start"]) (cl:=[("start",s.heap.objs.size+2),("nodes",s.heap.objs.size+1)]) (k:=1) (js:=[2,3]) (g:=br 0) rfl
    (LcOk.mk' ["start","nodes"] rfl rfl (by decide +kernel) (by decide +kernel) ?hcl rfl (by decide +kernel)) rfl ?hj (cm<|ax d3 I rfl h8 h4 d7 .nil vh (aa (pv 0)<|aa (pv 1) af)) (λs H fp=>aB (i:=0) (show(["inner","nodes","start"]:List Str).Nodup by decide +kernel) rfl (Or.inl rfl)<|Or.inr rfl)
    (λs H fp=>bA (aa (eY (r:=CA K) (mh.or qc) (ax (X:=cg _ _ _ _ _ _ _) a2 Y rfl b6 b5 a3 .nil aJ<|aa (pv 1) (aa (pv 0) af)) (fz<|pv 2) ji)
     (aa (bD (r:=iY K) bv (cQ (bx I) (pv 1) (pv 0) λ_ _=>rfl) ao λ_ _=>rfl) af)))) af)))),?_⟩
  case hcl =>
   intro y J;rcases mem_cons.mp J with e | J
   ·rw[e];rfl
   ·rcases mem_cons.mp J with e | J
    ·rw[e];rfl
    ·cases J
  case hj =>
   intro i j7 x h1 h2
   match i,h1,h2 with
   |0,h1,h2 =>
    cases h1;cases h2;exact⟨rfl,Or.inr<|Or.inl rfl,(show((aj hO).names.lookup ("nodes":Str)≠some NameKind.local)by decide +kernel),by first|exact Or.inl rfl|exact Or.inr rfl⟩
   |1,h1,h2 =>
    cases h1;cases h2;exact⟨rfl,Or.inr<|Or.inl rfl,(show((aj hO).names.lookup ("start":Str)≠some NameKind.local)by decide +kernel),by first|exact Or.inl rfl|exact Or.inr rfl⟩
   |i+2,h1,h2=>simp at h1
  have j5:=m.len;have W:=cB m.tr;have e7:=yP m.tr D;refine⟨_,rfl,t,zs,rfl,m.tup,m.nod,by omega,W,λd H1 s1 Z=>?_⟩;refine⟨_,rfl,_,rfl,d,k,zs,rfl,Z,m.nod.same s1,W,k0,k1,D,?_⟩;have c3:=m.same s1;refine⟨_,rfl,_,rfl,d,k,zs,B,rfl,Z,c3.nod,m.tr,by omega,b1,λi1 H2 R f3=>?_⟩;refine⟨i1,_,rfl,.inr<|SqT.of f3,?_⟩;rw[length_map];have c4:=c3.same R;refine⟨_,rfl,_,rfl,t,k,zs,rfl,c4,k0,k1,λ_ j9 h5 i3 U f5 j6 e8 a8=>?_,λe2 e9=>?_⟩
  case refine_2 =>
   obtain⟨i2,f8,e,_⟩:=D.resolve_left e2;exact absurd e<|e9 i2 f8
  have e0:=yN m.tr f5 e8;subst e0;have j4:=yM zs k;have c0:=(Z.same R).same U;have c5:=c4.same U;refine⟨h5,rfl,⟨_,SqL.of a8⟩,λp f0=>?_⟩;refine fJ (fr:=[some<|.ref d,some<|.int (B.length:Int)]) (bel zs k) (λj=>V.int j.2.num) (by omega) f0 (eD (by rw[show((bel zs k).map λj=>V.int j.2.num)=(nums<|bel zs k).map V.int from qC _];exact SqL.of a8)) rfl (λj y H'=>∃c:Cv,y=.ref c.a/\c.a≠p/\c.t≠p/\yJ H' c/\c.v=stV j.2.st/\TW.PathTo (nds zs) j.2.num (B++c.p)) (λj y H H' h ex=>?_) (λj H' j8 b7 C f1 D=>?_) λys d4 C b0 f7=>?_
  ·obtain⟨c,e,b8,b9,⟨h1,h2⟩,h3,e3⟩:=h;exact⟨c,e,b8,b9,⟨ex _ _ b8 h1,ex _ _ b9 h2⟩,h3,e3⟩
  ·have L:=yL b7;obtain⟨k3,G⟩:=TW.PathTo.ex m.tr<|bc L;obtain⟨r,e1⟩:=wL m.tr e7 b1 b7 G;subst e1;refine⟨_,rfl,_,rfl,d,j.2.num,zs,B++r,rfl,c0.same C,(c5.same C).nod,m.tr,by omega,G,λk4 i4 z f4=>?_⟩;refine⟨_,rfl,_,rfl,yO f4 λa1 d5 a0 b4=>?_⟩;have c1:=(C.trans z).trans a0;refine⟨_,rfl,_,rfl,d,_,rfl,(c0.same c1).get W L,j.1,_,_,_,rfl,rfl,SqT.of<|(c5.same c1).nod j L,at3 j.2,le2,λi0 b3=>?_⟩;have c2:=ag (o:=.tup [.ref a1,stV j.2.st]) b3;have b2:∃ys,d5 p=some (.lst ys):=let⟨ys,e⟩:=f1;⟨ys,a0 _ _<|z _ _ e⟩;have h9:a1≠p:=λe=>by obtain⟨ys,a5⟩:=b2;rw[<-e,b4]at a5;cases a5
   exact D _ _ ((z.trans a0).trans c2) ⟨⟨i0,a1,r,stV j.2.st⟩,rfl,gw b2 b3,h9,⟨ac,c2 _ _ b4⟩,rfl,G⟩
  ·obtain⟨bs,M,d8,n⟩:=dP (val:=λc:Cv=>V.ref c.a) (S:=λ(j:zo×Nd) (c:Cv)=>yJ d4 c/\c.v=stV j.2.st/\TW.PathTo (nds zs) j.2.num (B++c.p)) f7 λj y _ ⟨c,e,_,_,h1,h2,h3⟩=>⟨c,e,h1,h2,h3⟩;have e6:∀b∈bs,b.1∈bel zs k:=λb l=>by rw[<-M];exact mem_map.mpr ⟨b,l,rfl⟩
   have a7:(bs.map λb=>b.1.2.num).Pairwise λa b:Int=>a<b:=by
    have:=wK m.tr<|isB zs k;rw[show zs.filter (isB zs k)=bs.map (·.1)from M.symm]at this;unfold nums at this;rw[map_map]at this;exact this
   have f2:((bs.map (·.2)).map (·.p)).Nodup:=by
    rw[map_map];unfold Nodup;rw[pairwise_map]at a7|-;refine a7.imp_of_mem λ{a b} e4 l j3 e=>?_;have h1:=(n a e4).2.2;have h2:=(n b l).2.2;rw[show a.2.p=b.2.p from e]at h1;have:=h1.key m.tr h2;omega
   have e5:(bs.map (·.2)).length<=30:=by rw[length_map];have:=congrArg length M;rw[length_map]at this;omega
   have d9:ys=(bs.map (·.2)).map λc=>V.ref c.a:=by rw[d8,map_map];rfl
   rw[d9]at b0;refine⟨p,bs.map (·.2),rfl,b0,λc u=>by obtain⟨b,l,rfl⟩:=mem_map.mp u;exact(n b l).1,λc u=>by obtain⟨b,l,rfl⟩:=mem_map.mp u;rw[(n b l).2.1];exact wM _,f2,by omega,λa4 O f6 p2 a9=>?_⟩;have z:=ag (o:=.lst<|a4.map λc=>V.ref c.a) a9;refine q p2 a4 _ ((((s1.trans R).trans U).trans C).trans z) ((((s1.trans R).trans U).trans C).free a9) (by rw[O.length_eq];exact e5) ac ⟨λc u=>?_,f6,λk2 v=>?_⟩
   ·obtain⟨b,l,rfl⟩:=mem_map.mp<|O.mem_iff.mp u;exact⟨z _ _ (n b l).1.1,z _ _ (n b l).1.2⟩
   ·constructor
    ·rintro⟨c,u,rfl,rfl⟩;obtain⟨b,l,rfl⟩:=mem_map.mp<|O.mem_iff.mp u;exact⟨b.1,e6 b l,(n b l).2.1,(n b l).2.2⟩
    ·rintro⟨j,L,rfl,G⟩;have:j∈bs.map (·.1):=by rw[M];exact L
     obtain⟨b,l,rfl⟩:=mem_map.mp this;refine⟨b.2,O.mem_iff.mpr<|mem_map.mpr ⟨b,l,rfl⟩,?_,(n b l).2.1⟩;have:=(n b l).2.2.uniq m.tr G;exact List.append_cancel_left this
def qD:Sp:=λvs H Q _=>∃t zs,vs=[.ref t]/\Tre H t zs/\∀d a H',Same H H'->H d=none->Book H' d a zs->H' d=some (.dK<|gc a)->Q (.ref d) H'
theorem AV:FnScope ["tree"] ["tree"] (aj cp):=fsM
theorem yQ{f:zo}{O:xl}(F:Fun K "parts_by_number" "parts_by_number" cp f O)(T:Txt mg):FnOk P w K mg base CX0 1 f O ["tree"] qD:=by
 refine F.ok AV (λvs H Q E h=>?_) λcdv A outer s H vs Q E e5 h=>?_
 ·obtain⟨t,zs,rfl,_⟩:=h;rfl
 ·obtain⟨t,zs,rfl,G,k⟩:=h;have U:=cB G.tr;have B:=G.len;have D:=G.tup;have c0:=G.nod;refine⟨_,am<|aH (aS (iS rfl) rfl T.dict boot_dict<|aa (fY (N:=["node"]) (k:=1) (js:=[]) (g:=br 0) rfl (fc rfl (by decide +kernel) (by decide +kernel) (by decide +kernel)) rfl (λi e6 x h=>by simp at h)
   (gh<|pv 0) (λs H fp=>aB (i:=0) (show(["node"]:List Str).Nodup by decide +kernel) rfl (Or.inl rfl)<|Or.inr rfl)
   (λs H fp=>bA<|aa (bD (r:=iY K) bv (pv 0) ao λ_ _=>rfl) (aa (eY (r:=uz K) mh (pv 0) (fz ao) ji) af))) af),?_⟩
  refine⟨_,rfl,t,rfl,⟨_,SqT.of D⟩,λp c4=>?_⟩;refine qg (fr:=[]) zs.length (by omega) c4 rfl (λi y H'=>∃q j z,zs[i]?=some z/\y=.ref q/\q≠p/\j≠p/\H' q=some (.tup [.int z.2.num,.ref j])/\H' j=some (.tup<|ba z.2)) (λi y H1 H2 h ex=>?_) (λi H' hi s1=>?_) (λH' s1=>?_) ?_ (λi H' x H2 hi s1 X J=>?_) λys H' s1 W c3 c7=>?_
  ·obtain⟨q,j,z,n,C,u,L,b3,b4⟩:=h;exact⟨q,j,z,n,C,u,L,ex q _ u b3,ex j _ L b4⟩
  ·exact⟨_,_,SqT.of<|s1 _ _ D,jM<|getElem?_eq_getElem hi⟩
  ·exact⟨_,SqT.of<|s1 _ _ D,by rw[cb];exact le_refl _⟩
  ·rintro _ _ _ _ m ⟨d8,a3,d6,xs,d0,d9,a5,a6,a7,a8,e0,a4,d1,a9,a2,e1,b0,b1,b2,q⟩;refine⟨d8,a3,d6,xs,d0,d9,a5,a6,a7,a8,e0,a4,d1,a9,a2,e1,b0,b1,b2,λl B=>?_⟩;obtain⟨c9,d7⟩:=q l B;exact⟨c9,λd3 c2=>m _ _<|d7 d3 c2⟩
  ·obtain⟨rfl,c6⟩:=J;obtain⟨z,R,rfl⟩:=di<|c6 _ (SqT.of<|s1 _ _ D);have d5:=mem_of_getElem? R;have Z:=s1 _ _<|c0 z d5;have b5:fQ (vals z.2) (some 1) none=ba z.2:=rfl;refine⟨rfl,_,rfl,z.1,_,_,_,rfl,rfl,SqT.of Z,at0 z.2,_,rfl,_,rfl,z.1,_,rfl,SqT.of Z,(by intro h;exact absurd h.1 (show ¬HT.sIx 4 0 (some 1)=0 by decide)),λj Y=>?_⟩;rw[b5];have a0:=ag (o:=.tup<|ba z.2) Y;have c5:∃ys,upd H2 j (.tup<|ba z.2) p=some (.lst ys):=let⟨ys,e⟩:=X;⟨ys,a0 _ _ e⟩;refine⟨le2,λq I=>⟨a0.trans<|ag I,q,j,z,R,rfl,gw c5 I,gw X Y,ac,ca I ac⟩⟩
  ·obtain⟨c,n,C,u⟩:∃c:List<|(zo×zo)×(zo×Nd),c.map (·.2)=zs/\ys=(c.map (·.1.1)).map V.ref/\∀a∈c,H' a.1.1=some (.tup [.int a.2.2.num,.ref a.1.2])/\H' a.1.2=some (.tup<|ba a.2.2):=by
    clear W;have d4:∀(ys:List V)(xs:ZN),ys.length=xs.length->(∀(i:Nat) y,ys[i]?=some y->∃q j z,xs[i]?=some z/\y=.ref q/\q≠p/\j≠p/\H' q=some (.tup [.int z.2.num,.ref j])/\H' j=some (.tup<|ba z.2)) ->
      ∃c:List<|(zo×zo)×(zo×Nd),c.map (·.2)=xs/\ys=(c.map (·.1.1)).map V.ref/\∀a∈c,H' a.1.1=some (.tup [.int a.2.2.num,.ref a.1.2])/\H' a.1.2=some (.tup<|ba a.2.2):=by
     intro ys
     induction ys with
     |nil =>
      intro xs B _;have:xs=[]:=length_eq_zero_iff.mp B.symm;subst this;exact⟨[],rfl,rfl,by simp⟩
     |cons y ys d2 =>
      intro xs B h;cases xs with
      |nil=>simp at B
      |cons x xs =>
       obtain⟨c,n,C,u⟩:=d2 xs (by simpa using B) λi y J=>by simpa using h (i+1) y (by simpa using J)
       obtain⟨q,j,z,b6,b7,e2,e3,b8,b9⟩:=h 0 y rfl;have:x=z:=by simpa using b6
       subst this;refine⟨((q,j),x)::c,by simp[n],by simp[C,b7],λa v=>?_⟩;rcases mem_cons.mp v with rfl|v
       ·exact⟨b8,b9⟩
       ·exact u a v
    exact d4 ys zs c3 c7
   have e4:c.length=zs.length:=by rw[<-n,length_map]
   refine⟨p,c.map λa=>(a.1.1,(Sum.inl a.2.2.num:Key),V.ref a.1.2),rfl,?_,?_,?_,?_,λd S=>?_⟩
   ·rw[W,C,map_map,map_map,map_map];rfl
   ·intro z c8;obtain⟨a,v,rfl⟩:=mem_map.mp c8;exact(u a v).1
   ·rw[length_map];omega
   ·rw[map_map];have:(c.map<|(λx:zo×Key×V=>x.2.1)∘λa=>(a.1.1,(Sum.inl a.2.2.num:Key),V.ref a.1.2))=((nds zs).map (·.num)).map (Sum.inl:Int->Key):=by
     rw[<-n];unfold nds;simp only[map_map];rfl
    rw[this];unfold Nodup at U|-;rw[pairwise_map];exact U.imp λh e=>h (by injection e)
   ·have a1:=ag (o:=.dK<|(c.map λa=>(a.1.1,(Sum.inl a.2.2.num:Key),V.ref a.1.2)).map (·.2)) S;have M:upd H' d (.dK<|(c.map λa=>(a.1.1,(Sum.inl a.2.2.num:Key),V.ref a.1.2)).map (·.2)) d=some (.dK<|gc (c.map λa=>(a.1.2,a.2))):=by
     rw[ac];refine congrArg (λx=>some<|HO.dK x) ?_;unfold gc;simp only[map_map];rfl
    refine k d (c.map λa=>(a.1.2,a.2)) _ (s1.trans a1) (s1.free S) ⟨.inl M,by rw[map_map];exact n,λa v=>?_⟩ M;obtain⟨b,c1,rfl⟩:=mem_map.mp v;exact a1 _ _ (u b c1).2
def unl(e:zo×Row):Bool:=!decide (e.2.o=e.2.n)
def se:Sp:=λvs H Q _=>∃l es,vs=[.ref l]/\H l=some (.lst<|vM es)/\(∀e∈es,RowAt H e.1 e.2)/\es.length<=60/\∀c H',Same H H'->ChgAt H' c (es.filter unl)->Q (.ref c) H'
theorem CD:FnScope ["entries"] ["entries"] (aj cw):=fsM
theorem AW{f:zo}{j:xl}(F:Fun K "unlike_entries" "unlike_entries" cw f j)(T:Txt mg):FnOk P w K mg base CX0 1 f j ["entries"] se:=by
 refine F.ok CD (λvs H Q E h=>?_) λcdv A outer s H vs Q E I h=>?_
 ·obtain⟨l,es,rfl,_⟩:=h;rfl
 ·obtain⟨l,es,rfl,t,m,C,k⟩:=h;refine⟨_,am<|aH (aS dC rfl T.tuple rfl<|aa (pV (N:=["entry"]) (cl:=[]) (k:=1) (js:=[]) (g:=br 0) rfl (fc rfl (by decide +kernel) (by decide +kernel) (by decide +kernel)) rfl (λi O x h=>by simp at h)
   (cm<|pv 0) (λs H fp=>aB (i:=0) (show(["entry"]:List Str).Nodup by decide +kernel) rfl (Or.inl rfl)<|Or.inr rfl)
   (λs H fp=>bw (Ax<|bx I) (bD (r:=iY K) bv (pv 0) ao λ_ _=>rfl) (bD (r:=iY K) bv (pv 0) ao λ_ _=>rfl)<|bz _) (λs H fp=>pv 0)) af),?_⟩
  refine⟨_,rfl,l,rfl,⟨_,SqL.of t⟩,λp D=>?_⟩;refine qi (fr:=[]) es (λe=>V.ref e.1) (by omega) D (eD<|SqL.of t) rfl unl (λe y _=>y=.ref e.1) (λe y H H' h _=>h) (λe H' L a s1 _ d=>?_) (λe H' L a _ s1 _ d=>⟨_,rfl,d _ H' (Same.refl _) rfl⟩) λys H' s1 G J=>?_
  ·obtain⟨⟨S,R,h1,h2,h3⟩,M⟩:=(m e a).same s1;refine⟨_,rfl,e.1,_,_,_,rfl,rfl,SqT.of h1,rfl,_,rfl,e.1,_,_,_,rfl,rfl,SqT.of h1,rfl,_,_,h2.ot,h3.ot,_,rfl,?_⟩;have v:(!decide (e.2.o.map ba=e.2.n.map ba))=unl e:=by
    unfold unl;have:=M.eq
    by_cases b:e.2.o=e.2.n
    ·rw[decide_eq_true<|this.mpr b,decide_eq_true b]
    ·rw[decide_eq_false λq=>b<|this.mp q,decide_eq_false b]
   rw[v];exact d H'<|Same.refl _
  ·have z:=dh (f:=λe:zo×Row=>V.ref e.1) J λe y _ h=>h;refine⟨p,_,rfl,.inl ⟨SqL.of G,λc B=>?_⟩⟩;have u:=s1.trans<|ag (o:=.tup ys) B;exact k c _ u ⟨by rw[ac,z];rfl,λe a=>(m e (mem_filter.mp a).1).same u,le_trans (length_filter_le _ _) C⟩
end
def cbS(i:Nat):Stmt:=(aZ aI).getD i (.Pass ⟨0,0,0,0⟩)
def CN:List Str:=["one","other","before","after","numbers"]
theorem yR:FnScope CN ["one","other"] (aj aI):=fsM
abbrev CbX(P:xx)(w:qq)(K:Frag)(mg:Str->Option zt)(base:qa)(f:zo)(cdv:zt)(A:xg)(outer:List Env)(s:zi)(H:Hp)(E:XK):Cx:=(fO CX0 P w K mg base CN "change_between" (aj aI) f cdv A outer s H E).nox
section
variable{P:xx}{w:qq}{K:Frag}{mg:Str->Option zt}{base:qa}{f:zo}{cdv:zt}{A:xg}{outer:List Env}{s:zi}{H0:Hp}{E:XK}
theorem cb2(T:Txt mg):∃t,PS (CbX P w K mg base f cdv A outer s H0 E) (cbS 2) t/\∀(n:Ends)(H:Hp)(r u L:Option V)(d g:zo)(v bs:List<|zo×(zo×Nd))(zs us:ZN),Book H d v zs->Book H g bs us->zs.length<=30->us.length<=30 ->
   (∀(l:zo)(ns:List Int)(H':Hp),Same H H'->H' l=some (.lst<|ns.map V.int)->ns.Pairwise (· < ·)->ns.length<=60->(∀k,k∈ns↔k∈(nds zs).map (·.num)\/k∈(nds us).map (·.num))->n.nx [r,u,some<|.ref d,some<|.ref g,some<|.ref l] H')->t n [r,u,some<|.ref d,some<|.ref g,L] H:=by
 refine⟨_,aA (i:=4) yR.nd rfl (Or.inl rfl)<|aF (fm rfl) rfl T.sorted boot_sorted (aa (aR vK (aS dA rfl T.set rfl<|aa (pv 2) af)<|aS dA rfl T.set rfl (aa (pv 3) af)) af),?_⟩;intro n H r u L d g v bs zs us y z Z a0 q;refine⟨_,rfl,d,_,(nds zs).map (·.num),rfl,y.dict,jS y.of,by rw[length_map,bh];omega,λb N C a S=>?_⟩;have s1:=ag (o:=bK (CbX P w K mg base f cdv A outer s H0 E).w a b) S;have g1:upd H a (bK (CbX P w K mg base f cdv A outer s H0 E).w a b) a=some (bK (CbX P w K mg base f cdv A outer s H0 E).w a b):=ac;generalize upd H a (bK (CbX P w K mg base f cdv A outer s H0 E).w a b)=H1 at s1 g1|-;refine⟨_,rfl,g,_,(nds us).map (·.num),rfl,(z.same s1).dict,jS z.of,by rw[length_map,bh];omega,λc O D p2 j=>?_⟩;have J:=s1.trans<|ag (o:=bK (CbX P w K mg base f cdv A outer s H0 E).w p2 c) j;have g2:upd H1 p2 (bK (CbX P w K mg base f cdv A outer s H0 E).w p2 c) p2=some (bK (CbX P w K mg base f cdv A outer s H0 E).w p2 c):=ac;have B:upd H1 p2 (bK (CbX P w K mg base f cdv A outer s H0 E).w p2 c) a=some (bK (CbX P w K mg base f cdv A outer s H0 E).w a b):=ca j g1;have R:a≠p2:=λe=>by rw[<-e,g1]at j;cases j
 generalize upd H1 p2 (bK (CbX P w K mg base f cdv A outer s H0 E).w p2 c)=H2 at J g2 B|-;have k1:b.length<=30:=by
  have:=ce N λx h=>(C x).mp h;rw[length_map,bh]at this;omega
 have k2:c.length<=30:=by
  have:=ce O λx h=>(D x).mp h;rw[length_map,bh]at this;omega
 refine⟨a,p2,b,c,rfl,rfl,R,B,g2,by omega,λp Q F I U=>?_⟩;have k3:p.length<=60:=by
  have:=ce (m:=b++c) Q λx h=>mem_append.mpr<|(F x).mp h;rw[length_append]at this;omega
 have X:=J.trans<|ag (o:=bK (CbX P w K mg base f cdv A outer s H0 E).w I p) U;refine⟨I,p,rfl,ac,k3,λns G W l M=>?_⟩;have Y:=X.trans<|ag (o:=.lst<|ns.map V.int) M;refine q l ns _ Y ac W (by rw[G.length_eq];exact k3) λk=>?_;rw[G.mem_iff,F k,C k,D k]
theorem cb3(F:Room 1<|A.deeper (PyProof.Rows.envOfC "change_between" (aj aI) s.heap.objs.size f cdv))(a3:Has P w K mg base 1 "unlike_entries" ["entries"] se):
  ∃t,PS (CbX P w K mg base f cdv A outer s H0 E) (cbS 3) t/\∀(C:Ends)(H:Hp)(a1 a2:Option V)(d m l:zo)(G bs:List<|zo×(zo×Nd))(zs us:ZN)(ns:List Int),Book H d G zs->Book H m bs us->TW.Tree1 (nds zs)->TW.Tree1 (nds us)->H l=some (.lst<|ns.map V.int)->ns.Pairwise (· < ·)->ns.length<=60->(∀k,k∈ns↔k∈(nds zs).map (·.num)\/k∈(nds us).map (·.num)) ->
   (∀c es H',Same H H'->ChgAt H' c es->TW.Chg (nds zs) (nds us) (iF es)->C.rt (.ref c) H')->t C [a1,a2,some<|.ref d,some<|.ref m,some<|.ref l] H:=by
 obtain⟨c3,c4,a4,c1,c0,a7⟩:=a3;refine⟨_,aH<|ax a4 F rfl c1 c0 a7 .nil aJ (aa (fY (N:=["number","after","before"]) (cl:=[("before",s.heap.objs.size+1),("after",s.heap.objs.size+2)]) (k:=1) (js:=[3,2]) (g:=br 0) rfl
   (LcOk.mk' ["before","after"] rfl rfl (by decide +kernel) (by decide +kernel) ?hcl rfl (by decide +kernel)) rfl ?hj (cm<|pv 4) (λs H fp=>aB (i:=0) (show(["number","after","before"]:List Str).Nodup by decide +kernel) rfl (Or.inl rfl)<|Or.inr rfl)
   (λs H fp=>bA<|aa (pv 0) (aa (gK (bx F) (pv 2) (pv 0) ⟨rfl,rfl,rfl,rfl⟩)<|aa (gK (bx F) (pv 1) (pv 0) ⟨rfl,rfl,rfl,rfl⟩) af))) af),?_⟩
 case hcl =>
  intro y a;rcases mem_cons.mp a with e|a
  ·rw[e];rfl
  ·rcases mem_cons.mp a with e|a
   ·rw[e];rfl
   ·cases a
 case hj =>
  intro i c6 x h1 h2
  match i,h1,h2 with
  |0,h1,h2 =>
   cases h1;cases h2;exact⟨rfl,Or.inr<|Or.inl rfl,(show((aj aI).names.lookup ("after":Str)≠some NameKind.local)by decide +kernel),by first|exact Or.inl rfl|exact Or.inr rfl⟩
  |1,h1,h2 =>
   cases h1;cases h2;exact⟨rfl,Or.inr<|Or.inl rfl,(show((aj aI).names.lookup ("before":Str)≠some NameKind.local)by decide +kernel),by first|exact Or.inl rfl|exact Or.inr rfl⟩
  |i+2,h1,h2=>simp at h1
 intro C H a1 a2 d m l G bs zs us ns I J a5 a6 M b6 c5 b1 q;refine⟨_,rfl,l,rfl,⟨_,SqL.of M⟩,λp b2=>?_⟩;refine fJ (fr:=[some<|.ref m,some<|.ref d]) ns V.int (by omega) b2 (eD<|SqL.of M) rfl (λk y H'=>∃c j b,y=.ref c/\c≠p/\H' c=some (.tup [.int k,j,b])/\iE H' j (TW.ay (nds zs) k)/\iE H' b (TW.ay (nds us) k)/\j≠.ref p/\b≠.ref p) (λk y H H' h ex=>?_) (λk H' c7 mk s1 R D=>?_) λys H' s1 b3 b9=>?_
 ·obtain⟨c,j,b,e,W,h1,h2,h3,T,U⟩:=h;have Y:∀{v:V}{o:Option Nd},v≠.ref p->iE H v o->iE H' v o:=λb7 h=>by
   rcases h with h|⟨q,n,e,h,r⟩
   ·exact .inl h
   ·exact .inr ⟨q,n,e,ex q _ (λc2=>b7 (by rw[e,c2])) h,r⟩
  exact⟨c,j,b,e,W,ex c _ W h1,Y T h2,Y U h3,T,U⟩
 ·obtain⟨Z,b4,O⟩:=(I.same s1).optV a5 k;obtain⟨a0,b5,Q⟩:=(J.same s1).optV a6 k;have X:∀{v:V}{o:Option Nd},iE H' v o->v≠.ref p:=λh e=>by
   rcases h with⟨h,_⟩|⟨q,n,r,h,_⟩
   ·rw[h]at e;cases e
   ·rw[r]at e;injection e with e
    obtain⟨ys,a⟩:=R;rw[e,a]at h;cases h
  refine⟨_,rfl,_,rfl,d,rfl,.inl ⟨_,(I.same s1).dict⟩,_,rfl,Z,b4,_,rfl,m,rfl,.inl ⟨_,(J.same s1).dict⟩,_,rfl,a0,b5,(show 3<=sizeLine from aW (by decide)),λc B=>?_⟩;have u:=ag (o:=.tup [.int k,Z.getD .non,a0.getD .non]) B;exact D _ _ u ⟨c,_,_,rfl,gw R B,ac,O.same u,Q.same u,X O,X Q⟩
 ·obtain⟨z,L,r,a8⟩:=dP (val:=V.ref) (S:=λ(k:Int) (c:zo)=>RowAt H' c<|TW.ib (nds zs) (nds us) k) b9 λk y _ ⟨c,j,b,e,_,h1,h2,h3,_⟩=>⟨c,e,⟨j,b,h1,h2,h3⟩,vN k⟩;have hcl:z.length=ns.length:=by rw[<-L,length_map]
  have a9:iF (z.map λx=>(x.2,TW.ib (nds zs) (nds us) x.1))=ns.map (TW.ib (nds zs)<|nds us):=by
   unfold iF;rw[map_map,<-L,map_map];rfl
  refine⟨p,z.map λx=>(x.2,TW.ib (nds zs) (nds us) x.1),rfl,by rw[b3,r];unfold vM;rw[map_map];rfl,λe b0=>?_,by rw[length_map];omega,λc H2 u B=>?_⟩
  ·obtain⟨x,b8,rfl⟩:=mem_map.mp b0;exact a8 x b8
  ·refine q c _ H2 (s1.trans u) B ?_;have:iF ((z.map λx=>(x.2,TW.ib (nds zs) (nds us) x.1)).filter unl)=_:=oO a9;rw[this];refine TW.Ay b6 λk D=>.inl<|(b1 k).mpr ?_;rcases D with h|h
   ·exact .inl<|lM h
   ·exact .inr<|lM h
def wO:Sp:=λvs H Q _=>∃t u zs us,vs=[.ref t,.ref u]/\Tre H t zs/\Tre H u us/\∀c es H',Same H H'->ChgAt H' c es->TW.Chg (nds zs) (nds us) (iF es)->Q (.ref c) H'
theorem AX{f:zo}{v:xl}(F:Fun K "change_between" "change_between" aI f v)(T:Txt mg)(z:Has P w K mg base 1 "parts_by_number" ["tree"] qD)(B:Has P w K mg base 1 "unlike_entries" ["entries"] se):FnOk P w K mg base CX0 2 f v ["one","other"] wO:=by
 obtain⟨U,V,k,y,x,n⟩:=z;refine F.ok yR (λvs H Q E h=>?_) λcdv A outer s H vs Q E N h=>?_
 ·obtain⟨t,u,zs,us,rfl,_⟩:=h;rfl
 ·obtain⟨t,u,zs,us,rfl,g,j,q⟩:=h;have a:Room 1 _:=N.mono (by decide);obtain⟨W,p2,h2⟩:=cb2 (P:=P) (w:=w) (K:=K) (base:=base) (f:=f) (cdv:=cdv) (A:=A) (outer:=outer) (s:=s) (H0:=H) (E:=E) T;obtain⟨X,R,h3⟩:=cb3 (P:=P) (w:=w) (base:=base) (f:=f) (cdv:=cdv) (A:=A) (outer:=outer) (s:=s) (H0:=H) (E:=E) a B;refine⟨_,ai (aA (i:=2) yR.nd rfl (Or.inr rfl)<|ax k a rfl y x n .nil aJ (aa (pv 0) af))
   (ai (aA (i:=3) yR.nd rfl (Or.inr rfl)<|ax k a rfl y x n .nil aJ (aa (pv 1) af))<|ai p2 (am R)),?_⟩
  refine⟨_,rfl,t,zs,rfl,g,λd m H1 s1 _ o _=>?_⟩;refine⟨_,rfl,u,us,rfl,j.same s1,λr bs H2 b _ p _=>?_⟩;refine h2 _ H2 _ _ _ d r m bs zs us (o.same b) p g.len j.len λl ns C e J O M L=>?_;exact h3 _ C _ _ d r l m bs zs us ns ((o.same b).same e) (p.same e) g.tr j.tr J O M L λc es D S G I=>q c es D (((s1.trans b).trans e).trans S) G I
end
def je(a:ZR):List (Key×V):=a.map λe=>((Sum.inl e.2.k:Key),V.ref e.1)
section
variable{P:xx}{w:qq}{K:Frag}{mg:Str->Option zt}{base:qa}
def qF:Sp:=λvs H Q _=>∃c es,vs=[.ref c]/\ChgAt H c es/\(es.map (·.2.k)).Nodup/\∀d H',Same H H'->H d=none->H' d=some (.dK<|je es)->Q (.ref d) H'
theorem AY:FnScope ["tree"] ["tree"] (aj vx):=fsM
theorem yS{f:zo}{l:xl}(F:Fun K "by_number" "by_number" vx f l)(T:Txt mg):FnOk P w K mg base CX0 1 f l ["tree"] qF:=by
 refine F.ok AY (λvs H Q E h=>?_) λcdv A outer s H vs Q E W h=>?_
 ·obtain⟨c,es,rfl,_⟩:=h;rfl
 ·obtain⟨c,es,rfl,j,n,q⟩:=h;have U:=j.len;refine⟨_,am<|aH (aS (iS rfl) rfl T.dict boot_dict<|aa (fY (N:=["node"]) (k:=1) (js:=[]) (g:=br 0) rfl (fc rfl (by decide +kernel) (by decide +kernel) (by decide +kernel)) rfl (λi X x h=>by simp at h)
   (gh<|pv 0) (λs H fp=>aB (i:=0) (show(["node"]:List Str).Nodup by decide +kernel) rfl (Or.inl rfl)<|Or.inr rfl)
   (λs H fp=>bA<|aa (bD (r:=iY K) bv (pv 0) ao λ_ _=>rfl) (aa (pv 0) af))) af),?_⟩
  refine⟨_,rfl,c,rfl,⟨_,SqT.of j.tup⟩,λp D=>?_⟩;refine fJ (fr:=[]) es (λe=>V.ref e.1) (by omega) D (rC<|SqT.of j.tup) rfl (λe y H'=>∃q,y=.ref q/\q≠p/\H' q=some (.tup [.int e.2.k,.ref e.1])) (λe y H H' ⟨q,a,t,h⟩ ex=>⟨q,a,t,ex q _ t h⟩) (λe H' Y O s1 I C=>?_) λys H' s1 G L=>?_
  ·obtain⟨⟨a0,Z,h1,_,_⟩,_⟩:=(j.at' e O).same s1;refine⟨_,rfl,e.1,_,_,_,rfl,rfl,SqT.of h1,rfl,_,rfl,le2,λq o=>?_⟩;exact C _ _ (ag o) ⟨q,rfl,gw I o,ac⟩
  ·obtain⟨b,a,u,v⟩:=dP (val:=V.ref) (S:=λ(e:zo×Row) (q:zo)=>H' q=some (.tup [.int e.2.k,.ref e.1])) L λe y _ ⟨q,e,_,h⟩=>⟨q,e,h⟩;have R:b.length=es.length:=by rw[<-a,length_map]
   have B:(b.map λx=>(x.2,(Sum.inl x.1.2.k:Key),V.ref x.1.1)).map (·.2)=je es:=by
    unfold je;rw[map_map,<-a,map_map];rfl
   refine⟨p,b.map λx=>(x.2,(Sum.inl x.1.2.k:Key),V.ref x.1.1),rfl,?_,λa1 M=>?_,by rw[length_map];omega,?_,λd m=>?_⟩
   ·rw[G,u,map_map,map_map];rfl
   ·obtain⟨x,J,rfl⟩:=mem_map.mp M;exact v x J
   ·have z:(b.map λx=>(x.2,(Sum.inl x.1.2.k:Key),V.ref x.1.1)).map (·.2.1)=(es.map (·.2.k)).map (Sum.inl:Int->Key):=by
     rw[<-a];simp only[map_map];rfl
    rw[z];unfold Nodup at n|-;rw[pairwise_map];exact n.imp λh e=>h (by injection e)
   ·rw[B];exact q d _ (s1.trans<|ag m) (s1.free m) ac
end
theorem pr{f:Hp}{d:zo}{a:ZR}(l:f d=some (.dK<|je a))(o:(a.map (·.2.k)).Nodup)(k:Int):(∃e∈a,e.2.k=k/\cM f d (.int k) (some<|.ref e.1))\/((∀e∈a,e.2.k≠k)/\cM f d (.int k) none):=by
 have n:((a.map λe=>(e.1,(⟨e.2.k,0,"",none⟩:Nd))).map (·.2.num)).Nodup:=by rw[map_map];exact o
 have m:je a=rH (a.map λe=>(e.1,(⟨e.2.k,0,"",none⟩:Nd))):=by unfold je rH;rw[map_map];rfl
 by_cases h:∃e∈a,e.2.k=k
 ·obtain⟨e,c,rfl⟩:=h;refine .inl ⟨e,c,rfl,.inl ⟨je a,Sum.inl e.2.k,.inl l,rfl,?_⟩⟩;rw[m];exact(tH n (b:=(e.1,⟨e.2.k,0,"",none⟩))<|mem_map.mpr ⟨e,c,rfl⟩).symm
 ·have h':∀e∈a,e.2.k≠k:=λe c i=>h ⟨e,c,i⟩;refine .inr ⟨h',.inl ⟨je a,Sum.inl k,.inl l,rfl,?_⟩⟩
  symm
  refine rG λg=>?_;unfold je at g;rw[map_map]at g;obtain⟨e,c,i⟩:=mem_map.mp g;have j:(Sum.inl e.2.k:Key)=Sum.inl k:=i;injection j with j
  exact h' e c j
end TK
namespace TB
open PySem PyProof.Rows
theorem lh:entryFor table "set.__and__"=some Builtin.«frozenset.__and__» :=
 entryFor_alias (id':="frozenset.__and__") (by kernel_rfl) rfl (by decide +kernel) (by kernel_rfl)
section
variable{prog:xx}{w:qq}{A:xg}{E:zt->zi->Prop}{s:zi}
theorem wP{a:zo}{ns:List Int}{n:Int}{l:Tok}{Q:Option Nat->zi->Prop}(d:IS w s.heap a ns)(u:ns.length<=60)(c:∀r:Option Nat,r.isSome=decide (n∈ns)->Q r s):wpAny (model prog w) A (setFind a (.int n l)<|hashInt n) Q E s:=by
 obtain⟨o,es,p,t,j,q,f,S⟩:=d;have v:=S.size;obtain⟨tk,h⟩:=S.ent;refine PySem.W.setFind_any (knd:=intKind prog w) (k:=n) (S:=λk=>decide<|k∈ns) (intKind_is _ _ _ _) rfl j f S.elems (λk=>?_) (by unfold scanBound;omega) S.fits c;rw[decide_eq_true_iff,h];constructor
 ·exact λb=>⟨fR tk k,mem_map.mpr ⟨k,b,rfl⟩,intKind_is _ _ _ _⟩
 ·rintro⟨e,g,b⟩;obtain⟨m,i,rfl⟩:=mem_map.mp g;have:=(intKind prog w).inj _ k m b (intKind_is _ _ _ _);rw[this];exact i
theorem kg{r g d:zo}{ms ns:List Int}{ob:Obj}{y:Array (Int×zt)}{n:Nat}{J:SetTable}{id:String}{Q:PUnit->zi->Prop}(a2:r≠g)(a3:r≠d)(Z:IS w s.heap r [])(O:IS w s.heap g ms)(F:s.heap.get? d=some ob)(B:ob.data=.set y n J)(m:ISt w y J ns)(V:ms.length<=60)(a8:ns.length<=60)(p:∀h' us,SameBut r s.heap h'->IS w h' r us->(∀x,x∈us↔x∈ms/\x∈ns)->Q ⟨⟩ {s with heap:=h'}):
  wpAny (model prog w) A (do
   for (p,x) in <- setWalkUnseen d [g,r] (some r) do
    holding [x] do
     if (<- setFind g x p).isSome then
      let _ <- setAddHashed r x p
    Builtin.Frozenset.unchanged id d n) Q E s:=by
 refine Wb<|iU m F B ?_;obtain⟨tk,R⟩:=m.ent;obtain⟨a,z,X⟩:=cy (hZ w d n y) R;have b0:a.length=ns.length:=z.length_eq;have a9:a.Nodup:=z.nodup_iff.mpr m.nd;rw[<-forIn_toList,X];refine Wb ?_;refine wpAny_forIn_list _ (λrest _ s'=>∃h' us i,s'={s with heap:=h'}/\rest=(a.drop i).map (fR tk)/\SameBut r s.heap h'/\IS w h' r us/\(∀x,x∈us↔x∈ms/\x∈a.take i)/\us.length<=i/\i<=a.length) _ ?_ ?_ _ _
  ⟨s.heap,[],0,rfl,rfl,SameBut.refl r s.heap,Z,λx=>by simp,zero_le _,zero_le _⟩
 ·rintro⟨D,L⟩ rest M s' ⟨h',us,i,rfl,k,f,q,j,U,hi⟩;have t:i<a.length:=by
   rcases lt_or_ge i a.length with l|l
   ·exact l
   ·rw[List.drop_of_length_le l]at k;cases k
  rw[List.drop_eq_getElem_cons t,map_cons]at k;injection k with a0 H
  have a1:D=hashInt a[i]/\L=Value.int a[i] (tk a[i]):=by
   have:(D,L)=(hashInt a[i],Value.int a[i] (tk a[i])):=a0;injection this with a4 a5
   exact⟨a4,a5⟩
  obtain⟨rfl,rfl⟩:=a1;have I:a.take (i+1)=a.take i++[a[i]]:=by rw[take_succ,getElem?_eq_getElem t];rfl
  have P:IS w h' g ms:=O.at λo e=>(f.2 g<|Ne.symm a2).trans e;have K:∀(h2:qa)(v:Unit->zi->Prop),SameBut r s.heap h2->v () {s with heap:=h2}->wpAny (model prog w) A (Builtin.Frozenset.unchanged id d n) v E {s with heap:=h2}:=λh2 v u Y=>by
   unfold Builtin.Frozenset.unchanged;have W:h2.get? d=some ob:=(u.2 d<|Ne.symm a3).trans F;refine Wb<|wpAny_setEpoch_of (s:={s with heap:=h2}) W B m.fits ?_;rw[if_neg (by simp)];exact Wp Y
  refine Wb<|wpAny_holding ?_;refine Wb<|wP (s:={s with heap:=h'}) P V λa7 C=>?_
  by_cases h:a[i]∈ms
  ·rw[C,decide_eq_true h];simp only[if_true];refine Wb<|add_int (s:={s with heap:=h'}) q (by omega) λb1 h2 a6 u N G=>?_;refine Wp ?_;refine Wb<|K h2 _ (f.trans u) ?_;refine Wp ⟨h2,a6,i+1,rfl,H,f.trans u,N,λx=>?_,?_,t⟩
   ·rw[I,mem_append,mem_singleton];rcases G with⟨T,e⟩|⟨_,e⟩
    ·rw[e,j x];constructor
     ·rintro⟨c,b⟩;exact⟨c,.inl b⟩
     ·rintro⟨c,b|b⟩
      ·exact⟨c,b⟩
      ·rw[b];exact(j _).mp T
    ·rw[e.mem_iff,mem_cons,j x];constructor
     ·rintro(l|⟨c,b⟩)
      ·rw[l];exact⟨h,.inr rfl⟩
      ·exact⟨c,.inl b⟩
     ·rintro⟨c,b|b⟩
      ·exact .inr ⟨c,b⟩
      ·exact .inl b
   ·rcases G with⟨_,e⟩|⟨_,e⟩
    ·rw[e];omega
    ·have:=e.length_eq;rw[length_cons]at this;omega
  ·rw[C,decide_eq_false h];simp only[false_eq_true,if_false];refine Wp ?_;refine Wb<|K h' _ f ?_;refine Wp ⟨h',us,i+1,rfl,H,f,q,λx=>?_,by omega,t⟩;rw[j x,I,mem_append,mem_singleton];constructor
   ·rintro⟨c,b⟩;exact⟨c,.inl b⟩
   ·rintro⟨c,b|b⟩
    ·exact⟨c,b⟩
    ·rw[b]at c;exact absurd c h
 ·rintro M s' ⟨h',us,i,rfl,k,f,q,j,U,hi⟩;have S:a.drop i=[]:=by simpa using k.symm
  have h:i=a.length:=by
   have:=congrArg length S;rw[length_drop,length_nil]at this;omega
  exact Wp <| p h' us f q λx=>by rw[j x,h,take_length,z.mem_iff]
theorem wQ{a b:zo}{ms ns:List Int}{Q:zt->zi->Prop}(P:a≠b)(z:IS w s.heap a ms)(B:IS w s.heap b ns)(G:ms.length<=60)(H:ns.length<=60)(M:∀h' us,(∀b o,s.heap.get? b=some o->h'.get? b=some o)->IS w h' s.heap.objs.size us->(∀x,x∈us↔x∈ms/\x∈ns)->Q (.ref s.heap.objs.size) {s with heap:=h'}):wpAny (model prog w) A (binaryOp .BitAnd (.ref a)<|.ref b) Q E s:=by
 obtain⟨K,ea,U,ta,q,S,n,l⟩:=id z;obtain⟨k,L,V,tb,j,C,p,m⟩:=id B;have i:s.TypeIs (.ref a) "set":=⟨K,q,S.1⟩;have y:s.TypeIs (.ref b) "set":=⟨k,j,C.1⟩;refine wpAny_binaryOp_same i y F.fills_set_and F.slot_set_and<|wpAny_call_entry F.slot_set_and i lh ?_ (F.args_set_and_2 _ _);unfold Builtin.«frozenset.__and__»;refine Wb ?_;unfold Builtin.Frozenset.slot1;refine Wb<|Wp (Wp ?_);dsimp only;simp only[false_eq_true,if_false];refine Wb ?_;refine Wb<|fK i ?_;show wpAny _ _ (Builtin.Frozenset.isAnySet<|.ref b) _ _ _;refine fK y ?_;simp only[Bool.not_true,false_eq_true,if_false];refine Wb ?_;show wpAny _ _ (pure a) _ _ _;refine Wp ?_;refine Wb ?_;unfold Builtin.Frozenset.intersection;have T:(Value.ref b==Value.ref a)=false:=by
  rw[beq_eq_false_iff_ne];intro e;injection e with e
  exact P e.symm
 rw[T];simp only[false_eq_true,if_false];unfold Builtin.Frozenset.baseOf;refine Wb ?_;refine Wb<|wpAny_isInstance (b:=true) i sub_set_self ?_;refine Wp ?_;simp only[if_true];refine Wb<|vG λh1 d v=>?_;refine Wb ?_;show wpAny _ _ (pure s.heap.objs.size) _ _ _;refine Wp ?_;refine Wb<|wpAny_holding ?_;have N:Shared.TypeIs {s with heap:=h1} (.ref b) "set":=⟨k,d b k j,C.1⟩
 refine Wb<|fK N ?_;simp only[if_true];refine Wb ?_;show wpAny _ _ (pure b) _ _ _;refine Wp ?_;have t:=d b k j;have r:=d a K q;have O:IS w h1 a ms:=z.at λo e=>d a o e;have R:IS w h1 b ns:=B.at λo e=>d b o e;have I:s.heap.objs.size≠a:=ne_of_gt<|lt_size q;have J:s.heap.objs.size≠b:=ne_of_gt<|lt_size j;have u:∀h' us,SameBut s.heap.objs.size h1 h'->IS w h' s.heap.objs.size us->(∀x,x∈us↔x∈ms/\x∈ns)->Q (.ref s.heap.objs.size) {s with heap:=h'}:=λh' us h f g=>M h' us (λc o e=>by
  rw[h.2 c<|ne_of_lt (lt_size e)];exact d c o e) f g
 unfold Builtin.Frozenset.sizeOf;refine Wb<|Wb (wpAny_setEntries_of (s:={s with heap:=h1}) t p m.fits<|Wp ?_);refine Wb<|Wb (wpAny_setEntries_of (s:={s with heap:=h1}) r n l.fits<|Wp ?_)
 by_cases D:L.size>ea.size
 ·rw[if_pos D];dsimp only;refine Wb<|wpAny_setEpoch_of (s:={s with heap:=h1}) r n l.fits ?_;refine kg (s:={s with heap:=h1}) J I v R r n l H G λh' us h f g=>?_;exact Wp<|Wp ⟨_,rfl,(λe=>nomatch e),u h' us h f λx=>by rw[g x,and_comm]⟩
 ·rw[if_neg D];dsimp only;refine Wb<|wpAny_setEpoch_of (s:={s with heap:=h1}) t p m.fits ?_;refine kg (s:={s with heap:=h1}) I J v O t p m G H λh' us h f g=>?_;exact Wp<|Wp ⟨_,rfl,(λe=>nomatch e),u h' us h f g⟩
end
end TB
namespace L2
open PySem PySem.Spec PyProof.Rows
section
variable{X:Cx}
theorem wR:OpR X (binaryOp .BitAnd) (λx y H Q=>∃a b,∃c ns:List Int,x=.ref a/\y=.ref b/\a≠b/\H a=some (bK X.w a c)/\H b=some (bK X.w b ns)/\c.length<=60/\ns.length<=60 /\
  ∀us:List Int,us.Nodup->(∀x,x∈us↔x∈c/\x∈ns)->∀q,H q=none->Q (.ref q) (upd H q<|bK X.w q us)):=by
 intro pins s σ H x y v u Q I n o h;obtain⟨a,b,c,ns,rfl,rfl,f,e,g,j,l,q⟩:=h;cases n;cases o;refine TB.wQ f (I.intS e) (I.intS g) j l λh' us i d k=>?_;have m:us.Nodup:=by obtain⟨_,_,_,_,_,_,_,S⟩:=d;exact S.nd
 exact⟨.ref s.heap.objs.size,_,I.layS (t':=s.toks) i (le_refl _) d,rfl,q us m k _<|I.hok.fresh (le_refl _)⟩
theorem zA{x y z:V}{us:List zt}(r:aq [x,y,z] us):∃u c v,us=[u,c,v]/\aw x u/\aw y c/\aw z v:=by
 cases r with
 |cons d r=>obtain⟨a,b,rfl,h1,h2⟩:=uq r;exact⟨_,a,b,rfl,d,h1,h2⟩
theorem sf{B:List (zo×Obj)}{E:St}{f:Hp}{s:zi}{A:xg}{x y:V}{u v:zt}{l m:Option (List V)}(c:Inv X B E f s)(i:A.units<cLine)(C:aw x u)(D:aw y v)(w:OT f x l)(z:OT f y m):EqAt A s u v (decide<|l=m):=by
 rcases w with⟨rfl,rfl⟩|⟨a,xs,rfl,d,rfl,r⟩<;>rcases z with⟨rfl,rfl⟩|⟨b,ys,rfl,h,rfl,t⟩<;>cases C<;>cases D
 ·exact EqAt.same _
 ·obtain⟨_,ws,o,k⟩:=c.hok b _ h;exact EqAt.none_tuple k i
 ·obtain⟨_,us,n,j⟩:=c.hok a _ d;exact EqAt.tuple_none j i
 ·have q:decide (some xs=some ys)=decide (xs=ys):=by simp
  rw[q]
  by_cases e:a=b
  ·have p:xs=ys:=by
    rw[e,h]at d;injection (Option.some.inj d)with g
    exact g.symm
   rw[p,e,decide_eq_true rfl];exact EqAt.same _
  ·obtain⟨_,us,n,j⟩:=c.hok a _ d;obtain⟨_,ws,o,k⟩:=c.hok b _ h;exact EqAt.of_refs e<|rJ n o j k i r t
theorem AZ(z:X.A.units+1<cLine):OpR X (compareOp .Eq) (λx y H Q=>∃d e,OT H x d/\OT H y e/\Q (.bl<|decide (d=e)) H):=by
 intro pins s σ H x y v u Q I t w h;obtain⟨d,e,p,r,q⟩:=h;have c:X.A.units<cLine:=by omega
 rcases p with⟨rfl,rfl⟩|⟨a,xs,rfl,i,rfl,n⟩<;>rcases r with⟨rfl,rfl⟩|⟨b,ys,rfl,j,rfl,o⟩<;>cases t<;>cases w
 ·exact RcAt.none_none _ _ _ _ ⟨.bl true,H,I,rfl,q⟩
 ·obtain⟨_,ws,l,g⟩:=I.hok b _ j;exact RcAt.none_tuple g c _ _ _ _ ⟨.bl false,H,I,rfl,q⟩
 ·obtain⟨_,us,k,f⟩:=I.hok a _ i;exact RcAt.tuple_none f c _ _ _ _ ⟨.bl false,H,I,rfl,q⟩
 ·obtain⟨_,us,k,f⟩:=I.hok a _ i;obtain⟨_,ws,l,g⟩:=I.hok b _ j;have m:decide (some xs=some ys)=decide (xs=ys):=by simp
  rw[m]at q;exact rJ k l f g c n o _ _ _ _ ⟨.bl _,H,I,rfl,q⟩
theorem Ba(p:X.A.units+1<cLine):OpR X (compareOp .NotEq) (λx y H Q=>∃a b k c l g m j o n o' d,x=.ref a/\y=.ref b/\H a=some (.tup [.int k,l,g])/\H b=some (.tup [.int c,m,j])/\OT H l o/\OT H g n/\OT H m o'/\OT H j d/\Q (.bl<|!(decide (k=c)&&(decide (o=o')&&decide (n=d)))) H):=by
 intro pins s σ H x y v u Q I N O h;obtain⟨a,b,k,c,l,g,m,j,o,n,o',d,rfl,rfl,F,G,h1,h2,h3,E,q⟩:=h;have J:X.A.units<cLine:=by omega
 cases N;cases O;obtain⟨_,us,L,T⟩:=I.hok a _ F;obtain⟨_,ws,M,U⟩:=I.hok b _ G;obtain⟨r,w,z,rfl,P,s1,R⟩:=zA L;obtain⟨B,C,D,rfl,V,W,Y⟩:=zA M;refine RcNeAt.tuples (e:=λi=>match i with | 0=>decide (k=c) | 1=>decide (o=o') | _=>decide<|n=d) T U J (λK g1 g2=>?_) _ _ _ _ ⟨.bl _,H,I,rfl,?_⟩
 ·match K,g1,g2 with
  |0,_,_ =>
   obtain⟨t,rfl⟩:=P;obtain⟨S,rfl⟩:=V;have:=EqAt.int_int (A:=X.A.in1) (s:=s) k t c S;rw[show decide (k=c)=(k==c)by rw[Bool.eq_iff_iff];simp];exact this
  |1,_,_=>exact sf I (by simpa using p) s1 W h1 h3
  |2,_,_=>exact sf I (by simpa using p) R Y h2 E
 ·have e:∀f:Nat->Bool,((List.range<|min #[r,w,z].size #[B,C,D].size).all f && #[r,w,z].size == #[B,C,D].size)=(f 0&&(f 1&&f 2)):=λf=>by
   show(f 0&&(f 1&&(f 2&&true))&&true)=_;simp
  rw[e];exact q
end
end L2
namespace TW
section
variable{S:Type}
def wS(f o t:List<|Nd S)(k:Int):Prop:=ay o k≠ay f k/\ay t k≠ay f k/\ay o k≠ay t k
end
end TW
namespace TK
open PySem L2
theorem nv{t u:List Nd}{a:ZR}(b:TW.Chg t u<|iF a):(a.map (·.2.k)).Nodup:=by
 have:=b.up;unfold iF at this;rw[pairwise_map]at this;unfold Nodup;rw[pairwise_map];exact this.imp λb e=>by omega
theorem im{t u:List Nd}{es:ZR}(b:TW.Chg t u<|iF es){k:Int}:(∃e∈es,e.2.k=k)↔TW.ay u k≠TW.ay t k:=by
 constructor
 ·rintro⟨e,a,rfl⟩;obtain⟨h1,h2,h3⟩:=(b.mem e.2).mp (mem_map.mpr ⟨e,a,rfl⟩);rw[<-h1,<-h2];exact Ne.symm h3
 ·intro d;have:(⟨k,TW.ay t k,TW.ay u k⟩:Row)∈iF es:=(b.mem _).mpr ⟨rfl,rfl,Ne.symm d⟩;obtain⟨e,a,c⟩:=mem_map.mp this;exact⟨e,a,by rw[c]⟩
theorem lS(a:ZR):(je a).map (·.1)=(a.map (·.2.k)).map (Sum.inl:Int->Key):=by
 unfold je;rw[map_map,map_map];rfl
open Classical in
def io(o t:List Nd)(k:Int):Bool:=!decide (TW.ay o k=TW.ay t k)
theorem tW{o t:List Nd}{k:Int}:(TW.ay o k).map ba=(TW.ay t k).map ba↔TW.ay o k=TW.ay t k :=
 vL.eq (r:=⟨k,TW.ay o k,TW.ay t k⟩) ⟨λn h=>(TW.cX h).2,λn h=>(TW.cX h).2⟩
section
variable{P:xx}{w:qq}{K:Frag}{mg:Str->Option zt}{base:qa}
def wT:Sp:=λvs H Q _=>∃t u zs us,vs=[.ref t,.ref u]/\Tre H t zs/\Tre H u us/\∀d es H',Same H H'->H' d=some (.dK<|je es)->(∀e∈es,RowAt H' e.1 e.2)->es.length<=60->TW.Chg (nds zs) (nds us) (iF es)->Q (.ref d) H'
theorem CH:FnScope ["one","other"] ["one","other"] (aj bV):=fsM
theorem Bb{f:zo}{b:xl}(F:Fun K "entries_by_number" "entries_by_number" bV f b)(j:Has P w K mg base 1 "by_number" ["tree"] qF)(k:Has P w K mg base 2 "change_between" ["one","other"] wO):FnOk P w K mg base CX0 3 f b ["one","other"] wT:=by
 obtain⟨C,G,l,x,r,bB⟩:=j;obtain⟨D,I,m,y,v,n⟩:=k;refine F.ok CH (λvs H Q E h=>?_) λcdv A outer s H vs Q E g h=>?_
 ·obtain⟨t,u,zs,us,rfl,_⟩:=h;rfl
 ·obtain⟨t,u,zs,us,rfl,z,B,q⟩:=h;have p:Room 1 _:=g.mono (by decide);refine⟨_,am<|aH (ax l p rfl x r bB .nil aJ<|aa (ax m g rfl y v n .nil aJ<|aa (pv 0) (aa (pv 1) af)) af),?_⟩;refine⟨_,rfl,_,rfl,t,u,zs,us,rfl,z,B,λc es H1 s1 a e=>?_⟩;exact⟨c,es,rfl,a,nv e,λd H2 i _ o=>q d es H2 (s1.trans i) o (a.same i).at' a.len e⟩
def kh:Sp:=λvs H Q _=>∃f o t a b c,vs=[.ref f,.ref o,.ref t]/\Tre H f a/\Tre H o b/\Tre H t c/\∀l (ks:List Int) H',Same H H'->H l=none->H' l=some (.lst<|ks.map V.int)->ks.Pairwise (· < ·)->ks.length<=60->(∀k,k∈ks↔TW.wS (nds a) (nds b) (nds c) k)->Q (.ref l) H'
theorem wU:FnScope ["first","one","other","mine","theirs"] ["first","one","other"] (aj cx):=fsM
abbrev iJ(P:xx)(w:qq)(K:Frag)(mg:Str->Option zt)(base:qa)(f:zo)(cdv:zt)(A:xg)(outer:List Env)(s:zi)(H:Hp)(E:XK):Cx:=(fO CX0 P w K mg base ["first","one","other","mine","theirs"] "clashing" (aj cx) f cdv A outer s H E).nox
theorem Bc{f:zo}{a8:xl}(F:Fun K "clashing" "clashing" cx f a8)(T:Txt mg)(CE:Has P w K mg base 3 "entries_by_number" ["one","other"] wT):FnOk P w K mg base CX0 4 f a8 ["first","one","other"] kh:=by
 obtain⟨i6,i7,GE,c1,c0,a5⟩:=CE;refine F.ok wU (λvs H Q E h=>?_) λcdv A outer s H vs Q E B h=>?_
 ·obtain⟨f,o,t,I,v,z,rfl,_⟩:=h;rfl
 ·obtain⟨a7,h4,ta,I,v,z,rfl,c3,h6,h7,q⟩:=h;refine⟨_,ai (aA (i:=3) wU.nd rfl (Or.inr rfl)<|ax GE B rfl c1 c0 a5 .nil aJ (aa (pv 0)<|aa (pv 1) af)) (ai (aA (i:=4) wU.nd rfl (Or.inr rfl)<|ax GE B rfl c1 c0 a5 .nil aJ (aa (pv 0)<|aa (pv 2) af))
   (am<|aH (pV (N:=["number","mine","theirs"]) (cl:=[("theirs",s.heap.objs.size+2),("mine",s.heap.objs.size+1)]) (k:=1) (js:=[3,4]) (g:=br 0) rfl
   (LcOk.mk' ["theirs","mine"] rfl rfl (by decide +kernel) (by decide +kernel) ?hcl rfl (by decide +kernel)) rfl ?hj (cm<|aF (fm rfl) rfl T.sorted boot_sorted (aa (aR wR (aS dA rfl T.set rfl<|aa (pv 3) af)<|aS dA rfl T.set rfl (aa (pv 4) af)) af))
   (λs H fp=>aB (i:=0) (show(["number","mine","theirs"]:List Str).Nodup by decide +kernel) rfl (Or.inl rfl)<|Or.inr rfl)
   (λs H fp=>bw (Ba<|bx B) (cQ (bx B) (pv 1) (pv 0) λ_ _=>rfl) (cQ (bx B) (pv 2) (pv 0) λ_ _=>rfl)<|bz _) (λs H fp=>pv 0)))),?_⟩
  case hcl =>
   intro y D;rcases mem_cons.mp D with e | D
   ·rw[e];rfl
   ·rcases mem_cons.mp D with e | D
    ·rw[e];rfl
    ·cases D
  case hj =>
   intro i j0 x h1 h2
   match i,h1,h2 with
   |0,h1,h2 =>
    cases h1;cases h2;exact⟨rfl,Or.inr<|Or.inl rfl,(show((aj cx).names.lookup ("mine":Str)≠some NameKind.local)by decide +kernel),by first|exact Or.inl rfl|exact Or.inr rfl⟩
   |1,h1,h2 =>
    cases h1;cases h2;exact⟨rfl,Or.inr<|Or.inl rfl,(show((aj cx).names.lookup ("theirs":Str)≠some NameKind.local)by decide +kernel),by first|exact Or.inl rfl|exact Or.inr rfl⟩
   |i+2,h1,h2=>simp at h1
  refine⟨_,rfl,_,rfl,a7,h4,I,v,rfl,c3,h6,λd es H1 s1 e5 e8 i8 J=>?_⟩;refine⟨_,rfl,_,rfl,a7,ta,I,z,rfl,c3.same s1,h7.same s1,λY a6 H2 S b0 e9 i9 L=>?_⟩;have b1:=S _ _ e5;refine⟨_,rfl,d,_,es.map (·.2.k),rfl,.inl b1,lS es,by rw[length_map];omega,λn f1 b4 j f6=>?_⟩;have a3:=ag (o:=bK (iJ P w K mg base f cdv A outer s H E).w j n) f6;have g1:upd H2 j (bK (iJ P w K mg base f cdv A outer s H E).w j n) j=some (bK (iJ P w K mg base f cdv A outer s H E).w j n):=ac;show _;generalize upd H2 j (bK (iJ P w K mg base f cdv A outer s H E).w j n)=X at a3 g1|-;refine⟨_,rfl,Y,_,a6.map (·.2.k),rfl,.inl<|a3 _ _ b0,lS a6,by rw[length_map];omega,λr f2 b5 p2 R=>?_⟩;have c4:=ag (o:=bK (iJ P w K mg base f cdv A outer s H E).w p2 r) R;have g2:upd X p2 (bK (iJ P w K mg base f cdv A outer s H E).w p2 r) p2=some (bK (iJ P w K mg base f cdv A outer s H E).w p2 r):=ac;have a9:upd X p2 (bK (iJ P w K mg base f cdv A outer s H E).w p2 r) j=some (bK (iJ P w K mg base f cdv A outer s H E).w j n):=ca R g1;have f4:j≠p2:=λe=>by rw[<-e,g1]at R;cases R
  show _;generalize upd X p2 (bK (iJ P w K mg base f cdv A outer s H E).w p2 r)=a4 at c4 g2 a9|-;have k1:n.length<=60:=by
   have:=ce f1 λx C=>(b4 x).mp C;rw[length_map]at this;omega
  have k2:r.length<=60:=by
   have:=ce f2 λx C=>(b5 x).mp C;rw[length_map]at this;omega
  refine⟨j,p2,n,r,rfl,rfl,f4,a9,g2,k1,k2,λG f3 b6 u f7=>?_⟩;have k3:G.length<=60:=by
   have:=ce (m:=n) f3 λx C=>((b6 x).mp C).1;omega
  have h8:=ag (o:=bK (iJ P w K mg base f cdv A outer s H E).w u G) f7;refine⟨u,G,rfl,ac,k3,λns b8 f9 l f0=>?_⟩;have c5:=ag (o:=.lst<|ns.map V.int) f0;have g4:upd (upd a4 u<|bK (iJ P w K mg base f cdv A outer s H E).w u G) l (.lst<|ns.map V.int) l=some (.lst<|ns.map V.int):=ac;have U:=((a3.trans c4).trans h8).trans c5;show _;generalize upd (upd a4 u<|bK (iJ P w K mg base f cdv A outer s H E).w u G) l (.lst<|ns.map V.int)=i5 at c5 g4 U|-;have f5:ns.length<=60:=by rw[b8.length_eq];exact k3
  have b7:∀k,k∈ns↔TW.ay (nds v) k≠TW.ay (nds I) k/\TW.ay (nds z) k≠TW.ay (nds I) k:=λk=>by
   rw[b8.mem_iff,b6 k,b4 k,b5 k,<-im J,<-im L,mem_map,mem_map]
  refine⟨l,rfl,⟨_,SqL.of g4⟩,λp b9=>?_⟩;refine qi (fr:=[some<|.ref d,some<|.ref Y]) ns V.int (by omega) b9 (eD<|SqL.of g4) rfl (io (nds v)<|nds z) (λc6 y _=>y=.int c6) (λ_ _ _ _ h _=>h) (λk H' h3 mk c2 _ a1=>?_) (λk H' h3 mk _ c2 _ a1=>?_) λys c7 h5 f8 h0=>?_
  ·obtain⟨i3,i4⟩:=(b7 k).mp mk;obtain⟨e,e6,d8⟩:=(im J).mpr i3;obtain⟨d6,e7,e0⟩:=(im L).mpr i4;have W:=U.trans c2;have Z:=pr (W _ _ b1) (nv J) k;have a0:=pr (W _ _ b0) (nv L) k;rcases Z with⟨M,b2,d9,Z⟩|⟨a2,_⟩
   ·rcases a0 with⟨O,b3,e1,a0⟩|⟨a2,_⟩
    ·obtain⟨⟨i1,h9,c8,c9,d0⟩,_⟩:=((e8 M b2).same S).same W;obtain⟨⟨i2,i0,d1,d2,d3⟩,_⟩:=(e9 O b3).same W;refine⟨_,rfl,_,rfl,d,_,rfl,Z,_,rfl,_,rfl,Y,_,rfl,a0,M.1,O.1,_,_,i1,h9,i2,i0,_,_,_,_,rfl,rfl,c8,d1,c9.ot,d0.ot,d2.ot,d3.ot,_,rfl,?_⟩;obtain⟨d4,d5,_⟩:=(J.mem M.2).mp (mem_map.mpr ⟨M,b2,rfl⟩);obtain⟨e3,e4,_⟩:=(L.mem O.2).mp (mem_map.mpr ⟨O,b3,rfl⟩);rw[d4,d5,e3,e4,d9,e1,decide_eq_true rfl,decide_eq_true rfl,Bool.true_and,Bool.true_and];have d7:(!decide ((TW.ay (nds v) k).map ba=(TW.ay (nds z) k).map ba))=io (nds v) (nds z) k:=by
      unfold io
      congr 1
      rw[Bool.eq_iff_iff,decide_eq_true_iff,decide_eq_true_iff];exact tW
     rw[d7];exact a1 H'<|Same.refl _
    ·exact absurd e0<|a2 d6 e7
   ·exact absurd d8<|a2 e e6
  ·exact⟨_,rfl,a1 _ H' (Same.refl _) rfl⟩
  ·have e2:=dh (f:=λk:Int=>V.int k) h0 λc6 y _ h=>h;refine q p _ c7 (((s1.trans S).trans U).trans h5) (((s1.trans S).trans U).free b9) (by rw[f8,e2]) (f9.filter _) (le_trans (length_filter_le _ _) f5) λk=>?_;rw[mem_filter,b7 k];unfold io TW.wS;rw[Bool.not_eq_true',decide_eq_false_iff_not];constructor
   ·rintro⟨⟨a,b⟩,c⟩;exact⟨a,b,c⟩
   ·rintro⟨a,b,c⟩;exact⟨⟨a,b⟩,c⟩
def gC(us:List Nd)(z:zo×Nd):Bool:=decide<|TW.ay us z.2.num=some z.2
def sg(zs:ZN):List Int:=zs.map λz=>z.2.num
def km:Sp:=λvs H Q _=>∃a b zs us,vs=[.ref a,.ref b]/\Tre H a zs/\H b=some (.tup<|bg us)/\At H us/\us.length<=30/\((nds us).map (·.num)).Nodup/\∀l H',Same H H'->H l=none->H' l=some (.lst<|(sg<|zs.filter (gC<|nds us)).map V.int)->Q (.ref l) H'
theorem zB:FnScope ["one","other","others"] ["one","other"] (aj cR):=fsM
theorem kq(n:Nd):∀v∈vals n,ia v=true:=λv a=>by
 unfold vals at a;simp only[mem_cons,not_mem_nil,or_false]at a;rcases a with rfl|rfl|rfl|rfl
 ·rfl
 ·rfl
 ·rfl
 ·cases n.st<;>rfl
theorem wV{a b:Nd}(c:vals a=vals b):a=b:=by
 obtain⟨h,j,f,s1⟩:=a;obtain⟨i,p2,g,s2⟩:=b;unfold vals at c;simp only[List.cons.injEq,V.int.injEq,V.str.injEq,and_true]at c;obtain⟨h1,h2,h3,e⟩:=c;have d:s1=s2:=by cases s1<;>cases s2<;>simp_all [stV]
 subst h1 h2 h3 d;rfl
theorem yT{t:List Nd}(a:(t.map (·.num)).Nodup){m:Nd}(b:m∈t):TW.ay t m.num=some m:=by
 induction t with
 |nil=>cases b
 |cons x t c =>
  rw[map_cons,nodup_cons]at a;unfold TW.ay;rcases mem_cons.mp b with e|e
  ·rw[e,List.find?_cons_of_pos (by simp)]
  ·rw[List.find?_cons_of_neg]
   ·exact c a.2 e
   ·intro h;have h':x.num=m.num:=by simpa using h
    exact a.1 (by rw[h'];exact mem_map.mpr ⟨m,e,rfl⟩)
theorem Be{f:zo}{J:xl}(F:Fun K "kept_alike" "kept_alike" cR f J)(U:Has P w K mg base 1 "by_number" ["tree"] lP):FnOk P w K mg base CX0 2 f J ["one","other"] km:=by
 obtain⟨a9,b0,W,a7,a5,bB⟩:=U;refine F.ok zB (λvs H Q E h=>?_) λcdv A outer s H vs Q E B h=>?_
 ·obtain⟨a,b,zs,us,rfl,_⟩:=h;rfl
 ·obtain⟨a,b,zs,us,rfl,T,a0,L,b2,v,q⟩:=h;refine⟨_,ai (aA (i:=2) zB.nd rfl (Or.inr rfl)<|ax W B rfl a7 a5 bB .nil aJ (aa (pv 1) af))
   (am<|aH (pV (N:=["node","others"]) (cl:=[("others",s.heap.objs.size+1)]) (k:=1) (js:=[2]) (g:=br 0) rfl
   (LcOk.mk' ["others"] rfl rfl (by decide +kernel) (by decide +kernel) ?hcl rfl (by decide +kernel)) rfl ?hj (gh<|pv 0)
   (λs H fp=>aB (i:=0) (show(["node","others"]:List Str).Nodup by decide +kernel) rfl (Or.inl rfl)<|Or.inr rfl)
   (λs H fp=>bw (AZ<|bx B) (gK (bx B) (pv 1) (bD (r:=iY K) bv (pv 0) ao λ_ _=>rfl) ⟨rfl,rfl,rfl,rfl⟩) (pv 0)<|bz _) (λs H fp=>bD (r:=iY K) bv (pv 0) ao λ_ _=>rfl))),?_⟩
  case hcl =>
   intro y C;rcases mem_cons.mp C with e | C
   ·rw[e];rfl
   ·cases C
  case hj =>
   intro i b3 x h1 h2
   match i,h1,h2 with
   |0,h1,h2 =>
    cases h1;cases h2;exact⟨rfl,Or.inr<|Or.inl rfl,(show((aj cR).names.lookup ("others":Str)≠some NameKind.local)by decide +kernel),by first|exact Or.inl rfl|exact Or.inr rfl⟩
   |i+1,h1,h2=>simp at h1
  refine⟨_,rfl,b,us,rfl,a0,L,by omega,v,λd H1 s1 a1=>?_⟩;have o:=T.same s1;have b1:=T.len;refine⟨_,rfl,a,rfl,⟨_,SqT.of o.tup⟩,λp R=>?_⟩;refine qi (fr:=[some<|.ref d]) zs (λz=>V.ref z.1) (by omega) R (rC (by rw[fi];exact SqT.of o.tup)) rfl (gC<|nds us) (λz y _=>y=.int z.2.num) (λ_ _ _ _ h _=>h) (λz H' a6 G j _ n=>?_) (λz H' a6 G _ j _ n=>?_) λys X a8 a3 a4=>?_
  ·have D:=j _ _<|o.nod z G;have m:=a1.same j;have M:OT H' (.ref z.1) (some<|vals z.2):=.inr ⟨z.1,_,rfl,D,rfl,kq z.2⟩
   by_cases S:∃u∈us,u.2.num=z.2.num
   ·obtain⟨u,c,I⟩:=S;have l:=m.get v c;rw[I]at l;have Z:OT H' (.ref u.1) (some<|vals u.2):=.inr ⟨u.1,_,rfl,j _ _<|s1 _ _ (L u c),rfl,kq u.2⟩;refine⟨_,rfl,d,rfl,.inl ⟨_,.inr ⟨_,m.choose_spec⟩⟩,_,rfl,z.1,_,_,_,rfl,rfl,SqT.of D,at0 z.2,_,l,_,rfl,_,_,Z,M,_,rfl,?_⟩;have t:decide (some (vals u.2)=some (vals z.2))=gC (nds us) z:=by
     unfold gC;rw[Bool.eq_iff_iff,decide_eq_true_iff,decide_eq_true_iff];have a2:TW.ay (nds us) z.2.num=some u.2:=by
      rw[<-I];exact yT v<|mem_map.mpr ⟨u,c,rfl⟩
     rw[a2];constructor
     ·intro h;exact congrArg some<|wV (Option.some.inj h)
     ·intro h;rw[Option.some.inj h]
    rw[t];exact n H'<|Same.refl _
   ·have O:∀u∈us,u.2.num≠z.2.num:=λu c e=>S ⟨u,c,e⟩;have l:=m.not O;refine⟨_,rfl,d,rfl,.inl ⟨_,.inr ⟨_,m.choose_spec⟩⟩,_,rfl,z.1,_,_,_,rfl,rfl,SqT.of D,at0 z.2,_,l,_,rfl,_,_,.inl ⟨rfl,rfl⟩,M,_,rfl,?_⟩;have t:decide ((none:Option<|List V)=some (vals z.2))=gC (nds us) z:=by
     unfold gC;rw[Bool.eq_iff_iff,decide_eq_true_iff,decide_eq_true_iff];constructor
     ·intro h;cases h
     ·intro h;obtain⟨h1,h2⟩:=TW.cX h;obtain⟨u,c,e⟩:=mK h1;exact absurd (by rw[e])<|O u c
    rw[t];exact n H'<|Same.refl _
  ·exact⟨_,rfl,z.1,_,_,_,rfl,rfl,SqT.of<|j _ _ (o.nod z G),at0 z.2,n _ H' (Same.refl _) rfl⟩
  ·have Y:=dh (f:=λz:zo×Nd=>V.int z.2.num) a4 λz y _ h=>h;exact q p X (s1.trans a8) (s1.free R) (by rw[a3,Y];unfold sg;rw[map_map];rfl)
end
end TK
namespace L2
open PySem PySem.Spec PyProof.Rows
section
variable{X:Cx}
theorem kr(O:X.calm=true):bu X (.builtin "sorted") (λxs H Q=>∃d kvs,∃ns:List Str,xs=[.ref d]/\Rd H d (.dK kvs)/\kvs.map (·.1)=ns.map (Sum.inr:Str->Key)/\ns.Nodup/\ns.length<=60 /\
  ∀w:List Str,w.Perm ns->w.Pairwise (λa b=>HT.ci a b=true)->∀p,H p=none->Q (.ref p) (upd H p<|.lst (w.map V.str))):=by
 intro pins s σ H xs us Q I r h;obtain⟨d,kvs,ns,rfl,M,Y,Z,b2,q⟩:=h;obtain⟨u,rfl,a8⟩:=bY r;cases a8;obtain⟨a5,a1,a9,E,dd⟩:=I.dK M;obtain⟨b1,G⟩:=dd.dictAt;have a6:a9.length<=sizeLine:=by rw[<-E.length];exact a5
 refine SRT.jR (κ:=oneType') (PySem.W.kdl_dict a1) (I.ok.hd O) G a6 λh1 tk vs b3 A S=>?_;have y:aq (ns.map V.str) vs:=by
  have:=yb E S;have e:(kvs.map λp=>kV p.1)=ns.map V.str:=by
   have:=congrArg (List.map kV) Y;rw[map_map,map_map]at this;exact this
  rw[e]at this;simpa using this
 have a4:vs.length=ns.length:=by rw[<-y.length,length_map]
 have l:∀i,i<ns.length->∃t,vs.getD i Value.none=.str (ns.getD i "") t:=λi hi=>by
  obtain⟨v,a3,r⟩:=y.get (i:=i) (x:=.str<|ns.getD i "") (by rw[getElem?_map,(aN (d:=("":Str)) hi).2];rfl);obtain⟨t,rfl⟩:=r;exact⟨t,by rw[getD_eq_getElem?_getD,a3];rfl⟩
 refine⟨λi f=>HT.ci (ns.getD i "")<|ns.getD f "",⟨λi _=>HT.cW _,λi f k _ _ _ h1 h2=>HT.gY h1 h2,λi f hi g n=>HT.iz ?_⟩,by omega,λF s' _ _ b0 h2 N=>?_,λF s' _ _ i f C hi g L=>?_,λp h' j D a7 m=>?_⟩
 ·rw[getD_eq_getElem?_getD,getD_eq_getElem?_getD,getElem?_eq_getElem (by omega),getElem?_eq_getElem (by omega)];exact λe=>n<|(getElem_inj Z).mp e
 ·refine PySem.W.kas_kind (T:=.type "str") (by omega) (λu a2=>?_) (by rfl) (by rfl) N;obtain⟨i,hi,e⟩:=List.getElem_of_mem a2;obtain⟨t,z⟩:=l i (by omega);rw[getD_eq_getElem?_getD,getElem?_eq_getElem hi,e]at z;rw[show u=_ from z];exact Looks.now
 ·obtain⟨b5,J⟩:=l i (by omega);obtain⟨b6,K⟩:=l f (by omega);rw[J,K];exact kas_lt_str L
 ·obtain⟨c,m⟩:=m;rw[a4]at j D;have R:∀i∈p.toList,i<ns.length:=λi hi=>mem_range.mp<|j.perm.mem_iff.mp hi;have B:(p.toList.map λi=>ns.getD i "").Perm ns:=by
   refine(j.perm.map _).trans ?_;have:(List.range ns.length).map (λi=>ns.getD i "")=ns:=by
    apply ext_getElem?;intro i;rw[getElem?_map]
    by_cases hi:i<ns.length
    ·rw[getElem?_range hi,(aN (d:=("":Str)) hi).2];rfl
    ·rw[getElem?_eq_none (by rw[length_range];omega),getElem?_eq_none (by omega)];rfl
   rw[this]
  have b4:p.size=ns.length:=j.size;have a0:(p.toList.map λi=>ns.getD i "").Pairwise (λa b=>HT.ci a b=true):=by
   rw[pairwise_iff_getElem];intro i f hi g n;have P:i<p.size:=by rw[length_map,length_toList]at hi;exact hi
   have U:f<p.size:=by rw[length_map,length_toList]at g;exact g
   have:=D i f n (by omega);simp only[]at this;rw[getD_eq_getD_getElem?,getD_eq_getD_getElem?,Array.getElem?_eq_getElem P,Array.getElem?_eq_getElem U]at this;simpa using this
  refine⟨.ref h1.objs.size,_,I.laid (t':=tk) (o:=.lst<|(p.toList.map λi=>ns.getD i "").map V.str) a7 (le_of_lt A) ⟨?_,_,c,iA y p.toList R,m⟩,rfl,q _ B a0 _<|I.hok.fresh (le_of_lt A)⟩;rw[length_map,B.length_eq,sizeLine_eq];omega
theorem pA:bu X (.type "dict") (λxs H Q=>∃a kvs,xs=[.ref a]/\Rd H a (.dK kvs)/\∀d,H d=none->Q (.ref d) (upd H d<|.dK kvs)):=by
 intro pins s σ H xs us Q I r h;obtain⟨a,kvs,rfl,g,q⟩:=h;obtain⟨u,rfl,m⟩:=bY r;cases m;obtain⟨c,l,vs,f,dd⟩:=I.dK g;refine kt_call_dict l dd (by rw[<-f.length];exact c) λh' i k=>?_;have j:∀b o,s.heap.get? b=some o->h'.get? b=some o:=λb o e=>by
  have:=k.2 b<|ne_of_lt (lt_size e);rw[this];exact get?_push_of_some _ e
 exact⟨.ref s.heap.objs.size,_,I.laid (t':=s.toks) (o:=.dK kvs) j (le_refl _)<|jy c (beq_eq_false_iff_ne.mpr<|Ne.symm (ne_of_lt I.big)) f i,rfl,q _<|I.hok.fresh (le_refl _)⟩
end
end L2
namespace TK
open PySem L2
def Off(S:List zo)(H H':Hp):Prop:=∀b o,H b=some o->b∉S->H' b=some o
theorem nw{f:Str}{v:V}{r:List (Str×V)}:((f,v)::r).lookup f=some v:=by rw[lookup_cons,beq_self_eq_true]
theorem bq{f g:Str}{v:V}{r:List (Str×V)}(h:¬g=f):((g,v)::r).lookup f=r.lookup f:=by
 have:(f==g)=false:=by simpa using λe:f=g=>h e.symm
 rw[lookup_cons,this]
theorem qH{f:Str}{v w:V}{r:List (Str×V)}:cE f v ((f,w)::r)=(f,v)::r:=by
 show(if f=f then _ else _)=_;rw[if_pos rfl]
theorem bd{f g:Str}{v w:V}{r:List (Str×V)}(h:¬g=f):cE f v ((g,w)::r)=(g,w)::cE f v r:=by
 show(if g=f then _ else _)=_;rw[if_neg h]
def dw(H H':Hp):Prop:=∀b u,H b=some u->(∀xs,u≠.lst xs)->(∀C dx fs,u≠.ins C dx fs)->H' b=some u
theorem dw.trans{c d H3:Hp}(a:dw c d)(b:dw d H3):dw c H3:=λp u h e f=>b p u (a p u h e f) e f
theorem eP{H H':Hp}(s:Same H H'):dw H H':=λb u h _ _=>s b u h
theorem wW{c:Hp}{a:zo}{xs ys:List V}(f:c a=some (.lst xs)):dw c (upd c a<|.lst ys):=λb u d n _=>by
 rw[ae (λe=>by rw[e,f]at d;exact n xs (Option.some.inj d).symm)];exact d
theorem ku{c:Hp}{a C d:zo}{fs gs:List (Str×V)}(g:c a=some (.ins C d fs)):dw c (upd c a<|.ins C d gs):=λb u f _ n=>by
 rw[ae (λe=>by rw[e,g]at f;exact n C d fs (Option.some.inj f).symm)];exact f
theorem dw.tup{H H':Hp}(s:dw H H'){b:zo}{xs:List V}(h:H b=some (.tup xs)):H' b=some (.tup xs):=s b _ h (λ_ h=>by cases h) (λ_ _ _ h=>by cases h)
theorem dw.rd{H H':Hp}(s:dw H H'){b:zo}{kvs:List (Key×V)}(h:Rd H b<|.dK kvs):Rd H' b (.dK kvs):=by
 rcases h with h|⟨o,h⟩
 ·exact .inl<|s b _ h (λ_ h=>by cases h) (λ_ _ _ h=>by cases h)
 ·exact .inr ⟨o,s b _ h (λ_ h=>by cases h) (λ_ _ _ h=>by cases h)⟩
theorem Tre.stay{b H':Hp}{t:zo}{z:ZN}(a:Tre b t z)(s:dw b H'):Tre H' t z:=⟨s.tup a.tup,λz c=>s.tup<|a.nod z c,a.tr,a.len⟩
abbrev TG:=List<|Str×(zo×ZN)
def dG(gs:TG):List (Key×V):=gs.map λg=>((Sum.inr g.1:Key),V.ref g.2.1)
structure Tags(H:Hp)(d:zo)(gs:TG):Prop where
 dct:Rd H d<|.dK (dG gs)
 at':∀g∈gs,Tre H g.2.1 g.2.2
 nd:(gs.map (·.1)).Nodup
 len:gs.length<=50
theorem Tags.stay{b H':Hp}{d:zo}{gs:TG}(a:Tags b d gs)(s:dw b H'):Tags H' d gs:=⟨s.rd a.dct,λg c=>(a.at' g c).stay s,a.nd,a.len⟩
theorem Tags.same{H H':Hp}{d:zo}{gs:TG}(h:Tags H d gs)(s:Same H H'):Tags H' d gs:=h.stay<|eP s
structure Ent where
 a:zo
 sa:zo
 ta:zo
 da:zo
 xs:List V
 z:ZN
 gs:TG
structure EntAt(H:Hp)(e:Ent):Prop where
 ob:H e.a=some (.tup [.ref e.sa,.ref e.ta,.ref e.da])
 st:H e.sa=some (.tup e.xs)
 tr:Tre H e.ta e.z
 tg:Tags H e.da e.gs
theorem EntAt.stay{H H':Hp}{e:Ent}(h:EntAt H e)(s:dw H H'):EntAt H' e:=⟨s.tup h.ob,s.tup h.st,h.tr.stay s,h.tg.stay s⟩
abbrev kx(b:List Ent):List V:=b.map λe=>V.ref e.a
def flL(b t d pl a:zo):List (Str×V):=[("first_tree",.ref b),("tree",.ref t),("tag_trees",.ref d),("past",.ref pl),("ahead",.ref a)]
abbrev fi1(t:zo):List (Str×V):=[("first_tree",V.ref t)]
abbrev fi2(t:zo):List (Str×V):=[("first_tree",V.ref t),("tree",V.ref t)]
abbrev fi3(t d:zo):List (Str×V):=[("first_tree",V.ref t),("tree",V.ref t),("tag_trees",V.ref d)]
abbrev fi4(t d pl:zo):List (Str×V):=[("first_tree",V.ref t),("tree",V.ref t),("tag_trees",V.ref d),("past",V.ref pl)]
theorem Bf:¬(("first_tree":Str)="tree"):=by decide +kernel
theorem Bg:¬(("first_tree":Str)="tag_trees"):=by decide +kernel
theorem CJ:¬(("first_tree":Str)="past"):=by decide +kernel
theorem Bh:¬(("first_tree":Str)="ahead"):=by decide +kernel
theorem Bi:¬(("tree":Str)="tag_trees"):=by decide +kernel
theorem CK:¬(("tree":Str)="past"):=by decide +kernel
theorem Bj:¬(("tree":Str)="ahead"):=by decide +kernel
theorem CO:¬(("tag_trees":Str)="past"):=by decide +kernel
theorem Bk:¬(("tag_trees":Str)="ahead"):=by decide +kernel
theorem Bl:¬(("past":Str)="ahead"):=by decide +kernel
section
variable{ft t d pl al x:zo}
theorem wX:(flL ft t d pl al).lookup ("tree":Str)=some (.ref t):=by unfold flL;rw[bq Bf,nw]
theorem Bn:cE "tree" (.ref x) (flL ft t d pl al)=flL ft x d pl al:=by unfold flL;rw[bd Bf,qH]
theorem sk:(flL ft t d pl al).lookup ("tag_trees":Str)=some (.ref d):=by unfold flL;rw[bq Bg,bq Bi,nw]
theorem Bo:cE "tag_trees" (.ref x) (flL ft t d pl al)=flL ft t x pl al:=by unfold flL;rw[bd Bg,bd Bi,qH]
theorem wY:(flL ft t d pl al).lookup ("past":Str)=some (.ref pl):=by unfold flL;rw[bq CJ,bq CK,bq CO,nw]
theorem CQ:(flL ft t d pl al).lookup ("ahead":Str)=some (.ref al):=by unfold flL;rw[bq Bh,bq Bj,bq Bk,bq Bl,nw]
theorem Bp:cE "ahead" (.ref x) (flL ft t d pl al)=flL ft t d pl x:=by unfold flL;rw[bd Bh,bd Bj,bd Bk,bd Bl,qH]
theorem ny:(flL ft t d pl al).length<1000:=by show 5<1000;decide
end
structure LCls(K:Frag)(mg:Str->Option zt)(C:zo):Prop where
 cl:Cls K C
 n0:db K C "first_tree"
 n1:db K C "tree"
 n2:db K C "tag_trees"
 n3:db K C "past"
 n4:db K C "ahead"
 mgC:mg "Ledger"=some (.ref C)
structure LAt(C:zo)(H:Hp)(p ft t d pl al:zo)(zf z:ZN)(gs:TG)(es as:List Ent):Prop where
 ob:∃dx,H p=some (.ins C dx<|flL ft t d pl al)
 tf:Tre H ft zf
 tr:Tre H t z
 tg:Tags H d gs
 ps:H pl=some (.lst<|kx es)
 ah:H al=some (.lst<|kx as)
 ne:pl≠al
 ep:∀e∈es,EntAt H e
 ea:∀e∈as,EntAt H e
theorem LAt.same{C:zo}{c H':Hp}{p h t d pl f:zo}{i z:ZN}{gs:TG}{g as:List Ent}(a:LAt C c p h t d pl f i z gs g as)(s:Same c H'):LAt C H' p h t d pl f i z gs g as :=
 ⟨let⟨dx,e⟩:=a.ob;⟨dx,s _ _ e⟩,a.tf.same s,a.tr.same s,a.tg.same s,s _ _ a.ps,s _ _ a.ah,a.ne,λe b=>(a.ep e b).stay (eP s),λe b=>(a.ea e b).stay (eP s)⟩
theorem LAt.off{C:zo}{b H':Hp}{p h t d pl c:zo}{i z:ZN}{gs:TG}{g as:List Ent}(a:LAt C b p h t d pl c i z gs g as)(s:dw b H')(j:∀o,b p=some o->H' p=some o)(k:∀o,b pl=some o->H' pl=some o)(l:∀o,b c=some o->H' c=some o):LAt C H' p h t d pl c i z gs g as :=
 ⟨let⟨dx,e⟩:=a.ob;⟨dx,j _ e⟩,a.tf.stay s,a.tr.stay s,a.tg.stay s,k _ a.ps,l _ a.ah,a.ne,λe f=>(a.ep e f).stay s,λe f=>(a.ea e f).stay s⟩
section
variable{P:xx}{w:qq}{K:Frag}{mg:Str->Option zt}{base:qa}
def ky(C:zo):Sp:=λvs H Q _=>∃p dx t z,vs=[.ref p,.ref t]/\H p=some (.ins C dx [])/\Tre H t z/\∀d pl al H',H d=none->H pl=none->H al=none->LAt C H' p t t d pl al z z [] [] []->Off [p] H H'->Q .non H'
theorem Bq:FnScope ["self","tree"] ["self","tree"] (aj eF):=fsM
theorem yU{f C:zo}{S:xl}(F:Fun K "__init__" "Ledger.__init__" eF f S)(T:LCls K mg C):FnOk P w K mg base CX0 1 f S ["self","tree"] (ky C):=by
 refine F.ok Bq (λvs H Q E h=>?_) λcdv A outer s H vs Q E a4 h=>?_
 ·obtain⟨p,dx,t,z,rfl,_⟩:=h;rfl
 ·obtain⟨p,dx,t,z,rfl,U,i,k⟩:=h;refine⟨_,ai (eX (pv 0) (pv 1) rfl)<|ai (eX (pv 0) (pv 1) rfl) (ai (eX (pv 0) dL rfl)<|ai (eX (pv 0) (bn af) rfl) (am<|eX (pv 0) (bn af) rfl)),?_⟩;refine⟨_,rfl,_,rfl,p,C,dx,[],rfl,U,T.cl,T.n0,(by show 0<1000;decide),?_⟩;have a2:upd H p (.ins C dx<|fi1 t) p=some (.ins C dx<|fi1 t):=ac;have l:∀b,upd H p (.ins C dx<|fi1 t) b=none->H b=none:=λb e=>by
   rw[ae λz=>by rw[z,ac]at e;cases e]at e;exact e
  have Z:Off [p] H (upd H p<|.ins C dx (fi1 t)):=λb o e a=>by
   rw[ae (by simpa using a)];exact e
  show uf _ _ _ _ (upd H p<|.ins C dx (fi1 t));generalize upd H p (.ins C dx<|fi1 t)=H1 at a2 l Z|-;refine⟨_,rfl,_,rfl,p,C,dx,_,rfl,a2,T.cl,T.n1,(by show 1<1000;decide),?_⟩;rw[show cE "tree" (V.ref t) (fi1 t)=(fi2 t)from bd Bf];have L:upd H1 p (.ins C dx<|fi2 t) p=some (.ins C dx<|fi2 t):=ac;have m:∀b,upd H1 p (.ins C dx<|fi2 t) b=none->H1 b=none:=λb e=>by
   rw[ae λz=>by rw[z,ac]at e;cases e]at e;exact e
  have a0:Off [p] H1 (upd H1 p<|.ins C dx (fi2 t)):=λb o e a=>by
   rw[ae (by simpa using a)];exact e
  generalize upd H1 p (.ins C dx<|fi2 t)=H2 at L m a0|-;intro d u;have q:p≠d:=ak L u;refine⟨_,rfl,p,C,dx,_,rfl,by rw[ae q];exact L,T.cl,T.n2,(by show 2<1000;decide),?_⟩;rw[show cE "tag_trees" (V.ref d) (fi2 t)=(fi3 t d)by rw[bd Bg,bd Bi];rfl];have M:upd (upd H2 d<|.dK []) p (.ins C dx<|fi3 t d) p=some (.ins C dx<|fi3 t d):=ac;have O:upd (upd H2 d<|.dK []) p (.ins C dx<|fi3 t d) d=some (.dK []):=by rw[ae<|Ne.symm q,ac]
  have r:∀b,upd (upd H2 d<|.dK []) p (.ins C dx<|fi3 t d) b=none->H2 b=none:=λb e=>by
   rw[ae (λz=>by rw[z,ac]at e;cases e),ae (λz=>by rw[z,ac]at e;cases e)]at e;exact e
  have a1:Off [p] H2 (upd (upd H2 d<|.dK []) p<|.ins C dx (fi3 t d)):=λb o e a=>by
   rw[ae (by simpa using a),ae<|ak e u];exact e
  show uf _ _ _ _ (upd (upd H2 d<|.dK []) p<|.ins C dx (fi3 t d));generalize upd (upd H2 d<|.dK []) p (.ins C dx<|fi3 t d)=c at M O r a1|-;refine⟨zero_le _,λpl x=>?_⟩;have D:p≠pl:=ak M x;refine⟨_,rfl,p,C,dx,_,rfl,by rw[ae D];exact M,T.cl,T.n3,(by show 3<1000;decide),?_⟩;rw[show cE "past" (V.ref pl) (fi3 t d)=(fi4 t d pl)by rw[bd CJ,bd CK,bd CO];rfl];have N:upd (upd c pl<|.lst []) p (.ins C dx<|fi4 t d pl) p=some (.ins C dx<|fi4 t d pl):=ac;have B:upd (upd c pl<|.lst []) p (.ins C dx<|fi4 t d pl) pl=some (.lst []):=by rw[ae<|Ne.symm D,ac]
  have R:∀b,upd (upd c pl<|.lst []) p (.ins C dx<|fi4 t d pl) b=none->c b=none:=λb e=>by
   rw[ae (λz=>by rw[z,ac]at e;cases e),ae (λz=>by rw[z,ac]at e;cases e)]at e;exact e
  have G:Off [p] c (upd (upd c pl<|.lst []) p<|.ins C dx (fi4 t d pl)):=λb o e a=>by
   rw[ae (by simpa using a),ae<|ak e x];exact e
  show _;generalize upd (upd c pl<|.lst []) p (.ins C dx<|fi4 t d pl)=j at N B R G|-;refine⟨zero_le _,λal n=>?_⟩;have X:p≠al:=ak N n;refine⟨_,rfl,p,C,dx,_,rfl,by rw[ae X];exact N,T.cl,T.n4,(by show 4<1000;decide),?_⟩;rw[show cE "ahead" (V.ref al) (fi4 t d pl)=flL t t d pl al by rw[bd Bh,bd Bj,bd Bk,bd Bl];rfl];have I:Off [p] j (upd (upd j al<|.lst []) p<|.ins C dx (flL t t d pl al)):=λb o e a=>by
   rw[ae (by simpa using a),ae<|ak e n];exact e
  have J:Off [p] H (upd (upd j al<|.lst []) p<|.ins C dx (flL t t d pl al)):=λb o e a=>I _ _ (G _ _ (a1 _ _ (a0 _ _ (Z _ _ e a) a) a) a) a;have Y:∀{b:zo}{xs:List V},H b=some (.tup xs)->b∉[p]:=λ{b xs} a h=>by
   have e:b=p:=by simpa using h
   rw[e,U]at a;cases a
  have tA:Tre (upd (upd j al<|.lst []) p<|.ins C dx (flL t t d pl al)) t z:=⟨J _ _ i.tup<|Y i.tup,λy W=>J _ _ (i.nod y W)<|Y (i.nod y W),i.tr,i.len⟩;refine k d pl al _ (l _<|m _ u) (l _<|m _ (r _ x)) (l _<|m _ (r _<|R _ n)) ⟨⟨dx,ac⟩,tA,tA,⟨.inl<|I _ _ (G _ _ O (by simpa using Ne.symm q)) (by simpa using Ne.symm q),(λg a3=>nomatch a3),nodup_nil,by decide⟩,I _ _ B (by simpa using Ne.symm D),?_,ak B n,(λe v=>nomatch v),(λe v=>nomatch v)⟩ J;rw[ae<|Ne.symm X,ac];rfl
def kD(C:zo):Sp:=λvs H Q _=>∃p ft t d pl al e c b es a,vs=[.ref p]/\LAt C H p ft t d pl al e c b es a/\∀u,H u=none->Q (.ref u) (upd H u<|.tup [.int es.length,.int a.length])
theorem Br:FnScope ["self"] ["self"] (aj dF):=fsM
theorem yV{f C:zo}{b:xl}(F:Fun K "sizes" "Ledger.sizes" dF f b)(a:Txt mg)(T:LCls K mg C):FnOk P w K mg base CX0 1 f b ["self"] (kD C):=by
 refine F.ok Br (λvs H Q E h=>?_) λcdv A outer s H vs Q E l h=>?_
 ·obtain⟨p,ft,t,d,pl,al,k,j,g,es,e,rfl,_⟩:=h;rfl
 ·obtain⟨p,ft,t,d,pl,al,k,j,g,es,e,rfl,L,q⟩:=h;obtain⟨dx,c⟩:=L.ob;refine⟨_,am<|aH (bA<|aa (aF aY rfl a.len boot_len<|aa (dc (pv 0) rfl) af) (aa (aF aY rfl a.len boot_len<|aa (dc (pv 0) rfl) af) af)),?_⟩;refine⟨_,rfl,p,C,dx,_,_,rfl,c,T.cl,T.n3,wY,pl,_,rfl,.inl<|SqL.of L.ps,_,rfl,p,C,dx,_,_,rfl,c,T.cl,T.n4,CQ,al,_,rfl,.inl<|SqL.of L.ah,(show 2<=sizeLine from aW (by decide)),λu i=>?_⟩;rw[length_map,length_map];exact q u i
end
theorem kG{b t d pl a:zo}{m:Str}(c:¬(("first_tree":Str)=m))(e:¬(("tree":Str)=m))(h2:¬(("tag_trees":Str)=m))(f:¬(("past":Str)=m))(g:¬(("ahead":Str)=m)):(flL b t d pl a).lookup m=none:=by
 unfold flL;rw[bq c,bq e,bq h2,bq f,bq g];rfl
theorem tX{a H':Hp}(s:Same a H'){b:zo}(c:H' b=none):a b=none:=by
 cases d:a b with
 |none=>rfl
 |some o=>rw[s _ _ d]at c;cases c
section
variable{P:xx}{w:qq}{K:Frag}{mg:Str->Option zt}{base:qa}
def wZ(C:zo):Sp:=λvs H Q _=>∃p ft t d pl al j h f es k b xs c i a g,vs=[.ref p,.ref b,.ref c,.ref a]/\LAt C H p ft t d pl al j h f es k/\H b=some (.tup xs)/\Tre H c i/\Tags H a g/\es.length<=200 /\
 ∀q e H',H e=none->LAt C H' p ft c a pl e j i g (es++[⟨q,b,t,d,xs,h,f⟩]) []->dw H H'->Off [p,pl] H H'->Q .non H'
theorem CV:FnScope ["self","step","tree","tag_trees"] ["self","step","tree","tag_trees"] (aj dD):=fsM
theorem Bs{f C:zo}{R:xl}(F:Fun K "go_on" "Ledger.go_on" dD f R)(T:LCls K mg C):FnOk P w K mg base CX0 1 f R ["self","step","tree","tag_trees"] (wZ C):=by
 refine F.ok CV (λvs H Q E h=>?_) λcdv A outer s H vs Q E b5 h=>?_
 ·obtain⟨p,ft,t,d,pl,al,b3,a,gs,es,a1,i,xs,g,b2,n,a4,rfl,_⟩:=h;rfl
 ·obtain⟨p,ft,t,d,pl,al,b3,a,gs,es,a1,i,xs,g,b2,n,a4,rfl,L,a7,b1,b0,b4,q⟩:=h;obtain⟨dx,x⟩:=L.ob;refine⟨_,ai (aQ<|cn plainAttrs_list PySem.F.slot_list_append PySem.F.type_list_append aM (dc (pv 0) rfl) (aa (bA<|aa (pv 1) (aa (dc (pv 0) rfl)<|aa (dc (pv 0) rfl) af)) af))
   (ai (eX (pv 0) (bn af) rfl)<|ai (eX (pv 0) (pv 2) rfl) (am<|eX (pv 0) (pv 3) rfl)),?_⟩
  refine⟨_,rfl,p,C,dx,_,_,rfl,x,T.cl,T.n3,wY,.inl ⟨rfl,_,SqL.of L.ps⟩,_,rfl,_,rfl,p,C,dx,_,_,rfl,x,T.cl,T.n1,wX,_,rfl,p,C,dx,_,_,rfl,x,T.cl,T.n2,sk,(show 3<=sizeLine from aW (by decide)),λe a5=>?_⟩;have s1:=ag (o:=.tup [.ref i,.ref t,.ref d]) a5;have g1:upd H e (.tup [.ref i,.ref t,.ref d]) e=some (.tup [.ref i,.ref t,.ref d]):=ac;generalize upd H e (.tup [.ref i,.ref t,.ref d])=H1 at s1 g1|-;have D:=L.same s1;have S:=s1 _ _ x;refine⟨pl,_,_,rfl,rfl,D.ps,au (by rw[length_map];omega),?_⟩;have B:p≠pl:=tZ S D.ps (by intro h;cases h);have k2:=wW (ys:=kx es++[.ref e]) D.ps;have z:upd H1 pl (.lst<|kx es++[.ref e]) p=some (.ins C dx<|flL ft t d pl al):=by rw[ae B];exact S
  have G:upd H1 pl (.lst<|kx es++[.ref e]) pl=some (.lst<|kx (es++[⟨e,i,t,d,xs,a,gs⟩])):=by rw[ac];unfold kx;rw[map_append];rfl
  have M:Off [p,pl] H1 (upd H1 pl<|.lst (kx es++[.ref e])):=λb o h c=>by rw[ae λa=>c (by rw[a];simp)];exact h
  generalize upd H1 pl (.lst<|kx es++[.ref e])=H2 at k2 z G M|-;refine⟨zero_le _,λal' v=>?_⟩;have m:p≠al':=ak z v;have Y:pl≠al':=ak G v;have a3:H al'=none:=by
   cases a6:H al' with
   |none=>rfl
   |some o =>
    have h2:=M _ _ (s1 _ _ a6) (by simp[Ne.symm m,Ne.symm Y]);rw[v]at h2;cases h2
  refine⟨_,rfl,p,C,dx,_,rfl,by rw[ae m];exact z,T.cl,T.n4,ny,?_⟩;rw[Bp];have U:upd H2 al' (.lst []) p=some (.ins C dx<|flL ft t d pl al):=by rw[ae m];exact z
  have r:=ag (o:=.lst []) v;have gA:upd H2 al' (.lst []) al'=some (.lst []):=ac;generalize upd H2 al' (.lst [])=k at U r gA|-;have J:=ku (gs:=flL ft t d pl al') U;have g4:upd k p (.ins C dx<|flL ft t d pl al') p=some (.ins C dx<|flL ft t d pl al'):=ac;have Z:Off [p,pl] k (upd k p<|.ins C dx (flL ft t d pl al')):=λb o h c=>by rw[ae λa=>c (by rw[a];simp)];exact h
  have W:upd k p (.ins C dx<|flL ft t d pl al') pl=some (.lst<|kx (es++[⟨e,i,t,d,xs,a,gs⟩])):=by rw[ae<|Ne.symm B];exact r _ _ G
  have N:upd k p (.ins C dx<|flL ft t d pl al') al'=some (.lst []):=by rw[ae<|Ne.symm m];exact gA
  generalize upd k p (.ins C dx<|flL ft t d pl al')=l at J g4 Z W N|-;refine⟨_,rfl,_,rfl,p,C,dx,_,rfl,g4,T.cl,T.n1,ny,?_⟩;rw[Bn];have k5:=ku (gs:=flL ft g d pl al') g4;have g5:upd l p (.ins C dx<|flL ft g d pl al') p=some (.ins C dx<|flL ft g d pl al'):=ac;have a0:Off [p,pl] l (upd l p<|.ins C dx (flL ft g d pl al')):=λb o h c=>by rw[ae λa=>c (by rw[a];simp)];exact h
  have X:upd l p (.ins C dx<|flL ft g d pl al') pl=some (.lst<|kx (es++[⟨e,i,t,d,xs,a,gs⟩])):=by rw[ae<|Ne.symm B];exact W
  have O:upd l p (.ins C dx<|flL ft g d pl al') al'=some (.lst []):=by rw[ae<|Ne.symm m];exact N
  generalize upd l p (.ins C dx<|flL ft g d pl al')=u at k5 g5 a0 X O|-;refine⟨_,rfl,_,rfl,p,C,dx,_,rfl,g5,T.cl,T.n2,ny,?_⟩;rw[Bo];have V:=ku (gs:=flL ft g n pl al') g5;have a9:Off [p,pl] u (upd u p<|.ins C dx (flL ft g n pl al')):=λb o h c=>by rw[ae λa=>c (by rw[a];simp)];exact h
  have j:dw H (upd u p<|.ins C dx (flL ft g n pl al')):=(((((eP s1).trans k2).trans (eP r)).trans J).trans k5).trans V;have a8:dw H1 (upd u p<|.ins C dx (flL ft g n pl al')):=((((k2).trans (eP r)).trans J).trans k5).trans V;refine q e al' _ a3 ⟨⟨dx,ac⟩,L.tf.stay j,b1.stay j,b0.stay j,by rw[ae<|Ne.symm B];exact X,by rw[ae<|Ne.symm m];exact O,Y,λy I=>?_,(λy I=>nomatch I)⟩ j λb o h c=>a9 _ _ (a0 _ _ (Z _ _ (r _ _<|M _ _ (s1 _ _ h) c) c) c) c;rcases mem_append.mp I with h|h
  ·exact(L.ep y h).stay j
  ·have a2:y=⟨e,i,t,d,xs,a,gs⟩:=by simpa using h
   rw[a2];exact⟨a8.tup g1,j.tup a7,L.tr.stay j,L.tg.stay j⟩
end
def letters:Str:="abcdefghijklmnopqrstuvwxyz"
def inL(c:Nat):Bool:=!(Builtin.Str.occurrences letters ⟨#[c]⟩ 0 letters.length 1).isEmpty
def fq(x:Str):Bool:=decide (1<=x.length)&&decide (x.length<=5)&&x.cps.toList.all inL
theorem Bt:FnScope ["thing"] ["thing"] (aj vw):=fsM
end TK
namespace L2
open PySem PySem.Spec PyProof.Rows
section
variable{X:Cx}
theorem fV{M:Model}{A:xg}{E:zt->zi->Prop}{s:zi}{env:Env}{c:Expr}{pos:Pos}{Q:zt->zi->Prop}(d:wpAny M A (eval c env) (λv a=>wpAny M A (pyReprObj v) (λb f=>wpAny M A (formatField b empty) Q E f) E a) E s):wpAny M A (eval (.FormattedValue c 114 none pos) env) Q E s:=by
 show wpAny M A (do let v <- eval c env;standAt pos;formatted pos (<- holding [v] (converted 114 v)) none) Q E s
 refine Wb<|wpAny_mono d (λv a e=>?_) λ_ _ x=>x;refine Wb<|wpAny_standAt ?_;show wpAny _ _ (do let b <- holding [v] (pyReprObj v);formatField b empty) Q E a
 exact Wb<|wpAny_holding e
theorem yW{e:Expr}{c:TE}{b:Nat}{p:Pos}{ps:List Expr}{t:TJ}(g:PE X e c)(f:PJ X ps b t):PJ X (.FormattedValue e 114 none p::ps) (300+b) (λσ H k=>c σ H λv H1=>∃x:Str,v=.str x/\(reprText x).length<=300/\t σ H1 k):=by
 intro a pins s σ H Q I m i;refine joinParts_cons<|fV (thn (g pins _ σ H _ I i) λv s1 h=>?_);obtain⟨y,H1,d,l,j⟩:=h;obtain⟨x,rfl,o,q⟩:=j;obtain⟨tk,rfl⟩:=l;have n:(a++reprText x).length=a.length+(reprText x).length:=strLen_append ..;refine wpAny_pyReprObj_str (formatField_str (λr u=>⟨le_of_lt<|au (by omega),?_⟩)<|le_of_lt (au (by omega)))<|le_of_lt (au (by omega));exact f _ pins _ σ H1 Q (d.tok _) (by omega) q
end
end L2
namespace TK
open PySem L2
section
variable{P:xx}{w:qq}{K:Frag}{mg:Str->Option zt}{base:qa}
def eQ(C:zo):Sp:=λvs H Q _=>∃p ft t d pl al h g e es f,vs=[.ref p]/\LAt C H p ft t d pl al h g e es f/\∀c:List Str,c.Perm (e.map (·.1))->c.Pairwise (λa b=>HT.ci a b=true)->∀l,H l=none->Q (.ref l) (upd H l<|.lst (c.map V.str))
theorem yX:FnScope ["self"] ["self"] (aj eG):=fsM
theorem xa{f C:zo}{a:xl}(F:Fun K "tags" "Ledger.tags" eG f a)(c:Txt mg)(T:LCls K mg C):FnOk P w K mg base CX0 1 f a ["self"] (eQ C):=by
 refine F.ok yX (λvs H Q E h=>?_) λcdv A outer s H vs Q E o h=>?_
 ·obtain⟨p,ft,t,d,pl,al,m,k,b,es,e,rfl,_⟩:=h;rfl
 ·obtain⟨p,ft,t,d,pl,al,m,k,b,es,e,rfl,L,q⟩:=h;obtain⟨dx,i⟩:=L.ob;refine⟨_,am<|aH (aF (kr rfl) rfl c.sorted boot_sorted<|aa (dc (pv 0) rfl) af),?_⟩;have n:=L.tg.len;exact⟨_,rfl,p,C,dx,_,_,rfl,i,T.cl,T.n2,sk,d,_,b.map (·.1),rfl,L.tg.dct,by unfold dG;rw[map_map,map_map];rfl,L.tg.nd,by rw[length_map];omega,λj h1 h2 l g=>q j h1 h2 l g⟩
def nA:Sp:=λvs H Q _=>∃x:Str,vs=[.str x]/\x.length<=100/\∀H',Same H H'->Q (.bl<|fq x) H'
theorem xb{f:zo}{n:xl}(F:Fun K "is_name" "is_name" vw f n)(T:Txt mg):FnOk P w K mg base CX0 1 f n ["thing"] nA:=by
 obtain⟨tl,z⟩:=T.letters;obtain⟨R,B⟩:=T.longest;refine F.ok Bt (λvs H Q E h=>?_) λcdv A outer s H vs Q E L h=>?_
 ·obtain⟨v,rfl,_⟩:=h;rfl
 ·obtain⟨x,rfl,O,k⟩:=h;refine⟨_,ai (cZ (PW.pt (pw_or (lV<|pF (aF iQ rfl T.isin boot_isinstance<|aa (pv 0) (aa (qQ (v:=.ty "str") rfl T.str boot_str rfl) af)) (λ_=>rfl))
    (pw_or1<|lV (uo zl zl ao (aF mn rfl T.len boot_len<|aa (pv 0) af)<|gE (v:=.int 5) rfl B ⟨_,rfl⟩))))
   (am<|aH ud) bj)
   (am<|aH (aF (uQ rfl) rfl T.all boot_all<|aa (fY (N:=["sign"]) (k:=1) (js:=[]) (g:=br 0) rfl (fc rfl (by decide +kernel) (by decide +kernel) (by decide +kernel)) rfl (λi r x h=>by simp at h)
    (Aj<|pv 0) (λs H fp=>aB (i:=0) (show(["sign"]:List Str).Nodup by decide +kernel) rfl (Or.inl rfl)<|Or.inr rfl) (λs H fp=>gF sC (pv 0) (gE (v:=.str letters) rfl z ⟨_,rfl⟩) (by with_unfolding_all rfl))) af)),?_⟩
  refine⟨_,rfl,_,_,_,_,rfl,.str x,(by kernel_rfl:_=some true),_,rfl,dM ?_⟩;refine⟨_,rfl,x,rfl,le_of_lt<|au (by omega),_,_,rfl,rfl,_,rfl,?_⟩
  by_cases d:1<=x.length
  ·have h1:decide ((1:Int)<=(x.length:Int))=true:=decide_eq_true (by omega);rw[h1];refine eU ⟨_,_,rfl,rfl,_,rfl,?_⟩
   by_cases e:x.length<=5
   ·have h2:decide ((x.length:Int)<=5)=true:=decide_eq_true (by omega);rw[h2];refine dM ?_;have a:fq x=x.cps.toList.all inL:=by unfold fq;rw[decide_eq_true d,decide_eq_true e];rfl
    have M:x.cps.size=x.length:=rfl;refine⟨_,rfl,x,rfl,λp o=>?_⟩;refine uT (k:=1) (js:=[]) (J:=Its x) (p:=p) x.cps.size (by omega) (λi ys b H'=>ys=((x.cps.toList.take i).map inL).map V.bl/\b.length=1/\Same H H'/\H' p=some (.lst ys))
     ⟨rfl,rfl,ag o,ac⟩ (λi ys b H' h=>?_) (λi ys b H' hi h=>hi) (λys b H' h=>?_) (λi ys b H' hi h v H2 I=>?_) ?_ ?_
    ·rw[h.1,length_map,length_map,length_take];omega
    ·obtain⟨j,_,s1,l⟩:=h;have u:ys=(x.cps.toList.map inL).map V.bl:=by rw[j,take_of_length_le (by simp)]
     subst u;refine⟨le_refl _,_,_,rfl,SqL.of l,?_⟩;have y:(x.cps.toList.map inL).all id=fq x:=by rw[List.all_map,a];rfl
     rw[y];exact k _ s1
    ·obtain⟨j,t,s1,l⟩:=h;obtain⟨rfl,c,C,rfl⟩:=I;refine⟨_,List.getElem?_set_self (by omega),_,_,rfl,rfl,l,?_,by simpa using t,aC o s1,ac⟩
     have D:x.cps.toList[i]?=some c:=by simpa using C
     rw[j,take_succ,D];simp[inL]
    ·intro _ _ _ _ _ m q;exact m _ _ q
    ·rintro _ _ _ _ m ⟨v,G,i,r,d,e,q⟩;exact⟨v,G,i,r,d,e,m _ _ q⟩
   ·have h2:decide ((x.length:Int)<=5)=false:=decide_eq_false (by omega);have a:fq x=false:=by unfold fq;rw[decide_eq_false e,Bool.and_false];rfl
    rw[h2];have:=k H<|Same.refl _;rw[a]at this;exact eU this
  ·have h1:decide ((1:Int)<=(x.length:Int))=false:=decide_eq_false (by omega);have a:fq x=false:=by unfold fq;rw[decide_eq_false d];rfl
   rw[h1];have:=k H<|Same.refl _;rw[a]at this;exact dM ⟨false,rfl,eU this⟩
end
def fW(gs:TG)(x:Str)(v:zo×ZN):TG:=if (gs.any λg=>decide<|g.1=x)=true then gs.map (λg=>if g.1=x then (g.1,v)else g)else gs++[(x,v)]
theorem xc(gs:TG)(x:Str)(v:zo×ZN):cf (dG gs) (Sum.inr x:Key) (V.ref v.1)=dG (fW gs x v):=by
 have e:((dG gs).any λb=>decide<|b.1=(Sum.inr x:Key))=gs.any λg=>decide (g.1=x):=by
  unfold dG;rw[any_map]
  congr 1
  funext g
  show decide ((Sum.inr g.1:Key)=Sum.inr x)=decide (g.1=x);rw[Bool.eq_iff_iff,decide_eq_true_iff,decide_eq_true_iff];exact⟨λh=>by injection h,λh=>by rw[h]⟩
 unfold cf fW;rw[e]
 by_cases h:(gs.any λg=>decide<|g.1=x)=true
 ·rw[if_pos h,if_pos h];unfold dG;rw[map_map,map_map];refine map_congr_left λg _=>?_;show(if (Sum.inr g.1:Key)=Sum.inr x then ((Sum.inr g.1:Key),V.ref v.1)else ((Sum.inr g.1:Key),V.ref g.2.1))=((Sum.inr (if g.1=x then (g.1,v)else g).1:Key),V.ref (if g.1=x then (g.1,v)else g).2.1)
  by_cases a:g.1=x
  ·rw[if_pos (by rw[a]),if_pos a]
  ·rw[if_neg λh=>a (by injection h),if_neg a]
 ·rw[if_neg h,if_neg h];unfold dG;rw[map_append];rfl
theorem xf{gs:TG}{x:Str}{v:zo×ZN}:(fW gs x v).length<=gs.length+1:=by
 unfold fW
 split
 ·rw[length_map];omega
 ·rw[length_append];exact le_refl _
theorem xh{gs:TG}{x:Str}{v:zo×ZN}{g:Str×(zo×ZN)}(a:g∈fW gs x v):g=(x,v)\/g∈gs:=by
 unfold fW at a
 split at a
 ·obtain⟨y,c,e⟩:=mem_map.mp a
  by_cases b:y.1=x
  ·rw[if_pos b]at e;rw[<-e,b];exact .inl rfl
  ·rw[if_neg b]at e;rw[<-e];exact .inr c
 ·rcases mem_append.mp a with a|a
  ·exact .inr a
  ·exact .inl (by simpa using a)
theorem so{gs:TG}{x:Str}:(gs.any λg=>decide<|g.1=x)=true↔x∈gs.map (·.1):=by
 rw[any_eq_true,mem_map];exact⟨λ⟨g,a,e⟩=>⟨g,a,of_decide_eq_true e⟩,λ⟨g,a,e⟩=>⟨g,a,decide_eq_true e⟩⟩
theorem qI{gs:TG}{x:Str}{v:zo×ZN}:(fW gs x v).map (·.1)=if x∈gs.map (·.1)then gs.map (·.1)else gs.map (·.1)++[x]:=by
 unfold fW
 by_cases h:x∈gs.map (·.1)
 ·rw[if_pos h,if_pos<|so.mpr h,map_map];refine map_congr_left λg _=>?_;show(if g.1=x then (g.1,v)else g).1=g.1
  split<;>rfl
 ·rw[if_neg h,if_neg λe=>h<|so.mp e,map_append];rfl
theorem yY{gs:TG}{x:Str}{v:zo×ZN}(c:(gs.map (·.1)).Nodup):((fW gs x v).map (·.1)).Nodup:=by
 rw[qI]
 split
 ·exact c
 ·rename_i g
  rw[nodup_append];exact⟨c,by simp,λa d b f e=>g (by rw[<-show b=x by simpa using f,<-e];exact d)⟩
theorem Tags.val{f:Hp}{d:zo}{gs:TG}(a:Tags f d gs)(x:Str):(aO (dG gs) (Sum.inr x:Key)).isSome=decide (x∈gs.map (·.1)):=by
 have:∀gs:TG,(aO (dG gs) (Sum.inr x:Key)).isSome=decide (x∈gs.map (·.1)):=by
  intro gs
  induction gs with
  |nil=>rfl
  |cons g r c =>
   unfold dG at c|-;rw[map_cons]
   by_cases e:g.1=x
   ·rw[aV (by rw[e]),decide_eq_true (by rw[map_cons,e];exact mem_cons_self)];rfl
   ·rw[aK (by intro b;exact e (by injection b)),c];rw[Bool.eq_iff_iff,decide_eq_true_iff,decide_eq_true_iff,map_cons,mem_cons];exact⟨λa=>.inr a,λa=>a.resolve_left λb=>e b.symm⟩
 exact this gs
section
variable{P:xx}{w:qq}{K:Frag}{mg:Str->Option zt}{base:qa}
def kH(C f:zo):Sp:=λvs H Q E=>∃p ft t d pl al e b a es g x,vs=[.ref p,.str x]/\LAt C H p ft t d pl al e b a es g/\x.length<=100/\(reprText x).length<=300/\es.length<=200/\a.length<50 /\
 (fq x=true->∀q i h c H',H c=none->LAt C H' p ft t h pl c e b (fW a x (t,b)) (es++[⟨q,i,t,d,[.str "tag",.str x],b,a⟩]) []->dw H H'->Off [p,pl] H H'->Q (.bl<|decide (x∈a.map (·.1))) H') /\
 (fq x=false->∀H',Same H H'->E (.ref f) none H')
theorem qJ:FnScope ["self","name","had","tag_trees"] ["self","name"] (aj fj):=fsM
theorem yZ{f C D J:zo}{M N:xl}(F:Fun K "tag" "Ledger.tag" fj f M)(a4:Txt mg)(T:LCls K mg C)(a2:vt "NoTag" mg base D)(CN:Has P w K mg base 1 "is_name" ["thing"] nA)(a1:Meth K C "go_on" J)(W:FnOk P w K mg base CX0 1 J N ["self","step","tree","tag_trees"]<|wZ C)(a6:aE K N ["self","step","tree","tag_trees"] []):FnOk P w K mg base (CX1 P w) 2 f M ["self","name"] (kH C D):=by
 obtain⟨c1,c2,X,b8,b7,a7⟩:=CN;refine F.okX qJ (λvs H Q E h=>?_) λcdv A outer s H vs Q E j h=>?_
 ·obtain⟨p,ft,t,d,pl,al,V,a,gs,es,I,x,rfl,_⟩:=h;rfl
 ·obtain⟨p,ft,t,d,pl,al,V,a,gs,es,I,x,rfl,L,b6,b4,b2,c3,c0,b9⟩:=h;obtain⟨dx,b3⟩:=L.ob;refine⟨_,ai (cZ (lV<|pF (ax X j rfl b8 b7 a7 .nil aJ<|aa (pv 1) af) (λ_=>rfl)) (am<|oo uW a2 j.hd rfl (rB (yW (pv 1)<|vg (c:=100) (by decide +kernel) vf) (by decide))) bj)
   (ai (aA (i:=2) qJ.nd rfl (Or.inl rfl)<|zH (pT (bx j) (pv 1)<|dc (pv 0) rfl))
   (ai (aA (i:=3) qJ.nd rfl (Or.inl rfl)<|aS pA rfl a4.dict rfl (aa (dc (pv 0) rfl) af))
   (ai (mr (bx j) (pv 3) (pv 1) (dc (pv 0) rfl) rfl)
   (ai (aQ<|qU (pv 0) T.cl a1 W j a6 .nil aJ (aa (bA<|aa dX (aa (pv 1) af))<|aa (dc (pv 0) rfl) (aa (pv 3) af)))
   (am<|aH (pv 2)))))),?_⟩
  refine⟨_,rfl,x,rfl,b6,λH1 s1=>⟨_,rfl,?_⟩⟩;have u:=L.same s1;have q:=s1 _ _ b3;cases O:fq x with
  |false =>
   refine eU ⟨_,rfl,x,rfl,b4,λy=>⟨aW (show 1<=1000 by decide),b9 O H1 s1⟩⟩
  |true =>
   refine dM ?_;have a8:cM H1 d (kV<|Sum.inr x) (aO (dG gs) (Sum.inr x:Key)):=.inl ⟨_,_,u.tg.dct,rfl,rfl⟩;refine⟨_,rfl,_,rfl,p,C,dx,_,_,rfl,q,T.cl,T.n2,sk,d,_,rfl,a8,?_⟩;rw[L.tg.val x];refine⟨_,rfl,p,C,dx,_,_,rfl,q,T.cl,T.n2,sk,d,_,rfl,u.tg.dct,λd' R=>?_⟩;have B:=ag (o:=.dK<|dG gs) R;have g2:upd H1 d' (.dK<|dG gs) d'=some (.dK<|dG gs):=ac;generalize upd H1 d' (.dK<|dG gs)=H2 at B g2|-;have S:=B _ _ q;have c4:p≠d':=tZ S g2 (by intro h;cases h);refine⟨_,rfl,p,C,dx,_,_,rfl,S,T.cl,T.n1,wX,_,rfl,_,rfl,d',_,rfl,pS.k (k:=Sum.inr x) g2<|au (by unfold dG;rw[length_map];omega),?_⟩;rw[xc gs x (t,a)];have r:Same H1 (upd H2 d'<|.dK (dG<|fW gs x (t,a))):=aC R B;have g3:upd H2 d' (.dK<|dG (fW gs x (t,a))) d'=some (.dK<|dG (fW gs x (t,a))):=ac;generalize upd H2 d' (.dK<|dG (fW gs x (t,a)))=G at r g3|-;have a0:=u.same r;have U:=r _ _ q;refine⟨_,rfl,p,dx,_,rfl,U,kG (by decide +kernel) (by decide +kernel) (by decide +kernel) (by decide +kernel) (by decide +kernel),_,rfl,(show 2<=sizeLine from aW (by decide)),λm b5=>?_⟩;have l:=ag (o:=.tup [.str "tag",.str x]) b5;have g4:upd G m (.tup [.str "tag",.str x]) m=some (.tup [.str "tag",.str x]):=ac;generalize upd G m (.tup [.str "tag",.str x])=Y at l g4|-;have n:=a0.same l;have z:=s1.trans<|r.trans l;have a3:Tags Y d' (fW gs x (t,a)):=⟨.inl<|l _ _ g3,λg b1=>?_,yY L.tg.nd,by have:=xf (gs:=gs) (x:=x) (v:=(t,a));omega⟩
   ·refine⟨_,rfl,p,C,dx,_,_,rfl,l _ _ U,T.cl,T.n1,wX,_,rfl,p,ft,t,d,pl,al,V,a,gs,es,I,m,[.str "tag",.str x],t,a,d',fW gs x (t,a),rfl,n,g4,n.tr,a3,b2,λe a5 H' a9 Z k o=>?_⟩;exact⟨_,rfl,c0 O e m d' a5 H' (tX z a9) Z ((eP z).trans k) λb o' h b0=>o _ _ (z _ _ h) b0⟩
   ·rcases xh b1 with e|h
    ·rw[e];exact n.tr
    ·exact n.tg.at' g h
def fu(C:zo):Sp:=λvs H Q _=>∃p ft t d pl al f c b es a,vs=[.ref p]/\LAt C H p ft t d pl al f c b es a/\es.length<=200/\∀l H',Same H H'->H l=none->H' l=some (.lst<|es.map λe=>V.ref e.sa)->Q (.ref l) H'
theorem Bu:FnScope ["self"] ["self"] (aj dE):=fsM
theorem za{f C:zo}{b:xl}(F:Fun K "steps" "Ledger.steps" dE f b)(T:LCls K mg C):FnOk P w K mg base CX0 1 f b ["self"] (fu C):=by
 refine F.ok Bu (λvs H Q E h=>?_) λcdv A outer s H vs Q E I h=>?_
 ·obtain⟨p,ft,t,d,pl,al,D,j,n,es,l,rfl,_⟩:=h;rfl
 ·obtain⟨p,ft,t,d,pl,al,D,j,n,es,l,rfl,L,G,q⟩:=h;obtain⟨dx,u⟩:=L.ob;refine⟨_,am<|aH (fY (N:=["entry"]) (cl:=[]) (k:=1) (js:=[]) (g:=br 0) rfl (fc rfl (by decide +kernel) (by decide +kernel) (by decide +kernel)) rfl (λi J x h=>by simp at h) (cm<|dc (pv 0) rfl) (λs H fp=>aB (i:=0) (show(["entry"]:List Str).Nodup by decide +kernel) rfl (Or.inl rfl)<|Or.inr rfl)
    (λs H fp=>bD (r:=iY K) bv (pv 0) ao λ_ _=>rfl)),?_⟩
  refine⟨_,rfl,p,C,dx,_,_,rfl,u,T.cl,T.n3,wY,pl,rfl,⟨_,SqL.of L.ps⟩,λr c=>?_⟩;refine fJ (fr:=[]) es (λe=>V.ref e.a) (by omega) c (eD<|SqL.of L.ps) rfl (λe y _=>y=.ref e.sa) (λ_ _ _ _ h _=>h) (λe H' M B s1 _ o=>?_) λys H1 s1 v z=>?_
  ·exact⟨_,rfl,e.a,_,_,_,rfl,rfl,SqT.of<|s1 _ _ (L.ep e B).ob,rfl,o _ H' (Same.refl _) rfl⟩
  ·have m:=dh (f:=λe:Ent=>V.ref e.sa) z λj y _ h=>h;exact q r H1 s1 c (by rw[v,m])
def qK(K:Frag):Sp:=λvs H Q _=>∃a k,vs=[.ref a,.int k]/\0<=k/\jN K H a/\∀r H',Same H H'->Q (.int r) H'
theorem Bv:FnScope ["_law_script","_law_k"] ["_law_script","_law_k"] (aj vz):=fsM
theorem zb{f:zo}{e:xl}(F:Fun K "_law_cell" "_law_cell" vz f e)(T:Txt mg):FnOk P w K mg base CX0 1 f e ["_law_script","_law_k"] (qK K):=by
 refine F.ok Bv (λvs H Q E h=>?_) λcdv A outer s H vs Q E o h=>?_
 ·obtain⟨a,k,rfl,_⟩:=h;rfl
 ·obtain⟨a,k,rfl,j,⟨ns,ea⟩,q⟩:=h;refine⟨_,ai (cZ (bw BO (pv 1) (aF aY rfl T.len boot_len<|aa (pv 0) af)<|bz _) (am<|aH (bD gI (pv 0) (pv 1) λ_ _=>rfl)) bj)
   (ai (cZ (bw (qd o.units0) (pv 0) (bn af)<|bz _) (am<|aH ao) bj)
   (am<|aH (aR bR (aR dZ (bD gI (pv 0) (aR lZ (pv 1)<|aF aY rfl T.len boot_len (aa (pv 0) af)) λ_ _=>rfl) ao)<|pv 1))),?_⟩
  refine⟨_,rfl,_,rfl,a,_,rfl,.inl<|ea,_,_,rfl,rfl,_,rfl,?_⟩;rw[length_map]
  by_cases h:k<(ns.length:Int)
  ·rw[decide_eq_true h];obtain⟨g,c⟩:=oB j h;exact eU ⟨_,rfl,_,rfl,a,_,_,_,rfl,rfl,ea,c,q _ _<|Same.refl _⟩
  ·rw[decide_eq_false h];refine dM ⟨_,rfl,zero_le _,λp b=>⟨a,p,_,rfl,rfl,((ag b).seq ea),SqL.of ac,_,rfl,?_⟩⟩
   by_cases d:ns=[]
   ·subst d;exact eU<|q _ _ (ag b)
   ·have n:¬ns.map V.int=[]:=by simpa using d
    rw[decide_eq_false n];have r:0<ns.length:=List.length_pos_iff.mpr d;have l:0<=k % (ns.length:Int):=emod_nonneg _ (by omega);have m:k % (ns.length:Int)<ns.length:=Int.emod_lt_of_pos _ (by omega);obtain⟨g,c⟩:=oB l m;have i:atI (ns.map V.int) (k % ((ns.map V.int).length:Int))=some (.int g):=by rw[length_map];exact c
    exact dM ⟨_,rfl,_,rfl,_,rfl,a,_,rfl,.inl<|((ag b).seq ea),_,_,rfl,rfl,by rw[length_map];omega,a,_,_,_,rfl,rfl,((ag b).seq ea),i,_,_,rfl,rfl,.inr ⟨by decide,by decide⟩,_,rfl,_,_,rfl,rfl,q _ _<|ag b⟩
def qL(K:Frag):Sp:=λvs H Q _=>∃a k m,vs=[.ref a,.int k,.int m]/\0<=k/\0<m/\jN K H a/\∀r H',0<=r->r<m->Same H H'->Q (.int r) H'
theorem xi:FnScope ["_law_script","_law_k","_law_many","_law_drawn"] ["_law_script","_law_k","_law_many"] (aj vA):=fsM
theorem zc{f:zo}{b:xl}(F:Fun K "_law_pick" "_law_pick" vA f b)(T:Txt mg)(C:Has P w K mg base 1 "_law_cell" ["_law_script","_law_k"]<|qK K):FnOk P w K mg base CX0 2 f b ["_law_script","_law_k","_law_many"] (qL K):=by
 obtain⟨v,x,e,p,o,g⟩:=C;refine F.ok xi (λvs H Q E h=>?_) λcdv A outer s H vs Q E n h=>?_
 ·obtain⟨a,k,m,rfl,_⟩:=h;rfl
 ·obtain⟨a,k,m,rfl,l,d,j,q⟩:=h;refine⟨_,(ai (aA (i:=3) xi.nd rfl (Or.inl rfl)<|aR lZ (aR dZ (aR bR (ax e n rfl p o g .nil aJ<|aa (pv 0) (aa (pv 1) af))<|aR dZ ao (aR bR (pv 1) ao)) ao) ao)
   (am<|aH (aR lZ (aR lZ (aR bR (aR dZ (pv 3)<|pv 3)<|aR xr (pv 3) ao) ao)<|pv 2))),?_⟩
  refine⟨_,rfl,_,rfl,a,k,rfl,l,j,λr H1 s1=>?_⟩;refine⟨_,rfl,_,_,rfl,rfl,_,_,rfl,rfl,.inl ⟨by decide,by decide⟩,_,_,rfl,rfl,_,_,rfl,rfl,.inr ⟨by decide,by decide⟩,_,_,rfl,rfl,(by decide:(0:Int)<2147483399),?_⟩;generalize c:(r+6151*(k+1))*40692 % 2147483399=dr;have t:0<=dr:=by rw[<-c];exact emod_nonneg _ (by decide)
  have u:dr<2147483399:=by rw[<-c];exact Int.emod_lt_of_pos _ (by decide)
  refine⟨_,rfl,_,rfl,_,_,rfl,rfl,.inl ⟨by omega,by omega⟩,_,rfl,_,_,rfl,rfl,⟨by decide,by decide⟩,_,_,rfl,rfl,_,_,rfl,rfl,(by decide:(0:Int)<2147483629),_,rfl,_,_,rfl,rfl,d,?_⟩;exact q _ _ (emod_nonneg _ (by omega)) (Int.emod_lt_of_pos _ d) s1
def ip(K:Frag):Sp:=λvs H Q _=>∃a b m,vs=[.ref a,.int b,.int m]/\0<=b/\0<=m/\m<=9/\jN K H a/\∀t zs H',H' t=some (.tup<|bg zs)->At H' zs->(zs.length:Int)<=m->TW.Tree (nds zs)->(∀c∈zs,An c.2)->Same H H'->Q (.ref t) H'
theorem scB:FnScope ["_law_script","_law_at","_law_most","_law_left","_law_folders","_law_nodes","_law_k","_law_number","_law_parent","_law_name","_law_stamp"] ["_law_script","_law_at","_law_most"] (aj iC):=fsM
def buS(i:Nat):Stmt:=match (aZ iC).getD 3 (.Pass ⟨0,0,0,0⟩)with
 |.For _ _ b _ _=>b.getD i<|.Pass ⟨0,0,0,0⟩
 |x=>x
abbrev BX(P:xx)(w:qq)(K:Frag)(mg:Str->Option zt)(base:qa)(f:zo)(cdv:zt)(A:xg)(outer:List Env)(s:zi)(H:Hp)(E:XK):Cx:=(fO CX0 P w K mg base ["_law_script","_law_at","_law_most","_law_left","_law_folders","_law_nodes","_law_k","_law_number","_law_parent","_law_name","_law_stamp"] "_law_tree" (aj iC) f cdv A outer s H E).nox
theorem CY{f:zo}{cdv:zt}{A:xg}{outer:List Env}{s:zi}{H0:Hp}{E:XK}(c3:Room 2<|A.deeper (PyProof.Rows.envOfC "_law_tree" (aj iC) s.heap.objs.size f cdv)):
  ∃t,PS (BX P w K mg base f cdv A outer s H0 E) (buS 5) t/\∀(Q:Ends)(H H6:Hp)(pl u pn:zo)(U W D X:Option V)(S:List Int)(zs:ZN)(c a:Int)(nm:Str)(st:Option Int),Sta H pl u pn H6 S (0::TW.aD (nds zs)) zs->zs.length<=20 ->
   (∀H',Sta H pl u pn H' S (0::TW.aD (nds zs)) zs->Q.nx [U,W,D,some<|.ref pl,some<|.ref u,some<|.ref pn,X,some<|.int c,some<|.int a,some<|.str nm,some<|stV st] H') ->
   (∀q H',(∀z∈zs,¬(z.2.par=a/\z.2.nm=nm))->Sta H pl u pn H' S (0::TW.aD (nds<|zs++[(q,⟨c,a,nm,st⟩)])) (zs++[(q,⟨c,a,nm,st⟩)])->Q.nx [U,W,D,some<|.ref pl,some<|.ref u,some<|.ref pn,X,some<|.int c,some<|.int a,some<|.str nm,some<|stV st] H') ->
   t Q [U,W,D,some<|.ref pl,some<|.ref u,some<|.ref pn,X,some<|.int c,some<|.int a,some<|.str nm,some<|stV st] H6:=by
 refine⟨_,cZ (bw (kO<|bx c3) (bA<|aa (pv 8) (aa (pv 9) af)) (fY (N:=["_law_node"]) (k:=1) (js:=[]) (g:=br 0) rfl (fc rfl (by decide +kernel) (by decide +kernel) (by decide +kernel)) rfl (λi d1 x h=>by simp at h)
     (cm<|pv 5) (λs H fp=>aB (i:=0) (show(["_law_node"]:List Str).Nodup by decide +kernel) rfl (Or.inl rfl)<|Or.inr rfl)
     (λs H fp=>eY (r:=uz K) mh (pv 0) (fz ao)<|fz ao)) rfl) (ai (aQ<|cn plainAttrs_list PySem.F.slot_list_append PySem.F.type_list_append aM (pv 5) (aa (bA<|aa (pv 7) (aa (pv 8)<|aa (pv 9) (aa (pv 10) af))) af))<|am (cZ (bw pI (pv 10) jm<|bz _) (am<|aQ (cn plainAttrs_list PySem.F.slot_list_append PySem.F.type_list_append aM (pv 4)<|aa (pv 7) af)) bj)) bj,?_⟩
 intro Q H H6 pl u pn U W D X S zs c a nm st a9 d0 c8 a8;refine⟨_,rfl,_,rfl,le2,λT c2=>?_⟩;have B:=a9.grow<|ag (o:=.tup [.int a,.str nm]) c2;have a5:(upd H6 T<|.tup [.int a,.str nm]) T=some (.tup<|[Sum.inl a,Sum.inr nm].map kV):=ac;refine⟨_,rfl,pn,rfl,⟨_,SqL.of B.n⟩,λp L=>?_⟩;generalize upd H6 T (.tup [.int a,.str nm])=b0 at B a5 L|-;refine uT (k:=1) (js:=[]) (J:=Itl K pn) (p:=p) zs.length (by omega) (λi ys M H'=>∃b:List<|zo×List Key,ys=(b.map (·.1)).map V.ref/\b.map (·.2)=((nds zs).take i).map plK/\b.length=i/\(∀z∈b,H' z.1=some (.tup<|z.2.map kV))/\M.length=1/\Same b0 H'/\H' p=some (.lst ys))
  ⟨[],rfl,rfl,rfl,by simp,rfl,ag L,ac⟩ (λi ys M H' h=>?_) (λi ys M H' hi h=>?_) (λys M H' h=>?_) (λi ys M H' hi h v H2 a1=>?_) ?_ ?_
 ·obtain⟨b,rfl,_,e,_⟩:=h;rw[length_map,length_map];omega
 ·obtain⟨_,_,_,_,_,_,j,_⟩:=h;exact⟨_,_,SqL.of<|j _ _ B.n,jM<|getElem?_eq_getElem hi⟩
 ·obtain⟨b,Y,R,a4,Z,_,j,I⟩:=h;refine⟨⟨_,SqL.of<|j _ _ B.n,by rw[cb];exact le_refl _⟩,?_⟩;subst Y;refine⟨T,p,_,b,rfl,j _ _ a5,rfl,SqL.of I,Z,_,rfl,?_⟩;rw[take_of_length_le (by rw[bh];exact le_refl _)]at R;have O:=B.grow j;cases ea:(b.any λz=>decide<|z.2=[Sum.inl a,Sum.inr nm])with
  |true=>exact dM<|c8 _ O
  |false =>
   have a6:∀z∈zs,¬(z.2.par=a/\z.2.nm=nm):=λz C ⟨h1,h2⟩=>by
    have a2:plK z.2∈b.map (·.2):=by rw[R];exact mem_map.mpr ⟨z.2,mem_map.mpr ⟨z,C,rfl⟩,rfl⟩
    obtain⟨y,a1,c0⟩:=mem_map.mp a2;have:(b.any λz=>decide<|z.2=[Sum.inl a,Sum.inr nm])=true:=any_eq_true.mpr ⟨y,a1,by rw[decide_eq_true_eq,c0];unfold plK;rw[h1,h2]⟩;rw[ea]at this;cases this
   refine eU ⟨_,rfl,.inl ⟨rfl,_,SqL.of O.n⟩,_,rfl,_,rfl,_,rfl,_,rfl,(show 4<=sizeLine from aW (by decide)),λq l=>⟨pn,_,_,rfl,rfl,ca l O.n,au (by rw[cb];omega),?_⟩⟩;have G:=(O.grow<|ag (o:=.tup<|vals ⟨c,a,nm,st⟩) l).node (n:=⟨c,a,nm,st⟩) ac;refine⟨_,rfl,rfl,_,rfl,?_⟩;cases st with
   |some c7 =>
    have a0:(0::TW.aD (nds zs))=(0:Int)::TW.aD (nds<|zs++[(q,⟨c,a,nm,some c7⟩)]):=by simp[TW.aD,nds]
    rw[a0]at G;exact dM<|a8 q _ a6 G
   |none =>
    refine eU ⟨_,rfl,.inl ⟨rfl,_,SqL.of G.f⟩,_,rfl,u,_,_,rfl,rfl,G.f,au ?_,?_⟩
    ·have:=TW.dz<|nds zs;rw[bh]at this;rw[length_map,length_cons];omega
    ·have a3:=G.fold c;have a0:(0::TW.aD (nds zs))++[c]=(0:Int)::TW.aD (nds<|zs++[(q,⟨c,a,nm,none⟩)]):=by simp[TW.aD,nds]
     rw[a0]at a3;exact a8 q _ a6 a3
 ·obtain⟨b,Y,R,a4,Z,b8,j,I⟩:=h;obtain⟨d2,rfl⟩:=Am b8;obtain⟨rfl,c4⟩:=a1;have c1:=c4 _<|SqL.of (j _ _ B.n);obtain⟨d,g1,rfl⟩:=di c1;have a2:=mem_of_getElem? g1;have b9:fQ (vals d.2) (some 1) (some 3)=[.int d.2.par,.str d.2.nm]:=rfl;refine⟨_,rfl,_,rfl,_,rfl,d.1,_,rfl,SqT.of<|j _ _ (B.nd d a2),(λh=>by have h1:(1:Nat)=0:=h.1;cases h1),λq l=>?_⟩;rw[b9];refine⟨ca l I,b++[(q,plK d.2)],by rw[Y];simp,?_,by simp[a4],?_,rfl,aC L<|j.trans (ag l),ac⟩
  ·rw[map_append,R,take_succ,show(nds zs)[i]?=some d.2 by unfold nds;rw[getElem?_map,g1];rfl,map_append];rfl
  ·intro z C;have a7:q≠p:=λz=>by rw[z,I]at l;cases l
   rcases mem_append.mp C with C | C
   ·have:=ca (o:=.tup [.int d.2.par,.str d.2.nm]) l<|Z z C;rw[ae]
    ·exact this
    ·intro e;rw[e,ae<|Ne.symm a7,I]at this;cases this
   ·have e:z=(q,plK d.2):=by simpa using C
    subst e;rw[ae a7];exact ac
 ·rintro _ _ _ _ _ m h;exact m _ _ h
 ·rintro _ _ _ _ m ⟨c9,b2,c5,b3,c6,b4,b1,D,b5,b6,b7,q⟩;exact⟨c9,b2,c5,b3,c6,b4,b1,D,b5,b6,b7,λp L=>m _ _<|q p L⟩
theorem xj{f:zo}{b6:xl}(F:Fun K "_law_tree" "_law_tree" iC f b6)(T:Txt mg)(C:Has P w K mg base 2 "_law_pick" ["_law_script","_law_k","_law_many"]<|qL K):FnOk P w K mg base CX0 3 f b6 ["_law_script","_law_at","_law_most"] (ip K):=by
 obtain⟨h8,h9,v,I,G,x⟩:=C;refine F.ok scB (λvs H Q E h=>?_) λcdv A outer s H vs Q E u h=>?_
 ·obtain⟨a,X,m,rfl,_⟩:=h;rfl
 ·obtain⟨a,X,m,rfl,e2,e5,e6,z,k⟩:=h;obtain⟨i9,a7,b7⟩:=CY (P:=P) (w:=w) (mg:=mg) (base:=base) (f:=f) (cdv:=cdv) (A:=A) (outer:=outer) (s:=s) (H0:=H) (E:=E) u;refine⟨_,(ai (aA (i:=3) scB.nd rfl (Or.inl rfl)<|aS (kQ rfl) rfl T.list rfl (aa (aS sT rfl T.range rfl<|aa ao (aa (aR bR (pv 2) ao) af)) af))
    (ai (aA (i:=4) scB.nd rfl (Or.inl rfl)<|bn (aa ao af))
    (ai (aA (i:=5) scB.nd rfl (Or.inl rfl)<|bn af)
    (ai (dY PassesOwn.never rfl (sx rfl T.range<|aa (ax v u rfl I G x .nil aJ<|aa (pv 0) (aa (pv 1)<|aa (aR bR (pv 2) ao) af)) af) (aB (i:=6) scB.nd rfl<|Or.inl rfl)
    (ai (aA (i:=7) scB.nd rfl (Or.inl rfl)<|cn plainAttrs_list slot_list_pop type_list_pop uB (pv 3) (aa (ax v u rfl I G x .nil aJ<|aa (pv 0) (aa (aR bR (aR bR (pv 1) ao)<|aR dZ ao (pv 6))<|aa (aF aY rfl T.len boot_len<|aa (pv 3) af) af)) af))
    (ai (aA (i:=8) scB.nd rfl (Or.inl rfl)<|bD gI (pv 4) (ax v u rfl I G x .nil aJ<|aa (pv 0) (aa (aR bR (aR bR (pv 1) ao)<|aR dZ ao (pv 6))<|aa (aF aY rfl T.len boot_len<|aa (pv 4) af) af)) (λ_ _=>rfl))
    (ai (aA (i:=9) scB.nd rfl (Or.inl rfl)<|bD gI (bn<|aa dX (aa dX<|aa dX (aa dX af))) (ax v u rfl I G x .nil aJ<|aa (pv 0) (aa (aR bR (aR bR (pv 1) ao)<|aR dZ ao (pv 6))<|aa ao af)) (λ_ _=>rfl))
    (ai (aA (i:=10) scB.nd rfl (Or.inl rfl) jm)
    (ai (cZ (bw BP (ax v u rfl I G x .nil aJ<|aa (pv 0) (aa (aR bR (aR bR (pv 1) ao)<|aR dZ ao (pv 6))<|aa ao af)) ao<|bz _) (am<|aA (i:=10) scB.nd rfl (Or.inl rfl) (bD gI (bn<|aa ao (aa ao<|aa ao (aa ao af))) (ax v u rfl I G x .nil aJ<|aa (pv 0) (aa (aR bR (aR bR (pv 1) ao)<|aR dZ ao (pv 6))<|aa ao af)) λ_ _=>rfl)) bj)
    (am a7)))))))
    (am<|aH (aS dC rfl T.tuple rfl<|aa (aF iy rfl T.sorted boot_sorted<|aa (pv 5) af) af)))))),?_⟩
  refine⟨_,rfl,_,_,rfl,rfl,_,_,rfl,λa6 O=>⟨a6,_,_,rfl,ac,⟨by decide,by decide,by omega,by omega⟩,by omega,λpl R=>?_⟩⟩;refine⟨aW (by decide),λpf J=>⟨zero_le _,λpn D=>?_⟩⟩;have c9:Same H (upd (upd (upd (upd H a6<|.rng 1 (m+4)) pl<|.lst ((List.range (m+4-1:Int).toNat).map λk=>V.int<|1+(k:Nat))) pf<|.lst [.int 0]) pn<|.lst []):=(((ag O).trans (ag R)).trans (ag J)).trans (ag D);have Z:pl≠pf:=λe=>by rw[<-e,ac]at J;cases J
  have c0:pl≠pn:=λe=>by rw[<-e,ae Z,ac]at D;cases D
  have b8:pf≠pn:=λe=>by rw[<-e,ac]at D;cases D
  have d3:Sta H pl pf pn (upd (upd (upd (upd H a6<|.rng 1 (m+4)) pl<|.lst ((List.range (m+4-1:Int).toNat).map λk=>V.int<|1+(k:Nat))) pf<|.lst [.int 0]) pn<|.lst []) (lf0 m) [0] [] :=
   ⟨c9,by rw[ae c0,ae Z,ac,lf0,map_map];rfl,by rw[ae b8,ac];rfl,ac,λd j=>by simp at j,(ag O).free R,((ag O).trans (ag R)).free J,(((ag O).trans (ag R)).trans (ag J)).free D,Z,c0,b8⟩
  have d5:Bd [] (lf0 m):=Bd.zero e6;refine⟨_,rfl,_,rfl,_,rfl,_,_,rfl,rfl,a,_,_,rfl,e2,by omega,z.same c9,λr H1 i7 i8 s1=>⟨r,rfl,by omega,by omega,?_⟩⟩;refine sB (n:=r.toNat) (λi σ H'=>∃c zs a2 a3 a4 a5 a1,σ=[some<|.ref a,some<|.int X,some<|.int m,some<|.ref pl,some<|.ref pf,some<|.ref pn,a2,a3,a4,a5,a1]/\Sta H pl pf pn H' c (0::TW.aD (nds zs)) zs/\Bd zs c/\(c.length:Int)+i=m+3/\zs.length<=i)
   ⟨_,[],_,_,_,_,_,rfl,d3.grow s1,d5,by rw[yi e5];omega,le_refl _⟩ (λi σ H' hi h=>?_) (λσ H' h=>?_)
  ·obtain⟨c,zs,a2,a3,a4,a5,a1,rfl,g,B,e4,f2⟩:=h;have i0:i<10:=by omega
   have j0:(0:Int)<=X+1+6*(0+(i:Int)):=by omega
   refine⟨_,rfl,.inl ⟨rfl,_,SqL.of g.l⟩,_,rfl,_,rfl,_,_,rfl,rfl,_,rfl,_,_,rfl,rfl,.inl ⟨by decide,by decide⟩,_,_,rfl,rfl,_,rfl,pl,_,rfl,.inl<|SqL.of g.l,a,_,_,rfl,by omega,by rw[length_map];omega,z.same g.same,λt H2 f4 c5 h1=>?_⟩;rw[length_map]at c5;have a9:=g.grow h1;obtain⟨num,Y⟩:∃num,c[t.toNat]?=some num:=⟨_,getElem?_eq_getElem (by omega)⟩;refine⟨pl,_,t,t.toNat,.int num,rfl,rfl,a9.l,by omega,by omega,by rw[length_map];exact Ao f4 c5,by rw[getElem?_map,Y];rfl,?_⟩;rw[lJ];have M:=a9.pop<|c.eraseIdx t.toNat;have N:(c.eraseIdx t.toNat).length=c.length-1:=List.length_eraseIdx_of_lt (by omega);generalize upd H2 pl (.lst<|(c.eraseIdx t.toNat).map V.int)=h5 at M|-;refine⟨_,rfl,_,rfl,_,rfl,_,_,rfl,rfl,_,rfl,_,_,rfl,rfl,.inl ⟨by decide,by decide⟩,_,_,rfl,rfl,_,rfl,pf,_,rfl,.inl<|SqL.of M.f,a,_,_,rfl,by omega,by rw[length_map,length_cons];omega,z.same M.same,λi1 h6 f5 c6 h2=>?_⟩;rw[length_map]at c6;obtain⟨S,c8,e0⟩:=yf f5 c6;have b0:=M.grow h2;refine⟨pf,_,_,_,rfl,rfl,SqL.of b0.f,e0,?_⟩;refine⟨aW (by decide),λh0 e8=>?_⟩;have b1:=b0.grow<|ag (o:=.lst [.str "a",.str "b",.str "c",.str "abcde"]) e8;refine⟨_,rfl,_,rfl,_,_,rfl,rfl,_,rfl,_,_,rfl,rfl,.inl ⟨by decide,by decide⟩,_,_,rfl,rfl,a,_,_,rfl,by omega,by decide,z.same b1.same,λi2 h7 f6 f7 d0=>?_⟩;obtain⟨nm,c2,d9⟩:=yg f6 f7;refine⟨h0,_,_,_,rfl,rfl,SqL.of<|d0 _ _ ac,d9,?_⟩;have b2:=b1.grow d0;refine⟨_,rfl,_,rfl,_,_,rfl,rfl,_,rfl,_,_,rfl,rfl,.inl ⟨by decide,by decide⟩,_,_,rfl,rfl,a,_,_,rfl,by omega,by decide,z.same b2.same,λi3 d6 i4 i5 h3=>⟨_,_,rfl,rfl,_,rfl,?_⟩⟩;have b3:=b2.grow h3;refine Dx (λe3=>?_) λe3=>?_
   ·refine⟨aW (by decide),λa7 e9=>?_⟩;have b4:=b3.grow<|ag (o:=.lst [.int 0,.int 1,.int 2,.int 999]) e9;refine⟨_,rfl,_,rfl,_,_,rfl,rfl,_,rfl,_,_,rfl,rfl,.inl ⟨by decide,by decide⟩,_,_,rfl,rfl,a,_,_,rfl,by omega,by decide,z.same b4.same,λi6 d7 f8 f9 d1=>?_⟩;obtain⟨c4,f0,e1⟩:=yh f8 f9;refine⟨a7,_,_,_,rfl,rfl,SqL.of<|d1 _ _ ac,e1,?_⟩;have d4:=b4.grow d1;exact b7 _ H d7 pl pf pn _ _ _ _ (c.eraseIdx t.toNat) zs num S nm (some c4) d4 (by omega) (λH' U=>⟨_,zs,_,_,_,_,_,rfl,U,B.skip _,by rw[N];omega,by omega⟩)
     (λq H' a0 W=>⟨_,_,_,_,_,_,_,rfl,W,B.add (q:=q) (n:=⟨num,S,nm,(some c4)⟩) Y c8 a0 c2 f0,by rw[N];omega,by rw[length_append,length_singleton];omega⟩)
   ·exact b7 _ H d6 pl pf pn _ _ _ _ (c.eraseIdx t.toNat) zs num S nm none b3 (by omega) (λH' U=>⟨_,zs,_,_,_,_,_,rfl,U,B.skip _,by rw[N];omega,by omega⟩)
     (λq H' a0 W=>⟨_,_,_,_,_,_,_,rfl,W,B.add (q:=q) (n:=⟨num,S,nm,none⟩) Y c8 a0 c2<|.inl rfl,by rw[N];omega,by rw[length_append,length_singleton];omega⟩)
  ·obtain⟨c,zs,a2,a3,a4,a5,a1,rfl,g,B,e4,f2⟩:=h;have f3:(zs.length:Int)<=m:=by omega
   have e7:(zs.map tp).map (·.2.1)=(nds zs).map (·.num):=by
    unfold nds;simp only[map_map];rfl
   have c1:((nds zs).map (·.num)).Nodup:=(nodup_append.mp B.nd).1;refine⟨_,rfl,pn,zs.map tp,rfl,SqL.of (by rw[g.n,rF]),λd j=>?_,by rw[e7];exact c1,by rw[length_map];omega,λL pm h4 p c3=>?_⟩
   ·obtain⟨y,f1,rfl⟩:=mem_map.mp j;exact g.nd y f1
   ·obtain⟨a8,b5⟩:=back pm;have d8:(L.map (·.1)).map V.ref=bg (L.map un):=by rw[<-rF,b5]
    rw[d8];refine⟨p,_,rfl,.inl ⟨SqL.of ac,λl b9=>?_⟩⟩;have c7:∀d,d∈L.map un->d∈zs:=λd j=>a8.mem_iff.mp j;refine k l (L.map un) _ ac ?_ (by rw[a8.length_eq];exact f3) ?_ (λd j=>B.ok d<|c7 d j)<|(g.same.trans<|ag c3).trans (ag b9)
    ·intro d j;exact((ag c3).trans (ag b9)) _ _ (g.nd d<|c7 d j)
    ·refine TW.yd B.built (a8.map _) ?_ c1 B.own;unfold nds;rw[pairwise_map];have d2:((L.map un).map tp).Pairwise (λa b=>a.2.1<b.2.1):=by rw[b5];exact h4
     rw[pairwise_map]at d2;exact d2.imp λh=>Int.le_of_lt h
end
def cj:Str:=("law"++".<locals>.")++"<lambda>"
def pB(c:zo)(inner:Hp->VK->Prop):Sp:=λvs H Q _=>vs=[]/\H c=some (.ext<|cdφ c cj)/\inner H Q
theorem cK{c:zo}{q:Str}{a H':Hp}(T:aL a c q)(o:bO c a H'){b:zo}{u:HO}(e:a b=some u)(n:∀ps,u≠.tbl ps):H' b=some u:=o b u (λd=>by
 obtain⟨ps,h1,_⟩:=T;rw[d,h1]at e;exact n ps (Option.some.inj e).symm) e
theorem qM{P b:zo}{q q':Str}{a H':Hp}(n:P≠b)(o:bO b a H')(T:aL a b q)(d:aL a P q'):aL H' P q':=by
 obtain⟨ps,h1,h2,h3⟩:=d;refine⟨ps,o P _ n h1,h2,λpos e h=>?_⟩;obtain⟨c,f,g⟩:=h3 pos e h;exact⟨c,f,cK T o g λps i=>by cases i⟩
def Fix(H H':Hp):Prop:=∀b u,H b=some u->(∀ys,u≠.lst ys)->(∀ps,u≠.tbl ps)->H' b=some u
theorem Fix.trans{c d H3:Hp}(a:Fix c d)(b:Fix d H3):Fix c H3:=λx u h n m=>b x u (a x u h n m) n m
theorem pC{a H':Hp}{P:zo}{q:Str}(T:aL a P q)(i:∀u,a P=some u->H' P=some u)(f:Fix a H'):aL H' P q:=by
 obtain⟨ps,h1,h2,h3⟩:=T;refine⟨ps,i _ h1,h2,λpos d h=>?_⟩;obtain⟨c,e,g⟩:=h3 pos d h;exact⟨c,e,f _ _ g (λys b=>by cases b) λps b=>by cases b⟩
theorem dW{J:Hp->Prop}{inner:Hp->VK->Prop}{Wt:Hp->List V->Prop}{PC:zo}(E:∀a,J a->aL a PC dm)(D:∀a H',J a->bO PC a H'->aL H' PC dm->J H')(L:∀a H' xs,Wt a xs->Fix a H'->Wt H' xs)(K:∀a xs ys,Wt a xs->Wt a ys->cz a xs ys)(x:∀a Q,J a->(∀l xs H',a l=none->bO PC a H'->aL H' PC dm->H' l=some (.lst xs)->xs.length<=100->Wt H' xs->Q (.ref l) H')->inner a Q){a:Hp}{f c:zo}(j:J a)(v:a c=some (.ext<|cdφ c cj)){Q:VK}(q:∀h,bO PC a h->aL h PC dm->Q (.bl true) h):cS f (pB c inner) [.ref f] a Q E0:=by
 refine⟨rfl,rfl,v,x a _ j λl xs H1 A F y k C H=>⟨l,xs,rfl,k,C,λg i=>?_⟩⟩;have z:g≠l:=λe=>by rw[e,k]at i;cases i
 have m:bO PC a (upd (upd H1 g<|.lst xs) l<|.lst (xs++[.str "?"])):=λb o n e=>by
  have t:=F b o n e;rw[ae (λd=>by rw[d,A]at e;cases e),ae<|ak t i];exact t
 have r:Fix H1 (upd (upd H1 g<|.lst xs) l<|.lst (xs++[.str "?"])):=λb u e n _=>by
  rw[ae (λd=>by rw[d,k]at e;exact n xs (Option.some.inj e).symm),ae<|ak e i];exact e
 have w:upd (upd H1 g<|.lst xs) l (.lst<|xs++[.str "?"]) g=some (.lst xs):=by rw[ae z,ac]
 have p:aL (upd (upd H1 g<|.lst xs) l<|.lst (xs++[.str "?"])) PC dm:=pC y (λu e=>by
  obtain⟨ps,h1,_⟩:=y;rw[ae (λd=>by rw[d,k]at h1;cases h1),ae<|ak e i];exact e) r
 generalize upd (upd H1 g<|.lst xs) l (.lst<|xs++[.str "?"])=H2 at m r w p|-;refine⟨rfl,cK (E a j) m v λps d=>(by cases d),x H2 _ (D a H2 j m p) λl2 ys h _ s G B _ I=>⟨l2,ys,rfl,B,cK p s w λps d=>(by cases d),K h ys xs I<|L _ _ _ H (r.trans λb u e _ n=>cK p s e n),q h (m.trans s) G⟩⟩
section
variable{X:Cx}{g PL c0:zo}{fdg:xl}{k:Nat}{p lpos pos:Pos}{params:Arguments}{body:Expr}{scope:Scope}{cl:List (Str×zo)}{fs:List Str}{js:List Nat}{inner:List V->Hp->VK->Prop}
theorem lT(T:Txt X.mg)(KB:X.K.In X.base)(l:CodeHd X.base c0 PL)(r:X.env.code=.ref c0)(e:BmB X.base X.mg)(F:X.env.qual++"<lambda>"=cj)(x:defaultsOf params X.env=([],[]))(u:closureFor scope X.env=pure cl)(m:CapOk X scope cl fs js)(i:Fun X.K "_law_stays" "_law_stays" cJ g fdg)(I:X.mg "_law_stays"=some (.ref g))(n:aE X.K fdg ["_law_deed"] [])(S:LaScope [] scope cl)(d:Room (k+2) X.A)(z:Gl X "_law_stays")(q:∀(a:qa),X.K.In a->BmB a X.mg->∀(f c:zo) (fv:List V) (A:xg) (outer:List Env) (s:zi) (H:Hp) (Q:VK) (E:XK),fs.length=fv.length->Room k (A.deeper<|envX cj scope s.heap.objs.size f (.ref c) cl)->inner fv H Q->∃t,PE (vO CX0 X.prog X.w X.K X.mg a ([]++fs) cj scope f (.ref c) cl A outer s H E) body t/\t (([]:List V).map some++fv.map some) H Q)(J:∀fv H Q b,(∀v H',Q v H'->b v H')->inner fv H Q->inner fv H b)(o:∀(pm ctv:zt) (c:zo),bindArgs (kla_fn "<lambda>" cj params body scope cl pm (.ref c) ctv) ⟨[],[]⟩=pure [])(y:starEach [.Lambda params body scope lpos] X.env=(false,eval (.Lambda params body scope lpos) X.env)::starEach [] X.env:=by rfl):
  PE X (.Call (.Name "_law_stays" p) [.Lambda params body scope lpos] [] pos) (Ch PL cj js λf c fv=>cS f<|pB c (inner fv)):=by
 have G:=i.kp;refine qr (k:=k+2) (qual:=cj) l r e F x u m (λa f c pm ctv fv sub j C=>?_) d z I G n (by decide) y;refine vT i T j (rM (k:=k) (ps:=[]) (fs:=fs) (fv:=fv) j (λvs H Q E h=>h.2.1) S C (λvs H Q E h=>by obtain⟨rfl,_⟩:=h;rfl) λA outer s H vs Q E d h=>?_) (.all λus B=>match us,B with | [],_=>o pm ctv c) λH Q b D h=>⟨h.1,h.2.1,J fv H Q b D h.2.2⟩;obtain⟨rfl,_,h⟩:=h;exact q a (KB.keeps sub) (e.sub sub) f c fv A outer s H Q E C.len d h
end
section
variable{H H':Hp}{Pt:zo}{q:Str}
theorem Tags.offp{d:zo}{gs:TG}(a:Tags H d gs)(o:bO Pt H H')(T:aL H Pt q):Tags H' d gs:=⟨by
 rcases a.dct with e|⟨u,e⟩
 ·exact .inl (cK T o e λps b=>by cases b)
 ·exact .inr ⟨u,cK T o e λps b=>by cases b⟩,λg c=>(a.at' g c).offp o T,a.nd,a.len⟩
theorem EntAt.offp{e:Ent}(h:EntAt H e)(o:bO Pt H H')(T:aL H Pt q):EntAt H' e:=⟨cK T o h.ob λps z=>(by cases z),cK T o h.st λps z=>(by cases z),h.tr.offp o T,h.tg.offp o T⟩
theorem LAt.offp{C p g t d pl c:zo}{h z:ZN}{gs:TG}{f as:List Ent}(a:LAt C H p g t d pl c h z gs f as)(o:bO Pt H H')(T:aL H Pt q):LAt C H' p g t d pl c h z gs f as :=
 ⟨let⟨dx,e⟩:=a.ob;⟨dx,cK T o e λps z=>(by cases z)⟩,a.tf.offp o T,a.tr.offp o T,a.tg.offp o T,cK T o a.ps λps z=>(by cases z),cK T o a.ah λps z=>(by cases z),a.ne,λe b=>(a.ep e b).offp o T,λe b=>(a.ea e b).offp o T⟩
end
structure K9(C PC t o p d pl al:zo)(zs us:ZN)(e:Ent)(H:Hp):Prop where
 tr:Tre H t zs
 ot:Tre H o us
 tC:aL H PC dm
 l1:zs.length<=8
 L:LAt C H p t t d pl al zs zs [(("a":Str),(t,zs))] [e] []
 ex:e.xs=[.str "tag",.str "a"]
section
variable{C PC t o p d pl al:zo}{zs us:ZN}{e:Ent}{H H':Hp}
theorem K9.off(k:K9 C PC t o p d pl al zs us e H)(f:bO PC H H')(a:aL H' PC dm):K9 C PC t o p d pl al zs us e H':=⟨k.tr.offp f k.tC,k.ot.offp f k.tC,a,k.l1,k.L.offp f k.tC,k.ex⟩
theorem fw{P:zo}(s:Same H H'):bO P H H':=λb u _ e=>s b u e
theorem iK{xs:List V}(c:∀x∈xs,jT H 3 x x):cz H xs xs:=⟨rfl,λi x y a b=>by
 rw[a]at b;cases b;exact c x<|mem_of_getElem? a⟩
theorem kJ(ks:List Int):cz H (ks.map V.int) (ks.map V.int):=iK λx a=>by
 obtain⟨k,_,rfl⟩:=mem_map.mp a;exact bi ⟨rfl,rfl⟩
def qO(zs:ZN)(d:Hp)(xs:List V):Prop:=∃b,xs=(b.map λc:Cv=>V.ref c.a)/\ShAt d zs 0 [] b
theorem nB{H H':Hp}(f:Fix H H'){b:zo}{xs:List V}(h:H b=some (.tup xs)):H' b=some (.tup xs):=f _ _ h (λys z=>by cases z) λps z=>by cases z
theorem qO.fix{xs:List V}(d:qO zs H xs)(f:Fix H H'):qO zs H' xs:=by
 obtain⟨b,rfl,S⟩:=d;exact⟨b,rfl,λc a=>⟨nB f (S.at' c a).1,nB f (S.at' c a).2⟩,S.up,S.mem⟩
theorem qO.alike{xs ys:List V}(G:qO zs H xs)(h':qO zs H ys):cz H xs ys:=by
 obtain⟨h,rfl,S⟩:=G;obtain⟨ds,rfl,j⟩:=h';have e:h.map (λc=>(c.p,c.v))=ds.map (λc=>(c.p,c.v)):=eO (R:=λx y:List Str×V=>HT.cG x.1 y.1=true) (λx=>by rw[HT.cH];simp) (λx y h1 h2=>by
   have:=HT.jk h1 h2;rw[HT.cH]at this;cases this) (pairwise_map.mpr S.up) (pairwise_map.mpr j.up) λx=>by
    have m:∀{es:List Cv},ShAt H zs 0 [] es->(x∈es.map (λc=>(c.p,c.v))↔∃n∈bel zs 0,x.2=stV n.2.st/\TW.PathTo (nds zs) n.2.num ([]++x.1)):=λ{es} S=>by
     rw[<-S.mem x.1 x.2,mem_map];constructor
     ·rintro⟨c,k,rfl⟩;exact⟨c,k,rfl,rfl⟩
     ·rintro⟨c,k,A,B⟩;exact⟨c,k,by rw[A,B]⟩
    rw[m S,m j]
 have D:h.length=ds.length:=by have:=congrArg length e;rwa [length_map,length_map]at this
 refine⟨by rw[length_map,length_map,D],λi x y b d=>?_⟩;rw[getElem?_map]at b d;cases h1:h[i]? with
 |none=>rw[h1]at b;cases b
 |some f =>
  cases h2:ds[i]? with
  |none=>rw[h2]at d;cases d
  |some g =>
   rw[h1]at b;rw[h2]at d;cases b;cases d;have C:(f.p,f.v)=(g.p,g.v):=by
    have h3:(h.map λc=>(c.p,c.v))[i]?=(ds.map λc=>(c.p,c.v))[i]?:=by rw[e]
    rw[getElem?_map,getElem?_map,h1,h2]at h3;exact Option.some.inj h3
   injection C with o E
   have q:=mem_of_getElem? h1;obtain⟨r,s⟩:=S.at' f q;obtain⟨w,z⟩:=j.at' g<|mem_of_getElem? h2;obtain⟨n,_,F,_⟩:=(S.mem f.p f.v).mp ⟨f,q,rfl,rfl⟩;refine .inr ⟨f.a,g.a,_,_,rfl,rfl,.inl ⟨r,w⟩,rfl,λl x y b d=>?_⟩
   match l,b,d with
   |0,b,d =>
    cases b;cases d;refine .inr ⟨f.t,g.t,_,_,rfl,rfl,.inl ⟨s,z⟩,by rw[o],λl x y b d=>?_⟩;rw[o,d]at b;cases b;obtain⟨u,_,rfl⟩:=mem_map.mp<|mem_of_getElem? d;exact bi ⟨rfl,rfl⟩
   |1,b,d =>
    cases b;cases d;exact bi ⟨E,by rw[F];exact(wM _).1⟩
   |l+2,b,d=>simp at b
theorem Bw{f c:zo}(k:K9 C PC t o p d pl al zs us e H)(g:H c=some (.ext<|cdφ c cj)){Q:VK}(q:∀a,bO PC H a->aL a PC dm->Q (.bl true) a):cS f (pB c λH Q=>ke ([.ref t]++[.int 0]) H Q E0) [.ref f] H Q E0 :=
 dW (J:=K9 C PC t o p d pl al zs us e) (Wt:=qO zs) (λ_ k=>k.tC) (λ_ _ k f j=>k.off f j) (λ_ _ _ w f=>w.fix f) (λ_ _ _ w m=>w.alike m) (λH Q k q=>⟨t,0,zs,[],rfl,k.tr,by decide,by decide,.inl rfl,.top,λl b H1 s1 i n h S=>q l _ H1 i (fw s1) (bQ k.tC s1) h (by rw[length_map];omega) ⟨b,rfl,S⟩⟩) k g q
def zd(zs:ZN)(H:Hp)(xs:List V):Prop:=∃ws M,xs=crf ws/\gB H ws/\Marks zs M/\ws.Pairwise (λa b=>cP a.2 b.2=true)/\∀a b,(a,b)∈ws.map (·.2)↔(a,b)∈prs (av zs)/\M a=M b
theorem ze{l m:List (Int×Int)}(d:l.Pairwise λa b=>cP a b=true)(f:m.Pairwise λa b=>cP a b=true)(c:∀x,x∈l↔x∈m):l=m :=
 eO (R:=λa b:Int×Int=>cP a b=true) (λa e=>by have:=cY.mp e;omega) (λa b h1 h2=>by have:=cY.mp h1;have:=cY.mp h2;omega) d f c
theorem zd.alike(T:TW.Tree1<|nds zs){xs ys:List V}(o:zd zs H xs)(h':zd zs H ys):cz H xs ys:=by
 obtain⟨ws,M,rfl,A,mk,r,p⟩:=o;obtain⟨vs,N,rfl,B,k,s,q⟩:=h';have e:ws.map (·.2)=vs.map (·.2):=ze (pairwise_map.mpr r) (pairwise_map.mpr s) λx=>by
  rw[show x∈ws.map (·.2)↔(x.1,x.2)∈ws.map (·.2)from Iff.rfl,show x∈vs.map (·.2)↔(x.1,x.2)∈vs.map (·.2)from Iff.rfl,p,q];constructor
  ·rintro⟨h1,h2⟩;obtain⟨c,d⟩:=cT h1;exact⟨h1,(k.iff T (aP c)<|aP d).mpr ((mk.iff T (aP c)<|aP d).mp h2)⟩
  ·rintro⟨h1,h2⟩;obtain⟨c,d⟩:=cT h1;exact⟨h1,(mk.iff T (aP c)<|aP d).mpr ((k.iff T (aP c)<|aP d).mp h2)⟩
 have n:ws.length=vs.length:=by have:=congrArg length e;rwa [length_map,length_map]at this
 refine⟨by unfold crf;rw[length_map,length_map,n],λi x y a b=>?_⟩;unfold crf at a b;rw[getElem?_map]at a b;cases h1:ws[i]? with
 |none=>rw[h1]at a;cases a
 |some f =>
  cases h2:vs[i]? with
  |none=>rw[h2]at b;cases b
  |some g =>
   rw[h1]at a;rw[h2]at b;cases a;cases b;have m:f.2=g.2:=by
    have h3:(ws.map (·.2))[i]?=(vs.map (·.2))[i]?:=by rw[e]
    rw[getElem?_map,getElem?_map,h1,h2]at h3;exact Option.some.inj h3
   have l:=A f<|mem_of_getElem? h1;have h:=B g<|mem_of_getElem? h2;rw[<-m]at h;refine .inr ⟨f.1,g.1,_,_,rfl,rfl,.inl ⟨l,h⟩,rfl,λj x y a b=>?_⟩;rw[a]at b;cases b
   match j,a with
   |0,a=>cases a;exact bi ⟨rfl,rfl⟩
   |1,a=>cases a;exact bi ⟨rfl,rfl⟩
   |j+2,a=>simp at a
theorem Bx{f c:zo}(k:K9 C PC t o p d pl al zs us e H)(b:H c=some (.ext<|cdφ c cj)){Q:VK}(q:∀a,bO PC H a->aL a PC dm->Q (.bl true) a):cS f (pB c λH Q=>kc PC [.ref t] H Q E0) [.ref f] H Q E0:=by
 have T:=k.tr.tr;have x:=k.l1;have h:(av zs).length<=18:=by
  unfold av ar;refine le_trans (length_filter_le _ _) ?_;rw[length_map];exact le_trans (length_filter_le _ _) (by omega)
 exact dW (J:=K9 C PC t o p d pl al zs us e) (Wt:=zd zs) (λ_ k=>k.tC) (λ_ _ k f g=>k.off f g) (λ_ _ _ ⟨ws,M,h1,h2,h3⟩ f=>⟨ws,M,h1,λc b=>nB f<|h2 c b,h3⟩) (λ_ _ _ w u=>w.alike T u) (λH Q k q=>⟨t,zs,rfl,k.tr,k.tC,h,λM mk=>few mk T (by omega),λl ws M H1 r m v g mk j i s n=>q l _ H1 m r g j (by unfold crf;rw[length_map];omega) ⟨ws,M,rfl,i,mk,s,n⟩⟩) k b q
theorem By{f c:zo}(k:K9 C PC t o p d pl al zs us e H)(j:H c=some (.ext<|cdφ c cj)){Q:VK}(q:∀g,bO PC H g->aL g PC dm->Q (.bl true) g):cS f (pB c λH Q=>0<=sizeLine/\∀a,H a=none->kh (.ref a::[.ref t,.ref o]) (upd H a<|.tup []) Q E0) [.ref f] H Q E0 :=
 dW (J:=K9 C PC t o p d pl al zs us e) (Wt:=λH xs=>∃ks:List Int,xs=ks.map V.int/\ks.Pairwise (· < ·)/\∀x,x∈ks↔TW.wS [] (nds zs) (nds us) x) (λ_ k=>k.tC) (λ_ _ k f v=>k.off f v) (λ_ _ _ w _=>w) (λH xs ys ⟨ks,h1,h2,h3⟩ ⟨ls,g1,g2,g3⟩=>by
   have:ks=ls:=wJ h2 g2 λx=>by rw[h3,g3]
   subst this;rw[h1,g1];exact kJ ks) (λH Q k q=>⟨zero_le _,λa i=>by
  have b:=ag (o:=.tup ([]:List V)) i;have y:Tre (upd H a<|.tup []) a []:=⟨ac,λB s=>(nomatch s),⟨⟨.nil,.nil,λn h=>(nomatch h)⟩,λn h=>(nomatch h)⟩,zero_le _⟩;exact⟨a,t,o,[],zs,us,rfl,y,k.tr.same b,k.ot.same b,λl ks H1 s1 r m z A u=>q l _ H1 (b.free r) (fw<|b.trans s1) (bQ k.tC<|b.trans s1) m (by rw[length_map];omega) ⟨ks,rfl,z,u⟩⟩⟩) k j q
theorem Bz{f c:zo}(k:K9 C PC t o p d pl al zs us e H)(b:H c=some (.ext<|cdφ c cj)){Q:VK}(q:∀a,bO PC H a->aL a PC dm->Q (.bl true) a):cS f (pB c λH Q=>km ([.ref t]++[.ref t]) H Q E0) [.ref f] H Q E0:=by
 have g:=k.tr.len;have j:=cB k.tr.tr;exact dW (J:=K9 C PC t o p d pl al zs us e) (Wt:=λ_ xs=>xs=(sg<|zs.filter (gC<|nds zs)).map V.int) (λ_ k=>k.tC) (λ_ _ k f m=>k.off f m) (λ_ _ _ w _=>w) (λH xs ys h1 h2=>by rw[h1,h2];exact kJ _) (λH Q k q=>⟨t,t,zs,zs,rfl,k.tr,k.tr.tup,k.tr.nod,g,j,λl H1 s1 i h=>q l _ H1 i (fw s1) (bQ k.tC s1) h (by rw[length_map];unfold sg;rw[length_map];exact le_trans (length_filter_le _ _) (by omega)) rfl⟩) k b q
theorem xk{b t d pl a:zo}:(flL b t d pl a).lookup ("tags":Str)=none:=kG (by decide +kernel) (by decide +kernel) (by decide +kernel) (by decide +kernel) (by decide +kernel)
theorem lU{b t d pl a:zo}:(flL b t d pl a).lookup ("steps":Str)=none:=kG (by decide +kernel) (by decide +kernel) (by decide +kernel) (by decide +kernel) (by decide +kernel)
def inM(C:zo)(m:Str)(sp:Sp)(fv:List V)(a:Hp)(Q:VK):Prop:=∃p dx b,fv=[.ref p]/\a p=some (.ins C dx b)/\b.lookup m=none/\sp [.ref p] a Q E0
theorem zg{f c:zo}(k:K9 C PC t o p d pl al zs us e H)(h:H c=some (.ext<|cdφ c cj)){Q:VK}(q:∀a,bO PC H a->aL a PC dm->Q (.bl true) a):cS f (pB c<|inM C "tags" (eQ C) [.ref p]) [.ref f] H Q E0 :=
 dW (J:=K9 C PC t o p d pl al zs us e) (Wt:=λ_ xs=>xs=[.str "a"]) (λ_ k=>k.tC) (λ_ _ k f n=>k.off f n) (λ_ _ _ w _=>w) (λH xs ys h1 h2=>by
   rw[h1,h2];exact iK λx j=>by rw[mem_singleton.mp j];exact bi ⟨rfl,rfl⟩) (λH Q k q=>by
  obtain⟨dx,i⟩:=k.L.ob;refine⟨p,dx,_,rfl,i,xk,p,t,t,d,pl,al,zs,zs,_,[e],[],rfl,k.L,λm h1 h2 l b=>?_⟩;have g:m=[("a":Str)]:=List.perm_singleton.mp h1;subst g;have s1:=ag (o:=.lst [.str "a"]) b;exact q l [.str "a"] _ b (fw s1) (bQ k.tC s1) ac (by decide) rfl) k h q
theorem xm{f c:zo}(k:K9 C PC t o p d pl al zs us e H)(i:H c=some (.ext<|cdφ c cj)){Q:VK}(q:∀b,bO PC H b->aL b PC dm->Q (.bl true) b):cS f (pB c<|inM C "steps" (fu C) [.ref p]) [.ref f] H Q E0 :=
 dW (J:=K9 C PC t o p d pl al zs us e) (Wt:=λH xs=>xs=[.ref e.sa]/\H e.sa=some (.tup [.str "tag",.str "a"])) (λ_ k=>k.tC) (λ_ _ k f r=>k.off f r) (λ_ _ _ w f=>⟨w.1,nB f w.2⟩) (λH xs ys h1 h2=>by
   rw[h1.1,h2.1];exact iK λx a=>by
    rw[mem_singleton.mp a];refine .inr ⟨e.sa,e.sa,_,_,rfl,rfl,.inl ⟨h1.2,h1.2⟩,rfl,λh x y a g=>?_⟩;rw[a]at g;cases g
    match h,a with
    |0,a=>cases a;exact bi ⟨rfl,rfl⟩
    |1,a=>cases a;exact bi ⟨rfl,rfl⟩
    |h+2,a=>simp at a) (λH Q k q=>by
  obtain⟨dx,n⟩:=k.L.ob;refine⟨p,dx,_,rfl,n,lU,p,t,t,d,pl,al,zs,zs,_,[e],[],rfl,k.L,(show 1<=200 by decide),λl H1 s1 m j=>?_⟩;have h1:=(k.L.ep e mem_cons_self).st;rw[k.ex]at h1;exact q l [.ref e.sa] H1 m (fw s1) (bQ k.tC s1) j (show 1<=100 by decide) ⟨rfl,s1 _ _ h1⟩) k i q
end
def N91:List Str:=["_law_script","_law_tree_here","_law_other","_law_ledger","_law_good"]
theorem xn:FnScope N91 ["_law_script"] (aj tI):=fsM
abbrev GX(P:xx)(w:qq)(K:Frag)(mg:Str->Option zt)(base:qa)(f cL:zo)(A:xg)(outer:List Env)(s:zi)(H:Hp)(E:XK):Cx:=(fO CX0 P w K mg base N91 "law" (aj tI) f (.ref cL) A outer s H E).nox
abbrev RG(A:xg)(s:zi)(f cL:zo):Prop:=Room 7<|A.deeper (PyProof.Rows.envOfC "law" (aj tI) s.heap.objs.size f<|.ref cL)
def gS(i:Nat):Stmt:=(aZ tI).getD i (.Pass ⟨0,0,0,0⟩)
abbrev gσ(a t o p:zo)(b:Option V):St:=[some<|.ref a,some<|.ref t,some<|.ref o,some<|.ref p,b]
theorem lk1{n x:Str}{c b:zo}(a:[(n,c)].lookup x=some b):x=n/\b=c:=by
 by_cases e:x=n
 ·subst e;rw[lookup_cons,beq_self_eq_true]at a;exact⟨rfl,(Option.some.inj a).symm⟩
 ·rw[lookup_cons,show(x==n)=false by simpa using e]at a
  cases a
theorem lk2{n m x:Str}{c d b:zo}(a:[(n,c),(m,d)].lookup x=some b):(x=n/\b=c)\/(x=m/\b=d):=by
 by_cases e:x=n
 ·subst e;rw[lookup_cons,beq_self_eq_true]at a;exact .inl ⟨rfl,(Option.some.inj a).symm⟩
 ·rw[lookup_cons,show(x==n)=false by simpa using e]at a
  exact .inr<|lk1 a
theorem fv1{fs:Str}{fv:List V}(h:[fs].length=fv.length):∃v,fv=[v]:=match fv,h with | [v],_=>⟨v,rfl⟩
theorem zh{a b:Str}{fv:List V}(h:[a,b].length=fv.length):∃v u,fv=[v,u]:=match fv,h with | [v,u],_=>⟨v,u,rfl⟩
def aX(n:Nat):List V:=replicate n<|.bl true
theorem qP(n:Nat):aX n++[.bl true]=aX (n+1):=by unfold aX;rw[List.replicate_succ']
structure L91(K:Frag)(mg:Str->Option zt)(base:qa)(cL PL g:zo)(fdg:xl):Prop where
 T:Txt mg
 KB:K.In base
 C0:CodeHd base cL PL
 Bm:BmB base mg
 FS:Fun K "_law_stays" "_law_stays" cJ g fdg
 mS:mg "_law_stays"=some (.ref g)
 bS:aE K fdg ["_law_deed"] []
section
variable{P:xx}{w:qq}{K:Frag}{mg:Str->Option zt}{base:qa}{f cL PL PC g C:zo}{A:xg}{outer:List Env}{s:zi}{H0:Hp}{E:XK}{fdg:xl}
theorem K9.same{t o p d pl b:zo}{zs us:ZN}{e:Ent}{a H':Hp}(k:K9 C PC t o p d pl b zs us e a)(s:Same a H'):K9 C PC t o p d pl b zs us e H':=⟨k.tr.same s,k.ot.same s,bQ k.tC s,k.l1,k.L.same s,k.ex⟩
theorem K9.offL{t o p d pl b:zo}{zs us:ZN}{e:Ent}{a H':Hp}(k:K9 C PC t o p d pl b zs us e a)(n:PC≠PL)(f:bO PL a H')(T:aL a PL cj):K9 C PC t o p d pl b zs us e H':=⟨k.tr.offp f T,k.ot.offp f T,qM n f T k.tC,k.l1,k.L.offp f T,k.ex⟩
theorem iq{t o p d pl i go:zo}{zs us:ZN}{e:Ent}{n:Nat}{g a:Hp}(k1:K9 C PC t o p d pl i zs us e g)(y:aL g PL cj)(x:PC≠PL)(s:g go=some (.lst<|aX n))(A:n<=50)(v:pl≠go)(w:i≠go)(j:bO PC g a)(h:aL a PC dm){Q:VK}(q:∀H',K9 C PC t o p d pl i zs us e H'->aL H' PL cj->H' go=some (.lst<|aX (n+1))->Q .non H'):qZ (.ref go) [.bl true] a Q:=by
 have f:=cK k1.tC j s λps c=>(by cases c);have k3:=k1.off j h;have z:=qM (Ne.symm x) j k1.tC y;refine⟨go,_,_,rfl,rfl,f,au (by unfold aX;rw[length_replicate];omega),?_⟩;rw[qP];have r:Fix a (upd a go<|.lst (aX<|n+1)):=λb u e m _=>by rw[ae λc=>by rw[c,f]at e;exact m _ (Option.some.inj e).symm];exact e
 have st:dw a (upd a go<|.lst (aX<|n+1)):=λb u e m _=>by rw[ae λc=>by rw[c,f]at e;exact m _ (Option.some.inj e).symm];exact e
 have l:∀{T:zo}{q:Str},aL a T q->aL (upd a go<|.lst (aX<|n+1)) T q:=λ{T q} h=>pC h (λu e=>by
  obtain⟨ps,h1,_⟩:=h;rw[ae λc=>by rw[c,f]at h1;cases h1];exact e) r
 refine q _ ⟨k3.tr.stay st,k3.ot.stay st,l k3.tC,k3.l1,k3.L.off st (λu e=>?_) (λu e=>by rw[ae v];exact e) (λu e=>by rw[ae w];exact e),k3.ex⟩ (l z) ac;rw[ae λc=>by obtain⟨dx,k⟩:=k3.L.ob;rw[c,f]at k;cases k];exact e
theorem g3(a2:RG A s f cL)(j:L91 K mg base cL PL g fdg)(CN:∀m,K.In m->BmB m mg->Has P w K mg m 3 "shape" ["tree","number"] ke):
  ∃F,PS (GX P w K mg base f cL A outer s H0 E) (gS 3) F/\∀(n:Ends)(H:Hp)(a t o p d pl al:zo)(zs us:ZN)(e:Ent)(I:Option V),K9 C PC t o p d pl al zs us e H->aL H PL cj->PC≠PL ->
   (∀go H',K9 C PC t o p d pl al zs us e H'->aL H' PL cj->H' go=some (.lst<|aX 1)->pl≠go->al≠go->n.nx (gσ a t o p<|some (.ref go)) H')->F n (gσ a t o p I) H:=by
 refine⟨_,aA (i:=4) xn.nd rfl (Or.inl rfl)<|bn (aa (lT (k:=3) (cl:=[("_law_tree_here",s.heap.objs.size+3)]) (fs:=["_law_tree_here"]) (js:=[1]) (inner:=λfv H Q=>ke (fv++[.int 0]) H Q E0) j.T j.KB j.C0 rfl j.Bm rfl rfl rfl ?O j.FS j.mS j.bS ?S (a2.mono (by decide)) rfl ?B ?M λ_ _ _=>rfl) af),?_⟩
 case O=>exact⟨rfl,λx c h=>by obtain⟨rfl,rfl⟩:=lk1 h;rfl,λi b8 x h1 h2=>by
  match i,h1,h2 with
  |0,h1,h2=>cases h1;cases h2;exact⟨rfl,rfl,rfl,_,rfl⟩
  | i+1,h1,h2=>simp at h1,λ_=>rfl⟩
 case S =>
  refine⟨rfl,rfl,rfl,by decide +kernel,(λx a4=>by cases a4),nodup_nil,λx h=>?_,λx y c h1 h2=>?_⟩
  ·have e:x=("_law_tree_here":Str):=(by decide +kernel:∀y∈_,y.2=NameKind.free->y.1=("_law_tree_here":Str)) _ (PySem.mem_of_lookup h) rfl;subst e;exact⟨_,rfl⟩
  ·exact(lk1 h1).1.trans (lk1 h2).1.symm
 case B =>
  intro m a6 bm U c fv b1 b9 s' H Q b2 a0 a3 h;obtain⟨v,rfl⟩:=fv1 a0;obtain⟨b5,b6,J,a7,a5,L⟩:=CN m a6 bm;exact⟨_,ax J a3 rfl a7 a5 L .nil aJ<|aa (pv 0) (aa ao af),_,rfl,h⟩
 case M =>
  intro fv H Q b4 a1 h;obtain⟨t,k,zs,a9,R,h1,h2,h3,W,X,Y⟩:=h;exact⟨t,k,zs,a9,R,h1,h2,h3,W,X,λl N H' s a b c d=>a1 _ _<|Y l N H' s a b c d⟩
 intro n H a t o p d pl al zs us e I k u z q;refine⟨u,[.ref t],rfl,λU c H1 a8 tl Z b7=>?_⟩;have k1:=k.offL z a8 u;refine Bw k1 Z λb3 D b0=>⟨(show 1<=sizeLine from aW (by decide)),λgo r=>?_⟩;have k3:=k1.off D b0;have G:=ag (o:=.lst [.bl true]) r;exact q go _ (k3.same G) (bQ (qM (Ne.symm z) D k1.tC tl) G) ac (ak k3.L.ps r)<|ak k3.L.ah r
theorem g4(a0:RG A s f cL)(j:L91 K mg base cL PL g fdg)(CN:∀m,K.In m->BmB m mg->Has P w K mg m 5 "alike_folders" ["tree"] (kc PC)):
  ∃I,PS (GX P w K mg base f cL A outer s H0 E) (gS 4) I/\∀(r:Ends)(H:Hp)(a t o p d pl al go:zo)(zs us:ZN)(e:Ent)(n:Nat),K9 C PC t o p d pl al zs us e H->aL H PL cj->PC≠PL->n<=50->H go=some (.lst<|aX n)->pl≠go->al≠go ->
   (∀H',K9 C PC t o p d pl al zs us e H'->aL H' PL cj->H' go=some (.lst<|aX (n+1))->r.nx (gσ a t o p<|some (.ref go)) H')->I r (gσ a t o p<|some (.ref go)) H:=by
 refine⟨_,aQ<|cn plainAttrs_list PySem.F.slot_list_append PySem.F.type_list_append aM (pv 4) (aa (lT (k:=5) (cl:=[("_law_tree_here",s.heap.objs.size+3)]) (fs:=["_law_tree_here"]) (js:=[1]) (inner:=λfv H Q=>kc PC fv H Q E0) j.T j.KB j.C0 rfl j.Bm rfl rfl rfl ?O j.FS j.mS j.bS ?S (a0.mono (by decide)) rfl ?B ?M λ_ _ _=>rfl) af),?_⟩
 case O=>exact⟨rfl,λx c h=>by obtain⟨rfl,rfl⟩:=lk1 h;rfl,λi b8 x h1 h2=>by
  match i,h1,h2 with
  |0,h1,h2=>cases h1;cases h2;exact⟨rfl,rfl,rfl,_,rfl⟩
  | i+1,h1,h2=>simp at h1,λ_=>rfl⟩
 case S =>
  refine⟨rfl,rfl,rfl,by decide +kernel,(λx a2=>by cases a2),nodup_nil,λx h=>?_,λx y c h1 h2=>?_⟩
  ·have e:x=("_law_tree_here":Str):=(by decide +kernel:∀y∈_,y.2=NameKind.free->y.1=("_law_tree_here":Str)) _ (PySem.mem_of_lookup h) rfl;subst e;exact⟨_,rfl⟩
  ·exact(lk1 h1).1.trans (lk1 h2).1.symm
 case B =>
  intro m a4 bm R c fv b1 b9 s' H Q b2 X a1 h;obtain⟨v,rfl⟩:=fv1 X;obtain⟨b5,b6,J,a5,a3,L⟩:=CN m a4 bm;exact⟨_,ax J a1 rfl a5 a3 L .nil aJ<|aa (pv 0) af,_,rfl,h⟩
 case M =>
  intro fv H Q b4 Y h;obtain⟨t,zs,N,h1,h2,h3,U,V⟩:=h;exact⟨t,zs,N,h1,h2,h3,U,λl ws M H' a b c d e f g h i=>Y _ _<|V l ws M H' a b c d e f g h i⟩
 intro r H a t o p d pl al go zs us e n k u D Z z a6 a7 q;refine⟨_,rfl,.inl ⟨rfl,_,SqL.of z⟩,u,[.ref t],rfl,λR c H1 G tl W b7=>?_⟩;have k1:=k.offL D G u;refine Bx k1 W λb3 a8 a9=>?_;exact iq (Q:=λ_ H'=>r.nx (gσ a t o p<|some (.ref go)) H') k1 tl D (cK u G z λps b0=>(by cases b0)) Z a6 a7 a8 a9 q
theorem g5(a2:RG A s f cL)(j:L91 K mg base cL PL g fdg)(CN:∀m,K.In m->BmB m mg->Has P w K mg m 4 "clashing" ["first","one","other"] kh):
  ∃R,PS (GX P w K mg base f cL A outer s H0 E) (gS 5) R/\∀(z:Ends)(H:Hp)(a t o p d pl al go:zo)(zs us:ZN)(e:Ent)(n:Nat),K9 C PC t o p d pl al zs us e H->aL H PL cj->PC≠PL->n<=50->H go=some (.lst<|aX n)->pl≠go->al≠go ->
   (∀H',K9 C PC t o p d pl al zs us e H'->aL H' PL cj->H' go=some (.lst<|aX (n+1))->z.nx (gσ a t o p<|some (.ref go)) H')->R z (gσ a t o p<|some (.ref go)) H:=by
 refine⟨_,aQ<|cn plainAttrs_list PySem.F.slot_list_append PySem.F.type_list_append aM (pv 4) (aa (lT (k:=4) (cl:=[("_law_tree_here",s.heap.objs.size+3),("_law_other",s.heap.objs.size+2)]) (fs:=["_law_tree_here","_law_other"]) (js:=[1,2]) (inner:=λfv H Q=>0<=sizeLine/\∀a,H a=none->kh (.ref a::fv) (upd H a<|.tup []) Q E0) j.T j.KB j.C0 rfl j.Bm rfl rfl rfl ?O j.FS j.mS j.bS ?S (a2.mono (by decide)) rfl ?B ?M λ_ _ _=>rfl) af),?_⟩
 case O=>exact⟨rfl,λx c h=>by rcases lk2 h with⟨rfl,rfl⟩|⟨rfl,rfl⟩<;>rfl,λi c3 x h1 h2=>by
  match i,h1,h2 with
  |0,h1,h2=>cases h1;cases h2;exact⟨rfl,rfl,rfl,_,rfl⟩
  |1,h1,h2=>cases h1;cases h2;exact⟨rfl,rfl,rfl,_,rfl⟩
  | i+2,h1,h2=>simp at h1,λ_=>rfl⟩
 case S =>
  refine⟨rfl,rfl,rfl,by decide +kernel,(λx a4=>by cases a4),nodup_nil,λx h=>?_,λx y c h1 h2=>?_⟩
  ·have e:x=("_law_tree_here":Str)\/x=("_law_other":Str):=(by decide +kernel:∀y∈_,y.2=NameKind.free->y.1=("_law_tree_here":Str)\/y.1=("_law_other":Str)) _ (PySem.mem_of_lookup h) rfl;rcases e with rfl|rfl
   ·exact⟨_,rfl⟩
   ·exact⟨_,rfl⟩
  ·rcases lk2 h1 with⟨rfl,G⟩|⟨rfl,G⟩<;>rcases lk2 h2 with⟨rfl,r⟩|⟨rfl,r⟩
   ·rfl
   ·exact absurd (G.symm.trans r) (by show ¬(s.heap.objs.size+_:Nat)=s.heap.objs.size+_;omega)
   ·exact absurd (G.symm.trans r) (by show ¬(s.heap.objs.size+_:Nat)=s.heap.objs.size+_;omega)
   ·rfl
 case B =>
  intro m a6 bm W c fv b6 c4 s' H Q b7 Z a3 h;obtain⟨v,u,rfl⟩:=zh Z;obtain⟨c0,c1,U,a7,a5,V⟩:=CN m a6 bm;exact⟨_,ax U a3 rfl a7 a5 V .nil aJ<|aa (bA af) (aa (pv 0)<|aa (pv 1) af),h.1,λa I=>⟨_,rfl,_,rfl,h.2 a I⟩⟩
 case M =>
  intro fv H Q b9 a0 h;refine⟨h.1,λa I=>?_⟩;obtain⟨f,o,t,b3,b4,b5,r,h1,h2,h3,X⟩:=h.2 a I;exact⟨f,o,t,b3,b4,b5,r,h1,h2,h3,λl ks H' s a b c d e=>a0 _ _<|X l ks H' s a b c d e⟩
 intro z H a t o p d pl al go zs us e n k D L a1 J a8 a9 q;refine⟨_,rfl,.inl ⟨rfl,_,SqL.of J⟩,D,[.ref t,.ref o],rfl,λW c H1 N tl Y c2=>?_⟩;have k1:=k.offL L N D;refine By k1 Y λb8 b0 b1=>?_;exact iq (Q:=λ_ H'=>z.nx (gσ a t o p<|some (.ref go)) H') k1 tl L (cK D N J λps b2=>(by cases b2)) a1 a8 a9 b0 b1 q
theorem g6(a1:RG A s f cL)(j:L91 K mg base cL PL g fdg)(CN:∀m,K.In m->BmB m mg->Has P w K mg m 2 "kept_alike" ["one","other"] km):
  ∃I,PS (GX P w K mg base f cL A outer s H0 E) (gS 6) I/\∀(r:Ends)(H:Hp)(a t o p d pl al go:zo)(zs us:ZN)(e:Ent)(n:Nat),K9 C PC t o p d pl al zs us e H->aL H PL cj->PC≠PL->n<=50->H go=some (.lst<|aX n)->pl≠go->al≠go ->
   (∀H',K9 C PC t o p d pl al zs us e H'->aL H' PL cj->H' go=some (.lst<|aX (n+1))->r.nx (gσ a t o p<|some (.ref go)) H')->I r (gσ a t o p<|some (.ref go)) H:=by
 refine⟨_,aQ<|cn plainAttrs_list PySem.F.slot_list_append PySem.F.type_list_append aM (pv 4) (aa (lT (k:=2) (cl:=[("_law_tree_here",s.heap.objs.size+3)]) (fs:=["_law_tree_here"]) (js:=[1]) (inner:=λfv H Q=>km (fv++fv) H Q E0) j.T j.KB j.C0 rfl j.Bm rfl rfl rfl ?O j.FS j.mS j.bS ?S (a1.mono (by decide)) rfl ?B ?M λ_ _ _=>rfl) af),?_⟩
 case O=>exact⟨rfl,λx c h=>by obtain⟨rfl,rfl⟩:=lk1 h;rfl,λi b9 x h1 h2=>by
  match i,h1,h2 with
  |0,h1,h2=>cases h1;cases h2;exact⟨rfl,rfl,rfl,_,rfl⟩
  | i+1,h1,h2=>simp at h1,λ_=>rfl⟩
 case S =>
  refine⟨rfl,rfl,rfl,by decide +kernel,(λx a3=>by cases a3),nodup_nil,λx h=>?_,λx y c h1 h2=>?_⟩
  ·have e:x=("_law_tree_here":Str):=(by decide +kernel:∀y∈_,y.2=NameKind.free->y.1=("_law_tree_here":Str)) _ (PySem.mem_of_lookup h) rfl;subst e;exact⟨_,rfl⟩
  ·exact(lk1 h1).1.trans (lk1 h2).1.symm
 case B =>
  intro m a5 bm R c fv b2 c0 s' H Q b3 Y a2 h;obtain⟨v,rfl⟩:=fv1 Y;obtain⟨b6,b7,J,a6,a4,L⟩:=CN m a5 bm;exact⟨_,ax J a2 rfl a6 a4 L .nil aJ<|aa (pv 0) (aa (pv 0) af),_,rfl,_,rfl,h⟩
 case M =>
  intro fv H Q b5 Z h;obtain⟨a,b,zs,us,N,h1,h2,h3,U,V,W⟩:=h;exact⟨a,b,zs,us,N,h1,h2,h3,U,V,λl H' s a b=>Z _ _<|W l H' s a b⟩
 intro r H a t o p d pl al go zs us e n k u D a0 z a7 a8 q;refine⟨_,rfl,.inl ⟨rfl,_,SqL.of z⟩,u,[.ref t],rfl,λR c H1 G tl X b8=>?_⟩;have k1:=k.offL D G u;refine Bz k1 X λb4 a9 b0=>?_;exact iq (Q:=λ_ H'=>r.nx (gσ a t o p<|some (.ref go)) H') k1 tl D (cK u G z λps b1=>(by cases b1)) a0 a7 a8 a9 b0 q
theorem g7(a4:RG A s f cL)(j:L91 K mg base cL PL g fdg){G:zo}{I:xl}(m:LCls K mg C)(U:Meth K C "tags" G)(W:aE K I ["self"] [])(CN:∀r,K.In r->BmB r mg->FnOk P w K mg r CX0 1 G I ["self"] (eQ C)):
  ∃R,PS (GX P w K mg base f cL A outer s H0 E) (gS 7) R/\∀(u:Ends)(H:Hp)(a t o p d pl al go:zo)(zs us:ZN)(e:Ent)(n:Nat),K9 C PC t o p d pl al zs us e H->aL H PL cj->PC≠PL->n<=50->H go=some (.lst<|aX n)->pl≠go->al≠go ->
   (∀H',K9 C PC t o p d pl al zs us e H'->aL H' PL cj->H' go=some (.lst<|aX (n+1))->u.nx (gσ a t o p<|some (.ref go)) H')->R u (gσ a t o p<|some (.ref go)) H:=by
 refine⟨_,aQ<|cn plainAttrs_list PySem.F.slot_list_append PySem.F.type_list_append aM (pv 4) (aa (lT (k:=1) (cl:=[("_law_ledger",s.heap.objs.size+1)]) (fs:=["_law_ledger"]) (js:=[3]) (inner:=inM C "tags"<|eQ C) j.T j.KB j.C0 rfl j.Bm rfl rfl rfl ?O j.FS j.mS j.bS ?S (a4.mono (by decide)) rfl ?B ?M λ_ _ _=>rfl) af),?_⟩
 case O=>exact⟨rfl,λx c h=>by obtain⟨rfl,rfl⟩:=lk1 h;rfl,λi c1 x h1 h2=>by
  match i,h1,h2 with
  |0,h1,h2=>cases h1;cases h2;exact⟨rfl,rfl,rfl,_,rfl⟩
  | i+1,h1,h2=>simp at h1,λ_=>rfl⟩
 case S =>
  refine⟨rfl,rfl,rfl,by decide +kernel,(λx a6=>by cases a6),nodup_nil,λx h=>?_,λx y c h1 h2=>?_⟩
  ·have e:x=("_law_ledger":Str):=(by decide +kernel:∀y∈_,y.2=NameKind.free->y.1=("_law_ledger":Str)) _ (PySem.mem_of_lookup h) rfl;subst e;exact⟨_,rfl⟩
  ·exact(lk1 h1).1.trans (lk1 h2).1.symm
 case B =>
  intro r a7 bm Z c fv b5 c2 s' H Q b6 c0 a5 h;obtain⟨p,dx,v,rfl,a3,z,h⟩:=h;exact⟨_,gG (pv 0) m.cl U (CN r a7 bm) a5 W .nil aJ,_,rfl,p,dx,v,rfl,a3,z,h⟩
 case M =>
  intro fv H Q b8 a2 h;obtain⟨p,dx,v,X,g1,g2,b2,ft,t,d,pl,al,b4,D,a0,es,V,Y,h2,h3⟩:=h;exact⟨p,dx,v,X,g1,g2,b2,ft,t,d,pl,al,b4,D,a0,es,V,Y,h2,λa8 a b l c=>a2 _ _<|h3 a8 a b l c⟩
 intro u H a t o p d pl al go zs us e n k m L z J a9 b0 q;refine⟨_,rfl,.inl ⟨rfl,_,SqL.of J⟩,m,[.ref p],rfl,λZ c H1 N tl a1 b9=>?_⟩;have k1:=k.offL L N m;refine zg k1 a1 λb7 b1 b3=>?_;exact iq (Q:=λ_ H'=>u.nx (gσ a t o p<|some (.ref go)) H') k1 tl L (cK m N J λps D=>(by cases D)) z a9 b0 b1 b3 q
theorem g8(a5:RG A s f cL)(j:L91 K mg base cL PL g fdg){G:zo}{I:xl}(m:LCls K mg C)(U:Meth K C "steps" G)(W:aE K I ["self"] [])(CN:∀r,K.In r->BmB r mg->FnOk P w K mg r CX0 1 G I ["self"] (fu C)):
  ∃R,PS (GX P w K mg base f cL A outer s H0 E) (gS 8) R/\∀(u:Ends)(H:Hp)(a t o p d pl al go:zo)(zs us:ZN)(e:Ent)(n:Nat),K9 C PC t o p d pl al zs us e H->aL H PL cj->PC≠PL->n<=50->H go=some (.lst<|aX n)->pl≠go->al≠go ->
   (∀H',K9 C PC t o p d pl al zs us e H'->aL H' PL cj->H' go=some (.lst<|aX (n+1))->u.nx (gσ a t o p<|some (.ref go)) H')->R u (gσ a t o p<|some (.ref go)) H:=by
 refine⟨_,aQ<|cn plainAttrs_list PySem.F.slot_list_append PySem.F.type_list_append aM (pv 4) (aa (lT (k:=1) (cl:=[("_law_ledger",s.heap.objs.size+1)]) (fs:=["_law_ledger"]) (js:=[3]) (inner:=inM C "steps"<|fu C) j.T j.KB j.C0 rfl j.Bm rfl rfl rfl ?O j.FS j.mS j.bS ?S (a5.mono (by decide)) rfl ?B ?M λ_ _ _=>rfl) af),?_⟩
 case O=>exact⟨rfl,λx c h=>by obtain⟨rfl,rfl⟩:=lk1 h;rfl,λi c1 x h1 h2=>by
  match i,h1,h2 with
  |0,h1,h2=>cases h1;cases h2;exact⟨rfl,rfl,rfl,_,rfl⟩
  | i+1,h1,h2=>simp at h1,λ_=>rfl⟩
 case S =>
  refine⟨rfl,rfl,rfl,by decide +kernel,(λx a7=>by cases a7),nodup_nil,λx h=>?_,λx y c h1 h2=>?_⟩
  ·have e:x=("_law_ledger":Str):=(by decide +kernel:∀y∈_,y.2=NameKind.free->y.1=("_law_ledger":Str)) _ (PySem.mem_of_lookup h) rfl;subst e;exact⟨_,rfl⟩
  ·exact(lk1 h1).1.trans (lk1 h2).1.symm
 case B =>
  intro r a8 bm Z c fv b5 c2 s' H Q b6 c0 a6 h;obtain⟨p,dx,v,rfl,a4,z,h⟩:=h;exact⟨_,gG (pv 0) m.cl U (CN r a8 bm) a6 W .nil aJ,_,rfl,p,dx,v,rfl,a4,z,h⟩
 case M =>
  intro fv H Q b8 a3 h;obtain⟨p,dx,v,X,g1,g2,b2,ft,t,d,pl,al,b4,D,a0,es,V,Y,h2,h3,a1⟩:=h;exact⟨p,dx,v,X,g1,g2,b2,ft,t,d,pl,al,b4,D,a0,es,V,Y,h2,h3,λl H' s a b=>a3 _ _<|a1 l H' s a b⟩
 intro u H a t o p d pl al go zs us e n k m L z J a9 b0 q;refine⟨_,rfl,.inl ⟨rfl,_,SqL.of J⟩,m,[.ref p],rfl,λZ c H1 N tl a2 b9=>?_⟩;have k1:=k.offL L N m;refine xm k1 a2 λb7 b1 b3=>?_;exact iq (Q:=λ_ H'=>u.nx (gσ a t o p<|some (.ref go)) H') k1 tl L (cK m N J λps D=>(by cases D)) z a9 b0 b1 b3 q
end
theorem zk{b t d pl a:zo}:(flL b t d pl a).lookup ("tag":Str)=none:=kG (by decide +kernel) (by decide +kernel) (by decide +kernel) (by decide +kernel) (by decide +kernel)
theorem tY{b t d pl a:zo}:(flL b t d pl a).lookup ("sizes":Str)=none:=kG (by decide +kernel) (by decide +kernel) (by decide +kernel) (by decide +kernel) (by decide +kernel)
theorem pD:∀n:Nat,(replicate n [V.bl true]).flatten=aX n
 |0=>rfl
 |n+1=>by
  rw[replicate_succ,flatten_cons,pD n];rfl
section
variable{P:xx}{w:qq}{K:Frag}{mg:Str->Option zt}{base:qa}{f cL PL PC C:zo}{A:xg}{outer:List Env}{s:zi}{H0:Hp}{E:XK}
theorem g0(O:RG A s f cL)(x:Has P w K mg base 3 "_law_tree" ["_law_script","_law_at","_law_most"]<|ip K):
  ∃p,PS (GX P w K mg base f cL A outer s H0 E) (gS 0) p/\∀(b:Ends)(H:Hp)(a:zo)(u v d e:Option V),jN K H a ->
   (∀t o zs us H',Same H H'->Tre H' t zs->Tre H' o us->zs.length<=8->b.nx [some<|.ref a,some<|.ref t,some<|.ref o,d,e] H')->p b [some<|.ref a,u,v,d,e] H:=by
 obtain⟨fT,fdT,GT,m,l,h⟩:=x;have k:Room 3 _:=O.mono (by decide);refine⟨_,zK (bA<|aa (ax GT k rfl m l h .nil aJ<|aa (pv 0) (aa ao<|aa ao af)) (aa (ax GT k rfl m l h .nil aJ<|aa (pv 0) (aa ao<|aa ao af)) af))<|lW (n:=2) rfl (cD (aB (i:=1) xn.nd rfl<|Or.inr rfl)<|cD (aB (i:=2) xn.nd rfl<|Or.inr rfl) jf),?_⟩;intro b H a u v d e j q;have mk:∀{H1:Hp}{t:zo}{zs:ZN},H1 t=some (.tup<|bg zs)->At H1 zs->(zs.length:Int)<=8->TW.Tree (nds zs)->(∀g∈zs,An g.2)->Tre H1 t zs:=λh1 h2 h3 y z=>⟨h1,h2,⟨y,λn M=>by obtain⟨g,S,rfl⟩:=mK M;exact(z g S).1⟩,by omega⟩;refine⟨_,rfl,a,0,8,rfl,by decide,by decide,by decide,j,λt zs H1 Q B J G D s1=>?_⟩;refine⟨_,rfl,a,100,8,rfl,by decide,by decide,by decide,j.same s1,λo us H2 R C L I F r=>?_⟩;refine⟨le2,λT N=>?_⟩;refine⟨T,_,rfl,SqT.of ac,rfl,_,_,rfl,_,_,rfl,rfl,?_⟩;have c:=ag (o:=.tup [.ref t,.ref o]) N;exact q t o zs us _ ((s1.trans r).trans c) ((mk Q B J G D).same (r.trans c)) ((mk R C L I F).same c) (by omega)
theorem g1{j:zo}{k:xl}(z:RG A s f cL)(T:LCls K mg C)(M:Mk K C j)(v:FnOk P w K mg base CX0 1 j k ["self","tree"]<|ky C)(x:aE K k ["self","tree"] []):
  ∃n,PS (GX P w K mg base f cL A outer s H0 E) (gS 1) n/\∀(c:Ends)(H:Hp)(a t o:zo)(zs us:ZN)(r h:Option V),Tre H t zs->Tre H o us ->
   (∀p d pl al H',Same H H'->LAt C H' p t t d pl al zs zs [] [] []->c.nx (gσ a t o p h) H')->n c [some<|.ref a,some<|.ref t,some<|.ref o,r,h] H:=by
 have B:Room 2 _:=z.mono (by decide);refine⟨_,aA (i:=3) xn.nd rfl (Or.inr rfl)<|xy M v B rfl T.mgC x .nil aJ (aa (pv 1) af),?_⟩;intro c H a t o zs us r h F I q;refine⟨_,rfl,λp dx m y G=>?_⟩;have g:Same H (upd (upd H dx<|.own p) p<|.ins C dx []):=λb o e=>by rw[ae<|ak e m,ae<|ak e y];exact e
 have l:upd (upd H dx<|.own p) p (.ins C dx []) p=some (.ins C dx []):=ac;generalize upd (upd H dx<|.own p) p (.ins C dx [])=H1 at g l|-;refine⟨p,dx,t,zs,rfl,l,F.same g,λd pl al H2 _ _ _ L D=>?_⟩;exact⟨rfl,q p d pl al H2 (λb u e=>D _ _ (g _ _ e) (by simp;exact ak e m)) L⟩
theorem g2{m i:zo}{j:xl}(x:RG A s f cL)(T:LCls K mg C)(r:Meth K C "tag" i)(GT:FnOk P w K mg base (CX1 P w) 2 i j ["self","name"]<|kH C m)(u:aE K j ["self","name"] []):∃l,PS (GX P w K mg base f cL A outer s H0 E) (gS 2) l/\∀(b:Ends)(H:Hp)(a t o p d pl al:zo)(zs:ZN)(g:Option V),LAt C H p t t d pl al zs zs [] [] [] ->
   (∀d' c e H',dw H H'->LAt C H' p t t d' pl c zs zs [(("a":Str),(t,zs))] [e] []->e.xs=[.str "tag",.str "a"]->b.nx (gσ a t o p g) H')->l b (gσ a t o p g) H:=by
 have y:Room 2 _:=x.mono (by decide);refine⟨_,aQ<|qU (pv 3) T.cl r GT y u .nil vh (aa dX af),?_⟩;intro b H a t o p d pl al zs g L q;obtain⟨dx,v⟩:=L.ob;refine⟨_,rfl,p,dx,_,rfl,v,zk,p,t,t,d,pl,al,zs,zs,[],[],[],"a",rfl,L,by decide +kernel,by decide +kernel,by decide,by decide,λ_ z B d' c H' _ n k o=>?_,λh=>absurd h (by decide +kernel)⟩;exact q d' c _ H' k n rfl
theorem g9{I J:zo}{M N:xl}(R:RG A s f cL)(T:LCls K mg C)(a2:Meth K C "steps" I)(Z:FnOk P w K mg base CX0 1 I M ["self"]<|fu C)(a4:aE K M ["self"] [])(a3:Meth K C "sizes" J)(a0:FnOk P w K mg base CX0 1 J N ["self"]<|kD C)(a5:aE K N ["self"] []):
  ∃X,PS (GX P w K mg base f cL A outer s H0 E) (gS 9) X/\∀(z:Ends)(H:Hp)(a t o p d pl al go:zo)(zs us:ZN)(e:Ent),K9 C PC t o p d pl al zs us e H->H go=some (.lst<|aX 6)->(∀H',z.rt (.bl true) H')->X z (gσ a t o p<|some (.ref go)) H:=by
 have S:Room 1 _:=R.mono (by decide);have F:=vk R;refine⟨_,aH<|ue (gF (qh F) (pv 4) (aR zV (bn<|aa ud af) ao)<|bz _) (ue (gF (qh F) (gG (pv 3) T.cl a2 Z S a4 .nil aJ) (bn<|aa (bA<|aa dX (aa dX af)) af)<|bz _)<|zI (gF (qh F) (gG (pv 3) T.cl a3 a0 S a5 .nil aJ) (bA<|aa ao (aa ao af))<|bz _)),?_⟩;intro z H a t o p d pl al go zs us e k a8 q;have O:∀{H':Hp}{xs:List V},(∀v∈xs,dJ v=true)->jK H' xs xs:=λ{H' xs} h=>⟨rfl,λi x y b c=>by
  rw[b]at c;cases c;exact gu ⟨rfl,h x<|mem_of_getElem? b⟩⟩
 refine⟨_,rfl,(show 1<=sizeLine from aW (by decide)),λl a9=>?_⟩;have s1:=ag (o:=.lst [.bl true]) a9;have g1:upd H l (.lst [.bl true]) l=some (.lst [.bl true]):=ac;generalize upd H l (.lst [.bl true])=H1 at s1 g1|-;refine⟨l,_,_,rfl,rfl,g1,by omega,by omega,(show 1*6<=sizeLine from aW (by decide)),λm b3=>?_⟩;have a7:(replicate (6:Int).toNat [V.bl true]).flatten=aX 6:=pD 6;rw[a7];have n:=s1.trans<|ag (o:=.lst<|aX 6) b3;have g2:upd H1 m (.lst<|aX 6) m=some (.lst<|aX 6):=ac;generalize upd H1 m (.lst<|aX 6)=H2 at n g2|-;refine .inr ⟨go,m,aX 6,aX 6,rfl,rfl,O λv g=>?_,.inl ⟨n _ _ a8,g2⟩,_,rfl,eU ?_⟩
 ·unfold aX at g;rw[List.eq_of_mem_replicate g];rfl
 have B:=k.L.same n;obtain⟨dx,b2⟩:=B.ob;refine⟨_,rfl,p,dx,_,rfl,b2,lU,p,t,t,d,pl,al,zs,zs,_,[e],[],rfl,B,(show 1<=200 by decide),λb7 a1 Y _ b0=>?_⟩;refine⟨le2,λj b5=>⟨(show 1<=sizeLine from aW (by decide)),λW b1=>?_⟩⟩;have G:=ag (o:=.tup [.str "tag",.str "a"]) b5;have r:=ag (o:=.lst [.ref j]) b1;have Q:=(k.L.ep e mem_cons_self).st;rw[k.ex]at Q;refine .inr ⟨b7,W,[.ref e.sa],[.ref j],rfl,rfl,⟨rfl,λi x y b c=>?_⟩,.inl ⟨r _ _<|G _ _ b0,ac⟩,_,rfl,eU ?_⟩
 ·match i,b,c with
  |0,b,c =>
   cases b;cases c;refine .inr ⟨e.sa,j,_,_,rfl,rfl,r _ _<|G _ _ (Y _ _<|n _ _ Q),r _ _ ac,rfl,λU x y b c=>?_⟩;rw[b]at c;cases c
   match U,b with
   |0,b=>cases b;exact gu ⟨rfl,rfl⟩
   |1,b=>cases b;exact gu ⟨rfl,rfl⟩
   |U+2,b=>simp at b
  |i+1,b,c=>simp at b
 have D:=B.same<|(Y.trans G).trans r;generalize upd (upd a1 j<|.tup [.str "tag",.str "a"]) W (.lst [.ref j])=b9 at D|-;obtain⟨a6,b4⟩:=D.ob;refine⟨_,rfl,p,a6,_,rfl,b4,tY,p,t,t,d,pl,al,zs,zs,_,[e],[],rfl,D,λu c0=>?_⟩;refine⟨le2,λb8 b6=>?_⟩;refine .inr ⟨u,b8,[.int 1,.int 0],[.int 1,.int 0],rfl,rfl,O λv g=>?_,.inr ⟨ca b6 ac,ac⟩,q _⟩;rcases mem_cons.mp g with rfl|g
 ·rfl
 ·rw[mem_singleton.mp g];rfl
end
def sr(b PC:zo)(K:Frag):Sp:=λvs H Q _=>∃(a:zo) (ns:List Int),vs=[.ref a]/\SqL K H a (ns.map V.int)/\ns.length<=63/\H b=some (.tbl #[])/\H PC=some (.tbl #[])/\∀H',Q (.bl true) H'
theorem ss{a H':Hp}{b:zo}{q:Str}(T:aL a b q)(s:dw a H'):aL H' b q:=by
 obtain⟨ps,h1,h2,h3⟩:=T;refine⟨ps,s _ _ h1 (λ_ h=>by cases h) (λ_ _ _ h=>by cases h),h2,λpos d e=>?_⟩;obtain⟨c,f,g⟩:=h3 pos d e;exact⟨c,f,s _ _ g (λ_ h=>by cases h) λ_ _ _ h=>by cases h⟩
section
variable{P:xx}{w:qq}{K:Frag}{mg:Str->Option zt}{base:qa}{f cL PL PC C g CT fI fT fS fZ fG:zo}{fd fdg fdI fdT fdS fdZ fdG:xl}
theorem BA(F:Fun K "law" "law" tI f fd)(c5:fd.code=.ref cL)(i:L91 K mg base cL PL g fdg)(l:PC≠PL)(m:LCls K mg C)(M:Mk K C fI)(R:FnOk P w K mg base CX0 1 fI fdI ["self","tree"]<|ky C)(b2:aE K fdI ["self","tree"] [])(a2:Meth K C "tag" fT)(GT:FnOk P w K mg base (CX1 P w) 2 fT fdT ["self","name"]<|kH C CT)(b3:aE K fdT ["self","name"] [])(a1:Meth K C "tags" fG)(b1:aE K fdG ["self"] [])(x:Meth K C "steps" fS)(y:aE K fdS ["self"] [])(a3:Meth K C "sizes" fZ)(S:FnOk P w K mg base CX0 1 fZ fdZ ["self"]<|kD C)(b4:aE K fdZ ["self"] [])(O:Has P w K mg base 3 "_law_tree" ["_law_script","_law_at","_law_most"]<|ip K)(G:∀b,K.In b->BmB b mg->Has P w K mg b 3 "shape" ["tree","number"] ke)(I:∀b,K.In b->BmB b mg->Has P w K mg b 5 "alike_folders" ["tree"] (kc PC))(J:∀b,K.In b->BmB b mg->Has P w K mg b 4 "clashing" ["first","one","other"] kh)(L:∀b,K.In b->BmB b mg->Has P w K mg b 2 "kept_alike" ["one","other"] km)(N:∀b,K.In b->BmB b mg->FnOk P w K mg b CX0 1 fG fdG ["self"] (eQ C))(v:∀b,K.In b->BmB b mg->FnOk P w K mg b CX0 1 fS fdS ["self"] (fu C)):
  FnOk P w K mg base CX0 8 f fd ["_law_script"] (sr PL PC K):=by
 refine F.okT c5 xn (λvs H Q E h=>?_) λA outer s H vs Q E c h=>?_
 ·obtain⟨a,ns,rfl,_⟩:=h;rfl
 ·obtain⟨a,ns,rfl,c4,e8,c3,c2,q⟩:=h;obtain⟨e9,d8,b5⟩:=g0 (cL:=cL) (outer:=outer) (H0:=H) (E:=E) c O;obtain⟨f0,d9,h1⟩:=g1 (cL:=cL) (outer:=outer) (H0:=H) (E:=E) c m M R b2;obtain⟨f1,p2,h2⟩:=g2 (cL:=cL) (outer:=outer) (H0:=H) (E:=E) c m a2 GT b3;obtain⟨f2,e0,h3⟩:=g3 (PC:=PC) (C:=C) (outer:=outer) (H0:=H) (E:=E) c i G;obtain⟨f3,e1,b6⟩:=g4 (C:=C) (outer:=outer) (H0:=H) (E:=E) c i I;obtain⟨f4,e2,b7⟩:=g5 (PC:=PC) (C:=C) (outer:=outer) (H0:=H) (E:=E) c i J;obtain⟨f5,e3,b8⟩:=g6 (PC:=PC) (C:=C) (outer:=outer) (H0:=H) (E:=E) c i L;obtain⟨f6,e4,b9⟩:=g7 (PC:=PC) (outer:=outer) (H0:=H) (E:=E) c i m a1 b1 N;obtain⟨f7,e5,c0⟩:=g8 (PC:=PC) (outer:=outer) (H0:=H) (E:=E) c i m x y v;obtain⟨f8,e6,c1⟩:=g9 (PC:=PC) (cL:=cL) (outer:=outer) (H0:=H) (E:=E) c m x (v base i.KB i.Bm) y a3 S b4;refine⟨_,ai d8<|ai d9 (ai p2<|ai e0 (ai e1<|ai e2 (ai e3<|ai e4 (ai e5<|am e6)))),?_⟩;have b0:aL H PL cj:=.start c3;have a9:aL H PC dm:=.start c2;refine b5 _ H a none none none none ⟨ns,c4⟩ λt o zs us H1 s1 D z d2=>?_;refine h1 _ H1 a t o zs us none none D z λp d pl al H2 u Z=>?_;refine h2 _ H2 a t o p d pl al zs none Z λk j e H3 st a0 ex=>?_;have B:=s1.trans u;have k3:K9 C PC t o p k pl j zs us e H3:=⟨(D.same u).stay st,(z.same u).stay st,ss (bQ a9 B) st,d2,a0,ex⟩;refine h3 _ H3 a t o p k pl j zs us e none k3 (ss (bQ b0 B) st) l λgo T d3 a4 c6 n r=>?_;refine b6 _ T a t o p k pl j go zs us e 1 d3 a4 l (by decide) c6 n r λU k5 a5 c7=>?_;refine b7 _ U a t o p k pl j go zs us e 2 k5 a5 l (by decide) c7 n r λV d4 a6 c8=>?_;refine b8 _ V a t o p k pl j go zs us e 3 d4 a6 l (by decide) c8 n r λW d5 a7 c9=>?_;refine b9 _ W a t o p k pl j go zs us e 4 d5 a7 l (by decide) c9 n r λX d6 a8 d0=>?_;refine c0 _ X a t o p k pl j go zs us e 5 d6 a8 l (by decide) d0 n r λY d7 e7 d1=>?_;exact c1 _ Y a t o p k pl j go zs us e d7 d1 q
end
open PySem PySem.W PyProof.Rows L2
theorem xo{K:Frag}{h:qa}{mg:Str->Option zt}{x:Str}{C:zo}{bB:List zt}{nid:String}(X:K.In h)(f:mg x=some (.ref C))(q:excIn K C bB nid=true):OwnCls x C bB nid mg h:=by
 have g:∃bm N nm i bs hdct sn sub ab col dd k0 k1 k2 k3 k5 a,h.get? C=some (excClassObj nm i C N bs bm hdct sn sub ab col dd k0 k1 k2 k3 k5 nid)/\h.Ns N a/\a "__init__"=none/\OwnTail h bB bm:=by
  unfold excIn at q
  split at q
  case h_2=>exact absurd q (by simp)
  case h_1 d0 c0 s0 hK =>
   split at q
   case h_2=>exact absurd q (by simp)
   case h_1 C1 b1 u0 u1 u2 u3 u4 u5 e1 e2 =>
    rw[and_eq_true,and_eq_true,and_eq_true,and_eq_true,and_eq_true]at q;obtain⟨⟨⟨⟨⟨b,c⟩,d⟩,g4⟩,g5⟩,e⟩:=q;have g1:C1=C:=beq_iff_eq.mp b;have g2:u4=nid:=beq_iff_eq.mp c;have g3:c0.hasDel=false:=by simpa using d
    have g6:nsIn K c0.ns "__init__"=some none:=beq_iff_eq.mp e;clear b c d e;cases c0;cases s0;dsimp only at e1 e2 g3 g5 g6;subst g1 g2 g3 e1 e2;exact⟨_,_,_,_,_,_,_,_,_,_,_,_,_,_,_,_,_,X _ _ hK,Heap.Ns.of_isNs<|PySem.W.isNs_of_in X g5,PySem.W.nsMap_none_of_in X g5 g6,PySem.W.tail_of_in X g4⟩
 exact⟨f,g⟩
theorem DE{b:Type}{P:List b->Prop}{us:List b}(d:us.length=0)(c:P []):P us:=by cases us with|nil=>exact c|cons a r=>cases d
theorem CZ{c:Type}{P:List c->Prop}{us:List c}(b:us.length=1)(d:∀a0,P [a0]):P us:=by cases us with|nil=>cases b|cons a r=>exact DE (P:=λr=>P (a::r)) (Nat.succ.inj b)<|d a
theorem Da{c:Type}{P:List c->Prop}{us:List c}(b:us.length=2)(e:∀a0 d,P [a0,d]):P us:=by cases us with|nil=>cases b|cons a r=>exact CZ (P:=λr=>P (a::r)) (Nat.succ.inj b)<|e a
theorem Db{c:Type}{P:List c->Prop}{us:List c}(b:us.length=3)(f:∀a0 d e,P [a0,d,e]):P us:=by cases us with|nil=>cases b|cons a r=>exact Da (P:=λr=>P (a::r)) (Nat.succ.inj b)<|f a
theorem DF{c:Type}{P:List c->Prop}{us:List c}(b:us.length=4)(g:∀a0 d e f,P [a0,d,e,f]):P us:=by cases us with|nil=>cases b|cons a r=>exact Db (P:=λr=>P (a::r)) (Nat.succ.inj b)<|g a
abbrev gA(K:Frag)(x:Str)(f:zo):Prop:=nsIn K mainGlobals x=some (some<|.ref f)
abbrev gN(K:Frag)(x:Str):Prop:=nsIn K mainGlobals x=some none
theorem fh{P:xx}{w:qq}{K:Frag}{mg:Str->Option zt}{base d:qa}{k:Nat}{x q:Str}{st:Stmt}{f:zo}{c:xl}{ps:List Str}{sp:Sp}(X:K.In d)(e:d.Ns mainGlobals mg)(F:Fun K x q st f c)(a:gA K x f)(b:aE K c ps [])(g:FnOk P w K mg base CX0 k f c ps sp):Has P w K mg base k x ps sp:=⟨f,c,g,mg_of X e a,F.kp,b⟩
theorem fhX{P:xx}{w:qq}{K:Frag}{mg:Str->Option zt}{base d:qa}{k:Nat}{x q:Str}{st:Stmt}{f:zo}{c:xl}{ps:List Str}{sp:Sp}(X:K.In d)(e:d.Ns mainGlobals mg)(F:Fun K x q st f c)(a:gA K x f)(b:aE K c ps [])(g:FnOk P w K mg base (CX1 P w) k f c ps sp):vp P w K mg base k x ps sp:=⟨f,c,g,mg_of X e a,F.kp,b⟩
theorem fb1{K:Frag}{x q c:Str}{st:Stmt}{f:zo}{d:xl}(F:Fun K x q st f d)(g:∀(kV b pm:zt) (a:Option zo) (cdv ct e:zt),bindArgs (fnOf x q (dy st) (aZ st) (aj st) .none kV b pm a cdv ct) ⟨[e],[]⟩=pure (List.zip [c] [e]):=by intros;rfl):aE K d [c] []:=F.binds λkV b pm a cdv ct us h=>CZ (P:=λus=>bindArgs _ ⟨us,[]⟩=pure (List.zip _ us)) h<|g kV b pm a cdv ct
theorem fb2{K:Frag}{x q c d:Str}{st:Stmt}{f:zo}{e:xl}(F:Fun K x q st f e)(i:∀(kV b pm:zt) (a:Option zo) (cdv ct g h:zt),bindArgs (fnOf x q (dy st) (aZ st) (aj st) .none kV b pm a cdv ct) ⟨[g,h],[]⟩=pure (List.zip [c,d] [g,h]):=by intros;rfl):aE K e [c,d] []:=F.binds λkV b pm a cdv ct us j=>Da (P:=λus=>bindArgs _ ⟨us,[]⟩=pure (List.zip _ us)) j<|i kV b pm a cdv ct
theorem fb3{K:Frag}{x q c d e:Str}{st:Stmt}{f:zo}{g:xl}(F:Fun K x q st f g)(k:∀(kV b pm:zt) (a:Option zo) (cdv ct h i j:zt),bindArgs (fnOf x q (dy st) (aZ st) (aj st) .none kV b pm a cdv ct) ⟨[h,i,j],[]⟩=pure (List.zip [c,d,e] [h,i,j]):=by intros;rfl):aE K g [c,d,e] []:=F.binds λkV b pm a cdv ct us l=>Db (P:=λus=>bindArgs _ ⟨us,[]⟩=pure (List.zip _ us)) l<|k kV b pm a cdv ct
theorem fb4{K:Frag}{x q c d e g:Str}{st:Stmt}{f:zo}{h:xl}(F:Fun K x q st f h)(m:∀(kV b pm:zt) (a:Option zo) (cdv ct i j k l:zt),bindArgs (fnOf x q (dy st) (aZ st) (aj st) .none kV b pm a cdv ct) ⟨[i,j,k,l],[]⟩=pure (List.zip [c,d,e,g] [i,j,k,l]):=by intros;rfl):aE K h [c,d,e,g] []:=F.binds λkV b pm a cdv ct us n=>DF (P:=λus=>bindArgs _ ⟨us,[]⟩=pure (List.zip _ us)) n<|m kV b pm a cdv ct
theorem BB{l:PySem.W.OpenLaw}{w:qq}{K:Frag}{e4:qa}{mg:Str->Option zt}{e3 c0 c6 d6 d7 d8 d9 e0 e1 e2 c1 c2 c3 c4 c5 f15 f16 f17 f18 f19 f20 c7 c8 c9 d0 d1 d2 d3 d4 d5 OLedger:zo}(X:K.In e4)(a:e4.Ns mainGlobals mg)(n7:mg "law"=some (.ref e3)){l2 l8 m6 m7 m8 m9 n0 n1 n2 l3 l4 l5 l6 l7 h a3 i j n o l9 m0 b9 m1 m2 m3 m4 m5 p:xl}{p8:Tok}(h8:gA K "is_name" c0)(r:Fun K "is_name" "is_name" vw c0 l2)(i8:gA K "numbers_inside" c6)(F:Fun K "numbers_inside" "numbers_inside" Aq c6 l8)(b7:gA K "by_number" d6)(d:Fun K "by_number" "by_number" vx d6 m6)(j9:gA K "node_of" d7)(Q:Fun K "node_of" "node_of" Ar d7 m7)(k0:gA K "check_folder" d8)(R:Fun K "check_folder" "check_folder" As d8 m8)(k1:gA K "path_up" d9)(S:Fun K "path_up" "path_up" Au d9 m9)(k2:gA K "below" e0)(U:Fun K "below" "below" Av e0 n0)(k3:gA K "walked" e1)(V:Fun K "walked" "walked" yn e1 n1)(k4:gA K "parts_by_number" e2)(Y:Fun K "parts_by_number" "parts_by_number" cp e2 n2)(h9:gA K "unlike_entries" c1)(t:Fun K "unlike_entries" "unlike_entries" cw c1 l3)(i0:gA K "change_between" c2)(u:Fun K "change_between" "change_between" aI c2 l4)(i1:gA K "entries_by_number" c3)(x:Fun K "entries_by_number" "entries_by_number" bV c3 l5)(i2:gA K "clashing" c4)(y:Fun K "clashing" "clashing" cx c4 l6)(i3:gA K "kept_alike" c5)(z:Fun K "kept_alike" "kept_alike" cR c5 l7)(b6:findIn K (.ref OLedger) "__init__"=some (some<|.ref f15))(e5:isFn K (.ref f15)=true)(A:Fun K "__init__" "Ledger.__init__" eF f15 h)(i4:findIn K (.ref OLedger) "go_on"=some (some<|.ref f16))(n8:isFn K (.ref f16)=true)(B:Fun K "go_on" "Ledger.go_on" dD f16 a3)(i5:findIn K (.ref OLedger) "tag"=some (some<|.ref f17))(n9:isFn K (.ref f17)=true)(C:Fun K "tag" "Ledger.tag" fj f17 i)(i6:findIn K (.ref OLedger) "tags"=some (some<|.ref f18))(o0:isFn K (.ref f18)=true)(D:Fun K "tags" "Ledger.tags" eG f18 j)(i7:findIn K (.ref OLedger) "steps"=some (some<|.ref f19))(o1:isFn K (.ref f19)=true)(E:Fun K "steps" "Ledger.steps" dE f19 n)(i9:findIn K (.ref OLedger) "sizes"=some (some<|.ref f20))(o2:isFn K (.ref f20)=true)(G:Fun K "sizes" "Ledger.sizes" dF f20 o)(j0:gA K "shape" c7)(I:Fun K "shape" "shape" hO c7 l9)(j1:gA K "members_by_folder" c8)(J:Fun K "members_by_folder" "members_by_folder" bW c8 m0)(j2:gA K "shape_marks" c9)(L:Fun K "shape_marks" "shape_marks" be c9 b9)(j3:gA K "alike_folders" d0)(M:Fun K "alike_folders" "alike_folders" aT d0 m1)(j4:gA K "_law_cell" d1)(N:Fun K "_law_cell" "_law_cell" vz d1 m2)(j5:gA K "_law_pick" d2)(O:Fun K "_law_pick" "_law_pick" vA d2 m3)(j6:gA K "_law_tree" d3)(P:Fun K "_law_tree" "_law_tree" iC d3 m4)(j7:gA K "_law_stays" d4)(b1:Fun K "_law_stays" "_law_stays" cJ d4 m5)(j8:gA K "law" d5)(b2:Fun K "law" "law" tI d5 p)(q6:gN K "isinstance")(r7:gN K "dict")(r8:gN K "len")(r9:gN K "tuple")(s0:gN K "list")(s1:gN K "range")(s2:gN K "sorted")(s3:gN K "reversed")(s4:gN K "ValueError")(q7:gN K "str")(q8:gN K "set")(q9:gN K "max")(r0:gN K "min")(r1:gN K "sum")(r2:gN K "zip")(r3:gN K "enumerate")(r4:gN K "all")(r5:gN K "int")(r6:gN K "bool")(q1:nsIn K mainGlobals "TOP"=some (some<|.int 0 p8)){p9:Tok}(q2:nsIn K mainGlobals "LETTERS"=some (some<|.str "abcdefghijklmnopqrstuvwxyz" p9)){q0:Tok}(q3:nsIn K mainGlobals "LONGEST_NAME"=some (some<|.int 5 q0)){cL a2:zo}(o4:p.code=.ref cL)(n4:codeHdIn K cL a2=true){b8 PC:zo}(o3:b9.code=.ref b8)(n3:codeHdIn K b8 PC=true)(o7:PC≠a2){CN CG:zo}(q5:nsIn K mainGlobals "NoNode"=some (some<|.ref CN))(p6:excIn K CN bmV "ValueError.__new__"=true)(q4:nsIn K mainGlobals "NoTag"=some (some<|.ref CG))(p5:excIn K CG bmV "ValueError.__new__"=true)(k5:nsIn K mainGlobals "Ledger"=some (some<|.ref OLedger))(p3:plainGet K OLedger empty=true)(n6:hasDictIn K OLedger=true)(p4:plainOver K OLedger=true)(p7:findIn K (.ref OLedger) "__setattr__"=some (some<|.builtin "object.__setattr__"))(o6:makesIn K OLedger=true)(o5:keepIn K (.ref OLedger)=true)(o8:findIn K (.ref OLedger) "first_tree"=some none)(o9:findIn K (.ref OLedger) "tree"=some none)(p0:findIn K (.ref OLedger) "tag_trees"=some none)(p1:findIn K (.ref OLedger) "past"=some none)(p2:findIn K (.ref OLedger) "ahead"=some none):
  ∃fd:xl,(∀(s:zi)(v:zt),BindsTo s fd ⟨[v],[]⟩ [("_law_script",v)])/\∀base:qa,K.In base->base.Ns mainGlobals mg->BmB base mg->FnOk l.prog w K mg base CX0 8 e3 fd ["_law_script"] (sr a2 PC K):=by
 have e:=n7.symm.trans<|mg_of X a j8;cases e;have T:Txt mg:=⟨mg_none_of X a q6,mg_none_of X a r7,mg_none_of X a r8,mg_none_of X a r9,mg_none_of X a s0,mg_none_of X a s1,mg_none_of X a s2,mg_none_of X a s3,mg_none_of X a s4,mg_none_of X a q7,mg_none_of X a q8,mg_none_of X a q9,mg_none_of X a r0,mg_none_of X a r1,mg_none_of X a r2,mg_none_of X a r3,mg_none_of X a r4,mg_none_of X a r5,mg_none_of X a r6,⟨_,mg_of X a q1⟩,⟨_,mg_of X a q2⟩,⟨_,mg_of X a q3⟩⟩;have c:LCls K mg OLedger:=⟨⟨p3,n6,p4,p7⟩,o8,o9,p0,p1,p2,mg_of X a k5⟩;have h5:Mk K OLedger f15:=⟨o6,b6,e5,o5⟩;have s5:Meth K OLedger "__init__" f15:=⟨b6,e5,A.kp⟩;have k6:aE K h ["self","tree"] []:=fb2 A;have h0:Meth K OLedger "go_on" f16:=⟨i4,n8,B.kp⟩;have k7:aE K a3 ["self","step","tree","tag_trees"] []:=fb4 B;have h3:Meth K OLedger "tag" f17:=⟨i5,n9,C.kp⟩;have l0:aE K i ["self","name"] []:=fb2 C;have h4:Meth K OLedger "tags" f18:=⟨i6,o0,D.kp⟩;have l1:aE K j ["self"] []:=fb1 D;have h2:Meth K OLedger "steps" f19:=⟨i7,o1,E.kp⟩;have k9:aE K n ["self"] []:=fb1 E;have h1:Meth K OLedger "sizes" f20:=⟨i9,o2,G.kp⟩;have k8:aE K o ["self"] []:=fb1 G;have n5:∀(s:zi)(v:zt),BindsTo s p ⟨[v],[]⟩ [("_law_script",v)]:=by
  obtain⟨_,_,_,_,_,_,_,_,_,e,_,_⟩:=b2.ex;subst e;exact λs v=>.of_eq rfl
 have all:∀base:qa,K.In base->BmB base mg->(Has l.prog w K mg base 3 "shape" ["tree","number"] ke)/\(Has l.prog w K mg base 5 "alike_folders" ["tree"]<|kc PC)/\(Has l.prog w K mg base 4 "clashing" ["first","one","other"] kh)/\(Has l.prog w K mg base 2 "kept_alike" ["one","other"] km)/\(FnOk l.prog w K mg base CX0 1 f18 j ["self"]<|eQ OLedger)/\(FnOk l.prog w K mg base CX0 1 f19 n ["self"]<|fu OLedger)/\(Has l.prog w K mg base 3 "_law_tree" ["_law_script","_law_at","_law_most"]<|ip K)/\(FnOk l.prog w K mg base CX0 1 f15 h ["self","tree"]<|ky OLedger)/\(FnOk l.prog w K mg base (CX1 l.prog w) 2 f17 i ["self","name"]<|kH OLedger CG)/\(FnOk l.prog w K mg base CX0 1 f20 o ["self"]<|kD OLedger):=λbase KB f=>by
  let H:=Has l.prog w K mg base
  let b5:=vp l.prog w K mg base
  have h7:vt "NoNode" mg base CN:=xo KB (mg_of X a q5) p6;have h6:vt "NoTag" mg base CG:=xo KB (mg_of X a q4) p5;have f3:H 1 "is_name" ["thing"] nA:=fh X a r h8 (fb1 r)<|xb r T;have f4:H 1 "numbers_inside" ["nodes","folder"] rP:=fh X a F i8 (fb2 F)<|AE F T;have g:H 1 "by_number" ["tree"] lP:=fh X a d b7 (fb1 d)<|AG d T;have e9:H 1 "by_number" ["tree"] qF:=fh X a d b7 (fb1 d)<|yS d T;have a8:b5 1 "node_of" ["nodes","number"] (rQ CN):=fhX X a Q j9 (fb2 Q)<|AH Q h7;have f1:H 2 "check_folder" ["nodes","number"] wI:=fh X a R k0 (fb2 R)<|AT R T a8;have a9:H 1 "path_up" ["nodes","number"] rR:=fh X a S k1 (fb2 S)<|AJ S T;have e8:b5 2 "below" ["tree","number"] (wb CN):=fhX X a U k2 (fb2 U)<|AI U T g a8 f4;have f8:H 2 "walked" ["tree"] wd:=fh X a V k3 (fb1 V)<|AL V T g a9;have f5:H 1 "parts_by_number" ["tree"] qD:=fh X a Y k4 (fb1 Y)<|yQ Y T;have f7:H 1 "unlike_entries" ["entries"] se:=fh X a t h9 (fb1 t)<|AW t T;have f0:H 2 "change_between" ["one","other"] wO:=fh X a u i0 (fb2 u)<|AX u T f5 f7;have f2:H 3 "entries_by_number" ["one","other"] wT:=fh X a x i1 (fb2 x)<|Bb x e9 f0;have a5:H 4 "clashing" ["first","one","other"] kh:=fh X a y i2 (fb3 y)<|Bc y T f2;have a6:H 2 "kept_alike" ["one","other"] km:=fh X a z i3 (fb2 z)<|Be z g;have Z:FnOk l.prog w K mg base CX0 1 f15 h ["self","tree"] (ky OLedger):=yU A c;have f9:FnOk l.prog w K mg base CX0 1 f16 a3 ["self","step","tree","tag_trees"] (wZ OLedger):=Bs B c;have a1:FnOk l.prog w K mg base (CX1 l.prog w) 2 f17 i ["self","name"] (kH OLedger CG):=yZ C T c h6 f3 h0 f9 k7;have b4:FnOk l.prog w K mg base CX0 1 f18 j ["self"] (eQ OLedger):=xa D T c;have b3:FnOk l.prog w K mg base CX0 1 f19 n ["self"] (fu OLedger):=za E c;have a0:FnOk l.prog w K mg base CX0 1 f20 o ["self"] (kD OLedger):=yV G T c;have b0:H 3 "shape" ["tree","number"] ke:=fh X a I j0 (fb2 I)<|AU I T g f1 a9 e8;have a7:H 1 "members_by_folder" ["tree"] oZ:=fh X a J j1 (fb1 J)<|AF J;have f6:H 4 "shape_marks" ["tree"] (wu PC):=fh X a L j2 (fb1 L)<|AO L o3 T (codeHd_of_K KB n3) f a7 f8;have a4:H 5 "alike_folders" ["tree"] (kc PC):=fh X a M j3 (fb1 M)<|AS M T a7 f6;have e6:H 1 "_law_cell" ["_law_script","_law_k"] (qK K):=fh X a N j4 (fb2 N)<|zb N T;have e7:H 2 "_law_pick" ["_law_script","_law_k","_law_many"] (qL K):=fh X a O j5 (fb3 O)<|zc O T e6;have q:H 3 "_law_tree" ["_law_script","_law_at","_law_most"] (ip K):=fh X a P j6 (fb3 P)<|xj P T e7;exact⟨b0,a4,a5,a6,b4,b3,q,Z,a1,a0⟩
 refine⟨p,n5,λbase KB _ f=>?_⟩;obtain⟨b0,a4,a5,a6,b4,b3,q,Z,a1,a0⟩:=all base KB f;exact BA b2 o4 ⟨T,KB,codeHd_of_K KB n4,f,b1,(mg_of X a j7),(fb1 b1)⟩ o7 c h5 Z k6 h3 a1 l0 h4 l1 h2 k9 h1 a0 k8 q (λb k m=>(all b k m).1) (λb k m=>(all b k m).2.1) (λb k m=>(all b k m).2.2.1) (λb k m=>(all b k m).2.2.2.1) (λb k m=>(all b k m).2.2.2.2.1) λb k m=>(all b k m).2.2.2.2.2.1
theorem walk{l:PySem.W.OpenLaw}{q:xx}{C:List Str}{o:(Str->Option zt)->qa->Prop}{e:qq->qa->Prop}{d:DefRec}{K:Params->Frag}(b PC:zo)(B:l.most=some 63)(z:d.params.defaults=[])(y:∀(w:qq) (h:qa),e w h->(K w.params).In h){g:List zo}(c:∀(w:qq) (h:qa),e w h->∀t∈g,h.get? t=some (tabObj #[]))(E:b∈g)(cL:zo)(r:∀w:qq,codeHdIn (K w.params) cL b=true)(I:∀w:qq,(K w.params).lookup b=none)(D:PC∈g)(j:zo)(p:∀w:qq,codeHdIn (K w.params) j PC=true)(G:∀w:qq,(K w.params).lookup PC=none)(F:∀(w:qq) (mg:Str->Option zt) (m:zo) (h:qa),(K w.params).In h->h.Ns mainGlobals mg->mg d.name=some (.ref m) ->
   ∃fd:xl,(∀(s:zi) (u:zt),BindsTo s fd ⟨[u],[]⟩ [("_law_script",u)])/\∀base:qa,(K w.params).In base->base.Ns mainGlobals mg->BmB base mg->FnOk l.prog w (K w.params) mg base CX0 8 m fd ["_law_script"] (sr b PC<|K w.params)):
  PySem.W.WalkO q C o e l.row.toRowW d [] (λf vs=>PySem.call f vs) :=
 L2.vS (tabs:=[b,PC]) (n:=63) (k:=8) (x:="_law_script") (sp:=λw=>sr b PC<|K w.params) B (by decide) z ⟨rfl,by decide,by decide,rfl⟩ y
  (λw h i=>forall_mem_cons.mpr ⟨c w h i _ E,forall_mem_cons.mpr ⟨c w h i _ D,λ_ h=>nomatch h⟩⟩)
  (λw=>forall_mem_cons.mpr ⟨⟨⟨cL,r w⟩,I w⟩,forall_mem_cons.mpr ⟨⟨⟨j,p w⟩,G w⟩,λ_ h=>nomatch h⟩⟩)
  F (λw H a ns A v c=>⟨a,ns,rfl,v,A,c b (by simp),c PC (by simp),λ_=>rfl⟩)
end TK
end
open PySem PySem.W PyProof.Rows
def PySem.W.Fast.tw8321961253461582598:Unit:=()
def PySem.W.Fast.tw6042527783703353445:Unit:=()
def PySem.W.Fast.tw2995931254610206384:Unit:=()
def PySem.W.Fast.tw15944393649889233205:Unit:=()
def PySem.W.Fast.tw2968198770627918612:Unit:=()
def PySem.W.Fast.tw16464664118185611311:Unit:=()
def PySem.W.Fast.tw9836068960074750128:Unit:=()
def PySem.W.Fast.tw11434943873718452856:Unit:=()
def PySem.W.Fast.tw251562260959478501:Unit:=()
def PySem.W.Fast.tw15437216087077172828:Unit:=()
def PySem.W.Fast.tw13304877146368482133:Unit:=()
def PySem.W.Fast.tw16008317773847387963:Unit:=()
def PySem.W.Fast.tw7199167301175625722:Unit:=()
def PySem.W.Fast.tw10520741582240291009:Unit:=()
def PySem.W.Fast.tw14108083573267548400:Unit:=()
def PySem.W.Fast.tw6917195681825908434:Unit:=()
def PySem.W.Fast.tw11315775632372760071:Unit:=()
def PySem.W.Fast.tw4152910724690484849:Unit:=()
def PySem.W.Fast.tw18357980050134420140:Unit:=()
def PySem.W.Fast.tw5341421258605214957:Unit:=()
def PySem.W.Fast.tw8664412374938605284:Unit:=()
def PySem.W.Fast.tw10755422440811002771:Unit:=()
def PySem.W.Fast.tw11273412992016791351:Unit:=()
def PySem.W.Fast.tw13429359062337931087:Unit:=()
def PySem.W.Fast.tw2335034904172881979:Unit:=()
def PySem.W.Fast.tw5895665446900050084:Unit:=()
def PySem.W.Fast.tw2520384693171333211:Unit:=()
def PySem.W.Fast.tw4169079019199866828:Unit:=()
def PySem.W.Fast.tw17640031666665334546:Unit:=()
def PySem.W.Fast.tw12838156939832533657:Unit:=()
def PySem.W.Fast.tw6568778038498207695:Unit:=()
def PySem.W.Fast.tw11958760861146771510:Unit:=()
def PySem.W.Fast.tw17389729576651896630:Unit:=()
def PySem.W.Fast.tw1376347401327294833:Unit:=()
def PySem.W.Fast.tw13114453258424163343:Unit:=()
def PySem.W.Fast.tw13523504766254202576:Unit:=()
def PySem.W.Fast.tw14909813784158640791:Unit:=()
def PySem.W.Fast.tw7390875729174250199:Unit:=()
def PySem.W.Fast.tw692992523332662157:Unit:=()
def PySem.W.Fast.tw5594679079547158369:Unit:=()
def PySem.W.Fast.tw3353382699381078095:Unit:=()
def PySem.W.Fast.tw3888541464619482625:Unit:=()
def PySem.W.Fast.tw14610007490617861185:Unit:=()
def PySem.W.Fast.tw2641795108082496162:Unit:=()
def PySem.W.Fast.tw1476360920636098836:Unit:=()
def PySem.W.Fast.tw1070380379563863532:Unit:=()
def PySem.W.Fast.tw17134082180744327082:Unit:=()
def PySem.W.Fast.tw3444763469271636197:Unit:=()
def PySem.W.Fast.tw11824990448723715916:Unit:=()
def PySem.W.Fast.tw8032899836066974895:Unit:=()
def PySem.W.Fast.tw7196658970994063834:Unit:=()
def PySem.W.Fast.tw14124280314125719249:Unit:=()
def PySem.W.Fast.tw11546277084126759012:Unit:=()
def PySem.W.Fast.tw4625787893022605017:Unit:=()
def PySem.W.Fast.tw3283464475433634041:Unit:=()
def PySem.W.Fast.tw16815852802952833972:Unit:=()
def PySem.W.Fast.tw3231943717955190670:Unit:=()
set_option maxHeartbeats 0 in
theorem PySem.Challenge.cw_treewatch_k91_whole_told_lists_holds : PySem.Challenge.rw_treewatch_k91_whole_told_lists.Holds := by
 w_on; o_law; k_head; (case hw=>w_witness2)
 k_fill
 refine TK.walk (l:=PySem.Challenge.rw_treewatch_k91_whole_told_lists) 319 283 rfl rfl (λw h Y=>PySem.W.km_in_of Y) (λw h Y=>PySem.W.km_tabs_of Y) (by decide) 323 (λw=>by kernel_rfl) (λw=>by kernel_rfl) (by decide) 285 (λw=>by kernel_rfl) (λw=>by kernel_rfl) ?F
 case F =>
  intro w mg fa h KX G hmg
  refine' TK.BB KX G hmg ?Aa ?Ab ?Ac ?Ad ?Ae ?Af ?Ag ?Ah ?Ai ?Aj ?Ak ?Al ?Am ?An ?Ao ?Ap ?Aq ?Ar ?As ?At ?Au ?Av ?Aw ?Ax ?Ay ?Az ?AA ?AB ?AC ?AD ?AE ?AF ?AG ?AH ?AI ?AJ ?AK ?AL ?AM ?AN ?AO ?AP ?AQ ?AR ?AS ?AT ?AU ?AV ?AW ?AX ?AY ?AZ ?A0 ?A1 ?A2 ?A3 ?A4 ?A5 ?A6 ?A7 ?A8 ?A9 ?Ba ?Bb ?Bc ?Bd ?Be ?Bf ?Bg ?Bh ?Bi ?Bj ?Bk ?Bl ?Bm ?Bn ?Bo ?Bp ?Bq ?Br ?Bs ?Bt ?Bu ?Bv ?Bw ?Bx ?By ?Bz ?BA ?BB ?BC ?BD ?BE ?BF ?BG ?BH ?BI ?BJ ?BK ?BL ?BM ?BN ?BO ?BP ?BQ ?BR ?BS
  (case BH=>k_is)
  (case Aa|Ac|Ae|Ag|Ai|Ak|Am|Ao|Aq|As|Au|Aw|Ay|AA=>unfold TK.gA; k_is)
  (case Ab|Ad|Af|Ah|Aj|Al|An|Ap|Ar|At|Av|Ax|Az|AB=>apply L2.gl <;> k_is)
  (case AC|AD=>k_is)
  (case AE=>apply L2.gl <;> k_is)
  (case AF|AG=>k_is)
  (case AH=>apply L2.gl <;> k_is)
  (case AI|AJ=>k_is)
  (case AK=>apply L2.gl <;> k_is)
  (case AL|AM=>k_is)
  (case AN=>apply L2.gl <;> k_is)
  (case AO|AP=>k_is)
  (case AQ=>apply L2.gl <;> k_is)
  (case AR|AS=>k_is)
  (case AU|AW|AY|A0|A2|A4|A6|A8|Ba=>unfold TK.gA; k_is)
  (case AT|AV|AX|AZ|A1|A3|A5|A7|A9|Bb=>apply L2.gl <;> k_is)
  (case Bc|Bd|Be|Bf|Bg|Bh|Bi|Bj|Bk|Bl|Bm|Bn|Bo|Bp|Bq|Br|Bs|Bt|Bu=>unfold TK.gN; k_is)
  (case Bv|Bw|Bx=>k_is)
  (case By=>exact rfl)
  (case Bz=>kernel_rfl)
  (case BA=>exact rfl)
  (case BB=>kernel_rfl)
  (case BC=>decide)
  (case BD|BF=>k_is)
  (case BE|BG=>k_exc)
  (case BI|BJ|BK|BL|BM|BN|BO|BP|BQ|BR|BS=>k_is)
