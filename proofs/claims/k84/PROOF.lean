import PyProof.Rows.All
import Wide.All
import OpenK.AllK
import Wide.FinOn
import Lean
import PyProof.EqAt
import PyProof.EqKinds
import PyProof.TupleCall
import PyProof.CompFree
import PySem.SetTable
import PyProof.SetScanFacts
import PyProof.TupleKey
import PyProof.SetKind
import PyProof.IsRules
import PyProof.SetRoads
import PyProof.InstSpecial
import PyProof.Rows.SetFrom
import KE.KSortTup
import PyProof.StrWalks
import PyProof.EnumMake
import PyProof.ConsumeWalk
import PyProof.ListRange
import PyProof.NeKinds
import PyProof.ZipIter
import KE.KTryDeep
import OpenK.KOwn
import PyProof.RulesAs
import PyProof.NsDelKeeps
import PyProof.ExcArgsOwn
import PyProof.ExcAttrAll.ValueError
import KE.KIsAll
import OpenK.KNot
import PyProof.IsiH_list
import PyProof.Rows.FStr
import KE.KDictOf
import PyProof.AttrMissHeap
import PyProof.DictIter
import PyProof.DictWalks
import PyProof.Rows.DictUnroll
import KE.KRevIter
import KE.KDictList
import PyProof.CollectIter
import PyProof.TupleOfGen
import KE.KSortKey
import PyProof.FactsAll.NoneType_1
import PyProof.CompUse
import PyProof.Rows.FStrParts
import PyProof.ReprStr
import KE.KEqDict
import KE.KItemsList
import KE.KLam
import KE.KNestM
import PySem.Challenge.RW_treewatch_k84_whole_ledgers
set_option Elab.async false
set_option linter.all false
set_option maxRecDepth 100000
set_option maxHeartbeats 8000000
open PySem.W (Frag instObj methodObj hideAll hideAll_size hideAll_get of_hideAll hideAll_none lookIn plainGet hasDictIn handedIn plainGet_of isFn plainOver takerIn makesIn emptyDict keepIn mroIn kitOne kia_one kitx_list kitx_dict callWith_K methodCall_KW cellsFrom_some fnOf codeIn codeRec_of kat_cons KatTups kat_lt_int KdlSrc kdl_dict KeqHits subIn envX CodeHd kla_obj tabObj codeHdIn codeHd_of_K excIn nsIn mg_of mg_none_of)
open PyProof.Rows (boot_dict boot_sorted boot_isinstance boot_str boot_all boot_list boot_int boot_bool boot_tuple)
open PySem.F (slot_tuple_add entry_tuple_add args_tuple_add_2 slot_dict_pop slot_dict_get plainAttrs_dict slot_dict_keyiterator_next plainAttrs_list slot_list_pop type_list_pop slot_tuple_ne slot_dict_items)
open List (mem_filter mem_range filterMap_cons mem_cons_self mem_cons_of_mem mem_cons mem_append mem_append_left getElem_inj getElem?_set_self mem_filterMap mem_append_right size_toArray length_cons map_cons length_map append_nil nodup_cons of_mem_zip replicate length length_take getElem?_append_right getElem?_append_left getElem?_map take_sublist mem_of_getElem? length_append length_replicate length_drop map_nil any_cons replicate_succ flatten_cons foldl append_assoc foldl_cons length_singleton find?_cons length_nil filter_cons length_filter_le Pairwise mem_map any_eq_true forIn_cons forIn_nil all_eq_true pairwise_iff_getElem pairwise_cons mem_iff_getElem getElem_take filterMap_cons_none filterMap_cons_some length_range nodup_range filter_cons_of_neg filter_cons_of_pos filter_sublist map_map getElem?_eq_getElem getElem_map map_drop perm_middle getD_eq_getElem?_getD ext_getElem? getElem?_range getElem?_eq_none getElem_mem map_congr_left nodup_nil Nodup mem_singleton not_mem_nil toArray find?_eq_none find?_some any_map range' length_eq_zero_iff take_succ map_append take_length all_map filter_congr pairwise_map filter_map Sublist nodup_append cons_ne_nil lookup_cons take_of_length_le zip_cons_cons)
open Nat (not_lt lt_of_lt_of_le lt_irrefl ne_of_lt le_trans le_of_lt ne_of_gt le_refl zero_le le_of_eq lt_succ_self le_succ lt_trans lt_of_le_of_lt lt_succ_of_lt zero_add mod_lt lt_or_ge le_succ_of_le)
open Array (length_toList toList getElem?_toList getD_eq_getD_getElem? forIn_toList size_map isEmpty)
open Option (map_some isSome_map)
open Bool (and_eq_true or_eq_true false_eq_true)
open Int (toNat_natCast emod_nonneg toNat)
open PySem.Heap (lt_size SameBut get?_push_of_some get?_push_size size_push get?_update_self get?_update_ne ExtBut IsTuple FlyingW)
open PySem.Calls (Constant_str spliced_nil spliced_cons callWith_builtin evalArgs_plain)
open PySem.SeqAt (EqAt in_listAt eq_listAt RcNeAt)
open PySem.Value (bytes float builtin)
open PySem (boot_len)
open PySem.Str (empty ofString)
open Ne (symm)
noncomputable section
set_option compiler.extract_closed false
def Cv:Nat->Lean.Syntax->Lean.MacroM (Lean.TSyntax `rcasesPat)
|0,_=>Lean.Macro.throwUnsupported
|n+1,s=>do
 let f:Array Lean.Syntax->Lean.MacroM (Lean.TSyntax `rcasesPat):=fun a=>do
  let p<-a.mapM fun x=>do return Lean.mkNode ``Lean.Parser.Tactic.rcasesPatLo #[Lean.mkNode ``Lean.Parser.Tactic.rcasesPatMed #[Lean.mkNullNode #[<-Cv n x]],Lean.mkNullNode]
  `(rcasesPat|⟨$p,*⟩)
 match s with
 |`(($a,$b,*))=>f (#[a.raw]++b.getElems)
 |`(⟨$b,*⟩)=>f b.getElems
 |`(_)=>`(rcasesPat|_)
 |`($i:ident)=>`(rcasesPat|$i:ident)
 |_=>Lean.Macro.throwUnsupported
local macro_rules|`(tactic|let $p:term:=$e)=>do let p<-Cv 99 p;`(tactic|obtain $p:rcasesPat:=$e)
local macro_rules|`(tactic|show $e)=>`(tactic|refine $e)
local macro_rules(kind:=«term{_}»)|`({$x:term,*})=>`(⟨$x,*⟩)
def ES:=@length_map
def ET:=@getElem?_eq_getElem
def EU:=@get?_push_of_some
def EV:=@if_neg
def EW:=@if_pos
def EZ:=@mem_map
def FA:=@getD_eq_getElem?_getD
def FD:=@map_map
def FE:=@getElem?_map
def FF:=@getD_eq_getD_getElem?
def FG:=@get?_push_size
def FH:=@le_refl
def FI:=@length_append
def FJ:=@decide_eq_true_eq
def FK:=@Array.getElem?_eq_getElem
def FL:=@Bool.false_ne_true
def FN:=@false_eq_true
def FO:=@size_toArray
def FP:=@mem_of_getElem?
def FQ:=@length_toList
def FR:=@mem_cons_of_mem
def FU:=@mem_cons
def FV:=@List.getElem?_eq_some_iff
def FW:=@lt_size
def FX:=@ne_of_lt
def FY:=@mem_cons_self
def FZ:=@decide_eq_false
def Fb:=@PySem.mem_of_lookup
def Fc:=@lt_of_lt_of_le
def Fd:=@mem_append
def Fe:=@decide_eq_true
def Ff:=@boot_isinstance
def Fg:=@if_false
def Fh:=@pairwise_map
def Fi:=@map_cons
def Fj:=@mem_append_right
def Fl:=@beq_eq_false_iff_ne
def Fm:=@filterMap_cons_some
def Fn:=@map_append
def Fo:=@getElem?_eq_none
def Fp:=@Bool.eq_iff_iff
def Fq:=@map_congr_left
def Fs:=@length_cons
def Ft:=@SameBut.update
def Fu:=@le_of_lt
def Fv:=@PyProof.Rows.slot_tuple_getitem
def Fw:=@mem_filter
def Fx:=@length_take
def Fy:=@getElem?_append_left
def Fz:=@zero_le
def GA:=@getElem?_append_right
def GB:=@mg_none_of
def GC:=@mem_range
def GD:=@pairwise_iff_getElem
def GF:=@mem_iff_getElem
def GG:=@if_true
def GH:=@length_range
def GI:=@filterMap_cons_none
def GJ:=@and_eq_true
def GK:=@any_eq_true
def GL:=@PySem.F.slot_list_append
def GN:=@PySem.F.type_list_append
def GO:=@plainAttrs_list
def GP:=@beq_iff_eq
def GQ:=@length_singleton
def GR:=@toNat_natCast
def GS:=@le_trans
def GU:=@lt_of_le_of_lt
def GV:=@slot_dict_keyiterator_next
def GW:=@nodup_cons
def GX:=@filter_cons_of_pos
def GY:=@length_eq_zero_iff
def GZ:=@mem_filterMap
def Ga:=@pairwise_cons
def Gb:=@not_mem_nil
def Gd:=@getElem?_toList
def Ge:=@PyProof.Rows.F.plain_set_update_loop
def Gf:=@PyProof.Rows.callWith_type1
def Gg:=@lookup_cons
def Gh:=@filter_cons_of_neg
def Gi:=@boot_len
def Gj:=@all_eq_true
def Gk:=@getElem_mem
def Gm:=@take_length
def Gn:=@Bool.not_true
def Gp:=@mem_singleton
def Gq:=@beq_self_eq_true
def Gr:=@getElem_inj
def Gs:=@append_nil
def Gu:=@ext_getElem?
def Gv:=@ne_of_gt
abbrev zi:=PySem.Addr
abbrev xx:=PySem.Value
abbrev xg:=PySem.Shared
abbrev qw:=PySem.Program
abbrev qd:=PySem.Around
abbrev qa:=PySem.FuncData
abbrev qn:=PySem.World
abbrev qb:=PySem.Heap
abbrev Wb:=@PySem.wpAny_bind
abbrev Wp:=@PySem.wpAny_pure
namespace L2
open PySem PySem.Spec PyProof.Rows
abbrev Key:=Sum Int Str
def ka:Key->xx->Bool
 |.inl k,v=>Value.isInt k v
 |.inr x,v=>Value.isStrOf x v
def DP(w:qn):Key->Int
 |.inl k=>hashInt k
 |.inr x=>hashStr w x
theorem aP:∀{k:Key}{v:xx},ka k v=true->(∃i t,k=Sum.inl i/\v=Value.int i t)\/(∃x t,k=Sum.inr x/\v=Value.str x t)
 |.inl i,v,h=>by
  let(t,e):=Value.isInt_shape (k:=i) (v:=v) h;show .inl ⟨i,t,rfl,e⟩
 |.inr x,v,h=>by
  let(t,e):=Value.isStrOf_shape (x:=x) (v:=v) h;show .inr ⟨x,t,rfl,e⟩
theorem tH(i:Int)(t:Tok):ka (.inl i) (.int i t)=true:=by simp[ka,Value.isInt]
theorem tI(x:Str)(t:Tok):ka (.inr x) (.str x t)=true:=by simp[ka,Value.isStrOf]
theorem Ag(a b:Int):decide ((Sum.inl a:Key)=Sum.inl b)=(a==b):=by
 by_cases e:a=b
 .subst e;simp
 .have h:¬(Sum.inl a:Key)=Sum.inl b:=λq=>e<|Sum.inl.inj q;rw[FZ h];show(Fl.mpr e).symm
theorem Ah(a b:Str):decide ((Sum.inr a:Key)=Sum.inr b)=decide (a=b):=by
 by_cases e:a=b
 .subst e;simp
 .have h:¬(Sum.inr a:Key)=Sum.inr b:=λq=>e<|Sum.inr.inj q;rw[FZ h,FZ e]
theorem Ai(a:Int)(b:Str):decide ((Sum.inl a:Key)=Sum.inr b)=false:=FZ λq=>nomatch q
theorem Aj(a:Str)(b:Int):decide ((Sum.inr a:Key)=Sum.inl b)=false:=FZ λq=>nomatch q
def aF(prog:qw)(w:qn):PySem.KeyKind prog w Key where
 is:=ka
 hash:=DP w
 inj:=λv a b g f=>by
  rcases aP g with⟨i,t,rfl,rfl⟩|⟨x,t,rfl,rfl⟩
  .rcases aP f with⟨d,u,rfl,e⟩|⟨y,u,rfl,e⟩
   .injection e with e1 _;rw[e1]
   .show nomatch e
  .rcases aP f with⟨d,u,rfl,e⟩|⟨y,u,rfl,e⟩
   .show nomatch e
   .injection e with e1 _;rw[e1]
 byValue:=λk v h=>by
  rcases aP h with⟨i,t,rfl,rfl⟩|⟨x,t,rfl,rfl⟩<;>rfl
 pyHash:=λc h=>by
  rcases aP c with⟨i,t,rfl,rfl⟩|⟨x,t,rfl,rfl⟩
  .show wpAny_pyHash_int h
  .show wpAny_pyHash_str h
 eqBool:=λj c h=>by
  rcases aP j with⟨i,t,rfl,rfl⟩|⟨x,t,rfl,rfl⟩
  .rcases aP c with⟨d,u,rfl,rfl⟩|⟨y,u,rfl,rfl⟩
   .rw[Ag]at h;show wpAny_eqBool_int h
   .rw[Ai]at h;show EqAt.int_str i t y u _ _ _ _ h
  .rcases aP c with⟨d,u,rfl,rfl⟩|⟨y,u,rfl,rfl⟩
   .rw[Aj]at h;show EqAt.str_int x t d u _ _ _ _ h
   .rw[Ah]at h;show wpAny_eqBool_str h
 «strs»:=λk x t v h=>by
  rcases aP h with⟨i,u,rfl,e⟩|⟨y,u,rfl,e⟩
  .show nomatch e
  .injection e with e1 _
   subst e1;cases v<;>rfl
theorem oO(prog:qw)(w:qn)(i:Int)(t:Tok):(aF prog w).is (.inl i) (.int i t)=true:=tH i t
theorem oP(prog:qw)(w:qn)(x:Str)(t:Tok):(aF prog w).is (.inr x) (.str x t)=true:=tI x t
inductive V where
 |non|bl (b:Bool)|int (i:Int)|str (x:Str)|byt (b:Array UInt8)|flt (b:UInt64)|ref (a:zi)|ty (n:String)
 deriving DecidableEq
def aI:V->xx->Prop
 |.non,u=>u=Value.none
 |.bl b,u=>u=Value.bool b
 |.int i,u=>∃t,u=Value.int i t
 |.str x,u=>∃t,u=Value.str x t
 |.byt b,u=>∃t,u=bytes b t
 |.flt b,u=>∃t,u=float b t
 |.ref a,u=>u=Value.ref a
 |.ty n,u=>u=Value.type n
abbrev aA:List V->List xx->Prop:=Paired aI
theorem aA.length{xs:List V}{us:List xx}(r:aA xs us):xs.length=us.length:=Paired.length r
theorem aA.get:∀{xs:List V}{us:List xx}{i:Nat}{x:V},aA xs us->xs[i]?=some x->∃u,us[i]?=some u/\aI x u
 |_,_,_,_,.nil,e=>by simp at e
 |_,_,0,_,.cons r _,e=>by simp at e;subst e;show{_,rfl,r}
 |_,_,i+1,x,.cons _ t,e=>by
  let(u,h1,h2):=aA.get (i:=i) (x:=x) t (by simpa using e);show{u,by simpa using h1,h2}
theorem aA.append:∀{xs ys:List V}{us a:List xx},aA xs us->aA ys a->aA (xs++ys) (us++a)
 |_,_,_,_,.nil,s=>s
 |_,_,_,_,.cons r t,s=>.cons r<|aA.append t s
theorem aA.take:∀{xs:List V}{us:List xx}(n:Nat),aA xs us->aA (xs.take n) (us.take n)
 |_,_,0,_=>.nil
 |_,_,_+1,.nil=>.nil
 |_,_,n+1,.cons r t=>.cons r<|aA.take n t
theorem aA.drop:∀{xs:List V}{us:List xx}(n:Nat),aA xs us->aA (xs.drop n) (us.drop n)
 |_,_,0,r=>r
 |_,_,_+1,.nil=>.nil
 |_,_,n+1,.cons _ t=>aA.drop n t
def eF:Option V->Option xx->Prop
 |some v,some u=>aI v u
 |none,none=>True
 |_,_=>False
def KV{κ:Type}:List (κ×V)->List (κ×xx)->Prop:=Paired λ(p:κ×V) (q:κ×xx)=>p.1=q.1/\aI p.2 q.2
def kV:Key->V
 |.inl i=>.int i
 |.inr x=>.str x
inductive HO where
 |lst (xs:List V)
 |tup (xs:List V)
 |dK (kvs:List<|Key×V)|dT (kvs:List<|List Key×V)
 |set (S:Int->Bool) (n:Nat)
 |ins (C dx:zi) (fs:List<|Str×V)
 |own (x:zi)
 |xd (fs:List<|Str×V)
 |met (f x:zi)
 |rng (lo hi:Int)
 |frz (o:Obj) (u:HO)
 |tbl (ps:Array xx)
 |ext (φ:qb->Prop)
abbrev Hp:=zi->Option HO
def upd(H:Hp)(a:zi)(o:HO):Hp:=λb=>if b=a then some o else H b
theorem ac{H:Hp}{a:zi}{o:HO}:upd H a o a=some o:=by unfold upd;rw[EW rfl]
theorem aj{H:Hp}{a b:zi}{o:HO}(h:b≠a):upd H a o b=H b:=by unfold upd;rw[EV h]
theorem uS{H:Hp}{a b:zi}{o u:HO}(h:H a=some o)(h':H b=some u)(d:o≠u):a≠b:=by
 intro e;subst e;rw[h]at h';show d<|Option.some.inj h'
theorem aB{H:Hp}{a b:zi}{o:HO}(h:H a=some o)(h':H b=none):a≠b:=by
 intro e;subst e;rw[h]at h';cases h'
section
variable(P:qw)(w:qn)
def bq(d:Hp)(b:qb)(a:zi):HO->Prop
 |.lst xs=>xs.length<=sizeLine/\∃(c:List xx) (n:Nat),aA xs c/\b.get? a=some {cls:=.type "list",data:=.seq c.toArray n}
 |.tup xs=>xs.length<=sizeLine/\∃c:List xx,aA xs c/\IsTup b a c.toArray
 |.dK kvs=>kvs.length<=sizeLine/\(a==sysModules)=false/\∃vs,KV kvs vs/\b.DictOf (aF P w) a vs
 |.dT kvs=>kvs.length<=sizeLine/\(a==sysModules)=false/\∃xs:List<|List Key×zi×xx,
   Paired (λ(p:List Key×V) (q:List Key×zi×xx)=>p.1=q.1/\d q.2.1=some (.tup<|p.1.map kV)/\aI p.2 q.2.2) kvs xs /\
   ∃o es g,b.get? a=some o/\o.ExactDict/\o.data=.dict es g/\es.toList=xs.map (entryOfKey<|tupleKind (aF P w))/\(xs.map (·.1)).Nodup
 |.set S n=>b.SetOf (intKind P w) a S n
 |.ins C dx fs=>d dx=some (.own a)/\fs.length<=1000/\dx≠a/\b.get? a=some (instObj C dx) /\
   ∃mA,b.Ns1 dx mA/\(∀f,eF (fs.lookup f)<|mA f)/\PySem.Within mA (fs.map (·.1))
 |.own _=>∃o,b.get? a=some o
 |.xd fs=>∃mA,b.Ns1 a mA/\∀f,eF (fs.lookup f)<|mA f
 |.rng lo hi=>∃t u v,b.get? a=some {cls:=.type "range",data:=.fields #[.int lo t,.int hi u,.int 1 v]}
 |.frz o u=>b.get? a=some o/\bq d b a u
 |.tbl ps=>b.get? a=some {cls:=.none,data:=.fields ps}
 |.met f x=>b.get? a=some (methodObj (.ref f)<|.ref x)
 |.ext e=>e b/\(∃o,b.get? a=some o)/\∀h1 h2:qb,e h1->(∀o,h1.get? a=some o->h2.get? a=some o)->e h2
def HOk(H:Hp)(h:qb):Prop:=∀a o,H a=some o->bq P w H h a o
end
section
variable{P:qw}{w:qn}{H H':Hp}{h h':qb}{a:zi}{o:HO}
theorem bq.lt(x:bq P w H h a o):a<h.objs.size:=by
 cases o with
 |lst xs=>let(_,_,_,_,e):=x;show FW e
 |tup xs=>let(_,_,_,p):=x;show p.lt
 |dK kvs=>let(_,_,_,_,o,_,_,e,_):=x;show FW e
 |dT kvs=>let(_,_,_,_,o,_,_,e,_):=x;show FW e
 |set S n=>let(o,_,_,_,e,_):=x;show FW e
 |ins C dx fs=>let(_,_,_,e,_):=x;show FW e
 |own y=>let(_,e):=x;show FW e
 |xd fs=>let(_,(_,_,_,e,_),_):=x;show FW e
 |rng lo hi=>let(_,_,_,e):=x;show FW e
 |frz b u=>let(e,_):=x;show FW e
 |tbl ps=>show FW (show h.get? a=some _ from x)
 |met f y=>show FW (show h.get? a=some _ from x)
 |ext c=>let(_,(_,e),_):=x;show FW e
theorem Paired.mapP{g h:Type}{F c:g->h->Prop}:∀{d:List g}{e:List h},Paired F d e->(∀a b,F a b->c a b)->Paired c d e
 |_,_,.nil,_=>.nil
 |_,_,.cons r t,f=>.cons (f _ _ r)<|Paired.mapP t f
theorem bq.stay(x:bq P w H h a o)(k:∀b u,(b=a\/H b=some (.own a))->h.get? b=some u->h'.get? b=some u)(m:∀b,H b=some (.own a)->H' b=some (.own a))(s:∀b xs,H b=some (.tup xs)->H' b=some (.tup xs)):bq P w H' h' a o:=by
 induction o with
 |lst xs=>let(z,j,n,r,e):=x;show{z,j,n,r,k _ _ (.inl rfl) e}
 |tup xs=>let(z,j,r,g,e,c):=x;show{z,j,r,g,k _ _ (.inl rfl) e,c}
 |dK kvs=>let(z,y,vs,r,g,es,i,e,c):=x;show{z,y,vs,r,g,es,i,k _ _ (.inl rfl) e,c}
 |dT kvs =>
  let(z,y,xs,r,g,es,i,e,c):=x;show{z,y,xs,Paired.mapP r λp q z=>⟨z.1,s _ _ z.2.1,z.2.2⟩,g,es,i,k _ _ (.inl rfl) e,c}
 |set S n=>let(g,es,i,t,e,c):=x;show{g,es,i,t,k _ _ (.inl rfl) e,c}
 |ins C dx fs =>
  let(d,z,B,e,mA,(l,es,i,e2,c),r):=x;show{m _ d,z,B,k _ _ (.inl rfl) e,mA,{l,es,i,k _ _ (.inr d) e2,c},r}
 |own y=>let(g,e):=x;show{g,k _ _ (.inl rfl) e}
 |xd fs=>let(mA,(l,es,i,e,c),r):=x;show{mA,{l,es,i,k _ _ (.inl rfl) e,c},r}
 |rng lo hi=>let(t,u,v,e):=x;show{t,u,v,k _ _ (.inl rfl) e}
 |frz g u A=>let(e,q):=x;show{k _ _ (.inl rfl) e,A q}
 |tbl ps =>
  have e:h.get? a=some {cls:=.none,data:=.fields ps}:=x;change h'.get? a=some {cls:=.none,data:=.fields ps};show k a _ (.inl rfl) e
 |met f y =>
  have e:h.get? a=some (methodObj (.ref f)<|.ref y):=x;change h'.get? a=some (methodObj (.ref f)<|.ref y);show k a _ (.inl rfl) e
 |ext D=>let(p,(o,e),st):=x;show{st _ _ p λo q=>k _ _ (.inl rfl) q,{o,k _ _ (.inl rfl) e},st}
theorem HOk.lt(x:HOk P w H h)(e:H a=some o):a<h.objs.size:=(x a o e).lt
theorem HOk.fresh(x:HOk P w H h)(e:h.objs.size<=a):H a=none:=by
 cases q:H a with
 |none=>rfl
 |some u=>show absurd (Fc (x.lt q) e)<|lt_irrefl _
theorem HOk.kept(x:HOk P w H h)(k:∀b u,h.get? b=some u->h'.get? b=some u):HOk P w H h':=λa o e =>
 (x a o e).stay (λb u _ q=>k b u q) (λ_ q=>q) λ_ _ q=>q
theorem HOk.laid(x:HOk P w H h)(k:∀b u,h.get? b=some u->h'.get? b=some u)(g:h.objs.size<=a)(new:bq P w (upd H a o) h' a o):HOk P w (upd H a o) h':=λb u e=>by
 have f:=x.fresh g
 by_cases d:b=a
 .subst d;rw[ac]at e;cases e;show new
 .rw[aj d]at e;show(x b u e).stay (λc v _ q=>k c v q) (λc q=>by rw[aj<|aB q f];show q) λc xs q=>by rw[aj<|aB q f];show q
end
def Rd(H:Hp)(a:zi)(u:HO):Prop:=H a=some u\/∃o,H a=some (.frz o u)
theorem Rd.of{H:Hp}{a:zi}{u:HO}(h:H a=some u):Rd H a u:=.inl h
theorem Rd.ok{P:qw}{w:qn}{H:Hp}{h:qb}{a:zi}{u:HO}(r:Rd H a u)(x:HOk P w H h):bq P w H h a u:=by
 rcases r with r|⟨o,r⟩
 .show x a u r
 .let(_,q):=x a _ r;show q
def Mut:Option HO->Prop
 |some (.lst _)=>True
 |some (.dK _)=>True
 |some (.dT _)=>True
 |some (.set _ _)=>True
 |some (.ins _ _ _)=>True
 |some (.ext _)=>True
 |_=>False
section
variable{P:qw}{w:qn}{H:Hp}{h h':qb}{x e:zi}{o':HO}
theorem HOk.write(p:HOk P w H h)(g:Mut<|H x)(i:e=x\/H e=some (.own x))(k:∀b u,b≠e->h.get? b=some u->h'.get? b=some u)(m:∃u,h'.get? e=some u)(new:bq P w (upd H x o') h' x o'):HOk P w (upd H x o') h':=λb u q=>by
 have j:∀c y,H c=some (.own y)->c≠x:=λc y r z=>by subst z;rw[r]at g;show g
 have o:∀c xs,H c=some (.tup xs)->c≠x:=λc xs r z=>by subst z;rw[r]at g;show g
 by_cases a:b=x
 .subst a;rw[ac]at q;cases q;show new
 .rw[aj a]at q
  by_cases d:b=e
  .have l:H b=some (.own x):=by
    rcases i with z|z
    .show absurd (d.trans z) a
    .rw[d];show z
   rw[q]at l;cases l;let(v,n):=m;show{v,by rw[d];show n}
  .show(p b u q).stay (λc v f r=>k c v ?_ r) (λc r=>by rw[aj<|j c b r];show r) λc xs r=>by rw[aj<|o c xs r];show r
   rcases f with rfl|f
   .show d
   .rintro rfl;rcases i with z|z
    .show j c b f z
    .rw[f]at z;cases z;show a rfl
end
structure Un(fs ex:List zi)(H H':Hp)(h h':qb):Prop where
 keep:∀b o,h.get? b=some o->H b=none->b∉fs->b∉ex->h'.get? b=some o
 slot:∀b o,h.get? b=some o->H b=none->b∈fs->b∉ex->∃sl,h'.get? b=some {o with slots:=sl}
 free:∀b o,h.get? b=some o->H b=none->b∉ex->H' b=none
 there:∀b o,h.get? b=some o->b∉ex->∃o',h'.get? b=some o'
 tups:∀b xs,H b=some (.tup xs)->H' b=some (.tup xs)
 frzs:∀b o u,H b=some (.frz o u)->H' b=some (.frz o u)
 tbls:∀b ps,H b=some (.tbl ps)->∃more,H' b=some (.tbl<|ps++more)
section
variable{fs fs' ex ex':List zi}{H H1 H2:Hp}{h h1 h2 h':qb}{a x e:zi}{o:HO}
theorem Un.any(u:Un fs ex H H1 h h1){b:zi}{a:Obj}(q:h.get? b=some a)(n:H b=none)(d:b∉ex):∃e,h1.get? b=some {a with slots:=e}:=by
 by_cases c:b∈fs
 .show u.slot b a q n c d
 .show{a.slots,u.keep b a q n c d}
theorem Un.kept(k:∀b u,h.get? b=some u->h'.get? b=some u):Un fs ex H H h h' :=
 {λb a q _ _ _=>k b a q,λb a q _ _ _=>⟨a.slots,k b a q⟩,λ_ _ _ n _=>n,λb a q _=>⟨a,k b a q⟩,λ_ _ q=>q,λ_ _ _ q=>q,λ_ ps q=>{#[],by rw[q];simp}}
theorem Un.refl:Un fs ex H H h h:=Un.kept λ_ _ q=>q
theorem Un.laid(k:∀b u,h.get? b=some u->h'.get? b=some u)(d:h.objs.size<=a)(c:H a=none):Un fs ex H (upd H a o) h h' where
 keep:=λb u q _ _ _=>k b u q
 slot:=λb u q _ _ _=>⟨u.slots,k b u q⟩
 free:=λb u q n _=>by rw[aj<|FX (Fc (FW q) d)];show n
 there:=λb u q _=>⟨u,k b u q⟩
 tups:=λb xs q=>by rw[aj<|aB q c];show q
 frzs:=λb u xs q=>by rw[aj<|aB q c];show q
 tbls:=λb ps q=>{#[],by rw[aj<|aB q c,q];simp}
theorem Un.write(a:Mut<|H x)(i:e=x\/H e=some (.own x))(k:∀b u,b≠e->h.get? b=some u->h'.get? b=some u)(j:∃u,h'.get? e=some u):Un fs ex H (upd H x o) h h':=by
 have g:∀b,H b=none->b≠x:=λb n z=>by subst z;rw[n]at a;show a
 have d:∀b,H b=none->b≠e:=λb n z=>by
  subst z;rcases i with r|r
  .show g b n r
  .rw[n]at r;cases r
 have c:∀b u,H b=some u->¬Mut (some u)->b≠x:=λb u q nm z=>by subst z;rw[q]at a;show nm a
 show{λb u q n _ _=>k b u (d b n) q,λb u q n _ _=>{u.slots,k b u (d b n) q},λb u q n _=>by rw[aj<|g b n];show n,λb u q _=>?_,
  λb xs q=>by rw[aj<|c b _ q λz=>z];show q,λb u xs q=>by rw[aj<|c b _ q λz=>z];show q,λb ps q=>{#[],by rw[aj<|c b _ q λz=>z,q];simp}}
 by_cases f:b=e
 .subst f;show j
 .show{u,k b u f q}
end
def trk(h:qb)(H:Hp):List zi:=(List.range h.objs.size).filter λa=>(H a).isSome
def lR(h:qb)(H:Hp):qb:=hideAll h<|trk h H
theorem tJ(h:qb)(H:Hp):(lR h H).objs.size=h.objs.size:=hideAll_size _ _
theorem uT{c:qb}{a:Hp}{b:zi}{o:Obj}(e:c.get? b=some o)(n:a b=none):(lR c a).get? b=some o :=
 hideAll_get _ e λd=>by
  have q:(a b).isSome=true:=(Fw.mp d).2;rw[n]at q;simp at q
theorem xX{a:qb}{H:Hp}{b:zi}{o:Obj}(e:(lR a H).get? b=some o):a.get? b=some o/\H b=none:=by
 have c:a.get? b=some o:=of_hideAll (trk a H) e;show{c,?_};cases q:H b with
 |none=>rfl
 |some x =>
  have d:b∈trk a H:=Fw.mpr {GC.mpr<|FW c,by simp[q]};have z:(lR a H).get? b=none:=hideAll_none (trk a H) d;rw[z]at e;cases e
structure Mod(K:Frag)(mg:Str->Option xx)(base:qb):Prop where
 kin:K.In base
 glob:base.Ns mainGlobals mg
 blt:∃mb,base.Ns builtinsNs mb/\∀x:Str,x≠"__name__"->mb x=bootBuiltins x
 nolimit:base.NoLimit
structure Cx where
 prog:qw
 w:qn
 K:Frag
 mg:Str->Option xx
 base:qb
 A:qd
 N:List Str
 s₀:xg
 H₀:Hp
 env:Env
 outer:List Env
 stack:List Env
 ex:List zi
 fn:Str->Bool
 calm:Bool
 pn:List<|zi×Obj
 xe:xx->xg->Prop
def frs(l:List Env):List zi:=l.filterMap (·.frame)
abbrev Cx.fs(X:Cx):List zi:=frs X.outer
def Vis(a:Scope)(x:Str):Prop:=a.names.lookup x=some .local\/a.names.lookup x=some .cell\/a.names.lookup x=some .free
def Loc(a:Scope)(x:Str):Prop:=a.names.lookup x=some .local\/a.names.lookup x=some .cell
def DQ(env:Env)(h:qb)(m:Str->Option xx)(x:Str)(u:xx):Prop :=
 (env.kindOf x=some .local/\m x=some u)\/((env.kindOf x=some .cell\/env.kindOf x=some .free)/\∃c,env.cells.lookup x=some c/\h.IsCell c (some u))
structure Cx.Ok(X:Cx):Prop where
 mod:Mod X.K X.mg X.base
 kind:X.env.scope.kind=.function
 glob:X.env.globals=mainGlobals
 blt:X.env.builtins=builtinsNs
 above:X.s₀.heap.objs.size<=X.env.locals
 inj:∀x y c,X.env.cells.lookup x=some c->X.env.cells.lookup y=some c->x=y
 has:∀x,(X.env.kindOf x=some .cell\/X.env.kindOf x=some .free)->∃c,X.env.cells.lookup x=some c
 cab:∀x c,X.fn x=true->X.env.cells.lookup x=some c->X.s₀.heap.objs.size<=c
 hd:X.calm=true->X.A.handled=none
 frames:X.A.frames=some X.stack
 stk:X.stack=X.outer\/(X.stack=X.env::X.outer/\X.env.frame=some X.env.locals)
 exf:∀b∈X.ex,b≠X.env.locals/\∀x c,X.env.cells.lookup x=some c->c≠b
 bs:∀b o,X.base.get? b=some o->X.s₀.heap.get? b=some o/\X.H₀ b=none
 bsz:X.base.objs.size<=X.s₀.heap.objs.size
 noex:∀b o,X.base.get? b=some o->b∉X.ex
 exfs:∀b∈X.ex,b∉X.fs
 funs:X.s₀.heap.FunFrames X.base X.outer
 frf:∀b∈X.fs,X.H₀ b=none
structure Inv(X:Cx)(pins:List<|zi×Obj)(σ:List<|Option V)(H:Hp)(s:xg):Prop where
 ok:X.Ok
 os:s.os=X.s₀.os
 bare:AllBare s.gens
 base:Un X.fs X.ex X.H₀ H X.s₀.heap s.heap
 loc:∃m,s.heap.Ns X.env.locals m/\∀(i:Nat)(x:Str)(v:V),X.N[i]?=some x->σ[i]?=some (some v)->Vis X.env.scope x->∃u,aI v u/\DQ X.env s.heap m x u
 cell:∀x c,X.env.cells.lookup x=some c->∃v,s.heap.IsCell c v
 free:H X.env.locals=none
 freeC:∀x c,X.env.cells.lookup x=some c->H c=none
 pin:∀p∈X.pn++pins,s.heap.get? p.1=some p.2/\H p.1=none/\p.1≠X.env.locals/\p.1∉X.fs/\∀v,p.2.data≠.cell v
 hok:HOk X.prog X.w H s.heap
 len:σ.length=X.N.length
section
variable{X:Cx}{pins:List (zi×Obj)}{σ:List (Option V)}{H H':Hp}{s:xg}{h':qb}
theorem Cx.Ok.nofr(c:X.Ok){b:zi}{o:Obj}(e:X.base.get? b=some o):b∉X.fs:=λa=>by
 have:=(c.funs.mem a).1;rw[e]at this;cases this
theorem Inv.bs(I:Inv X pins σ H s):∀b o,X.base.get? b=some o->s.heap.get? b=some o/\H b=none:=λb o e =>
 {I.base.keep b o (I.ok.bs b o e).1 (I.ok.bs b o e).2 (I.ok.nofr e) (I.ok.noex b o e),I.base.free b o (I.ok.bs b o e).1 (I.ok.bs b o e).2 (I.ok.noex b o e)}
theorem Inv.bk(I:Inv X pins σ H s):∀b o,X.base.get? b=some o->s.heap.get? b=some o:=λb o e=>(I.bs b o e).1
theorem Inv.mod(I:Inv X pins σ H s):Mod X.K X.mg X.base:=I.ok.mod
theorem Inv.kIn(I:Inv X pins σ H s):X.K.In s.heap:=I.ok.mod.kin.keeps I.bk
theorem Inv.lt(a:Inv X pins σ H s):X.env.locals<s.heap.objs.size:=let⟨_,b,_⟩:=a.loc;b.lt
theorem Inv.sz(I:Inv X pins σ H s):X.s₀.heap.objs.size<=s.heap.objs.size:=GS I.ok.above<|Fu I.lt
theorem Inv.nofs(b:Inv X pins σ H s){a:zi}(c:s.heap.objs.size<=a):a∉X.fs:=λd=>by
 let(_,o,e,_):=b.ok.funs.mem d;show absurd (Fc (FW e)<|GS b.sz c)<|lt_irrefl _
theorem Inv.cne(a:Inv X pins σ H s):∀x c,X.env.cells.lookup x=some c->c≠X.env.locals:=λx c e z=>by
 let(v,o,d,b):=a.cell x c e;let(m,(o',es,h,g,f,_),_):=a.loc;rw[z,g]at d;cases d;rw[f]at b;cases b
theorem Inv.funs(c:Inv X pins σ H s):s.heap.FunFrames X.base X.outer:=by
 have all:∀(l:List Env),(∀b∈frs l,b∈X.fs)->X.s₀.heap.FunFrames X.base l->s.heap.FunFrames X.base l:=by
  intro l
  induction l with
  |nil=>intro _ _;trivial
  |cons t r q =>
   intro h k;let(j,(a,o,g,m,n,i),p):=k;have d:a∈X.fs:=h a (by unfold frs;rw[filterMap_cons,g];show FY);let(u,e):=c.base.slot a o n (c.ok.frf a d) d λz=>c.ok.exfs a z d;show{j,⟨a,_,g,m,e,i⟩,q (λb f=>h b (by unfold frs;rw[filterMap_cons,g];show FR _ f)) p}
 show all X.outer (λ_ f=>f) c.ok.funs
theorem Inv.stack(a:Inv X pins σ H s):s.heap.FunFrames X.base X.stack:=by
 rcases a.ok.stk with e|⟨e,b⟩
 .rw[e];show a.funs
 .rw[e];let(m,c,_):=a.loc;show .cons (by rw[a.ok.kind];decide) b c ?_ a.funs;show Heap.get?_none_of_le<|GS a.ok.bsz a.ok.above
theorem Inv.stkSub(c:Inv X pins σ H s):∀b∈frs X.stack,b∈X.env.locals::X.fs:=λb a=>by
 rcases c.ok.stk with e|⟨e,d⟩
 .rw[e]at a;show FR _ a
 .rw[e]at a;unfold frs at a;rw[filterMap_cons,d]at a;show a
theorem Inv.stkFree(a:Inv X pins σ H s):∀b∈frs X.stack,H b=none:=λb c=>by
 rcases FU.mp (a.stkSub b c)with e|c
 .rw[e];show a.free
 .let(_,o,d,_):=a.ok.funs.mem c;show a.base.free b o d (a.ok.frf b c) λz=>a.ok.exfs b z c
theorem Inv.step{g':Array GenState}{t':Nat}{d':Drawn}{ch:List zi}(a:Inv X pins σ H s)(j:∀b∈ch,(b∈X.ex\/X.s₀.heap.objs.size<=b)/\b≠X.env.locals/\(∀x c,X.env.cells.lookup x=some c->c≠b)/\∀p∈X.pn++pins,p.1≠b)(C:∀b o,b≠X.env.locals->b∉X.fs->b∉ch->s.heap.get? b=some o->H b=none->h'.get? b=some o)(L:∀b o,b≠X.env.locals->b∈X.fs->b∉ch->s.heap.get? b=some o->H b=none->∃D,h'.get? b=some {o with slots:=D})(y:∀b o,b∉ch->s.heap.get? b=some o->H b=none->H' b=none)(V:∀b o,b∉ch->s.heap.get? b=some o->∃o',h'.get? b=some o')(W:∀b xs,H b=some (.tup xs)->H' b=some (.tup xs))(M:∀b o u,H b=some (.frz o u)->H' b=some (.frz o u))(U:∀b ps,H b=some (.tbl ps)->∃more,H' b=some (.tbl<|ps++more))(ns:∀m,s.heap.Ns X.env.locals m->h'.Ns X.env.locals m)(Q:HOk X.prog X.w H' h')(N:AllBare g'):
  Inv X pins σ H' {s with heap:=h',gens:=g',drawn:=d',toks:=t'}:=by
 have J:∀b o,X.s₀.heap.get? b=some o->b≠X.env.locals:=λb o e=>FX<|Fc (FW e) a.ok.above;have A:∀b o,X.s₀.heap.get? b=some o->b∉X.ex->b∉ch:=λb o e f g=>by
  rcases (j b g).1 with z|z
  .show f z
  .show absurd (Fc (FW e) z)<|lt_irrefl _
 have E:∀x c,X.env.cells.lookup x=some c->∀v,s.heap.IsCell c v->h'.IsCell c v:=λx c e v ⟨o,h,B⟩=>by
  have t:c∉ch:=λz=>(j c z).2.2.1 x c e rfl
  by_cases F:c∈X.fs
  .let(D,q):=L c o (a.cne x c e) F t h<|a.freeC x c e;show{_,q,B}
  .show{o,C c o (a.cne x c e) F t h<|a.freeC x c e,B}
 show{a.ok,a.os,N,{λb o e n g f=>?_,λb o e n g f=>?_,λb o e n f=>?_,λb o e f=>?_,λb xs e=>W b xs<|a.base.tups b xs e,λb o xs e=>M b o xs<|a.base.frzs b o xs e,λb ps e=>?_},?_,λx c e=>?_,?_,λx c e=>?_,λp G=>?_,Q,a.len}
 .show C b o (J b o e) g (A b o e f) (a.base.keep b o e n g f)<|a.base.free b o e n f
 .let(D,e1):=a.base.slot b o e n g f;let(T,e2):=L b _ (J b o e) g (A b o e f) e1<|a.base.free b o e n f;show⟨T,e2⟩
 .let(o',e1):=a.base.there b o e f;show y b o' (A b o e f) e1<|a.base.free b o e n f
 .let(o',e1):=a.base.there b o e f;show V b o' (A b o e f) e1
 .let(R,e1):=a.base.tbls b ps e;let(S,e2):=U b _ e1;show{R++S,by rw[e2,Array.append_assoc]}
 .let(m,P,O):=a.loc;show{m,ns m P,λi x v e1 e2 e3=>?_};let(u,r,l):=O i x v e1 e2 e3;show{u,r,?_};rcases l with l|⟨k,c,e,z⟩
  .show .inl l
  .show .inr ⟨k,c,e,E x c e _ z⟩
 .let(v,z):=a.cell x c e;show{v,E x c e v z}
 .let(m,(o,_,_,h,_),_):=a.loc;show y _ o (λz=>(j _ z).2.1 rfl) h a.free
 .let(v,o,h,B):=a.cell x c e;show y c o (λz=>(j c z).2.2.1 x c e rfl) h<|a.freeC x c e
 .let(e,n,I,K,d):=a.pin p G;have t:p.1∉ch:=λz=>(j p.1 z).2.2.2 p G rfl;show{C p.1 p.2 I K t e n,y p.1 p.2 t e n,I,K,d}
theorem Inv.un{t':Nat}(a:Inv X pins σ H s)(u:Un X.fs [] H H' s.heap h')(k:HOk X.prog X.w H' h'):Inv X pins σ H' {s with heap:=h',toks:=t'}:=by
 let(m,(o,es,p,d,r),_):=id a.loc;let(t,i):=u.any d a.free (by simp);show a.step (g':=s.gens) (d':=s.drawn) (ch:=[]) (λ_ z=>nomatch z) (λb o _ c _ e n=>u.keep b o e n c (by simp)) (λb o _ c _ e n=>u.slot b o e n c (by simp)) (λb o _ e n=>u.free b o e n (by simp)) (λb o _ e=>u.there b o e (by simp)) u.tups u.frzs u.tbls (λq j=>by
  let(o',h,g,f,l):=j;rw[d]at f;cases f;show{_,h,g,i,l}) k a.bare
theorem Inv.call{g':Array GenState}{t':Nat}{d':Drawn}{ch:List zi}(d:Inv X pins σ H s)(u:Un (frs X.stack) ch H H' s.heap h')(v:HOk X.prog X.w H' h')(q:AllBare g')(g:∀b∈ch,(b∈X.ex\/X.s₀.heap.objs.size<=b)/\b≠X.env.locals/\(∀x c,X.env.cells.lookup x=some c->c≠b)/\∀p∈X.pn++pins,p.1≠b):
  Inv X pins σ H' {s with heap:=h',gens:=g',drawn:=d',toks:=t'}:=by
 let(m,(o,es,A,h,r),_):=id d.loc;let(C,f):=u.any h d.free λz=>(g _ z).2.1 rfl;show d.step (ch:=ch) g (λb o f l a e n=>u.keep b o e n (λz=>(FU.mp<|d.stkSub b z).elim f l) a) (λb o _ _ a e n=>u.any e n a) (λb o a e n=>u.free b o e n a) (λb o a e=>u.there b o e a) u.tups u.frzs u.tbls (λB t=>by
  let(o',k,j,i,y):=t;rw[h]at i;cases i;show{_,k,j,f,y}) v q
theorem Inv.turned{t':Nat}{it:zi}(d:Inv X pins σ H s)(k:∀b o,b≠it->s.heap.get? b=some o->h'.get? b=some o)(y:H it=none)(f:it≠X.env.locals)(i:it∈X.ex\/X.s₀.heap.objs.size<=it)(j:∀x c,X.env.cells.lookup x=some c->c≠it)(l:∀p∈X.pn++pins,p.1≠it):Inv X pins σ H {s with heap:=h',toks:=t'}:=by
 have g:∀b u,H b=some u->b≠it:=λb u e z=>by rw[z,y]at e;cases e
 show d.step (g':=s.gens) (d':=s.drawn) (ch:=[it]) (λb t=>?_) (λb o _ _ a e _=>k b o (λz=>a (by simp[z])) e) (λb o _ _ a e _=>{o.slots,k b o (λz=>a (by simp[z])) e}) (λ_ _ _ _ n=>n)
  (λb o a e=>{o,k b o (λz=>a (by simp[z])) e}) (λ_ _ e=>e) (λ_ _ _ e=>e) (λb ps e=>{#[],by rw[e];simp}) (λm w=>?_) (λb u e=>?_) d.bare
 .have e:b=it:=by simpa using t
  subst e;show⟨i,f,j,l⟩
 .let(o,es,h,A,r):=w;show{o,es,h,k _ o (symm f) A,r}
 .show(d.hok b u e).stay (λc v a q=>k c v ?_ q) (λ_ q=>q) λ_ _ q=>q;rcases a with z|z
  .rw[z];show g b u e
  .show g c _ z
theorem Inv.tok(I:Inv X pins σ H s)(t:Nat):Inv X pins σ H {s with toks:=t}:=I.un (h':=s.heap) (t':=t) Un.refl I.hok
theorem Inv.kept{t':Nat}(I:Inv X pins σ H s)(k:∀b u,s.heap.get? b=some u->h'.get? b=some u):Inv X pins σ H {s with heap:=h',toks:=t'}:=I.un (Un.kept k)<|I.hok.kept k
theorem Inv.laid{a:zi}{o:HO}{t':Nat}(c:Inv X pins σ H s)(k:∀b u,s.heap.get? b=some u->h'.get? b=some u)(d:s.heap.objs.size<=a)(new:bq X.prog X.w (upd H a o) h' a o):
  Inv X pins σ (upd H a o) {s with heap:=h',toks:=t'}:=c.un (Un.laid k d<|c.hok.fresh d)<|c.hok.laid k d new
theorem Inv.write{x e:zi}{o:HO}{t':Nat}(a:Inv X pins σ H s)(f:Mut<|H x)(c:e=x\/H e=some (.own x))(k:∀b u,b≠e->s.heap.get? b=some u->h'.get? b=some u)(d:∃u,h'.get? e=some u)(new:bq X.prog X.w (upd H x o) h' x o):Inv X pins σ (upd H x o) {s with heap:=h',toks:=t'}:=a.un (Un.write f c k d)<|a.hok.write f c k d new
theorem Inv.pins_of{b:List (zi×Obj)}(a:Inv X pins σ H s)(c:∀p∈b,s.heap.get? p.1=some p.2/\H p.1=none/\p.1≠X.env.locals/\p.1∉X.fs/\∀v,p.2.data≠.cell v):Inv X b σ H s :=
 {a.ok,a.os,a.bare,a.base,a.loc,a.cell,a.free,a.freeC,λp d=>(Fd.mp d).elim (λz=>a.pin p<|mem_append_left _ z) (c p),a.hok,a.len}
theorem kb{N:List Str}(c:N.Nodup){i j:Nat}{x:Str}(a:N[i]?=some x)(b:N[j]?=some x):i=j:=by
 let(h1,e1):=FV.mp a;let(h2,e2):=FV.mp b;show(Gr c).mp (e1.trans e2.symm)
theorem md{a6:Model}{A:qd}{E:xx->xg->Prop}{i:Nat}{x:Str}{v:V}{u:xx}{Q:Unit->xg->Prop}(f:Inv X pins σ H s)(W:X.N.Nodup)(C:X.N[i]?=some x)(j:Loc X.env.scope x)(r:aI v u)(U:∀s',Inv X pins (σ.set i<|some v) H s'->(∃a,SameBut a s.heap s'.heap/\(a=X.env.locals\/X.env.cells.lookup x=some a))->Q () s')(a9:X.fn x=true\/X.env.scope.names.lookup x=some .local:=by first|show .inl rfl|show .inr rfl|assumption):wpAny a6 A (storeName X.env x u) Q E s:=by
 let(m,L,a2):=id f.loc;have a8:(X.env.scope.kind==.class||(X.env.scope.kind==.module&&X.env.locals != X.env.globals))=false:=by rw[f.ok.kind];rfl
 have a1:i<σ.length:=by rw[f.len];show(FV.mp C).1
 have J:=f.cne;have a5:∀{a:zi}{h':qb},(∃o,s.heap.get? a=some o/\H a=none)->SameBut a s.heap h'->HOk X.prog X.w H h':=λ{a h'} a7 g b b9 e=>by
  let(_,_,a0):=a7;show(f.hok b b9 e).stay (λc I h q=>(g.2 c ?_).trans q) (λ_ q=>q) λ_ _ q=>q;rintro rfl;rcases h with rfl|h
  .rw[a0]at e;cases e
  .rw[a0]at h;cases h
 rcases j with l|l
 .show wpAny_storeName_local l L (λh' b5 g=>?_) a8;let(b8,_,_,b6,_):=id L;show U _ {f.ok,f.os,f.bare,{λb o e n t j=>?_,λb o e n t j=>?_,f.base.free,λb o e j=>?_,f.base.tups,f.base.frzs,f.base.tbls},{_,b5,λD y T e1 e2 e3=>?_},λy c e=>?_,f.free,f.freeC,λp M=>?_,a5 ⟨b8,b6,f.free⟩ g,by simpa using f.len} ⟨_,g,.inl rfl⟩
  .show(g.2 b<|FX (Fc (FW e) f.ok.above)).trans (f.base.keep b o e n t j)
  .let(R,e1):=f.base.slot b o e n t j;show{R,(g.2 b<|FX (Fc (FW e) f.ok.above)).trans e1}
  .let(o',e1):=f.base.there b o e j;show{o',(g.2 b<|FX (Fc (FW e) f.ok.above)).trans e1}
  .by_cases B:D=i
   .subst B;rw[C]at e1;cases e1;rw[getElem?_set_self a1]at e2;cases e2;show{u,r,.inl ⟨l,by simp⟩}
   .rw[List.getElem?_set_ne<|symm B]at e2;let(S,P,q):=a2 D y T e1 e2 e3;show{S,P,?_};rcases q with⟨k,e⟩|⟨k,c,e,z⟩
    .show .inl {k,?_};have:y≠x:=λe=>B<|kb W e1 (e ▸ C);simp[this,e]
    .show .inr {k,c,e,z.sameBut g<|J y c e}
  .let(I,z):=f.cell y c e;show{I,z.sameBut g<|J y c e}
  .let(e,n,G,O,d):=f.pin p M;show{(g.2 p.1 G).trans e,n,G,O,d}
 .have K:X.fn x=true:=by
   rcases a9 with z|z
   .show z
   .rw[z]at l;cases l
  let(c,h):=f.ok.has x<|.inl l;let(I,z):=f.cell x c h;show wpAny_storeName_cell f.ok.kind l h z λh' Y g=>?_;let(a4,a3,b7):=id z;show U {s with heap:=h'} {f.ok,f.os,f.bare,{λb o e n t j=>?_,λb o e n t j=>?_,f.base.free,λb o e j=>?_,f.base.tups,f.base.frzs,f.base.tbls},{m,L.sameBut g<|symm (J x c h),λD y T e1 e2 e3=>?_},λy F e=>?_,f.free,f.freeC,λp M=>?_,a5 ⟨a4,a3,f.freeC x c h⟩ g,by simpa using f.len} ⟨c,g,.inr h⟩
  .show(g.2 b<|FX (Fc (FW e)<|f.ok.cab x c K h)).trans (f.base.keep b o e n t j)
  .let(R,e1):=f.base.slot b o e n t j;show{R,(g.2 b<|FX (Fc (FW e)<|f.ok.cab x c K h)).trans e1}
  .let(o',e1):=f.base.there b o e j;show{o',(g.2 b<|FX (Fc (FW e)<|f.ok.cab x c K h)).trans e1}
  .by_cases B:D=i
   .subst B;rw[C]at e1;cases e1;rw[getElem?_set_self a1]at e2;cases e2;show{u,r,.inr ⟨.inl l,c,h,Y⟩}
   .rw[List.getElem?_set_ne<|symm B]at e2;let(S,P,q):=a2 D y T e1 e2 e3;show{S,P,?_};rcases q with q|⟨k,F,e,c2⟩
    .show .inl q
    .show .inr {k,F,e,c2.sameBut g ?_};rintro rfl;show B<|kb W e1 (f.ok.inj _ _ _ e h ▸ C)
  .by_cases Z:F=c
   .subst Z;show{_,Y}
   .let(c1,c3):=f.cell y F e;show{c1,c3.sameBut g Z}
  .let(e,n,G,O,d):=f.pin p M;show{(g.2 p.1 ?_).trans e,n,G,O,d};intro q;rw[q,a3]at e;have c0:a4=p.2:=Option.some.inj e;show d I (by rw[<-c0];show b7)
theorem eQ{c:Model}{A:qd}{E:xx->xg->Prop}{i:Nat}{x:Str}{v:V}{u:xx}{Q:Unit->xg->Prop}(a:Inv X pins σ H s)(e:X.N.Nodup)(g:X.N[i]?=some x)(h:Loc X.env.scope x)(r:aI v u)(d:∀s',Inv X pins (σ.set i<|some v) H s'->Q () s')(f:X.fn x=true\/X.env.scope.names.lookup x=some .local:=by first|show .inl rfl|show .inr rfl|assumption):wpAny c A (storeName X.env x u) Q E s :=
 md a e g h r (λs' b _=>d s' b) f
theorem Inv.call'{s':xg}{ch:List zi}(a:Inv X pins σ H s)(g:s'.os=s.os)(u:Un (frs X.stack) ch H H' s.heap s'.heap)(h:HOk X.prog X.w H' s'.heap)(f:AllBare s'.gens)(d:∀b∈ch,(b∈X.ex\/X.s₀.heap.objs.size<=b)/\b≠X.env.locals/\(∀x c,X.env.cells.lookup x=some c->c≠b)/\∀p∈X.pn++pins,p.1≠b):Inv X pins σ H' s':=by
 let(h',g',d',t',o'):=s';have e:o'=s.os:=g;subst e;show a.call (g':=g') (t':=t') (d':=d') u h f d
end
abbrev XK:=xx->Option zi->Hp->Prop
abbrev St:=List<|Option V
abbrev VK:=V->Hp->Prop
abbrev TE:=St->Hp->VK->Prop
abbrev TT:=St->Hp->(Bool->Hp->Prop)->Prop
abbrev TA:=St->Hp->(List V->Hp->Prop)->Prop
structure Ends where
 nx:St->Hp->Prop
 rt:VK
 bk:St->Hp->Prop:=λ_ _=>False
 ct:St->Hp->Prop:=λ_ _=>False
abbrev TS:=Ends->St->Hp->Prop
def EP(X:Cx)(a:List<|zi×Obj)(b:St)(Q:VK)(u:xx)(s':xg):Prop:=∃v H',Inv X a b H' s'/\aI v u/\Q v H'
def TP(X:Cx)(a:List<|zi×Obj)(c:St)(Q:Bool->Hp->Prop)(b:Bool)(s':xg):Prop:=∃H',Inv X a c H' s'/\Q b H'
def AP(X:Cx)(a:List<|zi×Obj)(b:St)(Q:List V->Hp->Prop)(us:List xx)(s':xg):Prop:=∃vs H',Inv X a b H' s'/\aA vs us/\Q vs H'
def SP(X:Cx)(c:List<|zi×Obj)(b:Ends)(f:Flow)(s':xg):Prop :=
 match f with
 |.next=>∃a H',Inv X c a H' s'/\b.nx a H'
 |.brk=>∃a H',Inv X c a H' s'/\b.bk a H'
 |.cont=>∃a H',Inv X c a H' s'/\b.ct a H'
 |.ret u=>∃v a H',Inv X c a H' s'/\aI v u/\b.rt v H'
def PE(X:Cx)(e:Expr)(t:TE):Prop :=
 ∀(pins:List<|zi×Obj)(s:xg)(σ:St)(H:Hp)(Q:VK),Inv X pins σ H s->t σ H Q->wpAny (model X.prog X.w) X.A (eval e X.env) (EP X pins σ Q) X.xe s
def PT(X:Cx)(e:Expr)(t:TT):Prop :=
 ∀(pins:List<|zi×Obj)(s:xg)(σ:St)(H:Hp)(Q:Bool->Hp->Prop),Inv X pins σ H s->t σ H Q->wpAny (model X.prog X.w) X.A (isTrue e X.env<|eval e X.env) (TP X pins σ Q) X.xe s
def PW(X:Cx)(e:Expr)(t:TT):Prop :=
 ∀(a:Sem xx)(pins:List<|zi×Obj)(s:xg)(σ:St)(H:Hp)(Q:Bool->Hp->Prop),Inv X pins σ H s->t σ H Q->wpAny (model X.prog X.w) X.A (isTrue e X.env a) (TP X pins σ Q) X.xe s
theorem PW.pt{X:Cx}{e:Expr}{t:TT}(h:PW X e t):PT X e t:=h _
def PA(X:Cx)(a:List Expr)(t:TA):Prop :=
 ∀(pos:Pos)(pins:List<|zi×Obj)(s:xg)(σ:St)(H:Hp)(Q:List V->Hp->Prop),Inv X pins σ H s->t σ H Q->wpAny (model X.prog X.w) X.A (spliced<|backTo pos (starEach a X.env)) (AP X pins σ Q) X.xe s
def PS(X:Cx)(st:Stmt)(t:TS):Prop :=
 ∀(pins:List<|zi×Obj)(s:xg)(σ:St)(H:Hp)(D:Ends),Inv X pins σ H s->t D σ H->wpAny (model X.prog X.w) X.A (exec st X.env) (SP X pins D) X.xe s
def PSs(X:Cx)(st:List Stmt)(t:TS):Prop :=
 ∀(pins:List<|zi×Obj)(s:xg)(σ:St)(H:Hp)(D:Ends),Inv X pins σ H s->t D σ H->wpAny (model X.prog X.w) X.A (execs st X.env) (SP X pins D) X.xe s
theorem thn{d:Type}{t:Sem d}{Q c:d->xg->Prop}{b:Model}{A:qd}{E:xx->xg->Prop}{s:xg}(e:wpAny b A t Q E s)(f:∀a s,Q a s->c a s):wpAny b A t c E s:=wpAny_mono e f λ_ _ x=>x
section
variable{X:Cx}
def hZ(i:Nat):TE:=λσ H Q=>∃v,σ[i]?=some (some v)/\Q v H
def tC(v:V):TE:=λ_ H Q=>Q v H
theorem Ak{i:Nat}{x:Str}{pos:Pos}(g:X.N[i]?=some x)(p:Vis X.env.scope x)(hd:(x==("__debug__":Str))=false:=by decide)(j:(x==("__classdict__":Str))=false:=by decide):PE X (.Name x pos) (hZ i):=by
 intro pins s σ H Q I h;let(v,e,h):=h;let(m,o,k):=I.loc;let(u,r,l):=k i x v g e p;have b:EP X pins σ Q u s:=⟨v,H,I,r,h⟩;rcases l with⟨a,n⟩|⟨a,c,d,f⟩
 .show wpAny_Name (wpAny_loadName_local I.ok.kind a o n b) hd
 .rcases a with a|a
  .show wpAny_Name (wpAny_loadName_cell I.ok.kind a d f b) hd
  .show wpAny_Name (wpAny_loadName_free I.ok.kind a d f b j) hd
theorem ai{i j pos}:PE X (.Constant (.int i) j pos) (tC<|.int i):=λ_ _ _ H _ I h=>wpAny_Constant_int ⟨.int i,H,I.tok _,⟨_,rfl⟩,h⟩
theorem fQ{b j pos}:PE X (.Constant (.bool b) j pos) (tC<|.bl b):=λ_ _ _ H _ I h=>Constant_bool ⟨.bl b,H,I,rfl,h⟩
theorem cT{j pos}:PE X (.Constant .none j pos) (tC .non):=λ_ _ _ H _ I h=>Constant_none ⟨.non,H,I,rfl,h⟩
theorem ay{x j pos}:PE X (.Constant (.str x) j pos) (tC<|.str x):=λ_ _ _ H _ I h=>Constant_str ⟨.str x,H,I.tok _,⟨_,rfl⟩,h⟩
def Gl(X:Cx)(x:Str):Prop:=X.env.kindOf x=some .globalImplicit
theorem gJ{E:xx->xg->Prop}{f:List (zi×Obj)}{s:xg}{g:St}{b:Hp}{x:Str}{u:xx}{pos:Pos}{Q:xx->xg->Prop}(a:Inv X f g b s)(d:Gl X x)(e:X.mg x=some u)(c:Q u s)(hd:(x==("__debug__":Str))=false:=by decide):wpAny (model X.prog X.w) X.A (eval (.Name x pos) X.env) Q E s :=
 Calls.Name_function_global a.ok.kind d (Calls.loadGlobal_global (by rw[a.ok.glob];show a.mod.glob.keeps a.bk) e c) hd
theorem jc{E:xx->xg->Prop}{h:List (zi×Obj)}{s:xg}{i:St}{b:Hp}{x:Str}{u:xx}{pos:Pos}{Q:xx->xg->Prop}(a:Inv X h i b s)(d:Gl X x)(e:X.mg x=none)(g:bootBuiltins x=some u)(c:Q u s)(f:x≠"__name__":=by decide)(hd:(x==("__debug__":Str))=false:=by decide):wpAny (model X.prog X.w) X.A (eval (.Name x pos) X.env) Q E s:=by
 let(j,h1,h2):=a.mod.blt;show Calls.Name_function_global a.ok.kind d (Calls.loadGlobal_builtin (by rw[a.ok.glob];show a.mod.glob.keeps a.bk) e (by rw[a.ok.blt];show h1.keeps a.bk) ((h2 x f).trans g) c) hd
theorem bw{x:Str}{v:V}{u:xx}{pos:Pos}(a:Gl X x)(b:X.mg x=some u)(r:aI v u)(hd:(x==("__debug__":Str))=false:=by decide):PE X (.Name x pos) (tC v) :=
 λ_ _ _ H _ I h=>gJ I a b ⟨v,H,I,r,h⟩ hd
theorem dQ{x:Str}{v:V}{u:xx}{pos:Pos}(a:Gl X x)(b:X.mg x=none)(d:bootBuiltins x=some u)(r:aI v u)(c:x≠"__name__":=by decide)(hd:(x==("__debug__":Str))=false:=by decide):PE X (.Name x pos) (tC v) :=
 λ_ _ _ H _ I h=>jc I a b d ⟨v,H,I,r,h⟩ c hd
variable{a b:Expr}{ta tb:TE}{pos:Pos}
def PC(X:Cx)(op:CmpOp)(a b:Expr)(t:TE):Prop :=
 ∀(pins:List<|zi×Obj)(s:xg)(σ:St)(H:Hp)(Q:VK),Inv X pins σ H s->t σ H Q ->
  wpAny (model X.prog X.w) X.A (eval a X.env) (λv c=>wpAny (model X.prog X.w) X.A (eval b X.env) (λu d=>wpAny (model X.prog X.w) X.A (compareOp op v u) (EP X pins σ Q) X.xe d) X.xe c) X.xe s
def tB(t:TE):TT:=λσ H Q=>t σ H λx H1=>∃c,x=.bl c/\Q c H1
theorem uU{op:CmpOp}{t:TE}(c:PC X op a b t)(d:behindInMarks op b=false:=by first|show nobehind _ (by decide) (by decide)|rfl):PE X (.Compare a [op] [b] pos) t:=λpins s σ H Q I e=>wpAny_Compare1 (c pins s σ H Q I e) d
theorem ia{op:CmpOp}{t:TE}(g:PC X op a b t)(e:behindInMarks op b=false:=by first|show nobehind _ (by decide) (by decide)|rfl):PT X (.Compare a [op] [b] pos) (tB t):=by
 intro pins s σ H Q I h;show wpAny_isTrue_Compare1 (thn (g pins s σ H _ I h) λv s1 e=>thn e λu k h2=>thn h2 λc l ⟨x,H1,f,j,i⟩=>?_) e;let(d,rfl,q):=i;cases j;show wpAny_truthy_bool ⟨H1,f,q⟩
theorem cE{e:Expr}{t:TE}(c:PE X e t)(f:∀a,isTrue e X.env a=(do let v <- a;standAt e.pos;holding [v] (truthy v)):=by intro _;rfl):PT X e (tB t):=by
 intro pins s σ H Q I g;show isTrue_plain (thn (c pins s σ H _ I g) λv s1 ⟨x,H1,b,i,h⟩=>?_)<|f _;let(d,rfl,q):=h;cases i;show wpAny_truthy_bool ⟨H1,b,q⟩
variable{tA tB':TT}{rest:List Expr}
def DR(t u:TT):TT:=λσ H Q=>t σ H λc H1=>if c=true then u σ H1 Q else Q false H1
def tOr(t u:TT):TT:=λσ H Q=>t σ H λc H1=>if c=true then Q true H1 else u σ H1 Q
def DU(t:TT):TT:=λσ H Q=>t σ H λc H1=>Q (!c) H1
theorem pw_and1(b:PT X a tA):PW X (.BoolOp .And [a] pos) tA:=by
 intro d pins s σ H Q I h;show isTrue_and<|thn (b pins s σ H Q I h) λc s1 e=>?_;cases c with
 |true=>show isTrue_and_nil e
 |false=>show e
theorem pw_or1(b:PT X a tA):PW X (.BoolOp .Or [a] pos) tA:=by
 intro d pins s σ H Q I h;show isTrue_or<|thn (b pins s σ H Q I h) λc s1 e=>?_;cases c with
 |false=>show isTrue_or_nil e
 |true=>show e
theorem pw_and(f:PT X a tA)(g:PW X (.BoolOp .And (b::rest) pos) tB'):PW X (.BoolOp .And (a::b::rest) pos) (DR tA tB'):=by
 intro j pins s σ H Q I h;show isTrue_and<|thn (f pins s σ H _ I h) λc s1 i=>?_;let(H1,d,e):=i;cases c with
 |true=>show g j pins s1 σ H1 Q d e
 |false=>show⟨H1,d,e⟩
theorem pw_or(f:PT X a tA)(g:PW X (.BoolOp .Or (b::rest) pos) tB'):PW X (.BoolOp .Or (a::b::rest) pos) (tOr tA tB'):=by
 intro j pins s σ H Q I h;show isTrue_or<|thn (f pins s σ H _ I h) λc s1 i=>?_;let(H1,d,e):=i;cases c with
 |true=>show⟨H1,d,e⟩
 |false=>show g j pins s1 σ H1 Q d e
theorem cU(b:PT X a tA):PT X (.UnaryOp .Not a pos) (DU tA):=by
 intro pins s σ H Q I h;show isTrue_not<|b pins s σ H (λc H1=>Q (!c) H1) I h
def Cq(a b:TE):TE:=λσ H Q=>a σ H λx H1=>∃c,x=.bl c/\if c=true then b σ H1 Q else Q (.bl false) H1
def DV(a b:TE):TE:=λσ H Q=>a σ H λx H1=>∃c,x=.bl c/\if c=true then Q (.bl true) H1 else b σ H1 Q
def Cr(a:TE):TE:=λσ H Q=>a σ H λx H1=>∃c,x=.bl c/\Q (.bl<|!c) H1
theorem kc{op}{t:TE}(b:PE X a t):PE X (.BoolOp op [a] pos) t:=λpins s σ H Q I c=>BoolOp_one<|b pins s σ H Q I c
theorem kd(f:PE X a ta)(g:PE X (.BoolOp .And (b::rest) pos) tb):PE X (.BoolOp .And (a::b::rest) pos) (Cq ta tb):=by
 intro pins s σ H Q I h;show BoolOp_and<|thn (f pins s σ H _ I h) λv s1 i=>?_;let(x,H1,e,j,d):=i;let(c,rfl,d):=d;cases j;show wpAny_truthy_bool ?_;cases c with
 |true=>show g pins s1 σ H1 Q e d
 |false=>show{.bl false,H1,e,rfl,d}
theorem Cs(f:PE X a ta)(g:PE X (.BoolOp .Or (b::rest) pos) tb):PE X (.BoolOp .Or (a::b::rest) pos) (DV ta tb):=by
 intro pins s σ H Q I h;show BoolOp_or<|thn (f pins s σ H _ I h) λv s1 i=>?_;let(x,H1,e,j,d):=i;let(c,rfl,d):=d;cases j;show wpAny_truthy_bool ?_;cases c with
 |false=>show g pins s1 σ H1 Q e d
 |true=>show{.bl true,H1,e,rfl,d}
theorem uV(e:PE X a ta):PE X (.UnaryOp .Not a pos) (Cr ta):=by
 intro pins s σ H Q I h;show UnaryOp_<|thn (e pins s σ H _ I h) λv s1 f=>?_;let(x,H1,d,g,b):=f;let(c,rfl,b):=b;cases g;show not_of<|wpAny_truthy_bool {.bl<|!c,H1,d,rfl,b}
def tIf(t:TT)(a b:TE):TE:=λσ H Q=>t σ H λc H1=>if c=true then a σ H1 Q else b σ H1 Q
theorem iB{c:Expr}(j:PT X c tA)(g:PE X a ta)(i:PE X b tb):PE X (.IfExp c a b pos) (tIf tA ta tb):=by
 intro pins s σ H Q I h;show wpAny_IfExp<|thn (j pins s σ H _ I h) λd s1 k=>?_;let(H1,e,f):=k;cases d with
 |true=>show g pins s1 σ H1 Q e f
 |false=>show i pins s1 σ H1 Q e f
end
def SqL(K:Frag)(c:Hp)(a:zi)(xs:List V):Prop :=
 Rd c a (.lst xs) \/
  ∃(o:Obj) (b:Array xx) (n:Nat),K.lookup a=some o/\o.cls=.type "list"/\o.dict=none/\o.data=.seq b n/\b.size<=sizeLine/\aA xs b.toList
def SqT(K:Frag)(c:Hp)(a:zi)(xs:List V):Prop :=
 Rd c a (.tup xs) \/
  ∃(o:Obj) (b:Array xx) (n:Nat),K.lookup a=some o/\o.cls=.type "tuple"/\o.data=.seq b n/\b.size<=sizeLine/\aA xs b.toList
def DW:xx->Option V
 |.none=>some .non
 |.bool b=>some<|.bl b
 |.int i _=>some<|.int i
 |.str x _=>some<|.str x
 |.bytes b _=>some<|.byt b
 |.float b _=>some<|.flt b
 |.ref a=>some<|.ref a
 |.type n=>some<|.ty n
 |_=>none
theorem aI.abs{x:V}{u:xx}(r:aI x u):DW u=some x:=by
 cases x with
 |non=>cases r;rfl
 |bl _=>cases r;rfl
 |int _=>let(t,rfl):=r;rfl
 |str _=>let(t,rfl):=r;rfl
 |byt _=>let(t,rfl):=r;rfl
 |flt _=>let(t,rfl):=r;rfl
 |ref _=>cases r;rfl
 |ty _=>cases r;rfl
theorem aI.inj{x y:V}{u:xx}(r:aI x u)(q:aI y u):x=y:=Option.some.inj<|r.abs.symm.trans q.abs
theorem aA.inj:∀{xs ys:List V}{us:List xx},aA xs us->aA ys us->xs=ys
 |_,_,_,.nil,.nil=>rfl
 |_,_,_,.cons r t,.cons r' t'=>by rw[r.inj r',aA.inj t t']
section
variable{X:Cx}{pins:List (zi×Obj)}{σ:St}{H:Hp}{s:xg}{a:zi}{xs ys:List V}
theorem SqL.of{K:Frag}(h:H a=some (.lst xs)):SqL K H a xs:=.inl<|.inl h
theorem SqT.of{K:Frag}(h:H a=some (.tup xs)):SqT K H a xs:=.inl<|.inl h
theorem Inv.list(d:Inv X pins σ H s)(c:SqL X.K H a xs):∃b:List xx,aA xs b/\PlainL s.heap a b.toArray/\xs.length<=sizeLine:=by
 rcases c with c|⟨o,b,n,h,f,g,i,j,r⟩
 .let(z,b,n,r,e):=c.ok d.hok;show{b,r,⟨_,n,e,rfl,rfl,rfl⟩,z}
 .show{b.toList,r,⟨o,n,d.kIn a o h,f,g,by simpa using i⟩,?_}
  have e:=r.length;simp only[FQ]at e
  lia
theorem Inv.tuple(d:Inv X pins σ H s)(c:SqT X.K H a xs):∃b:List xx,aA xs b/\IsTup s.heap a b.toArray/\xs.length<=sizeLine:=by
 rcases c with c|⟨o,b,n,g,f,h,i,r⟩
 .let(z,b,r,p):=c.ok d.hok;show⟨b,r,p,z⟩
 .show{b.toList,r,⟨o,d.kIn a o g,f,n,by simpa using h⟩,?_}
  have e:=r.length;simp only[FQ]at e
  lia
theorem Inv.list_inj(b:Inv X pins σ H s)(h:SqL X.K H a xs)(h':SqL X.K H a ys):xs=ys:=by
 let(i,r,(o,n,e,_,_,d),_):=b.list h;let(its',j,(o',k,f,_,_,c),_):=b.list h';rw[e]at f;cases f;rw[d]at c;injection c with g _
 have:i=its':=by simpa using congrArg toList g
 subst this;show r.inj j
theorem Inv.tuple_inj(b:Inv X pins σ H s)(h:SqT X.K H a xs)(h':SqT X.K H a ys):xs=ys:=by
 let(i,r,(o,e,_,n,d),_):=b.tuple h;let(its',j,(o',f,_,k,c),_):=b.tuple h';rw[e]at f;cases f;rw[d]at c;injection c with g _
 have:i=its':=by simpa using congrArg toList g
 subst this;show r.inj j
end
abbrev Cx.wish(X:Cx)(E:xx->xg->Prop):Cx:={X with xe:=E}
abbrev Cx.nox(X:Cx):Cx:=X.wish λ_ _=>False
theorem Cx.Ok.wish{X:Cx}(a:X.Ok)(E:xx->xg->Prop):(X.wish E).Ok :=
 ⟨a.mod,a.kind,a.glob,a.blt,a.above,a.inj,a.has,a.cab,a.hd,a.frames,a.stk,a.exf,a.bs,a.bsz,a.noex,a.exfs,a.funs,a.frf⟩
theorem Cx.Ok.unwish{X:Cx}{E:xx->xg->Prop}(a:(X.wish E).Ok):X.Ok :=
 ⟨a.mod,a.kind,a.glob,a.blt,a.above,a.inj,a.has,a.cab,a.hd,a.frames,a.stk,a.exf,a.bs,a.bsz,a.noex,a.exfs,a.funs,a.frf⟩
section
variable{X:Cx}{pins:List (zi×Obj)}{σ:St}{H:Hp}{s:xg}{E:xx->xg->Prop}
theorem Inv.wish(I:Inv X pins σ H s)(E:xx->xg->Prop):Inv (X.wish E) pins σ H s:=⟨I.ok.wish E,I.os,I.bare,I.base,I.loc,I.cell,I.free,I.freeC,I.pin,I.hok,I.len⟩
theorem Inv.unwish(I:Inv (X.wish E) pins σ H s):Inv X pins σ H s:=⟨I.ok.unwish,I.os,I.bare,I.base,I.loc,I.cell,I.free,I.freeC,I.pin,I.hok,I.len⟩
theorem SP.unwish{c:Ends}{f:Flow}{s':xg}(b:SP (X.wish E) pins c f s'):SP X pins c f s':=by
 cases f with
 |next=>let(a,H',I,q):=b;show⟨a,H',I.unwish,q⟩
 |brk=>let(a,H',I,q):=b;show⟨a,H',I.unwish,q⟩
 |cont=>let(a,H',I,q):=b;show⟨a,H',I.unwish,q⟩
 |ret u=>let(v,a,H',I,r,q):=b;show⟨v,a,H',I.unwish,r,q⟩
theorem PSs.nox{st:List Stmt}{t:TS}(b:PSs X.nox st t):PSs X st t:=λpins s σ H a I c =>
 wpAny_mono (b pins s σ H a (I.wish _) c) (λ_ _ q=>q.unwish) λ_ _ z=>False.elim z
end
section
variable{X:Cx}{st:Stmt}{rest:List Stmt}{t u:TS}{e:Expr}{te:TE}{pos:Pos}
def Ct:TS:=λD σ H=>D.nx σ H
def qD(t u:TS):TS:=λD σ H=>t {D with nx:=u D} σ H
theorem ax:PSs X [] Ct:=λ_ _ σ H _ I h=>wpAny_execs_nil ⟨σ,H,I,h⟩
theorem ag(c:PS X st t)(d:PSs X rest u):PSs X (st::rest) (qD t u):=by
 intro pins s σ H a I h;show wpAny_execs_cons<|thn (c pins s σ H {a with nx:=u a} I h) λf s1 q=>?_;cases f with
 |next =>
  let(e,H',b,q):=q;show d pins s1 e H' a b q
 |ret v=>show q
 |brk=>show q
 |cont=>show q
theorem am(b:PS X st t):PSs X [st] t:=by
 intro pins s σ H a I h;show wpAny_execs_cons<|thn (b pins s σ H a I h) λf s1 q=>?_;cases f with
 |next=>show wpAny_execs_nil q
 |ret v=>show q
 |brk=>show q
 |cont=>show q
theorem Inv.quiet{c:List (zi×Obj)}{d:St}{a:Hp}{s:xg}(b:Inv X c d a s):interactive X.env=false:=by simp[interactive,b.ok.kind]
def zP(b:TE):TS:=λa σ H=>b σ H λ_ H1=>a.nx σ H1
theorem cj(b:PE X e te)(c:swapsWith e none pos.line X.env=pure false:=by rfl):PS X (.Expr e pos) (zP te):=by
 intro pins s σ H f I h;show wpAny_Expr_any (thn (b pins s σ H _ I h) λv s1 ⟨x,H1,a,g,d⟩=>⟨σ,H1,a,d⟩) I.quiet c
def Al(b:TE):TS:=λa σ H=>b σ H a.rt
theorem aq(b:PE X e te):PS X (.Return (some e) pos) (Al te):=by
 intro pins s σ H f I h;show wpAny_Return_some<|thn (b pins s σ H _ I h) λv s1 ⟨x,H1,a,d,c⟩=>⟨x,σ,H1,a,d,c⟩
def DY(c:TT)(t u:TS):TS:=λD σ H=>c σ H λb H1=>if b=true then t D σ H1 else u D σ H1
theorem aS{c:Expr}{a b:List Stmt}{i:TT}(l:PT X c i)(j:PSs X a t)(k:PSs X b u):PS X (.If c a b pos) (DY i t u):=by
 intro pins s σ H e I h;show wpAny_If<|thn (l pins s σ H _ I h) λd s1 m=>?_;let(H1,f,g):=m;cases d with
 |true=>show j pins s1 σ H1 e f g
 |false=>show k pins s1 σ H1 e f g
def uW:TS:=λ_ _ _=>False
theorem uX:PS X st uW:=λ_ _ _ _ _ _ h=>h.elim
theorem tK{a:List Stmt}:PSs X a uW:=λ_ _ _ _ _ _ h=>h.elim
end
abbrev TG:=V->St->Hp->(St->Hp->Prop)->Prop
abbrev TGs:=List V->St->Hp->(St->Hp->Prop)->Prop
def PG(X:Cx)(b:Expr)(t:TG):Prop :=
 ∀(pins:List<|zi×Obj)(s:xg)(σ:St)(H:Hp)(v:V)(u:xx)(Q:St->Hp->Prop),Inv X pins σ H s->aI v u->t v σ H Q ->
  wpAny (model X.prog X.w) X.A (assign b X.env u) (λ_ s'=>∃a H',Inv X pins a H' s'/\Q a H') X.xe s
def PGs(X:Cx)(c:List Expr)(t:TGs):Prop :=
 ∀(pins:List<|zi×Obj)(s:xg)(σ:St)(H:Hp)(vs:List V)(a:List xx)(Q:St->Hp->Prop),Inv X pins σ H s->aA vs a->t vs σ H Q ->
  wpAny (model X.prog X.w) X.A (assignInOrder ((assignEach c X.env).map (·.2)) a) (λ_ s'=>∃b H',Inv X pins b H' s'/\Q b H') X.xe s
section
variable{X:Cx}{pos:Pos}
def dk(i:Nat):TG:=λv σ H Q=>Q (σ.set i<|some v) H
theorem bx{i:Nat}{x:Str}(b:X.N.Nodup)(d:X.N[i]?=some x)(e:Loc X.env.scope x)(c:X.fn x=true\/X.env.scope.names.lookup x=some .local:=by first|show .inl rfl|show .inr rfl|assumption):PG X (.Name x pos) (dk i):=by
 intro pins s σ H v u Q I r h;show wpAny_assign_Name<|eQ I b d e r (λs' a=>⟨_,H,a,h⟩) c
def Am:TGs:=λvs σ H Q=>vs=[]/\Q σ H
def oQ(t:TG)(u:TGs):TGs:=λvs σ H Q=>∃v r,vs=v::r/\t v σ H λa H'=>u r a H' Q
theorem jP:PGs X [] Am:=by
 intro pins s σ H vs a Q I r h;let(e,h):=h;subst e;cases r;show assignInOrder_nil ⟨σ,H,I,h⟩
theorem cF{e:Expr}{a:List Expr}{t:TG}{u:TGs}(c:PG X e t)(d:PGs X a u)(g:(assignEach (e::a) X.env).map (·.2)=assign e X.env::(assignEach a X.env).map (·.2):=by rfl):PGs X (e::a) (oQ t u):=by
 intro pins s σ H vs l Q I r h;let(v,m,e1,h):=h;subst e1;cases r with
 |cons r j =>
  rw[g];show assignInOrder_cons<|thn (c pins s σ H _ _ _ I r h) λ_ s1 f=>?_;let(k,H1,b,i):=f;show d pins s1 k H1 _ _ Q b j i
def An(K:Frag)(n:Nat)(t:TGs):TG:=λv σ H Q=>∃a xs,v=.ref a/\SqT K H a xs/\xs.length=n/\t xs σ H Q
theorem nH{c:List Expr}{k:Nat}{t:TGs}{n:Nat}(i:X.calm=true)(h:PGs X c t)(l:(assignEach c X.env).length=n:=by rfl)(p:(assignEach c X.env).findIdx? (·.1)=none:=by rfl):PG X (.Tuple c k pos) (An X.K n t):=by
 intro pins s σ H v u Q I r d;let(a,xs,e1,m,j,d):=d;subst e1;cases r;let(y,f,q,x):=I.tuple m;show assign_Tuple_tuple (I.ok.hd i) q (by simp[l,<-j,f.length]) p λh' w=>?_;have g:Inv X pins σ H {s with heap:=h'}:=I.kept (t':=s.toks) λb o e=>w b o (FX<|FW e) e
 show h pins _ σ H xs _ Q g (by simpa using f) d
def uY(b:TE)(g:TG):TS:=λa σ H=>b σ H λx H1=>g x σ H1 a.nx
theorem uZ{a e:Expr}{b:TE}{g:TG}(f:PE X e b)(i:PG X a g)(j:swapsWithSole [a] e pos.line X.env=pure false:=by rfl)(k:swappedStores [a] e X.env=pure none:=by rfl)(d:(assignEach [a] X.env).map (·.2)=[assign a X.env]:=by rfl):PS X (.Assign [a] e pos) (uY b g):=by
 intro pins s σ H n I h;show wpAny_Assign_stores (thn (f pins s σ H _ I h) λv s1 ⟨x,H1,c,m,l⟩=>?_) j k;rw[d];show thn (i pins s1 σ H1 x v _ c m l) λ_ o q=>q
theorem aD{i:Nat}{x:Str}{e:Expr}{b:TE}{a:Pos}(f:X.N.Nodup)(k:X.N[i]?=some x)(m:Loc X.env.scope x)(g:PE X e b)(l:swapsWith e (some<|.Name x a) pos.line X.env=pure false:=by rfl)(j:X.fn x=true\/X.env.scope.names.lookup x=some .local:=by first|show .inl rfl|show .inr rfl|assumption):
  PS X (.Assign [.Name x a] e pos) (uY b<|dk i):=by
 intro pins s σ H p I h;show wpAny_Assign_Name (thn (g pins s σ H _ I h) λv s1 ⟨y,H1,c,o,n⟩=>?_) l;show eQ c f k m o (λq d=>⟨_,H1,d,n⟩) j
def va(c:TT)(f:TS):TS:=λa σ H=>∃W:Nat->St->Hp->Prop,(∃m,W m σ H)/\∀m σ H,W m σ H ->
 c σ H λb H1=>if b=true then ∃N:St->Hp->Prop,(∀e H',N e H'->∃d,d<m/\W d e H')/\f {a with nx:=N,ct:=N,bk:=a.nx} σ H1 else a.nx σ H1
theorem oR{c:Expr}{q:List Stmt}{x:TT}{u:TS}(t:PassesOwn (model X.prog X.w) X.A X.env X.xe)(C:PT X c x)(B:PSs X q u):PS X (.While c q [] pos) (va x u):=by
 intro pins s σ H L I h;let(W,(E,J),G):=h;show wpAny_While<|codeAny_whileLoop (λn s'=>∃y H',Inv X pins y H' s'/\W n y H') ?_ E ⟨σ,H,I,J⟩;rintro n s1 ⟨i,H1,z,K⟩;show wpAny_passesOwn t<|thn (C pins s1 i H1 _ z<|G n i H1 K) λb F D=>?_;let(H2,p,e):=D;cases b with
 |true =>
  let(N,r,e):=e;rw[EW rfl];show wpAny_passesOwn t<|thn (B pins F i H2 _ p e) λf M g=>?_;cases f with
  |next =>
   let(d,a,j,m):=g;let(l,k,o):=r d a m;show⟨l,k,d,a,j,o⟩
  |cont =>
   let(d,a,j,m):=g;let(l,k,o):=r d a m;show⟨l,k,d,a,j,o⟩
  |brk=>show g
  |ret v=>show g
 |false =>
  rw[EV FL];show wpAny_execs_nil ⟨i,H2,p,e⟩
end
structure It where
 go:Nat->Hp->Prop
 yld:Nat->Hp->V->Hp->Prop
 stop:Nat->Hp->Prop
def jL(X:Cx)(d:List<|zi×Obj)(a:Hp)(b:zi):Prop :=
 a b=none/\b≠X.env.locals/\b∉X.fs/\(b∈X.ex\/X.s₀.heap.objs.size<=b)/\(∀x c,X.env.cells.lookup x=some c->c≠b)/\∀p∈X.pn++d,p.1≠b
theorem Inv.fpOk{X:Cx}{f:List (zi×Obj)}{j:St}{g H':Hp}{s:xg}{b:zi}(a:Inv X f j g s)(d:s.heap.objs.size<=b)(h:H' b=none):jL X f H' b:=by
 show{h,Gv<|Fc a.lt d,a.nofs d,.inr<|GS a.sz d,λx c e z=>?_,λp i z=>?_}
 .let(v,q):=a.cell x c e;show absurd (Fc q.lt (by rw[z];show d))<|lt_irrefl _
 .show absurd (Fc (FW (a.pin p i).1) (by rw[z];show d))<|lt_irrefl _
structure Turn(P:qw)(w:qn)(K:Frag)(tg:Expr)(J:It)(fp:List zi)(it:zi)(tn:Nat->qb->Prop):Prop where
 mem:it∈fp
 obj:∀i h,tn i h->∀b∈fp,∃o,h.get? b=some o/\∀v,o.data≠.cell v
 keep:∀i h h',tn i h->(∀b∈fp,∀o,h.get? b=some o->h'.get? b=some o)->tn i h'
 item:∀(X:Cx),X.prog=P->X.w=w->X.K=K->X.calm=true->∀(i:Nat)(pins:List<|zi×Obj)(s:xg)(σ:St)(H:Hp)(E:xx->xg->Prop),Inv X pins σ H s->(∀b∈fp,jL X pins H b)->tn i s.heap->J.go i H ->
  wpAny (model P w) X.A (pyNext<|.ref it) (λr s1=>∃u,r=some u /\
   wpAny (model P w) X.A (letOwnedTupleGo tg (.ref it) u) (λ_ s2=>∃x H',Inv X pins σ H' s2/\aI x u/\J.yld i H x H'/\tn (i+1) s2.heap/\∀b∈fp,H' b=none) E s1) E s
 done:∀(X:Cx),X.prog=P->X.w=w->X.K=K->X.calm=true->∀(i:Nat)(pins:List<|zi×Obj)(s:xg)(σ:St)(H:Hp)(E:xx->xg->Prop),Inv X pins σ H s->(∀b∈fp,jL X pins H b)->tn i s.heap->J.stop i H ->
  wpAny (model P w) X.A (pyNext<|.ref it) (λr s1=>r=none/\Inv X pins σ H s1) E s
 self:∀(A:qd)(i:Nat)(s:xg)(Q:xx->xg->Prop)(E:xx->xg->Prop),tn i s.heap->Q (.ref it) s->wpAny (model P w) A (pyIter<|.ref it) Q E s
abbrev TI:=St->Hp->(It->Hp->Prop)->Prop
def PIE(X:Cx)(d:List<|zi×Obj)(i:St)(h:Expr)(R:It->Hp->Prop)(g:xx)(e:xg):Prop :=
 ∃(c:zi) (fp:List zi) (f:Nat->qb->Prop) (a:It) (H':Hp),g=.ref c/\Inv X d i H' e/\Turn X.prog X.w X.K h a fp c f/\f 0 e.heap/\(∀b∈fp,jL X d H' b)/\R a H'
def PI(X:Cx)(a iter:Expr)(b:TI):Prop :=
 ∀(pins:List<|zi×Obj)(s:xg)(σ:St)(H:Hp)(R:It->Hp->Prop),Inv X pins σ H s->b σ H R ->
  wpAny (model X.prog X.w) X.A (eval iter X.env) (λv s1=>wpAny (model X.prog X.w) X.A (pyIter v) (PIE X pins σ a R) X.xe s1) X.xe s
theorem oS{b:Model}{A:qd}{E:xx->xg->Prop}{s:xg}{d:Expr}{c:zi}{u:xx}{o:Obj}{n:String}{vs:Array xx}{Q:Unit->xg->Prop}(g:s.heap.get? c=some o)(e:o.cls=.type n)(hd:o.data=.fields vs)(f:["enumerate","zip","dict_itemiterator","dict_reverseitemiterator","odict_iterator","itertools.zip_longest","itertools.pairwise"].contains n=false)(a:Q () s):wpAny b A (letOwnedTupleGo d (.ref c) u) Q E s:=by
 unfold letOwnedTupleGo;cases d<;>first
  |show Wp a
  | (cases u<;>first
    |show Wp a
    | (show Wb (wpAny_load g ?_)
       rw[e,hd];change wpAny b A (if (["enumerate","zip","dict_itemiterator","dict_reverseitemiterator","odict_iterator","itertools.zip_longest","itertools.pairwise"].contains n&&vs[0]?==some (rawInt _))=true then _ else _) Q E s
       rw[EV (by intro h;rw[f,Bool.false_and]at h;cases h)];show Wp a))
def Itl(K:Frag)(a:zi):It :=
 {λi H=>∃xs x,SqL K H a xs/\xs[i]?=some x,λi H x H'=>H'=H/\∀xs,SqL K H a xs->xs[i]?=some x,λi H=>∃xs,SqL K H a xs/\xs.length<=i}
def Itt(K:Frag)(a:zi):It :=
 {λi H=>∃xs x,SqT K H a xs/\xs[i]?=some x,λi H x H'=>H'=H/\∀xs,SqT K H a xs->xs[i]?=some x,λi H=>∃xs,SqT K H a xs/\xs.length<=i}
def Itr(lo:Int)(n:Nat):It:={λi _=>i<n,λi H x H'=>H'=H/\x=.int (lo+i),λi _=>n<=i}
theorem tL{P:qw}{w:qn}{K:Frag}{U:Expr}(a it:zi):Turn P w K U (Itl K a) [it] it (λi h=>h.IsListIter it a i) where
 mem:=by simp
 obj:=λi h st b f=>by
  have e:b=it:=by simpa using f
  subst e;let(o,e,c,d):=st;show{o,e,λv z=>by rw[d]at z;cases z}
 keep:=λi h h' st k=>st.at λo e=>k it (by simp) o e
 item:=by
  intro X y B t F i pins s σ H E I g st A;subst y B t;let(xs,x,j,C):=A;let(R,D,p,Q):=I.list j;let(u,N,S):=D.get C;let(l,m,M,n,q,r):=g it (by simp);show wpAny_pyNext_list_item st p.isList (x:=u) (by simpa using N) λh' G T=>?_;have J:Inv X pins σ H {s with heap:=h'}:=I.turned (t':=s.toks) (λb o f e=>(T.2 b f).trans e) l m n q r
  let(o,e,c,d):=id G;show{u,rfl,oS (s:={s with heap:=h'}) e c d (by decide) {x,H,J,S,{rfl,λys O=>by rw[I.list_inj O j];show C},G,λb f=>(g b f).1}}
 done:=by
  intro X y B t F i pins s σ H E I g st A;subst y B t;let(xs,j,C):=A;let(R,D,p,Q):=I.list j;let(l,m,M,n,q,r):=g it (by simp);have V:=D.length;show wpAny_pyNext_list_end (I.ok.hd F) st p.isList (by simp;lia) λh' L=>{rfl,I.turned (t':=s.toks) (λb o f e=>L b o f e) l m n q r}
 self:=λ_ _ _ _ _ st h=>wpAny_pyIter_listiter st h
theorem qF{P:qw}{w:qn}{K:Frag}{U:Expr}(a it:zi):Turn P w K U (Itt K a) [it] it (λi h=>h.IsTupleIter it a i) where
 mem:=by simp
 obj:=λi h st b f=>by
  have e:b=it:=by simpa using f
  subst e;let(o,e,c,d):=st;show{o,e,λv z=>by rw[d]at z;cases z}
 keep:=λi h h' st k=>st.at λo e=>k it (by simp) o e
 item:=by
  intro X y B t G i pins s σ H E I g st A;subst y B t;let(xs,x,j,C):=A;let(D,F,p,R):=I.tuple j;let(u,O,S):=F.get C;let(l,m,N,n,q,r):=g it (by simp);show wpAny_pyNext_tuple_item st (show s.heap.IsTuple a D.toArray from p) (x:=u) (by simpa using O) λh' J T=>?_;have L:Inv X pins σ H {s with heap:=h'}:=I.turned (t':=s.toks) (λb o f e=>(T.2 b f).trans e) l m n q r
  let(o,e,c,d):=id J;show{u,rfl,oS (s:={s with heap:=h'}) e c d (by decide) {x,H,L,S,{rfl,λys Q=>by rw[I.tuple_inj Q j];show C},J,λb f=>(g b f).1}}
 done:=by
  intro X y B t G i pins s σ H E I g st A;subst y B t;let(xs,j,C):=A;let(D,F,p,R):=I.tuple j;let(l,m,N,n,q,r):=g it (by simp);have V:=F.length;show wpAny_pyNext_tuple_end (I.ok.hd G) st (show s.heap.IsTuple a D.toArray from p) (by simp;lia) λh' M=>{rfl,I.turned (t':=s.toks) (λb o f e=>M b o f e) l m n q r}
 self:=λ_ _ _ _ _ st h=>wpAny_pyIter_tupleiter st h
theorem qG{P:qw}{w:qn}{K:Frag}{F:Expr}(it:zi)(lo:Int)(n:Nat):Turn P w K F (Itr lo n) [it] it (λi h=>IsRangeIter h it (lo+(i:Nat)*1) ((n:Int)-(i:Nat)) 1) where
 mem:=by simp
 obj:=λi h st b a=>by
  have e:b=it:=by simpa using a
  subst e;show{_,st,λv z=>by
   have G:Data.fields _=Data.cell v:=z;cases G}
 keep:=λi h h' st k=>k it (by simp) _ st
 item:=by
  intro X p u m q i pins s σ H E I c st r;subst p u m;let(d,f,B,g,j,l):=c it (by simp);have W:=Walks.range (prog:=X.prog) (w:=X.w) (I.ok.hd q) it lo 1 n;show W.item i s _ _ r st λv h' tk C x D=>?_;let(t,rfl):=C;have y:Inv X pins σ H {s with heap:=h',toks:=tk}:=I.turned (λb o a e=>D b o (by simpa using a) e) d f g j l
  show{_,rfl,oS (s:={s with heap:=h',toks:=tk}) (n:="range_iterator") x rfl rfl (by decide) {.int<|lo+i,H,y,{t,?_},⟨rfl,rfl⟩,x,λb a=>(c b a).1}};rw[Int.mul_one]
 done:=by
  intro X p u m q i pins s σ H E I c st r;subst p u m;let(d,f,B,g,j,l):=c it (by simp);show wpAny_pyNext_range_end (I.ok.hd q) st (by have:n<=i:=r;lia) λh' A=>{rfl,I.turned (t':=s.toks) (λb o a e=>A b o a e) d f g j l}
 self:=λ_ _ _ _ _ st h=>wpAny_pyIter_rangeiter st h
section
variable{X:Cx}{tg:Expr}
def Cu(K:Frag)(b:TE):TI:=λσ H R=>b σ H λx H1=>∃a,x=.ref a/\(∃xs,SqL K H1 a xs)/\R (Itl K a) H1
def DZ(K:Frag)(b:TE):TI:=λσ H R=>b σ H λx H1=>∃a,x=.ref a/\(∃xs,SqT K H1 a xs)/\R (Itt K a) H1
theorem dR{l:Expr}{d:TE}(g:PE X l d):PI X tg l (Cu X.K d):=by
 intro pins s σ H R I h;show thn (g pins s σ H _ I h) λv s1 i=>?_;let(x,H1,c,m,k):=i;let(a,e,(xs,j),q):=k;subst e;cases m;let(r,t,p,n):=c.list j;show wpAny_pyIter_list p.isList ?_;show{s1.heap.objs.size,[s1.heap.objs.size],_,_,H1,rfl,c.kept (t':=s1.toks) λb o e=>EU _ e,tL a _,{_,FG _ rfl,rfl,rfl},λb f=>?_,q};have e:b=s1.heap.objs.size:=by simpa using f
 subst e;show c.fpOk (FH _)<|c.hok.fresh (FH _)
theorem cV{l:Expr}{d:TE}(g:PE X l d):PI X tg l (DZ X.K d):=by
 intro pins s σ H R I h;show thn (g pins s σ H _ I h) λv s1 i=>?_;let(x,H1,c,n,m):=i;let(a,e,(xs,j),q):=m;subst e;cases n;let(k,t,p,r):=c.tuple j;show wpAny_pyIter_tuple (show s1.heap.IsTuple a k.toArray from p) ?_;show{s1.heap.objs.size,[s1.heap.objs.size],_,_,H1,rfl,c.kept (t':=s1.toks) λb o e=>EU _ e,qF a _,{_,FG _ rfl,rfl,rfl},λb f=>?_,q};have e:b=s1.heap.objs.size:=by simpa using f
 subst e;show c.fpOk (FH _)<|c.hok.fresh (FH _)
theorem vb{f:List (zi×Obj)}{g:St}{c:Hp}{s:xg}{R:It->Hp->Prop}{E:xx->xg->Prop}{lo a:Int}{t u v:Tok}{tk:Nat}(h:Inv X f g c s)(i:-(2 ^ 62)<=lo)(j:lo<2 ^ 62)(k:-(2 ^ 62)<=a)(l:a<2 ^ 62)(q:R (Itr lo (a-lo).toNat) c):wpAny (model X.prog X.w) X.A (pyIter<|.ref s.heap.objs.size) (PIE X f g tg R) E {s with heap:=s.heap.push {cls:=.type "range",data:=.fields #[.int lo t,.int a u,.int 1 v]},toks:=tk}:=by
 show wpAny_pyIter_range (IsRange.new ..) (small_one i j k l) ?_;have d:Inv X f g c {s with heap:=s.heap.push {cls:=.type "range",data:=.fields #[.int lo t,.int a u,.int 1 v]},toks:=tk}:=h.kept λb o e=>EU _ e
 show{(s.heap.push {cls:=.type "range",data:=.fields #[.int lo t,.int a u,.int 1 v]}).objs.size,[(s.heap.push {cls:=.type "range",data:=.fields #[.int lo t,.int a u,.int 1 v]}).objs.size],_,_,c,rfl,
  d.kept (t':=tk) λb o e=>EU _ e,qG _ lo (a-lo).toNat,?_,λb m=>?_,q}
 .have e1:lo+((0:Nat):Int)*1=lo:=by simp
  have e2:(((a-lo).toNat:Nat):Int)-((0:Nat):Int)=Builtin.Range.rangeSize lo a 1:=by rw[rangeSize_one];split<;>lia
  change IsRangeIter _ _ (lo+((0:Nat):Int)*1) ((((a-lo).toNat:Nat):Int)-((0:Nat):Int)) 1;rw[e1,e2];show FG _ rfl
 .have e:b=(s.heap.push {cls:=.type "range",data:=.fields #[.int lo t,.int a u,.int 1 v]}).objs.size:=by simpa using m
  subst e;show d.fpOk (FH _)<|d.hok.fresh (FH _)
def Cv(b:TA):TI:=λσ H R=>b σ H λvs H1=>∃a:Int,vs=[.int a]/\-(2 ^ 62)<=a/\a<2 ^ 62/\R (Itr 0 a.toNat) H1
theorem mf{a:Expr}{c:TA}{p pos:Pos}(g:Gl X "range")(i:X.mg "range"=none)(f:PA X [a] c)(j:starEach [a] X.env=[(false,eval a X.env)]:=by rfl):PI X tg (.Call (.Name "range" p) [a] [] pos) (Cv c):=by
 intro pins s σ H R I h;show Call_<|jc I g i boot_range (Gf (thn (f pos pins s σ H _ I h) λo s1 ⟨vs,H1,d,l,b⟩=>?_) j rfl);let(n,e,b,k,q):=b;subst e;cases l with
 |cons r m =>
  cases m;let(t,rfl):=r;show call_range_1<|vb d (by lia) (by lia) b k (by simpa using q)
def Ea(f:TI)(g:TG)(e:TS):TS:=λa σ H=>f σ H λb H1=>∃W:Nat->Nat->St->Hp->Prop,(∃m,W 0 m σ H1)/\∀i m σ H,W i m σ H ->
 (b.stop i H/\a.nx σ H)\/(b.go i H/\∃N:St->Hp->Prop,(∀d H',N d H'->∃c,c<m/\W (i+1) c d H')/\∀x H',b.yld i H x H'->g x σ H' λh H2=>e {a with nx:=N,ct:=N,bk:=a.nx} h H2)
def nI(a:List zi)(c:qb):List (zi×Obj):=a.filterMap λb=>(c.get? b).map λo=>(b,o)
theorem cW{a:List zi}{h:qb}{b:zi}{o:Obj}(c:b∈a)(e:h.get? b=some o):(b,o)∈nI a h:=GZ.mpr {b,c,by rw[e];rfl}
theorem tN{c:List zi}{a:qb}{p:zi×Obj}(g:p∈nI c a):p.1∈c/\a.get? p.1=some p.2:=by
 let(b,f,e):=GZ.mp g;cases q:a.get? b with
 |none=>rw[q]at e;cases e
 |some o =>
  rw[q]at e;have d:(b,o)=p:=Option.some.inj e;subst d;show⟨f,q⟩
theorem Inv.pinned{f:List (zi×Obj)}{j:St}{a:Hp}{s:xg}{c:List zi}(g:Inv X f j a s)(n:∀b∈c,jL X f a b)(q:∀b∈c,∃o,s.heap.get? b=some o/\∀v,o.data≠.cell v):Inv X (f++nI c s.heap) j a s :=
 g.pins_of λp r=>(Fd.mp r).elim (λz=>g.pin p<|Fj _ z) λz=>by
  let(i,e):=tN z;let(k,l,m,_):=n p.1 i;let(o,h,d):=q p.1 i;rw[e]at h;cases h;show⟨e,k,l,m,d⟩
theorem Inv.unpinned{c pl:List (zi×Obj)}{d:St}{a:Hp}{s:xg}(b:Inv X (c++pl) d a s):Inv X c d a s:=b.pins_of λp e=>b.pin p<|Fj _ (mem_append_left _ e)
theorem ib{iter:Expr}{K:List Stmt}{V:TI}{g:TG}{S:TS}{pos:Pos}(q:PassesOwn (model X.prog X.w) X.A X.env X.xe)(O:X.calm=true)(a8:PI X tg iter V)(a7:PG X tg g)(j:PSs X K S)(b6:∀x,foldedSetIterable iter X.env x=pure x:=by intro _;rfl):PS X (.For tg iter K [] pos) (Ea V g S):=by
 intro pins s σ H d3 I h;show wpAny_For (thn (a8 pins s σ H _ I h) λv s1 h1=>thn h1 λd6 d7 h2=>?_) b6;let(d5,fp,U,d4,H2,e,Z,T,c5,L,W,(b8,c7),c6):=h2;subst e;have F:∀{H':Hp},(∀b∈fp,H' b=none)->∀b∈fp,jL X pins H' b:=λb5 b j=>{b5 b j,(L b j).2};show codeAny_forLoop_any (λn s'=>∃i y H',Inv X pins y H' s'/\U i s'.heap/\(∀b∈fp,H' b=none)/\W i n y H') ?_ b8 {0,σ,H2,Z,c5,λb j=>(L b j).1,c7};rintro n P ⟨i,z,B,J,R,M,c8⟩;rcases c6 i n z B c8 with⟨stop,c0⟩|⟨go,N,a6,step⟩
 .show wpAny_passesOwn q<|thn (T.done X rfl rfl rfl O i pins P z B X.xe J (F M) R stop) λr c3 p=>?_;let(C,a0):=p;subst C;show wpAny_execs_nil ⟨z,B,a0,c0⟩
 .show wpAny_passesOwn q<|thn (T.item X rfl rfl rfl O i pins P z B X.xe J (F M) R go) λr c3 p=>?_;let(u,C,a5):=p;subst C;show wpAny_passesOwn q<|thn a5 λ_ Q p=>?_;let(x,G,a1,c1,d1,E,a4):=p;have a2:=a1.pinned (F a4)<|T.obj _ _ E;show wpAny_passesOwn q<|thn (a7 _ Q z G x u _ a2 c1<|step x G d1) λ_ c4 p=>?_;let(d2,Y,a3,b9):=p;show wpAny_passesOwn q<|thn (j _ c4 d2 Y _ a3 b9) λf D l=>?_;have again:∀{k:St}{a:Hp},Inv X (pins++nI fp Q.heap) k a D->N k a->∃m,m<n/\∃i y H',Inv X pins y H' D/\U i D.heap/\(∀b∈fp,H' b=none)/\W i m y H':=λ{k a} c t=>by
   let(b7,a9,c9):=a6 k a t;show{b7,a9,i+1,k,a,c.unpinned,T.keep _ _ _ E λb j o e=>(c.pin (b,o)<|Fj _ (Fj _<|cW j e)).1,λb j=>?_,c9};let(o,e,d):=T.obj _ _ E b j;show(c.pin (b,o)<|Fj _ (Fj _<|cW j e)).2.1
  cases f with
  |next=>let(k,a,c,t):=l;show again c t
  |cont=>let(k,a,c,t):=l;show again c t
  |brk=>let(k,a,c,l):=l;show⟨k,a,c.unpinned,l⟩
  |ret v=>let(d0,k,a,c,c2,l):=l;show⟨d0,k,a,c.unpinned,c2,l⟩
end
theorem vc{K:Frag}{a:zi}{xs:List V}{g:TG}{l:TS}{d:Ends}{c:St}{b:Hp}(Pv:Nat->St->Hp->Prop)(n:Pv 0 c b)(o:∀i c b,i<=xs.length->Pv i c b->SqL K b a xs)(r:∀i x c b,xs[i]?=some x->Pv i c b->g x c b λh H2=>l {d with nx:=Pv<|i+1,ct:=Pv<|i+1,bk:=d.nx} h H2)(hd:∀c b,Pv xs.length c b->d.nx c b):
  ∃W:Nat->Nat->St->Hp->Prop,(∃m,W 0 m c b)/\∀i m c b,W i m c b ->
   ((Itl K a).stop i b/\d.nx c b)\/((Itl K a).go i b/\∃N:St->Hp->Prop,(∀f H',N f H'->∃k,k<m/\W (i+1) k f H')/\∀x H',(Itl K a).yld i b x H'->g x c H' λh H2=>l {d with nx:=N,ct:=N,bk:=d.nx} h H2):=by
 show{λi m c b=>m=xs.length-i/\i<=xs.length/\Pv i c b,⟨xs.length,by simp,Fz _,n⟩,?_};rintro i m c b ⟨rfl,hi,p⟩;have q:=o i c b hi p
 by_cases j:i<xs.length
 .show .inr {{xs,xs[i],q,by simp[j]},Pv<|i+1,λf H' s=>{xs.length-(i+1),by lia,rfl,j,s},λx H' y=>?_};let(e,y):=y;subst e;show r i x c _ (y xs q) p
 .have e:i=xs.length:=by lia
  subst e;show .inl ⟨⟨xs,q,FH _⟩,hd c b p⟩
theorem nJ{K:Frag}{a:zi}{xs:List V}{g:TG}{l:TS}{d:Ends}{c:St}{b:Hp}(Pv:Nat->St->Hp->Prop)(n:Pv 0 c b)(o:∀i c b,i<=xs.length->Pv i c b->SqT K b a xs)(r:∀i x c b,xs[i]?=some x->Pv i c b->g x c b λh H2=>l {d with nx:=Pv<|i+1,ct:=Pv<|i+1,bk:=d.nx} h H2)(hd:∀c b,Pv xs.length c b->d.nx c b):
  ∃W:Nat->Nat->St->Hp->Prop,(∃m,W 0 m c b)/\∀i m c b,W i m c b ->
   ((Itt K a).stop i b/\d.nx c b)\/((Itt K a).go i b/\∃N:St->Hp->Prop,(∀f H',N f H'->∃k,k<m/\W (i+1) k f H')/\∀x H',(Itt K a).yld i b x H'->g x c H' λh H2=>l {d with nx:=N,ct:=N,bk:=d.nx} h H2):=by
 show{λi m c b=>m=xs.length-i/\i<=xs.length/\Pv i c b,⟨xs.length,by simp,Fz _,n⟩,?_};rintro i m c b ⟨rfl,hi,p⟩;have q:=o i c b hi p
 by_cases j:i<xs.length
 .show .inr {{xs,xs[i],q,by simp[j]},Pv<|i+1,λf H' s=>{xs.length-(i+1),by lia,rfl,j,s},λx H' y=>?_};let(e,y):=y;subst e;show r i x c _ (y xs q) p
 .have e:i=xs.length:=by lia
  subst e;show .inl ⟨⟨xs,q,FH _⟩,hd c b p⟩
theorem mh{lo:Int}{n:Nat}{g:TG}{k:TS}{c:Ends}{b:St}{a:Hp}(Pv:Nat->St->Hp->Prop)(l:Pv 0 b a)(o:∀i b a,i<n->Pv i b a->g (.int<|lo+i) b a λh H2=>k {c with nx:=Pv<|i+1,ct:=Pv<|i+1,bk:=c.nx} h H2)(hd:∀b a,Pv n b a->c.nx b a):
  ∃W:Nat->Nat->St->Hp->Prop,(∃m,W 0 m b a)/\∀i m b a,W i m b a ->
   ((Itr lo n).stop i a/\c.nx b a)\/((Itr lo n).go i a/\∃N:St->Hp->Prop,(∀f H',N f H'->∃j,j<m/\W (i+1) j f H')/\∀x H',(Itr lo n).yld i a x H'->g x b H' λh H2=>k {c with nx:=N,ct:=N,bk:=c.nx} h H2):=by
 show{λi m b a=>m=n-i/\i<=n/\Pv i b a,⟨n,by simp,Fz _,l⟩,?_};rintro i m b a ⟨rfl,hi,p⟩
 by_cases d:i<n
 .show .inr {d,Pv<|i+1,λf H' q=>{n-(i+1),by lia,rfl,d,q},λx H' y=>?_};let(e,y):=y;subst e y;show o i b _ d p
 .have e:i=n:=by lia
  subst e;show .inl ⟨FH _,hd b a p⟩
theorem oT{c:TT}{h:TS}{f:Ends}{a:St}{H:Hp}(Pv:St->Hp->Prop)(e:St->Hp->Nat)(i:Pv a H)(j:∀a H,Pv a H->c a H λb H1=>if b=true then h {f with nx:=λd H'=>Pv d H'/\e d H'<e a H,ct:=λd H'=>Pv d H'/\e d H'<e a H,bk:=f.nx} a H1 else f.nx a H1)(k:∀a H Q g,(∀b H1,Q b H1->g b H1)->c a H Q->c a H g):va c h f a H:=by
 show{λm a H=>m=e a H/\Pv a H,⟨_,rfl,i⟩,?_};rintro m a H ⟨rfl,p⟩;show k a H _ _ (λb H1 q=>?_)<|j a H p;cases b with
 |true=>show{_,λd H' ⟨n,l⟩=>⟨_,l,rfl,n⟩,q}
 |false=>show q
abbrev R2:=V->V->Hp->VK->Prop
def OpR(X:Cx)(f:xx->xx->Sem xx)(r:R2):Prop :=
 ∀(pins:List<|zi×Obj)(s:xg)(σ:St)(H:Hp)(x y:V)(v u:xx)(Q:VK),Inv X pins σ H s->aI x v->aI y u->r x y H Q ->
  wpAny (model X.prog X.w) X.A (f v u) (EP X pins σ Q) X.xe s
def ca(X:Cx)(f:xx)(r:List V->Hp->VK->Prop):Prop :=
 ∀(pins:List<|zi×Obj)(s:xg)(σ:St)(H:Hp)(xs:List V)(a:List xx)(Q:VK),Inv X pins σ H s->aA xs a->r xs H Q ->
  wpAny (model X.prog X.w) X.A (call f a) (EP X pins σ Q) X.xe s
def Eb(X:Cx)(r:V->Hp->(Bool->Hp->Prop)->Prop):Prop :=
 ∀(pins:List<|zi×Obj)(s:xg)(σ:St)(H:Hp)(x:V)(v:xx)(Q:Bool->Hp->Prop),Inv X pins σ H s->aI x v->r x H Q ->
  wpAny (model X.prog X.w) X.A (truthy v) (TP X pins σ Q) X.xe s
def tOp(r:R2)(a b:TE):TE:=λσ H Q=>a σ H λx H1=>b σ H1 λy H2=>r x y H2 Q
def rI(C:Int->Int->Prop)(g:Int->Int->V):R2:=λx y H Q=>∃i j,x=.int i/\y=.int j/\C i j/\Q (g i j) H
def rI0(g:Int->Int->V):R2:=λx y H Q=>∃i j,x=.int i/\y=.int j/\Q (g i j) H
section
variable{X:Cx}{a b c:Expr}{ta tb tc:TE}{pos:Pos}
theorem Ao(m:PE X a ta)(n:PE X b tb){d:List (zi×Obj)}{s:xg}{c:St}{g:Hp}{R:V->V->Hp->Prop}(i:Inv X d c g s)(l:ta c g λx H1=>tb c H1 λy H2=>R x y H2){Q:xx->xg->Prop}{f:xx->xx->Sem xx}(o:∀v u e x y H2,Inv X d c H2 e->aI x v->aI y u->R x y H2->wpAny (model X.prog X.w) X.A (f v u) Q X.xe e):
  wpAny (model X.prog X.w) X.A (eval a X.env) (λv z=>wpAny (model X.prog X.w) X.A (eval b X.env) (λu B=>wpAny (model X.prog X.w) X.A (f v u) Q X.xe B) X.xe z) X.xe s:=by
 show thn (m d s c g _ i l) λv s1 h=>?_;let(x,H1,j,r,p):=h;show thn (n d s1 c H1 _ j p) λu e h=>?_;let(y,H2,k,t,q):=h;show o v u e x y H2 k r t q
theorem aE{op:Operator}{r:R2}(f:OpR X (binaryOp op) r)(d:PE X a ta)(e:PE X b tb):PE X (.BinOp a op b pos) (tOp r ta tb):=by
 intro pins s σ H Q I h;show wpAny_BinOp<|Ao d e I h λv u j x y H2 c g i q=>f pins j σ H2 x y v u Q c g i q
theorem opI{f:xx->xx->Sem xx}{C:Int->Int->Prop}{g:Int->Int->Int}(rule:∀(i j:Int) (t u:Tok) (s:xg) (Q:xx->xg->Prop) (E:xx->xg->Prop),C i j->Q (.int (g i j) s.toks) {s with toks:=s.toks+1}->wpAny (model X.prog X.w) X.A (f (.int i t)<|.int j u) Q E s):
  OpR X f (rI C λi j=>.int<|g i j):=by
 intro pins s σ H x y v u Q I b c h;let(i,j,rfl,rfl,a,q):=h;let(t,rfl):=b;let(d,rfl):=c;show rule i j t d s _ _ a {.int<|g i j,H,I.tok _,⟨_,rfl⟩,q}
theorem Ec{f:xx->xx->Sem xx}{g:Int->Int->Int}(rule:∀(i j:Int) (t u:Tok) (s:xg) (Q:xx->xg->Prop) (E:xx->xg->Prop),Q (.int (g i j) s.toks) {s with toks:=s.toks+1}->wpAny (model X.prog X.w) X.A (f (.int i t)<|.int j u) Q E s):
  OpR X f (rI0 λi j=>.int<|g i j):=by
 intro pins s σ H x y v u Q I a b h;let(i,j,rfl,rfl,q):=h;let(t,rfl):=a;let(c,rfl):=b;show rule i j t c s _ _ {.int<|g i j,H,I.tok _,⟨_,rfl⟩,q}
theorem Aq{f:xx->xx->Sem xx}{g:Int->Int->Bool}(rule:∀(i j:Int) (t u:Tok) (s:xg) (Q:xx->xg->Prop) (E:xx->xg->Prop),Q (.bool<|g i j) s->wpAny (model X.prog X.w) X.A (f (.int i t)<|.int j u) Q E s):
  OpR X f (rI0 λi j=>.bl<|g i j):=by
 intro pins s σ H x y v u Q I a b h;let(i,j,rfl,rfl,q):=h;let(t,rfl):=a;let(c,rfl):=b;show rule i j t c s _ _ {.bl<|g i j,H,I,rfl,q}
def Ed(i j:Int):Prop:=0<j/\j<1073741824
def Ar(i j:Int):Prop:=(-(2 ^ 64)<i/\i<2 ^ 64)\/(-(2 ^ 64)<j/\j<2 ^ 64)
theorem Ar.ok{i j:Int}(h:Ar i j):IntMulOk i j:=by
 rcases h with⟨h1,h2⟩|⟨h1,h2⟩
 .show .of_left<|intBits_le_64 h1 h2
 .show .of_right<|intBits_le_64 h1 h2
theorem be:OpR X (binaryOp .Add) (rI0 λi j=>.int<|i+j):=Ec λ_ _ _ _ _ _ _ q=>add_int q
theorem dG:OpR X (binaryOp .Mult) (rI Ar λi j=>.int<|i*j):=opI λ_ _ _ _ _ _ _ a q=>mul_int q a.ok
theorem rZ:OpR X (binaryOp .FloorDiv) (rI Ed λi j=>.int<|i / j):=opI λi j _ _ _ _ _ a q=>by
 have h1:(0:Int)<j:=a.1;have h2:j<1073741824:=a.2;show floordiv_int (by lia) (by rw[Int.fdiv_eq_ediv_of_nonneg i (by lia)];show q)<|.inl (PyProof.noPylong_small (by lia))
theorem nK:OpR X (binaryOp .Mod) (rI (λ_ j=>0<j) λi j=>.int<|i % j):=opI λi j _ _ _ _ _ a q=>by
 have h1:(0:Int)<j:=a;show mod_int' (by lia) (by rw[Int.fmod_eq_emod_of_nonneg i (by lia)];show q)
end
def Cw:V->V->Bool
 |.non,.non=>true | .non,.int _=>true | .int _,.non=>true | .non,.bl _=>true | .bl _,.non=>true | .non,.str _=>true | .str _,.non=>true
 |.int _,.int _=>true | .bl _,.bl _=>true | .str _,.str _=>true | .byt _,.byt _=>true
 |.int _,.str _=>true | .str _,.int _=>true | .bl _,.str _=>true | .str _,.bl _=>true
 |_,_=>false
def rEq:R2:=λx y H Q=>Cw x y=true/\Q (.bl<|decide (x=y)) H
def rNe:R2:=λx y H Q=>Cw x y=true/\Q (.bl<|!decide (x=y)) H
theorem se{i j:Int}:decide (V.int i=V.int j)=(i==j):=by
 rw[Fp];simp
theorem vd{i j:Bool}:decide (V.bl i=V.bl j)=(i==j):=by
 rw[Fp];simp
theorem sf{i j:Str}:decide (V.str i=V.str j)=(i==j):=by
 rw[Fp];simp
theorem sg{i j:Array UInt8}:decide (V.byt i=V.byt j)=(i.toList==j.toList):=by
 rw[Fp];cases i;cases j;simp
section
variable{X:Cx}{a b c:Expr}{ta tb tc:TE}{pos:Pos}
theorem aT{c:List (zi×Obj)}{d:St}{a:Hp}{s:xg}{Q:VK}{k b:Bool}(f:Inv X c d a s)(q:Q (.bl k) a)(e:k=b):EP X c d Q (.bool b) s:=by
 subst e;show{.bl k,a,f,rfl,q}
theorem cu:OpR X (compareOp .Eq) rEq:=by
 intro pins s σ H x y v u Q I e a h;let(d,q):=h;cases x with
 |non =>
  cases e;cases y with
  |non=>cases a;show PySem.EqNone.eq_none_none<|aT I q (by simp)
  |bl b=>cases a;show PySem.EqNone.eq_none_bool<|aT I q (by simp)
  |int b=>let(c,rfl):=a;show PySem.EqNone.eq_none_int<|aT I q (by simp)
  |str b=>let(c,rfl):=a;show PySem.EqNone.eq_none_str<|aT I q (by simp)
  |_=>show absurd (show false=true from d) FL
 |bl i =>
  cases e;cases y with
  |non=>cases a;show PySem.EqNone.eq_bool_none<|aT I q (by simp)
  |bl b=>cases a;show eq_bool<|aT I q vd
  |str b=>let(c,rfl):=a;show PySem.EqMixed.eq_bool_str<|aT I q (by simp)
  |_=>show absurd (show false=true from d) FL
 |int i =>
  let(t,rfl):=e;cases y with
  |non=>cases a;show PySem.EqNone.eq_int_none<|aT I q (by simp)
  |int b=>let(c,rfl):=a;show eq_int<|aT I q se
  |str b=>let(c,rfl):=a;show PySem.EqMixed.eq_int_str<|aT I q (by simp)
  |_=>show absurd (show false=true from d) FL
 |str i =>
  let(t,rfl):=e;cases y with
  |non=>cases a;show PySem.EqNone.eq_str_none<|aT I q (by simp)
  |bl b=>cases a;show PySem.EqMixed.eq_str_bool<|aT I q (by simp)
  |int b=>let(c,rfl):=a;show PySem.EqMixed.eq_str_int<|aT I q (by simp)
  |str b=>let(c,rfl):=a;show eq_str<|aT I q sf
  |_=>show absurd (show false=true from d) FL
 |byt i =>
  let(t,rfl):=e;cases y with
  |byt b=>let(c,rfl):=a;show PySem.W.eq_bytes<|aT I q sg
  |_=>show absurd (show false=true from d) FL
 |_=>cases y<;>show absurd (show false=true from d) FL
theorem dS:OpR X (compareOp .NotEq) rNe:=by
 intro pins s σ H x y v u Q I e a h;let(d,q):=h;cases x with
 |non =>
  cases e;cases y with
  |non=>cases a;show PySem.EqNone.ne_none_none<|aT I q (by simp)
  |bl b=>cases a;show PySem.EqNone.ne_none_bool<|aT I q (by simp)
  |int b=>let(c,rfl):=a;show PySem.EqNone.ne_none_int<|aT I q (by simp)
  |str b=>let(c,rfl):=a;show PySem.EqNone.ne_none_str<|aT I q (by simp)
  |_=>show absurd (show false=true from d) FL
 |bl i =>
  cases e;cases y with
  |non=>cases a;show PySem.EqNone.ne_bool_none<|aT I q (by simp)
  |bl b=>cases a;show ne_bool<|aT I q (congrArg not vd)
  |str b=>let(c,rfl):=a;show PySem.EqMixed.ne_bool_str<|aT I q (by simp)
  |_=>show absurd (show false=true from d) FL
 |int i =>
  let(t,rfl):=e;cases y with
  |non=>cases a;show PySem.EqNone.ne_int_none<|aT I q (by simp)
  |int b=>let(c,rfl):=a;show ne_int<|aT I q (congrArg not se)
  |str b=>let(c,rfl):=a;show PySem.EqMixed.ne_int_str<|aT I q (by simp)
  |_=>show absurd (show false=true from d) FL
 |str i =>
  let(t,rfl):=e;cases y with
  |non=>cases a;show PySem.EqNone.ne_str_none<|aT I q (by simp)
  |bl b=>cases a;show PySem.EqMixed.ne_str_bool<|aT I q (by simp)
  |int b=>let(c,rfl):=a;show PySem.EqMixed.ne_str_int<|aT I q (by simp)
  |str b=>let(c,rfl):=a;show ne_str<|aT I q (congrArg not sf)
  |_=>show absurd (show false=true from d) FL
 |byt i =>
  let(t,rfl):=e;cases y with
  |byt b=>let(c,rfl):=a;show PySem.W.ne_bytes<|aT I q (congrArg not sg)
  |_=>show absurd (show false=true from d) FL
 |_=>cases y<;>show absurd (show false=true from d) FL
theorem oU:OpR X (compareOp .Lt) (rI0 λi j=>.bl<|decide (i<j)):=Aq λ_ _ _ _ _ _ _ q=>lt_int q
theorem sh:OpR X (compareOp .LtE) (rI0 λi j=>.bl<|decide (i<=j)):=Aq λ_ _ _ _ _ _ _ q=>le_int q
theorem Cy:OpR X (compareOp .Gt) (rI0 λi j=>.bl<|decide (j<i)):=Aq λ_ _ _ _ _ _ _ q=>gt_int q
theorem tO:OpR X (compareOp .In) (λx y H Q=>∃i j,x=.str i/\y=.str j/\Q (.bl<|!(Builtin.Str.occurrences j i 0 j.length 1).isEmpty) H):=by
 intro pins s σ H x y v u Q I a b h;let(i,j,rfl,rfl,q):=h;let(t,rfl):=a;let(c,rfl):=b;show in_str<|aT I q rfl
theorem jd:OpR X (compareOp .Is) (λx y H Q=>y=.non/\Q (.bl<|decide (x=.non)) H):=by
 intro pins s σ H x y v u Q I a b h;let(rfl,q):=h;cases b;show is_none_gen<|aT I q ?_;cases x<;>first
  |(cases a;rfl)
  |(let(t,rfl):=a;rfl)
theorem nM:OpR X (compareOp .IsNot) (λx y H Q=>y=.non/\Q (.bl<|!decide (x=.non)) H):=by
 intro pins s σ H x y v u Q I a b h;let(rfl,q):=h;cases b;show isnot_none_gen<|aT I q ?_;cases x<;>first
  |(cases a;rfl)
  |(let(t,rfl):=a;rfl)
theorem OpR.or{f:xx->xx->Sem xx}{r a:R2}(d:OpR X f r)(h':OpR X f a):OpR X f (λx y H Q=>r x y H Q\/a x y H Q):=by
 intro pins s σ H x y v u Q I b c q;rcases q with q|q
 .show d pins s σ H x y v u Q I b c q
 .show h' pins s σ H x y v u Q I b c q
theorem av(b:Expr){op:CmpOp}(a:op≠.In:=by decide)(c:op≠.NotIn:=by decide):behindInMarks op b=false:=by
 have e1:(op==CmpOp.In)=false:=by cases op<;>first|rfl|show absurd rfl a
 have e2:(op==CmpOp.NotIn)=false:=by cases op<;>first|rfl|show absurd rfl c
 cases b<;>simp[behindInMarks,e1,e2]
theorem dU{op:CmpOp}{r:R2}(g:OpR X (compareOp op) r)(d:PE X a ta)(e:PE X b tb)(f:behindInMarks op b=false):PE X (.Compare a [op] [b] pos) (tOp r ta tb):=by
 intro pins s σ H Q I h;show wpAny_Compare1 (Ao d e I h λv u k x y H2 c i j q=>g pins k σ H2 x y v u Q c i j q) f
def zQ(t:TE):TT:=λσ H Q=>t σ H λx H'=>∃k,x=.bl k/\Q k H'
theorem au{op:CmpOp}{r:R2}(n:OpR X (compareOp op) r)(j:PE X a ta)(l:PE X b tb)(m:behindInMarks op b=false):PT X (.Compare a [op] [b] pos) (zQ<|tOp r ta tb):=by
 intro pins s σ H Q I h;show wpAny_isTrue_Compare1 (thn (j pins s σ H _ I h) λv s1 ⟨x,H1,f,t,o⟩=>thn (l pins s1 σ H1 _ f o) λu B ⟨y,H2,g,w,p⟩ =>
  thn (n pins B σ H2 x y v u _ g t w p) λc C ⟨z,d,i,A,k,e,q⟩=>?_) m
 subst e;cases A;show wpAny_truthy_bool ⟨d,i,q⟩
def ve(r c:R2)(d e f:TE):TE:=λσ H Q=>d σ H λx H1=>e σ H1 λy H2=>r x y H2 λz a=>∃k,z=.bl k /\
 (if k=true then f σ a λg b=>c y g b Q else Q (.bl false) a)
theorem vf{op f:CmpOp}{r l:R2}(C:OpR X (compareOp op) r)(D:OpR X (compareOp f) l)(t:PE X a ta)(w:PE X b tb)(A:PE X c tc)(B:lastMarks [op,f] [b,c]=false:=by with_unfolding_all rfl):PE X (.Compare a [op,f] [b,c] pos) (ve r l ta tb tc):=by
 intro pins s σ H Q I h;show Compare_chain (thn (t pins s σ H _ I h) λv s1 ⟨x,H1,o,J,E⟩=>chain_link (thn (w pins s1 σ H1 _ o E) λu M ⟨y,H2,p,m,F⟩ =>
  thn (C pins M σ H2 x y v u _ p J m F) λd N ⟨z,g,i,K,k,e,j⟩=>?_)) B
 subst e;cases K;show wpAny_truthy_bool ?_;cases k with
 |false=>show ite_ff ⟨.bl false,g,i,rfl,j⟩
 |true=>show ite_tt<|chain_last (thn (A pins N σ g _ i j) λP O ⟨R,n,q,L,G⟩=>D pins O σ n y R u P Q q m L G)
theorem vg{op f:CmpOp}{r l:R2}(F:OpR X (compareOp op) r)(G:OpR X (compareOp f) l)(B:PE X a ta)(C:PE X b tb)(D:PE X c tc)(E:lastMarks [op,f] [b,c]=false:=by with_unfolding_all rfl):PT X (.Compare a [op,f] [b,c] pos) (zQ<|ve r l ta tb tc):=by
 intro pins s σ H Q I h;show isTrue_chain (thn (B pins s σ H _ I h) λv s1 ⟨x,H1,p,P,L⟩=>test_link (thn (C pins s1 σ H1 _ p L) λu U ⟨y,H2,q,m,M⟩ =>
  thn (F pins U σ H2 x y v u _ q P m M) λd V ⟨z,g,i,R,k,e,j⟩=>?_)) E
 subst e;cases R;show wpAny_truthy_bool ?_;cases k with
 |false =>
  let(a1,A,K):=j;cases A;show ite_ff ⟨g,i,K⟩
 |true =>
  show ite_tt<|test_last (thn (D pins V σ g _ i j) λY W ⟨Z,n,t,S,N⟩=>thn (G pins W σ n y Z u Y _ t m S N) λa0 a2 J=>?_);let(a3,o,w,T,k2,e2,O):=J;subst e2;cases T;show wpAny_truthy_bool ⟨o,w,O⟩
def Cz(K:Frag)(x:V)(H:Hp)(k:Bool):Prop :=
 match x with
 |.non=>k=false
 |.bl b=>k=b
 |.int i=>k=(i != 0)
 |.str y=>y.length<=sizeLine/\k=((y.length:Int) != 0)
 |.byt y=>y.size<=sizeLine/\k=((y.size:Int) != 0)
 |.ref p=>(∃xs,SqL K H p xs/\k = !xs.isEmpty)\/(∃xs,SqT K H p xs/\k = !xs.isEmpty)\/∃kvs,H p=some (.dK kvs)/\k = !kvs.isEmpty
 |_=>False
theorem qH{κ:Type}{a:List (κ×V)}{vs:List (κ×xx)}(r:KV a vs):(!vs.isEmpty) = !a.isEmpty:=by
 cases r<;>rfl
theorem ke{xs:List V}{a:List xx}(r:aA xs a):(!a.toArray.isEmpty) = !xs.isEmpty:=by
 cases r<;>simp
theorem kg:(sizeLine:Nat)<2 ^ 63:=by rw[sizeLine_eq];decide
theorem As:Eb X (λx H Q=>∃k,Cz X.K x H k/\Q k H):=by
 intro pins s σ H x v Q I c h;let(k,e,q):=h;have o:=kg;have u:sizeLine=16777216:=sizeLine_eq;cases x with
 |non =>
  cases c;have a:k=false:=e;subst a;show truthy_none ⟨H,I,q⟩
 |bl b =>
  cases c;have a:k=b:=e;subst a;show wpAny_truthy_bool ⟨H,I,q⟩
 |int i =>
  let(t,rfl):=c;have a:k=(i != 0):=e;subst a;show PySem.P.truthy_int ⟨H,I,q⟩
 |str y =>
  let(t,rfl):=c;obtain⟨l,a⟩:y.length<=sizeLine/\k=((y.length:Int) != 0):=e;subst a;show PySem.P.truthy_str (by lia) ⟨H,I.tok _,q⟩
 |byt y =>
  let(t,rfl):=c;obtain⟨l,a⟩:y.size<=sizeLine/\k=((y.size:Int) != 0):=e;subst a;show PySem.W.truthy_bytes (by lia) ⟨H,I.tok _,q⟩
 |ref p =>
  cases c;have a:(∃xs,SqL X.K H p xs/\k = !xs.isEmpty)\/(∃xs,SqT X.K H p xs/\k = !xs.isEmpty)\/∃kvs,H p=some (.dK kvs)/\k = !kvs.isEmpty:=e;rcases a with⟨xs,d,a⟩|⟨xs,d,a⟩|⟨kvs,d,a⟩
  .subst a;let(n,r,pl,g):=I.list d;have f:=r.length;show wpAny_truthy_list pl.isList (by simp only[FO];lia) {H,I.tok _,by rw[ke r];show q}
  .subst a;let(n,r,pl,g):=I.tuple d;have f:=r.length;show truthy_tuple pl (by simp only[FO];lia) {H,I.tok _,by rw[ke r];show q}
  .subst a;obtain⟨g,j,vs,r,m⟩:kvs.length<=sizeLine/\(p==sysModules)=false/\∃vs,KV kvs vs/\s.heap.DictOf (aF X.prog X.w) p vs:=I.hok p _ d;have f:kvs.length=vs.length:=Paired.length r;show wpAny_truthy_dict j m (by lia) {H,I.tok _,by rw[qH r];show q}
 |_=>show(show False from e).elim
theorem vh(d:PE X a ta)(e:∀b,isTrue a X.env b=(do let v <- b;standAt a.pos;holding [v] (truthy v))):
  PT X a (λσ H Q=>ta σ H λx H'=>∃k,Cz X.K x H' k/\Q k H'):=by
 intro pins s σ H Q I h;show isTrue_plain (thn (d pins s σ H _ I h) λv s1 ⟨x,H1,c,g,f⟩=>As pins s1 σ H1 x v Q c g f)<|e _
theorem cA{x:V}{us:List xx}(r:aA [x] us):∃u,us=[u]/\aI x u:=by
 cases r with
 |cons a b=>cases b;show{_,rfl,a}
theorem si{x y:V}{us:List xx}(r:aA [x,y] us):∃u w',us=[u,w']/\aI x u/\aI y w':=by
 cases r with
 |cons a b =>
  cases b with
  |cons c d=>cases d;show{_,_,rfl,a,c}
theorem tP:ca X (.type "int") (λxs H Q=>(∃i,xs=[.int i]/\Q (.int i) H)\/∃k,xs=[.bl k]/\Q (.int (if k then 1 else 0)) H):=by
 intro pins s σ H xs b Q I r h;rcases h with⟨i,rfl,q⟩|⟨k,rfl,q⟩
 .let(u,rfl,t,rfl):=cA r;show call_int_int ⟨.int i,H,I,⟨_,rfl⟩,q⟩
 .let(u,rfl,a):=cA r;cases a;show call_int_bool {.int (if k then 1 else 0),H,I.tok _,⟨_,rfl⟩,q}
end
structure ObjM(h:qb)(x dx C:zi)(mA:Str->Option xx):Prop where
 obj:h.get? x=some (instObj C dx)
 ns:h.Ns1 dx mA
 ne:dx≠x
theorem tQ{c:qb}{b:zi}{d:Str->Option xx}(n:c.Ns1 b d):∃f,c.get? b=some f/\∀name,lookIn name f=some (d name):=by
 let(o,es,p,l,h,i,_,k):=n;show{o,l,λname=>?_};have e:=k name;unfold nsFind findBy at e;rw[<-Array.find?_toList]at e;unfold lookIn;rw[h];dsimp only
 split
 .rename_i y q
  rw[q]at e;show congrArg some e
 .rename_i q
  rw[q]at e;have a:es.toList.any (·.refKey)=false:=by
   rw[List.any_eq_false];intro y m;let(z,t,j):=i y<|Array.mem_toList_iff.mp m;simp[DictEntry.refKey,j]
  have g:¬es.toList.any (·.refKey)=true:=by rw[a];show FL
  rw[EV g];show congrArg some e
theorem ObjM.look{d:qb}{x c C:zi}{e:Str->Option xx}(b:ObjM d x c C e):∃a,PySem.W.InstAt d x (instObj C c) C (some a)/\∀name,lookIn name a=some (e name) :=
 let⟨a,g,f⟩:=tQ b.ns
 ⟨a,⟨b.obj,rfl,rfl,g⟩,f⟩
section
variable{prog:qw}{w:qn}{A:qd}{E:xx->xg->Prop}{s:xg}{K:Frag}{x dx C f:zi}{mA:Str->Option xx}{name:Str}{v:xx}
theorem xY{c:Bool}{Q:xx->xg->Prop}(X:K.In s.heap)(a:ObjM s.heap x dx C mA)(f:plainGet K C name=true)(g:hasDictIn K C=true)(e:PySem.W.findIn K (.ref C) name=some none)(i:mA name=some v)(j:handedIn v=true)(d:Q v {s with toks:=s.toks+1}):
  wpAny (model prog w) A (getAttr (.ref x) name c) Q E s:=by
 let(k,b,h):=a.look;show PySem.W.get_value X b (plainGet_of f).1 (PySem.W.findObj_own g e rfl (by rw[h,i])) j d
theorem vi{pl:Sem Bool}{Q:xx×List xx->xg->Prop}(X:K.In s.heap)(b:ObjM s.heap x dx C mA)(a:plainGet K C name=true)(e:PySem.W.findIn K (.ref C) name=some (some<|.ref f))(h:isFn K (.ref f)=true)(i:mA name=none)(d:Q (.ref f,[.ref x]) s):
  wpAny (model prog w) A (getMethod (.ref x) name pl) Q E s:=by
 let(j,c,g):=b.look;show PySem.W.method_fn X c (plainGet_of a).1 (plainGet_of a).2 e (GP.mp h) (by change(lookIn name j).map (·.isSome)=some false;rw[g,i];rfl) d
theorem xZ{ns:List Str}{Q:Unit->xg->Prop}(X:K.In s.heap)(c:ObjM s.heap x dx C mA)(o:PySem.W.findIn K (.ref C) "__setattr__"=some (some<|.builtin "object.__setattr__"))(n:plainOver K C=true)(p:takerIn K C name=some none)(l:hasDictIn K C=true)(q:PySem.Within mA ns)(hsz:ns.length<=sizeLine)(g:∀h',ObjM h' x dx C (λy=>if y=name then some v else mA y)->SameBut dx s.heap h'->Q () {s with heap:=h',toks:=s.toks+2}):
  wpAny (model prog w) A (setAttr (.ref x) name v) Q E s:=by
 let(G,d,D):=c.look;show PySem.W.set_plain X d o<|PySem.W.osa_open (s:={s with toks:=s.toks+1}) (r:=none) X d n p λb=>?_;let(u,h,j):=PySem.W.any_some l;have t:s.heap.get? x=some {.ref C,some dx,.plain,#[]}:=c.obj;show Wb<|Wp (Wb<|Wb (wpAny_loadPart t<|Wb (PySem.W.Looks.here (s:={s with toks:=s.toks+1}) (PySem.W.looks_clsIn X h) ?_)));rw[j];show Wp (a:=some dx)<|Wb (Wp<|Wb ?_);show wpAny_nsSet1 (s:={s with toks:=s.toks+1}) c.ns λh' e f=>?_;let(F,B,z,m,k,i):=e.count<|PySem.Within.cons name v q;show Wb<|wpAny_lookBehind m (by rw[k];show pastItsLine_dict<|GS i (by rw[Fs];lia)) ?_;show Wp<|g _ {(f.2 _<|symm c.ne).trans c.obj,e,c.ne} f
theorem vj{R:Result->xg->Prop}{vs:List xx}{a:List (Str×xx)}(X:K.In s.heap)(h:makesIn K C=true)(e:PySem.W.findIn K (.ref C) "__init__"=some (some<|.ref f))(c:PySem.W.typeIn K (.ref f)=some (.type "function"))(b:codeAny (model prog w) (A.under<|.builtin "type.__call__" ⟨.ref C::vs,a⟩) (.call (.ref f) {.ref (s.heap.objs.size+1)::vs,a}) (PySem.W.InitBack (s.heap.objs.size+1) R)
   {s with heap:=(s.heap.push emptyDict).push (instObj C s.heap.objs.size)}):
  codeAny (model prog w) A (.call (.ref C) ⟨vs,a⟩) R s:=by
 let(j,g,d,t,os):=s;show PySem.W.make_core (PySem.W.makes_of X h) (PySem.W.looks_findIn X e) (λi=>PySem.W.bind_fn X i c) (.inl rfl) b
end
def dl(f:Str)(v:V):List (Str×V)->List (Str×V)
 |[]=>[(f,v)]
 |(g,x)::r=>if g=f then (g,v)::r else (g,x)::dl f v r
theorem jA(f g:Str)(v:V):∀fs:List<|Str×V,(dl f v fs).lookup g=if g=f then some v else fs.lookup g
 |[]=>by
  change List.lookup g [(f,v)]=_
  by_cases h:g=f
  .have a:(g==f)=true:=GP.mpr h;simp only[List.lookup,a,EW h]
  .have a:(g==f)=false:=Fl.mpr h;simp only[List.lookup,a,EV h]
 |(k,x)::r=>by
  have c:=jA f g v r;rw[show dl f v ((k,x)::r)=(if k=f then (k,v)::r else (k,x)::dl f v r)from rfl]
  by_cases b:k=f
  .rw[EW b]
   by_cases h:g=k
   .have a:(g==k)=true:=GP.mpr h;simp only[List.lookup,a,EW<|h.trans b]
   .have a:(g==k)=false:=Fl.mpr h;simp only[List.lookup,a,EV λe:g=f=>h<|e.trans b.symm]
  .rw[EV b]
   by_cases h:g=k
   .have a:(g==k)=true:=GP.mpr h;simp only[List.lookup,a,EV λe:g=f=>b<|h.symm.trans e]
   .have a:(g==k)=false:=Fl.mpr h;simp only[List.lookup,a];show c
theorem je(f:Str)(v:V):∀fs:List<|Str×V,f∈(dl f v fs).map (·.1)/\∀g,g∈fs.map (·.1)->g∈(dl f v fs).map (·.1)
 |[]=>{by simp[dl],λg h=>by simp at h}
 |(k,x)::r=>by
  let(b,c):=je f v r;rw[show dl f v ((k,x)::r)=(if k=f then (k,v)::r else (k,x)::dl f v r)from rfl]
  by_cases a:k=f
  .rw[EW a];subst a;show{by simp,λg h=>by simpa using h}
  .rw[EV a];show{?_,λg h=>?_}
   .rw[Fi];show FR _ b
   .rw[Fi]at h|-;rcases FU.mp h with e|e
    .show FU.mpr<|.inl e
    .show FR _<|c g e
theorem jB(f:Str)(v:V):∀fs:List<|Str×V,(dl f v fs).length<=fs.length+1
 |[]=>by simp[dl]
 |(k,x)::r=>by
  have b:=jB f v r;rw[show dl f v ((k,x)::r)=(if k=f then (k,v)::r else (k,x)::dl f v r)from rfl]
  by_cases a:k=f
  .rw[EW a,Fs,Fs];lia
  .rw[EV a,Fs,Fs];lia
theorem eF.some_of{v:V}{o:Option xx}(r:eF (some v) o):∃u,o=some u/\aI v u:=by
 cases o with
 |none=>show(show False from r).elim
 |some u=>show⟨u,rfl,r⟩
theorem eF.none_of{o:Option xx}(r:eF none o):o=none:=by
 cases o with
 |none=>rfl
 |some u=>show(show False from r).elim
theorem tR{v:V}{u:xx}(r:aI v u):handedIn u=true:=by
 cases v with
 |non=>cases (show u=Value.none from r);rfl
 |bl b=>cases (show u=Value.bool b from r);rfl
 |int i=>let(t,e):=(show ∃t,u=Value.int i t from r);cases e;rfl
 |str x=>let(t,e):=(show ∃t,u=Value.str x t from r);cases e;rfl
 |byt b=>let(t,e):=(show ∃t,u=bytes b t from r);cases e;rfl
 |flt b=>let(t,e):=(show ∃t,u=float b t from r);cases e;rfl
 |ref a=>cases (show u=Value.ref a from r);rfl
 |ty n=>cases (show u=Value.type n from r);rfl
section
variable{P:qw}{w:qn}{H H':Hp}{h h':qb}{a C dx:zi}{fs fs':List (Str×V)}
theorem jQ(b:HOk P w H h)(e:H a=some (.ins C dx fs)):∃mA,ObjM h a dx C mA/\(∀f,eF (fs.lookup f)<|mA f)/\PySem.Within mA (fs.map (·.1))/\fs.length<=1000/\H dx=some (.own a):=by
 let(d,z,c,g,mA,n,r,q):=(show bq P w H h a (.ins C dx fs)from b a _ e);show{mA,⟨g,n,c⟩,r,q,z,d}
end
structure Cls(K:Frag)(C:zi):Prop where
 pg:plainGet K C empty=true
 hd:hasDictIn K C=true
 po:plainOver K C=true
 sa:PySem.W.findIn K (.ref C) "__setattr__"=some (some<|.builtin "object.__setattr__")
theorem Cls.get{K:Frag}{C:zi}(c:Cls K C)(f:Str):plainGet K C f=true:=c.pg
def dH(K:Frag)(C:zi)(f:Str):Prop:=PySem.W.findIn K (.ref C) f=some none
theorem dH.taker{K:Frag}{C:zi}{f:Str}(n:dH K C f):takerIn K C f=some none:=by
 unfold takerIn;rw[show PySem.W.findIn K (.ref C) f=some none from n];rfl
structure Meth(K:Frag)(C:zi)(m:Str)(f:zi):Prop where
 at_:PySem.W.findIn K (.ref C) m=some (some<|.ref f)
 fn:isFn K (.ref f)=true
 kp:keepIn K (.ref f)=true
section
variable{X:Cx}{pins:List (zi×Obj)}{σ:St}{H:Hp}{s:xg}{a C dx:zi}{fs:List (Str×V)}{f:Str}{v:V}{A:qd}{E:xx->xg->Prop}
theorem qI{b:Bool}{Q:xx->xg->Prop}(d:Inv X pins σ H s)(e:H a=some (.ins C dx fs))(c:Cls X.K C)(n:dH X.K C f)(l:fs.lookup f=some v)(i:∀u s',Inv X pins σ H s'->aI v u->Q u s'):wpAny (model X.prog X.w) A (getAttr (.ref a) f b) Q E s:=by
 let(mA,h,r,_,_,_):=jQ d.hok e;let(u,j,g):=eF.some_of (v:=v) (o:=mA f) (by rw[<-l];show r f);show xY d.kIn h (c.get f) c.hd n j (tR g)<|i u _ (d.tok _) g
theorem kh{m:Str}{g:zi}{pl:Sem Bool}{Q:xx×List xx->xg->Prop}(b:Inv X pins σ H s)(e:H a=some (.ins C dx fs))(c:Cls X.K C)(k:Meth X.K C m g)(l:fs.lookup m=none)(f:Q (.ref g,[.ref a]) s):wpAny (model X.prog X.w) A (getMethod (.ref a) m pl) Q E s:=by
 let(mA,d,r,_,_,_):=jQ b.hok e;have h:mA m=none:=eF.none_of (by rw[<-l];show r m);show vi b.kIn d (c.get m) k.at_ k.fn h f
theorem qJ{y:V}{u:xx}{Q:Unit->xg->Prop}(d:Inv X pins σ H s)(e:H a=some (.ins C dx fs))(c:Cls X.K C)(n:dH X.K C f)(F:fs.length<1000)(B:aI y u)(l:∀s',Inv X pins σ (upd H a<|.ins C dx (dl f y fs)) s'->Q () s'):wpAny (model X.prog X.w) A (setAttr (.ref a) f u) Q E s:=by
 let(mA,h,r,wi,_,j):=jQ d.hok e;have v:(fs.map (·.1)).length<=sizeLine:=by rw[ES,sizeLine_eq];lia
 show xZ d.kIn h c.sa c.po n.taker c.hd wi v λh' i D=>l _ ?_;have p:∃o,h'.get? dx=some o:=let⟨o,_,_,k,_⟩:=i.ns;⟨o,k⟩;show d.write (x:=a) (e:=dx) (by rw[e];show True.intro) (.inr j) (λb q m z=>(D.2 b m).trans z) p ?_;show{by rw[aj h.ne];show j,?_,h.ne,i.obj,_,i.ns,λg=>?_,λg t=>?_}
 .have:=jB f y fs;lia
 .change eF ((dl f y fs).lookup g) (if g=f then some u else mA g);rw[jA]
  by_cases q:g=f
  .rw[EW q,EW q];show B
  .rw[EV q,EV q];show r g
 .by_cases q:g=f
  .rw[q];show(je f y fs).1
  .show(je f y fs).2 g (wi g λz=>t ?_);change(if g=f then some u else mA g)=none;rw[EV q];show z
theorem Inv.made(d:Inv X pins σ H s):Inv X pins σ (upd (upd H s.heap.objs.size<|.own (s.heap.objs.size+1)) (s.heap.objs.size+1)<|.ins C s.heap.objs.size [])
  {s with heap:=(s.heap.push emptyDict).push (instObj C s.heap.objs.size)}:=by
 have e1:(s.heap.push emptyDict).get? s.heap.objs.size=some emptyDict:=FG s.heap rfl;have e2:((s.heap.push emptyDict).push (instObj C s.heap.objs.size)).get? (s.heap.objs.size+1)=some (instObj C s.heap.objs.size):=by
  have:=FG (s.heap.push emptyDict) (o:=instObj C s.heap.objs.size) rfl
  rwa [size_push]at this
 have e3:(s.heap.push emptyDict).Ns s.heap.objs.size (λ_=>none):={emptyDict,#[],_,e1,rfl,(λe g=>absurd g (by simp)),λ_=>rfl};have f:=d.laid (a:=s.heap.objs.size) (o:=.own<|s.heap.objs.size+1) (h':=s.heap.push emptyDict) (t':=s.toks) (λb u q=>EU _ q) (FH _) ⟨_,e1⟩;show f.laid (a:=s.heap.objs.size+1) (o:=.ins C s.heap.objs.size []) (t':=s.toks) (λb u q=>EU _ q) (le_of_eq<|size_push _ _) ?_;have c:s.heap.objs.size≠s.heap.objs.size+1:=FX<|lt_succ_self _;show{by rw[aj c,ac],Fz _,c,e2,λ_=>none,(Heap.Ns1.of_empty e3).at λo q=>EU _ q,λ_=>True.intro,λy h=>absurd rfl h}
theorem ya{prog:qw}{w:qn}{env:Env}{e:Expr}{f:Str}{pos:Pos}{s:xg}{Q:xx->xg->Prop}(b:attributeBase e f env (eval e env)=eval e env)(a:wpAny (model prog w) A (eval e env) (λo c=>wpAny (model prog w) A (getAttr o f true) Q E c) E s):wpAny (model prog w) A (eval (.Attribute e f pos) env) Q E s :=
 Attribute_any_ a (by rw[arm_eval_Attribute,b])
end
def Ee(K:Frag)(b:TE)(f:Str):TE:=λσ H Q=>b σ H λx H1=>∃a C dx fs v,x=.ref a/\H1 a=some (.ins C dx fs)/\Cls K C/\dH K C f/\fs.lookup f=some v/\Q v H1
def Ef(K:Frag)(c d:TE)(f:Str):TS:=λb σ H=>d σ H λy H1=>c σ H1 λx H2=>∃a C dx fs,x=.ref a/\H2 a=some (.ins C dx fs)/\Cls K C/\dH K C f/\fs.length<1000 /\
 b.nx σ (upd H2 a<|.ins C dx (dl f y fs))
section
variable{X:Cx}{o e value:Expr}{f:Str}{pos pos' tpos:Pos}{ta tv:TE}
theorem ci(i:PE X e ta)(g:attributeBase e f X.env (eval e X.env)=eval e X.env):PE X (.Attribute e f pos) (Ee X.K ta f):=by
 intro pins s σ H Q I h;show ya g<|thn (i pins s σ H _ I h) λu s1 j=>?_;let(x,H1,b,m,a,C,dx,fs,v,ex,ea,c,n,l,q):=j;subst ex;obtain rfl:u=Value.ref a:=m;show qI b ea c n l λp o d k=>⟨v,H1,d,k,q⟩
theorem fX(g:PE X o ta)(j:PE X value tv)(i:swapsWith value (some<|.Attribute o f pos') pos.line X.env=pure false):PS X (.Assign [.Attribute o f pos'] value pos) (Ef X.K ta tv f):=by
 intro pins s σ H t I h;show plainObj_wpAny_Assign_Attribute (thn (j pins s σ H _ I h) λu s1 ⟨y,H1,b,r,q⟩=>thn (g pins s1 σ H1 _ b q) λk v ⟨x,H2,d,p,a,C,dx,fs,ex,ea,c,n,l,m⟩=>?_) i;subst ex;obtain rfl:k=Value.ref a:=p;show qJ d ea c n l r λw e=>⟨σ,_,e,m⟩
end
section
variable{X:Cx}{pins:List (zi×Obj)}{σ:St}{H:Hp}{s:xg}{A:qd}{E:xx->xg->Prop}{Q:xx->xg->Prop}{c:xx}{b:Bool}
inductive TyOf(K:Frag)(H:Hp):V->xx->Prop where
 |non:TyOf K H .non<|.type "NoneType"
 |bl (x:Bool):TyOf K H (.bl x)<|.type "bool"
 |int (i:Int):TyOf K H (.int i)<|.type "int"
 |str (x:Str):TyOf K H (.str x)<|.type "str"
 |flt (x:UInt64):TyOf K H (.flt x)<|.type "float"
 |lst {a:zi} {xs:List V} (e:H a=some (.lst xs)):TyOf K H (.ref a)<|.type "list"
 |frz {a:zi} {o:Obj} {xs:List V} (e:H a=some (.frz o<|.lst xs)):TyOf K H (.ref a)<|.type "list"
 |tup {a:zi} {xs:List V} (e:H a=some (.tup xs)):TyOf K H (.ref a)<|.type "tuple"
 |dK {a:zi} {kvs:List (Key×V)} (e:H a=some (.dK kvs)):TyOf K H (.ref a)<|.type "dict"
 |dT {a:zi} {kvs:List (List Key×V)} (e:H a=some (.dT kvs)):TyOf K H (.ref a)<|.type "dict"
 |ins {a C dx:zi} {fs:List (Str×V)} (e:H a=some (.ins C dx fs)) (cl:Cls K C) (ha:PySem.W.findIn K (.ref C) "__class__"=some (some<|.builtin "object.__class__"))
   (hn:PySem.W.specialIn K (.builtin "object.__class__") "__get__"=some (some<|.builtin "getset_descriptor.__get__")) (htk:PySem.W.takesIn K (.builtin "object.__class__")=some true)
   (hm:mroIn K C (.type "object")=some true):TyOf K H (.ref a)<|.ref C
theorem tS{x:V}{u t:xx}(d:Inv X pins σ H s)(g:aI x u)(l:TyOf X.K H x t)(e:kitOne X.K t c=some b)(f:∀tk,Q (.bool b) {s with toks:=tk}):
  wpAny (model X.prog X.w) A (call (.builtin "isinstance") [u,c]) Q E s:=by
 cases l with
 |non=>cases (show u=Value.none from g);show kia_one PySem.W.kitx_none d.kIn True.intro e (λz=>nomatch z) f
 |bl y=>cases (show u=Value.bool y from g);show kia_one PySem.W.kitx_bool d.kIn True.intro e (λz=>nomatch z) f
 |int i=>let(t,q):=(show ∃t,u=Value.int i t from g);cases q;show kia_one PySem.W.kitx_int d.kIn True.intro e (λz=>nomatch z) f
 |str y=>let(t,q):=(show ∃t,u=Value.str y t from g);cases q;show kia_one PySem.W.kitx_str d.kIn True.intro e (λz=>nomatch z) f
 |flt y=>let(t,q):=(show ∃t,u=float y t from g);cases q;show kia_one PySem.W.kitx_float d.kIn True.intro e (λz=>nomatch z) f
 |@lst a xs ea =>
  cases (show u=Value.ref a from g);let(_,_,n,_,h1):=(show bq X.prog X.w H s.heap a (.lst xs)from d.hok a _ ea);show kia_one kitx_list d.kIn ⟨_,h1,rfl⟩ e (λz=>nomatch z) f
 |@frz a ob xs ea =>
  cases (show u=Value.ref a from g);let(_,_,_,n,_,h1):=(show bq X.prog X.w H s.heap a (.frz ob<|.lst xs)from d.hok a _ ea);show kia_one kitx_list d.kIn ⟨_,h1,rfl⟩ e (λz=>nomatch z) f
 |@tup a xs ea =>
  cases (show u=Value.ref a from g);let(_,_,_,p):=(show bq X.prog X.w H s.heap a (.tup xs)from d.hok a _ ea);let(o,h1,h2,_):=p;show kia_one PySem.W.kitx_tuple d.kIn ⟨o,h1,h2⟩ e (λz=>nomatch z) f
 |@dK a kvs ea =>
  cases (show u=Value.ref a from g);let(_,_,vs,_,p):=(show bq X.prog X.w H s.heap a (.dK kvs)from d.hok a _ ea);let(o,es,k,h1,h2,_):=p;show kia_one kitx_dict d.kIn ⟨o,h1,h2.1⟩ e (λz=>nomatch z) f
 |@dT a kvs ea =>
  cases (show u=Value.ref a from g);let(_,_,xs,_,o,es,k,h1,h2,_):=(show bq X.prog X.w H s.heap a (.dT kvs)from d.hok a _ ea);show kia_one kitx_dict d.kIn ⟨o,h1,h2.1⟩ e (λz=>nomatch z) f
 |@ins a C dx fs ea cl ha hn htk hm =>
  cases (show u=Value.ref a from g);let(mA,j,_):=jQ d.hok ea;let(m,h,_):=j.look;show kia_one (PySem.W.kitx_own (cl.get _) cl.hd ha hn htk hm) d.kIn h e (λz=>nomatch z) f
end
structure Room(k:Nat)(A:qd):Prop where
 hd:A.handled=none
 dp:A.depth+3*k+5<recursionLimit
 un:A.units+16*k+200<cLine
 gd:A.guards=some []
theorem Room.mono{j k:Nat}{A:qd}(r:Room k A)(h:j<=k):Room j A:={r.hd,by have:=r.dp;lia,by have:=r.un;lia,r.gd}
theorem Room.deeper{k:Nat}{A:qd}(r:Room (k+1) A)(env:Env):Room k (A.deeper env) :=
 {r.hd,by have:=r.dp;change A.depth+1+3*k+5<_;lia,by have:=r.un;change A.units+3+16*k+200<_;lia,r.gd}
theorem qK{A:qd}{C:zi}{us:List xx}{a:List (Str×xx)}:(A.under<|.builtin "type.__call__" ⟨.ref C::us,a⟩).depth=A.depth+1:=by
 first|rfl|simp[Around.under,Code.weight,Code.isCreation,Code.isGuard,Code.isCaller,Code.frames,Code.isFrame,guardIds]
theorem qL{A:qd}{C:zi}{us:List xx}{a:List (Str×xx)}:(A.under<|.builtin "type.__call__" ⟨.ref C::us,a⟩).units=A.units+1:=by
 first|rfl|simp[Around.under,Code.cUnits,Code.frames,Code.isFrame]
theorem oV{A:qd}{C:zi}{us:List xx}{a:List (Str×xx)}:(A.under<|.builtin "type.__call__" ⟨.ref C::us,a⟩).guards=A.guards:=by
 first|rfl|(cases h:A.guards<;>simp[Around.under,pushGuards,Code.guards,Code.isGuard,guardIds,h])
theorem Room.make{k:Nat}{A:qd}(r:Room (k+1) A)(C:zi)(us:List xx)(a:List<|Str×xx):Room k (A.under<|.builtin "type.__call__" ⟨.ref C::us,a⟩) :=
 {r.hd,by have:=r.dp;rw[qK];lia,by have:=r.un;rw[qL];lia,by rw[oV];show r.gd}
theorem Room.depth{k:Nat}{A:qd}(r:Room k A):A.depth<recursionLimit:=by have:=r.dp;lia
theorem Room.units{k:Nat}{A:qd}(r:Room k A):A.units+64<cLine:=by have:=r.un;lia
theorem Room.units0{k:Nat}{A:qd}(r:Room k A):A.units<cLine:=by have:=r.un;lia
def lS:TA:=λ_ H Q=>Q [] H
def dm(a:TE)(b:TA):TA:=λσ H Q=>a σ H λx H1=>b σ H1 λxs H2=>Q (x::xs) H2
section
variable{X:Cx}{e:Expr}{es:List Expr}{te:TE}{t:TA}{pos:Pos}
theorem af:PA X [] lS:=λ_ _ _ _ H Q I h=>spliced_nil {[],H,I,.nil,h}
theorem aa(c:PE X e te)(f:PA X es t)(g:starEach (e::es) X.env=(false,eval e X.env)::starEach es X.env:=by rfl):PA X (e::es) (dm te t):=by
 intro pos pins s σ H Q I h;rw[g];change wpAny _ _ (spliced ((false,eval e X.env)::backTo pos (starEach es X.env))) _ _ s;show spliced_cons<|thn (c pins s σ H _ I h) λu s1 d=>?_;let(x,H1,a,k,i):=d;show thn (f pos pins s1 σ H1 _ a i) λn m ⟨xs,H2,b,l,j⟩=>⟨x::xs,H2,b,.cons k l,j⟩
def CG(t:TA):TE:=λσ H Q=>t σ H λxs H1=>xs.length<=sizeLine/\∀p,H1 p=none->Q (.ref p) (upd H1 p<|.tup xs)
def Eg(t:TA):TE:=λσ H Q=>t σ H λxs H1=>xs.length<=sizeLine/\∀p,H1 p=none->Q (.ref p) (upd H1 p<|.lst xs)
theorem aO{x1}(c:PA X es t):PE X (.Tuple es x1 pos) (CG t):=by
 intro pins s σ H Q I f;show wpAny_Tuple_spliced<|thn (c pos pins s σ H _ I f) λg s1 ⟨xs,H1,a,r,z,q⟩=>{by rw[<-r.length];show z,?_};have d:H1 s1.heap.objs.size=none:=a.hok.fresh<|FH _;show{.ref s1.heap.objs.size,upd H1 s1.heap.objs.size<|.tup xs,a.laid (t':=s1.toks) (λb u e=>EU _ e) (FH _) ?_,rfl,q _ d};show{z,g,r,{_,FG _ rfl,rfl,_,rfl}}
theorem bc(c:PA X es t):PE X (.List es pos) (Eg t):=by
 intro pins s σ H Q I f;show wpAny_List_spliced<|thn (c pos pins s σ H _ I f) λg s1 ⟨xs,H1,a,r,z,q⟩=>{by rw[<-r.length];show z,?_};have d:H1 s1.heap.objs.size=none:=a.hok.fresh<|FH _;show{.ref s1.heap.objs.size,upd H1 s1.heap.objs.size<|.lst xs,a.laid (t':=s1.toks) (λb u e=>EU _ e) (FH _) ?_,rfl,q _ d};show{z,g,0,r,FG _ rfl}
end
abbrev Sp:=List V->Hp->VK->XK->Prop
abbrev CXT:=List Env->Hp->xg->XK->xx->xg->Prop
structure Env0(P:qw)(w:qn)(K:Frag)(mg:Str->Option xx)(base:qb)(A:qd)(outer:List Env)(s:xg)(H:Hp):Prop where
 frames:A.frames=some outer
 mod:Mod K mg base
 bs:∀b o,base.get? b=some o->s.heap.get? b=some o/\H b=none
 bsz:base.objs.size<=s.heap.objs.size
 funs:s.heap.FunFrames base outer
 frf:∀b∈frs outer,H b=none
 hok:HOk P w H s.heap
 bare:AllBare s.gens
def CE(outer:List Env)(P:qw)(w:qn)(H:Hp)(s:xg)(Q:VK)(u:xx)(s':xg):Prop :=
 ∃v H',s'.os=s.os/\AllBare s'.gens/\Un (frs outer) [] H H' s.heap s'.heap/\HOk P w H' s'.heap/\aI v u/\Q v H'
def CR(CX:CXT)(outer:List Env)(P:qw)(w:qn)(H:Hp)(s:xg)(Q:VK)(E:XK)(r:Result)(s':xg):Prop :=
 match r with
 |.ok (.ret u)=>CE outer P w H s Q u s'
 |.ok _=>False
 |.error e=>CX outer H s E e s'
structure FnOk(P:qw)(w:qn)(K:Frag)(mg:Str->Option xx)(base:qb)(CX:CXT)(k:Nat)(f:zi)(fd:qa)(ps:List Str)(sp:Sp):Prop where
 len:∀vs H Q E,sp vs H Q E->vs.length=ps.length
 run:∀(A:qd)(outer:List Env)(s:xg)(H:Hp)(args:Args)(us:List xx)(vs:List V)(Q:VK)(E:XK),Room k A->Env0 P w K mg base A outer s H->BindsTo s fd args (ps.zip us)->aA vs us->sp vs H Q E ->
  codeAny (model P w) A (.call (.ref f) args) (CR CX outer P w H s Q E) s
theorem FnOk.imp{P:qw}{w:qn}{K:Frag}{mg:Str->Option xx}{base:qb}{CX:CXT}{k:Nat}{f:zi}{a:qa}{ps:List Str}{sp sp':Sp}(F:FnOk P w K mg base CX k f a ps sp)(b:∀vs H Q E,sp' vs H Q E->sp vs H Q E):FnOk P w K mg base CX k f a ps sp' :=
 {λvs H Q E q=>F.len vs H Q E<|b _ _ _ _ q,λA outer s H c j vs Q E g e d i h=>F.run A outer s H c j vs Q E g e d i<|b _ _ _ _ h}
theorem Env0.make{P:qw}{w:qn}{K:Frag}{mg:Str->Option xx}{base:qb}{A:qd}{outer:List Env}{s:xg}{H:Hp}(e:Env0 P w K mg base A outer s H)(C:zi)(us:List xx)(a:List<|Str×xx):
  Env0 P w K mg base (A.under<|.builtin "type.__call__" ⟨.ref C::us,a⟩) outer s H:=⟨by first|show e.frames|(simpa [Around.under,Code.envs,Code.isFrame,pushEnvs]using e.frames),e.mod,e.bs,e.bsz,e.funs,e.frf,e.hok,e.bare⟩
section
variable{X:Cx}{pins:List (zi×Obj)}{σ:St}{H:Hp}{s s':xg}
theorem Inv.env0(I:Inv X pins σ H s):Env0 X.prog X.w X.K X.mg X.base X.A X.stack s H :=
 ⟨I.ok.frames,I.ok.mod,I.bs,GS I.ok.bsz I.sz,I.stack,I.stkFree,I.hok,I.bare⟩
theorem Inv.after{Q:VK}{u:xx}(a:Inv X pins σ H s)(e:CE X.stack X.prog X.w H s Q u s'):EP X pins σ Q u s':=by
 let(v,H',os,c,un,h,r,q):=e;let(f,g,d,t,i):=s';obtain rfl:i=s.os:=os;show{v,H',a.call (h':=f) (g':=g) (d':=d) (t':=t) (ch:=[]) un h c λb z=>absurd z (by simp),r,q}
end
def ml(sp:Sp)(dvs:List V)(E:XK)(t:TA):TE:=λσ H Q=>t σ H λvs H1=>sp (vs++dvs) H1 Q E
def zR(C:zi)(m:Str)(sp:Sp)(dvs:List V)(E:XK)(b:TE)(t:TA):TE:=λσ H Q=>b σ H λx H1=>∃a dx fs,x=.ref a/\H1 a=some (.ins C dx fs)/\fs.lookup m=none /\
 t σ H1 λvs H2=>sp (x::(vs++dvs)) H2 Q E
def CH(C:zi)(sp:Sp)(dvs:List V)(E:XK)(t:TA):TE:=λσ H Q=>t σ H λvs H1=>∀x dx,H1 x=none->H1 dx=none->dx≠x ->
 sp (.ref x::(vs++dvs)) (upd (upd H1 dx<|.own x) x<|.ins C dx []) (λv H2=>v=.non/\Q (.ref x) H2) E
def aH(K:Frag)(c:qa)(ps:List Str)(b:List xx):Prop :=
 ∀(s:xg)(a:List xx),K.In s.heap->(a++b).length=ps.length->BindsTo s c {a,[]} (ps.zip<|a++b)
theorem aH.all{K:Frag}{a:qa}{ps:List Str}(c:∀us:List xx,us.length=ps.length->bindArgs a {us,[]}=pure (ps.zip us)):aH K a ps []:=λs us _ b=>by
 rw[Gs]at b|-;show .of_eq<|c us b
def cG(CX:CXT)(X:Cx)(E:XK):Prop:=∀(pins:List<|zi×Obj)(σ:St)(H:Hp)(s:xg)(e:xx)(s':xg),Inv X pins σ H s->CX X.stack H s E e s'->X.xe e s'
section
variable{X:Cx}{CX:CXT}{k:Nat}{f C:zi}{fd:qa}{ps:List Str}{sp:Sp}{dvs:List V}{ds:List xx}{E:XK}{x m:Str}{p pos apos:Pos}{e o:Expr}{es:List Expr}{ta:TE}{t:TA}
theorem nN{d:List (zi×Obj)}{g:St}{b:Hp}{s:xg}{Q:VK}{us:List xx}{vs:List V}(F:FnOk X.prog X.w X.K X.mg X.base CX k f fd ps sp)(n:Room k X.A)(l:aH X.K fd ps ds)(hd:aA dvs ds)(o:cG CX X E)(c:Inv X d g b s)(r:aA vs us)(h:sp (vs++dvs) b Q E):wpAny (model X.prog X.w) X.A (call (.ref f) us) (EP X d g Q) X.xe s:=by
 have i:aA (vs++dvs) (us++ds):=r.append hd;have m:(us++ds).length=ps.length:=by rw[<-i.length];show F.len _ _ _ _ h
 show wpAny_call<|codeAny_mono (F.run X.A X.stack s b {us,[]} (us++ds) (vs++dvs) Q E n c.env0 (l s us c.kIn m) i h) λr s' a=>?_;cases r with
 |error e=>show o d g b s e s' c a
 |ok j =>
  cases j with
  |ret u=>show c.after a
  |next=>show False.elim a
  |brk=>show False.elim a
  |cont=>show False.elim a
theorem bd(F:FnOk X.prog X.w X.K X.mg X.base CX k f fd ps sp)(n:Room k X.A)(i:Gl X x)(l:X.mg x=some (.ref f))(j:keepIn X.K (.ref f)=true)(c:aH X.K fd ps ds)(hd:aA dvs ds)(o:cG CX X E)(b:PA X (e::es) t)(d:(x==("__debug__":Str))=false:=by decide)(g:starEach (e::es) X.env=(false,eval e X.env)::starEach es X.env:=by rfl)(m:(backTo pos<|starEach es X.env).any (·.1)=false:=by rfl):
  PE X (.Call (.Name x p) (e::es) [] pos) (ml sp dvs E t):=by
 intro pins s σ H Q I h;show wpAny_Call_Name_kw<|gJ I i l ?_ d;show callWith_K (h₀:=X.base) I.ok.mod.kin j (thn (b pos pins s σ H _ I h) λu s1 ⟨vs,H1,a,r,q⟩=>{a.kIn,?_}) g m;show nN F n c hd o a r q
theorem fg{pl:Sem Bool}(p:PE X o ta)(c:Cls X.K C)(g:Meth X.K C m f)(F:FnOk X.prog X.w X.K X.mg X.base CX k f fd ps sp)(y:Room k X.A)(n:aH X.K fd ps ds)(hd:aA dvs ds)(D:cG CX X E)(j:PA X (e::es) t)(z:starEach (e::es) X.env=(false,eval e X.env)::starEach es X.env:=by rfl)(v:(backTo pos<|starEach es X.env).any (·.1)=false:=by rfl)(B:eval (.Call (.Attribute o m apos) (e::es) [] pos) X.env=(do
   let i <- eval o X.env
   standAt apos.atName
   let(f,first) <- holding [i] (getMethod i m pl)
   callWith pos f first (backTo pos<|starEach (e::es) X.env) (backToKw pos<|keywordEach [] X.env)):=by rfl):
  PE X (.Call (.Attribute o m apos) (e::es) [] pos) (zR C m sp dvs E ta t):=by
 intro pins s σ H Q I h;show methodCall_KW (pl:=pl) (thn (p pins s σ H _ I h) λu s1 ⟨x,H1,b,J,a,dx,fs,ex,ea,l,q⟩=>?_) B;subst ex;obtain rfl:u=Value.ref a:=J;show kh b ea c g l ?_;show callWith_K (first:=[.ref a]) (h₀:=X.base) I.ok.mod.kin g.kp (thn (j pos pins s1 σ H1 _ b q) λus L ⟨vs,H2,d,r,G⟩=>{d.kIn,?_}) z v;show nN (us:=.ref a::us) (vs:=.ref a::vs) F y n hd D d (.cons rfl r) G
theorem eR{pl:Sem Bool}(i:PE X o ta)(c:Cls X.K C)(d:Meth X.K C m f)(F:FnOk X.prog X.w X.K X.mg X.base CX k f fd ps sp)(j:Room k X.A)(g:aH X.K fd ps ds)(hd:aA dvs ds)(p:cG CX X E)(n:eval (.Call (.Attribute o m apos) [] [] pos) X.env=(do
   let e <- eval o X.env
   standAt apos.atName
   let(f,first) <- holding [e] (getMethod e m pl)
   callWith pos f first (backTo pos<|starEach [] X.env) (backToKw pos<|keywordEach [] X.env)):=by rfl):
  PE X (.Call (.Attribute o m apos) [] [] pos) (zR C m sp dvs E ta lS):=by
 intro pins s σ H Q I h;show methodCall_KW (pl:=pl) (thn (i pins s σ H _ I h) λu s1 ⟨x,H1,b,r,a,dx,fs,ex,ea,l,q⟩=>?_) n;subst ex;obtain rfl:u=Value.ref a:=r;show kh b ea c d l ?_;show PySem.W.callWith_K0 (first:=[.ref a]) b.kIn d.kp<|nN (us:=[.ref a]) (vs:=[.ref a]) F j g hd p b (.cons rfl .nil) q
structure Mk(K:Frag)(C f:zi):Prop where
 makes:makesIn K C=true
 init:PySem.W.findIn K (.ref C) "__init__"=some (some<|.ref f)
 fn:isFn K (.ref f)=true
 kp:keepIn K (.ref C)=true
theorem vk{h:List (zi×Obj)}{i:St}{b:Hp}{s:xg}{Q:VK}{us:List xx}{vs:List V}(g:Mk X.K C f)(F:FnOk X.prog X.w X.K X.mg X.base CX k f fd ps sp)(y:Room (k+1) X.A)(q:aH X.K fd ps ds)(hd:aA dvs ds)(z:cG CX X E)(c:Inv X h i b s)(r:aA vs us)(p:∀x dx,b x=none->b dx=none->dx≠x->sp (.ref x::(vs++dvs)) (upd (upd b dx<|.own x) x<|.ins C dx []) (λv H2=>v=.non/\Q (.ref x) H2) E):
  wpAny (model X.prog X.w) X.A (call (.ref C) us) (EP X h i Q) X.xe s:=by
 have j:=p (s.heap.objs.size+1) s.heap.objs.size (c.hok.fresh<|le_succ _) (c.hok.fresh<|FH _)<|FX (lt_succ_self _);have d:=Inv.made (C:=C) c;have l:aA (V.ref (s.heap.objs.size+1)::(vs++dvs)) (Value.ref (s.heap.objs.size+1)::(us++ds)):=.cons rfl<|r.append hd;have t:(Value.ref (s.heap.objs.size+1)::us++ds).length=ps.length:=by
  have e:=l.length;rw[F.len _ _ _ _ j]at e;show e.symm
 show wpAny_call<|vj (f:=f) c.kIn g.makes g.init (GP.mp g.fn) (codeAny_mono (F.run _ X.stack _ _ {Value.ref (s.heap.objs.size+1)::us,[]} (Value.ref (s.heap.objs.size+1)::(us++ds)) _ _ E (y.make C us [])
  (d.env0.make C us []) (q _ (Value.ref (s.heap.objs.size+1)::us) d.kIn t) l j) λr s' a=>?_)
 cases r with
 |error e=>show z h i _ _ e s' d a
 |ok o =>
  cases o with
  |ret u =>
   let(v,H',m,D,n,B):=d.after a;subst n;show{D,{V.ref<|s.heap.objs.size+1,H',m,rfl,B}}
  |next=>show False.elim a
  |brk=>show False.elim a
  |cont=>show False.elim a
theorem yb(b:Mk X.K C f)(F:FnOk X.prog X.w X.K X.mg X.base CX k f fd ps sp)(n:Room (k+1) X.A)(j:Gl X x)(l:X.mg x=some (.ref C))(d:aH X.K fd ps ds)(hd:aA dvs ds)(o:cG CX X E)(c:PA X (e::es) t)(g:(x==("__debug__":Str))=false:=by decide)(i:starEach (e::es) X.env=(false,eval e X.env)::starEach es X.env:=by rfl)(m:(backTo pos<|starEach es X.env).any (·.1)=false:=by rfl):
  PE X (.Call (.Name x p) (e::es) [] pos) (CH C sp dvs E t):=by
 intro pins s σ H Q I h;show wpAny_Call_Name_kw<|gJ I j l ?_ g;show callWith_K (h₀:=X.base) I.ok.mod.kin b.kp (thn (c pos pins s σ H _ I h) λu s1 ⟨vs,H1,a,r,q⟩=>{a.kIn,?_}) i m;show vk b F n d hd o a r q
end
structure FnScope(N P:List Str)(sc:Scope):Prop where
 kind:sc.kind=.function
 co:sc.isCoroutine=false
 gen:sc.isGenerator=false
 nd:N.Nodup
 pre:N.take P.length=P
 par:∀x∈P,sc.names.lookup x=some .local\/sc.names.lookup x=some .cell
 nofree:∀y∈sc.names,y.2≠.free
theorem mn{kindOf:Str->Option NameKind}{x:Str}:∀{a:List (Str×xx)}{m:Str->Option xx},(∀v,(x,v)∉a)->bindL kindOf a m x=m x
 |[],_,_=>rfl
 |(n,v)::r,m,h=>by
  unfold bindL;rw[mn λw b=>h w<|FR _ b]
  split
  .have:x≠n:=by rintro rfl;show h v FY
   simp[this]
  .rfl
theorem mq{kindOf:Str->Option NameKind}{x:Str}:∀{a:List (Str×xx)}{m:Str->Option xx},(∀v,(x,v)∉a)->bindC kindOf a m x=m x
 |[],_,_=>rfl
 |(n,v)::r,m,h=>by
  unfold bindC;rw[mq λw b=>h w<|FR _ b]
  split
  .rfl
  .have:x≠n:=by rintro rfl;show h v FY
   simp[this]
theorem jf{kindOf:Str->Option NameKind}{x:Str}{v:xx}:∀{P:List Str}{vs:List xx}{i:Nat}{m:Str->Option xx},P.Nodup->P[i]?=some x->vs[i]?=some v->kindOf x=some .local ->
  bindL kindOf (P.zip vs) m x=some v
 |[],_,_,_,_,h,_,_=>by simp at h
 |_::_,[],_,_,_,_,h,_=>by simp at h
 |p::P,w::vs,0,m,nd,h1,h2,hk=>by
  simp at h1 h2;subst h1;subst h2;change bindL kindOf ((p,w)::P.zip vs) m p=_;unfold bindL;rw[mn λv a=>(GW.mp nd).1 (of_mem_zip a).1,EW hk];simp
 |p::P,w::vs,i+1,m,nd,h1,h2,hk=>by
  change bindL kindOf ((p,w)::P.zip vs) m x=_;unfold bindL;show jf (i:=i) (GW.mp nd).2 (by simpa using h1) (by simpa using h2) hk
theorem jg{kindOf:Str->Option NameKind}{x:Str}{v:xx}:∀{P:List Str}{vs:List xx}{i:Nat}{m:Str->Option xx},P.Nodup->P[i]?=some x->vs[i]?=some v->kindOf x≠some .local ->
  bindC kindOf (P.zip vs) m x=some v
 |[],_,_,_,_,h,_,_=>by simp at h
 |_::_,[],_,_,_,_,h,_=>by simp at h
 |p::P,w::vs,0,m,nd,h1,h2,hk=>by
  simp at h1 h2;subst h1;subst h2;change bindC kindOf ((p,w)::P.zip vs) m p=_;unfold bindC;rw[mq λv a=>(GW.mp nd).1 (of_mem_zip a).1,EV hk];simp
 |p::P,w::vs,i+1,m,nd,h1,h2,hk=>by
  change bindC kindOf ((p,w)::P.zip vs) m x=_;unfold bindC;show jg (i:=i) (GW.mp nd).2 (by simpa using h1) (by simpa using h2) hk
def start(N:List Str)(vs:List V):St:=vs.map some++replicate (N.length-vs.length) none
def fY(CX:CXT)(P:qw)(w:qn)(K:Frag)(mg:Str->Option xx)(base:qb)(N:List Str)(qual:Str)(b:Scope)(f:zi)(a:xx)(A:qd)(outer:List Env)(s:xg)(c:Hp)(E:XK):Cx where
 prog:=P
 w:=w
 K:=K
 mg:=mg
 base:=base
 A:=A.deeper<|envOfC qual b s.heap.objs.size f a
 N:=N
 s₀:=s
 H₀:=c
 env:=envOfC qual b s.heap.objs.size f a
 outer:=outer
 stack:=envOfC qual b s.heap.objs.size f a::outer
 ex:=[]
 calm:=true
 fn:=λ_=>true
 pn:=[]
 xe:=λe s'=>wpAny (model P w) (A.deeper<|envOfC qual b s.heap.objs.size f a) (leaving (envOfC qual b s.heap.objs.size f a) e) (λ_ d=>CX outer c s E e d) (λg d=>CX outer c s E g d) s'
theorem iC{a:Scope}{n:Nat}{x:Str}(b:a.names.lookup x=some .cell):∃c,(cellsFrom n a.names []).lookup x=some c:=by
 have q:=cellsFrom_some a.names n []<|.inl b;show Option.isSome_iff_exists.mp q
theorem tT{CX:CXT}{P:qw}{w:qn}{K:Frag}{mg:Str->Option xx}{base:qb}{N ps:List Str}{qual:Str}{d:Scope}{f:zi}{m:xx}{A:qd}{outer:List Env}{s s1:xg}{l:Hp}{E:XK}{us:List xx}{vs:List V}(S:FnScope N ps d)(hd:A.handled=none)(e0:Env0 P w K mg base A outer s l)(G:vs.length=ps.length)(r:aA vs us)(x:InCallC s s.heap.objs.size (bindL (envOfC qual d s.heap.objs.size f m).kindOf (ps.zip us) λ_=>none) (cellsFrom (s.heap.objs.size+1) d.names []) (bindC (envOfC qual d s.heap.objs.size f m).kindOf (ps.zip us) λ_=>none) s1):
  Inv (fY CX P w K mg base N qual d f m A outer s l E) [] (start N vs) l s1:=by
 have H:ps.length<=N.length:=by have:=congrArg length S.pre;rw[Fx]at this;lia
 let(h1,tk,rfl,t):=x.done;have o:∀b:zi,b∉(fY CX P w K mg base N qual d f m A outer s l E).ex:=λb z=>absurd (show b∈([]:List zi)from z) (by simp);show{{e0.mod,S.kind,rfl,rfl,FH _,λy z c h1 h2=>?_,λy g=>?_,λy c _ h=>?_,λ_=>hd,Around.frames_deeper e0.frames,.inr ⟨rfl,rfl⟩,λb z=>absurd z<|o b,e0.bs,e0.bsz,λb _ _=>o b,λb z=>absurd z<|o b,e0.funs,e0.frf},
  rfl,e0.bare,Un.kept t,{_,x.toInCall.ns,λi y v h1 h2 h3=>?_},λy c h=>⟨_,x.cell y c h⟩,e0.hok.fresh<|FH _,λy c h=>?_,λp j=>absurd (show p∈([]:List<|zi×Obj)from j) (by simp),e0.hok.kept t,?_}
 .show name_of_addr x.apart (Fb h1)<|Fb h2
 .have g:d.names.lookup y=some .cell\/d.names.lookup y=some .free:=g;rcases g with g|g
  .show iC g
  .show absurd rfl<|S.nofree _ (Fb g)
 .show Fu<|x.above y c (Fb h)
 .have hi:i<vs.length:=by
   unfold start at h2
   by_cases hi:i<vs.length
   .show hi
   .rw[GA (by simpa using hi)]at h2;rw[List.getElem?_replicate]at h2
    split at h2<;>cases h2
  have D:vs[i]?=some v:=by
   unfold start at h2;rw[Fy (by simpa using hi),FE]at h2;cases e:vs[i]? with
   |none=>rw[e]at h2;cases h2
   |some a=>rw[e]at h2;cases h2;rfl
  let(u,B,F):=r.get D;have j:ps[i]?=some y:=by
   rw[<-S.pre,List.getElem?_take_of_lt (by lia)];show h1
  have C:ps.Nodup:=by rw[<-S.pre];show S.nd.sublist<|take_sublist _ _
  show{u,F,?_};rcases S.par y (FP j)with k|k
  .show .inl ⟨k,jf C j B k⟩
  .let(c,e):=iC (n:=s.heap.objs.size+1) k;show .inr {.inl k,c,e,?_};have q:=x.cell y c e;rw[jg C j B (by change d.names.lookup y≠_;rw[k];decide)]at q;show q
 .show e0.hok.fresh<|Fu (x.above y c<|Fb h)
 .unfold start;change _=N.length;rw[FI,ES,length_replicate]
  lia
theorem vm{CX:CXT}{P:qw}{w:qn}{K:Frag}{mg:Str->Option xx}{base:qb}{k:Nat}{f:zi}{name qual:Str}{F:Arguments}{h:List Stmt}{a:Scope}{p kV z G cdv ct oc:xx}{m a2:Option zi}{a3:Array (Option xx)}{N ps:List Str}{sp:Sp}(a1:K.lookup f=some {oc,a2,.func<|fnOf name qual F h a p kV z G m cdv ct,a3})(O:codeIn K cdv qual=true)(S:FnScope N ps a)(D:∀vs H Q E,sp vs H Q E->vs.length=ps.length)(M:∀(A:qd) (outer:List Env) (s:xg) (H:Hp) (vs:List V) (Q:VK) (E:XK),Room k (A.deeper<|envOfC qual a s.heap.objs.size f cdv)->sp vs H Q E ->
   ∃t,PSs (fY CX P w K mg base N qual a f cdv A outer s H E) h t/\t {nx:=λ_ H'=>Q .non H',rt:=Q} (start N vs) H):
  FnOk P w K mg base CX (k+1) f (fnOf name qual F h a p kV z G m cdv ct) ps sp:=by
 show{D,λA outer s H a5 a4 vs Q E i e0 L r C=>?_};have U:=D _ _ _ _ C;have l:K.In s.heap:=e0.mod.kin.keeps λb o e=>(e0.bs b o e).1;have a0:s.heap.NoLimit:=e0.mod.nolimit.keeps λb o e=>(e0.bs b o e).1;have T:∀y∈ps.zip a4,a.names.lookup y.1=some .local\/(a.names.lookup y.1=some .cell/\((cellsFrom (s.heap.objs.size+1) a.names []).lookup y.1).isSome=true):=λ⟨n,v⟩ Z=>by
  rcases S.par n (of_mem_zip Z).1 with q|q
  .show .inl q
  .show .inr {q,cellsFrom_some _ _ _<|.inl q}
 show codeAny_call_function i.depth (l _ _ a1) rfl S.co S.gen rfl (codeRec_of l O)<|L _ _ _ _ ?_;show wpAny_newFunctionEnv_cells S.kind T λa6 R s1 x=>?_;subst R;show{a0.keeps x.toInCall.keep,codeAny_func ?_};let(t,Y,X):=M A outer s H vs Q E (i.deeper _) C;have I:Inv (fY CX P w K mg base N qual a f cdv A outer s H E) [] (start N vs) H s1:=tT S i.hd e0 U r x;show wpAny_mono (Y [] s1 (start N vs) H _ I X) (λJ s' d=>?_) λe s' d=>d;have B:∀{g:St}{H':Hp}{v:V}{u:xx},Inv (fY CX P w K mg base N qual a f cdv A outer s H E) [] g H' s'->aI v u->Q v H'->CE outer P w H s Q u s' :=
  λ{g H' v u} c j q=>⟨v,H',c.os,c.bare,c.base,c.hok,j,q⟩
 cases J with
 |ret u =>
  let(v,g,H',c,j,q):=d;show B c j q
 |next =>
  let(g,H',c,q):=d;show B (v:=V.non) (u:=Value.none) c rfl q
 |brk =>
  let(_,_,_,q):=d;show False.elim q
 |cont =>
  let(_,_,_,q):=d;show False.elim q
section
variable{X:Cx}{x:Str}{p pos:Pos}{e:Expr}{es:List Expr}{t:TA}{id T:String}{r:List V->Hp->VK->Prop}
def tCB(r:List V->Hp->VK->Prop)(t:TA):TE:=λσ H Q=>t σ H λvs H1=>r vs H1 Q
theorem ar(c:ca X (.builtin id) r)(g:Gl X x)(i:X.mg x=none)(l:bootBuiltins x=some (.builtin id))(b:PA X (e::es) t)(j:x≠"__name__":=by decide)(d:(x==("__debug__":Str))=false:=by decide)(f:starEach (e::es) X.env=(false,eval e X.env)::starEach es X.env:=by rfl)(k:(backTo pos<|starEach es X.env).any (·.1)=false:=by rfl):PE X (.Call (.Name x p) (e::es) [] pos) (tCB r t):=by
 intro pins s σ H Q I h;show wpAny_Call_Name_kw<|jc I g i l ?_ j d;show PyProof.Rows.callWith_builtin1 (thn (b pos pins s σ H _ I h) λo s1 ⟨vs,H1,a,n,m⟩=>c pins s1 σ H1 vs o Q a n m) f k
theorem aK(c:ca X (.type T) r)(g:Gl X x)(i:X.mg x=none)(l:bootBuiltins x=some (.type T))(b:PA X (e::es) t)(j:x≠"__name__":=by decide)(d:(x==("__debug__":Str))=false:=by decide)(f:starEach (e::es) X.env=(false,eval e X.env)::starEach es X.env:=by rfl)(k:(backTo pos<|starEach es X.env).any (·.1)=false:=by rfl):PE X (.Call (.Name x p) (e::es) [] pos) (tCB r t):=by
 intro pins s σ H Q I h;show wpAny_Call_Name_kw<|jc I g i l ?_ j d;show Gf (thn (b pos pins s σ H _ I h) λo s1 ⟨vs,H1,a,n,m⟩=>c pins s1 σ H1 vs o Q a n m) f k
end
end L2
namespace HT
open PySem PyProof.Rows
section
open PySem.SeqAt
open PySem.AutoSeq1 (wpAny_loadPart')
open PySem.MeetsSeq PySem.MeetsSeq2 PySem.MeetsSeq3
end
section
variable{prog:qw}{w:qn}{A:qd}{E:xx->xg->Prop}{s:xg}
theorem yc{t b:zi}{vs a:List xx}{Q:xx->xg->Prop}(v:IsTup s.heap t vs.toArray)(u:IsTup s.heap b a.toArray)(l:vs≠[])(q:a=[]->Q (.ref t) s)(r:a≠[]->Q (.ref s.heap.objs.size) {s with heap:=s.heap.push {cls:=.type "tuple",data:=.seq (vs++a).toArray}})(hsz:vs.length+a.length<=sizeLine):wpAny (model prog w) A (binaryOp .Add (.ref t)<|.ref b) Q E s:=by
 let((cls,dd,data,o),c,h,n,j):=id v;let((x,g,data2,p),d,i,m,k):=id u;simp only at h j i k;subst h j i k;have e:vs.toArray++a.toArray=(vs++a).toArray:=by simp
 by_cases f:a=[]
 .show concat_meets ⟨_,c,rfl⟩ ⟨_,d,rfl⟩ noFill_tuple_add seq_tuple_add slot_tuple_add entry_tuple_add (args_tuple_add_2 _ _)
   (tuple_addW1 t b vs.toArray a.toArray n m dd g o p (by simpa using l) (by simp[f])) ⟨c,d,q f⟩
 .show concat_meets ⟨_,c,rfl⟩ ⟨_,d,rfl⟩ noFill_tuple_add seq_tuple_add slot_tuple_add entry_tuple_add (args_tuple_add_2 _ _)
   (tuple_addW2 t b vs.toArray a.toArray n m dd g o p (by simpa using l) (by simpa using f) (by rw[FO,FO];show hsz)) {c,d,?_}
  rw[e];show r f
def sIx(n d:Nat):Option Int->Nat
 |none=>d
 |some v=>if v<0 then (v+(n:Int)).toNat else min v.toNat n
theorem vp(n d:Nat):sIx n d none=d:=rfl
theorem sj(n d k:Nat):sIx n d (some (k:Int))=min k n:=by
 change(if (k:Int)<0 then ((k:Int)+(n:Int)).toNat else min (k:Int).toNat n)=min k n
 rw[EV (by lia),GR]
theorem Au(n d:Nat)(hd:d<=n)(o:Option Int):sIx n d o<=n:=by
 cases o with
 |none=>show hd
 |some v =>
  change(if v<0 then (v+(n:Int)).toNat else min v.toNat n)<=n
  by_cases a:v<0
  .rw[EW a];lia
  .rw[EV a];show Nat.min_le_right _ _
theorem sk(v:Int)(n d:Nat):(if v<0 then max (v+(n:Int)) 0 else min v (n:Int))=((sIx n d (some v):Nat):Int):=by
 change(if v<0 then max (v+(n:Int)) 0 else min v (n:Int))=(((if v<0 then (v+(n:Int)).toNat else min v.toNat n):Nat):Int)
 by_cases a:v<0
 .simp only[EW a];lia
 .simp only[EV a];lia
theorem qM(lo a:Option Int)(n:Nat):Builtin.Slice.sliceAdjust lo a 1 (n:Int)=(((sIx n 0 lo:Nat):Int),((sIx n n a:Nat):Int)):=by
 have h1:¬((1:Int)<0):=by lia
 unfold Builtin.Slice.sliceAdjust;simp only[h1,Fg];show Prod.ext ?_ ?_
 .cases lo with
  |none=>rfl
  |some v=>show sk v n 0
 .cases a with
  |none=>rfl
  |some v=>show sk v n n
theorem qN(i j:Nat):Builtin.Slice.slicePlaces (i:Int) (j:Int) 1=j-i:=by
 unfold Builtin.Slice.slicePlaces;have h1:(1:Int)>0:=by lia
 simp only[h1,GG,Int.ediv_one]
 split<;>lia
theorem ki{v:xx}{o:Option Int}{Q:Option Int->xg->Prop}(p:IsPart v o)(h:Q o s):wpAny (model prog w) A (Builtin.Slice.slicePartIndex v) Q E s:=by
 cases p with
 |none=>show slicePart_none h
 |int i t=>show slicePart_int h
theorem eT{f:zi}{d e:xx}{lo a:Option Int}{n:Nat}{Q:Int×Int×Nat->xg->Prop}(h:s.heap.IsSliceOf f d e .none)(pl:IsPart d lo)(i:IsPart e a)(g:Q (((sIx n 0 lo:Nat):Int),1,sIx n n a-sIx n 0 lo) s):wpAny (model prog w) A (Builtin.Slice.sliceApplied (.ref f)<|pure (n:Int)) Q E s:=by
 let(os,c,j,b):=id h;unfold Builtin.Slice.sliceApplied Builtin.Slice.sliceFields;show Wb<|Wb (wpAny_field c b (x:=d) rfl<|Wb (wpAny_field c b (x:=e) rfl<|Wb (wpAny_field c b (x:=.none) rfl<|Wp ?_)));show Wb<|slicePart_none ?_;change wpAny _ _ (if ((1:Int)==0)=true then _ else _) _ _ s
 rw[EV (by decide)];show Wb<|ki pl (Wb<|ki i (Wb<|Wp ?_));change wpAny _ _ (match Builtin.Slice.sliceAdjust lo a 1 (n:Int)with|(lo,a)=>pure (lo,(1:Int),Builtin.Slice.slicePlaces lo a 1)) _ _ s
 rw[qM lo a n];change wpAny _ _ (pure (((sIx n 0 lo:Nat):Int),(1:Int),Builtin.Slice.slicePlaces ((sIx n 0 lo:Nat):Int) ((sIx n n a:Nat):Int) 1)) _ _ s;rw[qN];show Wp g
theorem vq(xs:Array xx)(i k:Nat):((List.range k).filterMap λ(m:Nat)=>xs[((i:Int)+(m:Int)*1).toNat]?).toArray=((xs.toList.drop i).take k).toArray:=by
 have e:(λ(m:Nat)=>xs[((i:Int)+(m:Int)*1).toNat]?)=λm=>xs[i+m]?:=by
  funext m
  have:((i:Int)+(m:Int)*1).toNat=i+m:=by lia
  rw[this]
 rw[e];have:=pick_run xs i k;rw[List.filterMap_map]at this;have e2:((λx=>xs[x]?)∘λx=>i+x)=λm=>xs[i+m]?:=rfl;rw[e2]at this;rw[this]
theorem iD{t e:zi}{items:Array xx}{g h:xx}{lo a:Option Int}{Q:xx->xg->Prop}(c:IsTup s.heap t items)(f:s.heap.IsSliceOf e g h .none)(pl:IsPart g lo)(o:IsPart h a)(n:¬(sIx items.size 0 lo=0/\sIx items.size items.size a=items.size))(b:Q (.ref s.heap.objs.size) {s with heap:=s.heap.push {cls:=.type "tuple",data:=.seq ((items.toList.drop<|sIx items.size 0 lo).take (sIx items.size items.size a-sIx items.size 0 lo)).toArray}})(hsz:items.size<=sizeLine):wpAny (model prog w) A (getItem (.ref t)<|.ref e) Q E s:=by
 have d:sizeOk (.seq ((items.toList.drop<|sIx items.size 0 lo).take (sIx items.size items.size a-sIx items.size 0 lo)).toArray):=by
  change((items.toList.drop<|sIx items.size 0 lo).take (sIx items.size items.size a-sIx items.size 0 lo)).toArray.size<=sizeLine;rw[FO,Fx,length_drop,FQ]
  lia
 have r:sIx items.size items.size a<=items.size:=Au _ _ (FH _) a;let(os,l,j,p):=id f;have i:s.TypeIs (.ref e) "slice":=⟨os,l,j⟩;unfold getItem
 try with_reducible show wpAny_holding ?_
 first|show Wb (Wp ?_)|skip
 show Wb<|wpAny_sequenceKey c.typeIs (by decide) ?_;show Wb (wpAny_callSpecial?_slot (name:=ofString "__getitem__") c.typeIs Fv
  (wpAny_call_entry Fv c.typeIs entry_tuple_getitem ?_<|args_tuple_getitem _ _))
 change wpAny _ _ (Builtin.Tuple.tupleItemsOf (.ref t) >>= _) _ _ s;show Wb<|tupleItemsOf_ c ?_;show Wb<|wpAny_typeOf i ?_;rw[EW (by decide)];show Wb<|eT f pl o ?_;have k:¬((((sIx items.size 0 lo:Nat):Int)==0&&(1:Int)==1&&(sIx items.size items.size a-sIx items.size 0 lo)==items.size)=true):=by
  intro q;rw[GJ,GJ]at q;have u:((sIx items.size 0 lo:Nat):Int)=0:=eq_of_beq q.1.1;have v:sIx items.size items.size a-sIx items.size 0 lo=items.size:=eq_of_beq q.2;show n ⟨by lia,by lia⟩
 change wpAny _ _ (if (((sIx items.size 0 lo:Nat):Int)==0&&(1:Int)==1&&(sIx items.size items.size a-sIx items.size 0 lo)==items.size)=true then _ else _) _ _ s
 rw[EV k,vq]
 first
  |show Wb (m:=Builtin.Tuple.tupleExact _)<|wpAny_newObj_type (Wp ⟨_,rfl,Wp b⟩) d
  |show Wb (m:=Builtin.Tuple.tupleExact _)<|wpAny_newObj_type (Wb<|Wp (Wp ⟨_,rfl,Wp b⟩)) d
  |show Wb<|Wb (m:=Builtin.Tuple.tupleExact _) (wpAny_newObj_type (Wp<|Wp ⟨_,rfl,Wp b⟩) d)
  |show Wb<|Wb (m:=Builtin.Tuple.tupleExact _) (wpAny_newObj_type (Wp ⟨_,rfl,Wp b⟩) d)
end
end HT
namespace L2
open PySem PySem.Spec PyProof.Rows
abbrev TO:=St->Hp->(Option Int->Hp->Prop)->Prop
def PO(X:Cx)(e:Option Expr)(t:TO):Prop :=
 ∀(pins:List<|zi×Obj)(s:xg)(σ:St)(H:Hp)(Q:Option Int->Hp->Prop),Inv X pins σ H s->t σ H Q ->
  wpAny (model X.prog X.w) X.A (evalPart e X.env) (λu s'=>∃o H',Inv X pins σ H' s'/\IsPart u o/\Q o H') X.xe s
def yd:TO:=λ_ H Q=>Q none H
def CJ(t:TE):TO:=λσ H Q=>t σ H λx H1=>∃i,x=.int i/\Q (some i) H1
theorem qO{ns:List Int}:∀{us:List xx},aA (ns.map V.int) us->IntsAre us ns:=by
 induction ns with
 |nil=>intro us r;rw[map_nil]at r;cases r;show .nil
 |cons n ns a =>
  intro us r;rw[Fi]at r;cases r with
  |cons b c =>
   let(t,e):=b;subst e;show .cons n t<|a c
section
variable{X:Cx}{e:Expr}{te:TE}{lo hi:Option Expr}{tl th:TO}{pos p2:Pos}
theorem iE:PO X none yd:=by
 intro pins s σ H Q I h;rw[evalPart_none];show Wp ⟨none,H,I,.none,h⟩
theorem cH(b:PE X e te):PO X (some e) (CJ te):=by
 intro pins s σ H Q I d;rw[evalPart_some];show thn (b pins s σ H _ I d) λu s1 c=>?_;let(x,H1,a,g,f):=c;let(i,rfl,q):=f;let(t,rfl):=g;show{some i,H1,a,.int i t,q}
def SlR(X:Cx)(r:V->Option Int->Option Int->Hp->VK->Prop):Prop :=
 ∀(pins:List<|zi×Obj)(s:xg)(σ:St)(H:Hp)(x:V)(v b c:xx)(lo hi:Option Int)(a:zi)(Q:VK),Inv X pins σ H s->aI x v->s.heap.IsSliceOf a b c .none->IsPart b lo->IsPart c hi->r x lo hi H Q ->
  ∃T id,typeLookup (.type T) "__getitem__"=pure (some<|.builtin id)/\s.TypeIs v T/\wpAny (model X.prog X.w) X.A (getItem v<|.ref a) (EP X pins σ Q) X.xe s
theorem SlR.or{r c:V->Option Int->Option Int->Hp->VK->Prop}(h:SlR X r)(h':SlR X c):SlR X (λx lo hi H Q=>r x lo hi H Q\/c x lo hi H Q):=by
 intro pins s σ H x v f g lo hi e Q I d a pl b q;rcases q with q|q
 .show h pins s σ H x v f g lo hi e Q I d a pl b q
 .show h' pins s σ H x v f g lo hi e Q I d a pl b q
def tSl(r:V->Option Int->Option Int->Hp->VK->Prop)(b:TE)(d c:TO):TE:=λσ H Q=>b σ H λx H1=>d σ H1 λl H2=>c σ H2 λu a=>r x l u a Q
theorem dq{r:V->Option Int->Option Int->Hp->VK->Prop}(y:SlR X r)(o:PE X e te)(t:PO X lo tl)(B:PO X hi th):PE X (.Subscript e (.Slice lo hi none p2) pos) (tSl r te tl th):=by
 intro pins s σ H Q I h;show Subscript_<|thn (o pins s σ H _ I h) λv s1 f=>?_;let(x,H1,i,G,D):=f;show wpAny_Slice<|thn (t pins s1 σ H1 _ i D) λc J ⟨l,H2,j,pl,E⟩=>thn (B pins J σ H2 _ j E) λd a f=>?_;let(u,g,k,C,F):=f;rw[evalPart_none];show Wp ?_;have m:Inv X pins σ g {a with heap:=a.heap.push {cls:=.type "slice",data:=.fields #[c,d,.none]}}:=k.kept (t':=a.toks) λb K q=>EU _ q
 let(T,id,n,z,p):=y pins {a with heap:=a.heap.push {cls:=.type "slice",data:=.fields #[c,d,.none]}} σ g x v c d l u a.heap.objs.size Q m G (Heap.IsSliceOf.new ..) pl C F
 change wpAny (model X.prog X.w) X.A (subscriptTail e (.Slice lo hi none p2) v<|.ref a.heap.objs.size) (EP X pins σ Q) X.xe {a with heap:=a.heap.push {cls:=.type "slice",data:=.fields #[c,d,.none]}}
 show tail_any (ops:=[.ref a.heap.objs.size,v]) z n p (by with_unfolding_all rfl)
def gf(xs:List V)(lo a:Option Int):List V:=(xs.drop<|HT.sIx xs.length 0 lo).take (HT.sIx xs.length xs.length a-HT.sIx xs.length 0 lo)
theorem oW(xs:List V)(lo a:Option Int):(gf xs lo a).length<=xs.length:=by
 unfold gf;rw[Fx,length_drop]
 lia
def vt(K:Frag):V->Option Int->Option Int->Hp->VK->Prop:=λx lo hi H Q=>∃a xs,x=.ref a/\SqT K H a xs /\
 ¬(HT.sIx xs.length 0 lo=0/\HT.sIx xs.length xs.length hi=xs.length)/\∀p,H p=none->Q (.ref p) (upd H p<|.tup (gf xs lo hi))
theorem gg:SlR X (vt X.K):=by
 intro pins s σ H x v p t lo hi n Q I l f pl k h;let(a,xs,rfl,i,g,q):=h;cases l;let(j,r,d,e):=I.tuple i;have c:j.toArray.size=xs.length:=by rw[FO];show r.length.symm
 show{"tuple",_,Fv.lookup,d.typeIs,?_};show HT.iD d f pl k (by rw[c];show g) ?_ (by rw[c];show e);rw[c];show{.ref s.heap.objs.size,_,I.laid (t':=s.toks) (o:=.tup<|gf xs lo hi) (λb m q=>EU _ q) (FH _) ?_,rfl,q _<|I.hok.fresh (FH _)};show{GS (oW xs lo hi) e,_,(r.drop<|HT.sIx xs.length 0 lo).take (HT.sIx xs.length xs.length hi-HT.sIx xs.length 0 lo),IsTup.new _ _}
def vw(K:Frag):R2:=λx y H Q=>∃a b xs ys,x=.ref a/\y=.ref b/\SqT K H a xs/\SqT K H b ys/\xs≠[]/\xs.length+ys.length<=sizeLine /\
 (ys=[]->Q (.ref a) H)/\(ys≠[]->∀p,H p=none->Q (.ref p) (upd H p<|.tup (xs++ys)))
theorem aA.nil_iff{xs:List V}{us:List xx}(r:aA xs us):us=[]↔xs=[]:=by
 cases r with
 |nil=>simp
 |cons _ _=>simp
theorem iF:OpR X (binaryOp .Add) (vw X.K):=by
 intro pins s σ H x y v u Q I m n h;let(a,b,xs,ys,rfl,rfl,f,g,i,e,k,l):=h;cases m;cases n;let(p,d,j,_):=I.tuple f;let(r,c,p2,_):=I.tuple g;show HT.yc j p2 (λz=>i<|d.nil_iff.mp z) (λz=>{.ref a,H,I,rfl,k<|c.nil_iff.mp z}) (λz=>?_) (by rw[<-d.length,<-c.length];show e);show{.ref s.heap.objs.size,_,I.laid (t':=s.toks) (o:=.tup<|xs++ys) (λb t q=>EU _ q) (FH _) ?_,rfl,l (λw=>z<|c.nil_iff.mpr w) _<|I.hok.fresh (FH _)};show{by rw[FI];show e,_,d.append c,IsTup.new _ _}
end
def ixN(n:Nat)(i:Int):Option Nat:=if 0<=i then (if i<n then some i.toNat else none)else if -(n:Int)<=i then some (i+n).toNat else none
def atI{α:Type}(xs:List α)(i:Int):Option α:=(ixN xs.length i).bind λj=>xs[j]?
theorem sm{n:Nat}{i:Int}{j:Nat}(a:ixN n i=some j):seqIndex? i n=some j/\j<n/\-(n:Int)<=i/\i<n:=by
 unfold ixN at a
 by_cases b:0<=i
 .rw[EW b]at a
  by_cases h1:i<n
  .rw[EW h1]at a;have e:i.toNat=j:=Option.some.inj a;show{by rw[seqIndex_of b h1,e],by lia,by lia,h1}
  .rw[EV h1]at a;cases a
 .rw[EV b]at a
  by_cases h1:-(n:Int)<=i
  .rw[EW h1]at a;have e:(i+n).toNat=j:=Option.some.inj a;show{by rw[seqIndex_neg (by lia) h1,e],by lia,h1,by lia}
  .rw[EV h1]at a;cases a
theorem so{b:Type}{xs:List b}{i:Int}{v:b}(a:atI xs i=some v):∃j,seqIndex? i xs.length=some j/\xs[j]?=some v/\j<xs.length/\-(xs.length:Int)<=i/\i<xs.length:=by
 unfold atI at a;cases e:ixN xs.length i with
 |none=>rw[e]at a;cases a
 |some j =>
  rw[e]at a;let(h1,h2,h3,c):=sm e;show⟨j,h1,a,h2,h3,c⟩
theorem jR{b:Type}{xs:List b}{j:Nat}{v:b}(a:xs[j]?=some v):atI xs (j:Int)=some v:=by
 have c:j<xs.length:=(FV.mp a).1;have e:ixN xs.length (j:Int)=some j:=by
  unfold ixN;rw[EW (by lia),EW (by lia)];simp
 unfold atI;rw[e];show a
def sr(b:Expr):Prop:=∀o i,subscripted b false o i=operate [o,i] (getItem o i)
def IxR(X:Cx)(r:R2):Prop :=
 ∀(value a:Expr)(pins:List<|zi×Obj)(s:xg)(σ:St)(H:Hp)(x y:V)(v u:xx)(Q:VK),Inv X pins σ H s->aI x v->aI y u->r x y H Q ->
  subscripted a false v u=operate [v,u] (getItem v u)->wpAny (model X.prog X.w) X.A (subscriptTail value a v u) (EP X pins σ Q) X.xe s
def MtR(X:Cx)(id:String)(r:V->List V->Hp->VK->Prop):Prop :=
 ∀(pins:List<|zi×Obj)(s:xg)(σ:St)(H:Hp)(x:V)(xs:List V)(v:xx)(a:List xx)(Q:VK),Inv X pins σ H s->aI x v->aA xs a->r x xs H Q ->
  wpAny (model X.prog X.w) X.A (call (.builtin id) (v::a)) (EP X pins σ Q) X.xe s
section
variable{X:Cx}{a b:Expr}{ta tb:TE}{pos:Pos}
theorem dW{r:R2}(f:IxR X r)(d:PE X a ta)(e:PE X b tb)(g:sr b):PE X (.Subscript a b pos) (tOp r ta tb):=by
 intro pins s σ H Q I h;show Subscript_<|Ao d e I h λv u k x y H2 c i j q=>f a b pins k σ H2 x y v u Q c i j q<|g _ _
def Eh(K:Frag):R2:=λx y H Q=>∃p xs i v,x=.ref p/\y=.int i/\SqL K H p xs/\atI xs i=some v/\Q v H
def vx(K:Frag):R2:=λx y H Q=>∃p xs i v,x=.ref p/\y=.int i/\SqT K H p xs/\atI xs i=some v/\Q v H
theorem cp:IxR X (Eh X.K):=by
 intro value E pins s σ H x y v u Q I A B h e;let(p,xs,i,z,rfl,rfl,m,k,q):=h;cases A;let(t,rfl):=B;let(n,r,pl,D):=I.list m;let(j,h1,h2,h3,f,g):=so k;let(w,b,o):=r.get h2;have l:=r.length;have C:=kg;have c:EP X pins σ Q w s:=⟨z,H,I,o,q⟩
 by_cases d:0<=i
 .have a:i.toNat=j:=by
   rw[seqIndex_of d g]at h1;show Option.some.inj h1
  show item_listR pl.isList d (by lia) (by rw[a];simpa using b) c e
 .have a:(i+(n.toArray.size:Int)).toNat=j:=by
   rw[seqIndex_neg (by lia) f]at h1;rw[FO,<-l];show Option.some.inj h1
  show subscriptTail_builtinR (x:=w) pl.isList.typeIs slot_list_getitem.lookup
   (wpAny_getItem_list_neg (Q:=λr s'=>r=w/\EP X pins σ Q r s') pl.isList (by lia) (by rw[FO]<;>lia) (by lia) (by rw[a];simpa using b) ⟨rfl,c⟩) e
theorem Av:IxR X (vx X.K):=by
 intro value C pins s σ H x y v u Q I k l h f;let(p,xs,i,z,rfl,rfl,e,c,q):=h;cases k;let(t,rfl):=l;let(B,r,pl,A):=I.tuple e;let(j,h1,h2,h3,m,n):=so c;let(w,a,g):=r.get h2;have d:=r.length;have o:=kg;have b:EP X pins σ Q w s:=⟨z,H,I,g,q⟩;show subscriptTail_builtinR (x:=w) pl.typeIs slot_tuple_getitem.lookup
  (getItem_tuple (j:=j) (Q:=λr s'=>r=w/\EP X pins σ Q r s') pl (by lia) (by lia) (by rw[FO,<-d];show h1) (by simpa using a) ⟨rfl,b⟩) f
def cI:V->Bool
 |.non=>true
 |.bl _=>true
 |.int _=>true
 |.str _=>true
 |_=>false
def eqV:V->V->Bool
 |.non,.non=>true
 |.bl a,.bl b=>a==b
 |.bl a,.int b=>(if a then 1 else 0)==b
 |.int a,.bl b=>a==(if b then 1 else 0)
 |.int a,.int b=>a==b
 |.str a,.str b=>a==b
 |_,_=>false
theorem nO{A:qd}{s:xg}{y x:V}{u v:xx}(f:aI y u)(c:aI x v)(g:cI y=true)(e:cI x=true):EqAt A s u v (eqV y x):=by
 cases y with
 |non =>
  cases f;cases x with
  |non=>cases c;show EqAt.same _
  |bl b=>cases c;show EqAt.none_bool b
  |int b=>let(t,rfl):=c;show EqAt.none_int b t
  |str b=>let(t,rfl):=c;show EqAt.none_str b t
  |_=>show absurd (show false=true from e) FL
 |bl a =>
  cases f;cases x with
  |non=>cases c;show EqAt.bool_none a
  |bl b=>cases c;show EqAt.bool_bool a b
  |int b=>let(t,rfl):=c;show EqAt.bool_int a b t
  |str b=>let(t,rfl):=c;show EqAt.bool_str a b t
  |_=>show absurd (show false=true from e) FL
 |int a =>
  let(d,rfl):=f;cases x with
  |non=>cases c;show EqAt.int_none a d
  |bl b=>cases c;show EqAt.int_bool a d b
  |int b=>let(t,rfl):=c;show EqAt.int_int a d b t
  |str b=>let(t,rfl):=c;show EqAt.int_str a d b t
  |_=>show absurd (show false=true from e) FL
 |str a =>
  let(d,rfl):=f;cases x with
  |non=>cases c;show EqAt.str_none a d
  |bl b=>cases c;show EqAt.str_bool a d b
  |int b=>let(t,rfl):=c;show EqAt.str_int a d b t
  |str b=>let(t,rfl):=c;show EqAt.str_str a d b t
  |_=>show absurd (show false=true from e) FL
 |_=>show absurd (show false=true from g) FL
def eqU(x:V)(u:xx):Bool:=match u with
 |.none=>eqV .non x
 |.bool b=>eqV (.bl b) x
 |.int i _=>eqV (.int i) x
 |.str z _=>eqV (.str z) x
 |_=>false
theorem vz{x y:V}{u:xx}(r:aI y u)(f:cI y=true):eqU x u=eqV y x:=by
 cases y with
 |non=>cases r;rfl
 |bl b=>cases r;rfl
 |int i=>let(t,rfl):=r;rfl
 |str z=>let(t,rfl):=r;rfl
 |_=>show absurd (show false=true from f) FL
theorem nP{x:V}:∀{xs:List V}{us:List xx},aA xs us->xs.all cI=true->us.any (eqU x)=xs.any λy=>eqV y x
 |_,_,.nil,_=>rfl
 |y::xs,u::us,.cons r t,f=>by
  rw[List.all_cons,GJ]at f;rw[any_cons,any_cons,vz r f.1,nP t f.2]
theorem kj{A:qd}{s:xg}{x:V}{v:xx}(c:aI x v)(b:cI x=true):∀{xs:List V}{us:List xx},aA xs us->xs.all cI=true->∀u∈us,EqAt A s u v (eqU x u)
 |_,_,.nil,_=>λu a=>by cases a
 |y::xs,u::us,.cons r t,f=>λd a=>by
  rw[List.all_cons,GJ]at f;rcases FU.mp a with rfl|a
  .rw[vz r f.1];show nO r c f.1 b
  .show kj c b t f.2 d a
def inV(x:V)(xs:List V):Bool:=xs.any λy=>eqV y x
def rIn(K:Frag)(neg:Bool):R2:=λx y H Q=>∃p xs,y=.ref p/\(SqL K H p xs\/SqT K H p xs)/\cI x=true/\xs.all cI=true/\Q (.bl (if neg then !inV x xs else inV x xs)) H
theorem tU:OpR X (compareOp .In) (rIn X.K false):=by
 intro pins s σ H x y v u Q I e g h;let(p,xs,rfl,a,d,fs,q):=h;cases g;rcases a with a|a
 .let(b,r,pl,f):=I.list a;show in_listAt (eqU x) pl.isList (λw c=>kj e d r fs w (by simpa using c)) {.bl _,H,I,rfl,?_};rw[show b.toArray.any (eqU x)=b.any (eqU x)by simp,nP r fs];show q
 .let(b,r,pl,f):=I.tuple a;show SeqAt.in_tupleAt (eqU x) pl (λw c=>kj e d r fs w (by simpa using c)) {.bl _,H,I,rfl,?_};rw[show b.toArray.any (eqU x)=b.any (eqU x)by simp,nP r fs];show q
theorem aM:ca X (.builtin "len") (λxs H Q=>∃p ys,xs=[.ref p]/\(SqL X.K H p ys\/SqT X.K H p ys)/\Q (.int ys.length) H):=by
 intro pins s σ H xs i Q I r h;let(p,ys,rfl,a,q):=h;let(u,rfl,f):=cA r;cases f;have g:=kg;rcases a with a|a
 .let(e,c,pl,d):=I.list a;have b:=c.length;show Calls.call_len_list pl.isList (by simp only[FO]<;>lia) {.int ys.length,H,I.tok _,{s.toks+1,by rw[FO,b]},q}
 .let(e,c,pl,d):=I.tuple a;have b:=c.length;show len_tuple pl (by simp only[FO]<;>lia) {.int ys.length,H,I.tok _,{s.toks+1,by rw[FO,b]},q}
theorem nQ:ca X (.builtin "len") (λxs H Q=>∃z,xs=[.str z]/\z.length<=sizeLine/\Q (.int z.length) H):=by
 intro pins s σ H xs c Q I r h;let(z,rfl,b,q):=h;let(u,rfl,t,rfl):=cA r;have a:=kg;show len_str (by lia) ⟨.int z.length,H,I.tok _,⟨_,rfl⟩,q⟩
theorem br:ca X (.type "tuple") (λxs H Q=>∃p ys,xs=[.ref p]/\((SqL X.K H p ys/\∀l,H l=none->Q (.ref l) (upd H l<|.tup ys))\/(SqT X.K H p ys/\Q (.ref p) H))):=by
 intro pins s σ H xs n Q I r h;let(p,ys,rfl,h):=h;let(u,rfl,k):=cA r;cases k;rcases h with⟨a,q⟩|⟨a,q⟩
 .let(c,d,pl,g):=I.list a;have m:=d.length;show call_tuple_list pl.isList (λh' j=>?_) (by simp only[FO]<;>lia);have f:Inv X pins σ H {s with heap:=h'}:=I.kept (t':=s.toks) j
  have i:Inv X pins σ (upd H h'.objs.size<|.tup ys) {s with heap:=h'.push {cls:=.type "tuple",data:=.seq c.toArray}} :=
   f.laid (t':=s.toks) (λb o e=>EU _ e) (FH _) (show bq X.prog X.w _ _ _ (.tup ys)from{g,c,d,IsTup.new _ _})
  show{.ref h'.objs.size,_,i,rfl,q _<|f.hok.fresh (FH _)}
 .let(c,d,pl,g):=I.tuple a;show call_tuple_same pl ⟨.ref p,H,I,rfl,q⟩
def tyV(K:Frag)(T:String)(x:V)(H:Hp):Prop:=match x with
 |.str _=>T="str"
 |.int _=>T="int"
 |.ref p=>(T="list"/\∃xs,SqL K H p xs)\/(T="tuple"/\∃o,K.lookup p=some o/\o.cls=.type "tuple"/\o.dict=none) \/
   (T="dict"/\((∃kvs,H p=some (.dK kvs))\/∃kvs,H p=some (.dT kvs)))\/(T="set"/\∃S n,H p=some (.set S n))
 |_=>False
theorem vA{m:List (zi×Obj)}{q:St}{h:Hp}{s:xg}{T:String}{x:V}{v:xx}(d:Inv X m q h s)(r:aI x v)(f:tyV X.K T x h):
  s.TypeIs v T/\∀a,v=.ref a->∃j,s.heap.get? a=some j/\j.dict=none:=by
 cases x with
 |str z =>
  let(t,rfl):=r;cases (show T="str" from f);show{typeIs_str s z t,λ_ e=>nomatch e}
 |int i =>
  let(t,rfl):=r;cases (show T="int" from f);show{typeIs_int s i t,λ_ e=>nomatch e}
 |ref p =>
  cases r;rcases f with⟨rfl,xs,l⟩|⟨rfl,o,b,k,g⟩|⟨rfl,b⟩|⟨rfl,S,n,b⟩
  .let(u,_,pl,_):=d.list l;show{pl.isList.typeIs,λa e=>?_};cases e;let(o,n,e,c,g,_):=pl;show⟨o,e,g⟩
  .show{⟨o,d.kIn p o b,k⟩,λa e=>?_};cases e;show{o,d.kIn _ o b,g}
  .have z:∃o,s.heap.get? p=some o/\o.ExactDict:=by
    rcases b with⟨kvs,b⟩|⟨kvs,b⟩
    .let(_,_,_,_,o,_,_,e,ex,_):=d.hok p _ b;show⟨o,e,ex⟩
    .let(_,_,_,_,o,_,_,e,ex,_):=d.hok p _ b;show⟨o,e,ex⟩
   let(o,e,ex):=z;show{⟨o,e,ex.1⟩,λa e2=>?_};cases e2;show⟨o,e,ex.2.1⟩
  .let(o,_,_,_,e,ex,_):=d.hok p _ b;show{⟨o,e,ex.1⟩,λa e2=>?_};cases e2;show⟨o,e,ex.2.1⟩
 |_=>show False.elim f
def Ei(K:Frag)(T:String)(r:V->List V->Hp->VK->Prop)(a:TE):TE:=λσ H Q=>a σ H λx H1=>tyV K T x H1/\r x [] H1 Q
def tBM(K:Frag)(T:String)(r:V->List V->Hp->VK->Prop)(a:TE)(t:TA):TE:=λσ H Q=>a σ H λx H1=>tyV K T x H1/\t σ H1 λxs H2=>r x xs H2 Q
variable{o e:Expr}{es:List Expr}{to:TE}{t:TA}{name:Str}{apos cpos:Pos}{T id:String}{r:V->List V->Hp->VK->Prop}
theorem Aw(j:PlainAttrs T)(l:Slot T name id)(i:typeOf (.builtin id)=pure (.type "method_descriptor"))(e:MtR X id r)(f:PE X o to)(c:attributeBase o name X.env (eval o X.env)=eval o X.env:=by rfl)(d:(apos.endLine==cpos.line)=true:=by rfl):PE X (.Call (.Attribute o name apos) [] [] cpos) (Ei X.K T r to):=by
 intro pins s σ H Q I h;show wpAny_Call_method0_late c d<|thn (f pins s σ H _ I h) λv s1 g=>?_;let(x,H1,a,b,ty,k):=g;let(h1,h2):=vA a b ty;show{T,id,j,l,i,h1,h2,callWith_builtin rfl<|PySem.evalArgs_none (e pins s1 σ H1 x [] v [] Q a b .nil k)}
theorem gX(u:PlainAttrs T)(B:Slot T name id)(q:typeOf (.builtin id)=pure (.type "method_descriptor"))(k:MtR X id r)(l:PE X o to)(f:PA X (e::es) t)(g:attributeBase o name X.env (eval o X.env)=eval o X.env:=by rfl)(i:((backTo cpos<|starEach (e::es) X.env).all (λx=>!x.1)&&(backToKw cpos<|keywordEach [] X.env).all (λx=>x.1.isSome)
   && decide ((e::es).length+([]:List Keyword).length+(if ([]:List Keyword).isEmpty then 0 else 1)<30))=true:=by rfl)(j:(apos.endLine==cpos.line)=true:=by rfl)(p:starEach (e::es) X.env=(false,eval e X.env)::starEach es X.env:=by rfl)(m:(backTo cpos<|starEach es X.env).any (·.1)=false:=by rfl):
  PE X (.Call (.Attribute o name apos) (e::es) [] cpos) (tBM X.K T r to t):=by
 intro pins s σ H Q I h;show wpAny_Call_method_late g i j rfl<|thn (l pins s σ H _ I h) λv s1 n=>?_;let(x,H1,a,c,ty,w):=n;let(h1,h2):=vA a c ty;show{T,id,u,B,q,h1,h2,?_};have b:=f cpos pins s1 σ H1 _ a w;rw[p]at b|-;show callWith_builtin (by change(false||(backTo cpos<|starEach es X.env).any (·.1))=false;rw[m]<;>rfl)<|evalArgs_plain ?_;show thn b λC A ⟨vs,H2,d,z,y⟩=>k pins A σ H2 x vs v C Q d c z y
end
def MtM(X:Cx)(id:String)(r:V->List V->Hp->VK->Prop):Prop :=
 ∀(pins:List<|zi×Obj)(s:xg)(σ:St)(H:Hp)(x:V)(xs:List V)(v:xx)(a:List xx)(Q:VK),Inv X pins σ H s->aI x v->aA xs a->r x xs H Q ->
  wpAny (model X.prog X.w) X.A (call (.builtin id) (v::a)) (EP X pins σ Q) X.xe s
theorem aA.one:∀{x:V}{us:List xx},aA [x] us->∃u,us=[u]/\aI x u
 |_,_,.cons r .nil=>⟨_,rfl,r⟩
theorem aA.two:∀{x y:V}{us:List xx},aA [x,y] us->∃u v,us=[u,v]/\aI x u/\aI y v
 |_,_,_,.cons r (.cons q .nil)=>⟨_,_,rfl,r,q⟩
theorem aA.zero:∀{us:List xx},aA [] us->us=[]
 |_,.nil=>rfl
theorem aA.dropLast{xs:List V}{us:List xx}(a:aA xs us):aA xs.dropLast us.dropLast:=by
 induction a with
 |nil=>show .nil
 |cons r t b =>
  cases t with
  |nil=>show .nil
  |cons q c=>show .cons r b
theorem aA.eraseIdx:∀{xs:List V}{us:List xx}(i:Nat),aA xs us->aA (xs.eraseIdx i) (us.eraseIdx i)
 |_,_,_,.nil=>.nil
 |_,_,0,.cons _ t=>t
 |_,_,i+1,.cons r t=>.cons r<|aA.eraseIdx i t
theorem aA.rep{xs:List V}{us:List xx}(h:aA xs us):∀k:Nat,aA (replicate k xs).flatten (replicate k us).flatten
 |0=>.nil
 |k+1=>by
  rw[replicate_succ,replicate_succ,flatten_cons,flatten_cons];show aA.append h<|aA.rep h k
theorem qP{d:Type}(l:List d):l.eraseIdx (l.length-1)=l.dropLast:=by
 induction l with
 |nil=>rfl
 |cons a r c =>
  cases r with
  |nil=>rfl
  |cons b r =>
   have e:(a::b::r).length-1=((b::r).length-1)+1:=by
    have h1:(a::b::r).length=r.length+2:=rfl;have h2:(b::r).length=r.length+1:=rfl
    lia
   rw[e,List.eraseIdx_cons_succ,c]
   all_goals rfl
theorem mr{a:Type}:∀(l:List a)(i:Nat),(l.eraseIdx i).length<=l.length
 |[],_=>FH _
 |_::_,0=>le_succ _
 |_::r,i+1=>Nat.succ_le_succ<|mr r i
theorem mv(b:List xx):∀(k:Nat)(a:List xx),
  foldl (λc d=>c++d) a.toArray (replicate k b.toArray)=(a++(replicate k b).flatten).toArray
 |0,a=>by simp
 |k+1,a=>by
  have e:a.toArray++b.toArray=(a++b).toArray:=by simp
  have e2:(a++b)++(replicate k b).flatten=a++(replicate (k+1) b).flatten:=by
   rw[replicate_succ,flatten_cons,append_assoc]
  rw[<-e2,<-mv b k (a++b),<-e,replicate_succ,foldl_cons]
section
variable{X:Cx}{pins:List (zi×Obj)}{σ:St}{H:Hp}{s:xg}{l b:zi}{xs ys zs:List V}
theorem Inv.lset{a its':List xx}{n:Nat}{f:Array xx->Array xx}{t':Nat}(b:Inv X pins σ H s)(c:H l=some (.lst xs))(e:s.heap.get? l=some {cls:=.type "list",data:=.seq a.toArray n})(g:f a.toArray=its'.toArray)(i:aA ys its')(j:ys.length<=sizeLine):
  Inv X pins σ (upd H l<|.lst ys) {s with heap:=s.heap.update l<|Obj.mapSeq f,toks:=t'}:=by
 have q:=PySem.IsL.update e f;rw[g]at q;show b.write (x:=l) (e:=l) (by rw[c];show trivial) (.inl rfl) (λk u d h=>(Heap.get?_update_other s.heap (Obj.mapSeq f)<|symm d).trans h) ⟨_,q⟩ ?_;show{j,its',_,i,q}
theorem Inv.lnew{a:List xx}{t':Nat}(b:Inv X pins σ H s)(c:aA ys a)(d:ys.length<=sizeLine):
  Inv X pins σ (upd H s.heap.objs.size<|.lst ys) {s with heap:=s.heap.push {cls:=.type "list",data:=.seq a.toArray},toks:=t'} :=
 b.laid (λ_ _ q=>EU _ q) (FH _) {d,a,0,c,FG _ rfl}
theorem Inv.fresh(I:Inv X pins σ H s):H s.heap.objs.size=none:=I.hok.fresh<|FH _
theorem Inv.lstM(b:Inv X pins σ H s)(c:H l=some (.lst xs)):xs.length<=sizeLine/\∃(a:List xx) (n:Nat),aA xs a/\xs.length=a.length/\s.heap.get? l=some {cls:=.type "list",data:=.seq a.toArray n}:=by
 let(z,a,n,r,e):=b.hok l _ c;show⟨z,a,n,r,r.length,e⟩
theorem vB{n:Nat}(h:n<=sizeLine):Builtin.List.listTooLong n=false:=by
 unfold Builtin.List.listTooLong;show FZ (by lia)
def ye:V->List V->Hp->VK->Prop:=λx vs H Q=>∃l xs y,x=.ref l/\vs=[y]/\H l=some (.lst xs)/\xs.length<sizeLine/\Q .non (upd H l<|.lst (xs++[y]))
theorem cX:MtM X "list.append" ye:=by
 intro pins s σ H x vs v j Q I f d h;let(l,xs,y,rfl,rfl,a,i,q):=h;cases f;let(u,rfl,c):=d.one;let(z,b,n,r,g,e):=I.lstM a;show call_meets F.slot_list_append ⟨_,e,rfl⟩ F.entry_list_append (F.args_list_append_2 _ _) (PySem.list_append l b.toArray n u (by rw[FO];lia)) {e,?_};show{.non,_,I.lset (its':=b++[u]) a e (by simp) (r.append<|.cons c .nil) ?_,rfl,q};rw[FI,GQ]
 lia
def Ej:V->List V->Hp->VK->Prop:=λx vs H Q=>∃l xs y,x=.ref l/\vs=[]/\H l=some (.lst xs)/\xs[xs.length-1]?=some y/\Q y (upd H l<|.lst xs.dropLast)
theorem Ax:MtM X "list.pop" Ej:=by
 intro pins s σ H x vs v o Q I m k h;let(l,xs,y,rfl,rfl,b,g,q):=h;cases m;have f:=k.zero;subst f;let(z,a,n,r,c,e):=I.lstM b;let(u,d,j):=r.get g;have i:a.toArray[a.toArray.size-1]?=some u:=by
  change a.toArray[a.length-1]?=some u;rw[<-Gd,<-c];show d
 show call_meets F.slot_list_pop ⟨_,e,rfl⟩ F.entry_list_pop (F.args_list_pop_1 _) (MeetsSeq.list_pop_last l a.toArray n u i (by rw[FO];lia)) {e,?_};show{y,_,I.lset (its':=a.dropLast) b e ?_ r.dropLast ?_,j,q}
 .change a.toArray.eraseIdxIfInBounds (a.toArray.size-1)=a.dropLast.toArray;rw[FO,List.eraseIdxIfInBounds_toArray,qP]
 .rw[List.length_dropLast]
  lia
def Ay:V->List V->Hp->VK->Prop:=λx vs H Q=>∃l xs i k y,x=.ref l/\vs=[.int i]/\H l=some (.lst xs)/\-(2 ^ 63)<=i/\i<2 ^ 63/\seqIndex? i xs.length=some k/\xs[k]?=some y/\Q y (upd H l<|.lst (xs.eraseIdx k))
theorem vC:MtM X "list.pop" Ay:=by
 intro pins s σ H x vs v A Q I p m h;let(l,xs,i,k,y,rfl,rfl,b,h1,h2,c,g,q):=h;cases p;let(u,rfl,j):=m.one;let(t,rfl):=j;let(z,a,n,r,d,e):=I.lstM b;let(w,f,o):=r.get g;show call_meets F.slot_list_pop ⟨_,e,rfl⟩ F.entry_list_pop (F.args_list_pop_2 _ _)
  (MeetsSeq.list_pop_at l a.toArray n i t k w (fitsIndex_both h1 h2) (by rw[FO,<-d];show c) (by rw[<-Gd];show f) (by rw[FO];lia)) {e,?_}
 show{y,_,I.lset (its':=a.eraseIdx k) b e ?_ (r.eraseIdx k) ?_,o,q}
 .change a.toArray.eraseIdxIfInBounds k=(a.eraseIdx k).toArray;rw[List.eraseIdxIfInBounds_toArray]
 .have:=mr xs k
  lia
def yf:R2:=λx y H Q=>∃l b xs zs,x=.ref l/\y=.ref b/\H l=some (.lst xs)/\H b=some (.lst zs)/\xs.length+zs.length<=sizeLine/\∀p,H p=none->Q (.ref p) (upd H p<|.lst (xs++zs))
theorem du:OpR X (binaryOp .Add) yf:=by
 intro pins s σ H x y v u Q I i j h;let(l,b,xs,zs,rfl,rfl,f,d,o,q):=h;cases i;cases j;let(z,a,n,r,k,e):=I.lstM f;let(t,c,p,g,m,e2):=I.lstM d;show PySem.P.add_list e e2 ?_ (by rw[FO,FO];lia);have ea:a.toArray++c.toArray=(a++c).toArray:=by simp
 rw[ea];show{.ref _,_,I.lnew (t':=s.toks) (r.append g) (by rw[FI];lia),rfl,q _ I.fresh}
def Ek:R2:=λx y H Q=>∃l k xs,x=.ref l/\y=.int k/\H l=some (.lst xs)/\-(2 ^ 63)<=k/\k<2 ^ 63/\xs.length*k.toNat<=sizeLine /\
 ∀p,H p=none->Q (.ref p) (upd H p<|.lst (replicate k.toNat xs).flatten)
theorem yg{b:Type}(xs:List b)(k:Nat):(replicate k xs).flatten.length=k*xs.length:=by
 induction k with
 |zero=>simp
 |succ k a=>rw[replicate_succ,flatten_cons,FI,a,Nat.succ_mul,Nat.add_comm]
theorem Az:OpR X (binaryOp .Mult) Ek:=by
 intro pins s σ H x y v u Q I C D h;let(l,k,xs,rfl,rfl,i,h1,h2,f,q):=h;cases C;let(t,rfl):=D;let(z,b,n,r,p,e):=I.lstM i;have w:b.toArray.size*k.toNat<=sizeLine:=by rw[FO,<-p];show f
 have j:¬b.toArray.size*k.toNat>(2 ^ 63-1) / 8:=by
  have:(sizeLine:Nat)<=(2 ^ 63-1) / 8:=by decide
  lia
 have o:¬(!Builtin.List.listFitsIndex k)=true:=by
  rw[fitsIndex_both h1 h2];show FL
 have A:¬Builtin.List.listTooLong (b.toArray.size*k.toNat)=true:=by
  rw[vB w];show FL
 have B:foldl (λc d=>c++d) #[] (replicate (if b.toArray.isEmpty=true then 0 else k.toNat) b.toArray)=(replicate k.toNat b).flatten.toArray:=by
  have g:∀m:Nat,foldl (λc d=>c++d) #[] (replicate m b.toArray)=(replicate m b).flatten.toArray:=λm=>by
   have:=mv b m [];rw[List.nil_append]at this;show this
  rw[g];cases b with
  |nil=>simp
  |cons a E=>rw[EV (by simp)]
 show wpAny_binaryOp_repeat_ref (T:="list") (U:="int") (by decide) ⟨_,e,rfl⟩ (λs'=>typeIs_int s' k t) noFill_list_mul F.fills_int_mul F.slot_int_rmul repeat_list F.slot_int_index.lookup
  (call_meets F.slot_int_rmul (typeIs_int s k t) F.entry_int_rmul (F.args_int_rmul_2 _ _) (int___rmul___int_list k t l b.toArray n)
   {e,rfl,⟨_,e,rfl⟩,call_meets F.slot_list_mul ⟨_,e,rfl⟩ F.entry_list_mul (F.args_list_mul_2 _ _) (AutoListH.list___mul___list_int_3 l b.toArray n k t o j A) {e,?_}})
 rw[B];show{.ref _,_,I.lnew (t':=s.toks) (r.rep k.toNat) (by rw[yg,Nat.mul_comm];show f),rfl,q _ I.fresh}
end
section
variable{κ:Type}[DecidableEq κ]
def aX(b:List<|κ×V)(k:κ):Option V:=(b.find? λa=>decide<|a.1=k).map (·.2)
def bJ(b:List<|κ×V)(k:κ)(v:V):List (κ×V) :=
 if (b.any λa=>decide<|a.1=k)=true then b.map (λa=>if a.1=k then (a.1,v)else a)else b++[(k,v)]
def dA(b:List<|κ×V)(k:κ):List (κ×V):=b.filter λa=>decide<|a.1≠k
theorem bh{p:κ×V}{r:List (κ×V)}{k:κ}(e:p.1=k):aX (p::r) k=some p.2:=by simp[aX,find?_cons,e]
theorem aY{p:κ×V}{r:List (κ×V)}{k:κ}(e:¬p.1=k):aX (p::r) k=aX r k:=by simp[aX,find?_cons,e]
theorem dt(k:κ):∀kvs:List<|κ×V,(kvs.any λa=>decide<|a.1=k)=(aX kvs k).isSome
 |[]=>rfl
 |p::r=>by
  rw[any_cons]
  by_cases e:p.1=k
  .simp only[bh e,Fe e,Bool.true_or,Option.isSome_some]
  .rw[aY e,FZ e,Bool.false_or];show dt k r
theorem oX(k j:κ)(y:V):∀kvs:List<|κ×V,aX (kvs.map λa=>if a.1=k then (a.1,y)else a) j=(aX kvs j).map λx=>if j=k then y else x
 |[]=>rfl
 |p::r=>by
  have b:=oX k j y r;rw[Fi]
  by_cases h:p.1=k
  .rw[EW h]
   by_cases e:p.1=j
   .rw[bh (p:=(p.1,y)) e,bh e,map_some,EW<|e.symm.trans h]
   .rw[aY (p:=(p.1,y)) e,aY e,b]
  .rw[EV h]
   by_cases e:p.1=j
   .rw[bh (p:=p) e,bh e,map_some,EV λz=>h<|e.trans z]
   .rw[aY (p:=p) e,aY e,b]
theorem mw(k j:κ)(y:V):∀kvs:List<|κ×V,aX kvs k=none->aX (kvs++[(k,y)]) j=if j=k then some y else aX kvs j
 |[],_=>by
  by_cases e:k=j
  .rw[EW e.symm];show bh (p:=(k,y)) e
  .rw[EV λz=>e z.symm];show aY (p:=(k,y)) e
 |p::r,hn=>by
  rw[List.cons_append];have a:¬p.1=k:=λz=>by rw[bh z]at hn;cases hn
  rw[aY a]at hn;have b:=mw k j y r hn
  by_cases e:p.1=j
  .rw[bh e,bh e,EV λz=>a<|e.trans z]
  .rw[aY e,aY e,b]
theorem kl(b:List<|κ×V)(k j:κ)(y:V):aX (bJ b k y) j=if j=k then some y else aX b j:=by
 unfold bJ
 by_cases a:(b.any λd=>decide<|d.1=k)=true
 .rw[EW a,oX];rw[dt]at a
  by_cases e:j=k
  .let(x,c):=Option.isSome_iff_exists.mp a;rw[EW e,e,c,map_some,EW rfl]
  .rw[EV e];cases aX b j with
   |none=>rfl
   |some x=>rw[map_some,EV e]
 .rw[EV a];show mw k j y b ?_;rw[dt]at a;cases q:aX b k with
  |none=>rfl
  |some x=>rw[q]at a;show(a rfl).elim
theorem dX(a:List<|κ×V)(k:κ)(v:V):(bJ a k v).length<=a.length+1:=by
 unfold bJ
 split
 .rw[ES];lia
 .rw[FI,Fs,length_nil];lia
theorem vD{a:List (κ×V)}{k:κ}(v:V)(b:aX a k=none):bJ a k v=a++[(k,v)]:=by
 unfold bJ;rw[dt,b];show EV (by decide)
theorem eF.isSome_eq{o:Option V}{u:Option xx}(r:eF o u):o.isSome=u.isSome:=by
 cases o with
 |none=>cases u with
  |none=>rfl
  |some _=>show(show False from r).elim
 |some _=>cases u with
  |none=>show(show False from r).elim
  |some _=>rfl
theorem eF.getD{o:Option V}{u:Option xx}{d:V}{d':xx}(r:eF o u)(a:aI d d'):aI (o.getD d) (u.getD d'):=by
 cases o with
 |none=>cases u with
  |none=>show a
  |some _=>show(show False from r).elim
 |some _=>cases u with
  |none=>show(show False from r).elim
  |some _=>show r
theorem KV.val{c:List (κ×V)}{vs:List (κ×xx)}(r:KV c vs)(k:κ):eF (aX c k) (valueAt vs k):=by
 unfold KV at r
 induction r with
 |nil=>show True.intro
 |@cons p q ps qs h t ih =>
  let(h1,h2):=h
  by_cases e:p.1=k
  .have a:q.1=k:=h1.symm.trans e;have b:valueAt (q::qs) k=some q.2:=by simp[valueAt,find?_cons,a]
   rw[bh e,b];show h2
  .have a:¬q.1=k:=λz=>e<|h1.trans z;have b:valueAt (q::qs) k=valueAt qs k:=by simp[valueAt,find?_cons,a]
   rw[aY e,b];show ih
theorem KV.any{b:List (κ×V)}{vs:List (κ×xx)}(r:KV b vs)(k:κ):(b.any λa=>decide<|a.1=k)=vs.any λa=>decide (a.1=k):=by
 unfold KV at r
 induction r with
 |nil=>rfl
 |cons h t c=>rw[any_cons,any_cons,c,h.1]
theorem KV.repl{b:List (κ×V)}{vs:List (κ×xx)}(r:KV b vs)(k:κ){y:V}{u:xx}(c:aI y u):
  KV (b.map λa=>if a.1=k then (a.1,y)else a) (vs.map λa=>if a.1=k then (a.1,u)else a):=by
 unfold KV at r|-
 induction r with
 |nil=>show .nil
 |@cons p q ps qs h t ih =>
  rw[Fi,Fi];show .cons ?_ ih;let(h1,h2):=h
  by_cases e:p.1=k
  .rw[EW e,EW<|h1.symm.trans e];show⟨h1,c⟩
  .rw[EV e,EV λz=>e<|h1.trans z];show⟨h1,h2⟩
theorem KV.put{a:List (κ×V)}{vs:List (κ×xx)}(r:KV a vs)(k:κ){y:V}{u:xx}(b:aI y u):KV (bJ a k y) (stored vs k u):=by
 unfold bJ stored;rw[r.any k]
 by_cases e:(vs.any λc=>decide<|c.1=k)=true
 .rw[EW e,EW e];show r.repl k b
 .rw[EV e,EV e];show Paired.snoc r ⟨rfl,b⟩
theorem KV.drop{c:List (κ×V)}{vs:List (κ×xx)}(r:KV c vs)(k:κ):KV (dA c k) (without vs k):=by
 unfold KV at r|-;unfold dA without
 induction r with
 |nil=>show .nil
 |@cons p q ps qs h t ih =>
  let(h1,h2):=h;rw[filter_cons,filter_cons]
  by_cases e:p.1=k
  .have a:¬decide (p.1≠k)=true:=by simp[e]
   have b:¬decide (q.1≠k)=true:=by simp[h1.symm.trans e]
   rw[EV a,EV b];show ih
  .have d:¬q.1=k:=λz=>e<|h1.trans z;have a:decide (p.1≠k)=true:=by simp[e]
   have b:decide (q.1≠k)=true:=by simp[d]
   rw[EW a,EW b];show .cons ⟨h1,h2⟩ ih
theorem KV.length{a:List (κ×V)}{vs:List (κ×xx)}(r:KV a vs):a.length=vs.length:=Paired.length r
theorem oY(a:List<|κ×V)(k:κ):(dA a k).length<=a.length:=length_filter_le _ _
end
theorem gh{P:qw}{w:qn}{k:Key}{u:xx}(r:aI (kV k) u):(aF P w).is k u=true:=by
 cases k with
 |inl i=>let(t,e):=(show ∃t,u=Value.int i t from r);subst e;show oO P w i t
 |inr x=>let(t,e):=(show ∃t,u=Value.str x t from r);subst e;show oP P w x t
theorem AA{a b:Key}(e:kV a=kV b):a=b:=by
 cases a with
 |inl i=>cases b with
  |inl j=>have c:V.int i=V.int j:=e;injection c with c;rw[c]
  |inr y=>show nomatch (show V.int i=V.str y from e)
 |inr x=>cases b with
  |inl j=>show nomatch (show V.str x=V.int j from e)
  |inr y=>have c:V.str x=V.str y:=e;injection c with c;rw[c]
theorem nR:∀{a b:List Key},a.map kV=b.map kV->a=b
 |[],[],_=>rfl
 |[],_::_,e=>by simp at e
 |_::_,[],e=>by simp at e
 |x::xs,y::ys,e=>by
  rw[Fi,Fi]at e;injection e with e1 e2
  rw[AA e1,nR e2]
theorem jh{P:qw}{w:qn}:∀{ks:List Key}{us:List xx},aA (ks.map kV) us->ItemsAre (aF P w) ks us
 |[],_,r=>by rw[map_nil]at r;cases r;show .nil
 |k::ks,_,r=>by
  rw[Fi]at r;cases r with
  |cons h t=>show .cons (gh h)<|jh t
abbrev KT(H:Hp):List (List Key×V)->List (List Key×zi×xx)->Prop:=Paired λp q=>p.1=q.1/\H q.2.1=some (.tup<|p.1.map kV)/\aI p.2 q.2.2
theorem KT.val{d:Hp}{c:List (List Key×V)}{xs:List (List Key×zi×xx)}(r:KT d c xs)(k:List Key):eF (aX c k) ((atKey xs k).map (·.2)):=by
 induction r with
 |nil=>show True.intro
 |@cons p q ps qs h t ih =>
  let(h1,_,h2):=h
  by_cases e:p.1=k
  .have a:q.1=k:=h1.symm.trans e;have b:atKey (q::qs) k=some q.2:=by simp[atKey,find?_cons,a]
   rw[bh e,b];show h2
  .have a:¬q.1=k:=λz=>e<|h1.trans z;have b:atKey (q::qs) k=atKey qs k:=by simp[atKey,find?_cons,a]
   rw[aY e,b];show ih
theorem KT.repl{b:Hp}{c:List (List Key×V)}{xs:List (List Key×zi×xx)}(r:KT b c xs)(k:List Key){y:V}{u:xx}(d:aI y u):
  KT b (c.map λa=>if a.1=k then (a.1,y)else a) (xs.map<|putAt k u):=by
 induction r with
 |nil=>show .nil
 |@cons p q ps qs h t ih =>
  rw[Fi,Fi];show .cons ?_ ih;let(h1,h2,h3):=h;unfold putAt
  by_cases e:p.1=k
  .rw[EW e,EW<|h1.symm.trans e];show⟨h1,h2,d⟩
  .rw[EV e,EV λz=>e<|h1.trans z];show⟨h1,h2,h3⟩
theorem KT.put{a:Hp}{c:List (List Key×V)}{xs:List (List Key×zi×xx)}(r:KT a c xs)(k:List Key){b:zi}{y:V}{u:xx}(f:a b=some (.tup<|k.map kV))(d:aI y u):
  KT a (bJ c k y) (storedH xs k b u):=by
 have e:(c.any λg=>decide<|g.1=k)=(atKey xs k).isSome:=by
  rw[dt,(r.val k).isSome_eq,isSome_map]
 unfold bJ storedH;rw[e]
 by_cases q:(atKey xs k).isSome=true
 .rw[EW q,EW q];show r.repl k d
 .rw[EV q,EV q];show Paired.snoc r ⟨rfl,f,d⟩
theorem KT.keeps{a H':Hp}{c:List (List Key×V)}{xs:List (List Key×zi×xx)}(r:KT a c xs)(d:∀b ys,a b=some (.tup ys)->H' b=some (.tup ys)):KT H' c xs :=
 Paired.mapP r λ_ _ z=>⟨z.1,d _ _ z.2.1,z.2.2⟩
section
variable{P:qw}{w:qn}{H:Hp}{h:qb}{a:zi}
theorem zS{u:HO}(b:HOk P w H h)(e:Rd H a u):bq P w H h a u:=e.ok b
theorem km{b:List (Key×V)}(c:HOk P w H h)(e:Rd H a<|.dK b):b.length<=sizeLine/\(a==sysModules)=false/\∃vs,KV b vs/\h.DictOf (aF P w) a vs :=
 show bq P w H h a (.dK b)from zS c e
theorem su{b:List (Key×V)}(c:HOk P w H h)(e:H a=some (.dK b)):b.length<=sizeLine/\(a==sysModules)=false/\∃vs,KV b vs/\h.DictOf (aF P w) a vs:=km c<|.inl e
theorem ji{ks:List Key}(c:HOk P w H h)(e:H a=some (.tup<|ks.map kV)):(tupleKind<|aF P w).is h ks a:=by
 let(_,b,r,o,h1,h2,n,h3):=(show bq P w H h a (.tup<|ks.map kV)from c a _ e);show{o,b.toArray,n,h1,h2,h3,by simpa using jh r}
theorem kn{c:List (List Key×V)}(d:HOk P w H h)(e:Rd H a<|.dT c):c.length<=sizeLine/\(a==sysModules)=false /\
  ∃xs,KT H c xs/\h.DictOfH (tupleKind<|aF P w) a xs:=by
 let(z,y,xs,r,o,es,f,h1,h2,h3,g,i):=(show bq P w H h a (.dT c)from zS d e);show{z,y,xs,r,o,es,f,h1,h2,h3,g,λx b=>?_,i};have all:∀{l:List (List Key×V)}{m:List (List Key×zi×xx)},KT H l m->∀x∈m,(tupleKind<|aF P w).is h x.1 x.2.1:=by
  intro l m q
  induction q with
  |nil=>intro x b;show nomatch b
  |@cons p q ps qs hq t ih =>
   intro x b;rcases FU.mp b with e|b
   .subst e;show ji d (by rw[<-hq.1];show hq.2.1)
   .show ih x b
 show all r x b
theorem CQ{b:List (List Key×V)}(c:HOk P w H h)(e:H a=some (.dT b)):b.length<=sizeLine/\(a==sysModules)=false /\
  ∃xs,KT H b xs/\h.DictOfH (tupleKind<|aF P w) a xs:=kn c<|.inl e
end
def cY(H:Hp)(a:zi)(y:V)(r:Option V):Prop :=
 (∃kvs k,Rd H a (.dK kvs)/\y=kV k/\r=aX kvs k)\/∃kvs k b,Rd H a (.dT kvs)/\y=.ref b/\H b=some (.tup<|k.map kV)/\r=aX kvs k
def lT(H:Hp)(a:zi)(y v:V)(H':Hp):Prop :=
 (∃kvs k,H a=some (.dK kvs)/\y=kV k/\kvs.length<sizeLine/\H'=upd H a (.dK<|bJ kvs k v)) \/
 ∃kvs k b,H a=some (.dT kvs)/\y=.ref b/\H b=some (.tup<|k.map kV)/\kvs.length<sizeLine/\H'=upd H a (.dT<|bJ kvs k v)
theorem cY.k{c:Hp}{a:zi}{b:List (Key×V)}{k:Key}(e:c a=some (.dK b)):cY c a (kV k) (aX b k):=.inl ⟨b,k,.inl e,rfl,rfl⟩
theorem lT.k{c:Hp}{a:zi}{b:List (Key×V)}{k:Key}{v:V}(e:c a=some (.dK b))(d:b.length<sizeLine):lT c a (kV k) v (upd c a<|.dK (bJ b k v)):=.inl ⟨b,k,e,rfl,d,rfl⟩
section
variable{X:Cx}{pins:List (zi×Obj)}{σ:St}{H:Hp}{s:xg}{a:zi}{y v:V}{u r:xx}{o:Option V}{A:qd}{E:xx->xg->Prop}
theorem Inv.big(I:Inv X pins σ H s):sysModules<s.heap.objs.size:=by
 have h:mainGlobals<s.heap.objs.size:=(I.mod.glob.keeps I.bk).lt;show lt_trans (by decide) h
theorem tV{Q:xx->xg->Prop}(B:A.units+1<cLine)(d:Inv X pins σ H s)(g:cY H a y<|some v)(n:aI y u)(m:∀c s',Inv X pins σ H s'->aI v c->Q c s'):
  wpAny (model X.prog X.w) A (getItem (.ref a) u) Q E s:=by
 rcases g with⟨kvs,k,e,f,l⟩|⟨kvs,k,b,e,f,q,l⟩
 .subst f;let(z,r,vs,i,dd):=km d.hok e;let(c,h,j):=eF.some_of (v:=v) (o:=valueAt vs k) (by rw[l];show i.val k);show wpAny_getItem_of (gh n) dd.mapOf h<|m c _ (d.tok _) j
 .subst f;cases (show u=Value.ref b from n);let(z,r,xs,i,dd):=kn d.hok e;let(c,h,j):=eF.some_of (v:=v) (o:=(atKey xs k).map (·.2)) (by rw[l];show i.val k);let(p,t,x):=Option.map_eq_some_iff.mp h;show wpAny_getItem_heap (tupleKind_room_in1 B) (ji d.hok q) dd t ?_;rw[x];show m c _ (d.tok _) j
theorem El{Q:xx->xg->Prop}(n:A.units+1<cLine)(c:Inv X pins σ H s)(g:cY H a y o)(j:aI y u)(i:∀s',Inv X pins σ H s'->Q (.bool o.isSome) s'):
  wpAny (model X.prog X.w) A (compareOp .In u<|.ref a) Q E s:=by
 rcases g with⟨kvs,k,e,d,l⟩|⟨kvs,k,b,e,d,m,l⟩
 .subst d;let(z,f,vs,h,dd):=km c.hok e;show wpAny_in_of (gh j) f dd.mapOf ?_;rw[<-(h.val k).isSome_eq,<-l];show i _<|c.tok _
 .subst d;cases (show u=Value.ref b from j);let(z,f,xs,h,dd):=kn c.hok e;show wpAny_in_heap (tupleKind_room_in1 n) (ji c.hok m) f dd ?_;have q:=(h.val k).isSome_eq;rw[isSome_map]at q;rw[<-q,<-l];show i _<|c.tok _
theorem yh{Q:xx->xg->Prop}(n:A.units+1<cLine)(c:Inv X pins σ H s)(g:cY H a y o)(j:aI y u)(i:∀s',Inv X pins σ H s'->Q (.bool<|!o.isSome) s'):
  wpAny (model X.prog X.w) A (compareOp .NotIn u<|.ref a) Q E s:=by
 rcases g with⟨kvs,k,e,d,l⟩|⟨kvs,k,b,e,d,m,l⟩
 .subst d;let(z,f,vs,h,dd):=km c.hok e;show wpAny_notIn_of (gh j) f dd.mapOf ?_;rw[<-(h.val k).isSome_eq,<-l];show i _<|c.tok _
 .subst d;cases (show u=Value.ref b from j);let(z,f,xs,h,dd):=kn c.hok e;show wpAny_notIn_heap (tupleKind_room_in1 n) (ji c.hok m) f dd ?_;have q:=(h.val k).isSome_eq;rw[isSome_map]at q;rw[<-q,<-l];show i _<|c.tok _
theorem jS{h':qb}{t':Nat}{c:HO}(d:Inv X pins σ H s)(i:Mut<|H a)(h:SameBut a s.heap h')(g:∃q,h'.get? a=some q)(new:bq X.prog X.w (upd H a c) h' a c):
  Inv X pins σ (upd H a c) {s with heap:=h',toks:=t'} :=
 d.write (x:=a) (e:=a) i (.inl rfl) (λb q f z=>(h.2 b f).trans z) g new
theorem jj{P:qw}{w:qn}{H':Hp}{h':qb}{b:List (Key×V)}{vs:List (Key×xx)}(z:b.length<=sizeLine)(hd:(a==sysModules)=false)(c:KV b vs)(dd:h'.DictOf (aF P w) a vs):
  bq P w H' h' a (.dK b):=⟨z,hd,vs,c,dd⟩
theorem tW{H':Hp}{Q:Unit->xg->Prop}(L:A.units+1<cLine)(d:Inv X pins σ H s)(g:lT H a y v H')(F:aI y u)(D:aI v r)(C:∀s',Inv X pins σ H' s'->Q () s'):
  wpAny (model X.prog X.w) A (setItem (.ref a) u r) Q E s:=by
 rcases g with⟨kvs,k,e,m,l,j⟩|⟨kvs,k,b,e,m,x,l,j⟩
 .subst m j;let(z,n,vs,f,dd):=su d.hok e;have t:vs.length<=sizeLine:=by rw[<-f.length];show z
  have o:(bJ kvs k v).length<=sizeLine:=by have:=dX kvs k v;lia
  show wpAny_setItem_pairs (hsz:=t) (gh F) dd λh' h p=>C _ ?_;have K:∃q,h'.get? a=some q:=let⟨q,_,_,i,_⟩:=h;⟨q,i⟩;show jS d (by rw[e];show True.intro) p K<|jj o n (f.put k D) h
 .subst m j;cases (show u=Value.ref b from F);let(z,n,xs,f,dd):=CQ d.hok e;have t:xs.length<=sizeLine:=by rw[<-Paired.length f];show z
  have o:(bJ kvs k v).length<=sizeLine:=by have:=dX kvs k v;lia
  show wpAny_setItem_heap (hsz:=t) (tupleKind_room_in1 L) (ji d.hok x) dd λh' h p=>C _ ?_;let(q,es,G,i,h2,h3,I,_,J):=h;show jS d (by rw[e];show True.intro) p ⟨q,i⟩ {o,n,_,(f.put k x D).keeps λc ys B=>?_,q,es,G,i,h2,h3,I,J};rw[aj<|uS B e (λz=>nomatch z)];show B
end
section
variable{X:Cx}{pins:List (zi×Obj)}{σ:St}{H:Hp}{s:xg}{a:zi}{kvs:List (Key×V)}{k:Key}{u:xx}{A:qd}{E:xx->xg->Prop}
theorem CY{v:V}{more:List xx}{Q:xx->xg->Prop}(f:Inv X pins σ H s)(e:H a=some (.dK kvs))(d:aI (kV k) u)(l:aX kvs k=some v)(h:more=[]\/∃x,more=[x])(j:∀b s',Inv X pins σ (upd H a<|.dK (dA kvs k)) s'->aI v b->Q b s'):wpAny (model X.prog X.w) A (call (.builtin "dict.pop") (.ref a::u::more)) Q E s:=by
 let(z,n,vs,c,dd):=su f.hok e;let(b,C,D):=eF.some_of (v:=v) (o:=valueAt vs k) (by rw[<-l];show c.val k);have r:(keyPart u).isSome=true:=by
  cases k with
  |inl i=>let(t,q):=(show ∃t,u=Value.int i t from d);subst q;rfl
  |inr x=>let(t,q):=(show ∃t,u=Value.str x t from d);subst q;rfl
 have m:argsOk "dict.pop" {.ref a::u::more,[]}:=by
  rcases h with q|⟨x,q⟩
  .subst q;show PySem.F.args_dict_pop_2 _ _
  .subst q;show PySem.F.args_dict_pop_3 _ _ _
 show call_meetsIn slot_dict_pop dd.typeIs PySem.F.entry_dict_pop m (meets_dict_pop_there (aF X.prog X.w) a (gh d) more h r)
  {vs,b,dd,by rw[<-c.length];show z,C,λh' g B=>j b _ ?_ D}
 have p:∃q,h'.get? a=some q:=let⟨q,_,_,y,_⟩:=g;⟨q,y⟩;show jS f (by rw[e];show True.intro) B p<|jj (GS (oY kvs k) z) n (c.drop k) g
theorem AB{r:xx}{Q:xx->xg->Prop}(c:Inv X pins σ H s)(e:H a=some (.dK kvs))(b:aI (kV k) u)(l:aX kvs k=none)(d:∀s',Inv X pins σ H s'->Q r s'):
  wpAny (model X.prog X.w) A (call (.builtin "dict.pop") [.ref a,u,r]) Q E s:=by
 let(z,f,vs,j,dd):=su c.hok e;have g:valueAt vs k=none:=eF.none_of (by rw[<-l];show j.val k);have h:(keyPart u).isSome=true:=by
  cases k with
  |inl i=>let(t,q):=(show ∃t,u=Value.int i t from b);subst q;rfl
  |inr x=>let(t,q):=(show ∃t,u=Value.str x t from b);subst q;rfl
 show call_meetsIn slot_dict_pop dd.typeIs PySem.F.entry_dict_pop (PySem.F.args_dict_pop_3 _ _ _) (meets_dict_pop_default (aF X.prog X.w) a (gh b) f h r) {vs,dd,g,d _<|c.tok _}
end
def CZ(i:Expr):Prop:=∀b a,subscripted i false b a=operate [b,a] (getItem b a)
theorem yi{prog:qw}{w:qn}{A:qd}{E:xx->xg->Prop}{s:xg}{env:Env}{d a:Expr}{pos:Pos}{T id:String}{Q:xx->xg->Prop}(j:typeLookup (.type T) "__getitem__"=pure (some<|.builtin id))(k:CZ a)(h:wpAny (model prog w) A (eval d env) (λo f=>wpAny (model prog w) A (eval a env) (λi s₂=>s₂.TypeIs o T/\wpAny (model prog w) A (getItem o i) Q E s₂) E f) E s):
  wpAny (model prog w) A (eval (.Subscript d a pos) env) Q E s:=by
 show Subscript_<|wpAny_mono h (λo f l=>wpAny_mono l (λi s₂ c=>?_) λ_ _ x=>x) λ_ _ x=>x;let(e,c):=c;unfold subscriptTail;show Wb ?_;rw[getitemInPython_of_ne e.not_modules];show Wb<|wpAny_specialOf e j ?_;have b:wpAny (model prog w) A (subscripted a false o i) (λr g=>wpAny (model prog w) A (letTemporaryGo d o r >>= λ_=>pure r) Q E g) E s₂:=by
  rw[k o i];show wpAny_operating<|wpAny_mono c (λr g m=>Wb<|wpAny_letTemporaryGo (Wp m)) λ_ _ x=>x
 first
  |show Wp<|Wb b
  |show Wb<|Wp (Wb b)
  |show Wb b
theorem oZ{X:Cx}{f:List (zi×Obj)}{h:St}{c:Hp}{s:xg}{a:zi}{y:V}{o:Option V}(d:Inv X f h c s)(g:cY c a y o):s.TypeIs (.ref a) "dict":=by
 rcases g with⟨kvs,k,e,_,_⟩|⟨kvs,k,b,e,_,_,_⟩
 .let(_,_,vs,_,dd):=km d.hok e;show dd.typeIs
 .let(_,_,xs,_,dd):=kn d.hok e;show dd.typeIs
def Da(b c:TE):TE:=λσ H Q=>b σ H λx H1=>c σ H1 λy H2=>∃a v,x=.ref a/\cY H2 a y (some v)/\Q v H2
def Em(c b:TE):TE:=λσ H Q=>c σ H λy H1=>b σ H1 λx H2=>∃a o,x=.ref a/\cY H2 a y o/\Q (.bl o.isSome) H2
def yj(c b:TE):TE:=λσ H Q=>c σ H λy H1=>b σ H1 λx H2=>∃a o,x=.ref a/\cY H2 a y o/\Q (.bl<|!o.isSome) H2
def Db(e g f:TE):TS:=λc σ H=>f σ H λv H1=>e σ H1 λx H2=>g σ H2 λy d=>∃a b,x=.ref a/\lT d a y v b/\c.nx σ b
section
variable{X:Cx}{o i e value:Expr}{pos pos' tpos:Pos}{td ty tv:TE}
theorem cz(l:X.A.units+1<cLine)(f:PE X o td)(e:PE X i ty)(k:CZ i):PE X (.Subscript o i pos) (Da td ty):=by
 intro pins s σ H Q I h;show yi PySem.F.slot_dict_getitem.lookup k<|thn (f pins s σ H _ I h) λu s1 ⟨x,H1,c,q,m⟩=>thn (e pins s1 σ H1 _ c m) λt w j=>?_;let(y,H2,b,r,a,v,ex,g,n):=j;subst ex;obtain rfl:u=Value.ref a:=q;show{oZ b g,tV l b g r λB z d p=>⟨v,H2,d,p,n⟩}
theorem nS(k:X.A.units+1<cLine)(e:PE X i ty)(f:PE X o td):PC X .In i o (Em ty td):=by
 intro pins s σ H Q I h;show thn (e pins s σ H _ I h) λr s1 ⟨y,H1,b,q,m⟩=>thn (f pins s1 σ H1 _ b m) λu t j=>?_;let(x,H2,c,p,a,l,ex,g,n):=j;subst ex;obtain rfl:u=Value.ref a:=p;show El k c g q λv d=>⟨.bl l.isSome,H2,d,rfl,n⟩
theorem eU(k:X.A.units+1<cLine)(e:PE X i ty)(f:PE X o td):PC X .NotIn i o (yj ty td):=by
 intro pins s σ H Q I h;show thn (e pins s σ H _ I h) λr s1 ⟨y,H1,b,q,m⟩=>thn (f pins s1 σ H1 _ b m) λu t j=>?_;let(x,H2,c,p,a,l,ex,g,n):=j;subst ex;obtain rfl:u=Value.ref a:=p;show yh k c g q λv d=>{.bl<|!l.isSome,H2,d,rfl,n}
theorem iG(m:X.A.units+1<cLine)(k:PE X o td)(j:PE X i ty)(n:PE X value tv)(l:swapsWith value (some<|.Subscript o i pos') pos.line X.env=pure false):
  PS X (.Assign [.Subscript o i pos'] value pos) (Db td ty tv):=by
 intro pins s σ H D I h;show wpAny_Assign_Subscript (thn (n pins s σ H _ I h) λr s1 ⟨v,H1,c,w,p⟩=>thn (k pins s1 σ H1 _ c p) λu C ⟨x,H2,d,z,q⟩=>thn (j pins C σ H2 _ d q) λF G ⟨y,E,e,B,a,b,ex,g,t⟩=>?_) l;subst ex;obtain rfl:u=Value.ref a:=z;show tW m e g B w λJ f=>⟨σ,b,f,t⟩
end
theorem vE{P:qw}{w:qn}{b:Hp}(a:qb)(c:sysModules<a.objs.size):bq P w b (a.push {cls:=.type "dict",data:=.dict #[]}) a.objs.size (.dK []) :=
 {Fz _,Fl.mpr<|symm (FX c),[],.nil,Heap.DictOf.new a}
def AC:TE:=λ_ H Q=>∀p,H p=none->Q (.ref p) (upd H p<|.dK [])
section
variable{X:Cx}{pos:Pos}
theorem ko:PE X (.Dict [] [] pos) AC:=λpins s σ H Q I h =>
 wpAny_Dict_empty {.ref s.heap.objs.size,_,I.laid (a:=s.heap.objs.size) (o:=.dK []) (t':=s.toks) (λ_ _ q=>EU _ q) (FH _)<|vE s.heap I.big,rfl,h _<|I.hok.fresh (FH _)}
end
structure M1(X:Cx)(o:Expr)(m:Str)(apos:Pos)(e:Expr)(cpos:Pos):Prop where
 base:attributeBase o m X.env (eval o X.env)=eval o X.env
 few:((backTo cpos<|starEach [e] X.env).all (λx=>!x.1)&&(backToKw cpos<|keywordEach [] X.env).all (λx=>x.1.isSome)
  && decide (([e]:List Expr).length+([]:List Keyword).length+(if ([]:List Keyword).isEmpty then 0 else 1)<30))=true
 line:(apos.endLine==cpos.line)=true
 trees:backTo cpos (starEach [e] X.env)=[(false,eval e X.env)]
structure M2(X:Cx)(o:Expr)(m:Str)(apos:Pos)(e f:Expr)(cpos:Pos):Prop where
 base:attributeBase o m X.env (eval o X.env)=eval o X.env
 few:((backTo cpos<|starEach [e,f] X.env).all (λx=>!x.1)&&(backToKw cpos<|keywordEach [] X.env).all (λx=>x.1.isSome)
  && decide (([e,f]:List Expr).length+([]:List Keyword).length+(if ([]:List Keyword).isEmpty then 0 else 1)<30))=true
 line:(apos.endLine==cpos.line)=true
 trees:backTo cpos (starEach [e,f] X.env)=[(false,eval e X.env),(false,eval f X.env)]
def IsD(H:Hp)(a:zi):Prop:=(∃kvs,Rd H a<|.dK kvs)\/∃kvs,Rd H a<|.dT kvs
theorem vF{X:Cx}{i:List (zi×Obj)}{j:St}{g:Hp}{s:xg}{a:zi}(h:Inv X i j g s)(d:IsD g a):
  s.TypeIs (.ref a) "dict"/\(∀b,Value.ref a=.ref b->∃c,s.heap.get? b=some c/\c.dict=none)/\(a==sysModules)=false:=by
 rcases d with⟨kvs,e⟩|⟨kvs,e⟩
 .let(_,f,vs,_,dd):=km h.hok e;show{dd.typeIs,λb q=>?_,f};cases q;let(c,_,_,h1,h2,_):=dd;show⟨c,h1,h2.2.1⟩
 .let(_,f,xs,_,dd):=kn h.hok e;show{dd.typeIs,λb q=>?_,f};cases q;let(c,_,_,h1,h2,_):=dd;show⟨c,h1,h2.2.1⟩
section
variable{X:Cx}{pins:List (zi×Obj)}{σ:St}{H:Hp}{s:xg}{a:zi}{y d:V}{u r:xx}{o:Option V}{A:qd}{E:xx->xg->Prop}
theorem AD{Q:xx->xg->Prop}(p:A.units+1<cLine)(c:Inv X pins σ H s)(g:cY H a y o)(j:aI y u)(i:∀m s',Inv X pins σ H s'->aI (o.getD .non) m->Q m s'):
  wpAny (model X.prog X.w) A (call (.builtin "dict.get") [.ref a,u]) Q E s:=by
 rcases g with⟨kvs,k,e,d,l⟩|⟨kvs,k,b,e,d,n,l⟩
 .subst d;let(z,f,vs,h,dd):=km c.hok e;show call_meetsIn slot_dict_get dd.typeIs PySem.F.entry_dict_get (PySem.F.args_dict_get_2 _ _) (meets_dict_get (aF X.prog X.w) a (gh j) f) {_,dd.mapOf,i _ _ (c.tok _) ?_};rw[l];show(h.val k).getD rfl
 .subst d;cases (show u=Value.ref b from j);let(z,f,xs,h,dd):=kn c.hok e;show call_meetsIn slot_dict_get dd.typeIs PySem.F.entry_dict_get (PySem.F.args_dict_get_2 _ _) (meetsH_dict_get (tupleKind<|aF X.prog X.w) a b f) {tupleKind_room_in1 p,k,xs,ji c.hok n,dd,i _ _ (c.tok _) ?_};rw[l];show(h.val k).getD rfl
end
def AE(b c:TE):TE:=λσ H Q=>b σ H λx H1=>∃a,x=.ref a/\IsD H1 a/\c σ H1 λy H2=>∃o,cY H2 a y o/\Q (o.getD .non) H2
def AF(c e d:TE):TE:=λσ H Q=>c σ H λx H1=>∃a,x=.ref a/\IsD H1 a/\e σ H1 λy H2=>d σ H2 λz b=>∃kvs k,b a=some (.dK kvs)/\y=kV k /\
 (∀v,aX kvs k=some v->Q v (upd b a<|.dK (dA kvs k)))/\(aX kvs k=none->Q z b)
section
variable{X:Cx}{o e f:Expr}{apos cpos:Pos}{td ty tx:TE}
theorem kq(l:X.A.units+1<cLine)(j:PE X o td)(i:PE X e ty)(m:M1 X o "get" apos e cpos):PE X (.Call (.Attribute o "get" apos) [e] [] cpos) (AE td ty):=by
 intro pins s σ H Q I h;show wpAny_Call_method m.base m.few m.line plainAttrs_dict slot_dict_get PySem.F.type_dict_get<|thn (j pins s σ H _ I h) λu s1 k=>?_;let(x,H1,b,r,a,ex,d,n):=k;subst ex;obtain rfl:u=Value.ref a:=r;let(v,w,_):=vF b d;show{v,w,?_};rw[m.trees];show callWith_builtin rfl<|evalArgs_plain (spliced_cons<|thn (i pins s1 σ H1 _ b n) λz C ⟨y,H2,c,t,B,g,p⟩=>spliced_nil ?_);show AD l c g t λE D f q=>⟨_,H2,f,q,p⟩
theorem vG(t:PE X o td)(q:PE X e ty)(r:PE X f tx)(m:M2 X o "pop" apos e f cpos):PE X (.Call (.Attribute o "pop" apos) [e,f] [] cpos) (AF td ty tx):=by
 intro pins s σ H Q I h;show wpAny_Call_method m.base m.few m.line plainAttrs_dict slot_dict_pop PySem.F.type_dict_pop<|thn (t pins s σ H _ I h) λu s1 w=>?_;let(x,H1,c,G,a,ex,d,A):=w;subst ex;obtain rfl:u=Value.ref a:=G;let(M,N,_):=vF c d;show{M,N,?_};rw[m.trees];show callWith_builtin rfl<|evalArgs_plain (spliced_cons (thn (q pins s1 σ H1 _ c A) λO K ⟨y,H2,n,i,B⟩ =>
  spliced_cons (thn (r pins K σ H2 _ n B) λfv P ⟨z,j,g,J,kvs,k,ea,p,C,D⟩=>spliced_nil ?_)))
 subst p;cases l:aX kvs k with
 |some v=>show CY g ea i l (.inr ⟨fv,rfl⟩) λR L b E=>⟨v,_,b,E,C v l⟩
 |none=>show AB g ea i l λL b=>⟨z,j,b,J,D l⟩
end
end L2
namespace Att
open PySem PySem.W PySem.Calls PyProof.Rows
theorem jM{P:Params}{c:qb}:∀(ns:List Int)(vs:List xx),WellAll P c vs (ns.map WData.int)->IntsAre vs ns:=by
 intro ns
 induction ns with
 |nil =>
  intro vs w;rw[map_nil]at w;cases w;show .nil
 |cons n ns d =>
  intro vs w;rw[Fi]at w;cases w with
  |cons a b =>
   cases a;show .cons _ _<|d _ b
theorem tX{l:OpenLaw}{n:Nat}(j:l.most=some n){P:Params}{e:qb}{args:List WData}{vals:List xx}(g:l.row.toRowW.claim.pre args=true)(o:WellAll P e vals args):
  ∃a vs ns,vals=[Value.ref a]/\args=[WData.list<|ns.map WData.int]/\e.get? a=some {cls:=.type "list",data:=.seq vs.toArray}/\IntsAre vs ns/\ns.length<=n:=by
 have m:WShape.hasAll [] args [.list .int]=true:=(pre_splitW g).1;have f:l.pre.holds [] {args:=args}=true:=(pre_splitW g).2;let(d,r,rfl,h1,h2):=hasAllW_cons m;obtain rfl:=hasAllW_nil h2;let(xs,rfl,h3):=hasW_list h1;let(ns,rfl):=items_int h3;have i:ns.length<=n:=by
  unfold OpenLaw.pre at f;have b:(WTm.not<|.lt (.lit<|.int (n:Int)) (.len<|.arg 0)).holds [] {args:=[.list<|ns.map .int]}=true:=by
   have b:=(holds_andW f).1;rw[j]at b;show b
  have c:=condW_of b<|w_not (w_lt w_lit<|w_len_list (w_arg rfl));rw[ES]at c;show Nat.le_of_not_lt λq=>?_;have p:(n:Int)<((ns.length:Nat):Int):=by lia
  first
   |(rw[Fe p]at c;show absurd c (by decide))
   |(simp at c;lia)
 cases o with
 |cons s t =>
  cases t;cases s with
  |list k h=>show{_,_,ns,rfl,rfl,k,jM ns _ h,i}
theorem tY(l:OpenLaw)(args:List WData):l.row.toRowW.claim.post args (.bool true) args=true :=
 postW_of (r:=l.row.toRowW) (X:=(true==true))
  (show WShape.has [] (.bool true) .bool=true by first|rfl|decide|simp[WShape.has,WShape.arms,WShape.armsAll])
  (show(WTm.eq .res<|.lit (.bool true)).value [] {args:=args,res:=some<|.bool true,after:=args}=some (.bool<|true==true)from w_eq_bool (w_res rfl) w_lit) rfl
theorem pc{l:OpenLaw}{n:Nat}{q:qw}{m:List Str}{i:(Str->Option xx)->qb->Prop}{j:qn->qb->Prop}{d:DefRec}(D:l.most=some n)(x:d.params.defaults=[])(call:∀(w:qn) (s₀ b:xg) (mg h:Str->Option xx) (c:zi) (o:Obj) (pm e g:xx) (a:zi) (vs:List xx) (ns:List Int),
   Ground q m [] i w s₀ mg h b.heap->j w b.heap ->
   b.heap.get? c=some o->o.data=.func (docDef d.name d.params d.body d.scope pm e g)->b.heap.CodeRec e d.name->mg d.name=some (.ref c) ->
   b.heap.get? a=some {cls:=.type "list",data:=.seq vs.toArray}->IntsAre vs ns->ns.length<=n->b.gens=#[] ->
   codeAny (model l.prog w) callerA (.call (.ref c) {[.ref a],[]}) (λr s'=>r=.ok (.ret<|.bool true)/\OldK b.heap s'.heap/\s'.os=b.os/\AllBare s'.gens) b):
  WalkO q m i j l.row.toRowW d [] (λf vs=>PySem.call f vs):=by
 intro w s₀ b mg h G p c o pm e g s kV E v u k C y K vals L H M O J N;obtain rfl:s=.none:=Dflts.none k x;obtain rfl:kV=.none:=Dflts.noKw k;let(a,vs,ns,rfl,rfl,F,z,A):=tX D H J;show enter_call<|codeAny_mono (call w s₀ b mg h c o pm e g a vs ns G p E (fd_plain v) u C F z A y) λr s' I=>?_;let(rfl,h2,h3,t):=I;show{.inl {.bool true,.bool true,[],rfl,λ_=>rfl,.bool true,tY l _,λ_=>{Pairwise.nil,λ_ B=>(nomatch B)}},h2,h3,t}
end Att
namespace L2
open PySem PySem.Spec PyProof.Rows
theorem my:∀{vs:List xx}{ns:List Int},IntsAre vs ns->aA (ns.map V.int) vs
 |_,_,.nil=>.nil
 |_,_,.cons n t h=>.cons ⟨t,rfl⟩<|my h
def cJ(s:Stmt)(j:Nat):Stmt:=match s with
 |.ClassDef _ _ _ body _ _ _ _ _ _ _=>body.getD j<|.Pass ⟨0,0,0,0⟩
 |_=>.Pass ⟨0,0,0,0⟩
def dB(s:Stmt):Arguments:=match s with
 |.FunctionDef _ a _ _ _ _ _ _ _ _=>a
 |_=>{posonlyargs:=[],args:=[],vararg:=none,kwonlyargs:=[],kw_defaults:=[],kwarg:=none,defaults:=[]}
def bg(s:Stmt):List Stmt:=match s with
 |.FunctionDef _ _ b _ _ _ _ _ _ _=>b
 |_=>[]
def ak(s:Stmt):Scope:=match s with
 |.FunctionDef _ _ _ _ _ _ a _ _ _=>a
 |_=>{kind:=.function,names:=[],isGenerator:=false,isCoroutine:=false}
abbrev CX0:CXT:=λ_ _ _ _ _ _=>False
abbrev E0:XK:=λ_ _ _=>False
theorem cK{X:Cx}:cG CX0 X E0:=λ_ _ _ _ _ _ _ h=>h.elim
structure Fun(K:Frag)(x qual:Str)(st:Stmt)(f:zi)(fd:qa):Prop where
 ex:∃(oc:xx) (od:Option zi) (kV doc pm:xx) (an:Option zi) (cdv ct:xx) (osl:Array<|Option xx),
  fd=fnOf x qual (dB st) (bg st) (ak st) .none kV doc pm an cdv ct/\K.lookup f=some ⟨oc,od,.func fd,osl⟩/\codeIn K cdv qual=true
 kp:keepIn K (.ref f)=true
section
variable{P:qw}{w:qn}{K:Frag}{mg:Str->Option xx}{base:qb}
theorem Fun.ok{x qual:Str}{st:Stmt}{f:zi}{a:qa}{N ps:List Str}{k:Nat}{sp:Sp}(F:Fun K x qual st f a)(S:FnScope N ps<|ak st)(g:∀vs H Q E,sp vs H Q E->vs.length=ps.length)(b:∀(cdv:xx) (A:qd) (outer:List Env) (s:xg) (H:Hp) (vs:List V) (Q:VK) (E:XK),Room k (A.deeper<|envOfC qual (ak st) s.heap.objs.size f cdv)->sp vs H Q E ->
   ∃t,PSs (fY CX0 P w K mg base N qual (ak st) f cdv A outer s H E).nox (bg st) t/\t {nx:=λ_ H'=>Q .non H',rt:=Q} (start N vs) H):FnOk P w K mg base CX0 (k+1) f a ps sp:=by
 let(n,o,kV,m,pm,j,cdv,l,p,rfl,i,c):=F.ex;show vm i c S g λA outer s H vs Q E d e=>?_;let(t,h,q):=b cdv A outer s H vs Q E d e;show⟨t,h.nox,q⟩
theorem Fun.binds{x qual:Str}{st:Stmt}{f:zi}{c:qa}{ps:List Str}(F:Fun K x qual st f c)(d:∀(kV b pm:xx) (a:Option zi) (cdv ct:xx) (us:List xx),us.length=ps.length->bindArgs (fnOf x qual (dB st) (bg st) (ak st) .none kV b pm a cdv ct) {us,[]}=pure (ps.zip us)):aH K c ps []:=by
 let(h,i,kV,b,pm,a,cdv,ct,j,rfl,g,e):=F.ex;show .all<|d kV b pm a cdv ct
theorem dv{x qual:Str}{st:Stmt}{f:zi}{oc:xx}{e a:Option zi}{g:Array (Option xx)}{kV b d cdv ct:xx}(l:K.lookup f=some {oc,e,.func<|fnOf x qual (dB st) (bg st) (ak st) .none kV b d a cdv ct,g})(c:codeIn K cdv qual=true)(k:keepIn K (.ref f)=true):Fun K x qual st f (fnOf x qual (dB st) (bg st) (ak st) .none kV b d a cdv ct):=⟨⟨oc,e,kV,b,d,a,cdv,ct,g,rfl,l,c⟩,k⟩
end
theorem bp{A:qd}{k:Nat}(a:Room k A):A.units+1<cLine:=GU (Nat.add_le_add_left (by decide:1<=64) _) a.units
theorem aw{n:Nat}(h:n<=1000):n<sizeLine:=GU h (by decide)
section
variable{X:Cx}
theorem pv(i:Nat){x:Str}{pos:Pos}(a:X.N[i]?=some x:=by rfl)(c:Vis X.env.scope x:=by first|show Or.inl rfl|show Or.inr (Or.inl rfl)|show Or.inr<|Or.inr rfl)(hd:(x==("__debug__":Str))=false:=by decide)(b:(x==("__classdict__":Str))=false:=by decide):PE X (.Name x pos) (hZ i):=Ak a c hd b
end
theorem aC{A B:Prop}(h:B):if false=true then A else B:=by
 rw[EV FL];show h
theorem aV{A B:Prop}(h:A):if true=true then A else B:=by
 rw[EW rfl];show h
theorem vH{c A B:Prop}[Decidable c](a:c->A)(b:¬c->B):if c then A else B:=by
 by_cases h:c
 .rw[EW h];show a h
 .rw[EV h];show b h
theorem Dc{c A B:Prop}[Decidable c](b:c)(a:B):if (!decide c)=true then A else B:=by
 rw[Fe b];show aC a
def Same(H H':Hp):Prop:=∀b o,H b=some o->H' b=some o
theorem Same.refl(H:Hp):Same H H:=λ_ _ h=>h
theorem Same.trans{d e H2:Hp}(a:Same d e)(b:Same e H2):Same d H2:=λc o h=>b c o<|a c o h
theorem Same.free{H H':Hp}(e:Same H H'){l:zi}(h:H' l=Option.none):H l=Option.none:=by
 cases q:H l with
 |none=>rfl
 |some o =>
  rw[e l o q]at h;cases h
theorem Same.seq{K:Frag}{H H':Hp}{a:zi}{xs:List V}(e:Same H H')(h:SqL K H a xs):SqL K H' a xs:=by
 rcases h with (h|⟨o,h⟩)|h
 .show .inl<|.inl (e _ _ h)
 .show .inl<|.inr ⟨o,e _ _ h⟩
 .show .inr h
section
variable{κ:Type}[DecidableEq κ]
theorem vI{a:List (κ×V)}{k:κ}(b:aX a k=none):¬k∈a.map (·.1):=by
 intro m;let(p,c,e):=EZ.mp m;have q:(a.any λd=>decide<|d.1=k)=true:=GK.mpr ⟨p,c,Fe e⟩;rw[dt,b]at q;show absurd q (by simp)
theorem sv{a:List (κ×V)}{k:κ}{v:V}(b:aX a k=some v):k∈a.map (·.1):=by
 have q:(a.any λd=>decide<|d.1=k)=true:=by
  rw[dt,b]
  all_goals rfl
 let(p,c,e):=GK.mp q;show EZ.mpr ⟨p,c,of_decide_eq_true e⟩
theorem tZ{p:κ×V}{r:List (κ×V)}{k:κ}(e:p.1=k):dA (p::r) k=dA r k:=by
 unfold dA;rw[filter_cons,EV (by simp[e])]
theorem ua{p:κ×V}{r:List (κ×V)}{k:κ}(e:¬p.1=k):dA (p::r) k=p::dA r k:=by
 unfold dA;rw[filter_cons,EW (by simp[e])]
end
structure LcOk(X:Cx)(scope:Scope)(cl:List<|Str×zi):Prop where
 kind:scope.kind=.function
 clos:closureFor scope X.env=pure cl
 names:∀x∈scope.names,x.2=.local->scope.names.lookup x.1=some .local
 nocell:∀x∈scope.names,x.2≠.cell
 cells:∀x c,cl.lookup x=some c->X.env.cells.lookup x=some c
 has:∀x,((relabel scope X.env).names.lookup x=some .cell\/(relabel scope X.env).names.lookup x=some .free)->∃c,cl.lookup x=some c
abbrev cx(X:Cx)(N:List Str)(b:Scope)(cl:List<|Str×zi)(s:xg)(a:Hp)(ex:List zi):Cx :=
 {X with N:=N,s₀:=s,H₀:=a,env:=compEnvC b cl s.heap.objs.size X.env,outer:=X.stack,stack:=X.stack,ex:=ex,fn:=λ_=>false,pn:=[],xe:=λ_ _=>False}
section
variable{X:Cx}{pins:List (zi×Obj)}{σ:St}{H:Hp}{s:xg}{N:List Str}{scope:Scope}{cl:List (Str×zi)}{fp:List zi}
theorem zT(a:Inv X pins σ H s)(f:LcOk X scope cl)(g:∀b∈fp,jL X pins H b)(i:∀b∈fp,b<s.heap.objs.size):(cx X N scope cl s H fp).Ok where
 mod:=a.ok.mod
 kind:=f.kind
 glob:=a.ok.glob
 blt:=a.ok.blt
 above:=FH _
 inj:=λx y c h1 h2=>a.ok.inj x y c (f.cells x c h1)<|f.cells y c h2
 has:=λx k=>f.has x k
 cab:=λx c h _=>absurd h (by simp)
 hd:=a.ok.hd
 frames:=a.ok.frames
 stk:=.inl rfl
 exf:=λb d=>{FX<|i b d,λx c h=>(g b d).2.2.2.2.1 x c (f.cells x c h)}
 bs:=a.bs
 bsz:=GS a.ok.bsz a.sz
 noex:=λb o e d=>by
  rcases (g b d).2.2.2.1 with z|z
  .show a.ok.noex b o e z
  .show absurd (Fc (FW e)<|GS a.ok.bsz z)<|lt_irrefl _
 exfs:=λb d j=>by
  rcases FU.mp (a.stkSub b j)with z|z
  .show(g b d).2.1 z
  .show(g b d).2.2.1 z
 funs:=a.stack
 frf:=a.stkFree
def dC(k:Nat)(js:List Nat)(b:St):St:=replicate k none++js.map λa=>(b[a]?).getD none
theorem vJ{l:qb}{tk:Nat}{k:Nat}{js:List Nat}(a:Inv X pins σ H s)(f:LcOk X scope cl)(E:∀b∈fp,jL X pins H b)(K:∀b∈fp,b<s.heap.objs.size)(J:∃m,l.Ns s.heap.objs.size m)(t:∀b o,s.heap.get? b=some o->l.get? b=some o)(D:N.length=k+js.length)(F:∀(i j:Nat) x,js[i]?=some j->N[k+i]?=some x->X.N[j]?=some x/\Vis X.env.scope x/\X.env.scope.names.lookup x≠some .local/\((relabel scope X.env).names.lookup x=some .cell\/(relabel scope X.env).names.lookup x=some .free)):
  Inv (cx X N scope cl s H fp) [] (dC k js σ) H {s with heap:=l,toks:=tk}:=by
 let(m,I):=J;have w:∀c v,s.heap.IsCell c v->l.IsCell c v:=λc v ⟨o,e,d⟩=>⟨o,t c o e,d⟩;show{zT a f E K,rfl,a.bare,Un.kept t,{m,I,λi x v e1 e2 e3=>?_},λx c e=>?_,a.hok.fresh<|FH _,λx c e=>a.freeC x c<|f.cells x c e,λp L=>absurd (show p∈([]:List<|zi×Obj)from L) (by simp),a.hok.kept t,?_}
 .unfold dC at e2
  by_cases hi:i<k
  .rw[Fy (by simpa using hi),List.getElem?_replicate]at e2
   split at e2<;>cases e2
  .obtain⟨i',rfl⟩:∃i',i=k+i':=⟨i-k,by lia⟩;rw[GA (by simp),length_replicate,Nat.add_sub_cancel_left,FE]at e2;cases n:js[i']? with
   |none=>rw[n]at e2;cases e2
   |some j =>
    rw[n]at e2;have h:(σ[j]?).getD none=some v:=Option.some.inj e2;let(h1,h2,h3,A):=F i' j x n e1;have e4:σ[j]?=some (some v):=by
     cases q:σ[j]? with
     |none=>rw[q]at h;cases h
     |some y=>rw[q]at h;show congrArg some h
    let(O,_,G):=a.loc;let(u,r,M):=G j x v h1 e4 h2;show{u,r,.inr {A,?_}};rcases M with⟨q,_⟩|⟨_,c,B,C⟩
    .show absurd q h3
    .let(g,z):=f.has x A;have:g=c:=Option.some.inj<|(f.cells x g z).symm.trans B;subst this;show{g,z,w g _ C}
 .let(v,e1):=a.cell x c<|f.cells x c e;show{v,w c v e1}
 .unfold dC;rw[FI,length_replicate,ES];show D.symm
theorem vK{H':Hp}{x:St}{s':xg}{h':qb}(i:Inv X pins σ H s)(r:∀b∈fp,jL X pins H b)(J:Inv (cx X N scope cl s H fp) [] x H' s')(f:SameBut s.heap.objs.size s'.heap h'):Inv X pins σ H' {s' with heap:=h'}:=by
 have g:∀b o,s.heap.get? b=some o->b≠s.heap.objs.size:=λb o e=>FX<|FW e;have u:=J.base;have w:Un (frs X.stack) fp H H' s.heap h' :=
  {λb o e n a d=>(f.2 b<|g b o e).trans (u.keep b o e n a d),λb o e n a d=>by
   let(t,q):=u.slot b o e n a d;show{t,(f.2 b<|g b o e).trans q},u.free,λb o e d=>by
   let(o',q):=u.there b o e d;show{o',(f.2 b<|g b o e).trans q},u.tups,u.frzs,u.tbls}
 have h:∀b o,H' b=some o->b≠s.heap.objs.size:=λb o e z=>by
  have:=J.free;rw[show(cx X N scope cl s H fp).env.locals=s.heap.objs.size from rfl,<-z,e]at this;cases this
 show i.call' (s':={s' with heap:=h'}) J.os w (λb o e=>?_) J.bare λb a=>?_
 .show(J.hok b o e).stay (λc v p q=>(f.2 c ?_).trans q) (λ_ q=>q) λ_ _ q=>q;rcases p with z|z
  .rw[z];show h b o e
  .show h c _ z
 .let(y,j,A,k,l,m):=r b a;show⟨k,j,l,m⟩
end
section
variable{prog:qw}{w:qn}{A:qd}{R:Result->xg->Prop}{s:xg}
def ocW(prog:qw)(w:qn)(A:qd)(oc:Option Expr)(env:Env)(K:Bool->xg->Prop)(s:xg):Prop:=match oc with
 |none=>K true s
 |some c=>wpAny (model prog w) A (isTrue c env<|eval c env) K (λ_ _=>False) s
theorem kr(e b iter c:Expr)(g:Scope)(pos:Pos)(a d:xx)(env:Env):
  compTurn (.ListComp e [{b,iter,[c],0}] g pos) 0 a d env=(standAt iter.pos >>= λ_=>pyNext a >>= λr=>match r with
   |none=>pure (.done .next)
   |some v=>letOwnedTupleGo b a v >>= λ_=>assign b env v >>= λ_ =>
    (forIn [c] true λc r=>if r=true then do let f <- isTrue c env (eval c env);pure (ForInStep.yield f)else pure (ForInStep.yield r)) >>= λf =>
    if f=true then (eval e env >>= λx=>call (.builtin "list.append") [d,x] >>= λ_=>pure ()) >>= λ_ =>
     again (.compLoop (.ListComp e [{b,iter,[c],0}] g pos) 0 a d env)
    else again (.compLoop (.ListComp e [{b,iter,[c],0}] g pos) 0 a d env)):=by rfl
theorem yk{l j iter:Expr}{oc:Option Expr}{u:Scope}{pos:Pos}{g k:xx}{env:Env}(e:Nat->xg->Prop)(y:∀n s,e n s->wpAny (model prog w) A (pyNext g) (λr h=>match r with
   |none=>R (.ok .next) h
   | some v=>wpAny (model prog w) A (letOwnedTupleGo j g v) (λ_ q=>wpAny (model prog w) A (assign j env v) (λ_ a=>ocW prog w A oc env (λp a =>
     if p=true then wpAny (model prog w) A (eval l env) (λx i =>
      wpAny (model prog w) A (call (.builtin "list.append") [k,x]) (λ_ B=>∃m,m<n/\e m B) (λ_ _=>False) i) (λ_ _=>False) a
     else ∃m,m<n/\e m a) a) (λ_ _=>False) q) (λ_ _=>False) h) (λ_ _=>False) s)(n:Nat)(z:e n s):codeAny (model prog w) A (.compLoop (.ListComp l [⟨j,iter,oc.toList,0⟩] u pos) 0 g k env) R s:=by
 show codeAny_loop rfl e (λn s t=>?_) n z;change wpAny _ _ ((compTurn (.ListComp l [⟨j,iter,oc.toList,0⟩] u pos) 0 g k env).onRaise (λx=>do noteFrame x env;theTreesLotGoes x)) _ _ s;show wpAny_noted ?_;cases oc with
 |none =>
  rw[show(none:Option Expr).toList=[]from rfl,compTurn_list1];show Wb<|wpAny_standAt (Wb<|wpAny_mono (y n s t) (λr h f=>?_) λ_ _ h'=>h'.elim);cases r with
  |none=>show Wp f
  |some v =>
   show Wb<|wpAny_mono f (λ_ q o=>Wb<|wpAny_mono o (λ_ a b=>?_) λ_ _ h'=>h'.elim) λ_ _ h'=>h'.elim;show Wb<|Wb (wpAny_mono (show wpAny _ _ _ _ _ _ from b) (λx a b=>Wb<|wpAny_mono b (λ_ i d=>Wp<|Wp ⟨rfl,d⟩) λ_ _ h'=>h'.elim) λ_ _ h'=>h'.elim)
 |some c =>
  rw[show(some c).toList=[c]from rfl,kr];show Wb<|wpAny_standAt (Wb<|wpAny_mono (y n s t) (λr h f=>?_) λ_ _ h'=>h'.elim);cases r with
  |none=>show Wp f
  |some v =>
   show Wb<|wpAny_mono f (λ_ q o=>Wb<|wpAny_mono o (λ_ a b=>?_) λ_ _ h'=>h'.elim) λ_ _ h'=>h'.elim;rw[forIn_cons];simp only[GG];show Wb<|Wb (Wb<|wpAny_mono (show wpAny _ _ _ _ _ _ from b) (λp i d=>Wp ?_) λ_ _ h'=>h'.elim);simp only[forIn_nil];show Wp ?_;cases p with
   |true=>show Wb<|Wb (wpAny_mono (show wpAny _ _ _ _ _ _ from d) (λx a b=>Wb<|wpAny_mono b (λ_ i d=>Wp<|Wp ⟨rfl,d⟩) λ_ _ h'=>h'.elim) λ_ _ h'=>h'.elim)
   |false=>show Wp ⟨rfl,d⟩
end
def LcW(k:Nat)(js:List Nat)(g:TG)(h:TE)(j:St)(Q:VK)(J:It)(e:Hp)(p:zi):Prop:=∃W:Nat->Nat->List V->St->Hp->Prop,
 (∃m,W 0 m [] (dC k js j)<|upd e p (.lst []))/\∀i m ys c H',W i m ys c H'->(J.stop i H'/\Q (.ref p) H') \/
  (J.go i H'/\ys.length<sizeLine/\∀x H2,J.yld i H' x H2->g x c H2 λd f=>h d f λy a=>a p=some (.lst ys)/\∃b,b<m/\W (i+1) b (ys++[y]) d (upd a p<|.lst (ys++[y])))
def tLc(k:Nat)(js:List Nat)(c:TI)(g:TG)(b:TE):TE:=λσ H Q=>c σ H λa H1=>∀p,H1 p=none->LcW k js g b σ Q a H1 p
def uc(k:Nat)(js:List Nat)(g:TG)(l:TT)(n:TE)(o:St)(Q:VK)(J:It)(h:Hp)(p:zi):Prop:=∃W:Nat->Nat->List V->St->Hp->Prop,
 (∃m,W 0 m [] (dC k js o)<|upd h p (.lst []))/\∀i m ys f H',W i m ys f H'->(J.stop i H'/\Q (.ref p) H') \/
  (J.go i H'/\ys.length<sizeLine/\∀x H2,J.yld i H' x H2->g x f H2 λc j=>l c j λb d=>if b=true then n c d λy e=>e p=some (.lst ys)/\∃a,a<m/\W (i+1) a (ys++[y]) c (upd e p<|.lst (ys++[y]))
   else ∃a,a<m/\W (i+1) a ys c d)
def De(k:Nat)(js:List Nat)(d:TI)(g:TG)(b:TT)(c:TE):TE:=λσ H Q=>d σ H λa H1=>∀p,H1 p=none->uc k js g b c σ Q a H1 p
def ocT(X:Cx)(oc:Option Expr)(a:TT):Prop:=match oc with
 |none=>∀σ H K,a σ H K->K true H
 |some c=>PT X c a
theorem ym{X:Cx}{oc:Option Expr}{j:TT}{f:List (zi×Obj)}{s:xg}{d:St}{a:Hp}{K:Bool->Hp->Prop}{h:Bool->xg->Prop}(i:ocT X oc j)(k:X.xe=λ_ _=>False)(g:Inv X f d a s)(q:j d a K)(m:∀b s',TP X f d K b s'->h b s'):ocW X.prog X.w X.A oc X.env h s:=by
 cases oc with
 |none=>show m true s ⟨a,g,i d a K q⟩
 |some c=>show wpAny_mono (i f s d a K g q) m λ_ _ e=>by rw[k]at e;show e
section
variable{X:Cx}{N:List Str}{scope:Scope}{cl:List (Str×zi)}{k:Nat}{js:List Nat}
theorem sw{S K iter:Expr}{oc:Option Expr}{pos q:Pos}{d4:TI}{g:TG}{d1:TT}{d2:TE}{a5:Option (xx->Sem Unit)}{Qc:xx->xg->Prop}{Q:VK}{C:List (zi×Obj)}{s:xg}{E:St}{m:Hp}(c2:X.calm=true)(t:LcOk X scope cl)(f2:N.length=k+js.length)(f7:∀(i j:Nat) x,js[i]?=some j->N[k+i]?=some x->X.N[j]?=some x/\Vis X.env.scope x/\X.env.scope.names.lookup x≠some .local/\((relabel scope X.env).names.lookup x=some .cell\/(relabel scope X.env).names.lookup x=some .free))(f6:PI X K iter d4)(f5:∀s m fp,PG (cx X N scope cl s m fp) K g)(g3:∀s m fp,ocT (cx X N scope cl s m fp) oc d1)(f4:∀s m fp,PE (cx X N scope cl s m fp) S d2)(g1:∀x,foldedSetIterable iter X.env x=pure x){b8:It->Hp->zi->Prop}(f1:∀J H1 p,b8 J H1 p->uc k js g d1 d2 E Q J H1 p)(d6:Inv X C E m s)(U:d4 E m λJ H1=>∀p,H1 p=none->b8 J H1 p)(e8:∀{a3 I:xg} {P z:Hp} {i0:St} {fp:List zi} {p:zi},Inv X C E P a3->(∀b∈fp,jL X C P b)->Inv (cx X N scope cl a3 P fp) [] i0 z I->Q (.ref p) z->compPost (model X.prog X.w) X.A X.xe a5 Qc (.ref p) a3.heap.objs.size (.ok .next) I):
  wpAny (model X.prog X.w) X.A (comprehension (.ListComp S [⟨K,iter,oc.toList,0⟩] scope pos) scope X.env q (newList []) false (eval iter X.env) a5) Qc X.xe s:=by
 show wpAny_comprehension_free rfl g1 t.clos t.kind t.names ?_;show thn (f6 C s E m _ d6 U) λv s1 h1=>thn h1 λi1 f h2=>?_;let(g5,fp,d3,J,H2,e,b6,T,c9,b9,f3):=h2;subst e;have c3:∀b∈fp,b<f.heap.objs.size:=λb a=>by
  let(o,e,_):=T.obj _ _ c9 b a;show FW e
 show wpAny_newObj_type<|wpAny_newFunctionEnv t.nocell (by intro y g4;simp at g4) (λh₁ Z a1=>?_) t.kind;dsimp only at Z a1|-;let(W,(g7,h7),h6):=f1 _ _ _<|f3 f.heap.objs.size (b6.hok.fresh<|FH _);have H:Inv X C E (upd H2 f.heap.objs.size<|.lst []) {f with heap:=f.heap.push {cls:=.type "list",dict:=none,data:=.seq ([]:List xx).toArray}}:=b6.lnew (t':=f.toks) .nil<|Fz _
 generalize c1:f.heap.push {cls:=.type "list",dict:=none,data:=.seq ([]:List xx).toArray}=l at Z a1 H|-;have g2:l.objs.size=f.heap.objs.size+1:=by rw[<-c1,size_push]
 have g6:∀b o,f.heap.get? b=some o->l.get? b=some o:=λb o e=>by rw[<-c1];show EU _ e
 have F:∀b∈fp,jL X C (upd H2 f.heap.objs.size<|.lst []) b:=λb a=>{by rw[aj<|FX (c3 b a)];show(b9 b a).1,(b9 b a).2};have V:∀b∈fp,b<l.objs.size:=λb a=>by rw[g2];show lt_succ_of_lt<|c3 b a
 have c4:∀b o,l.get? b=some o->h₁.get? b=some o:=λb o e=>a1.extBut b o (FX<|FW e)<|EU _ e;have d7:=vJ (N:=N) (k:=k) (js:=js) (tk:=f.toks+([]:List<|Str×xx).length) H t F V ⟨_,Z⟩ c4 f2 f7;have c8:d3 0 h₁:=T.keep _ _ _ c9 λb a o e=>c4 b o<|g6 b o e;have a4:∀{H':Hp},(∀b∈fp,H' b=none)->∀b∈fp,jL (cx X N scope cl {f with heap:=l} (upd H2 f.heap.objs.size<|.lst []) fp) [] H' b:=λf9 b a =>
  {f9 b a,FX<|V b a,(zT (N:=N) H t F V).exfs b a,.inl a,λx c U=>(F b a).2.2.2.2.1 x c (t.cells x c U),λp g0=>absurd (show p∈([]:List<|zi×Obj)from g0) (by simp)}
 have c5:codeAny (model X.prog X.w) X.A (.compLoop (.ListComp S [⟨K,iter,oc.toList,0⟩] scope pos) 0 (.ref g5) (.ref f.heap.objs.size)<|compEnvC scope cl l.objs.size X.env)
   (compPost (model X.prog X.w) X.A X.xe a5 Qc (.ref f.heap.objs.size) l.objs.size) {f with heap:=h₁,toks:=f.toks+([]:List<|Str×xx).length}:=by
  show yk (λn s'=>∃i ys d5 H',Inv (cx X N scope cl {f with heap:=l} (upd H2 f.heap.objs.size<|.lst []) fp) [] d5 H' s'/\d3 i s'.heap/\(∀b∈fp,H' b=none)/\W i n ys d5 H') ?_ g7 {0,[],_,_,d7,c8,λb a=>(F b a).1,h7}
  rintro n c6 ⟨i,ys,M,z,b7,d0,c0,h8⟩;rcases h6 i n ys M z h8 with⟨stop,g9⟩|⟨go,f8,step⟩
  .show thn (T.done (cx X N scope cl {f with heap:=l} (upd H2 f.heap.objs.size<|.lst []) fp) rfl rfl rfl c2 i [] c6 M z (λ_ _=>False) b7 (a4 c0) d0 stop) λr I h=>?_
   let(a0,d8):=h;subst a0;show e8 H F d8 g9
  .show thn (T.item (cx X N scope cl {f with heap:=l} (upd H2 f.heap.objs.size<|.lst []) fp) rfl rfl rfl c2 i [] c6 M z (λ_ _=>False) b7 (a4 c0) d0 go) λr I h=>?_
   let(u,a0,f0):=h;subst a0;show thn f0 λ_ h4 h=>?_;let(x,a7,d9,h0,h9,G,e9):=h;have e5:=d9.pinned (a4 e9)<|T.obj _ _ G;show thn (f5 _ _ _ _ h4 M a7 x u _ e5 h0<|step x a7 h9) λ_ c7 h=>?_;let(O,a8,B,D):=h;show ym (g3 _ _ _) rfl B D λb c7 h=>?_;let(a8,B,D):=h;cases b with
   |true =>
    rw[EW rfl]at D|-;show thn (f4 _ _ _ _ c7 O a8 _ B D) λy h5 h=>?_;let(L,a9,e6,h3,g8,a2,Y,a6):=h;show thn (cX _ h5 O a9 (.ref f.heap.objs.size) [L] _ _ (λ_ b5=>b5=upd a9 f.heap.objs.size (.lst<|ys++[L])) e6 rfl (.cons h3 .nil) ⟨_,ys,L,rfl,rfl,g8,f8,rfl⟩) λ_ i2 h=>?_;let(_,b5,R,_,e7):=h;subst e7;show{a2,Y,i+1,ys++[L],O,_,R.unpinned,T.keep _ _ _ G λb a o e=>(R.pin (b,o)<|Fj _ (Fj _<|cW a e)).1,λb a=>?_,a6};let(o,e,d):=T.obj _ _ G b a;show(R.pin (b,o)<|Fj _ (Fj _<|cW a e)).2.1
   |false =>
    rw[EV (by simp)]at D|-;let(a2,Y,a6):=D;show{a2,Y,i+1,ys,O,_,B.unpinned,T.keep _ _ _ G λb a o e=>(B.pin (b,o)<|Fj _ (Fj _<|cW a e)).1,λb a=>?_,a6};let(o,e,d):=T.obj _ _ G b a;show(B.pin (b,o)<|Fj _ (Fj _<|cW a e)).2.1
 show codeAny_compStart_list c5<|T.self _ 0 _ _ _ c8 c5
theorem sx{g:TG}{b:TE}{c:St}{Q:VK}(J:It)(a:Hp)(p:zi)(d:LcW k js g b c Q J a p):uc k js g (λ_ H K=>K true H) b c Q J a p:=by
 let(W,f,e):=d;show⟨W,f,e⟩
theorem vL{d a iter:Expr}{oc:Option Expr}{pos:Pos}{l:TI}{g:TG}{e:TT}{f:TE}{c:St->VK->It->Hp->zi->Prop}(r:∀{σ Q} J H1 p,c σ Q J H1 p->uc k js g e f σ Q J H1 p)(u:X.calm=true)(o:LcOk X scope cl)(t:N.length=k+js.length)(z:∀(i j:Nat) x,js[i]?=some j->N[k+i]?=some x->X.N[j]?=some x/\Vis X.env.scope x/\X.env.scope.names.lookup x≠some .local/\((relabel scope X.env).names.lookup x=some .cell\/(relabel scope X.env).names.lookup x=some .free))(y:PI X a iter l)(w:∀s H fp,PG (cx X N scope cl s H fp) a g)(D:∀s H fp,ocT (cx X N scope cl s H fp) oc e)(v:∀s H fp,PE (cx X N scope cl s H fp) d f)(B:∀x,foldedSetIterable iter X.env x=pure x):PE X (.ListComp d [⟨a,iter,oc.toList,0⟩] scope pos) (λσ H Q=>l σ H λJ H1=>∀p,H1 p=none->c σ Q J H1 p):=by
 intro pins s σ H Q I h;rw[eval_ListComp];show sw u o t z y w D v B r I h λn q b E=>let⟨m,A,_⟩:=b.loc;{m,A,λh' C=>⟨.ref _,_,vK n q b C,rfl,E⟩}
theorem zU{b a iter:Expr}{pos:Pos}{d:TI}{g:TG}{c:TE}(l:X.calm=true)(e:LcOk X scope cl)(f:N.length=k+js.length)(p:∀(i j:Nat) x,js[i]?=some j->N[k+i]?=some x->X.N[j]?=some x/\Vis X.env.scope x/\X.env.scope.names.lookup x≠some .local/\((relabel scope X.env).names.lookup x=some .cell\/(relabel scope X.env).names.lookup x=some .free))(o:PI X a iter d)(n:∀s H fp,PG (cx X N scope cl s H fp) a g)(m:∀s H fp,PE (cx X N scope cl s H fp) b c)(q:∀x,foldedSetIterable iter X.env x=pure x:=by intro _;rfl):PE X (.ListComp b [{a,iter,[],0}] scope pos) (tLc k js d g c):=vL (oc:=none) sx l e f p o n (λ_ _ _ _ _ _ h=>h) m q
theorem AG{b a iter c:Expr}{pos:Pos}{f:TI}{g:TG}{d:TT}{e:TE}(n:X.calm=true)(l:LcOk X scope cl)(m:N.length=k+js.length)(r:∀(i j:Nat) x,js[i]?=some j->N[k+i]?=some x->X.N[j]?=some x/\Vis X.env.scope x/\X.env.scope.names.lookup x≠some .local/\((relabel scope X.env).names.lookup x=some .cell\/(relabel scope X.env).names.lookup x=some .free))(q:PI X a iter f)(p:∀s H fp,PG (cx X N scope cl s H fp) a g)(u:∀s H fp,PT (cx X N scope cl s H fp) c d)(o:∀s H fp,PE (cx X N scope cl s H fp) b e)(t:∀x,foldedSetIterable iter X.env x=pure x:=by intro _;rfl):PE X (.ListComp b [{a,iter,[c],0}] scope pos) (De k js f g d e):=vL (oc:=some c) (λ_ _ _ h=>h) n l m r q p u o t
end
end L2
namespace TB
open PySem PySem.SetTable
def adv(mask:Nat)(p:Probe):Probe :=
 if p.more>0 then {p with j:=p.j+1,more:=p.more-1} else
 {p with j:=(leap mask p.i p.perturb).1,more:=runEnd mask (leap mask p.i p.perturb).1-(leap mask p.i p.perturb).1,i:=(leap mask p.i p.perturb).1,perturb:=(leap mask p.i p.perturb).2}
theorem ic(t:SetTable)(p:Probe):advance t p=adv t.mask p:=rfl
def lvP(mask:Nat)(x:Nat×Nat):Probe:={j:=x.1,more:=runEnd mask x.1-x.1,i:=x.1,perturb:=x.2,dummy:=none}
def st(mask:Nat)(h:Int):Probe:=lvP mask (bits h % (mask+1),bits h)
def nth(mask:Nat):Probe->Nat->Probe
 |p,0=>p
 |p,n+1=>nth mask (adv mask p) n
theorem fi(mask:Nat):∀(a b:Nat)(p:Probe),nth mask p (a+b)=nth mask (nth mask p a) b
 |0,b,p=>by rw[zero_add];rfl
 |a+1,b,p=>by
  rw[show a+1+b=(a+b)+1 by lia];change nth mask (adv mask p) (a+b)=nth mask (nth mask (adv mask p) a) b;show fi mask a b _
theorem vM(mask:Nat)(p:Probe)(n:Nat):nth mask p (n+1)=adv mask (nth mask p n):=by
 rw[fi];rfl
def pos(mask:Nat)(h:Int)(n:Nat):Nat:=(nth mask (st mask h) n).j
theorem mB(mask:Nat):∀(m:Nat)(p:Probe),p.more=m->nth mask p m={p with j:=p.j+m,more:=0}
 |0,p,h=>by
  change p=_;cases p;simp at h;subst h;rfl
 |m+1,p,h=>by
  change nth mask (adv mask p) m=_;have e:adv mask p={p with j:=p.j+1,more:=m}:=by
   unfold adv;rw[EW (by lia),h];rfl
  rw[e,mB mask m _ rfl];simp only[Probe.mk.injEq,and_true]
  lia
theorem ph(mask:Nat):∀(m:Nat)(p:Probe),m<=p.more->nth mask p m={p with j:=p.j+m,more:=p.more-m}
 |0,p,h=>by
  change p=_;cases p;rfl
 |m+1,p,h=>by
  change nth mask (adv mask p) m=_;have e:adv mask p={p with j:=p.j+1,more:=p.more-1}:=by
   unfold adv;rw[EW (by lia)]
  rw[e,ph mask m _ (by change m<=p.more-1;lia)];simp only[Probe.mk.injEq,and_true]
  lia
theorem ie(mask:Nat)(x:Nat×Nat):nth mask (lvP mask x) (runEnd mask x.1-x.1+1)=lvP mask (leap mask x.1 x.2):=by
 have e:=mB mask (runEnd mask x.1-x.1) (lvP mask x) rfl;rw[vM,e];unfold adv;rw[EV (by simp)];rfl
theorem AH(mask i:Nat):runEnd mask i-i<=9:=by unfold runEnd;split<;>lia
def lv(mask:Nat):Nat->Nat×Nat->Nat×Nat
 |0,x=>x
 |k+1,x=>lv mask k<|leap mask x.1 x.2
theorem qQ(mask:Nat):∀(a b:Nat)(x:Nat×Nat),lv mask (a+b) x=lv mask b (lv mask a x)
 |0,b,x=>by rw[zero_add];rfl
 |a+1,b,x=>by
  rw[show a+1+b=(a+b)+1 by lia];show qQ mask a b _
theorem pi(mask:Nat):∀(k:Nat)(x:Nat×Nat),∃n,n<=10*k/\nth mask (lvP mask x) n=lvP mask (lv mask k x)
 |0,x=>⟨0,by lia,rfl⟩
 |k+1,x=>by
  let(n,a,e):=pi mask k<|leap mask x.1 x.2;show{(runEnd mask x.1-x.1+1)+n,?_,?_}
  .have:=AH mask x.1;lia
  .rw[fi,ie];show e
theorem ig(mask:Nat):∀(k:Nat)(x:Nat×Nat),(lv mask k x).2=x.2 / 32 ^ k
 |0,x=>by simp[lv]
 |k+1,x=>by
  change(lv mask k<|leap mask x.1 x.2).2=_;rw[ig mask k];change x.2 / 32 / 32 ^ k=_;rw[Nat.div_div_eq_div_mul,Nat.pow_succ,Nat.mul_comm 32]
theorem sy(mask:Nat):∀(k:Nat)(x:Nat×Nat),x.1<=mask->(lv mask k x).1<=mask
 |0,x,h=>h
 |k+1,x,h=>sy mask k _ (by change(x.1*5+1+x.2 / 32) % (mask+1)<=mask;have:=mod_lt (x.1*5+1+x.2 / 32) (show 0<mask+1 by lia);lia)
theorem sB(h:Int):bits h<2 ^ 64:=by
 unfold bits;have h1:=emod_nonneg h (b:=2 ^ 64) (by decide);have h2:=Int.emod_lt_of_pos h (b:=2 ^ 64) (by decide)
 lia
def iH(mask:Nat):Nat->Nat->Nat
 |0,i=>i
 |k+1,i=>iH mask k<|(i*5+1) % (mask+1)
theorem ku(mask:Nat):∀(k i:Nat),lv mask k (i,0)=(iH mask k i,0)
 |0,i=>rfl
 |k+1,i=>by
  change lv mask k ((i*5+1+0 / 32) % (mask+1),0 / 32)=_;simp only[Nat.zero_div,Nat.add_zero];show ku mask k _
def Cyc(mask:Nat):Prop:=∀i,i<=mask->∀j,j<=mask->∃k,k<=mask/\iH mask k i=j
theorem gK(mask:Nat):∀(a b i:Nat),iH mask (a+b) i=iH mask b (iH mask a i)
 |0,b,i=>by rw[zero_add];rfl
 |a+1,b,i=>by
  rw[show a+1+b=(a+b)+1 by lia];show gK mask a b _
def yn(mask:Nat):Nat->Nat->List Nat
 |0,_=>[]
 |n+1,i=>i::yn mask n ((i*5+1) % (mask+1))
theorem pj{mask j:Nat}:∀{n i:Nat},j∈yn mask n i->∃k,k<n/\iH mask k i=j
 |0,_,h=>by simp[yn]at h
 |n+1,i,h=>by
  rcases FU.mp h with e|e
  .show{0,by lia,e.symm}
  .let(k,b,a):=pj e;show{k+1,by lia,a}
theorem vN{mask:Nat}(g:iH mask (mask+1) 0=0)(d:(List.range<|mask+1).all (λj=>(yn mask (mask+1) 0).contains j)=true):Cyc mask:=by
 have all:∀j,j<=mask->∃k,k<=mask/\iH mask k 0=j:=λj f=>by
  rw[Gj]at d;have h1:=d j<|GC.mpr (by lia);rw[List.contains_iff_mem]at h1;let(k,n,e):=pj h1;show{k,by lia,e}
 intro i hi j f;let(a,h,ea):=all i hi;let(b,m,c):=all j f
 by_cases l:a<=b
 .show{b-a,by lia,?_};rw[<-ea,<-gK,show a+(b-a)=b by lia];show c
 .show{mask+1-a+b,by lia,?_};rw[<-ea,<-gK,show a+(mask+1-a+b)=(mask+1)+b by lia,gK,g];show c
def Mk(m:Nat):Prop:=m=7\/m=15\/m=31\/m=63\/m=127\/m=255
theorem Mk.cyc{m:Nat}(h:Mk m):Cyc m:=by
 rcases h with e|e|e|e|e|e<;>subst e<;>show vN (by decide +kernel) (by decide +kernel)
theorem Mk.ge{m:Nat}(h:Mk m):7<=m/\m<=255:=by rcases h with e|e|e|e|e|e<;>subst e<;>lia
theorem Mk.odd{m:Nat}(h:Mk m):m % 2=1:=by rcases h with e|e|e|e|e|e<;>subst e<;>rfl
def mkB(m:Nat):Bool:=m==7||m==15||m==31||m==63||m==127||m==255
theorem AI:(List.range 256).all (λw=>mkB (sizeAbove w-1)&&decide (w<=sizeAbove w-1)&&decide (sizeAbove w<=256))=true:=by decide +kernel
theorem iI{w:Nat}(h:w<=255):Mk (sizeAbove w-1)/\w<=sizeAbove w-1/\sizeAbove w<=256:=by
 have h1:=(Gj.mp AI) w (GC.mpr (by lia));rw[GJ,GJ,FJ,FJ]at h1;show{?_,h1.1.2,h1.2};have h2:=h1.1.1;unfold mkB at h2;rw[or_eq_true,or_eq_true,or_eq_true,or_eq_true,or_eq_true,GP,GP,GP,GP,GP,GP]at h2;rcases h2 with ((((h|h)|h)|h)|h)|h
 .show .inl h
 .show .inr<|.inl h
 .show .inr<|.inr (.inl h)
 .show .inr<|.inr (.inr<|.inl h)
 .show .inr<|.inr (.inr<|.inr (.inl h))
 .show .inr<|.inr (.inr<|.inr (.inr h))
theorem cover{mask:Nat}(c:Cyc mask)(a:Int){j:Nat}(f:j<=mask):∃n,n<10*turns mask/\pos mask a n=j:=by
 have d:(lv mask 13 (bits a % (mask+1),bits a)).2=0:=by
  rw[ig];have:=sB a;show Nat.div_eq_of_lt (by have e:(32:Nat) ^ 13=36893488147419103232:=(by decide);rw[e];change bits a<_;lia)
 have h1:(lv mask 13 (bits a % (mask+1),bits a)).1<=mask:=sy mask _ _ (by have:=mod_lt (bits a) (show 0<mask+1 by lia);change bits a % (mask+1)<=mask;lia);let(k,g,e):=c _ h1 j f;let(n,h,b):=pi mask (13+k) (bits a % (mask+1),bits a);show{n,by unfold turns;lia,?_};unfold pos st;rw[b,qQ];have ex:lv mask 13 (bits a % (mask+1),bits a)=((lv mask 13 (bits a % (mask+1),bits a)).1,0):=by rw[<-d]
 rw[ex,ku];show e
def InT(mask:Nat)(p:Probe):Prop:=p.j+p.more<=mask
theorem jk{mask i:Nat}(h:i<=mask):runEnd mask i<=mask/\i<=runEnd mask i:=by unfold runEnd;split<;>lia
theorem yo{mask:Nat}{p:Probe}(b:InT mask p):InT mask (adv mask p):=by
 unfold adv InT at *
 split
 .change p.j+1+(p.more-1)<=mask;lia
 .have a:(leap mask p.i p.perturb).1<=mask:=by
   change(p.i*5+1+p.perturb / 32) % (mask+1)<=mask;have:=mod_lt (p.i*5+1+p.perturb / 32) (show 0<mask+1 by lia)
   lia
  have:=jk a;change(leap mask p.i p.perturb).1+(runEnd mask (leap mask p.i p.perturb).1-(leap mask p.i p.perturb).1)<=mask
  lia
theorem sC{mask:Nat}:∀(n:Nat){p:Probe},InT mask p->InT mask (nth mask p n)
 |0,_,h=>h
 |n+1,_,h=>sC n<|yo h
theorem AJ{mask:Nat}{x:Nat×Nat}(h:x.1<=mask):InT mask (lvP mask x):=by
 have:=jk h;change x.1+(runEnd mask x.1-x.1)<=mask
 lia
theorem jl(mask:Nat)(h:Int)(n:Nat):pos mask h n<=mask:=by
 have:InT mask (nth mask (st mask h) n):=sC n<|AJ (by have:=mod_lt (bits h) (show 0<mask+1 by lia);change bits h % (mask+1)<=mask;lia);unfold InT at this;unfold pos
 lia
theorem kx(E:Nat->Prop):∀N,E N->∃n,n<=N/\E n/\∀m,m<n->¬E m
 |N,h=>by
  induction N using Nat.strongRecOn with
  |_ N c =>
   by_cases z:∃m,m<N/\E m
   .let(m,a,e):=z;let(n,f,b,d):=c m a e;show{n,by lia,b,d}
   .show{N,FH _,h,λm a e=>z ⟨m,a,e⟩}
theorem jm(mask:Nat):∀(n:Nat)(p:Probe),(nth mask p n).dummy=p.dummy
 |0,_=>rfl
 |n+1,p=>by
  change(nth mask (adv mask p) n).dummy=_;rw[jm mask n];unfold adv
  split<;>rfl
theorem kB(t:SetTable)(c:Nat->Int)(b:Int):∀(n:Nat)(p:Probe)(a:Nat),n<a ->
  (∀m,m<n->∃i,t.slot (nth t.mask p m).j=.live i/\(c i==b)=false)->t.slot (nth t.mask p n).j=.empty ->
  probe.go t c b a p=some (.empty (nth t.mask p n).j p.dummy)
 |0,p,a+1,_,_,e=>by
  have d:t.slot p.j=.empty:=e;unfold probe.go;rw[d];rfl
 |n+1,p,a+1,hf,hl,e=>by
  let(i,h1,h2):=hl 0 (by lia);have f:t.slot p.j=.live i:=h1;unfold probe.go;rw[f];simp only[h2,FN,Fg,ic];rw[kB t c b n (adv t.mask p) a (by lia) (λm g=>hl (m+1) (by lia)) e]
  congr 2
  show jm t.mask 1 p
theorem sD(t:SetTable)(c:Nat->Int)(b:Int)(i:Nat):∀(n:Nat)(p:Probe)(a:Nat),n<a ->
  (∀m,m<n->∃i,t.slot (nth t.mask p m).j=.live i/\(c i==b)=false)->t.slot (nth t.mask p n).j=.live i->(c i==b)=true ->
  probe.go t c b a p=some (.candidate (nth t.mask p n).j i (nth t.mask p<|n+1))
 |0,p,a+1,_,_,e,hh=>by
  have d:t.slot p.j=.live i:=e;unfold probe.go;rw[d];simp only[hh,GG,ic];rfl
 |n+1,p,a+1,hf,hl,e,hh=>by
  let(i',h1,h2):=hl 0 (by lia);have f:t.slot p.j=.live i':=h1;unfold probe.go;rw[f];simp only[h2,FN,Fg,ic];rw[sD t c b i n (adv t.mask p) a (by lia) (λm g=>hl (m+1) (by lia)) e hh];rfl
theorem kG(xs:Array Nat)(j:Nat)(d:∀a b,a<b->b<xs.size->xs.getD a 0<xs.getD b 0):∀(c lo hi:Nat),hi-lo<=c->lo<=hi->hi<=xs.size ->
  (∀k,k<lo->xs.getD k 0<j)->(∀k,hi<=k->k<xs.size->j<=xs.getD k 0) ->
  below.go xs j c lo hi<=xs.size/\(∀k,k<below.go xs j c lo hi->xs.getD k 0<j)/\(∀k,below.go xs j c lo hi<=k->k<xs.size->j<=xs.getD k 0)
 |0,lo,hi,hf,hl,hh,h1,h2=>by
  have e:lo=hi:=by lia
  subst e;show⟨hh,h1,h2⟩
 |c+1,lo,hi,hf,hl,hh,h1,h2=>by
  unfold below.go
  by_cases g:lo<hi
  .rw[EW g];have m:(lo+hi) / 2<hi:=by lia
   have n:lo<=(lo+hi) / 2:=by lia
   have h:xs.getD ((lo+hi) / 2) j=xs.getD ((lo+hi) / 2) 0:=by
    rw[FF,FF,FK (by lia)];rfl
   simp only[h]
   split
   .rename_i f
    show kG xs j d c _ hi (by lia) (by lia) hh (λk i=>?_) h2
    by_cases e:k=(lo+hi) / 2
    .rw[e];show f
    .have:=d k ((lo+hi) / 2) (by lia) (by lia);lia
   .rename_i f
    show kG xs j d c lo _ (by lia) (by lia) (by lia) h1 λk i l=>?_
    by_cases e:k=(lo+hi) / 2
    .rw[e];lia
    .have:=d ((lo+hi) / 2) k (by lia) l;lia
  .rw[EV g];have e:lo=hi:=by lia
   subst e;show⟨hh,h1,h2⟩
def Up(l:List Nat):Prop:=l.Pairwise (· < ·)
theorem AK{l:List Nat}(c:Up l){a b:Nat}(e:a<b)(d:b<l.length):l.toArray.getD a 0<l.toArray.getD b 0:=by
 unfold Up at c;have:=GD.mp c a b (by lia) d e;simp[FF,show a<l.length by lia,d];show this
theorem cZ{l:List Nat}(d:Up l)(j:Nat):below l.toArray j<=l.length/\(∀k (c:k<l.length),k<below l.toArray j->l[k]<j)/\(∀k (c:k<l.length),below l.toArray j<=k->j<=l[k]):=by
 have:=kG l.toArray j (λa b e f=>AK d e (by simpa using f)) l.toArray.size 0 l.toArray.size (by lia) (by lia) (FH _) (by intro k c;lia) (by intro k c g;lia);unfold below;show{by simpa using this.1,λk c h1=>?_,λk c h1=>?_}
 .have:=this.2.1 k h1;simpa [FF,c]using this
 .have:=this.2.2 k h1 (by simpa using c);simpa [FF,c]using this
structure Tb(t:SetTable)(l:List Nat):Prop where
 pl:t.place=l.toArray
 nd:t.dummies=#[]
 up:Up l
 le:∀j∈l,j<=t.mask
theorem sE(j:Nat):has #[] j=false:=by
 unfold has;simp
theorem jT{t:SetTable}{l:List Nat}(T:Tb t l){i j:Nat}(a:l[i]?=some j):t.slot j=.live i:=by
 let(hi,e):=FV.mp a;let(b1,b2,b3):=cZ T.up j;have b:below l.toArray j=i:=by
  rcases Nat.lt_trichotomy (below l.toArray j) i with z|z|z
  .have:=b3 (below l.toArray j) (by lia)<|FH _;have:=GD.mp T.up (below l.toArray j) i (by lia) hi z
   lia
  .show z
  .have:=b2 i hi z;lia
 unfold SetTable.slot;rw[T.pl,b];simp[a]
theorem pk{t:SetTable}{l:List Nat}(T:Tb t l){j:Nat}(a:j∉l):t.slot j=.empty:=by
 unfold SetTable.slot;rw[T.pl,T.nd,sE];have:¬(l.toArray[below l.toArray j]?==some j)=true:=by
  intro z;have b:l[below l.toArray j]?=some j:=by simpa using z
  show a<|FP b
 simp only[this,FN,Fg]
theorem ud{l:List Nat}(d:Up l){j:Nat}(h:j∉l):Up (l.take (below l.toArray j)++j::l.drop (below l.toArray j)):=by
 let(b1,b2,b3):=cZ d j;unfold Up;rw[List.pairwise_append,Ga];have i:(l.take<|below l.toArray j).Pairwise (· < ·):=Pairwise.sublist (take_sublist _ _) d;have m:(l.drop<|below l.toArray j).Pairwise (· < ·):=Pairwise.sublist (List.drop_sublist _ _) d;have h1:∀a∈l.take (below l.toArray j),a<j:=by
  intro a c;let(k,g,e):=GF.mp c;rw[Fx]at g;rw[getElem_take]at e;rw[<-e];show b2 k (by lia) (by lia)
 have h2:∀a∈l.drop (below l.toArray j),j<a:=by
  intro a c;have n:a≠j:=λe=>h (e ▸ List.mem_of_mem_drop c);let(k,g,e):=GF.mp c;rw[length_drop]at g;rw[List.getElem_drop]at e;have:=b3 (below l.toArray j+k) (by lia) (by lia)
  lia
 show{i,⟨h2,m⟩,λa c b f=>?_};rcases FU.mp f with rfl|f
 .show h1 a c
 .have:=h1 a c;have:=h2 b f;lia
theorem vO{t:SetTable}{l:List Nat}(T:Tb t l){j:Nat}(c:j∉l)(d:j<=t.mask):Tb (t.put j).1 (l.take (below l.toArray j)++j::l.drop (below l.toArray j))/\(t.put j).2=below l.toArray j/\(t.put j).1.mask=t.mask:=by
 show{{?_,?_,ud T.up c,?_},?_,rfl}
 .change insertAt t.place (below t.place j) j=_;rw[T.pl];apply Array.toList_inj.mp;rw[SetTable.toList_insertAt]
 .change(if has t.dummies j=true then _ else t.dummies)=#[];rw[T.nd,sE];rfl
 .intro a b;rcases Fd.mp b with h|h
  .show T.le a<|List.mem_of_mem_take h
  .rcases FU.mp h with rfl|h
   .show d
   .show T.le a<|List.mem_of_mem_drop h
 .change below t.place j=_;rw[T.pl]
def gY(mask:Nat)(zs:List<|Nat×Int):Prop:=∀z∈zs,∃n,pos mask z.2 n=z.1/\∀m,m<n->pos mask z.2 m∈zs.map (·.1)
theorem gY.nil(mask:Nat):gY mask []:=by intro z a;simp at a
theorem gY.mono{mask:Nat}{zs ys:List (Nat×Int)}(d:gY mask zs)(new:Nat×Int)(a:∀z∈ys,z∈zs\/z=new)(h:∀z∈zs,z∈ys)(g:∃n,pos mask new.2 n=new.1/\∀m,m<n->pos mask new.2 m∈zs.map (·.1)):gY mask ys:=by
 intro z j;have c:∀b,b∈zs.map (·.1)->b∈ys.map (·.1):=λb f=>by
  let(y,i,e):=EZ.mp f;show EZ.mpr ⟨y,h y i,e⟩
 rcases a z j with h1|h1
 .let(n,e,p):=d z h1;show{n,e,λm a=>c _<|p m a}
 .subst h1;let(n,e,p):=g;show{n,e,λm a=>c _<|p m a}
def emp(owner:Array<|Option Nat)(j:Nat):Bool:=(owner.getD j<|some 0).isNone
theorem mG(mask:Nat)(owner:Array<|Option Nat):∀(a:Nat)(x:Nat×Nat),x.1<=mask->(∃k,k<a/\emp owner (lv mask k x).1=true) ->
  ∃j n,layClean.free mask owner a x.1 x.2=some j/\(nth mask (lvP mask x) n).j=j/\emp owner j=true/\∀m,m<n->emp owner (nth mask (lvP mask x) m).j=false
 |0,x,_,h=>by let(k,c,_):=h;lia
 |a+1,x,hx,h=>by
  unfold layClean.free;have t:=jk hx;have d:∀m,m<=runEnd mask x.1-x.1->(nth mask (lvP mask x) m).j=x.1+m:=λm b=>by
   rw[ph mask m (lvP mask x) b];rfl
  cases e:(List.range<|runEnd mask x.1+1-x.1).find? (λk=>(owner.getD (x.1+k)<|some 0).isNone)with
  |some k =>
   rw[List.find?_range_eq_some]at e;let(e1,e2,e3):=e;have c:k<=runEnd mask x.1-x.1:=by have:=GC.mp e2;lia
   show{x.1+k,k,rfl,d k c,e1,λm b=>?_};rw[d m (by lia)];have:=e3 m b;simpa [emp]using this
  |none =>
   rw[List.find?_range_eq_none]at e;let(k,c,h1):=h;have s:k≠0:=by
    rintro rfl;have:=e 0 (by lia);have p:(owner.getD x.1<|some 0).isNone=true:=h1;rw[Nat.add_zero,p]at this;simp at this
   obtain⟨f,rfl⟩:∃f,k=f+1:=⟨k-1,by lia⟩;have q:(leap mask x.1 x.2).1<=mask:=sy mask 1 x hx;let(j,n,g,i,l,o):=mG mask owner a (leap mask x.1 x.2) q ⟨f,by lia,h1⟩;show{j,(runEnd mask x.1-x.1+1)+n,g,?_,l,λm b=>?_}
   .rw[fi,ie];show i
   .by_cases r:m<=runEnd mask x.1-x.1
    .rw[d m r];have:=e m (by lia);simpa [emp]using this
    .obtain⟨m',rfl⟩:∃m',m=(runEnd mask x.1-x.1+1)+m':={m-(runEnd mask x.1-x.1+1),by lia};rw[fi,ie];show o m' (by lia)
theorem yp{mask:Nat}(c:Cyc mask)(owner:Array<|Option Nat)(a:Int){b:Nat}(h:b<=mask)(g:emp owner b=true):
  ∃j n,layClean.free mask owner (turns mask) (bits a % (mask+1)) (bits a)=some j/\pos mask a n=j/\emp owner j=true/\∀m,m<n->emp owner (pos mask a m)=false:=by
 have f:(lv mask 13 (bits a % (mask+1),bits a)).2=0:=by
  rw[ig];have:=sB a;show Nat.div_eq_of_lt (by have e:(32:Nat) ^ 13=36893488147419103232:=(by decide);rw[e];change bits a<_;lia)
 have d:bits a % (mask+1)<=mask:=by have:=mod_lt (bits a) (show 0<mask+1 by lia);lia
 have h1:(lv mask 13 (bits a % (mask+1),bits a)).1<=mask:=sy mask _ _ d;let(k,i,e):=c _ h1 b h;show mG mask owner (turns mask) (bits a % (mask+1),bits a) d {13+k,by unfold turns;lia,?_};rw[qQ];have ex:lv mask 13 (bits a % (mask+1),bits a)=((lv mask 13 (bits a % (mask+1),bits a)).1,0):=by rw[<-f]
 rw[ex,ku,e];show g
def live(mask:Nat)(owner:Array<|Option Nat):List (Nat×Nat):=(List.range<|mask+1).filterMap λj=>(owner.getD j none).map (j,·)
theorem gm{d j:Type}{f g:d->Option j}:∀{l:List d},(∀x∈l,g x=f x)->l.filterMap g=l.filterMap f
 |[],_=>rfl
 |x::l,h=>by
  have c:=gm (l:=l) λy i=>h y<|FR _ i;have a:=h x FY;cases e:f x with
  |none=>rw[GI e,GI<|a.trans e,c]
  |some b=>rw[Fm e,Fm<|a.trans e,c]
theorem gZ{i n:Type}(f g:i->Option n)(a:i)(v:n)(j:f a=none)(k:g a=some v)(d:∀x,x≠a->g x=f x):∀(l:List i),l.Nodup->a∈l ->
  (l.filterMap g).Perm (v::l.filterMap f)
 |[],_,h=>by simp at h
 |x::l,hn,h=>by
  let(h1,h2):=GW.mp hn
  by_cases e:x=a
  .subst e;rw[Fm k,GI j];have:l.filterMap g=l.filterMap f:=gm λy p=>d y λe=>h1 (e ▸ p);rw[this]
  .have o:a∈l:=by
    rcases FU.mp h with z|z
    .show absurd z.symm e
    .show z
   have m:=gZ f g a v j k d l h2 o;cases c:f x with
   |none =>
    rw[GI c,GI (by rw[d x e,c])];show m
   |some b =>
    rw[Fm c,Fm (by rw[d x e,c])];show(m.cons b).trans (List.Perm.swap _ _ _)
structure Lay(mask:Nat)(owner:Array<|Option Nat)(hs:List Int):Prop where
 size:owner.size=mask+1
 perm:((live mask owner).map (·.2)).Perm (List.range hs.length)
 path:∀j i,owner.getD j none=some i->∃h,hs[i]?=some h/\∃n,pos mask h n=j/\∀m,m<n->emp owner (pos mask h m)=false
theorem iJ{mask:Nat}{owner:Array (Option Nat)}(b:owner.size=mask+1){j:Nat}(a:j<=mask):emp owner j=(owner.getD j none).isNone:=by
 unfold emp;rw[FF,FF,FK (by lia)];rfl
theorem yq(mask:Nat):Lay mask (Array.replicate (mask+1) none) []:=by
 have e:∀j,(Array.replicate (mask+1) (none:Option Nat)).getD j none=none:=λj=>by
  rw[FF,Array.getElem?_replicate]
  split<;>rfl
 show{by simp,?_,λj i h=>?_}
 .have:live mask (Array.replicate (mask+1) none)=[]:=by
   unfold live;rw[List.filterMap_eq_nil_iff];intro j _;rw[e];rfl
  rw[this];simp
 .rw[e]at h;cases h
theorem vP{mask:Nat}{owner:Array (Option Nat)}{d:List Int}(c:Lay mask owner d)(b:d.length<=mask):∃j,j<=mask/\emp owner j=true:=by
 by_cases h:∃j,j<=mask/\emp owner j=true
 .show h
 .exfalso
  have all:∀j,j<=mask->∃i,owner.getD j none=some i:=λj a=>by
   cases e:owner.getD j none with
   |some i=>show⟨i,rfl⟩
   |none=>show(h {j,a,by rw[iJ c.size a,e];rfl}).elim
  have g:(live mask owner).length=mask+1:=by
   have key:∀l:List Nat,(∀j∈l,j<=mask)->(l.filterMap λj=>(owner.getD j none).map (j,·)).length=l.length:=by
    intro l
    induction l with
    |nil=>intro _;rfl
    |cons x l f =>
     intro b;let(i,e):=all x<|b x (by simp);rw[Fm (by rw[e];rfl),Fs,Fs,f λj a=>b j (by simp[a])]
   unfold live;rw[key _ (λj a=>by have:=GC.mp a;lia),GH]
  have:=c.perm.length_eq;rw[ES,GH,g]at this
  lia
theorem iK{owner:Array (Option Nat)}{j k:Nat}{v:Option Nat}(a:j<owner.size):(owner.setIfInBounds j v).getD k none=if k=j then v else owner.getD k none:=by
 rw[FF,FF,Array.getElem?_setIfInBounds]
 by_cases e:j=k
 .subst e;simp[a]
 .rw[EV e,EV λz=>e z.symm]
theorem sF{mask:Nat}{owner:Array (Option Nat)}{j k i:Nat}(c:owner.size=mask+1)(d:j<=mask)(b:k<=mask)(a:emp owner k=false):emp (owner.setIfInBounds j<|some i) k=false:=by
 rw[iJ (by simpa using c) b,iK (by lia)];rw[iJ c b]at a
 split
 .rfl
 .show a
theorem vQ{mask:Nat}(c:Cyc mask){owner:Array (Option Nat)}{a:List Int}(b:Lay mask owner a)(u:a.length<=mask)(d:Int):
  ∃j,layClean.free mask owner (turns mask) (bits d % (mask+1)) (bits d)=some j/\Lay mask (owner.setIfInBounds j<|some a.length) (a++[d]):=by
 let(y,t,r):=vP b u;let(j,n,e1,e2,e3,e4):=yp c owner d t r;have g:j<=mask:=by rw[<-e2];show jl mask d n
 have s:owner.getD j none=none:=by
  rw[iJ b.size g]at e3;show Option.isNone_iff_eq_none.mp e3
 show{j,e1,by simpa using b.size,?_,λk i f=>?_}
 .have p:=gZ (λk=>(owner.getD k none).map (k,·)) (λk=>((owner.setIfInBounds j<|some a.length).getD k none).map (k,·)) j (j,a.length) (by simp[s])
   (by change((owner.setIfInBounds j<|some a.length).getD j none).map (j,·)=_;rw[iK (by rw[b.size];lia),EW rfl];rfl) (λx v=>by change((owner.setIfInBounds j<|some a.length).getD x none).map (x,·)=(owner.getD x none).map (x,·);rw[iK (by rw[b.size];lia),EV v]) (List.range<|mask+1) nodup_range (GC.mpr (by lia))
  have p2:((live mask<|owner.setIfInBounds j (some a.length)).map (·.2)).Perm (a.length::(live mask owner).map (·.2)):=p.map (·.2);rw[FI,GQ,List.range_succ];show p2.trans<|(b.perm.cons _).trans (List.perm_append_singleton _ _).symm
 .rw[iK (by rw[b.size];lia)]at f
  by_cases e:k=j
  .subst e;rw[EW rfl]at f;cases f;show{d,by simp,n,e2,λm h=>sF b.size g (jl _ _ _)<|e4 m h}
  .rw[EV e]at f;let(h',l,w,o,q):=b.path k i f;have hi:i<a.length:=(FV.mp l).1;show{h',by rw[Fy hi];show l,w,o,λm h=>sF b.size g (jl _ _ _)<|q m h}
theorem jC{mask:Nat}(c:Cyc mask)(hashes:Array Int)(n:hashes.size<=mask+1):∃owner,layClean mask hashes=some owner/\Lay mask owner hashes.toList:=by
 have key:∀(r a:List Int)(owner:Array<|Option Nat),Lay mask owner a->a.length+r.length<=mask+1 ->
   ∃b,r.foldl (λl h=>do
    let(owner,k) <- l
    let f <- layClean.free mask owner (turns mask) (bits h % (mask+1)) (bits h)
    pure (owner.setIfInBounds f<|some k,k+1)) (some (owner,a.length))=some (b,a.length+r.length)/\Lay mask b (a++r):=by
  intro r
  induction r with
  |nil=>intro a owner d _;show{owner,rfl,by simpa using d}
  |cons h r p =>
   intro a owner d o;rw[Fs]at o;let(f,e,j):=vQ c d (by lia) h;let(b,i,g):=p (a++[h]) _ j (by rw[FI,GQ];lia);show{b,?_,by rw[append_assoc]at g;show g};rw[foldl_cons];have m:(do
    let(owner,k) <- some (owner,a.length)
    let f <- layClean.free mask owner (turns mask) (bits h % (mask+1)) (bits h)
    pure (owner.setIfInBounds f<|some k,k+1))=some (owner.setIfInBounds f<|some a.length,a.length+1):=by
    change(layClean.free mask owner (turns mask) (bits h % (mask+1))<|bits h).bind _=_;rw[e];rfl
   rw[m];rw[FI,GQ]at i;rw[i,Fs]
   congr 2
   lia
 let(b,e,d):=key hashes.toList [] _ (yq mask) (by simpa using n);show{b,?_,by simpa using d}
 unfold layClean;rw[<-Array.foldl_toList];have e2:(0:Nat)=([]:List Int).length:=rfl;rw[e2,e];rfl
theorem jn{t:SetTable}{hashes:Array Int}{wanted:Nat}(c:Cyc<|sizeAbove wanted-1)(A:hashes.size<=sizeAbove wanted-1+1):
  ∃(t':SetTable) (zs:List<|Nat×Nat),t.relaid hashes wanted=some (t',(zs.map (·.2)).toArray)/\t'.mask=sizeAbove wanted-1/\t'.led=t.led/\t'.plain=t.plain /\
   Tb t' (zs.map (·.1))/\(zs.map (·.2)).Perm (List.range hashes.size)/\gY t'.mask (zs.map λz=>(z.1,hashes.getD z.2 0)):=by
 let(a,e,g):=jC c hashes A;show{{mask:=sizeAbove wanted-1,place:=((live (sizeAbove wanted-1) a).map (·.1)).toArray,dummies:=#[],finger:=t.finger,led:=t.led,moves:=t.movedTo<|sizeAbove wanted-1,plain:=t.plain},live (sizeAbove wanted-1) a,?_,rfl,rfl,rfl,{rfl,rfl,?_,?_},?_,?_}
 .unfold relaid laid;rw[e];rfl
 .unfold Up live;rw[List.map_filterMap];have e1:((List.range<|sizeAbove wanted-1+1).filterMap λd=>((a.getD d none).map (d,·)).map (·.1))=(List.range<|sizeAbove wanted-1+1).filter λd=>(a.getD d none).isSome:=by
   generalize List.range (sizeAbove wanted-1+1)=l
   induction l with
   |nil=>rfl
   |cons x l q =>
    cases ex:a.getD x none with
    |none=>rw[GI (by rw[ex];rfl),Gh (by simp[ex])];show q
    |some i=>rw[Fm (b:=x) (by rw[ex];rfl),GX (by simp[ex]),q]
  rw[e1];show Pairwise.sublist filter_sublist List.pairwise_lt_range
 .intro d w;let(z,f,rfl):=EZ.mp w;unfold live at f;let(k,j,e1):=GZ.mp f;cases ex:a.getD k none with
  |none=>rw[ex]at e1;cases e1
  |some i =>
   rw[ex]at e1;have e2:(k,i)=z:=Option.some.inj e1;subst e2;have:=GC.mp j;change k<=sizeAbove wanted-1
   lia
 .have:=g.perm;rw[FQ]at this;show this
 .intro y C;let(z,f,rfl):=EZ.mp C;have key:∀z:Nat×Nat,z∈live (sizeAbove wanted-1) a↔z.1<=sizeAbove wanted-1/\a.getD z.1 none=some z.2:=by
   intro z;unfold live;rw[GZ];constructor
   .rintro⟨k,j,e1⟩;cases ex:a.getD k none with
    |none=>rw[ex]at e1;cases e1
    |some i =>
     rw[ex]at e1;have e2:(k,i)=z:=Option.some.inj e1;subst e2;have:=GC.mp j;show{by lia,ex}
   .rintro⟨h1,h2⟩;show{z.1,GC.mpr (by lia),by rw[h2];rfl}
  let(E,D):=(key z).mp f;let(h,r,n,u,v):=g.path _ _ D;have o:hashes.getD z.2 0=h:=by
   have s:hashes[z.2]?=some h:=by simpa using r
   rw[FF,s];rfl
  show{n,by rw[o];show u,λm B=>?_};have:=v m B;have p:=jl (sizeAbove wanted-1) h m;rw[iJ g.size p]at this;cases ex:a.getD (pos (sizeAbove wanted-1) h m) none with
  |none=>rw[ex]at this;cases this
  |some i =>
   rw[FD];change pos (sizeAbove wanted-1) (hashes.getD z.2 0) m∈_;rw[o];show EZ.mpr {(pos (sizeAbove wanted-1) h m,i),(key _).mpr ⟨p,ex⟩,rfl}
section
variable{prog:qw}{w:qn}{K:Type}[DecidableEq K]{knd:KeyKind prog w K}{A:qd}{E:xx->xg->Prop}{s:xg}
theorem jN(n:Nat){v:xx}(h:carriedByValue v=true):ofAClassStatement n v=pure false:=by
 cases v with
 |ref a=>simp[carriedByValue]at h
 |_=>cases n<;>rfl
theorem hJ{ks:List K}{a:zi}{Q:Bool->xg->Prop}(d:IsTupleKey knd s.heap ks a)(e:Q false s):wpAny (model prog w) A (ofAClassStatement 8<|.ref a) Q E s:=by
 have f:=d.typeIs;let(o,j,n,h,_,g,hi):=d;unfold ofAClassStatement;show Wb<|wpAny_typeOf f ?_;dsimp only;rw[EW (by decide)];show Wb<|Wp ?_;simp only[Gn,FN,Fg];show Wb<|wpAny_seqItems h g ?_;dsimp only;show Wb ?_;rw[<-forIn_toList];show wpAny_forIn_list _ (λrest r s'=>r.1=none/\s'=s/\∀v∈rest,carriedByValue v=true) _ ?_ ?_ _ _ ⟨rfl,rfl,hi.byValue⟩
 .rintro v rest r s' ⟨b,rfl,c⟩;rw[jN _<|c v FY];show Wb<|Wp ?_;simp only[FN,Fg];show Wp {rfl,rfl,λu i=>c u<|FR _ i}
 .rintro⟨k,l⟩ s' ⟨b,rfl,_⟩;simp only at b;subst b;show Wp e
theorem vR(n:Nat){x:xx}(a:x.scannable=true):∃b,hashByValue n x=pure b:=⟨_,hashByValue_scannable n a⟩
theorem ue{ks:List K}{a:zi}{Q:Bool->xg->Prop}(i:IsTupleKey knd s.heap ks a)(q:∀k v,knd.is k v=true->v.scannable=true)(h:∀b,Q b s):wpAny (model prog w) A (hashByValue 8<|.ref a) Q E s:=by
 have j:=i.typeIs;let(o,g,n,p,_,m,hi):=i;have d:∀v∈g.toList,v.scannable=true:=by
  generalize g.toList=l at hi
  induction hi with
  |nil=>intro v c;simp at c
  |cons h1 _ x =>
   intro v c;rcases FU.mp c with rfl|c
   .show q _ _ h1
   .show x v c
 unfold hashByValue;show Wb<|wpAny_specialOf j F.slot_tuple_hash.lookup ?_;change wpAny _ _ (seqItems? (.ref a) >>= _) _ _ s;show Wb<|wpAny_seqItems p m ?_;show Wb ?_;change wpAny _ _ (forIn g _ _) _ _ s;rw[<-forIn_toList];show wpAny_forIn_list _ (λrest r s'=>r.1=none/\s'=s/\∀v∈rest,v.scannable=true) _ ?_ ?_ _ _ ⟨rfl,rfl,d⟩
 .rintro v rest r s' ⟨f,rfl,d⟩;let(b,e):=vR 7<|d v FY;rw[e];show Wb<|Wp ?_;cases b with
  |true =>
   simp only[Gn,FN,Fg];show Wp {rfl,rfl,λu t=>d u<|FR _ t}
  |false =>
   simp only[Bool.not_false,GG];show Wp<|Wp (h false)
 .rintro⟨y,z⟩ s' ⟨f,rfl,_⟩;simp only at f;subst f;show Wp<|h true
theorem yr{k:List K}{b:zi}(g:IsTupleKey knd s.heap k b)(stored:List xx)(m:∀v∈stored,∃c a,v=.ref a/\IsTupleKey knd s.heap c a){Q:Bool->xg->Prop}(j:Q false s):
  wpAny (model prog w) A (searchCouldBeSeen (.ref b) stored) Q E s:=by
 unfold searchCouldBeSeen;show Wb ?_;show wpAny_forIn_list _ (λrest r s'=>r.1=none/\s'=s/\∀v∈rest,∃c a,v=.ref a/\IsTupleKey knd s.heap c a) _ ?_ ?_ _ _ ⟨rfl,rfl,m⟩
 .rintro v rest r s' ⟨d,rfl,e⟩;let(c,a,rfl,h):=e v FY;have f:=λu n=>e u (FR _ n)
  by_cases i:(b==a)=true
  .simp only[i,Bool.true_or,GG];show Wp ⟨rfl,rfl,f⟩
  .have o:(b==a)=false:=by simpa using i
   have l:carriedByValue (.ref b)=false:=rfl;simp only[o,l,Bool.false_and,Bool.or_false,FN,Fg];show Wb<|wpAny_eqIsQuiet_tuple g ?_;simp only[Gn,FN,Fg];show Wb<|wpAny_eqIsQuiet_tuple h ?_;simp only[Gn,FN,Fg];show Wb<|hJ g ?_;simp only[FN,Fg];show Wb<|hJ h ?_;simp only[FN,Fg];show Wp ⟨rfl,rfl,f⟩
 .rintro⟨p,q⟩ s' ⟨d,rfl,_⟩;simp only at d;subst d;show Wp j
end
section
variable{prog:qw}{w:qn}{K:Type}[DecidableEq K](knd:KeyKind prog w K)
abbrev Ent(K:Type):=Nat×zi×List K
def ent(z:Ent K):Int×xx:=(tupleKeyHash knd z.2.2,.ref z.2.1)
def pth(z:Ent K):Nat×Int:=(z.1,tupleKeyHash knd z.2.2)
structure TS(h:qb)(a:zi)(zs:List<|Ent K):Prop where
 ob:∃o es ep t,h.get? a=some o/\o.ExactSet/\o.data=.set es ep t/\es.toList=zs.map (ent knd)/\Tb t (zs.map (·.1))/\Mk t.mask/\zs.length*5<t.mask*3/\gY t.mask (zs.map<|pth knd)
 keys:∀z∈zs,IsTupleKey knd h z.2.2 z.2.1
 nd:(zs.map (·.2.2)).Nodup
variable{knd}
variable{A:qd}{E:xx->xg->Prop}{s:xg}
theorem gL{t:SetTable}{l:List Nat}(T:Tb t l):t.fill=l.length:=by
 unfold SetTable.fill;rw[T.pl,T.nd];simp
theorem gM{t:SetTable}{l:List Nat}(T:Tb t l){n:Nat}(b:l.length=n)(a:n<=t.mask):t.fits n=true:=by
 unfold SetTable.fits;rw[gL T,T.pl];simp[b,a]
theorem kH{mask:Nat}{a:Int}(b m:Nat):(nth mask (nth mask (st mask a) b) m).j=pos mask a (b+m):=by
 unfold pos;rw[fi]
theorem pq{a b:zi}{o:Obj}{l:Array (Int×xx)}{a7:Nat}{t:SetTable}{zs:List (Ent K)}{k:List K}{Q:SetFound->xg->Prop}(c5:A.units<cLine)(a4:s.heap.get? a=some o)(hd:o.data=.set l a7 t)(Z:l.toList=zs.map (ent knd))(T:Tb t<|zs.map (·.1))(a0:t.fits l.size=true)(c2:t.gaveWay=false)(a1:∀z∈zs,IsTupleKey knd s.heap z.2.2 z.2.1)(X:IsTupleKey knd s.heap k b){N:Nat}(W:pos t.mask (tupleKeyHash knd k) N∉zs.map (·.1))(d2:N<10*turns t.mask)(b5:∀m,m<N->pos t.mask (tupleKeyHash knd k) m∈zs.map (·.1))(c9:(∃z∈zs,z.2.2=k)->Q (.there none) s)(d0:(∀m,m<N->∀z∈zs,z.1=pos t.mask (tupleKeyHash knd k) m->z.2.2≠k)->Q (.free (pos t.mask (tupleKeyHash knd k) N) false) s):
  ∀(d c h:Nat)(S:Option SetTable.Probe),N-c=d->c<=N->d<h->S.getD (t.probeStart<|tupleKeyHash knd k)=nth t.mask (st t.mask<|tupleKeyHash knd k) c ->
   (∀m,m<c->∀z∈zs,z.1=pos t.mask (tupleKeyHash knd k) m->z.2.2≠k) ->
   wpAny (model prog w) A (setSearchFrom a (.ref b) (tupleKeyHash knd k) true h S) Q E s:=by
 intro d
 induction d using Nat.strongRecOn with
 |_ d c8 =>
  intro c h S d3 d9 d4 c4 a5;obtain⟨h,rfl⟩:∃f,h=f+1:=⟨h-1,by lia⟩;unfold setSearchFrom;show Wb<|wpAny_setState_of a4 hd a0 ?_;dsimp only;rw[c2];simp only[FN,Fg];rw[c4];have G:∀{i:Nat}{z:Ent K},zs[i]?=some z->l[i]?=some (ent knd z):=λ{i z} e=>by
   rw[<-Gd,Z,FE,e];rfl
  let(n,d8,b9,I):=kx (λm=>pos t.mask (tupleKeyHash knd k) (c+m)∉zs.map (·.1)\/∃z∈zs,z.1=pos t.mask (tupleKeyHash knd k) (c+m)/\tupleKeyHash knd z.2.2=tupleKeyHash knd k) (N-c)
   (.inl (by rw[show c+(N-c)=N by lia];show W))
  have a2:∀m,pos t.mask (tupleKeyHash knd k) m∈zs.map (·.1)->∃i z,t.slot (pos t.mask (tupleKeyHash knd k) m)=.live i/\zs[i]?=some z/\z.1=pos t.mask (tupleKeyHash knd k) m:=λm u=>by
   let(i,hi,e):=GF.mp u;have r:i<zs.length:=by simpa using hi
   have e1:(zs.map (·.1))[i]?=some (pos t.mask (tupleKeyHash knd k) m):=by rw[ET hi,e]
   show{i,zs[i],jT T e1,by simp[r],?_};rw[getElem_map]at e;show e
  have a6:∀m,m<n->∃i,t.slot (nth t.mask (nth t.mask (st t.mask<|tupleKeyHash knd k) c) m).j=.live i/\((l[i]?.map (·.1)).getD 0==tupleKeyHash knd k)=false:=λm u=>by
   have h1:pos t.mask (tupleKeyHash knd k) (c+m)∈zs.map (·.1):=by
    by_cases z:pos t.mask (tupleKeyHash knd k) (c+m)∈zs.map (·.1)
    .show z
    .show(I m u<|.inl z).elim
   let(i,z,e1,e2,e3):=a2 _ h1;show{i,by rw[kH];show e1,?_};rw[G e2];change(tupleKeyHash knd z.2.2==tupleKeyHash knd k)=false;rw[Fl];intro e4;show I m u<|.inr {z,FP e2,e3,e4}
  by_cases x:pos t.mask (tupleKeyHash knd k) (c+n)∈zs.map (·.1)
  ·
   have b6:∃z∈zs,z.1=pos t.mask (tupleKeyHash knd k) (c+n)/\tupleKeyHash knd z.2.2=tupleKeyHash knd k:=by
    rcases b9 with e|e
    .show(e x).elim
    .show e
   let(i,z,e1,e2,e3):=a2 _ x;have D:z∈zs:=FP e2;have c7:tupleKeyHash knd z.2.2=tupleKeyHash knd k:=by
    let(g,p,a8,a9):=b6;have c0:g=z:=by
     let(q,r,B):=GF.mp p;have J:(zs.map (·.1))[q]?=some (pos t.mask (tupleKeyHash knd k)<|c+n):=by rw[FE,ET r,B,<-a8];rfl
     have C:=jT T J;rw[e1]at C;cases C;rw[ET r,B]at e2;show Option.some.inj e2
    rw[<-c0];show a9
   have a3:c+n<N:=by
    rcases lt_or_ge (c+n) N with g|g
    .show g
    .have:c+n=N:=by lia
     rw[this]at x;show(W x).elim
   have P:=sD t (λi=>(l[i]?.map (·.1)).getD 0) (tupleKeyHash knd k) i n (nth t.mask (st t.mask<|tupleKeyHash knd k) c) (10*turns t.mask) (by lia) a6 (by rw[kH];show e1)
    (by rw[G e2];change(tupleKeyHash knd z.2.2==tupleKeyHash knd k)=true;rw[c7];simp)
   generalize L:SetTable.probe t _ (tupleKeyHash knd k) (nth t.mask (st t.mask<|tupleKeyHash knd k) c)=R;have O:R=some (.candidate (nth t.mask (nth t.mask (st t.mask<|tupleKeyHash knd k) c) n).j i (nth t.mask (nth t.mask (st t.mask<|tupleKeyHash knd k) c)<|n+1)):=L.symm.trans P;subst O;dsimp only;have U:wpAny (model prog w) A (match l[i]? with
      |some (_,y)=>do
       let V <- holding [y] (eqBool y<|.ref b)
       let(es',_,t') <- setState a
       if (true&&V)=true then return SetFound.there none
       let some same:=t'.sameMemory t.moves t.mask|unsupported "set.changed-during-lookup:is-the-new-block-at-the-old-address"
       let d1 <- match (if same then t'.slot (nth t.mask (nth t.mask (st t.mask<|tupleKeyHash knd k) c) n).j else .empty)with
        |.live q=>match es'[q]? with
         |some (_,y')=>do pure (if <- isSame y' y then some q else none)
         |none=>pure none
        |_=>pure none
       match d1 with
       |none=>rule "set.search.anew";setSearchFrom a (.ref b) (tupleKeyHash knd k) true h none
       |some q=>if V then return SetFound.there (some q)else setSearchFrom a (.ref b) (tupleKeyHash knd k) true h (some<|nth t.mask (nth t.mask (st t.mask<|tupleKeyHash knd k) c) (n+1))
      | _=>unsupported "internal:set-entry") Q E s:=by
    rw[G e2];change wpAny _ _ (holding [Value.ref z.2.1] (eqBool (.ref z.2.1)<|.ref b) >>= _) _ _ _;show Wb<|wpAny_holding (wpAny_eqBool_tuple c5 (a1 z D) X ?_);show Wb<|wpAny_setState_of a4 hd a0 ?_;dsimp only
    by_cases H:z.2.2=k
    .rw[Fe H];simp only[Bool.and_self,GG];show Wp<|c9 ⟨z,D,H⟩
    .rw[FZ H];simp only[Bool.and_false,FN,Fg];have c3:t.sameMemory t.moves t.mask=some true:=by unfold SetTable.sameMemory;simp
     rw[c3];simp only[GG];rw[kH,e1];dsimp only;rw[G e2];dsimp only;show Wb<|wpAny_isSame_ref_self ?_;simp only[GG];show Wb<|Wp ?_;dsimp only;show c8 (N-(c+n+1)) (by lia) (c+n+1) h _ rfl (by lia) (by lia) ?_ ?_
     .change nth t.mask (nth t.mask (st t.mask<|tupleKeyHash knd k) c) (n+1)=_;rw[<-fi];rfl
     .intro m u g p e
      by_cases M:m<c
      .show a5 m M g p e
      .intro F;have d7:pos t.mask (tupleKeyHash knd k) m∈zs.map (·.1):=EZ.mpr ⟨g,p,e⟩;obtain⟨m',rfl⟩:∃m',m=c+m':=⟨m-c,by lia⟩;rcases lt_or_ge m' n with c1|d5
       .show I m' c1<|.inr {g,p,e,by rw[F]}
       .have:m'=n:=by lia
        subst this;let(q,r,B):=GF.mp p;have J:(zs.map (·.1))[q]?=some (pos t.mask (tupleKeyHash knd k)<|c+m'):=by rw[FE,ET r,B,<-e];rfl
        have C:=jT T J;rw[e1]at C;cases C;rw[ET r,B]at e2;have:g=z:=Option.some.inj e2;show H (this ▸ F)
   cases d6:t.led with
   |true =>
    simp only[Gn,FN,Fg];show U
   |false =>
    simp only[Bool.not_false,GG];show Wb<|yr X _ ?_ ?_
    .intro v c6;let(e,Y,rfl):=EZ.mp c6;rw[Array.toList_filter,Z]at Y;let(b8,_):=Fw.mp Y;let(g,p,rfl):=EZ.mp b8;show{g.2.2,g.2.1,rfl,a1 g p}
    .simp only[FN,Fg];show U
  ·
   have a3:c+n=N:=by
    rcases lt_or_ge (c+n) N with z|z
    .show(x<|b5 _ z).elim
    .lia
   have P:=kB t (λi=>(l[i]?.map (·.1)).getD 0) (tupleKeyHash knd k) n (nth t.mask (st t.mask<|tupleKeyHash knd k) c) (10*turns t.mask) (by lia) a6 (by rw[kH];show pk T x);generalize L:SetTable.probe t _ (tupleKeyHash knd k) (nth t.mask (st t.mask<|tupleKeyHash knd k) c)=R;have O:R=some (.empty (nth t.mask (nth t.mask (st t.mask<|tupleKeyHash knd k) c) n).j (nth t.mask (st t.mask<|tupleKeyHash knd k) c).dummy):=L.symm.trans P;subst O;have b7:(nth t.mask (st t.mask<|tupleKeyHash knd k) c).dummy=none:=jm _ _ _;rw[b7];dsimp only;rw[kH,a3];show Wp<|d0 λm u z D e F=>?_
   by_cases M:m<c
   .show a5 m M z D e F
   .obtain⟨m',rfl⟩:∃m',m=c+m':=⟨m-c,by lia⟩;show I m' (by lia)<|.inr {z,D,e,by rw[F]}
end
theorem sG:∀(n:Nat)(l:List Nat),(∀j,j<n->j∈l)->n<=l.length
 |0,_,_=>Fz _
 |n+1,l,h=>by
  have a:=h n (by lia);have b:=sG n (l.erase n) λj c=>(List.mem_erase_of_ne (by lia)).mpr (h j (by lia));rw[List.length_erase_of_mem a]at b;have:0<l.length:=List.length_pos_of_mem a
  lia
theorem kI(n:Nat)(l:List Nat)(a:l.length<=n):∃j,j<=n/\j∉l:=by
 by_cases z:∃j,j<=n/\j∉l
 .show z
 .exfalso
  have:=sG (n+1) l λj b=>by
   by_cases e:j∈l
   .show e
   .show(z ⟨j,by lia,e⟩).elim
  lia
section
variable{prog:qw}{w:qn}{K:Type}[DecidableEq K]{knd:KeyKind prog w K}{A:qd}{E:xx->xg->Prop}{s:xg}
theorem IsTupleKey.same{b h':qb}{ks:List K}{a d:zi}{o:Obj}{es ep t}(x:IsTupleKey knd b ks a)(h:b.get? d=some o)(hd:o.data=.set es ep t)(i:SameBut d b h'):IsTupleKey knd h' ks a:=by
 let(o',j,n,e,f,c,hi):=x;have g:a≠d:=by
  rintro rfl;obtain rfl:o'=o:=Option.some.inj<|e.symm.trans h;rw[hd]at c;show nomatch c
 show{o',j,n,(i.2 a g).trans e,f,c,hi}
theorem vS{t:SetTable}{l:List Nat}(T:Tb t l)(b:Bool):Tb {t with plain:=b} l:=⟨T.pl,T.nd,T.up,T.le⟩
theorem stored{a:zi}{o:Obj}{c:Array (Int×xx)}{b:Nat}{t:SetTable}(d:s.heap.get? a=some o)(hd:o.data=.set c b t)(es':Array<|Int×xx)(t':SetTable):
  (s.heap.update a<|Obj.putSet es' t').get? a=some {o with data:=.set es' (b+1) t'}:=by
 have:=get?_update_self (Obj.putSet es' t') d (by rw[putSet_of es' t' hd];rfl);rw[putSet_of es' t' hd]at this;show this
theorem nT{n:Nat}(h:n<=64):n<=sizeLine:=by rw[sizeLine_eq];lia
theorem uf{a b:zi}{zs:List (Ent K)}{k:List K}{Q:Bool->xg->Prop}(h0:A.units<cLine)(g9:∀k v,knd.is k v=true->v.scannable=true)(b7:TS knd s.heap a zs)(V:IsTupleKey knd s.heap k b)(i3:zs.length<60)(U:∀r h' a9,SameBut a s.heap h'->TS knd h' a a9->((k∈zs.map (·.2.2)/\a9=zs)\/(k∉zs.map (·.2.2)/\(a9.map (·.2)).Perm ((b,k)::zs.map (·.2))))->Q r {s with heap:=h'}):
  wpAny (model prog w) A (setAddHashed a (.ref b)<|tupleKeyHash knd k) Q E s:=by
 let((o,es,h4,t,u,b9,q,W,T,L,h6,d3),c3,g0):=id b7;have a1:es.size=zs.length:=by rw[<-FQ,W,ES]
 have h7:=L.ge;have c9:zs.length<=t.mask:=by lia
 have Y:t.fits es.size=true:=gM T (by rw[ES,a1]) (by rw[a1];show c9);have g3:t.gaveWay=false:=by unfold SetTable.gaveWay;rw[L.odd];rfl
 have e5:=L.cyc;let(i7,f4,f5):=kI t.mask (zs.map (·.1)) (by rw[ES];show c9);let(h3,h9,e7):=cover e5 (tupleKeyHash knd k) f4;let(N,h5,J,e8):=kx (λm=>pos t.mask (tupleKeyHash knd k) m∉zs.map (·.1)) h3 (by rw[e7];show f5);have b6:∀m,m<N->pos t.mask (tupleKeyHash knd k) m∈zs.map (·.1):=λm j=>by
  by_cases z:pos t.mask (tupleKeyHash knd k) m∈zs.map (·.1)
  .show z
  .show(e8 m j z).elim
 have i6:10*turns t.mask<100000:=by unfold turns;lia
 unfold setAddHashed setAddHashedIn;show wpAny_holding<|Wb (wpAny_setState_of u q Y ?_);dsimp only;have f0:byScan (.ref b) es=false:=rfl;rw[f0];simp only[FN,Fg];show Wb ?_;unfold setSearch;show pq h0 u q W T Y g3 c3 V J (by lia) b6 ?_ ?_ N 0 100000 none rfl (by lia) (by lia) rfl (λm j=>by lia)
 .intro f1;dsimp only;have e:s={s with heap:=s.heap}:=by cases s;rfl
  have g7:=U false s.heap zs (SameBut.refl a s.heap) b7<|.inl {by
   let(z,d,e):=f1;show EZ.mpr ⟨z,d,e⟩,rfl}
  rw[e];show Wp g7
 .intro g1;have a0:k∉zs.map (·.2.2):=by
   intro j;let(z,d,S):=EZ.mp j;let(n,e1,e2):=d3 (pth knd z)<|EZ.mpr ⟨z,d,rfl⟩;have b5:pos t.mask (tupleKeyHash knd k) n=z.1:=by rw[<-S];show e1
   have e6:∀m,m<n->pos t.mask (tupleKeyHash knd k) m∈zs.map (·.1):=λm j=>by
    have:=e2 m j;rw[FD]at this;rw[<-S];show this
   have f9:n<N:=by
    rcases lt_or_ge n N with d6|d6
    .show d6
    .exfalso
     rcases lt_or_ge N n with d7|d7
     .show J<|e6 N d7
     .have:n=N:=by lia
      subst this;show J (by rw[b5];show EZ.mpr ⟨z,d,rfl⟩)
   show g1 n f9 z d b5.symm S
  dsimp only;show Wb<|wpAny_setState_of u q Y ?_;dsimp only;have g6:pos t.mask (tupleKeyHash knd k) N<=t.mask:=jl _ _ _;let(C,a4,H):=vO T J g6;generalize i2:t.put (pos t.mask (tupleKeyHash knd k) N)=tp at C a4 H|-;let(a7,p):=tp;dsimp only at C a4 H|-;obtain⟨c,a6⟩:∃c,c=zs.take p++(pos t.mask (tupleKeyHash knd k) N,b,k)::zs.drop p:=⟨_,rfl⟩;have e9:c.map (·.1)=(zs.map (·.1)).take (below (zs.map (·.1)).toArray (pos t.mask (tupleKeyHash knd k) N))++(pos t.mask (tupleKeyHash knd k) N)::(zs.map (·.1)).drop (below (zs.map (·.1)).toArray (pos t.mask (tupleKeyHash knd k) N)):=by
   rw[a6,<-a4];simp[List.map_take,map_drop]
  rw[<-e9]at C;have D:c.Perm ((pos t.mask (tupleKeyHash knd k) N,b,k)::zs):=by
   rw[a6];show perm_middle.trans ?_;rw[List.take_append_drop]
  have G:c.length=zs.length+1:=by rw[D.length_eq,Fs]
  have X:(insertAt es p (tupleKeyHash knd k,Value.ref b)).toList=c.map (ent knd):=by
   rw[SetTable.toList_insertAt,W,a6];simp[List.map_take,map_drop,ent]
  have g4:gY t.mask (c.map<|pth knd):=by
   show gY.mono d3 (pos t.mask (tupleKeyHash knd k) N,tupleKeyHash knd k) (λz d=>?_) (λz d=>?_) {N,rfl,λm j=>by rw[FD];show b6 m j}
   .let(y,B,rfl):=EZ.mp d;rcases FU.mp (D.mem_iff.mp B)with e|e
    .right;rw[e];rfl
    .left;show EZ.mpr ⟨y,e,rfl⟩
   .let(y,B,rfl):=EZ.mp d;show EZ.mpr {y,D.mem_iff.mpr<|FR _ B,rfl}
  have c4:∀z∈c,IsTupleKey knd s.heap z.2.2 z.2.1:=λz d=>by
   rcases FU.mp (D.mem_iff.mp d)with e|e
   .rw[e];show V
   .show c3 z e
  have f6:(c.map (·.2.2)).Perm (k::zs.map (·.2.2)):=D.map _;have c6:(c.map (·.2)).Perm ((b,k)::zs.map (·.2)):=D.map _;have d2:(c.map (·.2.2)).Nodup:=f6.nodup_iff.mpr<|GW.mpr ⟨a0,g0⟩;have I:(insertAt es p (tupleKeyHash knd k,Value.ref b)).size=zs.length+1:=by rw[<-FQ,X,ES,G]
  have tail:∀f:SetTable,Tb f (c.map (·.1))->f.mask=t.mask->wpAny (model prog w) A (do
    storeSet a (insertAt es p (tupleKeyHash knd k,Value.ref b)) f
    if (!false&&f.tooFull)=true then do
      setRelay a (SetTable.grown<|es.size+1)
      pure true
     else pure true) Q E s:=by
   intro f R a2;show Wb<|wpAny_storeSet_of u q ?_ (by rw[I];show nT (by lia));have O:=stored u q (insertAt es p (tupleKeyHash knd k,Value.ref b)) f;have a5:=Ft s.heap a<|Obj.putSet (insertAt es p (tupleKeyHash knd k,Value.ref b)) f;have f3:f.fill=zs.length+1:=by rw[gL R,ES,G]
   by_cases c0:f.tooFull=true
   .rw[c0];simp only[Bool.not_false,Bool.and_self,GG];show Wb ?_;unfold setRelay;have f2:f.fits (insertAt es p (tupleKeyHash knd k,Value.ref b)).size=true:=gM R (by rw[ES,G,I]) (by rw[I,a2];lia);show Wb<|wpAny_setState_of O rfl f2 ?_;dsimp only;obtain⟨nn,M⟩:∃nn,nn=zs.length+1:=⟨_,rfl⟩;have h1:SetTable.grown (es.size+1)=nn*4:=by rw[a1,M];unfold SetTable.grown;rw[EV (by lia)]
    let(d1,i4,i5):=iI (w:=nn*4) (by lia);rw[h1];rw[EV (by rw[sizeLine_eq];lia)];have c2:((insertAt es p (tupleKeyHash knd k,Value.ref b)).map (·.1)).size=nn:=by rw[size_map,I,M]
    let(a8,g,g8,d0,h8,i0,d8,P,g5):=jn (t:=f) (hashes:=(insertAt es p (tupleKeyHash knd k,Value.ref b)).map (·.1)) (wanted:=nn*4) d1.cyc (by rw[c2];lia);rw[c2]at P;have Z:∀z∈g,z.2<nn:=λz d=>GC.mp<|P.mem_iff.mp (EZ.mpr ⟨z,d,rfl⟩);have f7:c.length=nn:=by rw[G,M]
    obtain⟨h,F⟩:∃h:List<|Ent K,h=g.map λz=>(z.1,(c.getD z.2 (0,0,[])).2):=⟨_,rfl⟩;have c1:∀i,i<nn->(insertAt es p (tupleKeyHash knd k,Value.ref b))[i]?=some (ent knd<|c.getD i (0,0,[])):=λi hi=>by
     rw[<-Gd,X,FE,FA,ET (by lia)];rfl
    have b8:(((g.map (·.2)).toArray).filterMap (λi=>(insertAt es p (tupleKeyHash knd k,Value.ref b))[i]?)).toList=h.map (ent knd):=by
     rw[Array.toList_filterMap,F];change(g.map (·.2)).filterMap _=_;rw[List.filterMap_map,FD];have:∀l:List<|Nat×Nat,(∀z∈l,z.2<nn)->l.filterMap ((λi=>(insertAt es p (tupleKeyHash knd k,Value.ref b))[i]?)∘λx=>x.2)=l.map (ent knd∘λz=>(z.1,(c.getD z.2 (0,0,[])).2)):=by
      intro l
      induction l with
      |nil=>intro _;rfl
      |cons x l h2 =>
       intro c8;rw[Fm (b:=ent knd<|c.getD x.2 (0,0,[])) (by change(insertAt es p (tupleKeyHash knd k,Value.ref b))[x.2]?=_;show c1 _<|c8 x (by simp)),Fi,h2 λz d=>c8 z (by simp[d])];rfl
     show this g Z
    have d5:(((g.map (·.2)).toArray).filterMap (λi=>(insertAt es p (tupleKeyHash knd k,Value.ref b))[i]?)).size=nn:=by
     rw[<-FQ,b8,ES,F,ES];have:=P.length_eq;rw[ES,GH]at this;show this
    show Wb ?_;rw[g8];change wpAny _ _ (@ite _ _ _ _ _) _ _ _;rw[EV (by rw[d5,I,M];simp)];show Wp ?_;dsimp only;show wpAny_storeSet_of O rfl ?_ (by rw[d5];show nT (by lia));have g2:=stored (s:={s with heap:=s.heap.update a (Obj.putSet (insertAt es p (tupleKeyHash knd k,Value.ref b)) f)}) O rfl (((g.map (·.2)).toArray).filterMap (λi=>(insertAt es p (tupleKeyHash knd k,Value.ref b))[i]?)) a8
    have d4:=a5.trans<|Ft (s.heap.update a<|Obj.putSet (insertAt es p (tupleKeyHash knd k,Value.ref b)) f) a (Obj.putSet (((g.map (·.2)).toArray).filterMap (λi=>(insertAt es p (tupleKeyHash knd k,Value.ref b))[i]?)) a8);have c7:(h.map (·.2)).Perm (c.map (·.2)):=by
     rw[F,FD];have e1:g.map ((λz:Ent K=>z.2)∘λz=>(z.1,(c.getD z.2 (0,0,[])).2))=(g.map (·.2)).map λi=>(c.getD i (0,0,[])).2:=by rw[FD];rfl
     have e2:c.map (·.2)=(List.range nn).map λi=>(c.getD i (0,0,[])).2:=by
      apply Gu;intro i;rw[FE,FE]
      by_cases hi:i<nn
      .rw[ET (by lia),getElem?_range hi];have e3:c.getD i (0,0,[])=c[i]'(by lia):=by rw[FA,ET (by lia)];rfl
       change some (c[i]'(by lia)).2=some (c.getD i (0,0,[])).2;rw[e3]
      .rw[Fo (by lia),Fo (by rw[GH];lia)];rfl
     rw[e1,e2];show P.map _
    have c5:(h.map (·.2.2)).Perm (c.map (·.2.2)):=by
     have:=c7.map (·.2);rw[FD,FD]at this;show this
    have f8:∀z∈h,∃y∈c,y.2=z.2:=λz d=>by
     rw[F]at d;let(y,B,rfl):=EZ.mp d;have:=Z y B;show{c[y.2]'(by lia),Gk _,?_};rw[FA,ET (by lia)];rfl
    show Wp<|U true _ h d4 {{_,_,_,a8,g2,b9,rfl,b8,?_,by rw[d0];show d1,?_,?_},λz d=>?_,c5.nodup_iff.mpr d2} (.inr ⟨a0,c7.trans c6⟩)
    .have e1:h.map (·.1)=g.map (·.1):=by rw[F,FD];rfl
     rw[e1];show d8
    .have:h.length=nn:=by
      have:=c5.length_eq;rw[ES,ES,f7]at this;show this
     rw[this,d0];lia
    .have e1:h.map (pth knd)=g.map λz=>(z.1,((insertAt es p (tupleKeyHash knd k,Value.ref b)).map (·.1)).getD z.2 0):=by
      rw[F,FD];apply Fq;intro z d;change(z.1,tupleKeyHash knd (c.getD z.2 (0,0,[])).2.2)=_
      congr 1
      rw[FF,Array.getElem?_map,c1 _<|Z z d];rfl
     rw[e1];show g5
    .let(y,B,e):=f8 z d;rw[<-e];show IsTupleKey.same (c4 y B) u q d4
   .have a3:f.tooFull=false:=by simpa using c0
    rw[a3];simp only[Bool.and_false,FN,Fg];show Wp<|U true _ c a5 {{_,_,_,f,O,b9,rfl,X,R,by rw[a2];show L,?_,by rw[a2];show g4},λz d=>IsTupleKey.same (c4 z d) u q a5,d2} (.inr ⟨a0,c6⟩);unfold SetTable.tooFull at a3;rw[decide_eq_false_iff_not,f3]at a3;rw[G];lia
  cases i1:a7.plain with
  |true =>
   simp only[GG];show Wb<|ue V g9 λd9=>?_;cases d9 with
   |true =>
    simp only[GG];show tail a7 C H
   |false =>
    simp only[FN,Fg];show tail _ (vS C false) H
  |false =>
   simp only[FN,Fg];show Wb<|Wp ?_;simp only[GG];show tail a7 C H
end
theorem mH{c:Type}[DecidableEq c]:∀l:List c,¬l.Nodup->∃f:List c,f.length+1=l.length/\∀x∈l,x∈f
 |[],h=>(h nodup_nil).elim
 |x::r,h=>by
  by_cases d:x∈r
  .show{r,rfl,λy b=>?_};rcases FU.mp b with e|e
   .rw[e];show d
   .show e
  .have g:¬r.Nodup:=λz=>h<|GW.mpr ⟨d,z⟩;let(i,e,s):=mH r g;show{x::i,by simp[<-e],λy b=>?_};rcases FU.mp b with a|a
   .rw[a];simp
   .show FR _<|s y a
theorem pr{d:Type}[DecidableEq d]{z l:List d}(c:z.Nodup)(b:∀x,x∈z↔x∈l):z.length=l.length↔l.Nodup:=by
 constructor
 .intro e
  by_cases a:l.Nodup
  .show a
  .let(h,g,s):=mH l a;have:=Nodup.length_le_of_subset c (λx f=>s x<|(b x).mp f)
   lia
 .intro a;show((List.perm_ext_iff_of_nodup c a).mpr b).length_eq
section
variable{prog:qw}{w:qn}{K:Type}[DecidableEq K]{knd:KeyKind prog w K}{A:qd}{R:Result->xg->Prop}{I:zi}{fp wr:List zi}{G:Array GenState->Array GenState->Prop}{n:Nat}{P:Nat->xx->Prop}{St:Nat->xg->Prop}
theorem kJ{a:List zi}{s s':xg}{k:List K}{b:zi}(m:Moved a G s s')(d:b∉a)(c:IsTupleKey knd s.heap k b):IsTupleKey knd s'.heap k b:=by
 let(o,f,n,e,r):=c;show{o,f,n,m.heap b o d e,r}
theorem pw{a:List zi}{s s':xg}{S:zi}{zs:List (Ent K)}(m:Moved a G s s')(e:S∉a)(i:∀z∈zs,z.2.1∉a)(d:TS knd s.heap S zs):TS knd s'.heap S zs:=by
 let((o,es,c,t,h,r),f,g):=d;show{⟨o,es,c,t,m.heap S o e h,r⟩,λz b=>kJ m (i z b)<|f z b,g}
theorem eG(W:WalksS prog w A.in1 I fp wr G n P St)(S:zi)(M:S∉fp)(V:A.in1.units<cLine)(b9:∀k v,knd.is k v=true->v.scannable=true)(key:Nat->List K)(ad:Nat->zi)(c2:∀i v,P i v->v=.ref (ad i))(O:∀i,i<n->ad i∉S::fp)(d1:n<=60):
  ∀(k i:Nat)(s:xg)(zs:List<|Ent K),n-i=k->i<=n->St i s->TS knd s.heap S zs->zs.length<=i->(∀z∈zs,∃j,j<n/\z.2.1=ad j)->(∀k',k'∈zs.map (·.2.2)↔∃j,j<i/\key j=k')->(∀j,j<n->IsTupleKey knd s.heap (key j) (ad j)) ->
   (∀s' d,Moved (S::wr) G s s'->TS knd s'.heap S d->d.length<=n->(∀k',k'∈d.map (·.2.2)↔∃j,j<n/\key j=k')->R (.ok<|.ret .none) s') ->
   codeAny (model prog w) A (.builtin "set.update.loop" {[.ref S,.ref I],[]}) R s:=by
 have N:S∉wr:=λh=>M<|W.sub _ h;have U:∀b∈wr,b∈S::wr:=λb f=>FR _ f;have C:∀i,i<n->ad i∉wr:=λi hi h=>O i hi<|FR _ (W.sub _ h);have a3:∀i,i<n->ad i≠S:=λi hi h=>O i hi (by rw[h];show FY);intro k
 induction k with
 |zero =>
  intro i s zs a4 hi L B T t p Q x;have D:i=n:=by lia
  subst D;show codeAny_builtin PyProof.Rows.F.entry_set_update_loop ?_;rw[Around.under_plainId Ge _];change wpAny _ A.in1 (pyNext (.ref I) >>= _) _ _ s;show Wb<|W.done s _ _ L λs' g=>?_;change wpAny _ A.in1 (ret Value.none) _ _ s';show Wp<|x s' zs (g.mono U) (pw g N (λz q=>by let(j,c,e):=t z q;rw[e];show C j c) B) T p
 |succ k c6 =>
  intro i s zs a4 hi L B T t p Q x;have l:i<n:=by lia
  show codeAny_builtin PyProof.Rows.F.entry_set_update_loop ?_;rw[Around.under_plainId Ge _];change wpAny _ A.in1 (pyNext (.ref I) >>= _) _ _ s;show Wb<|W.item i s _ _ l L λv s' Z c0 g=>?_;have c1:=c2 i v Z;subst c1;have a0:TS knd s'.heap S zs:=pw g N (λz q=>by let(j,c,e):=t z q;rw[e];show C j c) B;have H:∀j,j<n->IsTupleKey knd s'.heap (key j) (ad j):=λj c=>kJ g (C j c)<|Q j c;change wpAny _ A.in1 (holding [Value.ref<|ad i] (setAdd S<|.ref (ad i)) >>= _) _ _ s';show Wb<|wpAny_holding ?_;unfold setAdd;show wpAny_holding ?_;show Wb<|wpAny_pyHash_tuple V (H i l) ?_;show uf (s:={s' with toks:=s'.toks+((key i).length+1)}) V b9 a0 (H i l) (by lia) λr h' d b8 a2 J=>?_
  have u:SameBut S s'.heap h':=b8;have a7:d.length<=i+1:=by
   rcases J with⟨_,e⟩|⟨_,e⟩
   .rw[e];lia
   .have:=e.length_eq;rw[ES,Fs,ES]at this
    lia
  have b7:(key i∈zs.map (·.2.2)/\d=zs)\/(d.map (·.2.2)).Perm (key i::zs.map (·.2.2)):=by
   rcases J with e|⟨_,e⟩
   .show .inl e
   .have:=e.map (·.2);rw[FD,Fi,FD]at this;show .inr this
  have a9:∀k',k'∈d.map (·.2.2)↔∃j,j<i+1/\key j=k':=λk'=>by
   rcases b7 with⟨D,e⟩|e
   .rw[e,p k'];constructor
    .rintro⟨j,c,a⟩;show{j,by lia,a}
    .rintro⟨j,c,a⟩
     by_cases E:j=i
     .rw[<-a,E];show(p _).mp D
     .show{j,by lia,a}
   .rw[e.mem_iff,FU,p k'];constructor
    .rintro(a|⟨j,c,a⟩)
     .show{i,by lia,a.symm}
     .show{j,by lia,a}
    .rintro⟨j,c,a⟩
     by_cases E:j=i
     .left;rw[<-a,E]
     .show .inr ⟨j,by lia,a⟩
  have d0:∀b o,b∉S::wr->s'.heap.get? b=some o->h'.get? b=some o:=λb o f e=>by
   rw[u.2 b λz:b=S=>f (by rw[z];show FY)];show e
  have a5:∀j,j<n->IsTupleKey knd h' (key j) (ad j):=λj c=>by
   let(o,c7,m,b6,r):=H j c;show{o,c7,m,(u.2 _<|a3 j c).trans b6,r}
  have c5:∀z∈d,∃j,j<n/\z.2.1=ad j:=by
   rcases J with⟨_,e⟩|⟨_,e⟩
   .rw[e];show t
   .intro z q;have c4:z.2∈d.map (·.2):=EZ.mpr ⟨z,q,rfl⟩;rcases FU.mp (e.mem_iff.mp c4)with a|a
    .show{i,l,by rw[a]}
    .let(y,c3,Y):=EZ.mp a;let(j,c,X):=t y c3;show{j,c,by rw[<-Y];show X}
  show Wp {plainId_quiet Ge _,c6 (i+1) _ d (by lia) l (W.frame _ s' _ _ c0 (Nat.le_add_right _ _) λb f o e=>?_) a2 a7 c5 a9 a5 λc8 c9 a8 a1 a6 b5=>?_}
  .rw[u.2 b λh:b=S=>M (by rw[<-h];show f)];show e
  .show x c8 c9 (Moved.trans W.gtrans ((g.mono U).then_heap (Nat.le_add_right _ _) λb o f e=>?_) a8) a1 a6 b5;rw[u.2 b λh:b=S=>f (by rw[h];show FY)];show e
end
section
variable{prog:qw}{w:qn}{K:Type}[DecidableEq K]{knd:KeyKind prog w K}{A:qd}{E:xx->xg->Prop}{s:xg}
theorem vT{b:qb}{a:zi}(led:Bool)(c:b.get? a=some {cls:=.type "set",dict:=none,data:=.set #[] 0 (.fresh 0 0 led)}):TS knd b a [] :=
 {{_,#[],0,_,c,⟨rfl,rfl,rfl⟩,rfl,rfl,{rfl,rfl,Pairwise.nil,λ_ b=>by simp at b},Or.inl rfl,(by change 0<21;decide),gY.nil _},λ_ b=>by simp at b,nodup_nil}
set_option maxRecDepth 100000 in
set_option maxHeartbeats 3200000 in
theorem jO{l:zi}{items:Array xx}{key:Nat->List K}{ad:Nat->zi}{Q:xx->xg->Prop}(a8:A.handled=none)(d8:A.units+4<cLine)(c0:∀k v,knd.is k v=true->v.scannable=true)(b7:s.heap.IsList l items)(b5:∀(i:Nat) (v:xx),items[i]?=some v->v=Value.ref (ad i))(t:∀i,i<items.size->IsTupleKey knd s.heap (key i) (ad i))(n:items.size<=60)(h:∀(h':qb) (tk:Nat) (zs:List<|Ent K),TS knd h' s.heap.objs.size zs->zs.length<=items.size->(∀g,g∈zs.map (·.2.2)↔∃j,j<items.size/\key j=g) ->
   (∀b o,b<s.heap.objs.size->s.heap.get? b=some o->h'.get? b=some o)->Q (.ref s.heap.objs.size) {s with heap:=h',toks:=tk}):
  wpAny (model prog w) A (call (.type "set") [.ref l]) Q E s:=by
 let(c,tl,d3):=F.called_set.mro;have d2:=F.called_set.made;have d7:=F.called_set.sub;show wpAny_call<|codeAny_of_tree ?_;change wpAny _ _ (callAny (.type "set") _) _ _ _;show Wp {Code.quiet_builtin _ (by decide +kernel),codeAny_builtin F.entry_type_call ?_};rw[Around.under_plain (weight_type_call_type "set" [.ref l] []) rfl];have h1:=F.called_set.notType;have h2:=F.called_set.canCreate;have d0:=F.typeCall_set_1<|.ref l
 repeat (any_goals (first|assumption|wp_step))
 show codeAny_mono (code_set_new_1 (.ref l) (E:=E) (Q₁:=λM O=>∃a:Bool,M=.ref s.heap.objs.size/\O={s with heap:=s.heap.push {cls:=.type "set",dict:=none,data:=.set #[] 0 (.fresh 0 0 a)}}) λa=>⟨a,rfl,rfl⟩) λr O z=>?_
 cases r with
 |error e=>show z
 |ok W =>
  cases W with
  |ret M =>
   let(a,rfl,rfl):=z;have C:(s.heap.push {cls:=.type "set",dict:=none,data:=.set #[] 0 (.fresh 0 0 a)}).get? s.heap.objs.size=some {cls:=.type "set",dict:=none,data:=.set #[] 0 (.fresh 0 0 a)}:=FG _ rfl;have a1:Shared.TypeIs {s with heap:=s.heap.push {cls:=.type "set",dict:=none,data:=.set #[] 0 (.fresh 0 0 a)}} (.ref s.heap.objs.size) "set":=⟨_,C,rfl⟩
   have d1:=F.called_set.init.lookup;have c9:=F.called_set.init.bind<|.ref s.heap.objs.size
   repeat (any_goals (first|assumption|wp_step))
   show codeAny_mono (codeAny_call_builtin (R:=wants (λr P=>r=.none/\∃h' tk zs,P={s with heap:=h',toks:=tk}/\TS knd h' s.heap.objs.size zs/\zs.length<=items.size/\(∀g,g∈zs.map (·.2.2)↔∃j,j<items.size/\key j=g) /\
     (∀b o,b<s.heap.objs.size->s.heap.get? b=some o->h'.get? b=some o)) E) F.called_set.init.plain F.entry_set_init<|check_set_init_1 a1 ?_) λc7 P B=>?_
   .let(c3,y,D,L,G):=b7;let(d9,c2,e5,c5):=c3;simp only at D G;subst D;subst G;have b9:(s.heap.push {cls:=.type "set",dict:=none,data:=.set #[] 0 (.fresh 0 0 a)}).get? l=some {cls:=.type "list",dict:=c2,data:=.seq items L,slots:=c5}:=EU _ y;have d6:=F.sub_list_set;have d5:=F.sub_list_frozenset;have d4:(Value.type "list"==Value.type "dict")=false:=by decide
    have I:(s.heap.push {cls:=.type "set",dict:=none,data:=.set #[] 0 (.fresh 0 0 a)}).IsList l items:=⟨_,b9,rfl,L,rfl⟩;unfold Builtin.«set.__init__» noKeywords Builtin.Frozenset.updateFrom;generalize Z:pyIter=PI
    wp_walk
    subst Z;show wpAny_pyIter_list I ?_;show Wb<|wpAny_runValue ?_;have J:l<s.heap.objs.size:=FW y;have a9:A.in1.in1.in1.handled=none:=by simp[a8]
    have b8:l≠(s.heap.push {cls:=.type "set",dict:=none,data:=.set #[] 0 (.fresh 0 0 a)}).objs.size:=by
     rw[size_push];show FX<|lt_succ_of_lt J
    have a0:s.heap.objs.size∉[(s.heap.push {cls:=.type "set",dict:=none,data:=.set #[] 0 (.fresh 0 0 a)}).objs.size,l]:=by
     rw[size_push];simp only[FU,Gp,Gb,or_false,not_or];show{FX<|lt_succ_self _,Gv J}
    have a4:∀i,i<items.size->ad i<s.heap.objs.size:=λi d=>by
     let(o,_,_,f,_):=t i d;show FW f
    have a3:∀i,i<items.size->ad i≠l:=λi d e=>by
     let(o,_,_,f,a7,_):=t i d;rw[e,y]at f;cases f;have h':Value.type "list"=Value.type "tuple":=a7;injection h' with h'
     show absurd h' (by decide)
    have a2:∀i,i<items.size->ad i∉s.heap.objs.size::[(s.heap.push {cls:=.type "set",dict:=none,data:=.set #[] 0 (.fresh 0 0 a)}).objs.size,l]:=λi d=>by
     rw[size_push];have N:ad i<s.heap.objs.size:=a4 i d;have c6:=a3 i d;simp only[FU,Gp,Gb,or_false,not_or];show{FX N,FX<|lt_succ_of_lt N,c6}
    show eG (knd:=knd) ((Walks.list a9 _ l b8 items).toS) s.heap.objs.size
     a0 (by simp[Around.in1_units];lia) c0 key ad b5 a2 n (items.size-0) 0 _ [] (by lia) (Fz _)
     {{_,FG _ rfl,rfl,rfl},(I.push _)} ?hS0 (Fz _) (λ_ h=>by simp at h) (λg=>{λh=>by simp at h,λ⟨j,H,_⟩=>by lia}) ?hks ?hR
    case hS0 =>
     show vT a<|EU _ C
    case hks =>
     intro j H;let(o,c1,m,f,r):=t j H;show{o,c1,m,EU _<|EU _ f,r}
    case hR =>
     intro s' zs p q u x;let(h',Y,S,c8,c4):=s';have U:Y=s.gens:=p.gens;have T:S=s.drawn:=p.drawn;have V:c4=s.os:=p.os;subst U;subst T;subst V;change wpAny _ _ _ _ _ _;show Wp ?_;change wpAny _ _ (ret Value.none) _ _ _;show Wp {rfl,h',c8,zs,rfl,q,u,x,λb o n e=>?_};have a5:b≠s.heap.objs.size:=FX n;have a6:b≠(s.heap.push {cls:=.type "set",dict:=none,data:=.set #[] 0 (.fresh 0 0 a)}).objs.size:=by
      rw[size_push];show FX<|lt_succ_of_lt n
     show p.heap b o (by simp only[FU,Gp,Gb,or_false,not_or];show⟨a5,a6⟩)<|EU _ (EU _ e)
   .cases c7 with
    |error e=>show B
    |ok X =>
     cases X with
     |ret r =>
      let(rfl,h',tk,zs,rfl,q,u,x,b6):=B
      repeat (any_goals (first|assumption|wp_step))
      show h _ _ zs q u x b6
     |_=>show B.elim
  |_=>show z.elim
end
end TB
namespace SRT
open PySem PySem.W PyProof.Rows
def run{b:Type}(f:Nat->Nat->Bool):KasT b->b
 |.ret a=>a
 |.ask i j k=>run f<|k (f i j)
theorem eV{b c:Type}(f:Nat->Nat->Bool)(g:b->KasT c):∀t:KasT b,run f (t.bind g)=run f (g<|run f t)
 |.ret a=>rfl
 |.ask i j k=>eV f g<|k (f i j)
def path{a:Type}(f:Nat->Nat->Bool)(n:Nat):KasT a->Prop
 |.ret _=>True
 |.ask i j k=>i<n/\j<n/\path f n (k<|f i j)
theorem dD{b c:Type}{f:Nat->Nat->Bool}{n:Nat}{g:b->KasT c}:∀{t:KasT b},path f n t->path f n (g<|run f t)->path f n (t.bind g)
 |.ret a,_,h=>h
 |.ask i j k,h,h'=>{h.1,h.2.1,dD (t:=k<|f i j) h.2.2 h'}
theorem sH{d:Type}{f:Nat->Nat->Bool}{n:Nat}{b:Nat->Nat->(Bool->xg->Prop)->xg->Prop}{s:xg}(c:∀i j C,i<n->j<n->C (f i j) s->b i j C s)(Q:d->xg->Prop):∀t:KasT d,path f n t->Q (run f t) s->t.kasWp b Q s
 |.ret a,_,h=>h
 |.ask i j k,p,h=>c i j _ p.1 p.2.1<|sH c Q (k<|f i j) p.2.2 h
structure Ord(f:Nat->Nat->Bool)(n:Nat):Prop where
 irr:∀i,i<n->f i i=false
 tr:∀i j k,i<n->j<n->k<n->f i j=true->f j k=true->f i k=true
 tot:∀i j,i<n->j<n->i≠j->f i j=true\/f j i=true
section
variable{f:Nat->Nat->Bool}{n:Nat}
structure Row(n:Nat)(p:Array Nat):Prop where
 perm:p.toList.Perm<|List.range n
theorem Row.size{p:Array Nat}(r:Row n p):p.size=n:=by have:=r.perm.length_eq;simpa using this
theorem Row.lt{p:Array Nat}(r:Row n p){i:Nat}(a:i<n):p.getD i 0<n:=by
 have b:=r.size;have:p.getD i 0∈p.toList:=by
  rw[FF,FK (by lia)];show Array.getElem_mem_toList (by lia)
 show GC.mp<|r.perm.mem_iff.mp this
theorem Row.ne{p:Array Nat}(r:Row n p){i j:Nat}(d:i<n)(f:j<n)(b:i≠j):p.getD i 0≠p.getD j 0:=by
 have g:=r.size;have c:p.toList.Nodup:=r.perm.nodup_iff.mpr nodup_range;rw[FF,FF,FK (by lia),FK (by lia)];intro e;have a:p.toList[i]'(by simpa using (by lia:i<p.size))=p.toList[j]'(by simpa using (by lia:j<p.size)):=by simpa using e
 show b<|(Gr c).mp a
theorem Row.rev{p:Array Nat}(r:Row n p)(i j:Nat):Row n (kas_rev p i j):={(Array.perm_iff_toList_perm.mp<|mirror_perm p i j _).trans r.perm}
theorem Row.bub{p:Array Nat}(r:Row n p)(i j:Nat):Row n (bubble p i j):={(Array.perm_iff_toList_perm.mp<|bubble_perm p i j).trans r.perm}
def Up(f:Nat->Nat->Bool)(p:Array Nat)(m:Nat):Prop:=∀i j,i<j->j<m->f (p.getD i 0) (p.getD j 0)=true
theorem yt(c:Ord f n){p:Array Nat}(r:Row n p){m:Nat}(b:m<n)(j:1<=m)(u:Up f p m)(g:f (p.getD m 0) (p.getD (m-1) 0)=false):Up f p (m+1):=by
 have d:f (p.getD (m-1) 0) (p.getD m 0)=true:=by
  rcases c.tot _ _ (r.lt (i:=m) b) (r.lt (i:=m-1) (by lia)) (r.ne b (by lia) (by lia))with z|z
  .rw[g]at z;cases z
  .show z
 intro i a h k
 by_cases e:a=m
 .subst e
  by_cases e2:i=a-1
  .rw[e2];show d
  .show c.tr _ _ _ (r.lt (by lia)) (r.lt (by lia)) (r.lt b) (u i (a-1) (by lia) (by lia)) d
 .show u i a h (by lia)
theorem nU(c:Ord f n){p:Array Nat}(r:Row n p):∀(a m:Nat),1<=m->m+a<=n->Up f p m ->
  m<=run f (kas_asc p a m)/\run f (kas_asc p a m)<=m+a/\Up f p (run f<|kas_asc p a m)/\(run f (kas_asc p a m)<m+a->f (p.getD (run f<|kas_asc p a m) 0) (p.getD (run f (kas_asc p a m)-1) 0)=true)
 |0,m,_,_,u=>{FH _,FH _,u,λh=>absurd h (by simp[kas_asc,run])}
 |a+1,m,h1,hm,u=>by
  cases e:f (p.getD m 0) (p.getD (m-1) 0)with
  |true =>
   have b:run f (kas_asc p (a+1) m)=m:=by
    change run f (if f (p.getD m 0) (p.getD (m-1) 0)=true then KasT.ret m else kas_asc p a (m+1))=m
    rw[e,EW rfl];rfl
   rw[b];show{FH _,by lia,u,λ_=>e}
  |false =>
   have b:run f (kas_asc p (a+1) m)=run f (kas_asc p a<|m+1):=by
    change run f (if f (p.getD m 0) (p.getD (m-1) 0)=true then KasT.ret m else kas_asc p a (m+1))=_
    rw[e,EV (by simp)]
   rw[b];let(i,j,d,g):=nU c r a (m+1) (by lia) (by lia)<|yt c r (by lia) h1 u e;show{by lia,by lia,d,λh=>g (by lia)}
def AL(f:Nat->Nat->Bool)(p:Array Nat)(m:Nat):Prop:=∀i j,i<j->j<m->f (p.getD j 0) (p.getD i 0)=true
theorem nV(g:Ord f n){p:Array Nat}(r:Row n p):∀(a m:Nat),1<=m->m+a<=n->AL f p m ->
  ∃b,run f (kas_desc a p m 0)=(p,b,0)/\m<=b/\b<=m+a/\AL f p b
 |0,m,_,_,u=>⟨m,rfl,FH _,FH _,u⟩
 |a+1,m,h1,hm,u=>by
  cases e:f (p.getD m 0) (p.getD (m-1) 0)with
  |true =>
   have h:run f (kas_desc (a+1) p m 0)=run f (kas_desc a p (m+1) 0):=by
    change run f (if f (p.getD m 0) (p.getD (m-1) 0)=true then (if 0>0 then _ else kas_desc a p (m+1) 0)else _)=_
    rw[e,EW rfl,EV (by lia)]
   rw[h];let(b,j,q,s,k):=nV g r a (m+1) (by lia) (by lia) (by
    intro i c o t
    by_cases l:c=m
    .subst l
     by_cases e2:i=c-1
     .rw[e2];show e
     .show g.tr _ _ _ (r.lt (by lia)) (r.lt (i:=c-1) (by lia)) (r.lt (by lia)) e (u i (c-1) (by lia) (by lia))
    .show u i c o (by lia))
   show{b,j,by lia,by lia,k}
  |false =>
   have e2:f (p.getD (m-1) 0) (p.getD m 0)=true:=by
    rcases g.tot _ _ (r.lt (i:=m) (by lia)) (r.lt (i:=m-1) (by lia)) (r.ne (by lia) (by lia) (by lia))with z|z
    .rw[e]at z;cases z
    .show z
   have h:run f (kas_desc (a+1) p m 0)=(p,m,0):=by
    change run f (if f (p.getD m 0) (p.getD (m-1) 0)=true then _ else KasT.ask (p.getD (m-1) 0) (p.getD m 0) λd=>if d=true then .ret (p,m,0)else kas_desc a p (m+1) (0+1))=_
    rw[e,EV (by simp)];change run f (if f (p.getD (m-1) 0) (p.getD m 0)=true then KasT.ret (p,m,0)else kas_desc a p (m+1) (0+1))=_
    rw[e2,EW rfl];rfl
   show{m,h,FH _,by lia,u}
theorem sI{p:Array Nat}{m:Nat}(b:m<=p.size)(k:Nat)(a:k<m):(kas_rev p 0 m).getD k 0=p.getD (m-1-k) 0:=by
 unfold kas_rev;rw[FF,getElem?_mirror_all b k,EW ⟨by lia,a⟩,FF]
 congr 2
 lia
theorem AM{p:Array Nat}{m:Nat}(a:m<=p.size)(d:AL f p m):Up f (kas_rev p 0 m) m:=by
 intro i c e b;rw[sI a i (by lia),sI a c b];show d _ _ (by lia) (by lia)
theorem pz(d:Ord f n){p:Array Nat}(r:Row n p)(A:1<=n):∃m h,run f (kas_count n p)=(m,h)/\1<=m/\m<=n/\Row n h/\Up f h m:=by
 let(g,l,b,j):=nU d r (n-1) 1 (by lia) (by lia) (by intro i k u v;lia);have s:run f (kas_count n p)=run f (if (run f (kas_asc p (n-1) 1)==n)=true then KasT.ret (run f<|kas_asc p (n-1) 1,p)else if run f (kas_asc p (n-1) 1)>1 then .ask (p.getD 0 0) (p.getD (run f (kas_asc p (n-1) 1)-1) 0) λc=>if c=true then .ret (run f<|kas_asc p (n-1) 1,p)else kas_descPart (run f<|kas_asc p (n-1) 1) n (kas_rev p 0<|run f (kas_asc p (n-1) 1))
  else kas_descPart (run f<|kas_asc p (n-1) 1) n p):=by
  unfold kas_count;rw[eV]
 rw[s];generalize run f (kas_asc p (n-1) 1)=m at g l b j|-
 by_cases e:m=n
 .rw[EW (by simp[e])];show{m,p,rfl,g,by lia,r,b}
 .rw[EV (by simpa using e)]
  by_cases e1:m>1
  .rw[EW e1];show{m,p,?_,g,by lia,r,b};change run f (if f (p.getD 0 0) (p.getD (m-1) 0)=true then KasT.ret (m,p)else _)=_
   rw[b 0 (m-1) (by lia) (by lia),EW rfl];rfl
  .rw[EV e1];have q:m=1:=by lia
   subst q;have t:=j (by lia);unfold kas_descPart;let(a,b1,b2,b3,b4):=nV d r (n-(1+1)) (1+1) (by lia) (by lia) (by
    intro i k u v;have:i=0/\k=1:=by lia
    rw[this.1,this.2];show t)
   rw[eV,b1];dsimp only;rw[EV (by lia)];unfold kas_tail3;have B:=r.size;have w:=AM (f:=f) (by lia:a<=p.size) b4;let(x,y,o,z):=nU d (r.rev 0 a) (n-a) a (by lia) (by lia) w;rw[eV];show{_,_,rfl,by lia,by lia,r.rev 0 a,o}
theorem iL(d:Ord f n){p:Array Nat}(r:Row n p){k:Nat}(b:k<n)(u:Up f p k):∀(a l r':Nat),r'-l<=a->l<=r'->r'<=k ->
  (∀i,i<l->f (p.getD i 0) (p.getD k 0)=true)->(∀i,r'<=i->i<k->f (p.getD k 0) (p.getD i 0)=true) ->
  run f (kas_place p k a l r')<=k/\(∀i,i<run f (kas_place p k a l r')->f (p.getD i 0) (p.getD k 0)=true)/\(∀i,run f (kas_place p k a l r')<=i->i<k->f (p.getD k 0) (p.getD i 0)=true)
 |0,l,r',h1,h2,h3,h4,h5=>by
  have:l=r':=by lia
  subst this;show⟨h3,h4,h5⟩
 |a+1,l,r',h1,h2,h3,h4,h5=>by
  unfold kas_place
  by_cases e:l>=r'
  .rw[EW e];have:l=r':=by lia
   subst this;show⟨h3,h4,h5⟩
  .rw[EV e];have o:(l+r') / 2<k:=by lia
   cases c:f (p.getD k 0) (p.getD ((l+r') / 2) 0)with
   |true =>
    have h:run f (KasT.ask (p.getD k 0) (p.getD ((l+r') / 2) 0) λc=>if c=true then kas_place p k a l ((l+r') / 2)else kas_place p k a ((l+r') / 2+1) r')=run f (kas_place p k a l<|(l+r') / 2):=by
     change run f (if f (p.getD k 0) (p.getD ((l+r') / 2) 0)=true then _ else _)=_
     rw[c,EW rfl]
    rw[h];show iL d r b u a l _ (by lia) (by lia) (by lia) h4 λi hi m=>?_
    by_cases g:i=(l+r') / 2
    .rw[g];show c
    .show d.tr _ _ _ (r.lt b) (r.lt (i:=(l+r') / 2) (by lia)) (r.lt (by lia)) c<|u _ _ (by lia) m
   |false =>
    have h:run f (KasT.ask (p.getD k 0) (p.getD ((l+r') / 2) 0) λc=>if c=true then kas_place p k a l ((l+r') / 2)else kas_place p k a ((l+r') / 2+1) r')=run f (kas_place p k a ((l+r') / 2+1) r'):=by
     change run f (if f (p.getD k 0) (p.getD ((l+r') / 2) 0)=true then _ else _)=_
     rw[c,EV (by simp)]
    rw[h];have j:f (p.getD ((l+r') / 2) 0) (p.getD k 0)=true:=by
     rcases d.tot _ _ (r.lt (i:=k) b) (r.lt (i:=(l+r') / 2) (by lia)) (r.ne b (by lia) (by lia))with z|z
     .rw[c]at z;cases z
     .show z
    show iL d r b u a _ r' (by lia) (by lia) h3 (λi hi=>?_) h5
    by_cases g:i=(l+r') / 2
    .rw[g];show j
    .show d.tr _ _ _ (r.lt (by lia)) (r.lt (i:=(l+r') / 2) (by lia)) (r.lt b) (u i _ (by lia) (by lia)) j
theorem jU{p:Array Nat}{k l:Nat}(a:k<p.size)(b:l<=k)(i:Nat):(bubble p k<|k-l).getD i 0=if i=l then p.getD k 0 else if l<i/\i<=k then p.getD (i-1) 0 else p.getD i 0:=by
 simp only[FF];rw[getElem?_bubble a (k-l) (by lia) i];have e:k-(k-l)=l:=by lia
 rw[e]
 by_cases h1:i=l
 .rw[EW h1,EW h1]
 .rw[EV h1,EV h1]
  by_cases h2:l<i/\i<=k
  .rw[EW h2,EW h2]
  .rw[EV h2,EV h2]
theorem vU(d:Ord f n):∀(a:Nat)(p:Array Nat)(k:Nat),Row n p->k+a=n->Up f p k->Row n (run f<|kas_bin a p k)/\Up f (run f<|kas_bin a p k) n
 |0,p,k,r,hk,u=>by
  have:k=n:=by lia
  subst this;show⟨r,u⟩
 |a+1,p,k,r,hk,u=>by
  have t:k<n:=by lia
  let(c,e,g):=iL d r t u k 0 k (by lia) (by lia) (FH _) (λi hi=>by lia) (λi h1 h2=>by lia);have q:run f (kas_bin (a+1) p k)=run f (kas_bin a (bubble p k<|k-run f (kas_place p k k 0 k))<|k+1):=by
   change run f ((kas_place p k k 0 k).bind λl=>kas_bin a (bubble p k<|k-l)<|k+1)=_;rw[eV]
  rw[q];generalize run f (kas_place p k k 0 k)=l at c e g|-;have w:=r.size;show vU d a _ (k+1) (r.bub _ _) (by lia) ?_;intro i b s v;rw[jU (by lia) c i,jU (by lia) c b]
  by_cases h:i=l
  .rw[EW h,EV (by lia),EW ⟨by lia,by lia⟩];show g (b-1) (by lia) (by lia)
  .rw[EV h]
   by_cases j:b=l
   .rw[EW j,EV (by lia)];show e i (by lia)
   .rw[EV j]
    by_cases m:l<i/\i<=k
    .rw[EW m,EW ⟨by lia,by lia⟩];show u _ _ (by lia) (by lia)
    .rw[EV m]
     by_cases o:l<b/\b<=k
     .rw[EW o]
      by_cases e3:i=b-1
      .lia
      .show u i (b-1) (by lia) (by lia)
     .rw[EV o];show u i b s (by lia)
theorem kK{p:Array Nat}(r:Row n p):∀(a m:Nat),1<=m->m+a<=n->path f n (kas_asc p a m)
 |0,m,_,_=>trivial
 |a+1,m,h1,hm=>by
  show{r.lt (by lia),r.lt (by lia),?_};change path f n (if f (p.getD m 0) (p.getD (m-1) 0)=true then KasT.ret m else kas_asc p a (m+1))
  split
  .show trivial
  .show kK r a (m+1) (by lia) (by lia)
theorem mI(b:Ord f n){p:Array Nat}(r:Row n p):∀(a m:Nat),1<=m->m+a<=n->path f n (kas_desc a p m 0)
 |0,m,_,_=>trivial
 |a+1,m,h1,hm=>by
  show{r.lt (by lia),r.lt (by lia),?_};change path f n (if f (p.getD m 0) (p.getD (m-1) 0)=true then (if 0>0 then _ else kas_desc a p (m+1) 0)else KasT.ask (p.getD (m-1) 0) (p.getD m 0) λd=>if d=true then .ret (p,m,0)else kas_desc a p (m+1) (0+1))
  cases e:f (p.getD m 0) (p.getD (m-1) 0)with
  |true =>
   rw[EW rfl,EV (by lia)];show mI b r a (m+1) (by lia) (by lia)
  |false =>
   rw[EV (by simp)];have e2:f (p.getD (m-1) 0) (p.getD m 0)=true:=by
    rcases b.tot _ _ (r.lt (i:=m) (by lia)) (r.lt (i:=m-1) (by lia)) (r.ne (by lia) (by lia) (by lia))with z|z
    .rw[e]at z;cases z
    .show z
   show{r.lt (by lia),r.lt (by lia),?_};dsimp only;rw[e2,EW rfl];show trivial
theorem qR(a:Ord f n){p:Array Nat}(r:Row n p)(s:1<=n):path f n (kas_count n p):=by
 let(g,h,b,c):=nU a r (n-1) 1 (by lia) (by lia) (by intro i d l o;lia);unfold kas_count;show dD (kK r _ _ (by lia) (by lia)) ?_;generalize run f (kas_asc p (n-1) 1)=m at g h b c|-
 by_cases e:m=n
 .rw[EW (by simp[e])];show trivial
 .rw[EV (by simpa using e)]
  by_cases e1:m>1
  .rw[EW e1];show{r.lt (by lia),r.lt (by lia),?_};dsimp only;rw[b 0 (m-1) (by lia) (by lia),EW rfl];show trivial
  .rw[EV e1];have j:m=1:=by lia
   subst j;have k:=c (by lia);unfold kas_descPart;show dD (mI a r _ _ (by lia) (by lia)) ?_;let(q,b1,b2,b3,b4):=nV a r (n-(1+1)) (1+1) (by lia) (by lia) (by
    intro i d l o;have:i=0/\d=1:=by lia
    rw[this.1,this.2];show k)
   rw[b1];dsimp only;rw[EV (by lia)];unfold kas_tail3;show dD (kK (r.rev 0 q) _ _ (by lia) (by lia)) trivial
theorem ik{p:Array Nat}(r:Row n p){k:Nat}(c:k<n):∀(b l a:Nat),a<=k->path f n (kas_place p k b l a)
 |0,l,a,_=>trivial
 |b+1,l,a,h=>by
  unfold kas_place
  by_cases e:l>=a
  .rw[EW e];show trivial
  .rw[EV e];show{r.lt c,r.lt (by lia),?_};dsimp only
   split
   .show ik r c b _ _ (by lia)
   .show ik r c b _ _ h
theorem pA(d:Ord f n):∀(b:Nat)(p:Array Nat)(k:Nat),Row n p->k+b=n->Up f p k->path f n (kas_bin b p k)
 |0,p,k,r,hk,u=>trivial
 |b+1,p,k,r,hk,u=>by
  have q:k<n:=by lia
  change path f n ((kas_place p k k 0 k).bind λl=>kas_bin b (bubble p k<|k-l)<|k+1);show dD (ik r q _ _ _<|FH _) ?_;let(c,e,g):=iL d r q u k 0 k (by lia) (by lia) (FH _) (λi hi=>by lia) (λi h1 h2=>by lia);generalize run f (kas_place p k k 0 k)=l at c e g|-;have v:=r.size;show pA d b _ (k+1) (r.bub _ _) (by lia) ?_;intro i a s t;rw[jU (by lia) c i,jU (by lia) c a]
  by_cases h:i=l
  .rw[EW h,EV (by lia),EW ⟨by lia,by lia⟩];show g (a-1) (by lia) (by lia)
  .rw[EV h]
   by_cases j:a=l
   .rw[EW j,EV (by lia)];show e i (by lia)
   .rw[EV j]
    by_cases m:l<i/\i<=k
    .rw[EW m,EW ⟨by lia,by lia⟩];show u _ _ (by lia) (by lia)
    .rw[EV m]
     by_cases o:l<a/\a<=k
     .rw[EW o]
      by_cases e3:i=a-1
      .lia
      .show u i (a-1) (by lia) (by lia)
     .rw[EV o];show u i a s (by lia)
theorem ug(a:Ord f n)(b:1<=n):path f n (kas_sort n):=by
 have d:Row n (toArray<|List.range n):=⟨by simp⟩;let(m,g,e,h1,h2,r,u):=pz a d b;unfold kas_sort;show dD (qR a d b) ?_;rw[e];dsimp only
 by_cases c:m<n
 .rw[EW c];have:max m 1=m:=by lia
  rw[this];show pA a (n-m) g m r (by lia) u
 .rw[EV c];show trivial
theorem yu(a:Ord f n)(c:1<=n):Row n (run f<|kas_sort n)/\Up f (run f<|kas_sort n) n:=by
 have g:Row n (toArray<|List.range n):=⟨by simp⟩;let(m,d,e,h1,h2,r,u):=pz a g c;unfold kas_sort;rw[eV,e];dsimp only
 by_cases b:m<n
 .rw[EW b];have:max m 1=m:=by lia
  rw[this];show vU a (n-m) d m r (by lia) u
 .rw[EV b];have:m=n:=by lia
  subst this;show⟨r,u⟩
end
section
variable{prog:qw}{w:qn}{A:qd}{E:xx->xg->Prop}{s:xg}
theorem yv{vs:List xx}(h:vs.length<2):((vs.toArray.zip vs.toArray).map (·.2)).toList=(toArray<|(toArray<|List.range vs.length).toList.map λi=>vs.getD i Value.none).toList:=by
 cases vs with
 |nil=>simp
 |cons v r =>
  cases r with
  |nil=>simp
  |cons u r=>show absurd h (by simp)
theorem iM{f:Nat->Nat->Bool}{a:zi}{vs:List xx}{n:Nat}{κ:SortKind}{P:PySem.Fin->xg->Prop}(l:Ord f vs.length)(g:s.heap.get? a=some (seqObj "list" vs.toArray n))(G:vs.length<64)(M:∀s':xg,(∀b o,b≠a->s.heap.get? b=some o->s'.heap.get? b=some o)->∀Q:SortKind->xg->Prop,2<=vs.length->Q κ s'->wpAny (model prog w) A (keyKind' vs.toArray) Q (λ_ _=>False) s')(N:∀s':xg,(∀b o,b≠a->s.heap.get? b=some o->s'.heap.get? b=some o)->∀(i j:Nat) (C:Bool->xg->Prop),i<vs.length->j<vs.length->C (f i j) s'->wpAny (model prog w) A (keyLt' κ (vs.getD i Value.none)<|vs.getD j Value.none) C (λ_ _=>False) s')(m:∀p:Array Nat,Row vs.length p->Up f p vs.length->P (.done<|.ret .none) {s with heap:=sortedHeap s.heap a vs (toArray<|p.toList.map λi=>vs.getD i Value.none)}):
  wpAny (model prog w) A (Builtin.«list.sort» {[.ref a],[]}) P E s:=by
 have X:a<s.heap.objs.size:=FW g;have s1:=Ft s.heap a<|Obj.mapSeq λ_=>(#[]:Array xx);obtain⟨e1,r⟩:∃e1,(s.heap.update a<|Obj.mapSeq λ_=>(#[]:Array xx)).get? a=some (seqObj "list" #[] e1):={_,get?_update_seq g λ_=>#[]};rw[list_sort_plain];show Wb<|listItems_at g rfl ?_;show Wb<|listUpdate_at g rfl ?_ (by rw[FO,sizeLine_eq];lia) (Fz _);show Wb<|seqEpoch_at r rfl ?_;show Wb<|wpAny_newTuple ?_ (by change vs.length<=_;rw[sizeLine_eq];lia);show Wb<|wpAny_newList ?_ (Fz _);show wpAny_holding ?_;have h:(((s.heap.update a<|Obj.mapSeq λ_=>(#[]:Array xx)).push (seqObj "tuple" vs.toArray 0)).push (seqObj "list" #[] 0)).get? a=some (seqObj "list" #[] e1):=EU _<|EU _ r;have u:∀b o,b≠a->s.heap.get? b=some o->(((s.heap.update a<|Obj.mapSeq λ_=>(#[]:Array xx)).push (seqObj "tuple" vs.toArray 0)).push (seqObj "list" #[] 0)).get? b=some o:=λb o J e =>
  EU _ (EU _<|(s1.2 b J).trans e)
 change wpAny (model prog w) A _ P E {s with heap:=((s.heap.update a<|Obj.mapSeq λ_=>(#[]:Array xx)).push (seqObj "tuple" vs.toArray 0)).push (seqObj "list" #[] 0)}
 dsimp only
 by_cases c:vs.toArray.size<2
 .rw[EW c,EW c];show Wb<|Wp ?_;rw[StateT.run_pure];show Wb<|Wp ?_;dsimp only;have d:vs.length<2:=by simpa using c
  have t:Row vs.length (toArray<|List.range vs.length):=⟨by simp⟩;have T:Up f (toArray<|List.range vs.length) vs.length:=λi j Y q=>by lia
  have e2:(arrOf<|SortSt.mk' general' (vs.toArray.zip vs.toArray) #[] 7 none).map (·.2)=toArray ((toArray<|List.range vs.length).toList.map λi=>vs.getD i Value.none):=by
   change(vs.toArray.zip vs.toArray).map (·.2)=_;apply Array.toList_inj.mp;show yv d
  show Wb<|seqEpoch_at h rfl ?_;rw[e2];show Wb<|listUpdate_at h rfl ?_ (Fz _) (by rw[FO,ES,FQ,t.size,sizeLine_eq];lia);change wpAny _ _ (if (e1 != e1)=true then _ else _) _ _ _
  simp only[bne_self_eq_false,FN,Fg];show Wp<|m _ t T
 .have d:2<=vs.length:=by rw[FO]at c;lia
  rw[EV c,EV c];show Wb<|wpAny_mono (M {s with heap:=((s.heap.update a<|Obj.mapSeq λ_=>(#[]:Array xx)).push (seqObj "tuple" vs.toArray 0)).push (seqObj "list" #[] 0)} u (λV s'=>V=κ/\s'={s with heap:=((s.heap.update a<|Obj.mapSeq λ_=>(#[]:Array xx)).push (seqObj "tuple" vs.toArray 0)).push (seqObj "list" #[] 0)}) d ⟨rfl,rfl⟩) (λa0 Z K=>?_) λ_ _ x=>x.elim
  let(D,es):=K;subst D es;let(S,U):=yu l (by lia:1<=vs.length);show Wb<|wpAny_mono (kat_run (Q:=λk s'=>∃p:Array Nat,p.size=vs.length/\arrOf k=p.map (kas_item<|vs.toArray.zip vs.toArray)/\failedOf k=none/\p=run f (kas_sort vs.length)/\s'={s with heap:=((s.heap.update a<|Obj.mapSeq λ_=>(#[]:Array xx)).push (seqObj "tuple" vs.toArray 0)).push (seqObj "list" #[] 0)})
   rfl d G (λW k s' v y z B=>⟨W,v,y,z,B⟩) (sH (n:=vs.length) (λi j C hi q H=>N _ u i j C hi q H) (λp s'=>p=run f (kas_sort vs.length)/\s'={s with heap:=((s.heap.update a<|Obj.mapSeq λ_=>(#[]:Array xx)).push (seqObj "tuple" vs.toArray 0)).push (seqObj "list" #[] 0)}) _ (ug l (by lia)) ⟨rfl,rfl⟩)) ?_ λ_ _ e=>e
  rintro⟨⟨⟩,k⟩ s' ⟨p,R,I,L,F,es⟩;subst es;dsimp only;have O:=kat_snds (ks:=vs) rfl I;show Wb<|seqEpoch_at h rfl ?_;rw[O];show Wb<|listUpdate_at h rfl ?_ (Fz _) (by rw[FO,ES,FQ,R,sizeLine_eq];lia);rw[L];simp only[bne_self_eq_false,FN,Fg];rw[F];show Wp<|m _ S U
theorem pB{l:zi}{vs:List xx}{Q:List xx->xg->Prop}(e:IsTup s.heap l vs.toArray)(b:Q vs {s with heap:=(s.heap.push<|seqObj "list" #[] 0).update s.heap.objs.size (Obj.mapSeq (· ++ vs.toArray))})(hsz:vs.length<=sizeLine):
  wpAny (model prog w) A (collect<|.ref l) Q E s:=by
 let(o,f,c,n,d):=id e;unfold collect;show Wb<|wpAny_runValue (codeAny_builtin entry_proto_collect' ?_);change wpAny _ _ (do again (.builtin "list.__iadd__" {[<-newList [],.ref l],[]})) _ _ s
 show Wb<|wpAny_newList (Wp {Code.quiet_builtin _ (by decide +kernel),codeAny_builtin entry_list_iadd' ?_});change wpAny _ _ (Builtin.List.listExtendWith (.ref s.heap.objs.size) (.ref l)<|.ref s.heap.objs.size) _ _ {s with heap:=s.heap.push (seqObj "list" #[] 0)}
 unfold Builtin.List.listExtendWith;have a:(s.heap.push<|seqObj "list" #[] 0).get? l=some o:=EU _ f;show Wb<|wpAny_typeOf (T:="tuple") ⟨o,a,c⟩ ?_;have g:(Value.type "tuple"==Value.type "tuple")=true:=by rfl
 rw[EW (by rw[g];simp)];show Wb<|listItems_at a d ?_;show Wb<|listItems_at (xs:=#[]) (n:=0) (FG _ rfl) rfl ?_;rw[EV (by simp)];show Wb<|listUpdate_at (xs:=#[]) (n:=0) (FG _ rfl) rfl ?_ (Fz _) (by change(#[]++vs.toArray).size<=sizeLine+1;simp only[Array.size_append,FO,length_nil];lia);show Wp ?_;change wpAny (model prog w) A (do
   let o <- load s.heap.objs.size
   match o.data with
   |.seq xs _=>pure xs.toList
   | _=>unsupported "internal:collect") Q E {s with heap:=(s.heap.push<|seqObj "list" #[] 0).update s.heap.objs.size (Obj.mapSeq (· ++ vs.toArray))}
 show Wb<|wpAny_load (get?_update_seq (FG _ rfl) _) ?_;change wpAny _ _ (pure ((#[]:Array xx)++vs.toArray).toList) Q E _;rw[show((#[]:Array xx)++vs.toArray).toList=vs by simp];show Wp b
theorem pC{l:zi}{vs:List xx}{Q:List xx->xg->Prop}(a:s.heap.IsList l vs.toArray\/IsTup s.heap l vs.toArray)(b:Q vs {s with heap:=(s.heap.push<|seqObj "list" #[] 0).update s.heap.objs.size (Obj.mapSeq (· ++ vs.toArray))})(hsz:vs.length<=sizeLine):
  wpAny (model prog w) A (collect<|.ref l) Q E s:=by
 rcases a with a|a
 .show collect_list a b hsz
 .show pB a b hsz
theorem kO{f:Nat->Nat->Bool}{l:zi}{vs:List xx}{κ:SortKind}{Q:xx->xg->Prop}(t:Ord f vs.length)(D:s.heap.IsList l vs.toArray\/IsTup s.heap l vs.toArray)(x:vs.length<64)(B:∀(a:qd) (s':xg),a.units<=A.units+2->(∀b o,s.heap.get? b=some o->s'.heap.get? b=some o)->∀Q:SortKind->xg->Prop,2<=vs.length->Q κ s'->wpAny (model prog w) a (keyKind' vs.toArray) Q (λ_ _=>False) s')(c:∀(a:qd) (s':xg),a.units<=A.units+2->(∀b o,s.heap.get? b=some o->s'.heap.get? b=some o)->∀(i j:Nat) (C:Bool->xg->Prop),i<vs.length->j<vs.length->C (f i j) s'->wpAny (model prog w) a (keyLt' κ (vs.getD i Value.none)<|vs.getD j Value.none) C (λ_ _=>False) s')(v:∀(p:Array Nat) (h':qb),Row vs.length p->Up f p vs.length->(∀b o,s.heap.get? b=some o->h'.get? b=some o)->s.heap.objs.size<=s.heap.objs.size+1->(∃k,h'.get? (s.heap.objs.size+1)=some (seqObj "list" (toArray<|p.toList.map λi=>vs.getD i Value.none) k))->Q (.ref<|s.heap.objs.size+1) {s with heap:=h'}):
  wpAny (model prog w) A (call (.builtin "sorted") [.ref l]) Q E s:=by
 show Calls.call_function_entry kind_sorted plain_sorted entry_sorted (args_sorted1 _) ?_;unfold Builtin.«sorted»;show Wb (m:=checkCount "sorted" 1 1 _)<|Wp ?_;show Wb<|pC D ?_ (by rw[sizeLine_eq];lia);show Wb<|wpAny_newList ?_ (by rw[sizeLine_eq];lia);have n:((s.heap.push<|seqObj "list" #[] 0).update s.heap.objs.size (Obj.mapSeq (· ++ vs.toArray))).objs.size=s.heap.objs.size+1:=by
  rw[Heap.size_update,size_push']
 have g:(((s.heap.push<|seqObj "list" #[] 0).update s.heap.objs.size (Obj.mapSeq (· ++ vs.toArray))).push (seqObj "list" vs.toArray 0)).get? (s.heap.objs.size+1)=some (seqObj "list" vs.toArray 0):=by
  rw[<-n];show FG _ rfl
 have r:∀b o,s.heap.get? b=some o->(((s.heap.push<|seqObj "list" #[] 0).update s.heap.objs.size (Obj.mapSeq (· ++ vs.toArray))).push (seqObj "list" vs.toArray 0)).get? b=some o:=λb o q=>by
  have c:b<s.heap.objs.size:=FW q;rw[Heap.get?_push_ne _ _ _ (by rw[n];show FX<|lt_succ_of_lt c),get?_update_ne _ _ _ _<|FX c,Heap.get?_push_ne _ _ _<|FX c];show q
 have d:∀b o,s.heap.get? b=some o->b≠s.heap.objs.size+1:=λb o q=>FX<|lt_succ_of_lt (FW q);change wpAny _ _ _ _ _ {s with heap:=((s.heap.push<|seqObj "list" #[] 0).update s.heap.objs.size (Obj.mapSeq (· ++ vs.toArray))).push (seqObj "list" vs.toArray 0)}
 rw[n];show Wb<|wpAny_holding (wpAny_call_entry slot_list_sort ⟨_,g,rfl⟩ entry_list_sort (iM (κ:=κ) (s:={s with heap:=((s.heap.push<|seqObj "list" #[] 0).update s.heap.objs.size (Obj.mapSeq (· ++ vs.toArray))).push (seqObj "list" vs.toArray 0)}) t g x ?_ ?_ λp H I=>{_,rfl,?_})<|args_list_sort _)
 .intro s' h u h2 G;show B _ s' (by simp[Around.in1_units]) (λb o e=>h b o (d b o e)<|r b o e) u h2 G
 .intro s' h i j C hi z y;show c _ s' (by simp[Around.in1_units]) (λb o e=>h b o (d b o e)<|r b o e) i j C hi z y
 .show Wp {_,rfl,v p _ H I (λb o e=>?_) (le_succ _) ?_}
  .unfold sortedHeap;rw[get?_update_ne _ _ _ _<|d b o e];show EU _<|EU _ ?_;rw[get?_update_ne _ _ _ _<|d b o e];show r b o e
  .unfold sortedHeap;obtain⟨e1,F⟩:∃e1,((((s.heap.push<|seqObj "list" #[] 0).update s.heap.objs.size (Obj.mapSeq (· ++ vs.toArray))).push (seqObj "list" vs.toArray 0)).update (s.heap.objs.size+1) (Obj.mapSeq λ_=>(#[]:Array xx))).get? (s.heap.objs.size+1)=some (seqObj "list" #[] e1):={_,get?_update_seq g λ_=>#[]};show{_,get?_update_seq (EU _<|EU _ F) _}
theorem uh{f:Nat->Nat->Bool}{l:zi}{vs:List xx}{κ:SortKind}{Q:xx->xg->Prop}(c:Ord f vs.length)(h:s.heap.IsList l vs.toArray)(e:vs.length<64)(g:∀(a:qd) (s':xg),a.units<=A.units+2->(∀b o,s.heap.get? b=some o->s'.heap.get? b=some o)->∀Q:SortKind->xg->Prop,2<=vs.length->Q κ s'->wpAny (model prog w) a (keyKind' vs.toArray) Q (λ_ _=>False) s')(m:∀(a:qd) (s':xg),a.units<=A.units+2->(∀b o,s.heap.get? b=some o->s'.heap.get? b=some o)->∀(i j:Nat) (C:Bool->xg->Prop),i<vs.length->j<vs.length->C (f i j) s'->wpAny (model prog w) a (keyLt' κ (vs.getD i Value.none)<|vs.getD j Value.none) C (λ_ _=>False) s')(d:∀(p:Array Nat) (h':qb),Row vs.length p->Up f p vs.length->(∀b o,s.heap.get? b=some o->h'.get? b=some o)->s.heap.objs.size<=s.heap.objs.size+1->(∃k,h'.get? (s.heap.objs.size+1)=some (seqObj "list" (toArray<|p.toList.map λi=>vs.getD i Value.none) k))->Q (.ref<|s.heap.objs.size+1) {s with heap:=h'}):
  wpAny (model prog w) A (call (.builtin "sorted") [.ref l]) Q E s:=kO c (.inl h) e g m d
end
end SRT
namespace L2
open PySem PySem.Spec PyProof.Rows
section
variable{X:Cx}{tg:Expr}
theorem jV:∀{bs:List Bool}{us:List xx},aA (bs.map V.bl) us->us=bs.map Value.bool
 |[],_,.nil=>rfl
 |b::bs,_,.cons r t=>by
  have e:_=Value.bool b:=r;rw[e,jV t];rfl
theorem kQ(p:X.calm=true):ca X (.builtin "all") (λxs H Q=>∃a,∃bs:List Bool,xs=[.ref a]/\SqL X.K H a (bs.map V.bl)/\Q (.bl<|bs.all id) H):=by
 intro pins s σ H xs G Q I r h;let(a,bs,rfl,z,q):=h;let(u,rfl,B):=cA r;cases B;let(F,C,pl,E):=I.list z;have e:=jV C;subst e;show call_all_walk<|wpAny_pyIter_list pl.isList ?_;have w:a<s.heap.objs.size:=by let(o,e,_):=pl.isList;show FW e
 have y:a≠s.heap.objs.size:=FX w;show{s.heap.objs.size,_,_,_,_,_,λi=>bs.getD i false,rfl,Walks.list (by simp[I.ok.hd p]) s.heap.objs.size a y (bs.map Value.bool).toArray,{{_,FG _ rfl,rfl,rfl},pl.isList.push _},?_,?_}
 .intro i v s' k D m n;have c:(bs.map Value.bool)[i]?=some v:=by simpa using m
  rw[FE]at c;cases d:bs[i]? with
  |none=>rw[d]at c;cases c
  |some b =>
   rw[d]at c;have l:Value.bool b=v:=Option.some.inj c;subst l;show wpAny_truthy_bool ?_;have g:k (bs.getD i false) s':=n;rw[FA,d]at g;show g
 .intro h' tk t;show{.bl<|bs.all id,H,I.kept (t':=tk) λb o e=>t b o (by simp only[Gp];show FX<|FW e)<|EU _ e,?_,q};have e1:((List.range (bs.map Value.bool).toArray.size).all λi=>bs.getD i false)=bs.all id:=by
   rw[FO,ES];rw[Fp,Gj,Gj];constructor
   .intro f x A;let(i,hi,e):=GF.mp A;have:=f i<|GC.mpr hi;rw[FA,ET hi,e]at this;show this
   .intro f i hi;have j:=GC.mp hi;rw[FA,ET j];show f _<|Gk j
  change _=Value.bool _;rw[e1]
theorem cm:ca X (.builtin "isinstance") (λxs H Q=>∃x n t b,xs=[x,.ty n]/\TyOf X.K H x t/\kitOne X.K t (.type n)=some b/\Q (.bl b) H):=by
 intro pins s σ H xs f Q I r h;let(x,n,t,b,rfl,ty,e,q):=h;let(u,d,rfl,a,c):=si r;cases (show d=Value.type n from c);show tS I a ty e λtk=>⟨.bl b,H,I.tok tk,rfl,q⟩
def Its(x:Str):It:={λi _=>i<x.cps.size,λi H v H'=>H'=H/\∃c,x.cps[i]?=some c/\v=.str {#[c]},λi _=>x.cps.size<=i}
theorem vV{P:qw}{w:qn}{K:Frag}(x:Str)(t:Tok)(it:zi):Turn P w K tg (Its x) [it] it (λi h=>h.IsStrIter it (strIterType x) x t i) where
 mem:=by simp
 obj:=λi h st b f=>by
  have e:b=it:=by simpa using f
  subst e;let(o,e,c,d):=st;show{o,e,λv z=>by rw[d]at z;cases z}
 keep:=λi h h' st k=>by
  let(o,e,r):=st;show{o,k it (by simp) o e,r}
 item:=by
  intro X J N G L i pins s σ H E I D st M;subst J N G;let(n,p,T,q,u,B):=D it (by simp);have j:i<x.cps.size:=M;have C:∀(h':qb)(tk:Nat),h'.IsStrIter it (strIterType x) x t (i+1)->SameBut it s.heap h'->∃O,some (Value.str {#[x.cps[i]]} s.toks)=some O/\wpAny (model X.prog X.w) X.A (letOwnedTupleGo tg (.ref it) O) (λ_ R=>∃y H',Inv X pins σ H' R/\aI y O/\(Its x).yld i H y H'/\R.heap.IsStrIter it (strIterType x) x t (i+1)/\∀b∈[it],H' b=none) E {s with heap:=h',toks:=tk}:=λh' tk l m=>by
   have S:Inv X pins σ H {s with heap:=h',toks:=tk}:=I.turned (t':=tk) (λb o f e=>(m.2 b f).trans e) n p q u B
   let(o,e,c,d):=id l;show{_,rfl,oS (s:={s with heap:=h',toks:=tk}) e c d ?_ {.str {#[x.cps[i]]},H,S,⟨_,rfl⟩,{rfl,x.cps[i],by simp[j],rfl},l,λb f=>(D b f).1}};unfold strIterType
   split<;>decide
  cases g:x.cps.all (· < 128)with
  |true =>
   have a:strIterType x="str_ascii_iterator":=by simp[strIterType,g]
   rw[a]at st C|-;show wpAny_pyNext_ascii_item st (c:=x.cps[i]) (by simp[j]) λh' l m=>C h' _ l m
  |false =>
   have a:strIterType x="str_iterator":=by simp[strIterType,g]
   rw[a]at st C|-;show wpAny_pyNext_wide_item st (c:=x.cps[i]) (by simp[j]) λh' l m=>C h' _ l m
 done:=by
  intro X J N G L i pins s σ H E I D st M;subst J N G;let(n,p,T,q,u,B):=D it (by simp);have j:x.cps.size<=i:=M;cases g:x.cps.all (· < 128)with
  |true =>
   have a:strIterType x="str_ascii_iterator":=by simp[strIterType,g]
   rw[a]at st;show wpAny_pyNext_ascii_end (I.ok.hd L) st (by simp[j]) λh' F=>{rfl,I.turned (t':=s.toks) (λb o f e=>F b o f e) n p q u B}
  |false =>
   have a:strIterType x="str_iterator":=by simp[strIterType,g]
   rw[a]at st;show wpAny_pyNext_wide_end (I.ok.hd L) st (by simp[j]) λh' F=>{rfl,I.turned (t':=s.toks) (λb o f e=>F b o f e) n p q u B}
 self:=λA i s Q E st h=>by
  cases g:x.cps.all (· < 128)with
  |true =>
   have a:strIterType x="str_ascii_iterator":=by simp[strIterType,g]
   rw[a]at st;show wpAny_pyIter_striter_ascii st h
  |false =>
   have a:strIterType x="str_iterator":=by simp[strIterType,g]
   rw[a]at st;show wpAny_pyIter_striter_wide st h
def En(a:TE):TI:=λσ H R=>a σ H λv H1=>∃x,v=.str x/\R (Its x) H1
theorem AO{l:Expr}{c:TE}(f:PE X l c):PI X tg l (En c):=by
 intro pins s σ H R I h;show thn (f pins s σ H _ I h) λv s1 g=>?_;let(y,H1,a,j,i):=g;let(x,e,q):=i;subst e;let(t,rfl):=j;show wpAny_pyIter_strU ?_;show{s1.heap.objs.size,[s1.heap.objs.size],_,_,H1,rfl,a.kept (t':=s1.toks) λb o e=>EU _ e,vV x t _,{_,FG _ rfl,rfl,rfl},λb d=>?_,q};have e:b=s1.heap.objs.size:=by simpa using d
 subst e;show a.fpOk (FH _)<|a.hok.fresh (FH _)
theorem vW{i:List (zi×Obj)}{j:St}{b:Hp}{s:xg}{a:zi}{ks:List Key}(f:Inv X i j b s)(g:b a=some (.tup<|ks.map kV))(P:qw)(w:qn):IsTupleKey (aF P w) s.heap ks a:=by
 let(_,h,r,o,e,c,n,d):=f.hok a _ g;show{o,h.toArray,n,e,c,d,by simpa using jh r}
theorem dc:∀{a:List zi}{us:List xx},aA (a.map V.ref) us->us=a.map Value.ref
 |[],_,.nil=>rfl
 |b::bs,_,.cons r t=>by
  have e:_=Value.ref b:=r;rw[e,dc t];rfl
theorem lU(n:X.A.units+1<cLine):OpR X (compareOp .NotIn) (λx y H Q=>∃a p ks,∃d:List<|zi×List Key,x=.ref a/\H a=some (.tup<|ks.map kV)/\y=.ref p/\SqL X.K H p ((d.map (·.1)).map V.ref) /\
  (∀z∈d,H z.1=some (.tup<|z.2.map kV))/\Q (.bl<|!(d.any λz=>decide<|z.2=ks)) H):=by
 intro pins s σ H x y v u Q I B C h;let(a,p,ks,d,rfl,k,rfl,m,i,q):=h;cases B;cases C;let(G,t,pl,F):=I.list m;have e:=dc t;subst e
 let e:xx->Bool:=λv=>match v with | .ref b=>((d.find? λz=>z.1==b).map λz=>decide<|z.2=ks).getD false | _=>false
 have g:∀z∈d,e (.ref z.1)=decide (z.2=ks):=λz c=>by
  change((d.find? λy=>y.1==z.1).map λz=>decide<|z.2=ks).getD false=_;cases f:d.find? λy=>y.1==z.1 with
  |none=>have:=find?_eq_none.mp f z c;simp at this
  |some y =>
   have h1:=find?_some f;have h2:=List.mem_of_find?_eq_some f;have e1:y.1=z.1:=by simpa using h1
   have e2:=i y h2;rw[e1,i z c]at e2;have e3:z.2.map kV=y.2.map kV:=by injection (Option.some.inj e2)
   rw[nR e3];rfl
 show SeqAt.notIn_listAt e pl.isList (λy o=>?_) {.bl _,H,I,rfl,?_}
 .have r:y∈(d.map (·.1)).map Value.ref:=by simpa using o
  let(b,l,rfl):=EZ.mp r;let(z,c,rfl):=EZ.mp l;rw[g z c];intro prog w D E j;show wpAny_eqBool_tuple (knd:=aF prog w) (by simp;show n) (vW I (i z c) prog w) (vW I k prog w) j
 .have e1:(((d.map (·.1)).map Value.ref).toArray.any e)=d.any λz=>decide (z.2=ks):=by
   rw[List.any_toArray,any_map,any_map];apply Fp.mpr;rw[GK,GK];constructor
   .rintro⟨z,c,h1⟩;show{z,c,by rw[<-g z c];show h1}
   .rintro⟨z,c,h1⟩;show{z,c,by change e (.ref z.1)=true;rw[g z c];show h1}
  rw[e1];show q
def nW(a:zi)(n:Nat)(c:qb):Prop:=∃o es b t,c.get? a=some o/\o.ExactSet/\o.data=.set es b t/\t.fits es.size=true/\es.size=n
theorem vX(P:qw)(w:qn):∀k v,(aF P w).is k v=true->v.scannable=true:=λk v h=>by
 rcases aP h with⟨i,t,_,rfl⟩|⟨x,t,_,rfl⟩<;>rfl
theorem lV(F:X.calm=true)(W:X.A.units+4<cLine):ca X (.type "set") (λxs H Q=>∃p,∃kss:List<|zi×List Key,xs=[.ref p]/\SqL X.K H p ((kss.map (·.1)).map V.ref)/\(∀z∈kss,H z.1=some (.tup<|z.2.map kV))/\kss.length<=60 /\
  ∀n,n<=kss.length->(n=kss.length↔(kss.map (·.2)).Nodup)->∀q,H q=none->Q (.ref q) (upd H q<|.ext (nW q n))):=by
 intro pins s σ H xs a8 Q I r h;let(p,kss,rfl,U,P,S,q):=h;let(u,rfl,a1):=cA r;cases a1;let(a7,a2,pl,a6):=I.list U;have e:=dc a2;subst e;have B:(((kss.map (·.1)).map Value.ref).toArray).size=kss.length:=by simp
 have m:∀i,i<kss.length->kss.getD i (0,[])∈kss:=λi hi=>by
  rw[FA,ET hi];show Gk hi
 show TB.jO (knd:=aF X.prog X.w) (key:=λi=>(kss.getD i (0,[])).2) (ad:=λi=>(kss.getD i (0,[])).1) (I.ok.hd F) W (vX _ _) pl.isList (λi v Y=>?_) (λi hi=>?_) (by rw[B];show S) λh' tk zs k C x R=>?_
 .have a:((kss.map (·.1)).map Value.ref)[i]?=some v:=by simpa using Y
  rw[FE,FE]at a;rw[FA];cases j:kss[i]? with
  |none=>rw[j]at a;cases a
  |some z=>rw[j]at a;show(Option.some.inj a).symm
 .show vW I (P _<|m i (by lia)) _ _
 .rw[B]at x C;have G:zs.length=kss.length↔(kss.map (·.2)).Nodup:=by
   have:=TB.pr (z:=zs.map (·.2.2)) (l:=kss.map (·.2)) k.nd λa0=>by
    rw[x a0];constructor
    .rintro⟨g,c,e⟩;rw[<-e];show EZ.mpr ⟨_,m g c,rfl⟩
    .intro h1;let(z,Z,e):=EZ.mp h1;let(g,c,e2):=GF.mp Z;show{g,c,by rw[FA,ET c,e2];show e}
   rw[ES,ES]at this;show this
  let((o,es,d,t,y,M,J,L,T,a4,a3,a5),_,_):=k;have f:es.size=zs.length:=by rw[<-FQ,L,ES]
  have N:t.fits es.size=true:=TB.gM T (by rw[ES,f]) (by rw[f];lia);show{.ref s.heap.objs.size,_,I.laid (t':=tk) (o:=.ext<|nW s.heap.objs.size zs.length) (λb o e=>R b o (FW e) e) (FH _) {⟨o,es,d,t,y,M,J,N,f⟩,⟨o,y⟩,?_},rfl,q zs.length C G _<|I.hok.fresh (FH _)};rintro h1 h2 ⟨o,es,d,t,D,E⟩ O;show{o,es,d,t,O o D,E}
theorem pD:ca X (.builtin "len") (λxs H Q=>∃p n,xs=[.ref p]/\H p=some (.ext<|nW p n)/\n<=60/\Q (.int n) H):=by
 intro pins s σ H xs k Q I r h;let(p,n,rfl,f,j,q):=h;let(u,rfl,g):=cA r;cases g;let((o,es,i,t,e,c,b,d,a),_,_):=I.hok p _ f;show call_len_set e c b d (by rw[a];lia) {.int n,H,I.tok _,?_,q};rw[a];show{_,rfl}
def yw:V->List V->Hp->VK->Prop:=λx vs H Q=>∃d kvs k y,x=.ref d/\vs=[kV k,y]/\H d=some (.dK kvs)/\kvs.length<sizeLine/\(∀v,aX kvs k=some v->Q v H)/\(aX kvs k=none->Q y (upd H d<|.dK (bJ kvs k y)))
theorem lW:MtM X "dict.setdefault" yw:=by
 intro pins s σ H x vs v G Q I B A h;let(d,kvs,k,y,rfl,rfl,f,E,p,r):=h;cases B;let(u,D,rfl,t,i):=A.two;let(z,g,j,a,dd):=su I.hok f;have o:j.length<=sizeLine:=by rw[<-a.length];show z
 show call_meetsIn F.slot_dict_setdefault dd.typeIs F.entry_dict_setdefault (F.args_dict_setdefault_3 _ _ _) (kt_meets_setdefault (aF X.prog X.w) d (gh t) g D) {j,dd,o,λJ b=>?_,λb h' c C=>?_}
 .have:=a.val k;rw[b]at this;cases e:aX kvs k with
  |none=>rw[e]at this;cases this
  |some v =>
   rw[e]at this;show{v,H,I.tok _,this,p v e}
 .have:=a.val k;rw[b]at this;cases e:aX kvs k with
  |some v=>rw[e]at this;cases this
  |none =>
   have l:∃q,h'.get? d=some q:=let⟨q,_,_,n,_⟩:=c;⟨q,n⟩;have m:(bJ kvs k y).length<=sizeLine:=by have:=dX kvs k y;lia
   show{y,_,jS I (by rw[f];show True.intro) C l<|jj m g (a.put k i) c,i,r e}
theorem ui:ca X (.type "range") (λxs H Q=>∃i j,xs=[.int i,.int j]/\∀p,H p=none->Q (.ref p) (upd H p<|.rng i j)):=by
 intro pins s σ H xs d Q I r h;let(i,j,rfl,q):=h;let(u,c,rfl,(t,rfl),(t',rfl)):=si r;show call_range_2 {.ref s.heap.objs.size,_,I.laid (t':=s.toks+1) (o:=.rng i j) (λb a q=>EU _ q) (FH _) ?_,rfl,q _<|I.hok.fresh (FH _)};show{t,t',_,FG _ rfl}
theorem qS{lo:Int}{n:Nat}{a:Array xx}(c:ItemsOf (λi v=>∃t,v=.int (lo+i*1) t) a n):aA ((List.range n).map λk=>V.int<|lo+(k:Nat)) a.toList:=by
 let(h1,h2):=c;have key:∀(l:List xx)(k:Nat),(∀(i:Nat)(v:xx),l[i]?=some v->∃t,v=Value.int (lo+(k+i:Nat)) t)->aA ((range' k l.length).map λk=>V.int<|lo+(k:Nat)) l:=by
  intro l
  induction l with
  |nil=>intro k _;show .nil
  |cons v l h =>
   intro k b;rw[Fs,List.range'_succ,Fi];show .cons ?_<|h (k+1) λi w g=>?_
   .let(t,e):=b 0 v rfl;show⟨t,e⟩
   .let(t,e):=b (i+1) w g;show{t,by rw[e,show k+(i+1)=k+1+i by lia]}
 have d:a.toList.length=n:=by simpa using h1
 have:=key a.toList 0 λi v b=>by
  have f:a[i]?=some v:=by simpa using b
  let(t,e):=h2 i v f;show{t,by rw[e,Int.mul_one,zero_add]}
 rw[d]at this;rw[List.range_eq_range'];show this
theorem lX(c:X.calm=true):ca X (.type "list") (λxs H Q=>∃p i j,xs=[.ref p]/\H p=some (.rng i j)/\(-(2 ^ 62)<=i/\i<2 ^ 62/\-(2 ^ 62)<=j/\j<2 ^ 62)/\(j-i).toNat<=1000 /\
  ∀l,H l=none->Q (.ref l) (upd H l<|.lst ((List.range (j-i).toNat).map λk=>V.int<|i+(k:Nat)))):=by
 intro pins s σ H xs y Q I r h;let(p,i,j,rfl,f,(b1,b2,b3,b4),v,q):=h;let(u,rfl,o):=cA r;cases o;let(t,t',x,e):=(show bq X.prog X.w H s.heap p (.rng i j)from I.hok p _ f);have g:Builtin.Range.rangeSize i j 1=((j-i).toNat:Nat):=by rw[rangeSize_one];split<;>lia
 show call_list_range (n:=(j-i).toNat) (I.ok.hd c) e (small_one b1 b2 b3 b4) g (by lia) λh' tk a b m d hi=>?_;show{.ref s.heap.objs.size,_,I.laid (t':=tk) m (FH _) (show bq X.prog X.w _ h' _ (.lst _)from{?_,a.toList,b,qS hi,by simpa using d}),rfl,q _<|I.hok.fresh (FH _)}
 rw[ES,GH,sizeLine_eq];lia
theorem vY:OpR X (binaryOp .Add) (λx y H Q=>∃a b ys,x=.ref a/\y=.ref b/\SqT X.K H a []/\SqT X.K H b ys/\Q (.ref b) H):=by
 intro pins s σ H x y v u Q I w z h;let(a,b,ys,rfl,rfl,k,l,q):=h;cases w;cases z;let(E,t,o,_):=I.tuple k;let(p,G,m,_):=I.tuple l;cases t;let((cls,dd,D,A),g,c,n,e):=id o;let((C,j,data2,B),i,d,r,f):=id m;simp only at c e d f;subst c e d f;show concat_meets ⟨_,g,rfl⟩ ⟨_,i,rfl⟩ noFill_tuple_add seq_tuple_add slot_tuple_add entry_tuple_add (args_tuple_add_2 _ _)
  (tuple_addW0 a b _ p.toArray n r dd j A B (by rfl)) ⟨g,i,⟨.ref b,H,I,rfl,q⟩⟩
theorem iN{prog:qw}{w:qn}{A:qd}{E:xx->xg->Prop}{s:xg}{t c:zi}{items:Array xx}{f g:xx}{lo b:Option Int}{Q:xx->xg->Prop}(a:IsTup s.heap t items)(d:s.heap.IsSliceOf c f g .none)(pl:IsPart f lo)(m:IsPart g b)(e:HT.sIx items.size 0 lo=0/\HT.sIx items.size items.size b=items.size)(h:Q (.ref t) s):wpAny (model prog w) A (getItem (.ref t)<|.ref c) Q E s:=by
 let(os,k,j,n):=id d;have i:s.TypeIs (.ref c) "slice":=⟨os,k,j⟩;unfold getItem
 try with_reducible show wpAny_holding ?_
 first|show Wb (Wp ?_)|skip
 show Wb<|wpAny_sequenceKey a.typeIs (by decide) ?_;show Wb (wpAny_callSpecial?_slot (name:=ofString "__getitem__") a.typeIs Fv
  (wpAny_call_entry Fv a.typeIs entry_tuple_getitem ?_<|args_tuple_getitem _ _))
 change wpAny _ _ (Builtin.Tuple.tupleItemsOf (.ref t) >>= _) _ _ s;show Wb<|tupleItemsOf_ a ?_;show Wb<|wpAny_typeOf i ?_;rw[EW (by decide)];show Wb<|HT.eT d pl m ?_;have l:((((HT.sIx items.size 0 lo:Nat):Int)==0&&(1:Int)==1&&(HT.sIx items.size items.size b-HT.sIx items.size 0 lo)==items.size)=true):=by
  rw[e.1,e.2];simp
 change wpAny _ _ (if (((HT.sIx items.size 0 lo:Nat):Int)==0&&(1:Int)==1&&(HT.sIx items.size items.size b-HT.sIx items.size 0 lo)==items.size)=true then _ else _) _ _ s
 rw[EW l];show Wb ?_;unfold Builtin.Tuple.tupleIsExact;show Wb<|wpAny_typeOf a.typeIs (Wp ?_);rw[EW (by decide)];show Wb<|wpAny_rule (Wp ⟨_,rfl,Wp h⟩)
theorem qT:SlR X (λx lo hi H Q=>∃a xs,x=.ref a/\SqT X.K H a xs/\HT.sIx xs.length 0 lo=0/\HT.sIx xs.length xs.length hi=xs.length/\Q (.ref a) H):=by
 intro pins s σ H x v l m lo hi k Q I i d pl g h;let(a,xs,rfl,e,h1,h2,q):=h;cases i;let(f,r,b,j):=I.tuple e;have c:f.toArray.size=xs.length:=by rw[FO];show r.length.symm
 show{"tuple",_,Fv.lookup,b.typeIs,iN b d pl g (by rw[c];show⟨h1,h2⟩) ⟨.ref a,H,I,rfl,q⟩}
theorem kR(f:X.A.units<cLine):OpR X (compareOp .Eq) (λx y H Q=>∃a b xs,x=.ref a/\y=.ref b/\SqL X.K H a xs/\SqL X.K H b []/\Q (.bl<|decide (xs=[])) H):=by
 intro pins s σ H x y v u Q I m n h;let(a,b,xs,rfl,rfl,j,k,q):=h;cases m;cases n;let(g,i,d,_):=I.list j;let(o,l,c,_):=I.list k;cases l
 by_cases e:xs=[]
 .subst e;cases i;show eq_listAt (e:=λ_=>true) d.isList c.isList rfl f (λp h1 h2=>absurd h2 (by simp)) {.bl _,H,I,?_,q};rfl
 .have e2:g≠[]:=λz=>e<|i.nil_iff.mp z;have e3:g.length≠0:=λz=>e2<|GY.mp z;show SeqAt.eq_list_lengthsAt d.isList c.isList (by simp[e3]) f {.bl _,H,I,?_,q};change _=Value.bool _;simp[e]
end
end L2
namespace ZT
open PySem PySem.SeqAt
section
variable{prog:qw}{w:qn}{A:qd}{E:xx->xg->Prop}{s:xg}
theorem il{a t:zi}{i:Nat}{items:Array xx}{x:xx}{Q:xx->xg->Prop}(b:s.heap.IsTupleIter a t i)(d:s.heap.IsTuple t items)(e:items[i]?=some x)(q:∀g,g.IsTupleIter a t (i+1)->SameBut a s.heap g->Q x {s with heap:=g}):wpAny (model prog w) A (Builtin.SmallTypes.nextOf<|.ref a) Q E s:=by
 let(f,e1,e2,e3):=id b;let(j,e4,_,k,c):=d;unfold Builtin.SmallTypes.nextOf;show Wb<|wpAny_callSpecial?_slot (name:=ofString "__next__") b.typeIs F.slot_tuple_iterator_next (wpAny_call_entry F.slot_tuple_iterator_next b.typeIs F.entry_tuple_iterator_next ?body<|F.args_tuple_iterator_next_1 _)
 case body =>
  show Wb (m:=field (.ref a) 0)<|wpAny_field e1 e3 (x:=.ref t) rfl ?_;rw[EV (show ¬((Value.ref t==Value.none)=true)by simp)];show Wb (m:=field (.ref a) 1)<|wpAny_field e1 e3 (x:=.int i 0) rfl ?_;show Wb (m:=seqItems?<|.ref t)<|wpAny_seqItems e4 c ?_;simp only[GR,e];have h:(Obj.mapFields (·.setIfInBounds 1 (rawInt<|(i:Int)+1)) f).data=.fields #[.ref t,.int ((i+1:Nat):Int) 0]:=by rw[Obj.data_mapFields e3];simp[rawInt]
  show Wb<|wpAny_setField e1 e3 (by simp) (Wp ⟨x,rfl,Wp<|q _ ⟨_,get?_update_self _ e1<|Obj.isFreed_of_fields (Obj.data_mapFields e3 _),(Obj.cls_mapFields ..).trans e2,h⟩ (Ft ..)⟩)
theorem mJ{b t:zi}{i:Nat}{items:Array xx}{Q:xx->xg->Prop}(d:A.handled=none)(c:s.heap.IsTupleIter b t i)(h:s.heap.IsTuple t items)(j:items[i]?=none)(q:∀g e,ExtBut b s.heap g->(∃o,g.get? e=some o/\o.cls=.type "StopIteration")->E (.ref e) {s with heap:=g}):wpAny (model prog w) A (Builtin.SmallTypes.nextOf<|.ref b) Q E s:=by
 let(l,e1,e2,e3):=id c;let(n,e4,_,k,f):=h;unfold Builtin.SmallTypes.nextOf;show Wb<|wpAny_callSpecial?_slot (name:=ofString "__next__") c.typeIs F.slot_tuple_iterator_next (wpAny_call_entry F.slot_tuple_iterator_next c.typeIs F.entry_tuple_iterator_next ?body<|F.args_tuple_iterator_next_1 _)
 case body =>
  show Wb (m:=field (.ref b) 0)<|wpAny_field e1 e3 (x:=.ref t) rfl ?_;rw[EV (show ¬((Value.ref t==Value.none)=true)by simp)];show Wb (m:=field (.ref b) 1)<|wpAny_field e1 e3 (x:=.int i 0) rfl ?_;show Wb (m:=seqItems?<|.ref t)<|wpAny_seqItems e4 f ?_;simp only[GR,j];show Wb<|wpAny_rule (Wb<|wpAny_setField e1 e3 (by simp) ?_);show Wb (m:=newExc (.type "StopIteration") []) ?_;unfold newExc newTuple;show Wb<|wpAny_newObj_type (hd:=by size_fits) ?_;show Wb (m:=firstArgMember _ _)<|wpAny_of_eq (a:=Value.none) (by first|rfl|(unfold firstArgMember;rfl)) (wpAny_newObj_type (hd:=by size_fits) ?_)
  unfold raiseNew;show Wb<|wpAny_handled ?_
  first|rw[show A.in1.handled=none from d]|rw[d]
  show Wb<|Wp (wpAny_throw<|q _ _ (((Ft ..).extBut.push _).push _) {_,FG _ rfl,rfl})
structure Rec(h:qb)(z a b i1 i2 t1 t2:zi)(out:xx)(k:Nat):Prop where
 zz:IsZip h z a b out
 ti:IsPair h a (.ref i1)<|.ref i2
 to:∃u v,IsPair h b u v
 n1:h.IsTupleIter i1 t1 k
 n2:h.IsTupleIter i2 t2 k
structure Apart(z a b i1 i2 t1 t2:Nat):Prop where
 az:a≠z
 bz:b≠z
 z1:i1≠z
 z2:i2≠z
 ab:a≠b
 a1:a≠i1
 a2:a≠i2
 b1:b≠i1
 b2:b≠i2
 d12:i1≠i2
 tz:t1≠z/\t2≠z
 tb:t1≠b/\t2≠b
 t1n:t1≠i1/\t2≠i1
 t2n:t1≠i2/\t2≠i2
theorem vZ(n a t2:Nat)(b:a<n)(c:t2<n):Apart (n+4) (n+2) (n+3) n (n+1) a t2 :=
 ⟨by lia,by lia,by lia,by lia,by lia,by lia,by lia,by lia,by lia,by lia,⟨by lia,by lia⟩,⟨by lia,by lia⟩,⟨by lia,by lia⟩,⟨by lia,by lia⟩⟩
theorem uk{z a b h i C D:zi}{k:Nat}{xs ys:Array xx}{x y:xx}{Q:xx->xg->Prop}(d:Apart z a b h i C D)(R:Rec s.heap z a b h i C D .none k)(a6:s.heap.IsTuple C xs)(a7:s.heap.IsTuple D ys)(a9:xs[k]?=some x)(b5:ys[k]?=some y)(q:∀g,Rec g z a b h i C D (rawInt s.heap.objs.size) (k+1)->IsPair g s.heap.objs.size x y->(∀c o,c≠z->c≠b->c≠h->c≠i->s.heap.get? c=some o->g.get? c=some o)->Q (.ref s.heap.objs.size) {s with heap:=g}):
  wpAny (model prog w) A (Builtin.«zip.__next__» {[.ref z],[]}) (λY s'=>∃v,Y=.done (.ret v)/\Q v s') E s:=by
 let(p,K,(u,v,a8),c0,c1):=R;show Wb (m:=field (.ref z) 2)<|wpAny_field p rfl (x:=.bool false) rfl ?_;show Wb (m:=field (.ref z) 3)<|wpAny_field p rfl (x:=.ref a) rfl ?_;show Wb (m:=seqItems?<|.ref a)<|wpAny_seqItems K rfl ?_;show Wb (m:=Builtin.SmallTypes.ownedTupleIsFree<|.ref z) ?_;unfold Builtin.SmallTypes.ownedTupleIsFree;show Wb<|wpAny_field p rfl (x:=.none) rfl (Wp ?_);simp only[GG];show Wb<|wpAny_rule (Wb<|wpAny_field p rfl (x:=.ref b) rfl (Wb<|wpAny_setField_rec p (by simp) λZ c6 s1=>?_));have c7:IsZip Z z a b .ellipsis:=c6;show Wb ?_;simp only[List.zipIdx_cons,List.zipIdx_nil,forIn_cons,forIn_nil];show Wb<|Wb (wpAny_onRaise<|Wb (m:=Builtin.SmallTypes.nextOf<|.ref h) (il (c0.extBut s1.extBut d.z1) (a6.extBut s1.extBut d.tz.1) a9 λa0 b6 l=>Wp ?_));have T:IsPair a0 b u v:=l.extBut _ _ d.b1<|s1.extBut _ _ d.bz a8;show Wb<|wpAny_seqItems T rfl (Wb<|wpAny_updateSeq_pair T λa3 c3 n=>Wb<|wpAny_letGo (Wp ?_));have c4:IsPair a3 b x v:=c3;show Wb<|Wb (wpAny_onRaise<|Wb (m:=Builtin.SmallTypes.nextOf<|.ref i) (il (((c1.extBut s1.extBut d.z2).extBut l.extBut d.d12.symm).extBut n.extBut d.b2.symm)
  (((a7.extBut s1.extBut d.tz.2).extBut l.extBut d.t1n.2).extBut n.extBut d.tb.2) b5 λa4 b8 t=>Wp ?_))
 have U:IsPair a4 b x v:=t.extBut _ _ d.b2 c4;show Wb<|wpAny_seqItems U rfl (Wb<|wpAny_updateSeq_pair U λf c5 B=>Wb<|wpAny_letGo (Wp<|Wp ?_));have V:IsPair f b x y:=c5;show Wb<|wpAny_seqItems V rfl (Wb<|wpAny_newTuple ?_);have S:f.objs.size=s.heap.objs.size:=by rw[B.1,t.1,n.1,l.1,s1.1]
 have L:∀c o,c≠z->c≠b->c≠h->c≠i->s.heap.get? c=some o->f.get? c=some o:=λc o j G I J e=>B.extBut _ _ G<|t.extBut _ _ J (n.extBut _ _ G<|l.extBut _ _ I (s1.extBut _ _ j e));have W:IsZip f z a b .ellipsis:=B.extBut _ _ d.bz.symm<|t.extBut _ _ d.z2.symm (n.extBut _ _ d.bz.symm<|l.extBut _ _ d.z1.symm c7);have b7:f.IsTupleIter h C (k+1):=((b6.extBut n.extBut d.b1.symm).extBut t.extBut d.d12).extBut B.extBut d.b1.symm;have b9:f.IsTupleIter i D (k+1):=b8.extBut B.extBut d.b2.symm;have c2:IsPair f a (.ref h) (.ref i):=L _ _ d.az d.ab d.a1 d.a2 K;show Wb (m:=Builtin.SmallTypes.ownedTupleHandOut (.ref z)<|.ref f.objs.size) ?_;unfold Builtin.SmallTypes.ownedTupleHandOut;have c8:IsZip (f.push {cls:=.type "tuple",data:=.seq #[x,y]}) z a b .ellipsis:=EU _ W;show Wb<|wpAny_setField_rec c8 (by simp) λa5 c9 O=>?_;have d0:IsZip a5 z a b (rawInt f.objs.size):=c9;show wpAny_setField_rec d0 (by simp) λH d1 P=>?_;have X:IsZip H z a b (rawInt f.objs.size):=d1;have F:∀c o,c≠z->f.get? c=some o->H.get? c=some o:=λc o j e=>P.extBut _ _ j<|O.extBut _ _ j (EU _ e);have N:f.objs.size≠z:=Gv<|FW W;have M:IsPair H f.objs.size x y:=P.extBut _ _ N<|O.extBut _ _ N (FG _ rfl);rw[S]at X M;show Wp {_,rfl,?_};change Q (.ref f.objs.size) _;rw[S];show q H {X,F _ _ d.az c2,⟨_,_,F _ _ d.bz V⟩,(let⟨o,e,r⟩:=b7;⟨o,F _ o d.z1 e,r⟩),(let⟨o,e,r⟩:=b9;⟨o,F _ o d.z2 e,r⟩)} M λc o j G I J e=>F c o j<|L c o j G I J e
theorem wb{z a b n p F G:zi}{k:Nat}{xs ys:Array xx}{Q:PySem.Fin->xg->Prop}(J:A.handled=none)(d:Apart z a b n p F G)(R:Rec s.heap z a b n p F G .none k)(I:s.heap.IsTuple F xs)(W:s.heap.IsTuple G ys)(X:xs[k]?=none\/ys[k]?=none)(q:∀g e,(∀c o,c≠z->c≠b->c≠n->c≠p->s.heap.get? c=some o->g.get? c=some o)->(∃o,g.get? e=some o/\o.cls=.type "StopIteration")->E (.ref e) {s with heap:=g}):
  wpAny (model prog w) A (Builtin.«zip.__next__» {[.ref z],[]}) Q E s:=by
 let(l,Y,(u,v,Z),K,a1):=R;show Wb (m:=field (.ref z) 2)<|wpAny_field l rfl (x:=.bool false) rfl ?_;show Wb (m:=field (.ref z) 3)<|wpAny_field l rfl (x:=.ref a) rfl ?_;show Wb (m:=seqItems?<|.ref a)<|wpAny_seqItems Y rfl ?_;show Wb (m:=Builtin.SmallTypes.ownedTupleIsFree<|.ref z) ?_;unfold Builtin.SmallTypes.ownedTupleIsFree;show Wb<|wpAny_field l rfl (x:=.none) rfl (Wp ?_);simp only[GG];show Wb<|wpAny_rule (Wb<|wpAny_field l rfl (x:=.ref b) rfl (Wb<|wpAny_setField_rec l (by simp) λT a2 s1=>?_));have O:IsZip T z a b .ellipsis:=a2;show Wb ?_;simp only[List.zipIdx_cons,List.zipIdx_nil,forIn_cons,forIn_nil];show Wb<|Wb (wpAny_onRaise ?_);show Wb (m:=Builtin.SmallTypes.nextOf<|.ref n) ?_;cases B:xs[k]? with
 |none =>
  show mJ J (K.extBut s1.extBut d.z1) (I.extBut s1.extBut d.tz.1) B λt e f y=>?_;let(D,e1,e2):=y;have a3:IsZip t z a b .ellipsis:=f _ _ d.z1.symm O;have C:e≠z:=λc=>by grind
  show wpAny_setField_rec a3 (by simp) λH _ i=>q H e (λc o j _ r _ h=>i.extBut _ _ j<|f _ _ r (s1.extBut _ _ j h)) ⟨D,i.extBut _ _ C e1,e2⟩
 |some x =>
  have a0:ys[k]?=none:=X.resolve_left (by rw[B];simp);show il (K.extBut s1.extBut d.z1) (I.extBut s1.extBut d.tz.1) B λt a5 f=>Wp ?_;have N:IsPair t b u v:=f.extBut _ _ d.b1<|s1.extBut _ _ d.bz Z;show Wb<|wpAny_seqItems N rfl (Wb<|wpAny_updateSeq_pair N λH a6 i=>Wb<|wpAny_letGo (Wp ?_));show Wb<|Wb (wpAny_onRaise<|Wb (m:=Builtin.SmallTypes.nextOf<|.ref p) (mJ J (((a1.extBut s1.extBut d.z2).extBut f.extBut d.d12.symm).extBut i.extBut d.b2.symm)
   (((W.extBut s1.extBut d.tz.2).extBut f.extBut d.t1n.2).extBut i.extBut d.tb.2) a0 λU e L y=>?_))
  let(D,e1,e2):=y;have a4:IsZip U z a b .ellipsis:=L _ _ d.z2.symm<|i.extBut _ _ d.bz.symm (f.extBut _ _ d.z1.symm O);have C:e≠z:=λc=>by grind
  show wpAny_setField_rec a4 (by simp) λV _ M=>q V e (λc o j P r S h=>M.extBut _ _ j<|L _ _ S (i.extBut _ _ P<|f.extBut _ _ r (s1.extBut _ _ j h))) ⟨D,M.extBut _ _ C e1,e2⟩
theorem qU{z a b d e f h:zi}{k:Nat}{xs ys:Array xx}{x y:xx}{Q:Option xx->xg->Prop}(j:Apart z a b d e f h)(R:Rec s.heap z a b d e f h .none k)(l:s.heap.IsTuple f xs)(m:s.heap.IsTuple h ys)(p:xs[k]?=some x)(t:ys[k]?=some y)(q:∀g,Rec g z a b d e f h (rawInt s.heap.objs.size) (k+1)->IsPair g s.heap.objs.size x y->(∀c o,c≠z->c≠b->c≠d->c≠e->s.heap.get? c=some o->g.get? c=some o)->Q (some<|.ref s.heap.objs.size) {s with heap:=g}):
  wpAny (model prog w) A (pyNext<|.ref z) Q E s:=by
 have i:s.TypeIs (.ref z) "zip":=⟨_,R.zz,rfl⟩;unfold pyNext;show Wb<|wpAny_attempt (wpAny_callSpecial?_slot (name:=ofString "__next__") i F.slot_zip_next<|wpAny_call_entry F.slot_zip_next i F.entry_zip_next (uk j R l m p t λg r n k=>Wp<|q g r n k) (F.args_zip_next_1 _))
theorem ul{z a b d f h i:zi}{k:Nat}{xs ys:Array xx}{Q:Option xx->xg->Prop}(t:A.handled=none)(l:Apart z a b d f h i)(R:Rec s.heap z a b d f h i .none k)(m:s.heap.IsTuple h xs)(n:s.heap.IsTuple i ys)(r:xs[k]?=none\/ys[k]?=none)(q:∀g,(∀c o,c≠z->c≠b->c≠d->c≠f->s.heap.get? c=some o->g.get? c=some o)->Q none {s with heap:=g}):wpAny (model prog w) A (pyNext<|.ref z) Q E s:=by
 have j:s.TypeIs (.ref z) "zip":=⟨_,R.zz,rfl⟩;unfold pyNext;show Wb<|wpAny_attempt (wpAny_callSpecial?_slot (name:=ofString "__next__") j F.slot_zip_next<|wpAny_call_entry F.slot_zip_next j F.entry_zip_next (wb t l R m n r λg e k p=>?_) (F.args_zip_next_1 _));let(o,e1,e2):=p;show Wb<|wpAny_isInstance (T:="StopIteration") (b:=true) ⟨o,e1,e2⟩ isSubtype_stop (Wp<|q g k)
def made(a:qb)(b c:zi):qb :=
 ((((a.push {cls:=.type "tuple_iterator",data:=.fields #[.ref b,.int 0 0]}).push {cls:=.type "tuple_iterator",data:=.fields #[.ref c,.int 0 0]}).push {cls:=.type "tuple",data:=.seq #[.ref a.objs.size,.ref<|a.objs.size+1]}).push
  {cls:=.type "tuple",data:=.seq #[.none,.none]}).push {cls:=.type "zip",data:=.fields #[.none,.bool false,.bool false,.ref<|a.objs.size+2,.ref<|a.objs.size+3]}
theorem yx(a b:zi)(xs ys:Array xx):Meets (Builtin.«zip.__new__» {[.type "zip",.ref a,.ref b],[]}) (λ_ R s=>s.heap.IsTuple a xs/\s.heap.IsTuple b ys/\R (.ok<|.ret (.ref<|s.heap.objs.size+4)) {s with heap:=made s.heap a b}) :=
 .of_wp λprog w A R s h=>by
  let(c,g,d,tk,os):=s;let(k1,k2,h):=h;have i:=sub_zip;have e:IsTuple (Shared.heap ⟨c,g,d,tk,os⟩) a xs:=k1;have f:IsTuple (Shared.heap {c.push {cls:=.type "tuple_iterator",data:=.fields #[.ref a,.int 0 0]},g,d,tk,os}) b ys:=IsTuple.push k2 _
  wp_walk using wpAny_pyIter_tuple e,wpAny_pyIter_tuple f
  show{_,rfl,?_};unfold made at h;simp only[size_push];show h
theorem wc{a b:zi}{xs ys:Array xx}{Q:xx->xg->Prop}(c:s.heap.IsTuple a xs)(d:s.heap.IsTuple b ys)(q:Q (.ref<|s.heap.objs.size+4) {s with heap:=made s.heap a b}):wpAny (model prog w) A (call (.type "zip") [.ref a,.ref b]) Q E s:=by
 show callType_new F.called_zip (by decide) (F.typeCall_zip_2 _ _) (F.newCall_zip_2 _ _) (λf=>F.args_object_init_3 f _ _) F.entry_zip_new (yx a b xs ys) {c,d,?_};have e:(made s.heap a b).get? (s.heap.objs.size+4)=some {cls:=.type "zip",data:=.fields #[.none,.bool false,.bool false,.ref<|s.heap.objs.size+2,.ref<|s.heap.objs.size+3]}:=by
  unfold made;have:=FG ((((s.heap.push {cls:=.type "tuple_iterator",data:=.fields #[.ref a,.int 0 0]}).push {cls:=.type "tuple_iterator",data:=.fields #[.ref b,.int 0 0]}).push {cls:=.type "tuple",data:=.seq #[.ref s.heap.objs.size,.ref<|s.heap.objs.size+1]}).push {cls:=.type "tuple",data:=.seq #[.none,.none]})
   (o:={cls:=.type "zip",data:=.fields #[.none,.bool false,.bool false,.ref<|s.heap.objs.size+2,.ref<|s.heap.objs.size+3]}) rfl
  simpa only [size_push]using this
 show{⟨_,e,rfl⟩,q}
end
end ZT
namespace L2
open PySem PySem.Spec PyProof.Rows
section
variable{X:Cx}{tg:Expr}
def Itz(K:Frag)(a b:zi):It :=
 {λi H=>∃xs ys x y,SqT K H a xs/\SqT K H b ys/\xs[i]?=some x/\ys[i]?=some y,λi H v H'=>∃p x y,H p=none/\v=.ref p/\(∀xs,SqT K H a xs->xs[i]?=some x)/\(∀ys,SqT K H b ys->ys[i]?=some y)/\H'=upd H p (.tup [x,y]),
  λi H=>∃xs ys,SqT K H a xs/\SqT K H b ys/\(xs.length<=i\/ys.length<=i)}
theorem we{P:qw}{w:qn}{K:Frag}{d1:List Expr}{k:Nat}{f3:Pos}(z a b j l V Y:zi)(D:ZT.Apart z a b j l V Y):
  Turn P w K (.Tuple d1 k f3) (Itz K V Y) [z,a,b,j,l] z (λi h=>ZT.Rec h z a b j l V Y .none i) where
 mem:=by simp
 obj:=λi h R c a3=>by
  let(c0,M,(u,v,N),(J,O,_,g0),(L,S,_,g1)):=R
  grind
 keep:=λi h h' R t=>by
  let(c0,M,(u,v,N),(J,O,a9),(L,S,b5)):=R;show{t _ (by simp) _ c0,t _ (by simp) _ M,{u,v,t _ (by simp) _ N},{J,t _ (by simp) _ O,a9},{L,t _ (by simp) _ S,b5}}
 item:=by
  intro X a2 a7 a1 a3 i pins s σ H E I B st a4;subst a2 a7 a1;let(xs,ys,x,y,T,U,c4,c5):=a4;let(e6,b6,k1,_):=I.tuple T;let(e7,b7,k2,_):=I.tuple U;let(b8,f8,f4):=b6.get c4;let(b9,f9,f5):=b7.get c5;show ZT.qU D st k1 k2 (x:=b8) (y:=b9) (by grind) (by grind) λg c1 e9 t=>{_,rfl,?_};show wpAny_letOwnedTupleGo_zip c1.zz λg' f6 F=>?_;have f1:s.heap.objs.size≠z:=Gv<|FW st.zz;have e8:∀c o,c≠z->c≠b->c≠j->c≠l->s.heap.get? c=some o->g'.get? c=some o:=λc o c2 c8 c9 d0 e=>(F.2 c c2).trans (t c o c2 c8 c9 d0 e);have p:∀c o,c∉[z,a,b,j,l]->s.heap.get? c=some o->g'.get? c=some o:=λc o f e=>e8 c o (λq=>f (by simp[q])) (λq=>f (by simp[q])) (λq=>f (by simp[q])) (λq=>f (by simp[q])) e;have d9:∀c o,H c=some o->c∉[z,a,b,j,l]:=λc o e C=>by rw[(B c C).1]at e;cases e
  have c6:∀c o,s.heap.get? c=some o->c≠s.heap.objs.size:=λc o e=>FX<|FW e;have trk:∀c o,H c=some o->c≠s.heap.objs.size:=λc o e=>FX<|I.hok.lt e;have f0:g'.get? s.heap.objs.size=some {cls:=.type "tuple",data:=.seq #[b8,b9]}:=(F.2 _ f1).trans e9;have R2:ZT.Rec g' z a b j l V Y .none (i+1):=by
   let(_,M,(u,v,N),(J,O,a9),(L,S,b5)):=c1;show{f6,(F.2 _ D.az).trans M,{u,v,(F.2 _ D.bz).trans N},{J,(F.2 _ D.z1).trans O,a9},{L,(F.2 _ D.z2).trans S,b5}}
  have f2:HOk X.prog X.w (upd H s.heap.objs.size<|.tup [x,y]) g':=λc o e=>by
   by_cases c3:c=s.heap.objs.size
   .subst c3;rw[ac]at e;cases e;show{by change 2<=sizeLine;rw[sizeLine_eq];decide,[b8,b9],.cons f4<|.cons f5 .nil,⟨_,f0,rfl,0,rfl⟩}
   .rw[aj c3]at e;show(I.hok c o e).stay (λd v d8 q=>p d v ?_ q) (λd q=>by rw[aj<|trk d _ q];show q) λd zs q=>by rw[aj<|trk d _ q];show q
    grind
  have c7:Inv X pins σ (upd H s.heap.objs.size<|.tup [x,y]) {s with heap:=g'}:=by
   show I.step (g':=s.gens) (t':=s.toks) (d':=s.drawn) (ch:=[z,a,b,j,l]) (λc G=>?_) (λc o _ _ f e _=>p c o f e) (λc o _ _ f e _=>⟨o.slots,p c o f e⟩) (λc o _ e n=>by rw[aj<|c6 c o e];show n) (λc o f e=>⟨o,p c o f e⟩)
    (λc zs q=>by rw[aj<|trk c _ q];show q) (λc o u q=>by rw[aj<|trk c _ q];show q) (λc ps q=>{#[],by rw[aj<|trk c _ q,q];simp}) (λm C=>?_) f2 I.bare
   .let(d2,d3,d4,d5,d6,d7):=B c G
    grind
   .let(o,a0,Z,a6,r):=C;show{o,a0,Z,p _ o (λa5=>(B _ a5).2.1 rfl) a6,r}
  show{.ref s.heap.objs.size,_,c7,rfl,{s.heap.objs.size,x,y,I.hok.fresh<|FH _,rfl,λzs a8=>?_,λzs a8=>?_,rfl},R2,λc G=>?_}
  .rw[I.tuple_inj a8 T];show c4
  .rw[I.tuple_inj a8 U];show c5
  .obtain⟨o,e,_⟩:∃o,s.heap.get? c=some o/\True:=by
    let(c0,M,(u,v,N),(J,O,_),(L,S,_)):=st
    grind
   rw[aj<|c6 c o e];show(B c G).1
 done:=by
  intro X a2 a7 a1 a3 i pins s σ H E I B st a4;subst a2 a7 a1;let(xs,ys,T,U,f7):=a4;let(e6,b6,k1,_):=I.tuple T;let(e7,b7,k2,_):=I.tuple U;have e1:=b6.length;have e2:=b7.length;show ZT.ul (I.ok.hd a3) D st k1 k2 (by grind) λg t=>{rfl,?_};have p:∀c o,c∉[z,a,b,j,l]->s.heap.get? c=some o->g.get? c=some o:=λc o f e=>t c o (λq=>f (by simp[q])) (λq=>f (by simp[q])) (λq=>f (by simp[q])) (λq=>f (by simp[q])) e;have d9:∀c o,H c=some o->c∉[z,a,b,j,l]:=λc o e C=>by rw[(B c C).1]at e;cases e
  show I.step (g':=s.gens) (t':=s.toks) (d':=s.drawn) (ch:=[z,a,b,j,l]) (λc G=>?_) (λc o _ _ f e _=>p c o f e) (λc o _ _ f e _=>⟨o.slots,p c o f e⟩) (λc o _ e n=>n) (λc o f e=>⟨o,p c o f e⟩)
   (λc zs q=>q) (λc o u q=>q) (λc ps q=>{#[],by rw[q];simp}) (λm C=>?_) (λc o e=>?_) I.bare
  .let(d2,d3,d4,d5,d6,d7):=B c G
   grind
  .let(o,a0,Z,a6,r):=C;show{o,a0,Z,p _ o (λa5=>(B _ a5).2.1 rfl) a6,r}
  .show(I.hok c o e).stay (λd v d8 q=>p d v ?_ q) (λd q=>q) λd zs q=>q
   grind
 self:=λA i s Q E st e5=>wpAny_pyIter_zip st.zz e5
theorem AQ{x:List Expr}{k:Nat}{F:Pos}{a b:Expr}{v:TA}{p pos:Pos}(z:Gl X "zip")(A:X.mg "zip"=none)(y:PA X [a,b] v)(B:starEach [a,b] X.env=[(false,eval a X.env),(false,eval b X.env)]:=by rfl)(m:starEach [b] X.env=[(false,eval b X.env)]:=by rfl):
  PI X (.Tuple x k F) (.Call (.Name "zip" p) [a,b] [] pos) (λσ H R=>v σ H λvs H1=>∃d f xs ys,vs=[.ref d,.ref f]/\H1 d=some (.tup xs)/\H1 f=some (.tup ys)/\R (Itz X.K d f) H1):=by
 intro pins s σ H R I h;show Call_<|jc I z A boot_zip (Gf (thn (y pos pins s σ H _ I h) λW s1 ⟨vs,H1,g,J,G⟩=>?_) (by rw[B,m]) (by rw[m];rfl));let(d,f,xs,ys,e,r,t,q):=G;subst e;let(U,V,rfl,L,M):=si J;cases L;cases M;let(P,S,k1,N):=g.tuple<|SqT.of r;let(Q,T,k2,O):=g.tuple<|SqT.of t;show ZT.wc k1 k2 ?_;generalize i:s1.heap.objs.size=n;have C:∀c o,s1.heap.get? c=some o->(ZT.made s1.heap d f).get? c=some o:=λc o e=>by
  unfold ZT.made;show EU _<|EU _ (EU _<|EU _ (EU _ e))
 have u:ZT.Rec (ZT.made s1.heap d f) (n+4) (n+2) (n+3) n (n+1) d f .none 0:=by
  subst i;unfold ZT.made;show{?_,?_,{.none,.none,?_},{{cls:=.type "tuple_iterator",data:=.fields #[.ref d,.int 0 0]},?_,rfl,rfl},{{cls:=.type "tuple_iterator",data:=.fields #[.ref f,.int 0 0]},?_,rfl,rfl}}
  .have:=FG ((((s1.heap.push {cls:=.type "tuple_iterator",data:=.fields #[.ref d,.int 0 0]}).push {cls:=.type "tuple_iterator",data:=.fields #[.ref f,.int 0 0]}).push {cls:=.type "tuple",data:=.seq #[.ref s1.heap.objs.size,.ref<|s1.heap.objs.size+1]}).push {cls:=.type "tuple",data:=.seq #[.none,.none]})
    (o:={cls:=.type "zip",data:=.fields #[.none,.bool false,.bool false,.ref<|s1.heap.objs.size+2,.ref<|s1.heap.objs.size+3]}) rfl
   simpa only [size_push]using this
  .show EU _<|EU _ ?_;have:=FG ((s1.heap.push {cls:=.type "tuple_iterator",data:=.fields #[.ref d,.int 0 0]}).push {cls:=.type "tuple_iterator",data:=.fields #[.ref f,.int 0 0]}) (o:={cls:=.type "tuple",data:=.seq #[.ref s1.heap.objs.size,.ref<|s1.heap.objs.size+1]}) rfl
   simp_all
  .show EU _ ?_;have:=FG (((s1.heap.push {cls:=.type "tuple_iterator",data:=.fields #[.ref d,.int 0 0]}).push {cls:=.type "tuple_iterator",data:=.fields #[.ref f,.int 0 0]}).push {cls:=.type "tuple",data:=.seq #[.ref s1.heap.objs.size,.ref<|s1.heap.objs.size+1]}) (o:={cls:=.type "tuple",data:=.seq #[.none,.none]}) rfl
   simp_all
  .show EU _<|EU _ (EU _<|EU _ (FG _ rfl))
  .show EU _<|EU _ (EU _ ?_);have:=FG (s1.heap.push {cls:=.type "tuple_iterator",data:=.fields #[.ref d,.int 0 0]}) (o:={cls:=.type "tuple_iterator",data:=.fields #[.ref f,.int 0 0]}) rfl
   simp_all
 have D:d<n:=by rw[<-i];show g.hok.lt r
 have E:f<n:=by rw[<-i];show g.hok.lt t
 have w:=ZT.vZ n d f D E;show wpAny_pyIter_zip u.zz ?_;show{n+4,[n+4,n+2,n+3,n,n+1],_,Itz X.K d f,H1,rfl,g.kept (t':=s1.toks) C,we _ _ _ _ _ _ _ w,u,λc j=>?_,q};have l:s1.heap.objs.size<=c:=by
  rw[i];simp only[FU,Gb,or_false]at j;rcases j with rfl|rfl|rfl|rfl|rfl
  .grind
  .grind
  .grind
  .grind
  .grind
 show g.fpOk l<|g.hok.fresh l
abbrev iO:=zi×Int×List V
def numAt(zs:List iO)(i:Nat):Int:=(zs.getD i (0,0,[])).2.1
theorem wf{zs:List iO}(c:(zs.map (·.2.1)).Nodup):SRT.Ord (λi j=>decide<|numAt zs i<numAt zs j) zs.length:=by
 show{λi _=>by simp,λi j k _ _ _ h1 h2=>?_,λi j hi a d=>?_}
 .simp only[FJ]at *;lia
 .simp only[FJ];have:numAt zs i≠numAt zs j:=by
   unfold numAt;rw[FA,FA,ET hi,ET a];intro e;have b:(zs.map (·.2.1))[i]'(by simpa using hi)=(zs.map (·.2.1))[j]'(by simpa using a):=by simpa using e
   show d<|(Gr c).mp b
  lia
theorem pE{prog:qw}{w:qn}{A:qd}{s:xg}{b:Bool}{Q:Bool->xg->Prop}(h:Q false s):∀(l:List xx)(i:Nat),PySem.W.KatLex prog w A b false Q (l.zip l) i s
 |[],i=>h
 |v::l,i=>kat_cons<|EqAt.same v prog w _ _ (PySem.W.kat_yes<|pE h l (i+1))
theorem cM:ca X (.builtin "sorted") (λxs H Q=>∃l,∃zs:List iO,xs=[.ref l]/\(SqL X.K H l ((zs.map (·.1)).map V.ref)\/SqT X.K H l ((zs.map (·.1)).map V.ref))/\(∀z∈zs,H z.1=some (.tup (.int z.2.1::z.2.2)))/\(zs.map (·.2.1)).Nodup/\zs.length<64 /\
  ∀g:List iO,g.Perm zs->g.Pairwise (λa b=>a.2.1<b.2.1)->∀p,H p=none->Q (.ref p) (upd H p<|.lst ((g.map (·.1)).map V.ref))):=by
 intro pins s σ H xs d8 Q I r h;let(l,zs,rfl,A,b6,a0,a8,q):=h;let(u,rfl,c6):=cA r;cases c6;obtain⟨d,D,pl⟩:∃d,aA ((zs.map (·.1)).map V.ref) d/\(s.heap.IsList l d.toArray\/IsTup s.heap l d.toArray):=by
  rcases A with A | A
  .let(d,D,pl,c1):=I.list A;show{d,D,.inl pl.isList}
  .let(d,D,pl,c1):=I.tuple A;show{d,D,.inr pl}
 have e:=dc D;subst e;have x:((zs.map (·.1)).map Value.ref).length=zs.length:=by simp
 have N:∀z∈zs,∃o d n t,s.heap.get? z.1=some o/\o.cls=.type "tuple"/\o.data=.seq d n/\d.toList=.int z.2.1 t::d.toList.drop 1:=λz O=>by
  let(_,d,c5,o,e1,e2,n,e3):=I.hok z.1 _<|b6 z O;cases c5 with
  |cons c4 d5 =>
   let(t,rfl):=c4;show{o,_,n,t,e1,e2,e3,by simp}
 have L:∀i,i<zs.length->((zs.map (·.1)).map Value.ref).getD i Value.none=.ref (zs.getD i (0,0,[])).1/\zs.getD i (0,0,[])∈zs:=λi hi=>by
  rw[FA,FA,FE,FE,ET hi];show{rfl,Gk hi}
 show SRT.kO (κ:=tuples' true) (f:=λi j=>decide<|numAt zs i<numAt zs j) (by rw[x];show wf a0) pl (by rw[x];show a8) ?kind ?less ?fin
 case kind =>
  intro a4 s' _ w c7 h2 a9;have key:∀ys:List iO,(∀z∈ys,z∈zs)->∃fs:List xx,KatTups s'.heap ((ys.map (·.1)).map Value.ref) fs/\fs.length=ys.length/\∀v∈fs,∃i t,v=Value.int i t:=by
   intro ys
   induction ys with
   |nil=>intro _;show{[],KatTups.nil,rfl,λv k=>by simp at k}
   |cons z ys P =>
    intro Z;let(fs,h1,J,h3):=P λy c0=>Z y (by simp[c0]);let(o,d,n,t,e1,e2,e3,e4):=N z<|Z z (by simp);show{.int z.2.1 t::fs,KatTups.cons (w _ _ e1) e2 e3 ?_ h1,by simp[J],λv k=>?_}
    .rw[<-Gd,e4];rfl
    .rcases FU.mp k with rfl|k
     .show{_,_,rfl}
     .show h3 v k
  let(fs,h1,J,h3):=key zs λz O=>O;show PySem.W.kat_kind (T:=.type "int") h1 (by rw[J];rw[x]at h2;lia) (λv k=>?_) (by rfl) a9;let(i,t,rfl):=h3 v k;show .now
 case less =>
  intro a4 s' _ w i j C hi m Y;rw[x]at hi m;let(a6,c2):=L i hi;let(a7,c3):=L j m;rw[a6,a7];let(d3,a3,d1,d6,R,c8,S,a5):=N _ c2;let(d4,d0,d2,d7,b1,b2,b3,b4):=N _ c3;show PySem.W.kat_lt (w _ _ R) S (w _ _ b1) b3 ?_
  by_cases F:i=j
  .subst F;rw[R]at b1;cases b1;rw[S]at b3;cases b3;have:C false s':=by simpa using Y
   have e2:decide (a3.size<a3.size)=false:=by simp
   rw[e2];show pE this _ _
  .have b7:numAt zs i≠numAt zs j:=by
    rcases (wf a0).tot i j hi m F with h1|h1<;>simp only[FJ]at h1<;>lia
   rw[a5,b4];show kat_cons<|wpAny_eqBool_int ?_;have e2:((zs.getD i (0,0,[])).2.1==(zs.getD j (0,0,[])).2.1)=false:=Fl.mpr b7;rw[e2];show PySem.W.kat_no ?_;show kat_lt_int Y
 case fin =>
  intro p h' G a2 w _ E;let(c,E):=E;rw[x]at G a2;obtain⟨g,B⟩:∃g,g=p.toList.map λi=>zs.getD i (0,0,[]):=⟨_,rfl⟩;have a1:g.Perm zs:=by
   rw[B];show(G.perm.map _).trans ?_;have:(List.range zs.length).map (λi=>zs.getD i (0,0,[]))=zs:=by
    apply Gu;intro i;rw[FE]
    by_cases hi:i<zs.length
    .rw[getElem?_range hi,ET hi];change some (zs.getD i (0,0,[]))=_;rw[FA,ET hi];rfl
    .rw[Fo (by rw[GH];lia),Fo (by lia)];rfl
   rw[this]
  have c9:p.size=zs.length:=G.size;have b9:g.Pairwise (λa b=>a.2.1<b.2.1):=by
   rw[GD];intro i j hi m F;have M:i<p.size:=by rw[B,ES,FQ]at hi;show hi
   have b5:j<p.size:=by rw[B,ES,FQ]at m;show m
   have:=a2 i j F (by lia);simp only[FJ,numAt]at this;rw[FF,FF,FK M,FK b5]at this;simpa [B]using this
  have b8:(toArray<|p.toList.map λi=>((zs.map (·.1)).map Value.ref).getD i Value.none)=((g.map (·.1)).map Value.ref).toArray:=by
   congr 1
   rw[B];simp only[FD];apply Fq;intro i hi;have M:i<zs.length:=GC.mp<|G.perm.mem_iff.mp hi;have:=(L i M).1;simp only[FD]at this;show this
  rw[b8]at E;have k:aA ((g.map (·.1)).map V.ref) ((g.map (·.1)).map Value.ref):=by
   generalize g.map (·.1)=U
   induction U with
   |nil=>show .nil
   |cons a U P=>show .cons rfl P
  show{.ref<|s.heap.objs.size+1,_,I.laid (t':=s.toks) (o:=.lst<|(g.map (·.1)).map V.ref) w (le_succ _) {?_,_,c,k,E},rfl,q g a1 b9 _<|I.hok.fresh (le_succ _)};rw[ES,ES,a1.length_eq,sizeLine_eq];lia
theorem jo:ca X (.builtin "sorted") (λxs H Q=>∃l,∃zs:List iO,xs=[.ref l]/\SqL X.K H l ((zs.map (·.1)).map V.ref)/\(∀z∈zs,H z.1=some (.tup (.int z.2.1::z.2.2)))/\(zs.map (·.2.1)).Nodup/\zs.length<64 /\
  ∀c:List iO,c.Perm zs->c.Pairwise (λa b=>a.2.1<b.2.1)->∀p,H p=none->Q (.ref p) (upd H p<|.lst ((c.map (·.1)).map V.ref))) :=
 λpins s σ H xs f Q I r ⟨l,zs,e,d,h⟩=>cM pins s σ H xs f Q I r ⟨l,zs,e,.inl d,h⟩
end
theorem nX{scope:Scope}{env:Env}(a:∀y∈scope.names,y.2≠.free):relabel scope env=scope:=by
 unfold relabel;rw[map_eq_self (l:=scope.names) (λx b=>by
  let(n,k):=x;have:(k==NameKind.free)=false:=by simpa using a _ b
  simp[this])]
theorem wg{X:Cx}{a:Scope}(e:a.kind=.function)(b:∀y∈a.names,y.2≠.free)(d:∀y∈a.names,y.2≠.cell)(f:∀x∈a.names,x.2=.local->a.names.lookup x.1=some .local):LcOk X a [] :=
 ⟨e,closureFor_none b,f,d,λx c h=>by simp at h,λx h=>by
  rw[nX b]at h;rcases h with h|h
  .show absurd rfl (d _<|Fb h)
  .show absurd rfl<|b _ (Fb h)⟩
theorem pF{k:Nat}{js:List Nat}{J:It}{g:TG}{f:TE}{b:St}{o:Hp}{Q:VK}{p:zi}(n:Nat)(v:n<=1000)(Pv:Nat->List V->St->Hp->Prop)(s:Pv 0 [] (dC k js b)<|upd o p (.lst []))(t:∀i ys a H',Pv i ys a H'->ys.length<=i)(go:∀i ys a H',i<n->Pv i ys a H'->J.go i H')(stop:∀ys a H',Pv n ys a H'->J.stop n H'/\Q (.ref p) H')(step:∀i ys a H',i<n->Pv i ys a H'->∀x H2,J.yld i H' x H2->g x a H2 λl q=>f l q λy h=>h p=some (.lst ys)/\Pv (i+1) (ys++[y]) l (upd h p<|.lst (ys++[y])))(mg:∀x b H (Q c:St->Hp->Prop),(∀b H,Q b H->c b H)->g x b H Q->g x b H c)(u:∀b H (Q c:VK),(∀y H,Q y H->c y H)->f b H Q->f b H c):
  LcW k js g f b Q J o p:=by
 show{λi m ys a H'=>m=n-i/\i<=n/\Pv i ys a H',⟨n,by simp,Fz _,s⟩,?_};rintro i m ys a H' ⟨rfl,hi,d⟩
 by_cases j:i<n
 .show .inr {go i ys a H' j d,?_,λx H2 y=>?_}
  .have:=t i ys a H' d;show GU this<|aw (by lia)
  .show mg _ _ _ _ _ (λl q h3=>u _ _ _ _ (λz h r=>{r.1,n-(i+1),by lia,rfl,j,r.2}) h3)<|step i ys a H' j d x H2 y
 .have e:i=n:=by lia
  subst e;show .inl<|stop ys a H' d
theorem ae{H:Hp}{p:zi}{o:HO}(h:H p=none):Same H (upd H p o):=λb u e=>by rw[aj<|aB e h];show e
theorem aN{H:Hp}{p a:zi}{o u:HO}(h:H p=none)(e:H a=some u):upd H p o a=some u:=by rw[aj<|aB e h];show e
theorem aJ{H0 a:Hp}{p:zi}{o:HO}(c:H0 p=none)(s:Same H0 a):Same H0 (upd a p o):=λb u e=>by
 rw[aj<|aB e c];show s b u e
structure Fly(P:qw)(w:qn)(outer:List Env)(H:Hp)(s:xg)(H':Hp)(ea C:zi)(s':xg):Prop where
 os:s'.os=s.os
 bare:AllBare s'.gens
 un:Un (frs outer) [] H H' s.heap s'.heap
 new:H' ea=none
 fly:∃B a0,FlyingW B outer ea (.ref C) a0 s'.heap/\HOk P w H' B/\(∀b o,s.heap.get? b=some o->H b=none->b∉frs outer->B.get? b=some o) /\
  ∀b o,s.heap.get? b=some o->b∉frs outer->∃o',B.get? b=some o'
def CX1(P:qw)(w:qn):CXT:=λouter H s E e s'=>∃ea C H',e=.ref ea/\Fly P w outer H s H' ea C s'/\E (.ref C) none H'
theorem bq.ex{P:qw}{w:qn}{c:Hp}{b:qb}{a:zi}{o:HO}(x:bq P w c b a o):∃ob,b.get? a=some ob:=by
 cases o with
 |lst xs=>let(_,_,_,_,e):=x;show{_,e}
 |tup xs=>let(_,_,_,ob,e,_):=x;show⟨ob,e⟩
 |dK kvs=>let(_,_,_,_,o,_,_,e,_):=x;show{_,e}
 |dT kvs=>let(_,_,_,_,o,_,_,e,_):=x;show{_,e}
 |set S n=>let(o,_,_,_,e,_):=x;show{_,e}
 |ins C dx fs=>let(_,_,_,e,_):=x;show{_,e}
 |own y=>let(_,e):=x;show{_,e}
 |xd fs=>let(_,(_,_,_,e,_),_):=x;show{_,e}
 |rng lo hi=>let(_,_,_,e):=x;show{_,e}
 |frz ob u=>let(e,_):=x;show{_,e}
 |tbl ps=>show{_,(show b.get? a=some _ from x)}
 |met f y=>show{_,(show b.get? a=some _ from x)}
 |ext d=>let(_,(_,e),_):=x;show{_,e}
theorem wj{P:qw}{w:qn}{d:Hp}{f:qb}{l:List zi}(x:HOk P w d f)(g:∀b∈l,d b=none):HOk P w d (hideAll f l):=λa o e =>
 (x a o e).stay (λb u c q=>hideAll_get l q λz=>by
  have:=g b z;rcases c with c|c
  .rw[c,e]at this;cases this
  .rw[c]at this;cases this) (λ_ q=>q) λ_ _ q=>q
section
variable{P:qw}{w:qn}{l:List Env}{H H':Hp}{h1 h2 h3 B:qb}{ea:zi}{cls a0:xx}
theorem pG(un:Un (frs l) [] H H' h1 h2)(g:FlyingW B l ea cls a0 h2)(j:HOk P w H' B)(m:∀b o,h1.get? b=some o->H b=none->b∉frs l->B.get? b=some o)(p:∀b o,h1.get? b=some o->b∉frs l->∃o',B.get? b=some o')(st:B.StaysIn h3)(h:h2.UpToSlots h3):Un (frs l) [] H H' h1 h3/\HOk P w H' h3:=by
 show{{λb o e n a _=>st b o<|m b o e n a,λb o e n a k=>?_,un.free,λb o e _=>?_,un.tups,un.frzs,un.tbls},j.kept st}
 .let(r,q):=un.slot b o e n a k;let(_,o',c,d):=g.2.2.1.mem a;rw[q]at c;cases c;let(i,f):=h b _ q d;show⟨i,f⟩
 .by_cases a:b∈frs l
  .let(_,o',c,d):=g.2.2.1.mem a;let(i,f):=h b _ c d;show{_,f}
  .let(o',q):=p b o e a;show{o',st b o' q}
end
section
variable{X:Cx}{pins:List (zi×Obj)}{σ:St}{H H':Hp}{s s':xg}{ea C:zi}{E:XK}
theorem Inv.fly_up(f:Inv X pins σ H s)(h:X.ex=[])(J:Inv X pins σ H' s')(new:H' ea=none){c:qb}{g:xx}(k:FlyingW c X.outer ea (.ref C) g s'.heap)(l:HOk X.prog X.w H' c)(m:∀b o,s.heap.get? b=some o->H b=none->b∉frs X.stack->c.get? b=some o)(p:∀b o,s.heap.get? b=some o->b∉frs X.stack->∃o',c.get? b=some o'):Fly X.prog X.w X.outer X.H₀ X.s₀ H' ea C s':=by
 have d:=f.base;rw[h]at d;have j:=J.base;rw[h]at j;have i:∀b o,X.s₀.heap.get? b=some o->b∉frs X.outer->b∉frs X.stack:=λb o e n a=>by
  rcases FU.mp (f.stkSub b a)with z|z
  .have:=FW e;rw[z]at this;show absurd (Fc this f.ok.above)<|lt_irrefl _
  .show n z
 show{J.os,J.bare,j,new,c,g,k,l,λb o e n a=>?_,λb o e a=>?_}
 .show m b o (d.keep b o e n a (by simp)) (d.free b o e n (by simp))<|i b o e a
 .let(o',q):=d.there b o e (by simp);show p b o' q<|i b o e a
structure Lv(X:Cx)(E:XK):Prop where
 ex:X.ex=[]
 stk:X.stack=X.env::X.outer
 fr:X.env.frame=some X.env.locals
 xe:X.xe=λe s'=>wpAny (model X.prog X.w) X.A (leaving X.env e) (λ_ s''=>CX1 X.prog X.w X.outer X.H₀ X.s₀ E e s'') (λe' s''=>CX1 X.prog X.w X.outer X.H₀ X.s₀ E e' s'') s'
theorem bR{P:qw}{w:qn}{K:Frag}{mg:Str->Option xx}{base:qb}{N:List Str}{qual:Str}{c:Scope}{f:zi}{b:xx}{A:qd}{outer:List Env}{s:xg}{a:Hp}{E:XK} :
  Lv (fY (CX1 P w) P w K mg base N qual c f b A outer s a E) E:=⟨rfl,rfl,rfl,rfl⟩
theorem cS(a:Lv X E):cG (CX1 X.prog X.w) X E:=by
 intro pins σ H s e s' I h;let(ea,C,H',rfl,F,k):=h;rw[a.xe];let(B,a0,c,g,i,th):=id F.fly;have d:=c;rw[a.stk]at d;show wpAny_leaves_onW (by rw[I.ok.frames,a.stk]) a.fr d λh' f l=>?_;let(u,m):=pG F.un c g i th f.1 l;have j:Inv X pins σ H' {s' with heap:=h'}:=I.call' (s':={s' with heap:=h'}) F.os u m F.bare λb z=>absurd z (by simp)
 show{ea,C,H',rfl,I.fly_up a.ex j F.new f g i th,k}
theorem Inv.ground(a:Inv X pins σ H s):(hideAll s.heap<|frs X.stack).StaysIn s.heap/\s.heap.FunFrames (hideAll s.heap<|frs X.stack) X.stack/\HOk X.prog X.w H (hideAll s.heap<|frs X.stack) :=
 {λb o q=>of_hideAll _ q,PySem.W.funFrames_hide a.stack λc e b d=>GZ.mpr ⟨c,e,d⟩,wj a.hok a.stkFree}
theorem Df(d:Lv X E)(c:Inv X pins σ H s){h':qb}{vs:List xx}(j:Heap.MadeExcOf s.heap h' ea (.ref C) vs)(v:E (.ref C) none H):X.xe (.ref ea) {s with heap:=h'}:=by
 rw[d.xe];let(p,h,k):=c.ground;have r:s.heap.FunFrames (hideAll s.heap<|frs X.stack) (X.env::X.outer):=d.stk ▸ h;show wpAny_leaves_madeW (s:={s with heap:=h'}) (by rw[c.ok.frames,d.stk]) d.fr p r j λh'' t f _ _ w=>?_;have l:s.heap.UpToSlots h'':=(Heap.UpToSlots.of_keeps j.keeps).trans w;have u:Un (frs X.stack) [] H H s.heap h'':={λb o e n a _=>f.1 b o<|hideAll_get _ e a,λb o e n a _=>by
   let(_,o',g,i):=h.mem a;rw[e]at g;cases g;show l b o e i,λb o e n _=>n,λb o e _=>by
   by_cases a:b∈frs X.stack
   .let(_,o',g,i):=h.mem a;let(A,q):=l b o' g i;show{_,q}
   .show{o,f.1 b o<|hideAll_get _ e a},λ_ _ q=>q,λ_ _ _ q=>q,λb ps q=>{#[],by simpa using q}}
 have m:Inv X pins σ H {s with heap:=h''}:=c.call' (s':={s with heap:=h''}) rfl u (k.kept f.1) c.bare λb z=>absurd z (by simp)
 have x:H ea=none:=by
  cases q:H ea with
  |none=>rfl
  |some o =>
   let(y,e):=(c.hok ea o q).ex;have h2:=j.new;rw[e]at h2;cases h2
 show{ea,C,H,rfl,c.fly_up d.ex m x f k (λb o e _ a=>hideAll_get _ e a) λb o e a=>⟨o,hideAll_get _ e a⟩,v}
end
end L2
namespace XI
open PySem PySem.Spec PySem.W
section
variable{prog:qw}{w:qn}{A:qd}{E:xx->xg->Prop}{h:qb}{g:Array GenState}{d:Drawn}{t:Nat}{os:OsState}{a:zi}{o:Obj}{vs:Array xx}{nm q:Str}{C N:zi}{bs bm:List xx}{hdct:Bool}{sn:List Str}{sub:List xx}{ab:Bool}{col:Option Bool}{dd:Option zi}{k0 k1 k2 k3 k5:Option xx}{newId:String}
theorem um{R:Result->xg->Prop}(e:h.get? C=some (excClassObj nm q C N bs bm hdct sn sub ab col dd k0 k1 k2 k3 k5 newId))(i:bm.contains (.type "object")=true)(c:h.get? a=some o)(b:o.cls=.ref C)(k:R (.ok<|.ret (.ref C)) ⟨h,g,d,t,os⟩):
  codeAny (model prog w) A (.call (.builtin "getset_descriptor.__get__") {[.builtin "object.__class__",.ref a,.ref C],[]}) R ⟨h,g,d,t,os⟩:=by
 have f:(⟨h,g,d,t,os⟩:xg).TypeIs (.builtin "object.__class__") "getset_descriptor":=F.typeOf_object_class;have j:(Value.ref C::bm).contains (.type<|".".intercalate ("object.__class__".cutAt '.').dropLast)=true:=by
  rw[F.owner_object_class,List.contains_cons,i];rfl
 show codeAny_call_builtin F.slot_gs_get.plain F.entry_gs_get<|F.slot_gs_get.check _ _ _ _ _ _ _ _ f (F.args_gs_get _ _ _) ?_
 repeat (any_goals (first|assumption|(with_reducible show wpAny_loadPart_at c ?_;rw[b]) | (with_reducible show wpAny_isSubtype_exc e ?_;rw[j])|wp_step))
 show{Code.quiet_builtin _ (by decide +kernel),codeAny_builtin F.entry_object_class ?_}
 repeat (any_goals (first|assumption|(with_reducible show wpAny_loadPart_at c ?_;rw[b])|wp_step))
theorem wl{c:Model}{b:xx}{Q:Unit->xg->Prop}(e:h.get? C=some (excClassObj nm q C N bs bm hdct sn sub ab col dd k0 k1 k2 k3 k5 newId))(f:bm.contains (.type "BaseException")=true)(n:h.get? a=some o)(i:o.cls=.ref C)(l:Q () ⟨h,g,d,t,os⟩):wpAny c A (checkBuiltinCall "BaseException.__getattribute__" {[.ref a,b],[]}) Q E ⟨h,g,d,t,os⟩:=by
 have k:builtinKind "BaseException.__getattribute__"=some .slot:=by decide +kernel
 have m:splitId "BaseException.__getattribute__"=some ("BaseException","__getattribute__"):=by decide +kernel
 have j:(Value.ref C::bm).contains (.type "BaseException")=true:=by rw[List.contains_cons,f];rfl
 have p:=F.args_bexc_ga (.ref a) b;simp only[checkBuiltinCall,k,m];show Wb ?_
 .unfold isInstance
  repeat (first|(with_reducible show wpAny_loadPart_at n ?_;rw[i]) | (with_reducible show wpAny_isSubtype_exc e ?_;rw[j])|wp_step)
  show l
theorem pH{tk:Tok}{Q:Fin->xg->Prop}(f:h.get? C=some (excClassObj nm q C N bs bm hdct sn sub ab col dd k0 k1 k2 k3 k5 newId))(i:bm.contains (.type "object")=true)(e:Looks (model prog w) h (typeLookup (.ref C) "__class__")<|some (.builtin "object.__class__"))(c:h.get? a=some o)(b:o.cls=.ref C)(n:Q (.done<|.ret (.ref C)) ⟨h,g,d,t,os⟩):
  wpAny (model prog w) A (Builtin.«object.__getattribute__» {[.ref a,.str "__class__" tk],[]}) Q E ⟨h,g,d,t,os⟩:=by
 have m:(⟨h,g,d,t,os⟩:xg).TypeIs (.builtin "object.__class__") "getset_descriptor":=F.typeOf_object_class;have j:=F.typeOf_object_class;have k:=F.slot_gs_get.lookup;have l:=F.slot_gs_set.lookup
 repeat (any_goals (first|assumption|(with_reducible show wpAny_loadPart_at c ?_;rw[b])|with_reducible show e.at ?_|wp_step))
 show um f i c b ?_
 repeat (any_goals (first|assumption|wp_step))
theorem qV{Q:Option xx->xg->Prop}(e:h.get? C=some (excClassObj nm q C N bs bm hdct sn sub ab col dd k0 k1 k2 k3 k5 newId))(k:bm.contains (.type "object")=true)(l:bm.contains (.type "BaseException")=true)(j:Looks (model prog w) h (typeLookup (.ref C) "__getattribute__")<|some (.builtin "BaseException.__getattribute__"))(f:Looks (model prog w) h (typeLookup (.ref C) "__getattr__") none)(i:Looks (model prog w) h (typeLookup (.ref C) "__class__")<|some (.builtin "object.__class__"))(c:h.get? a=some o)(b:o.cls=.ref C)(p:Q (some<|.ref C) {h,g,d,t+1,os}):
  wpAny (model prog w) A (getAttr? (.ref a) "__class__") Q E ⟨h,g,d,t,os⟩:=by
 have n:=F.attr_ValueError.ga.bind<|.ref a;have r:(false&&onTheHeap (builtin "BaseException.__getattribute__"))=false:=rfl;have m:(builtin "BaseException.__getattribute__"==builtin "object.__getattribute__")=false:=by decide +kernel
 have s:(onTheHeap (Value.ref C)&&builtin "BaseException.__getattribute__"==builtin "object.__getattribute__")=false:=by rw[m];rfl
 unfold getAttr? getAttrBy?
 repeat (any_goals (first|assumption|(with_reducible show wpAny_loadPart_at c ?_;rw[b])|with_reducible show j.at ?_|with_reducible show f.at ?_|wp_step))
 show codeAny_call_builtin F.attr_ValueError.ga.plain F.entry_bexc_ga<|wl e l c b (pH e k i c b ?_)
 repeat (any_goals (first|assumption|wp_step))
end
def fR(K:Frag)(C:zi):Bool:=ktsIn K C "object"&&findIn K (.ref C) "__getattribute__"==some (some<|.builtin "BaseException.__getattribute__")&&findIn K (.ref C) "__getattr__"==some none&&findIn K (.ref C) "__class__"==some (some<|.builtin "object.__class__")
def pI(e C:zi)(h:qb):Prop:=∃o vs,h.get? e=some o/\o.cls=.ref C/\o.data=.fields vs
theorem pJ{K:Frag}{e C:zi}(q:fR K C=true):KitX K (.ref e) (.ref C) (pI e C):=by
 unfold fR at q;simp only[GJ,GP]at q;let(((b,r),u),v):=q;show{λf h X p=>?_,λf h X p=>?_,λh tp dd I n J X m=>?_,λ{prog w A E Q s} X p l=>?_}
 .let(o,vs,h1,h2,_):=p;show h2 ▸ (Looks.ld h1).andThen .now
 .let(nm,c,N,bs,bm,hdct,sn,sub,ab,col,dd,k0,k1,k2,k3,k5,newId,a,_,_):=kts_cls X b;intro B F D s' k q;unfold isType loadHead;show Wb<|wpAny_loadPart (k _ _ a) (Wp q)
 .let(nm,c,N,bs,bm,hdct,sn,sub,ab,col,G,k0,k1,k2,k3,k5,newId,a,_,_):=kts_cls X b;show Bool.eq_false_iff.mpr λz=>?_;have e:C=tp:=Value.ref.inj<|GP.mp z;subst e;have x:Value.type "type"=Value.type "tuple":=congrArg Obj.cls<|Option.some.inj (a.symm.trans m);injection x with y
  show absurd y (by decide)
 .let(H,g,d,t,os):=s;let(o,vs,h1,h2,_):=p;let(nm,c,N,bs,bm,hdct,sn,sub,ab,col,dd,k0,k1,k2,k3,k5,newId,a,i,j):=kts_cls X b;show qV a j i (looks_findIn X r) (looks_findIn X u) (looks_findIn X v) h1 h2 l
end XI
namespace L2
open PySem PySem.Spec PyProof.Rows
section
variable{X:Cx}{pins:List (zi×Obj)}{σ:St}{H:Hp}{s:xg}
def tF2(a:TE):TE:=λσ H Q=>a σ H λv H1=>∃i:Int,v=.int i/\0<=i/\i<=60/\∀y,Q (.str y) H1
theorem kS(i:Int)(a:0<=i)(b:i<=60):(ofString<|toString i).length<=100:=by
 have key:∀n:Fin 61,(ofString<|toString ((n.val:Nat):Int)).length<=100:=by decide +kernel
 have:=key ⟨i.toNat,by lia⟩;have e:((i.toNat:Nat):Int)=i:=by lia
 rw[e]at this;show this
theorem zV{x:Str}{j:Nat}{g k l:Pos}{e:Expr}{a:TE}(d:PE X e a)(p:x.length<=800):PE X (.JoinedStr [.Constant (.str x) j g,.FormattedValue e (-1) none k] l) (tF2 a):=by
 intro pins s σ H Q I h;have o:(empty++x).length<=800:=by rw[strLen_append];change 0+x.length<=800;lia
 show JoinedStr_many<|joinParts_cons (Constant_str ?_);show{Fu<|aw (by lia),?_};show joinParts_cons<|FormattedValue_plain (thn (d pins _ σ H _ (I.tok _) h) λv s1 f=>?_);let(y,H1,b,n,m):=f;let(i,rfl,c,h1,q):=m;let(t,rfl):=n;have h2:=kS i c h1;have h3:((empty++x)++ofString (toString i)).length<=1000:=by rw[strLen_append];lia
 show formatField_int_small (GU (Nat.log2_le_self _) (by lia)) {Fu<|aw h3,?_};show joinParts_nil {.str _,H1,(b.tok _).tok _,⟨_,rfl⟩,q _}<|Fu (aw h3)
abbrev bmV:List xx:=[.type "ValueError",.type "Exception",.type "BaseException",.type "object"]
abbrev Dg(X:Cx)(x:Str)(C:zi):Prop:=OwnCls x C bmV "ValueError.__new__" X.mg X.base
def AR(C:zi)(E:XK)(a:TE):TS:=λ_ σ H=>dm a lS σ H λvs H1=>vs.length<=sizeLine/\E (.ref C) none H1
theorem cN{E:XK}(j:Lv X E){x:Str}{C:zi}{v g pos:Pos}{a:Expr}{d:TE}(f:Dg X x C)(p:X.A.handled=none)(o:Gl X x)(n:PE X a d)(c:starEach [a] X.env=[(false,eval a X.env)]:=by rfl)(hd:(x==("__debug__":Str))=false:=by decide):PS X (.Raise (some<|.Call (.Name x v) [a] [] g) none pos) (AR C E d):=by
 intro pins s σ H y I h;let(tl,N,nm,q,bs,hdct,sn,sub,ab,col,dd,k0,k1,k2,k3,k5,mN,l,m,r,T):=f.obj;show wpAny_Raise_call_subT (C:=C) (nm:=nm) (q:=q) (N:=N) (bs:=bs) (bm:=tl) (hdct:=hdct) (sn:=sn) (sub:=sub) (ab:=ab) (col:=col) (dd:=dd) (k0:=k0) (k1:=k1) (k2:=k2) (k3:=k3) (k5:=k5)
  PySem.F.excBase_ValueError (mN:=mN) (T.hasType PySem.F.excBase_ValueError.hasBase) p (by rw[c];rfl) r (gJ I o f.bound {rfl,?_} hd)
 have k:PA X [a] (dm d lS):=aa n af c;have h':=k g pins s σ H (λvs H1=>vs.length<=sizeLine/\E (.ref C) none H1) I h;rw[c]at h'|-;show evalArgs_plain<|thn h' λB z t=>?_;let(vs,H2,b,w,i):=t;show{rfl,by rw[<-w.length];show i.1,b.bk _ _ l,m.keeps b.bk,T.keeps b.bk,λh' e u=>Df j b u i.2}
theorem yy{b:Model}{A:qd}{E:xx->xg->Prop}{nm q:Str}{C N:zi}{bs bm:List xx}{hdct:Bool}{sn:List Str}{sub:List xx}{ab:Bool}{col:Option Bool}{dd:Option zi}{k0 k1 k2 k3 k5:Option xx}{o:String}{a:qb}{g:Array GenState}{d:Drawn}{t:Nat}{os:OsState}{e T:zi}{h:Obj}{Q:Bool->xg->Prop}(c:a.get? T=some (excClassObj nm q T N bs bm hdct sn sub ab col dd k0 k1 k2 k3 k5 o))(j:bm.contains (.type "BaseException")=true)(i:PySem.W.Looks b a (isSubtype (.ref C)<|.ref T) true)(m:a.get? e=some h)(l:h.cls=.ref C)(n:Q true ⟨a,g,d,t,os⟩):wpAny b A (excMatches (.ref e)<|.ref T) Q E ⟨a,g,d,t,os⟩:=by
 have k:(Value.ref T::bm).contains (.type "BaseException")=true:=by rw[List.contains_cons,j,Bool.or_true]
 have f:=tc_notTuple;unfold excMatches
 repeat (first|(with_reducible show wpAny_loadPart_at m ?_;rw[l])|with_reducible show i.at ?_|with_reducible show wpAny_loadPart_at c ?_|(with_reducible show wpAny_isSubtype_exc c ?_;rw[k])|wp_step)
 show n
theorem Inv.forget(a:Inv X pins σ H s){l:Nat}{n:Str}{h':qb}{m:Str->Option xx}{v:Option xx}{tk:Nat}(G:X.N.Nodup)(w:X.N[l]?=some n)(K:s.heap.Ns X.env.locals m)(M:h'.Ns X.env.locals λx=>if x=n then v else m x)(d:SameBut X.env.locals s.heap h'):Inv X pins (σ.set l none) H {s with heap:=h',toks:=tk}:=by
 let(Q,L,I):=id a.loc;have E:∀x,Q x=m x:=λx=>by
  let(o,es,Z,e1,e2,e3,e4):=L;let(o',a1,a0,t,u,a2,F):=K;rw[e1]at t;cases t;rw[e2]at u;cases u;rw[<-e4,<-F]
 have J:l<σ.length:=by rw[a.len];show(FV.mp w).1
 have r:=a.cne;have j:∀b o,X.s₀.heap.get? b=some o->b≠X.env.locals:=λb o e=>FX<|Fc (FW e) a.ok.above;show{a.ok,a.os,a.bare,{λb o e n h g=>(d.2 b<|j b o e).trans (a.base.keep b o e n h g),λb o e n h g=>?_,a.base.free,λb o e g=>?_,a.base.tups,a.base.frzs,a.base.tbls},{_,M,λA y Y e1 e2 e3=>?_},λy c e=>?_,a.free,a.freeC,λp O=>?_,λb R e=>?_,by simpa using a.len}
 .let(W,e1):=a.base.slot b o e n h g;show{W,(d.2 b<|j b o e).trans e1}
 .let(o',e1):=a.base.there b o e g;show{o',(d.2 b<|j b o e).trans e1}
 .by_cases i:A=l
  .subst i;rw[getElem?_set_self J]at e2;cases e2
  .rw[List.getElem?_set_ne<|symm i]at e2;let(C,V,q):=I A y Y e1 e2 e3;show{C,V,?_};rcases q with⟨k,e⟩|⟨k,c,e,z⟩
   .show .inl {k,?_};have P:y≠n:=λe=>i<|kb G e1 (e ▸ w);change(if y=n then v else m y)=some C;rw[EV P,<-E];show e
   .show .inr {k,c,e,z.sameBut d<|r y c e}
 .let(D,z):=a.cell y c e;show{D,z.sameBut d<|r y c e}
 .let(S,p2,B,T,U):=a.pin p O;show{(d.2 p.1 B).trans S,p2,B,T,U}
 .show(a.hok b R e).stay (λc D f q=>(d.2 c ?_).trans q) (λ_ q=>q) λ_ _ q=>q;rintro rfl;rcases f with f|f
  .rw[<-f,a.free]at e;cases e
  .rw[a.free]at f;cases f
theorem Inv.caught{H':Hp}{ea C:zi}{s':xg}{a h:qb}{j:xx}(t:Inv X pins σ H s)(F:Fly X.prog X.w X.stack H s H' ea C s')(B:FlyingW a X.stack ea (.ref C) j s'.heap)(E:HOk X.prog X.w H' a)(K:∀b o,s.heap.get? b=some o->H b=none->b∉frs X.stack->a.get? b=some o)(r:∀b o,s.heap.get? b=some o->b∉frs X.stack->∃o',a.get? b=some o')(g:FlyingW a X.stack ea (.ref C) j h)(I:s'.heap.UpToSlots h):
  Inv X pins σ (upd H' ea<|.ext (XI.pI ea C)) {s' with heap:=h}:=by
 let(u,O):=pG F.un B E K r g.1 I;let(p,vs,i,D,l,_):=g.first;have M:∀b o,s.heap.get? b=some o->b≠ea:=λb o e z=>by
  by_cases d:b∈frs X.stack
  .let(_,o',m,G):=g.2.2.1.mem d;rw[z,i]at m;cases m;show G _ l
  .let(o',q):=r b o e d;rw[z,g.2.1]at q;cases q
 have f:∀b u,H' b=some u->b≠ea:=λb u e z=>by rw[z,F.new]at e;cases e
 show t.call' (s':={s' with heap:=h}) F.os {u.keep,u.slot,λb o e n J=>?_,u.there,λb xs e=>?_,λb o v e=>?_,λb ps e=>?_} (λb N e=>?_) F.bare λb z=>absurd z (by simp)
 .rw[aj<|M b o e];show u.free b o e n J
 .have:=u.tups b xs e;rw[aj<|f b _ this];show this
 .have:=u.frzs b o v e;rw[aj<|f b _ this];show this
 .let(L,this):=u.tbls b ps e;show{L,by rw[aj<|f b _ this];show this}
 .by_cases d:b=ea
  .subst d;rw[ac]at e;cases e;show{⟨p,vs,i,D,l⟩,⟨p,i⟩,λh1 h2 ⟨o,vs,x,y,A⟩ k=>⟨o,vs,k o x,y,A⟩}
  .rw[aj d]at e;show(O b N e).stay (λ_ _ _ q=>q) (λc q=>by rw[aj<|f c _ q];show q) λc xs q=>by rw[aj<|f c _ q];show q
structure TryOk(X:Cx):Prop where
 no:∀e s,¬X.xe e s
 stk:X.stack=X.env::X.outer
 fr:X.env.frame=some X.env.locals
end
end L2
namespace DL
open PySem PySem.Spec PyProof.Rows
theorem kU:entryFor table "dict.update.loop"=some Builtin.«dict.update.loop»:=entryFor_of_tree (by kernel_rfl)
theorem fj:plainId "dict.update.loop"=true:=by decide +kernel
theorem nY:typeLookup (.type "list") "keys"=pure none:=by rw[typeLookup_type,builtinLookup_eq_fast];kernel_rfl
section
variable{prog:qw}{w:qn}{A:qd}{E:xx->xg->Prop}{s:xg}
theorem yz{a:zi}{xs:Array xx}{k:Nat}{h:Array (Option xx)}{u:Tok}{Q:xx->xg->Prop}(c:s.heap.get? a=some {cls:=.type "list",dict:=none,data:=.seq xs k,slots:=h})(l:A.handled=none)(j:∀h' tk e,Heap.NewExcOf s.heap h' e "AttributeError"->E (.ref e) {s with heap:=h',toks:=tk}):
  wpAny (model prog w) A (getAttrBy (.ref a) (.str "keys" u) false) Q E s:=by
 let(m,g,d,tk,os):=s;have b:∀i,(⟨m,g,d,i,os⟩:xg).TypeIs (.ref a) "list":=λ_=>⟨_,c,rfl⟩;have n:=sub_AttributeError;have o:=F.slot_list_getattribute.lookup;have p:=F.slot_list_getattribute.bind<|.ref a;have q:=am_list_getattr_none;unfold getAttrBy
 repeat (any_goals (first|assumption|show b _|((with_reducible change wpAny _ _ (call (builtin "list.__getattribute__") _ _) _ _ _);show call_meets F.slot_list_getattribute (b _) am_entry_list_getattribute (F.args_list_getattribute_2 _ _) (meets_getattribute_miss_list a xs k h "keys" _ nY (by decide) (by size_fits)) {c,l,λh' i e f=>?_})|wp_step))
 let(t,v,r):=f.there;change wpAny _ _ (getattributeRaised _ _ _ _ _ _ _) _ _ _;unfold getattributeRaised
 repeat (any_goals (first|assumption|wp_step))
 show j _ _ _ f.of
theorem yA{a:zi}{xs:Array xx}{k:Nat}{n:Array (Option xx)}{Q:Option xx->xg->Prop}(m:s.heap.get? a=some {cls:=.type "list",dict:=none,data:=.seq xs k,slots:=n})(i:A.handled=none)(h:∀h' tk,(∀b o,s.heap.get? b=some o->h'.get? b=some o)->Q none {s with heap:=h',toks:=tk}):
  wpAny (model prog w) A (getAttr? (.ref a) "keys") Q E s:=by
 let(l,g,d,tk,os):=s;have q:=sub_AttributeError;unfold getAttr? getAttrBy?
 repeat (any_goals (first|assumption|((with_reducible change wpAny _ _ (getAttrBy _ _ false) _ _ _);show yz (s:=⟨l,g,d,_,os⟩) m i λh' p e f=>?_)|wp_step))
 let((r,t,u,v),vs,j,c,_,_):=f.there;simp only at c;subst c
 repeat (any_goals (first|assumption|with_reducible show wpAny_loadPart_at j ?_|wp_step))
 show h h' p λb o e=>f.keeps b o e
end
section
variable{prog:qw}{w:qn}{A:qd}{E:xx->xg->Prop}{R:Result->xg->Prop}{I:zi}{fp wr:List zi}{G:Array GenState->Array GenState->Prop}{n:Nat}{P:Nat->xx->Prop}{St:Nat->xg->Prop}
theorem uo(W:WalksS prog w A.in1 I fp wr G n P St)(d:zi)(H:d∉fp)(ad:Nat->zi)(C D:Nat->xx)(b5:∀i v,P i v->v=.ref (ad i))(u:∀i,i<n->ad i∉d::wr)(a:Nat->qb->Prop)(F:∀i (h h':qb),a i h->(∀b o,b∉wr->h.get? b=some o->h'.get? b=some o)->a i h')(step:∀i (s:xg) (E:xx->xg->Prop) (Q:Unit->xg->Prop),i<n->a i s.heap->(∀h' tk,s.toks<=tk->SameBut d s.heap h'->a (i+1) h'->Q () {s with heap:=h',toks:=tk})->wpAny (model prog w) A.in1 (dictSet d (C i)<|D i) Q E s):
  ∀(k i:Nat)(s:xg)(tk:Tok),n-i=k->i<=n->St i s->a i s.heap->(∀j,j<n->IsTup s.heap (ad j) #[C j,D j]) ->
   (∀s',Moved (d::wr) G s s'->a n s'.heap->R (.ok<|.ret .none) s') ->
   codeAny (model prog w) A (.builtin "dict.update.loop" {[.ref d,.ref I,.int i tk,.none],[]}) R s:=by
 have c1:d∉wr:=λh=>H<|W.sub _ h;have O:∀b∈wr,b∈d::wr:=λb c=>FR _ c;have a3:∀i,i<n->ad i∉wr:=λi hi h=>u i hi<|FR _ h;have c0:∀i,i<n->ad i≠d:=λi hi h=>u i hi (by rw[h];show FY);intro k
 induction k with
 |zero =>
  intro i s tk a5 hi B p T q;have a4:i=n:=by lia
  subst a4;show codeAny_builtin kU ?_;rw[Around.under_plainId fj _];change wpAny _ A.in1 (pyNext (.ref I) >>= _) _ _ s;show Wb<|W.done s _ _ B λs' f=>?_;change wpAny _ A.in1 (Builtin.Dict.addKeywords d [] >>= λ_=>ret Value.none) _ _ s';show Wb<|Wp (Wp<|q s' (f.mono O) (F _ _ _ p f.heap))
 |succ k b6 =>
  intro i s tk a5 hi B p T q;have m:i<n:=by lia
  show codeAny_builtin kU ?_;rw[Around.under_plainId fj _];change wpAny _ A.in1 (pyNext (.ref I) >>= _) _ _ s;show Wb<|W.item i s _ _ m B λv s' a1 a8 f=>?_;have a9:=b5 i v a1;subst a9;have a0:a i s'.heap:=F _ _ _ p f.heap;have U:∀j,j<n->IsTup s'.heap (ad j) #[C j,D j]:=λj l=>by
   let(o,y,r):=T j l;show{o,f.heap _ o (a3 j l) y,r}
  let(V,L,x,c2,J):=U i m;have a2:s'.TypeIs (.ref<|ad i) "tuple":=⟨V,L,x⟩;show Wb<|wpAny_holding ?_;show Wb<|wpAny_tryCatch ?_;unfold Builtin.Dict.pairItems;show Wb<|wpAny_typeOf a2 ?_;rw[EW (by decide)];generalize Z:dictSet=b8;let(M,g,b9,t,os):=s';let(c3,c5,c4,c6):=V;simp only at x J;subst x J
  repeat (any_goals (first|assumption|with_reducible show wpAny_loadPart_at L ?_|wp_step))
  subst Z;show step i _ _ _ m a0 λh' c7 S a7 X=>?_;have N:SameBut d M h':=a7;have K:∀b o,b∉d::wr->M.get? b=some o->h'.get? b=some o:=λb o c e=>by
   rw[N.2 b λz:b=d=>c (by rw[z];show FY)];show e
  show Wp {plainId_quiet fj _,?_};show b6 (i+1) _ _ (by lia) m (W.frame _ _ _ _ a8 S λb c o e=>?_) X (λj l=>?_) λb7 a6 Y=>?_
  .rw[N.2 b λh:b=d=>H (by rw[<-h];show c)];show e
  .let(o,y,r):=U j l;show{o,K _ o (u j l) y,r}
  .show q b7 (Moved.trans W.gtrans ((f.mono O).then_heap S λb o c e=>K b o c e) a6) Y
end
section
variable{prog:qw}{w:qn}{A:qd}{E:xx->xg->Prop}{s:xg}
theorem gn{l:zi}{items:Array xx}{x:Nat}{K:Array (Option xx)}{Q:xx->xg->Prop}(D:A.handled=none)(G:s.heap.get? l=some {cls:=.type "list",dict:=none,data:=.seq items x,slots:=K})(ad:Nat->zi)(u y:Nat->xx)(V:∀(i:Nat) (v:xx),items[i]?=some v->v=Value.ref (ad i))(I:∀i,i<items.size->IsTup s.heap (ad i) #[u i,y i])(a:Nat->qb->Prop)(S:∀h',h'.get? s.heap.objs.size=some {cls:=.type "dict",data:=.dict #[]}->(∀b o,s.heap.get? b=some o->h'.get? b=some o)->a 0 h')(R:∀i (f h':qb),a i f->(∀b o,b<=s.heap.objs.size->f.get? b=some o->h'.get? b=some o)->a i h')(step:∀i (s':xg) (E:xx->xg->Prop) (Q:Unit->xg->Prop),i<items.size->a i s'.heap->(∀h' tk,s'.toks<=tk->SameBut s.heap.objs.size s'.heap h'->a (i+1) h'->Q () {s' with heap:=h',toks:=tk}) ->
   wpAny (model prog w) A.in1.in1 (dictSet s.heap.objs.size (u i)<|y i) Q E s')(f:∀h' tk,a items.size h'->(∀b o,s.heap.get? b=some o->h'.get? b=some o)->Q (.ref s.heap.objs.size) {s with heap:=h',toks:=tk}):
  wpAny (model prog w) A (call (.type "dict") [.ref l]) Q E s:=by
 show callType_codes (Q₁:=λJ L=>J=.ref s.heap.objs.size/\L={s with heap:=s.heap.push {cls:=.type "dict",data:=.dict #[]}}) F.kt_called_dict (F.kt_typeCall_dict_1 _) F.entry_dict_init (kt_code_dict_new _ ⟨rfl,rfl⟩) ?_;rintro J L ⟨rfl,rfl⟩;have q:(s.heap.push {cls:=.type "dict",data:=.dict #[]}).get? s.heap.objs.size=some {cls:=.type "dict",data:=.dict #[]}:=FG _ rfl;have B:Shared.TypeIs {s with heap:=s.heap.push {cls:=.type "dict",data:=.dict #[]}} (.ref s.heap.objs.size) "dict":=⟨_,q,rfl⟩
 have p:(s.heap.push {cls:=.type "dict",data:=.dict #[]}).get? l=some {cls:=.type "list",dict:=none,data:=.seq items x,slots:=K}:=EU _ G;have U:Shared.TypeIs {s with heap:=s.heap.push {cls:=.type "dict",data:=.dict #[]}} (.ref l) "list":=⟨_,p,rfl⟩
 show{B,F.args_dict_init_2 _ _,?_};unfold Builtin.«dict.__init__»;show Wb ?_;unfold Builtin.Dict.selfAndRest;show Wb<|wpAny_notOrdered_dict B ?_;change wpAny _ _ (pure (s.heap.objs.size,[Value.ref l])) _ _ _;show Wp ?_;change wpAny _ _ (Builtin.Dict.updateFrom "dict.__init__" s.heap.objs.size (.ref l) [] .none) _ _ _;unfold Builtin.Dict.updateFrom;show Wb<|wpAny_typeOf U ?_;rw[EW (by decide)];show Wb<|yA (s:={s with heap:=s.heap.push {cls:=.type "dict",data:=.dict #[]}}) p (show A.in1.in1.handled=none by simp[D]) λh1 a3 Y=>?_;have j:∀b o,(s.heap.push {cls:=.type "dict",data:=.dict #[]}).get? b=some o->h1.get? b=some o:=Y;have z:h1.IsList l items:=⟨_,j _ _ p,rfl,x,rfl⟩;rw[EW (show(none:Option xx).isNone=true from rfl)];show Wb<|wpAny_rule ?_;show Wb<|wpAny_pyIter_list z ?_;have H:l<s.heap.objs.size:=FW G;have d:s.heap.objs.size<h1.objs.size:=FW<|j _ _ q;have k0:∀b o,s.heap.get? b=some o->h1.get? b=some o:=λb o e=>j b o<|EU _ e;have C:∀i,i<items.size->ad i<s.heap.objs.size:=λi c=>by
  let(o,t,_):=I i c;show FW t
 show Wp {plainId_quiet fj _,uo (A:=A.in1) ((Walks.list (show A.in1.in1.handled=none by simp[D]) h1.objs.size l (FX<|lt_trans H d) items).toS) s.heap.objs.size ?hdf ad u y V ?had a ?hD' (λi s' E Q c n Z=>step i s' E Q c n Z)
  (items.size-0) 0 _ 0 (by lia) (Fz _) {{_,FG _ rfl,rfl,rfl},z.push _} ?hD0' ?ht' λs' k T=>?_}
 case hdf =>
  simp only[FU,Gb,or_false,not_or];show{FX d,Gv H}
 case had =>
  intro i c;simp only[FU,Gb,or_false,not_or];show{FX<|C i c,FX<|lt_trans (C i c) d}
 case hD' =>
  intro i g m n X;show R i g m n λb o h e=>X b o ?_ e;simp only[FU,Gb,or_false];show FX<|GU h d
 case hD0' =>
  show S _ (EU _<|j _ _ q) λb o e=>EU _<|k0 b o e
 case ht' =>
  intro a0 W;let(o,t,r):=I a0 W;show{o,EU _<|k0 _ _ t,r}
 let(h',m,M,a2,a1):=s';have O:m=s.gens:=k.gens;have N:M=s.drawn:=k.drawn;have P:a1=s.os:=k.os;subst O;subst N;subst P;show{rfl,f h' a2 T λb o e=>?_};have h:b<s.heap.objs.size:=FW e;show k.heap b o ?_<|EU _ (k0 b o e);simp only[FU,Gb,or_false,not_or];show{FX h,FX<|lt_trans h d}
end
end DL
namespace L2
open PySem PySem.Spec PyProof.Rows
section
variable{X:Cx}
theorem AS{f:List (zi×Obj)}{i:St}{b:Hp}{s:xg}(c:Inv X f i b s){a:zi}{x y:V}(d:b a=some (.tup [x,y])):∃u v,aI x u/\aI y v/\IsTup s.heap a #[u,v]:=by
 let(_,j,r,e):=c.hok a _ d;cases r with
 |cons g r =>
  cases r with
  |cons h r=>cases r;show{_,_,g,h,by simpa using e}
theorem pK{κ:Type}{m:List (zi×Obj)}{n:St}{e:Hp}{s:xg}(j:Inv X m n e s){zs:List (zi×κ×V)}(d:zi×κ×V->V)(k:∀z∈zs,e z.1=some (.tup [d z,z.2.2])):
  ∃f:zi×κ×V->xx×xx,∀z∈zs,aI (d z) (f z).1/\aI z.2.2 (f z).2/\IsTup s.heap z.1 #[(f z).1,(f z).2]:=by
 have g:∀z:zi×κ×V,∃p:xx×xx,z∈zs->aI (d z) p.1/\aI z.2.2 p.2/\IsTup s.heap z.1 #[p.1,p.2]:=λz=>by
  by_cases i:z∈zs
  .let(u,v,a,b,c):=AS j<|k z i;show{(u,v),λ_=>⟨a,b,c⟩}
  .show{(.none,.none),λh=>absurd h i}
 show{λz=>Classical.choose<|g z,λz l=>Classical.choose_spec (g z) l}
theorem cb{b:Type}{l:List b}{i:Nat}{d:b}(a:i<l.length):l.getD i d∈l/\l[i]?=some (l.getD i d):=by
 rw[FA,ET a];show{Gk a,rfl}
theorem mK{κ:Type}{zs:List (zi×κ×V)}{d:zi×κ×V}{i:Nat}{v:xx}(h:(((zs.map (·.1)).map Value.ref).toArray)[i]?=some v):v=Value.ref (zs.getD i d).1:=by
 have h':((zs.map (·.1)).map Value.ref)[i]?=some v:=by simpa using h
 rw[FE,FE]at h';rw[FA];cases e:zs[i]? with
 |none=>rw[e]at h';cases h'
 |some z=>rw[e]at h';show(Option.some.inj h').symm
theorem cB{a:Type}{l:List a}{i:Nat}{x:a}(b:l[i]?=some x):l.take (i+1)=l.take i++[x]:=by rw[take_succ,b];rfl
theorem uq{a κ:Type}{l:List a}{f:a->κ}{i:Nat}{x:a}(h:(l.map f).Nodup)(b:l[i]?=some x):f x∉(l.take i).map f:=by
 intro g;let(y,j,e):=EZ.mp g;let(c,d,e2):=GF.mp j;have k:c<i:=by rw[Fx]at d;lia
 have hi:i<l.length:=(FV.mp b).1;have e3:(l.map f)[c]'(by rw[ES];lia)=(l.map f)[i]'(by rw[ES];lia):=by
  rw[getElem_map,getElem_map];rw[getElem_take]at e2;rw[e2,e,(FV.mp b).2]
 have:=(Gr h).mp e3
 lia
theorem jD(G:X.calm=true):ca X (.type "dict") (λxs H Q=>∃l,∃zs:List<|zi×Key×V,xs=[.ref l]/\H l=some (.lst<|(zs.map (·.1)).map V.ref)/\(∀z∈zs,H z.1=some (.tup [kV z.2.1,z.2.2]))/\zs.length<=1000 /\
  (zs.map (·.2.1)).Nodup/\((∀d o,H d=none->Q (.ref d) (upd H d<|.frz o (.dK<|zs.map (·.2))))\/∀d,H d=none->Q (.ref d) (upd H d<|.dK (zs.map (·.2))))):=by
 intro pins s σ H xs a2 Q I r h;let(l,zs,rfl,J,A,m,K,q):=h;let(u,rfl,W):=cA r;cases W;let(_,a0,a1,Y,b):=I.hok l _ J;have e:=dc Y;subst e;let(f,x):=pK I (λz=>kV z.2.1) A;have hsz:(((zs.map (·.1)).map Value.ref).toArray).size=zs.length:=by simp
 show DL.gn (s:=s) (I.ok.hd G) b (λi=>(zs.getD i (0,.inl 0,.non)).1) (λi=>(f<|zs.getD i (0,.inl 0,.non)).1) (λi=>(f<|zs.getD i (0,.inl 0,.non)).2) (λi v R=>mK R) (λi hi=>?_)
  (λi h'=>h'.DictOf (aF X.prog X.w) s.heap.objs.size<|(zs.take i).map λz=>(z.2.1,(f z).2)) (λh' c _=>?_) (λi g Z a A=>?_) (λi s' E Q hi a N=>?_) λh' tk a C=>?_
 .rw[hsz]at hi;show(x _ (cb hi).1).2.2
 .show{_,#[],0,c,⟨rfl,rfl,rfl⟩,rfl,λ_ t=>by simp at t,Pairs.nil,nodup_nil}
 .let(o,es,D,b,r):=a;show{o,es,D,A _ o (FH _) b,r}
 .rw[hsz]at hi;let(j,c):=cb (d:=((0,.inl 0,.non):zi×Key×V)) hi;show wpAny_dictSet_pairs (hsz:=by rw[ES,Fx];have:=aw m;lia) (k:=(zs.getD i (0,.inl 0,.non)).2.1) (gh (x _ j).1) a λh' n P=>N h' _ (le_succ _) P ?_;have e1:=cB c;have e2:=uq K c;rw[e1,Fn];unfold stored at n;rw[EV]at n
  .show n
  .intro F;let(p,M,t):=GK.mp F;let(z,T,rfl):=EZ.mp M;show e2<|EZ.mpr ⟨z,T,of_decide_eq_true t⟩
 .rw[hsz,Gm]at a;obtain⟨ob,L⟩:∃ob,h'.get? s.heap.objs.size=some ob:=let⟨o,_,_,b,_⟩:=a;⟨o,b⟩;have O:KV (zs.map (·.2)) (zs.map λz=>(z.2.1,(f z).2)):=by
   have:∀ys:List<|zi×Key×V,(∀z∈ys,z∈zs)->KV (ys.map (·.2)) (ys.map λz=>(z.2.1,(f z).2)):=by
    intro ys
    induction ys with
    |nil=>intro _;show .nil
    |cons z ys U=>intro j;show .cons {rfl,(x z<|j z (by simp)).2.1}<|U λy S=>j y (by simp[S])
   show this zs λz m=>m
  have B:∀H':Hp,bq X.prog X.w H' h' s.heap.objs.size (.dK<|zs.map (·.2)):=λH'=>jj (Fu<|aw (by rw[ES];show m)) (Fl.mpr<|symm (FX I.big)) O a;rcases q with q|q
  .show{.ref s.heap.objs.size,_,I.laid (t':=tk) (o:=.frz ob<|.dK (zs.map (·.2))) C (FH _) ⟨L,B _⟩,rfl,q _ ob<|I.hok.fresh (FH _)}
  .show{.ref s.heap.objs.size,_,I.laid (t':=tk) (o:=.dK<|zs.map (·.2)) C (FH _)<|B _,rfl,q _<|I.hok.fresh (FH _)}
theorem qW(c:X.calm=true):ca X (.type "dict") (λxs H Q=>∃l,∃zs:List<|zi×Key×V,xs=[.ref l]/\H l=some (.lst<|(zs.map (·.1)).map V.ref)/\(∀z∈zs,H z.1=some (.tup [kV z.2.1,z.2.2]))/\zs.length<=1000/\(zs.map (·.2.1)).Nodup/\∀d o,H d=none->Q (.ref d) (upd H d<|.frz o (.dK<|zs.map (·.2)))) :=
 λpins s σ H xs e Q I r ⟨l,zs,h1,h2,h3,a,b,q⟩=>jD c pins s σ H xs e Q I r ⟨l,zs,h1,h2,h3,a,b,.inl q⟩
theorem dY(c:X.calm=true):ca X (.type "dict") (λxs H Q=>∃l,∃zs:List<|zi×Key×V,xs=[.ref l]/\H l=some (.lst<|(zs.map (·.1)).map V.ref)/\(∀z∈zs,H z.1=some (.tup [kV z.2.1,z.2.2]))/\zs.length<=1000/\(zs.map (·.2.1)).Nodup/\∀d,H d=none->Q (.ref d) (upd H d<|.dK (zs.map (·.2)))) :=
 λpins s σ H xs e Q I r ⟨l,zs,h1,h2,h3,a,b,q⟩=>jD c pins s σ H xs e Q I r ⟨l,zs,h1,h2,h3,a,b,.inr q⟩
end
def AT(c:qb)(d:zi)(b:Array DictEntry)(a:Nat):Prop:=∃o,c.get? d=some o/\o.ExactDict/\o.data=.dict b a
section
variable{prog:qw}{w:qn}{A:qd}{E:xx->xg->Prop}{s:xg}
theorem pL{d:zi}{e:Array DictEntry}{c:Nat}{Q:xx->xg->Prop}(hd:(d==sysModules)=false)(i:AT s.heap d e c)(g:Q (.ref s.heap.objs.size) {s with heap:=s.heap.push {cls:=.type "dict_keyiterator",data:=.fields #[.ref d,.int 0 0,.int e.size 0,.int c 0]}}):
  wpAny (model prog w) A (pyIter<|.ref d) Q E s:=by
 let(o,b,h,f):=id i;have a:s.TypeIs (.ref d) "dict":=⟨o,b,h.1⟩;show wpAny_pyIter_slot a PySem.F.slot_dict_iter<|wpAny_call_entry PySem.F.slot_dict_iter a PySem.F.entry_dict_iter ?_ (PySem.F.args_dict_iter_1 _);unfold Builtin.«dict.__iter__»;show Wb ?_;unfold Builtin.Dict.dictSlotNone;show Wb<|wpAny_notOrdered_dict a ?_;change wpAny _ _ (pure<|Value.ref d) _ _ s;show Wp ?_;change wpAny _ _ (Builtin.Dict.showsAll d >>= _) _ _ s;unfold Builtin.Dict.showsAll;rw[EV (by rw[hd];show FL)];show Wb<|Wp ?_;show Wb<|wpAny_dictEntries b f ?_;show Wb<|wpAny_dictEpoch b f ?_;show Wb<|wpAny_newObj_type (Wp {_,rfl,"dict_keyiterator",_,{_,FG _ rfl,rfl},GV.lookup,?_});simpa [rawInt]using g
theorem wm{c d:zi}{i ep:Nat}{a:Array DictEntry}{e:DictEntry}{Q:Option xx->xg->Prop}(b:s.heap.IsKeyIter c d i a.size ep)(r:AT s.heap d a ep)(l:a[i]?=some e)(m:∀h',h'.IsKeyIter c d (i+1) a.size ep->SameBut c s.heap h'->Q (some e.key) {s with heap:=h'}):
  wpAny (model prog w) A (pyNext<|.ref c) Q E s:=by
 let(o,g,n,f):=id b;let(v,k,u,h):=id r;unfold pyNext;show Wb<|wpAny_attempt (wpAny_callSpecial?_slot (name:=ofString "__next__") b.typeIs GV
  (wpAny_call_entry GV b.typeIs PySem.F.entry_dict_keyiterator_next ?_<|PySem.F.args_dict_keyiterator_next_1 _))
 show Wb<|Wp ?_;show Wb ?_;show Wb ?_
 first|show Wb (wpAny_typeNameOfWhole_keyiter b.typeIs<|Wp ?_)|show Wb<|wpAny_typeNameOf_keyiter b.typeIs (Wp ?_)
 show Wb<|wpAny_fieldsOf g f ?_;have t:Builtin.Dict_items.ownsTuple "dict_keyiterator"=false:=by decide
 simp only[t,FN,Fg];change wpAny _ _ (if (Value.ref d==Value.none)=true then _ else _) _ _ s
 rw[EV (show ¬((Value.ref d==Value.none)=true)from FL)];show Wb<|Wp ?_;show Wb<|wpAny_dictEntries k h ?_;rw[EV (by simp)];show Wb<|Wp ?_;show Wb<|wpAny_dictEpoch k h ?_;rw[EV (by simp)];show Wp ?_;have q:i<a.size:=(Array.getElem?_eq_some_iff.mp l).1;have p:a[i]=e:=(Array.getElem?_eq_some_iff.mp l).2;simp only[show ¬((i:Int)<0)from by lia,Fg,GR,FK q];show Wb ?_
 first|show Wb (wpAny_typeNameOfWhole_keyiter b.typeIs<|Wp ?_)|show Wb<|wpAny_typeNameOf_keyiter b.typeIs (Wp ?_)
 show Wb<|wpAny_isOneOf_keyiter b.typeIs ?_;change wpAny _ _ (setField (.ref c) 1 (rawInt<|(i:Int)+1) >>= _) _ _ s;show Wb<|wpAny_setField g f (by simp) ?_;have j:(s.heap.update c<|Obj.mapFields (·.setIfInBounds 1 (rawInt<|(i:Int)+1))).IsKeyIter c d (i+1) a.size ep :=
  ⟨_,get?_update_self _ g<|Obj.isFreed_of_fields (Obj.data_mapFields f _),(Obj.cls_mapFields ..).trans n,by rw[Obj.data_mapFields f];simp[rawInt]⟩
 show Wb<|wpAny_holding ?_;show Wb<|wpAny_isOneOf_keyiter (s:={s with heap:=s.heap.update c (Obj.mapFields (·.setIfInBounds 1 (rawInt<|(i:Int)+1)))}) j.typeIs ?_
 change wpAny _ _ (pure a[i].key) _ _ _;rw[p];show Wp<|Wp ⟨_,rfl,Wp<|m _ j (Ft ..)⟩
theorem yB{e d:zi}{i g:Nat}{f:Array DictEntry}{Q:Option xx->xg->Prop}(q:A.handled=none)(c:s.heap.IsKeyIter e d i f.size g)(r:AT s.heap d f g)(p:f.size<=i)(n:∀h',ExtBut e s.heap h'->Q none {s with heap:=h'}):wpAny (model prog w) A (pyNext<|.ref e) Q E s:=by
 let(o,k,u,h):=id c;let(x,l,v,j):=id r;unfold pyNext;show Wb<|wpAny_attempt (wpAny_callSpecial?_slot (name:=ofString "__next__") c.typeIs GV
  (wpAny_call_entry GV c.typeIs PySem.F.entry_dict_keyiterator_next ?_<|PySem.F.args_dict_keyiterator_next_1 _))
 show Wb<|Wp ?_;show Wb ?_;show Wb ?_
 first|show Wb (wpAny_typeNameOfWhole_keyiter c.typeIs<|Wp ?_)|show Wb<|wpAny_typeNameOf_keyiter c.typeIs (Wp ?_)
 show Wb<|wpAny_fieldsOf k h ?_;have t:Builtin.Dict_items.ownsTuple "dict_keyiterator"=false:=by decide
 simp only[t,FN,Fg];change wpAny _ _ (if (Value.ref d==Value.none)=true then _ else _) _ _ s
 rw[EV (show ¬((Value.ref d==Value.none)=true)from FL)];show Wb<|Wp ?_;show Wb<|wpAny_dictEntries l j ?_;rw[EV (by simp)];show Wb<|Wp ?_;show Wb<|wpAny_dictEpoch l j ?_;rw[EV (by simp)];show Wp ?_;simp only[show ¬((i:Int)<0)from by lia,Fg,GR,Array.getElem?_eq_none p];show Wb ?_
 first|show Wb (wpAny_typeNameOfWhole_keyiter c.typeIs<|Wp ?_)|show Wb<|wpAny_typeNameOf_keyiter c.typeIs (Wp ?_)
 change wpAny _ _ (setField (.ref e) 0 .none >>= _) _ _ s;show Wb<|wpAny_setField k h (by simp) ?_;change wpAny _ _ (newExc (.type "StopIteration") [] >>= _) _ _ _;show Wb ?_;simp only[newExc,newTuple];show Wb<|wpAny_newObj_type ?_ (by size_fits);show Wb (m:=firstArgMember _ _)<|wpAny_of_eq (a:=Value.none) (by first|rfl|(simp only[firstArgMember];rfl)) ?_
 show wpAny_newObj_type ?_ (by size_fits);simp only[raiseNew];show Wb<|wpAny_handled ?_;rw[show A.in1.handled=none from q];show Wb<|Wp (wpAny_throw ?_);show Wb<|wpAny_isInstance (T:="StopIteration") (b:=true) {_,FG _ rfl,rfl} isSubtype_stop ?_;show Wp<|n _ (((Ft ..).extBut.push _).push _)
end
def Itk(d:zi)(o:Obj)(u:HO)(ks:List V):It:={λi H=>H d=some (.frz o u)/\i<ks.length,λi H x H'=>H'=H/\ks[i]?=some x,λi H=>H d=some (.frz o u)/\ks.length<=i}
theorem mO{P:qw}{w:qn}{K:Frag}{U:Expr}{d it:zi}{o:Obj}{u:HO}{a:Array DictEntry}{C:Nat}{ks:List V}(J:o.ExactDict)(hd:o.data=.dict a C)(A:aA ks<|a.toList.map (·.key)):
  Turn P w K U (Itk d o u ks) [it] it (λi h=>h.IsKeyIter it d i a.size C) where
 mem:=by simp
 obj:=λi h st b f=>by
  have e:b=it:=by simpa using f
  subst e;let(o,e,c,d):=st;show{o,e,λv z=>by rw[d]at z;cases z}
 keep:=λi h h' st k=>st.at λo e=>k it (by simp) o e
 item:=by
  intro X t B r D i pins s σ H E I g st x;subst t B r;let(q,hi):=x;have y:=(I.hok d _ q).1;have R:ks.length=a.size:=by rw[A.length,ES,FQ]
  have F:i<a.size:=by lia
  let(v,G,S):=A.get<|ET hi;let(j,l,Q,m,n,p):=g it (by simp);have O:v=a[i].key:=by
   rw[FE,Gd,FK F]at G;show(Option.some.inj G).symm
  show wm st ⟨o,y,J,hd⟩ (FK F) λh' L T=>?_;have M:Inv X pins σ H {s with heap:=h'}:=I.turned (t':=s.toks) (λb o f e=>(T.2 b f).trans e) j l m n p
  let(Y,e,c,dd):=id L;show{_,rfl,oS (s:={s with heap:=h'}) e c dd (by decide) {ks[i],H,M,O ▸ S,{rfl,ET hi},L,λb f=>(g b f).1}}
 done:=by
  intro X t B r D i pins s σ H E I g st x;subst t B r;let(q,hi):=x;have y:=(I.hok d _ q).1;have R:ks.length=a.size:=by rw[A.length,ES,FQ]
  let(j,l,Q,m,n,p):=g it (by simp);show yB (I.ok.hd D) st ⟨o,y,J,hd⟩ (by lia) λh' N=>{rfl,I.turned (t':=s.toks) (λb o f e=>N b o f e) j l m n p}
 self:=λ_ _ _ _ _ st h=>wpAny_pyIter_keyiter st h
section
variable{X:Cx}{tg:Expr}
def iDF(a:TE):TI:=λσ H R=>a σ H λv H1=>∃d o kvs,v=.ref d/\H1 d=some (.frz o<|.dK kvs)/\R (Itk d o (.dK kvs)<|kvs.map λp=>kV p.1) H1
theorem Dh{l:Expr}{n:TE}(z:PE X l n):PI X tg l (iDF n):=by
 intro pins s σ H R I h;show thn (z pins s σ H _ I h) λv s1 A=>?_;let(x,H1,a,f,D):=A;let(d,o,kvs,e,u,q):=D;subst e;cases f;let(j,_,B,vs,F,o',es,G,k,m,g,J,c,K):=a.hok d _ u;rw[j]at k;cases k;show pL B ⟨o,j,m,g⟩ ?_;show{s1.heap.objs.size,[s1.heap.objs.size],_,_,H1,rfl,a.kept (t':=s1.toks) λb o e=>EU _ e,mO m g ?_,{_,FG _ rfl,rfl,rfl},λb y=>?_,q}
 .have key:∀(es:List DictEntry)(vs:List<|Key×xx)(kvs:List<|Key×V),Pairs (aF X.prog X.w) es vs->KV kvs vs->aA (kvs.map λp=>kV p.1) (es.map (·.key)):=by
   intro es vs kvs c
   induction c generalizing kvs with
   |nil=>intro r;cases r;show .nil
   |cons h1 h2 _ C =>
    intro r;cases r with
    |cons f E =>
     show .cons ?_<|C _ E;dsimp only;rw[f.1];rcases aP h1 with⟨i,t,e1,e2⟩|⟨x,t,e1,e2⟩
     .rw[e1,e2];show⟨t,rfl⟩
     .rw[e1,e2];show⟨t,rfl⟩
  show key _ _ _ c F
 .have e:b=s1.heap.objs.size:=by simpa using y
  subst e;show a.fpOk (FH _)<|a.hok.fresh (FH _)
end
section
variable{X:Cx}
theorem sJ{P:qw}{w:qn}{f:List (Key×V)}{vs:List (Key×xx)}{b:Array xx}(h:KV f vs)(g:ItemsOf (λi v=>∃k x,vs[i]?=some (k,x)/\(aF P w).is k v=true) b vs.length):aA (f.map λp=>kV p.1) b.toList:=by
 let(h1,h2):=g;have c:b.toList.length=vs.length:=by simpa using h1
 have h3:∀(i:Nat)(v:xx),b.toList[i]?=some v->∃k x,vs[i]?=some (k,x)/\(aF P w).is k v=true:=λi v e=>h2 i v (by simpa using e);clear h1 h2;generalize b.toList=l at c h3
 induction h generalizing l with
 |nil =>
  cases l with
  |nil=>show .nil
  |cons a r=>simp at c
 |@cons p q f vs r _ ih =>
  cases l with
  |nil=>simp at c
  |cons a l =>
   show .cons ?_ (ih l (by simpa using c) λi v e=>by simpa using h3 (i+1) v (by simpa using e))
   let(k,x,e1,e2):=h3 0 a rfl;have e3:q=(k,x):=by simpa using e1
   change aI (kV p.1) a;rw[r.1,e3];rcases aP e2 with⟨i,t,e4,d⟩|⟨y,t,e4,d⟩
   .rw[e4,d];show⟨t,rfl⟩
   .rw[e4,d];show⟨t,rfl⟩
end
end L2
namespace HT
open PySem PyProof.Rows
def dI(x y:Str):Bool:=decide<|x.cps.toList<y.cps.toList
theorem yC{x y:Str}(h:x.cps.toList=y.cps.toList):x=y:=by
 obtain⟨x⟩:=x
 simp_all
theorem mQ(x:Str):dI x x=false:=FZ<|List.lt_irrefl _
theorem pN{x y z:Str}(a:dI x y=true)(b:dI y z=true):dI x z=true:=by
 unfold dI at *
 grind
theorem ut{x y:Str}(c:x≠y):dI x y=true\/dI y x=true:=by
 unfold dI;rw[FJ,FJ];rcases Decidable.em (x.cps.toList<y.cps.toList)with a|a
 .show .inl a
 .show .inr ?_;have d:y.cps.toList<=x.cps.toList:=List.not_lt.mp a;rcases Decidable.em (y.cps.toList<x.cps.toList)with b|b
  .show b
  .have e:x.cps.toList<=y.cps.toList:=List.not_lt.mp b;show absurd (yC<|List.le_antisymm e d) c
section
open PySem.SeqAt
open PySem.AutoSeq1 (wpAny_loadPart')
open PySem.MeetsSeq PySem.MeetsSeq2 PySem.MeetsSeq3
end
end HT
namespace L2
open PySem PySem.Spec PyProof.Rows
section
variable{X:Cx}
theorem wn{a b:Type}{l:List a}{f:a->b}{d:a}{e:b}{i:Nat}(c:i<l.length):(l.map f).getD i e=f (l.getD i d):=by
 rw[FA,FA,FE,ET c];rfl
theorem gO{a:Type}{zs:List a}{val:a->V}{d:a}:∀{us:List xx},aA (zs.map val) us->∀(ps:List Nat),(∀i∈ps,i<zs.length)->aA ((ps.map λi=>zs.getD i d).map val) (ps.map λi=>us.getD i Value.none):=by
 intro us g ps
 induction ps with
 |nil=>intro _;show .nil
 |cons i ps e =>
  intro h;show .cons ?_<|e λf b=>h f (by simp[b]);have hi:=h i (by simp);let(u,c,r):=g.get (i:=i) (x:=val<|zs.getD i d) (by rw[FE,(cb (d:=d) hi).2];rfl);have:us.getD i Value.none=u:=by rw[FA,c];rfl
  change aI (val<|zs.getD i d) (us.getD i Value.none);rw[this];show r
theorem pO{g:Type}{zs:List g}{val:g->V}{d:g}{us:List xx}{f:g->g->Bool}{l:zi}{y:List (zi×Obj)}{B:St}{k:Hp}{s:xg}{Q:VK}{κ:SortKind}{E:xx->xg->Prop}(u:Inv X y B k s)(z:aA (zs.map val) us)(D:SRT.Ord (λi j=>f (zs.getD i d)<|zs.getD j d) zs.length)(pl:s.heap.IsList l us.toArray)(G:zs.length<64)(L:∀(e:qd) (s':xg),e.units<=X.A.units+2->(∀b o,s.heap.get? b=some o->s'.heap.get? b=some o)->∀Q:SortKind->xg->Prop,2<=zs.length->Q κ s'->wpAny (model X.prog X.w) e (keyKind' us.toArray) Q (λ_ _=>False) s')(M:∀(e:qd) (s':xg),e.units<=X.A.units+2->(∀b o,s.heap.get? b=some o->s'.heap.get? b=some o)->∀(i j:Nat) (C:Bool->xg->Prop),i<zs.length->j<zs.length->C (f (zs.getD i d)<|zs.getD j d) s'->wpAny (model X.prog X.w) e (keyLt' κ (us.getD i Value.none)<|us.getD j Value.none) C (λ_ _=>False) s')(q:∀t:List g,t.Perm zs->t.Pairwise (λa b=>f a b=true)->∀p,k p=none->Q (.ref p) (upd k p<|.lst (t.map val))):wpAny (model X.prog X.w) X.A (call (.builtin "sorted") [.ref l]) (EP X y B Q) E s:=by
 have r:us.length=zs.length:=by rw[<-z.length,ES]
 show SRT.uh (κ:=κ) (f:=λi j=>f (zs.getD i d)<|zs.getD j d) (by rw[r];show D) pl (by rw[r];show G) (λe s' h1 h2 F h3=>L e s' h1 h2 F (by lia)) (λe s' h1 h2 i j C hi n=>M e s' h1 h2 i j C (by lia) (by lia)) ?_;intro p h' h x O _ m;let(c,m):=m;rw[r]at h x;have J:∀i∈p.toList,i<zs.length:=λi hi=>GC.mp<|h.perm.mem_iff.mp hi;have v:(p.toList.map λi=>zs.getD i d).Perm zs:=by
  show(h.perm.map _).trans ?_;have:(List.range zs.length).map (λi=>zs.getD i d)=zs:=by
   apply Gu;intro i;rw[FE]
   by_cases hi:i<zs.length
   .rw[getElem?_range hi,(cb (d:=d) hi).2];rfl
   .rw[Fo (by rw[GH];lia),Fo (by lia)];rfl
  rw[this]
 have P:p.size=zs.length:=h.size;have N:(p.toList.map λi=>zs.getD i d).Pairwise (λa b=>f a b=true):=by
  rw[GD];intro i j hi n I;have H:i<p.size:=by rw[ES,FQ]at hi;show hi
  have K:j<p.size:=by rw[ES,FQ]at n;show n
  have:=x i j I (by lia);simp only[]at this;rw[FF,FF,FK H,FK K]at this;simpa using this
 show{.ref<|s.heap.objs.size+1,_,u.laid (t':=s.toks) (o:=.lst<|(p.toList.map λi=>zs.getD i d).map val) O (le_succ _) {?_,_,c,gO z p.toList J,m},rfl,q _ v N _<|u.hok.fresh (le_succ _)};rw[ES,v.length_eq,sizeLine_eq];lia
theorem nZ{ns:List Int}{us:List xx}(r:aA (ns.map V.int) us):IntsAre us ns:=qO r
theorem jp:ca X (.builtin "sorted") (λxs H Q=>∃l,∃ns:List Int,xs=[.ref l]/\H l=some (.lst<|ns.map V.int)/\ns.Nodup/\ns.length<64 /\
  ∀o:List Int,o.Perm ns->o.Pairwise (λa b=>a<b)->∀p,H p=none->Q (.ref p) (upd H p<|.lst (o.map V.int))):=by
 intro pins s σ H xs S Q I r h;let(l,ns,rfl,F,G,z,q):=h;let(u,rfl,M):=cA r;cases M;let(_,m,n,g,J):=I.hok l _ F;have B:=nZ g;have P:m.length=ns.length:=by rw[<-g.length,ES]
 show pO (val:=V.int) (d:=(0:Int)) (f:=λa b=>decide<|a<b) (κ:=oneType') I g {λi _=>by simp,λi c k _ _ _ h1 h2=>?_,λi c hi j E=>?_} ⟨_,J,rfl,n,rfl⟩ z (λy s' _ _ O h2 D=>?_) (λy s' _ _ i c C hi j A=>?_) λN h1 h2 p K=>q N h1 (h2.imp λh=>by simpa using h) p K
 .simp only[FJ]at *;lia
 .simp only[FJ];have:ns.getD i 0≠ns.getD c 0:=by
   rw[FA,FA,ET hi,ET j];show λe=>E<|(Gr G).mp e
  lia
 .rw[ksk_kind (keys:=m.toArray) (kz:=ns) (by simpa using B) (by rw[FO];lia)];show Wp D
 .have w:∀i,i<ns.length->∃t,m.getD i Value.none=.int (ns.getD i 0) t:=λi hi=>by
   let(v,L,r):=g.get (i:=i) (x:=.int<|ns.getD i 0) (by rw[FE,(cb (d:=(0:Int)) hi).2];rfl);let(t,rfl):=r;show{t,by rw[FA,L];rfl}
  let(t,e1):=w i hi;let(R,e2):=w c j;rw[e1,e2];show kat_lt_int A
end
def iP(H:Hp):Nat->V->V->Prop
 |0,x,y=>x=y/\cI x=true
 |n+1,x,y=>(x=y/\cI x=true)\/∃a b xs ys,x=.ref a/\y=.ref b/\H a=some (.tup xs)/\H b=some (.tup ys)/\xs.length=ys.length/\∀(i:Nat) x' y',xs[i]?=some x'->ys[i]?=some y'->iP H n x' y'
theorem pP{x:V}(f:cI x=true):eqV x x=true:=by
 cases x<;>first|rfl|(simp[eqV];done) | (show absurd (show false=true from f) FL)
theorem im{H:Hp}{n:Nat}{x y:V}(h:x=y/\cI x=true):iP H n x y:=by
 cases n with
 |zero=>show h
 |succ n=>show .inl h
section
variable{X:Cx}{pins:List (zi×Obj)}{σ:St}{H:Hp}{s:xg}
theorem kX(k:Inv X pins σ H s):∀(n:Nat){A:qd}{x y:V}{u v:xx},aI x u->aI y v->iP H n x y->A.units+n<cLine->EqAt A s u v true:=by
 intro n
 induction n with
 |zero =>
  intro A x y u v i j h w;let(e,f):=h;subst e;have:=nO (A:=A) (s:=s) i j f f;rw[pP f]at this;show this
 |succ n F =>
  intro A x y u v i j h w;rcases h with⟨e,f⟩|⟨a,b,xs,ys,rfl,rfl,r,t,L,E⟩
  .subst e;have:=nO (A:=A) (s:=s) i j f f;rw[pP f]at this;show this
  .cases i;cases j
   by_cases o:a=b
   .subst o;show EqAt.same _
   .let(_,d,p,J):=k.hok a _ r;let(_,g,q,K):=k.hok b _ t;have G:=p.length;have I:=q.length;have:=SeqAt.RcAt.tuples (A:=A) (s:=s) (e:=λ_=>true) J K (by lia) (λc h1 h2=>by
     have l:c<xs.length:=by rw[G];simpa using h1
     have m:c<ys.length:=by rw[I];simpa using h2
     let(u',z,B):=p.get<|ET l;let(v',C,D):=q.get<|ET m;have e1:d.toArray[c]=u':=by
      have:d[c]?=some d.toArray[c]:=by rw[ET (by simpa using h1)];simp
      rw[z]at this;show(Option.some.inj this).symm
     have e2:g.toArray[c]=v':=by
      have:g[c]?=some g.toArray[c]:=by rw[ET (by simpa using h2)];simp
      rw[C]at this;show(Option.some.inj this).symm
     rw[e1,e2];show F B D (E c _ _ (ET l)<|ET m) (by simp[Around.in1_units];lia))
    have e3:((List.range<|min d.toArray.size g.toArray.size).all (λ_=>true)&&d.toArray.size==g.toArray.size)=true:=by
     have:d.toArray.size=g.toArray.size:=by simp only[FO];lia
     simp[this]
    rw[e3]at this;show EqAt.of_refs o this
def eW(H:Hp)(xs ys:List V):Prop:=xs.length=ys.length/\∀(i:Nat) x y,xs[i]?=some x->ys[i]?=some y->iP H 3 x y
theorem iQ{o:List (zi×Obj)}{p:St}{b:Hp}{s:xg}(g:Inv X o p b s){xs ys:List V}{us a:List xx}(e:aA xs us)(f:aA ys a)(h:eW b xs ys){A:qd}(i:A.units+3<cLine):
  ∀j (h1:j<us.toArray.size) (h2:j<a.toArray.size),EqAt A s us.toArray[j] a.toArray[j] true:=λj h1 h2=>by
 have c:j<xs.length:=by rw[e.length];simpa using h1
 have d:j<ys.length:=by rw[f.length];simpa using h2
 let(u',k,l):=e.get<|ET c;let(v',m,n):=f.get<|ET d;have e1:us.toArray[j]=u':=by
  have:us[j]?=some us.toArray[j]:=by rw[ET (by simpa using h1)];simp
  rw[k]at this;show(Option.some.inj this).symm
 have e2:a.toArray[j]=v':=by
  have:a[j]?=some a.toArray[j]:=by rw[ET (by simpa using h2)];simp
  rw[m]at this;show(Option.some.inj this).symm
 rw[e1,e2];show kX g 3 l n (h.2 j _ _ (ET c)<|ET d) i
theorem qX(D:X.A.units+4<cLine):OpR X (compareOp .NotEq) (λx y H Q=>rNe x y H Q\/(∃a b xs ys,x=.ref a/\y=.ref b/\eW H xs ys/\((H a=some (.lst xs)/\H b=some (.lst ys))\/(H a=some (.tup xs)/\H b=some (.tup ys)))/\Q (.bl false) H)):=by
 intro pins s σ H x y v u Q I j k h;rcases h with h|⟨a,b,xs,ys,rfl,rfl,f,h,q⟩
 .show dS pins s σ H x y v u Q I j k h
 .cases j;cases k;rcases h with⟨g,i⟩|⟨g,i⟩
  .let(_,l,r,c,w):=I.hok a _ g;let(_,m,t,d,z):=I.hok b _ i;have n:=f.1;have o:=c.length;have p:=d.length;show RcNeAt.lists (e:=λ_=>true) ⟨_,w,rfl,r,rfl⟩ ⟨_,z,rfl,t,rfl⟩ (by simp only[FO];lia) (by lia) (iQ I c d f (by simp[Around.in1_units];lia)) _ _ _ _ {.bl false,H,I,?_,q};change _=Value.bool false;simp
  .let(_,l,c,B):=I.hok a _ g;let(_,m,d,C):=I.hok b _ i;have n:=f.1;have o:=c.length;have p:=d.length;show RcNeAt.tuples (e:=λ_=>true) B C (by lia) (iQ I c d f (by simp[Around.in1_units];lia)) _ _ _ _ {.bl false,H,I,?_,q};change _=Value.bool false;have:l.toArray.size=m.toArray.size:=by simp only[FO];lia
   simp[this]
theorem zW{A:qd}{s:xg}{bs:List Bool}:∀y,y∈(bs.map Value.bool).toArray->EqAt A s y (.bool true) (y==.bool true):=λy a=>by
 have c:y∈bs.map Value.bool:=by simpa using a
 let(b,_,rfl):=EZ.mp c;have:=EqAt.bool_bool (A:=A) (s:=s) b true;cases b<;>show this
theorem wo:MtM X "list.count" (λx vs H Q=>∃l,∃bs:List Bool,x=.ref l/\vs=[.bl true]/\H l=some (.lst<|bs.map V.bl)/\Q (.int (bs.count true:Nat)) H):=by
 intro pins s σ H x vs v j Q I g f h;let(l,bs,rfl,rfl,c,q):=h;cases g;let(u,rfl,d):=cA f;cases (show u=Value.bool true from d);let(_,i,n,r,a):=I.hok l _ c;have e:=jV r;subst e;show call_meets PySem.F.slot_list_count ⟨_,a,rfl⟩ PySem.F.entry_list_count (PySem.F.args_list_count_2 _ _) (SeqAt.list_countAt l _ n none #[] (.bool true) (λy=>y==.bool true)) {a,zW,{.int (bs.count true:Nat),H,I.tok _,?_,q}};have:((bs.map Value.bool).toArray.toList.countP λy=>y==.bool true)=bs.count true:=by
  rw[List.count];simp only[List.countP_map]
  congr 1
  funext b
  cases b<;>rfl
 rw[this];show{_,rfl}
theorem wp:MtM X "list.index" (λx vs H Q=>∃l j,∃bs:List Bool,x=.ref l/\vs=[.bl true]/\H l=some (.lst<|bs.map V.bl)/\bs.length<=1000/\bs[j]?=some true/\(∀m,m<j->bs[m]?=some false)/\Q (.int (j:Nat)) H):=by
 intro pins s σ H x vs v z Q I o k h;let(l,j,bs,rfl,rfl,d,t,a,f,q):=h;cases o;let(u,rfl,i):=cA k;cases (show u=Value.bool true from i);let(_,w,n,r,b):=I.hok l _ d;have e:=jV r;subst e;have c:j<bs.length:=(FV.mp a).1;show call_meets PySem.F.slot_list_index ⟨_,b,rfl⟩ PySem.F.entry_list_index (PySem.F.args_list_index_2 _ _) (SeqAt.list_indexAt l _ n none #[] (.bool true) (λy=>y==.bool true) j (by simpa using c) (by lia) ?_ ?_) {b,zW,{.int (j:Nat),H,I.tok _,⟨_,rfl⟩,q}}
 .have:=(FV.mp a).2;simp[this]
 .intro m p g;have:=(FV.mp<|f m g).2;simp[this]
theorem bf:ca X (.builtin "isinstance") (λxs H Q=>∃ea C c b,xs=[.ref ea,c]/\H ea=some (.ext<|XI.pI ea C)/\XI.fR X.K C=true/\((∃n,c=.ty n/\kitOne X.K (.ref C) (.type n)=some b)\/(∃a,c=.ref a/\kitOne X.K (.ref C) (.ref a)=some b))/\Q (.bl b) H):=by
 intro pins s σ H xs m Q I r h;let(ea,C,c,b,rfl,j,f,k,q):=h;let(u,i,rfl,l,g):=si r;cases l;let(d,_,_):=I.hok ea _ j;rcases k with⟨n,rfl,e⟩|⟨a,rfl,e⟩
 .cases (show i=Value.type n from g);show kia_one (XI.pJ f) I.kIn d e (λz=>nomatch z) λtk=>⟨.bl b,H,I.tok tk,rfl,q⟩
 .cases (show i=Value.ref a from g);show kia_one (XI.pJ f) I.kIn d e (λz=>nomatch z) λtk=>⟨.bl b,H,I.tok tk,rfl,q⟩
end
def Ext(p:zi)(H H':Hp):Prop:=∀b o,b≠p->H b=some o->H' b=some o
theorem Ext.of{p:zi}{H H':Hp}(s:Same H H'):Ext p H H':=λb o _ e=>s b o e
theorem Ext.upd{p:zi}{a:Hp}{o:HO}:Ext p a (upd a p o):=λb u c e=>by rw[aj c];show e
theorem Ext.trans{p:zi}{d f H2:Hp}(a:Ext p d f)(b:Ext p f H2):Ext p d H2:=λc o g e=>b c o g<|a c o g e
def Di(b:TE):Prop:=∀σ H (Q a:VK),(∀y H,Q y H->a y H)->b σ H Q->b σ H a
theorem qY{js:List Nat}{J:It}{g:TE}{u:St}{a:Hp}{Q:VK}{p:zi}{fr:List (Option V)}(n:Nat)(G:n<=1000)(s:a p=none)(C:dC 1 js u=none::fr)(R:Nat->V->Hp->Prop)(l:∀i y H H',R i y H->Ext p H H'->R i y H')(go:∀i H',i<n->Same a H'->J.go i H')(stop:∀H',Same a H'->J.stop n H')(t:Di g)(step:∀i H' x H2,i<n->Same a H'->(∃ys,H' p=some (.lst ys))->J.yld i H' x H2->H2=H'/\g (some x::fr) H' λy d=>Same H' d/\R i y d)(A:∀ys H',Same a H'->H' p=some (.lst ys)->ys.length=n->(∀(j:Nat) y,ys[j]?=some y->R j y H')->Q (.ref p) H'):LcW 1 js (dk 0) g u Q J a p:=by
 show pF (k:=1) (js:=js) (J:=J) (p:=p) n G (λi ys c H'=>(∃o,c=o::fr)/\Same a H'/\H' p=some (.lst ys)/\ys.length=i/\∀(j:Nat) y,ys[j]?=some y->R j y H') {⟨none,C⟩,ae s,ac,rfl,λj y h=>by simp at h}
  (λi ys c H' h=>by have:=h.2.2.2.1;lia) (λi ys c H' hi h=>go i H' hi h.2.1) (λys c H' h=>⟨stop H' h.2.1,A ys H' h.2.1 h.2.2.1 h.2.2.2.1 h.2.2.2.2⟩) (λi ys c H' hi h x H2 L=>?_) ?_ t
 .let((o,rfl),s1,r,F,I):=h;let(rfl,K):=step i H' x H2 hi s1 ⟨ys,r⟩ L;show t _ _ _ _ (λy d B=>?_) K;let(f,M):=B;show{f _ _ r,⟨some x,rfl⟩,aJ s<|s1.trans f,ac,by rw[FI,F];rfl,λj z b=>?_};have ex:Ext p H2 (upd d p<|.lst (ys++[y])):=(Ext.of f).trans Ext.upd
  by_cases D:j<ys.length
  .rw[Fy D]at b;show l _ _ _ _ (I j z b) ex
  .rw[GA (by lia)]at b;have E:j-ys.length=0:=by
    cases e:j-ys.length with
    |zero=>rfl
    |succ m=>rw[e]at b;simp at b
   rw[E]at b;have w:y=z:=by simpa using b
   subst w;have v:j=i:=by lia
   subst v;show l _ _ _ _ M Ext.upd
 .intro _ _ _ _ _ m q;show m _ _ q
theorem dJ{a:Hp}{p q:zi}(b:∃ys,a p=some (.lst ys))(c:a q=none):q≠p:=λe=>by
 let(ys,h):=b;rw[<-e,c]at h;cases h
section
variable{X:Cx}{N:List Str}{scope:Scope}{cl:List (Str×zi)}{k:Nat}{js:List Nat}
theorem uu{d c iter:Expr}{oc:Option Expr}{pos w f:Pos}{y:Str}{ii:Nat}{D:TI}{g:TG}{B:TT}{C:TE}{r:St->VK->It->Hp->zi->Prop}(S:∀{σ Q} J H1 p,r σ Q J H1 p->uc k js g B C σ Q J H1 p)(U:X.N.Nodup)(a3:X.N[ii]?=some y)(b6:Loc X.env.scope y)(Y:X.calm=true)(L:LcOk X scope cl)(T:N.length=k+js.length)(a4:∀(i j:Nat) x,js[i]?=some j->N[k+i]?=some x->X.N[j]?=some x/\Vis X.env.scope x/\X.env.scope.names.lookup x≠some .local/\((relabel scope X.env).names.lookup x=some .cell\/(relabel scope X.env).names.lookup x=some .free))(a2:PI X c iter D)(a1:∀s H fp,PG (cx X N scope cl s H fp) c g)(b5:∀s H fp,ocT (cx X N scope cl s H fp) oc B)(Z:∀s H fp,PE (cx X N scope cl s H fp) d C)(a7:∀x,foldedSetIterable iter X.env x=pure x)(a9:swapsWith (.ListComp d [⟨c,iter,oc.toList,0⟩] scope pos) (some<|.Name y f) w.line X.env=pure true)(a0:X.fn y=true\/X.env.scope.names.lookup y=some .local):PS X (.Assign [.Name y f] (.ListComp d [⟨c,iter,oc.toList,0⟩] scope pos) w) (uY (λσ H Q=>D σ H λJ H1=>∀p,H1 p=none->r σ Q J H1 p)<|dk ii):=by
 intro pins s σ H F I h;rw[exec_Assign_Name_used _ _ _ _ a9];show Wb<|wpAny_standAt (Wb ?_);change wpAny _ X.A (do let _ <- comprehension (.ListComp d [⟨c,iter,oc.toList,0⟩] scope pos) scope X.env _ (newList []) false (eval iter X.env) (some<|assign (.Name y f) X.env)) _ _ s
 show Wb<|wpAny_mono (sw (Qc:=λ_ s'=>∃E H',Inv X pins E H' s'/\F.nx E H') Y L T a4 a2 a1 b5 Z a7 S I h λ{b8 s4 c1 l c3 fp p} q O n b7=>?_) (λ_ s' a6=>Wp<|Wp a6) λ_ _ e=>e;let(m,a5,_):=n.loc;have G:Inv X pins σ l s4:=vK q O n<|SameBut.refl _ _;let(M,t,c2,P,u,R):=q.fpOk (b:=b8.heap.objs.size) (FH _) (H':=l) n.free;change wpAny _ _ (assign (.Name y f) X.env<|.ref p) _ _ _;show wpAny_assign_Name<|md G U a3 b6 (v:=.ref p) rfl (λb9 K ⟨a,c0,V⟩=>{m,a5.sameBut c0 ?_,λh' a8=>{_,l,K.turned (t':=b9.toks) (λb o W e=>(a8.2 b W).trans e) M t P u R,b7}}) a0;rcases V with e|e
 .rw[e];show t
 .show λz=>u _ _ e z.symm
theorem wq{b a iter:Expr}{pos d c:Pos}{y:Str}{ii:Nat}{f:TI}{g:TG}{e:TE}(n:X.N.Nodup)(u:X.N[ii]?=some y)(A:Loc X.env.scope y)(o:X.calm=true)(l:LcOk X scope cl)(m:N.length=k+js.length)(v:∀(i j:Nat) x,js[i]?=some j->N[k+i]?=some x->X.N[j]?=some x/\Vis X.env.scope x/\X.env.scope.names.lookup x≠some .local/\((relabel scope X.env).names.lookup x=some .cell\/(relabel scope X.env).names.lookup x=some .free))(t:PI X a iter f)(r:∀s H fp,PG (cx X N scope cl s H fp) a g)(p:∀s H fp,PE (cx X N scope cl s H fp) b e)(w:∀x,foldedSetIterable iter X.env x=pure x:=by intro _;rfl)(z:swapsWith (.ListComp b [{a,iter,[],0}] scope pos) (some<|.Name y c) d.line X.env=pure true:=by rfl)(q:X.fn y=true\/X.env.scope.names.lookup y=some .local:=by first|show .inl rfl|show .inr rfl|assumption):PS X (.Assign [.Name y c] (.ListComp b [{a,iter,[],0}] scope pos) d) (uY (tLc k js f g e)<|dk ii):=uu (oc:=none) sx n u A o l m v t r (λ_ _ _ _ _ _ h=>h) p w z q
end
abbrev TJ:=St->Hp->(Hp->Prop)->Prop
section
variable{X:Cx}{tg:Expr}
def PJ(X:Cx)(ps:List Expr)(b:Nat)(t:TJ):Prop :=
 ∀(a:Str)(pins:List<|zi×Obj)(s:xg)(σ:St)(H:Hp)(Q:VK),Inv X pins σ H s->a.length+b<=1000->(t σ H λH1=>∀y,Q (.str y) H1)->wpAny (model X.prog X.w) X.A (joinParts a<|evalEach ps X.env) (EP X pins σ Q) X.xe s
theorem jq:PJ X [] 0 (λσ H k=>k H):=by
 intro b pins s σ H Q I a h;show joinParts_nilE<|joinParts_nil ⟨.str _,H,I.tok _,⟨_,rfl⟩,h _⟩ (Fu<|aw (by lia))
theorem dw{x:Str}{c b:Nat}{j:Nat}{p:Pos}{ps:List Expr}{t:TJ}(h:x.length<=c)(d:PJ X ps b t):PJ X (.Constant (.str x) j p::ps) (c+b) t:=by
 intro a pins s σ H Q I f e;show joinParts_cons<|Constant_str ?_;have g:(a++x).length=a.length+x.length:=strLen_append ..;show{Fu<|aw (by lia),d _ pins _ σ H Q (I.tok _) (by lia) e}
theorem jr{e:Expr}{c:TE}{b:Nat}{p:Pos}{ps:List Expr}{t:TJ}(h:PE X e c)(f:PJ X ps b t):PJ X (.FormattedValue e (-1) none p::ps) (100+b) (λσ H k=>c σ H λv H1=>∃i:Int,v=.int i/\0<=i/\i<=60/\t σ H1 k):=by
 intro a pins s σ H Q I o l;show joinParts_cons<|FormattedValue_plain (thn (h pins _ σ H _ I l) λv s1 j=>?_);let(y,H1,d,n,m):=j;let(i,rfl,g,h1,q):=m;let(tk,rfl):=n;have h2:=kS i g h1;have r:(a++ofString (toString i)).length=a.length+(ofString<|toString i).length:=strLen_append ..;show formatField_int_small (GU (Nat.log2_le_self _) (by lia)) {Fu<|aw (by lia),?_};show f _ pins _ σ H1 Q (d.tok _) (by lia) q
theorem AU{e:Expr}{c:TE}{b:Nat}{p:Pos}{ps:List Expr}{t:TJ}(g:PE X e c)(f:PJ X ps b t):PJ X (.FormattedValue e (-1) none p::ps) (100+b) (λσ H k=>c σ H λv H1=>∃x:Str,v=.str x/\x.length<=100/\t σ H1 k):=by
 intro a pins s σ H Q I m i;show joinParts_cons<|FormattedValue_plain (thn (g pins _ σ H _ I i) λv s1 h=>?_);let(y,H1,d,l,j):=h;let(x,rfl,h2,q):=j;let(tk,rfl):=l;have n:(a++x).length=a.length+x.length:=strLen_append ..;show formatField_str (λo tk=>{Fu<|aw (by lia),?_})<|Fu (aw (by lia));show f _ pins _ σ H1 Q (d.tok _) (by lia) q
def Dj(t:TJ):TE:=λσ H Q=>t σ H λH1=>∀y,Q (.str y) H1
theorem gP{a c:Expr}{ps:List Expr}{pos:Pos}{b:Nat}{t:TJ}(d:PJ X (a::c::ps) b t)(f:b<=1000):PE X (.JoinedStr (a::c::ps) pos) (Dj t):=by
 intro pins s σ H Q I e;show JoinedStr_many<|d empty pins s σ H Q I (by change 0+b<=1000;lia) e
theorem Dk{E:XK}(L:Lv X E):PassesOwn (model X.prog X.w) X.A X.env X.xe:=by
 rw[L.xe];show PassesOwn.leaving
def iDK(a:TE):TI:=λσ H R=>a σ H λv H1=>∃d kvs,v=.ref d/\H1 d=some (.dK kvs)/\∀o,R (Itk d o (.dK kvs)<|kvs.map λp=>kV p.1)<|upd H1 d (.frz o<|.dK kvs)
theorem zX{l:Expr}{z:TE}(D:PE X l z):PI X tg l (iDK z):=by
 intro pins s σ H R I h;show thn (D pins s σ H _ I h) λv s1 F=>?_;let(x,H1,m,k,K):=F;let(d,kvs,e,n,q):=K;subst e;cases k;let(G,u,vs,y,o,es,A,a,j,g,C,c,E):=m.hok d _ n;have f:Inv X pins σ (upd H1 d<|.frz o (.dK kvs)) s1:=m.write (t':=s1.toks) (x:=d) (e:=d) (by rw[n];trivial) (.inl rfl) (λ_ _ _ q=>q) ⟨o,a⟩ ⟨a,G,u,vs,y,o,es,A,a,j,g,C,c,E⟩;show pL u ⟨o,a,j,g⟩ ?_;show{s1.heap.objs.size,[s1.heap.objs.size],_,_,upd H1 d<|.frz o (.dK kvs),rfl,f.kept (t':=s1.toks) λb o e=>EU _ e,mO j g ?_,{_,FG _ rfl,rfl,rfl},λb B=>?_,q o}
 .have key:∀(es:List DictEntry)(vs:List<|Key×xx)(kvs:List<|Key×V),Pairs (aF X.prog X.w) es vs->KV kvs vs->aA (kvs.map λp=>kV p.1) (es.map (·.key)):=by
   intro es vs kvs c
   induction c generalizing kvs with
   |nil=>intro r;cases r;show .nil
   |cons h1 h2 _ J =>
    intro r;cases r with
    |cons k L =>
     show .cons ?_<|J _ L;dsimp only;rw[k.1];rcases aP h1 with⟨i,t,e1,e2⟩|⟨x,t,e1,e2⟩
     .rw[e1,e2];show⟨t,rfl⟩
     .rw[e1,e2];show⟨t,rfl⟩
  show key _ _ _ c y
 .have e:b=s1.heap.objs.size:=by simpa using B
  subst e;show f.fpOk (FH _)<|f.hok.fresh (FH _)
theorem qZ(n:X.A.units+1<cLine):OpR X (compareOp .In) (λx y H Q=>∃a p ks,∃d:List<|zi×List Key,x=.ref a/\H a=some (.tup<|ks.map kV)/\y=.ref p/\SqL X.K H p ((d.map (·.1)).map V.ref) /\
  (∀z∈d,H z.1=some (.tup<|z.2.map kV))/\Q (.bl<|d.any λz=>decide<|z.2=ks) H):=by
 intro pins s σ H x y v u Q I B C h;let(a,p,ks,d,rfl,k,rfl,m,i,q):=h;cases B;cases C;let(G,t,pl,F):=I.list m;have e:=dc t;subst e
 let e:xx->Bool:=λv=>match v with | .ref b=>((d.find? λz=>z.1==b).map λz=>decide<|z.2=ks).getD false | _=>false
 have g:∀z∈d,e (.ref z.1)=decide (z.2=ks):=λz c=>by
  change((d.find? λy=>y.1==z.1).map λz=>decide<|z.2=ks).getD false=_;cases f:d.find? λy=>y.1==z.1 with
  |none=>have:=find?_eq_none.mp f z c;simp at this
  |some y =>
   have h1:=find?_some f;have h2:=List.mem_of_find?_eq_some f;have e1:y.1=z.1:=by simpa using h1
   have e2:=i y h2;rw[e1,i z c]at e2;have e3:z.2.map kV=y.2.map kV:=by injection (Option.some.inj e2)
   rw[nR e3];rfl
 show in_listAt e pl.isList (λy o=>?_) {.bl _,H,I,rfl,?_}
 .have r:y∈(d.map (·.1)).map Value.ref:=by simpa using o
  let(b,l,rfl):=EZ.mp r;let(z,c,rfl):=EZ.mp l;rw[g z c];intro prog w D E j;show wpAny_eqBool_tuple (knd:=aF prog w) (by simp;show n) (vW I (i z c) prog w) (vW I k prog w) j
 .have e1:(((d.map (·.1)).map Value.ref).toArray.any e)=d.any λz=>decide (z.2=ks):=by
   rw[List.any_toArray,any_map,any_map];apply Fp.mpr;rw[GK,GK];constructor
   .rintro⟨z,c,h1⟩;show{z,c,by rw[<-g z c];show h1}
   .rintro⟨z,c,h1⟩;show{z,c,by change e (.ref z.1)=true;rw[g z c];show h1}
  rw[e1];show q
theorem wt(D:X.A.units+4<cLine):OpR X (compareOp .Eq) (λx y H Q=>rEq x y H Q\/(∃a b xs ys,x=.ref a/\y=.ref b/\eW H xs ys/\((H a=some (.lst xs)/\H b=some (.lst ys))\/(H a=some (.tup xs)/\H b=some (.tup ys)))/\Q (.bl true) H)):=by
 intro pins s σ H x y v u Q I j k h;rcases h with h|⟨a,b,xs,ys,rfl,rfl,f,h,q⟩
 .show cu pins s σ H x y v u Q I j k h
 .cases j;cases k;rcases h with⟨g,i⟩|⟨g,i⟩
  .let(_,l,r,c,w):=I.hok a _ g;let(_,m,t,d,z):=I.hok b _ i;have n:=f.1;have o:=c.length;have p:=d.length;show eq_listAt (e:=λ_=>true) ⟨_,w,rfl,r,rfl⟩ ⟨_,z,rfl,t,rfl⟩ (by simp only[FO];lia) (by lia) (iQ I c d f (by simp[Around.in1_units];lia)) {.bl true,H,I,?_,q};change _=Value.bool true;simp
  .let(_,l,c,B):=I.hok a _ g;let(_,m,d,C):=I.hok b _ i;have n:=f.1;have o:=c.length;have p:=d.length;show SeqAt.eq_tupleAt (e:=λ_=>true) B C (by lia) (iQ I c d f (by simp[Around.in1_units];lia)) {.bl true,H,I,?_,q};change _=Value.bool true;have:l.toArray.size=m.toArray.size:=by simp only[FO];lia
   simp[this]
end
theorem Same.seqT{K:Frag}{H H':Hp}{a:zi}{xs:List V}(e:Same H H')(h:SqT K H a xs):SqT K H' a xs:=by
 rcases h with (h|⟨o,h⟩)|h
 .show .inl<|.inl (e _ _ h)
 .show .inl<|.inr ⟨o,e _ _ h⟩
 .show .inr h
structure Src(J:It)(H1:Hp)(xs:List V):Prop where
 go:∀i H',i<xs.length->Same H1 H'->J.go i H'
 stop:∀H',Same H1 H'->J.stop xs.length H'
 yl:∀i H' x H2,i<xs.length->Same H1 H'->J.yld i H' x H2->H2=H'/\xs[i]?=some x
theorem gQ{K:Frag}{a:zi}{xs:List V}{c:Hp}(b:SqT K c a xs):Src (Itt K a) c xs :=
 {λi H' hi s=>{xs,xs[i],s.seqT b,ET hi},λH' s=>⟨xs,s.seqT b,FH _⟩,λi H' x H2 _ s ⟨e,y⟩=>{e,y xs (by subst e;show s.seqT b)}}
theorem gR{K:Frag}{a:zi}{xs:List V}{c:Hp}(b:SqL K c a xs):Src (Itl K a) c xs :=
 {λi H' hi s=>{xs,xs[i],s.seq b,ET hi},λH' s=>⟨xs,s.seq b,FH _⟩,λi H' x H2 _ s ⟨e,y⟩=>{e,y xs (by subst e;show s.seq b)}}
theorem kY{d:zi}{o:Obj}{u:HO}{ks:List V}{a:Hp}(b:a d=some (.frz o u)):Src (Itk d o u ks) a ks :=
 {λi H' hi s=>⟨s _ _ b,hi⟩,λH' s=>⟨s _ _ b,FH _⟩,λi H' x H2 _ s ⟨e,y⟩=>⟨e,y⟩}
theorem Paired.snoc{c d:Type}{R:c->d->Prop}:∀{e:List c}{bs:List d}{a:c}{b:d},Paired R e bs->R a b->Paired R (e++[a]) (bs++[b])
 |_,_,_,_,.nil,h=>.cons h .nil
 |_,_,_,_,.cons r t,h=>.cons r<|Paired.snoc t h
theorem jt{j:Type}{js:List Nat}{J:It}{G:TT}{I:TE}{K:St}{f:Hp}{Q:VK}{p:zi}{fr:List (Option V)}(zs:List j)(val:j->V)(T:zs.length<=1000)(E:f p=none)(S:Src J f<|zs.map val)(O:dC 1 js K=none::fr)(g:j->Bool)(R:j->V->Hp->Prop)(C:∀z y H H',R z y H->Ext p H H'->R z y H')(cond:∀z H' (k:Bool->Hp->Prop),z∈zs->Same f H'->(∃ys,H' p=some (.lst ys))->(∀c,Same H' c->k (g z) c)->G (some (val z)::fr) H' k)(M:∀z H' (k:VK),z∈zs->g z=true->Same f H'->(∃ys,H' p=some (.lst ys))->(∀y c,Same H' c->R z y c->k y c)->I (some (val z)::fr) H' k)(N:∀ys H',Same f H'->H' p=some (.lst ys)->Paired (λz y=>R z y H') (zs.filter g) ys->Q (.ref p) H'):uc 1 js (dk 0) G I K Q J f p:=by
 have B:∀{l:List j}{ys:List V}{H H':Hp},Ext p H H'->Paired (λz y=>R z y H) l ys->Paired (λz y=>R z y H') l ys:=λex r=>Paired.mapP r λa b h=>C a b _ _ h ex;have P:∀{l:List j}{ys:List V}{H:Hp},Paired (λz y=>R z y H) l ys->ys.length=l.length:=λr=>(Paired.length r).symm;show{λi m ys L H'=>m=zs.length-i/\i<=zs.length/\(∃o,L=o::fr)/\Same f H'/\H' p=some (.lst ys)/\Paired (λz y=>R z y H') ((zs.take i).filter g) ys,⟨zs.length,by simp,Fz _,⟨none,O⟩,ae E,ac,.nil⟩,?_};rintro i m ys L H' ⟨rfl,hi,⟨o,rfl⟩,s1,n,q⟩
 by_cases t:i<zs.length
 .have D:i<(zs.map val).length:=by rw[ES];show t
  show .inr {S.go i H' D s1,?_,λx H2 U=>?_}
  .have h1:ys.length<=zs.length:=by
    rw[P q];show GS (length_filter_le _ _) (by rw[Fx];lia)
   show GU h1<|aw T
  .let(rfl,F):=S.yl i H' x H2 D s1 U;have s:zs[i]?=some zs[i]:=ET t;have w:=FP s;rw[FE,s]at F;have ex:val zs[i]=x:=Option.some.inj F;have u:zs.take (i+1)=zs.take i++[zs[i]]:=cB s;subst ex;generalize zs[i]=z at s w u|-;show cond z H2 _ w s1 ⟨ys,n⟩ λc d=>?_;cases v:g z with
   |true =>
    rw[EW rfl];show M z c _ w v (s1.trans d) ⟨ys,d _ _ n⟩ λy X A W=>{A _ _<|d _ _ n,zs.length-(i+1),by lia,rfl,t,⟨_,rfl⟩,aJ E<|(s1.trans d).trans A,ac,?_};rw[u,List.filter_append,GX v];show Paired.snoc (B ((Ext.of<|d.trans A).trans Ext.upd) q)<|C _ _ _ _ W Ext.upd
   |false =>
    rw[EV (by simp)];show{zs.length-(i+1),by lia,rfl,t,⟨_,rfl⟩,s1.trans d,d _ _ n,?_};rw[u,List.filter_append,Gh (by simp[v]),List.filter_nil,Gs];show B (Ext.of d) q
 .have e:i=zs.length:=by lia
  subst e;have st:=S.stop H' s1;rw[ES]at st;show .inl {st,N ys H' s1 n ?_};rw[Gm]at q;show q
theorem dZ{f:Type}{js:List Nat}{J:It}{C:TE}{D:St}{c:Hp}{Q:VK}{p:zi}{fr:List (Option V)}(zs:List f)(val:f->V)(M:zs.length<=1000)(w:c p=none)(S:Src J c<|zs.map val)(K:dC 1 js D=none::fr)(R:f->V->Hp->Prop)(u:∀z y H H',R z y H->Ext p H H'->R z y H')(F:∀z H' (k:VK),z∈zs->Same c H'->(∃ys,H' p=some (.lst ys))->(∀y l,Same H' l->R z y l->k y l)->C (some (val z)::fr) H' k)(G:∀ys H',Same c H'->H' p=some (.lst ys)->Paired (λz y=>R z y H') zs ys->Q (.ref p) H'):LcW 1 js (dk 0) C D Q J c p:=by
 have I:∀{d:List f}{ys:List V}{H H':Hp},Ext p H H'->Paired (λz y=>R z y H) d ys->Paired (λz y=>R z y H') d ys:=λex r=>Paired.mapP r λa b h=>u a b _ _ h ex;have L:∀{d:List f}{ys:List V}{H:Hp},Paired (λz y=>R z y H) d ys->ys.length=d.length:=λr=>(Paired.length r).symm;show{λi m ys E H'=>m=zs.length-i/\i<=zs.length/\(∃o,E=o::fr)/\Same c H'/\H' p=some (.lst ys)/\Paired (λz y=>R z y H') (zs.take i) ys,⟨zs.length,by simp,Fz _,⟨none,K⟩,ae w,ac,.nil⟩,?_};rintro i m ys E H' ⟨rfl,hi,⟨o,rfl⟩,s1,n,j⟩
 by_cases q:i<zs.length
 .have v:i<(zs.map val).length:=by rw[ES];show q
  show .inr {S.go i H' v s1,?_,λx H2 N=>?_}
  .have h1:ys.length<=zs.length:=by
    rw[L j,Fx];lia
   show GU h1<|aw M
  .let(rfl,A):=S.yl i H' x H2 v s1 N;have g:zs[i]?=some zs[i]:=ET q;have B:=FP g;rw[FE,g]at A;have ex:val zs[i]=x:=Option.some.inj A;have t:zs.take (i+1)=zs.take i++[zs[i]]:=cB g;subst ex;generalize zs[i]=z at g B t|-;show F z H2 _ B s1 ⟨ys,n⟩ λy P s O=>{s _ _ n,zs.length-(i+1),by lia,rfl,q,⟨_,rfl⟩,aJ w<|s1.trans s,ac,?_};rw[t];show Paired.snoc (I ((Ext.of s).trans Ext.upd) j)<|u _ _ _ _ O Ext.upd
 .have e:i=zs.length:=by lia
  subst e;have st:=S.stop H' s1;rw[ES]at st;show .inl {st,G ys H' s1 n ?_};rw[Gm]at j;show j
theorem dE{c g:Type}{R:c->V->Prop}{val:g->V}{S:c->g->Prop}{zs:List c}{ys:List V}(i:Paired R zs ys)(f:∀z y,z∈zs->R z y->∃b,y=val b/\S z b):
  ∃bs:List<|c×g,bs.map (·.1)=zs/\ys=bs.map (λx=>val x.2)/\∀x∈bs,S x.1 x.2:=by
 induction i with
 |nil=>show{[],rfl,rfl,by simp}
 |@cons a y as bs r _ ih =>
  let(h,e1,e2,e3):=ih λz y j=>f z y (by simp[j]);let(b,e,s):=f _ _ (by simp) r;show{(a,b)::h,by rw[Fi,e1],by rw[Fi,<-e2,e],λx d=>?_};rcases FU.mp d with rfl|d
  .show s
  .show e3 x d
theorem cn{a:Type}{R:a->V->Prop}{f:a->V}{zs:List a}{ys:List V}(c:Paired R zs ys)(b:∀z y,z∈zs->R z y->y=f z):ys=zs.map f:=by
 induction c with
 |nil=>rfl
 |cons r _ e=>rw[Fi,<-e λz y d=>b z y (by simp[d]),b _ _ (by simp) r]
theorem yD(p:Int)(a:List Int):inV (.int p) (a.map V.int)=decide (p∈a):=by
 unfold inV;rw[any_map,Fp,GK,FJ];constructor
 .rintro⟨x,b,e⟩;have:x=p:=by simpa [eqV]using e
  rw[<-this];show b
 .intro h;show{p,h,by simp[eqV]}
theorem uv(a:List Int):(a.map V.int).all cI=true:=by
 rw[all_map,Gj];intro x _;rfl
theorem Dl{X:Cx}:cG (CX1 X.prog X.w) X E0:=λ_ _ _ _ _ _ _ ⟨_,_,_,_,_,h⟩=>h.elim
theorem Inv.thaw{X:Cx}{l:List (zi×Obj)}{t:St}{f:Hp}{s:xg}{d:zi}{o:Obj}{k:List (Key×V)}(a:Inv X l t f s)(j:f d=some (.frz o<|.dK k))(v:X.H₀ d=none):Inv X l t (upd f d<|.dK k) s:=by
 have h:∀b u,f b=some u->(∀o' B,u≠.frz o' B)->b≠d:=λb u e w z=>by
  subst z;rw[j]at e;cases e;show w _ _ rfl
 have i:∀b,f b=none->b≠d:=λb e z=>by
  subst z;rw[j]at e;cases e
 show{a.ok,a.os,a.bare,{a.base.keep,a.base.slot,λb o e n A=>?_,a.base.there,λb xs e=>?_,λb o' u e=>?_,λb ps e=>?_},a.loc,a.cell,?_,λx c e=>?_,λp y=>?_,λb u e=>?_,a.len}
 .have:=a.base.free b o e n A;rw[aj<|i b this];show this
 .have:=a.base.tups b xs e;rw[aj (h b _ this λ_ _ z=>by cases z)];show this
 .have g:b≠d:=λz=>by subst z;rw[v]at e;cases e
  rw[aj g];show a.base.frzs b o' u e
 .let(m,this):=a.base.tbls b ps e;show{m,by rw[aj (h b _ this λ_ _ z=>by cases z)];show this}
 .rw[aj<|i _ a.free];show a.free
 .rw[aj<|i _ (a.freeC x c e)];show a.freeC x c e
 .let(e,n,r):=a.pin p y;show{e,by rw[aj<|i _ n];show n,r}
 .by_cases g:b=d
  .subst g;rw[ac]at e;cases e;let(_,q):=a.hok b _ j;show q
  .rw[aj g]at e;show(a.hok b u e).stay (λ_ _ _ q=>q) (λc q=>by rw[aj (h c _ q λ_ _ z=>by cases z)];show q) λc xs q=>by rw[aj (h c _ q λ_ _ z=>by cases z)];show q
def Dm(H₀:Hp)(t:TS):TS:=λD σ H=>∃d o kvs,H₀ d=none/\H d=some (.frz o<|.dK kvs)/\t D σ (upd H d<|.dK kvs)
theorem yE{X:Cx}{st:Stmt}{t:TS}(c:PS X st t):PS X st (Dm X.H₀ t):=λpins s σ H a I ⟨d,o,kvs,b,h,e⟩=>c pins s σ _ a (I.thaw h b) e
end L2
namespace TW
structure Nd(S:Type) where
 num:Int
 par:Int
 nm:S
 st:Option Int
section
variable{S:Type}
inductive Reach(ns:List<|Nd S)(f:Int):Nd S->Prop where
 |base {n:Nd S}:n∈ns->n.par=f->Reach ns f n
 |step {m n:Nd S}:Reach ns f m->m.st=none->n∈ns->n.par=m.num->Reach ns f n
theorem Reach.mem{ns:List (Nd S)}{f:Int}{n:Nd S}(h:Reach ns f n):n∈ns:=by
 cases h<;>assumption
theorem Reach.mono{ns d:List (Nd S)}{f:Int}{n:Nd S}(e:Reach ns f n)(c:∀x∈ns,x∈d):Reach d f n:=by
 induction e with
 |base a b=>show .base (c _ a) b
 |step _ g a b h=>show .step h g (c _ a) b
def inside(ns:List<|Nd S)(k:Int):List (Nd S):=ns.filter λn=>decide<|n.par=k
def eu(a:List Int)(n:Nd S):Bool:=decide<|n.par∈a
structure Walk(ns:List<|Nd S)(f:Int)(dn:List Int)(fd:List<|Nd S)(pd:List Int):Prop where
 perm:fd.Perm<|ns.filter (eu dn)
 reach:∀n∈fd,Reach ns f n
 cover:∀k,(k∈pd\/k∈dn)↔(k=f\/∃m∈fd,m.st=none/\m.num=k)
theorem Walk.start(ns:List<|Nd S)(f:Int):Walk ns f [] [] [f]:=by
 show{?_,by simp,λk=>by simp};have e:ns.filter (eu [])=[]:=by
  rw[List.filter_eq_nil_iff];intro a _;simp[eu]
 rw[e]
theorem gr{b:Type}(p q:b->Bool)(hd:∀x,p x=true->q x=true->False):∀l:List b,
  (l.filter p++l.filter q).Perm (l.filter λx=>p x||q x)
 |[]=>by simp
 |x::l=>by
  have d:=gr p q hd l;cases c:p x with
  |true =>
   simp_all
  |false =>
   cases a:q x with
   |true =>
    rw[Gh (by simp[c]),GX a,GX (by simp[a])];show perm_middle.trans<|List.Perm.cons x d
   |false =>
    grind
def here(ns:List<|Nd S)(a:List Int)(x:Int):List (Nd S):=if x∈a then []else inside ns x
def aR(l:List<|Nd S):List Int:=(l.filter λn=>n.st.isNone).map (·.num)
theorem jE{l:List (Nd S)}{k:Int}:k∈aR l↔∃m∈l,m.st=none/\m.num=k:=by
 unfold aR;rw[EZ];constructor
 .rintro⟨m,a,e⟩;rw[Fw]at a;show{m,a.1,by simp_all,e}
 grind
theorem Walk.turn{ns:List (Nd S)}{f x:Int}{a:List Int}{g:List (Nd S)}{j:List Int}(w:Walk ns f a g<|j++[x]):
  Walk ns f (x::a) (g++here ns a x) (j++aR (here ns a x)):=by
 have q:=(w.cover x).mp (.inl (by simp))
 by_cases r:x∈a
 .have b:here ns a x=[]:=by unfold here;grind
  rw[b];show{?_,by simpa using w.reach,λk=>?_}
  .have e:ns.filter (eu (x::a))=ns.filter (eu a):=by
    apply filter_congr;intro n _;simp only[eu,FU,decide_eq_decide];constructor
    .grind
    .show .inr
   rw[e,Gs];show w.perm
  .have c:=w.cover k;rw[Gs,<-c];simp only[aR,List.filter_nil,map_nil,Gs,Fd,FU,Gb,or_false]
   grind
 .have b:here ns a x=inside ns x:=by unfold here;grind
  rw[b];show{?_,λn p=>?_,λk=>?_}
  .have e:ns.filter (eu (x::a))=ns.filter λn=>eu a n||decide (n.par=x):=by
    apply filter_congr;intro n _;rw[Fp];simp only[eu,FU,FJ,or_eq_true];constructor
    .grind
    .grind
   rw[e];show(List.Perm.append_right _ w.perm).trans (gr _ _ (λy h1 h2=>?_) ns);simp only[eu,FJ]at h1 h2
   grind
  .rcases Fd.mp p with h|h
   .show w.reach n h
   .unfold inside at h;rw[Fw]at h;let(i,d):=h;simp only[FJ]at d;rcases q with e|⟨m,o,l,e⟩
    .show .base i<|d.trans e
    .show .step (w.reach m o) l i<|d.trans e.symm
  .have c:=w.cover k;simp only[Fd,FU,Gb,or_false]at c|-;rw[jE]
   grind
theorem Walk.len{ns:List (Nd S)}{f:Int}{b:List Int}{a:List (Nd S)}{c:List Int}(w:Walk ns f b a c):a.length<=ns.length:=by
 rw[w.perm.length_eq];grind
theorem eA(l:List<|Nd S):(aR l).length<=l.length:=by
 unfold aR;grind
theorem Walk.mem{ns:List (Nd S)}{f:Int}{dn:List Int}{fd:List (Nd S)}(w:Walk ns f dn fd [])(n:Nd S):n∈fd↔Reach ns f n:=by
 constructor
 .show w.reach n
 .have d:∀k,(k=f\/∃m∈fd,m.st=none/\m.num=k)->k∈dn:=λk h=>by
   rcases (w.cover k).mpr h with z|z
   .simp at z
   .show z
  have back:∀x,x∈ns->x.par∈dn->x∈fd:=λx c a=>w.perm.mem_iff.mpr<|Fw.mpr {c,by simp[eu,a]};intro h
  induction h with
  |base b a=>grind
  |step _ e b a g=>grind
theorem Walk.all{ns:List (Nd S)}{f:Int}{a:List Int}{c:List (Nd S)}(w:Walk ns f a c []):c.length=ns.length↔∀n∈ns,Reach ns f n:=by
 rw[w.perm.length_eq];constructor
 .intro h n b;have e:ns.filter (eu a)=ns:=by
   rw[List.filter_eq_self];show List.length_filter_eq_length_iff.mp h
  have:n∈ns.filter (eu a):=by rw[e];show b
  show(w.mem n).mp (w.perm.mem_iff.mpr this)
 .intro h;rw[List.length_filter_eq_length_iff];intro n b;have:=w.perm.mem_iff.mp<|(w.mem n).mpr (h n b);show(Fw.mp this).2
def bK(ns:List<|Nd S):Prop:=ns.Pairwise λa b=>a.num<b.num
def dy(ns:List<|Nd S):Prop:=(ns.map λn=>(n.par,n.nm)).Nodup
structure Tree(ns:List<|Nd S):Prop where
 rise:bK ns
 own:dy ns
 down:∀n∈ns,Reach ns 0 n
def adj:List (Nd S)->Bool
 |a::b::r=>decide (a.num<b.num)&&adj (b::r)
 |_=>true
theorem og:∀ns:List<|Nd S,adj ns=true↔bK ns
 |[]=>by simp[adj,bK]
 |[a]=>by simp[adj,bK]
 |a::b::r=>by
  have d:=og (b::r);unfold adj;rw[GJ,d,FJ];unfold bK;rw[Ga (a:=a)];constructor
  .rintro⟨h,p⟩;show{λx c=>?_,p};rcases FU.mp c with rfl|c
   .show h
   .have:=(Ga.mp p).1 x c
    lia
  grind
theorem sK:∀ns:List<|Nd S,adj ns=((ns.zip<|ns.drop 1).all λp=>decide<|p.1.num<p.2.num)
 |[]=>rfl
 |[a]=>rfl
 |a::b::r=>by
  have c:=sK (b::r);unfold adj
  simp_all
inductive Built:List (Nd S)->Prop where
 |nil:Built []
 |snoc {l:List (Nd S)} {n:Nd S}:Built l->(n.par=0\/∃m∈l,m.st=none/\m.num=n.par)->Built (l++[n])
theorem Built.down{l:List (Nd S)}(b:Built l):∀n∈l,Reach l 0 n:=by
 induction b with
 |nil=>simp
 |@snoc l n b h ih =>
  intro x a;have c:∀y∈l,y∈l++[n]:=λy i=>mem_append_left _ i;rcases Fd.mp a with a|a
  .show(ih x a).mono c
  .have e:x=n:=by simpa using a
   subst e;rcases h with h|⟨m,g,f,d⟩
   .show .base (by simp) h
   .show .step ((ih m g).mono c) f (by simp) d.symm
theorem yF{l t:List (Nd S)}(b:Built l)(p:t.Perm l)(f:t.Pairwise λa b=>a.num<=b.num)(d:(l.map (·.num)).Nodup)(e:dy l):Tree t:=by
 show{?_,?_,λn c=>?_}
 .have c:(t.map (·.num)).Nodup:=((p.map _).nodup_iff).mpr d;unfold Nodup at c;rw[Fh]at c;unfold bK;show f.imp₂ (λa b h1 h2=>by lia) c
 .unfold dy;show((p.map _).nodup_iff).mpr e
 .show(b.down n<|p.mem_iff.mp c).mono λx g=>p.mem_iff.mpr g
theorem pQ{t:List (Nd S)}(c:bK t){a b:Nd S}(d:a∈t)(f:b∈t)(e:a.num=b.num):a=b:=by
 unfold bK at c
 induction t with
 |nil=>simp at d
 |cons x r g =>
  rw[Ga]at c
  grind
end
section
variable{S:Type}
inductive PathTo(ns:List<|Nd S):Int->List S->Prop where
 |top:PathTo ns 0 []
 |node {n:Nd S} {p:List S}:n∈ns->PathTo ns n.par p->PathTo ns n.num (p++[n.nm])
structure Tree1(ns:List<|Nd S):Prop extends Tree ns where
 pos:∀n∈ns,1<=n.num
theorem Tree1.inj{ns:List (Nd S)}(T:Tree1 ns){a b:Nd S}(c:a∈ns)(d:b∈ns)(e:a.num=b.num):a=b:=pQ T.rise c d e
theorem PathTo.zero{ns:List (Nd S)}(T:Tree1 ns){k:Int}{p:List S}(h:PathTo ns k p)(e:k=0):p=[]:=by
 cases h with
 |top=>rfl
 |@node n p hm _=>have:=T.pos n hm;lia
theorem PathTo.inv{ns:List (Nd S)}(T:Tree1 ns){k:Int}{p:List S}(b:PathTo ns k p){n:Nd S}(a:n∈ns)(e:k=n.num):∃q,p=q++[n.nm]/\PathTo ns n.par q:=by
 cases b with
 |top=>have:=T.pos n a;lia
 |@node m q hm hq =>
  have:m=n:=T.inj hm a e
  grind
theorem PathTo.uniq{ns:List (Nd S)}(T:Tree1 ns){k:Int}{p:List S}(b:PathTo ns k p):∀{q:List S},PathTo ns k q->p=q:=by
 induction b with
 |top=>intro q a;show(a.zero T rfl).symm
 |@node n p hm _ ih =>
  intro q a;let(d,e,c):=a.inv T hm rfl
  grind
theorem PathTo.ex{ns:List (Nd S)}(T:Tree1 ns){n:Nd S}(c:n∈ns):∃p,PathTo ns n.num p:=by
 have key:∀x,Reach ns 0 x->∃p,PathTo ns x.num p:=by
  intro x r
  induction r with
  |base a b=>show{_,.node a (by rw[b];show .top)}
  |step _ _ a b d =>
   let(p,h):=d;show{_,.node a (by rw[b];show h)}
 show key n<|T.down n c
inductive Und(ns:List<|Nd S)(g:Int):Int->Prop where
 |here:Und ns g g
 |up {n:Nd S}:n∈ns->Und ns g n.par->Und ns g n.num
theorem Und.zero{ns:List (Nd S)}(T:Tree1 ns){g k:Int}(h:Und ns g k)(e:k=0):g=0:=by
 cases h with
 |here=>show e
 |@up n hm _=>have:=T.pos n hm;lia
theorem Und.inv{ns:List (Nd S)}(T:Tree1 ns){g k:Int}(a:Und ns g k){n:Nd S}(b:n∈ns)(e:k=n.num)(c:k≠g):Und ns g n.par:=by
 cases a with
 |here=>grind
 |@up m hm hu =>
  have:m=n:=T.inj hm b e
  grind
theorem mR{ns:List (Nd S)}(T:Tree1 ns){n:Nd S}(b:n∈ns):n.par=0\/∃m∈ns,m.st=none/\m.num=n.par:=by
 have:=T.down n b;cases this with
 |base _ a=>show .inl a
 |@step m _ hr hf _ a=>show .inr ⟨m,hr.mem,hf,a.symm⟩
theorem mS{ns:List (Nd S)}(T:Tree1 ns){g:Int}{n:Nd S}(a:Reach ns g n):Und ns g n.num/\∃p q,PathTo ns n.num (p++q)/\q≠[]/\PathTo ns g p:=by
 induction a with
 |@base n hm hp =>
  let(p,a):=PathTo.ex T hm;let(q,e,b):=a.inv T hm rfl;show{.up hm (by rw[hp];show .here),q,[n.nm],by grind,by simp,by grind}
 |@step m n hr hf hm hp ih =>
  let(c,p,q,h1,h2,h3):=ih;show{.up hm (by grind),p,q++[n.nm],?_,by simp,h3};rw[<-append_assoc];show .node hm (by grind)
theorem kZ{ns:List (Nd S)}(T:Tree1 ns){g:Int}{n:Nd S}(h:Reach ns g n):n.num≠g:=by
 let(_,p,q,h1,h2,h3):=mS T h;intro e;rw[e]at h1;have:=h1.uniq T h3
 simp_all
theorem uw{ns:List (Nd S)}(T:Tree1 ns){g:Int}(q:1<=g):∀{k:Int}{p:List S},PathTo ns k p->∀{n:Nd S},n∈ns->k=n.num->Und ns g k->k≠g->Reach ns g n:=by
 intro k p h
 induction h with
 |top=>intro n a e;have:=T.pos n a;lia
 |@node m p hm hp ih =>
  intro n a e o j;have:m=n:=T.inj hm a e;subst this;have d:=o.inv T hm rfl j
  by_cases c:m.par=g
  .show .base hm c
  .rcases mR T hm with f|⟨r,l,i,b⟩
   .have:=d.zero T f
    lia
   .show .step (ih l b.symm d c) i hm b.symm
theorem eX{ns:List (Nd S)}(T:Tree1 ns){g:Int}(b:1<=g){n:Nd S}(a:n∈ns):Reach ns g n↔n.num≠g/\Und ns g n.num:=by
 constructor
 .intro h;show{kZ T h,(mS T h).1}
 .rintro⟨h1,h2⟩;let(p,c):=PathTo.ex T a;show uw T b c a rfl h2 h1
end
section
variable{S:Type}
theorem mU{t:List (Nd S)}:bK t↔(t.map (·.num)).Pairwise (λa b:Int=>a<b):=by
 unfold bK;rw[Fh]
def io(t:List<|Nd S)(p:Int):Prop:=p=0\/∃m∈t,m.st=none/\m.num=p
theorem made{t u:List (Nd S)}{n:Nd S}(T:Tree1 t)(c:u.Perm (n::t))(i:bK u)(f:1<=n.num)(g:io t n.par)(h:∀m∈t,¬(m.par=n.par/\m.nm=n.nm)):Tree1 u:=by
 have b:∀x,x∈u↔x=n\/x∈t:=λx=>by rw[c.mem_iff,FU]
 have d:∀x,x∈t->x∈u:=λx a=>(b x).mpr (.inr a);show{{i,?_,λx a=>?_},λx a=>?_}
 .unfold dy;rw[(c.map λn:Nd S=>(n.par,n.nm)).nodup_iff,Fi,GW];show{λa=>?_,T.own};let(m,h2,e):=EZ.mp a;injection e with e1 e2
  show h m h2 ⟨e1,e2⟩
 .rcases (b x).mp a with e|a
  .subst e;rcases g with e|⟨m,h2,h3,e⟩
   .show .base a e
   .show .step ((T.down m h2).mono d) h3 a e.symm
  .show(T.down x a).mono d
 .rcases (b x).mp a with e|a
  .subst e;show f
  .show T.pos x a
def put(z:Nd S)(m:Nd S):Nd S:=if m.num=z.num then z else m
theorem sL(z m:Nd S):(put z m).num=m.num:=by
 unfold put
 split
 .rename_i h;show h.symm
 .rfl
theorem cq{z m:Nd S}(h:m.num≠z.num):put z m=m:=by unfold put;rw[EV h]
theorem eY{z m:Nd S}(h:m.num=z.num):put z m=z:=by unfold put;rw[EW h]
theorem wu(z:Nd S)(t:List<|Nd S):(t.map<|put z).map (·.num)=t.map (·.num):=by
 rw[FD];apply Fq;intro m _;show sL z m
theorem iR{z:Nd S}{t:List (Nd S)}(h:bK t):bK (t.map<|put z):=by
 rw[mU,wu,<-mU];show h
theorem sM{z:Nd S}{t:List (Nd S)}(T:Tree1 t):∀n∈t.map (put z),1<=n.num:=λn b=>by
 let(m,a,rfl):=EZ.mp b;rw[sL];show T.pos m a
theorem wrote{t:List (Nd S)}{y z:Nd S}(T:Tree1 t)(d:y∈t)(e1:z.num=y.num)(e2:z.par=y.par)(e3:z.nm=y.nm)(i:y.st≠none):Tree1 (t.map<|put z):=by
 have c:∀m∈t,(put z m).par=m.par/\(put z m).nm=m.nm:=λm b=>by
  by_cases h:m.num=z.num
  .have:m=y:=T.inj b d<|h.trans e1;subst this;rw[eY h];show⟨e2,e3⟩
  .rw[cq h];show⟨rfl,rfl⟩
 show{{iR T.rise,?_,λn g=>?_},sM T}
 .have:(t.map<|put z).map (λn=>(n.par,n.nm))=t.map (λn=>(n.par,n.nm)):=by
   rw[FD];apply Fq;intro m b;change((put z m).par,(put z m).nm)=_;rw[(c m b).1,(c m b).2]
  unfold dy;rw[this];show T.own
 .let(m,b,rfl):=EZ.mp g;have key:∀x,Reach t 0 x->Reach (t.map<|put z) 0 (put z x):=by
   intro x r
   induction r with
   |@base x hx hp=>show .base (EZ.mpr ⟨x,hx,rfl⟩) (by rw[(c x hx).1];show hp)
   |@step a x ra hf hx hp ih =>
    have f:put z a=a:=cq λe=>i (by rw[<-T.inj ra.mem d (e.trans e1)];show hf);rw[f]at ih;show .step ih hf (EZ.mpr ⟨x,hx,rfl⟩) (by rw[(c x hx).1];show hp)
  show key m<|T.down m b
theorem mX{t:List (Nd S)}{k:Int}{n:Nd S}(r:Reach t 0 n)(a:¬Und t k n.num){u:List (Nd S)}(b:∀x∈t,¬Und t k x.num->x∈u):Reach u 0 n:=by
 induction r with
 |@base n hm hp=>show .base (b n hm a) hp
 |@step m n rm hf hn hp ih=>show .step (ih λc=>a<|.up hn (by rw[hp];show c)) hf (b n hn a) hp
theorem dropped{t:List (Nd S)}{k:Int}(T:Tree1 t){p:Nd S->Bool}(b:∀n∈t,p n=true↔¬Und t k n.num):Tree1 (t.filter p):=by
 show{{T.rise.sublist filter_sublist,T.own.sublist<|filter_sublist.map _,λn a=>?_},λn a=>T.pos n (Fw.mp a).1};let(h1,h2):=Fw.mp a;show mX (T.down n h1) ((b n h1).mp h2) λx c d=>Fw.mpr {c,(b x c).mpr d}
theorem moved{t:List (Nd S)}{y z:Nd S}(T:Tree1 t)(j:y∈t)(e1:z.num=y.num)(e4:z.st=y.st)(D:io t z.par)(E:z.par≠0->¬Und t y.num z.par)(s:∀m∈t,m.num≠y.num->¬(m.par=z.par/\m.nm=z.nm)):Tree1 (t.map<|put z):=by
 have u:z∈t.map (put z):=EZ.mpr ⟨y,j,eY e1.symm⟩;have l:∀m∈t,m.num≠y.num->m∈t.map (put z):=λm f h=>EZ.mpr {m,f,cq (by rw[e1];show h)};have q:∀n∈t,¬Und t y.num n.num->Reach (t.map<|put z) 0 n:=λn c h=>mX (T.down n c) h λx H g=>l x H λe=>g (by rw[e];show .here);have v:Reach (t.map<|put z) 0 z:=by
  rcases D with e|⟨m,h2,h3,e⟩
  .show .base u e
  .have A:z.par≠0:=λJ=>by have:=T.pos m h2;lia
   show .step (q m h2 (by rw[e];show E A)) h3 u e.symm
 show{{iR T.rise,?_,λn c=>?_},sM T}
 .have h:=T.own;have G:=T.rise;unfold dy bK Nodup at *;rw[Fh]at h;rw[FD,Fh];have w:=h.and G;show w.imp_of_mem λ{a b} k C B=>?_;let(h1,h2):=B;change((put z a).par,(put z a).nm)≠((put z b).par,(put z b).nm)
  by_cases ea:a.num=y.num
  .have d:b.num≠y.num:=by lia
   rw[eY (by rw[e1];show ea),cq (by rw[e1];show d)];intro e;injection e with o p
   show s b C d ⟨o.symm,p.symm⟩
  .by_cases d:b.num=y.num
   .rw[eY (m:=b) (by rw[e1];show d),cq (by rw[e1];show ea)];intro e;injection e with o p
    show s a k ea ⟨o,p⟩
   .rw[cq (by rw[e1];show ea),cq (by rw[e1];show d)];show h1
 .let(m,f,rfl):=EZ.mp c
  by_cases i:m.num=y.num
  .rw[eY (by rw[e1];show i)];show v
  .rw[cq (by rw[e1];show i)]
   by_cases g:Und t y.num m.num
   .have r:Reach t y.num m:=(eX T (T.pos y j) f).mpr ⟨i,g⟩;clear g i f c
    induction r with
    |@base n c hp =>
     have I:z.st=none:=by
      rcases mR T c with e|⟨a,k,h3,e⟩
      .have:=T.pos y j;lia
      .have:a=y:=T.inj k j<|e.trans hp;subst this;rw[e4];show h3
     have F:n.num≠y.num:=kZ T<|.base c hp;show .step v I (l n c F) (by rw[hp,e1])
    |@step a n ra hfa c hp ih=>show .step ih hfa (l n c<|kZ T (.step ra hfa c hp)) hp
   .show q m f g
end
section
variable{S:Type}
inductive Deed(S:Type) where
 |make (n p:Int) (nm:S) (st:Option Int)
 |write (n st:Int)
 |move (n p:Int) (nm:S)
 |drop (n:Int)
inductive Wd where
 |known|noNode|notFile|notFolder|inside|taken
def cy(t:List<|Nd S)(k:Int):Prop:=∃m∈t,m.num=k
inductive Told(t:List<|Nd S):Deed S->Sum Wd (List<|Nd S)->Prop where
 |mKnown {n p:Int} {nm:S} {st:Option Int}:cy t n->Told t (.make n p nm st) (.inl .known)
 |mNo {n p:Int} {nm:S} {st:Option Int}:¬cy t n->p≠0->¬cy t p->Told t (.make n p nm st) (.inl .noNode)
 |mFile {n p:Int} {nm:S} {st:Option Int} {m:Nd S}:¬cy t n->p≠0->m∈t->m.num=p->m.st≠none->Told t (.make n p nm st) (.inl .notFolder)
 |mTaken {n p:Int} {nm:S} {st:Option Int} {m:Nd S}:¬cy t n->io t p->m∈t->m.par=p->m.nm=nm->Told t (.make n p nm st) (.inl .taken)
 |made {n p:Int} {nm:S} {st:Option Int} {u:List (Nd S)}:¬cy t n->io t p->(∀m∈t,¬(m.par=p/\m.nm=nm))->u.Perm (⟨n,p,nm,st⟩::t)->bK u->Told t (.make n p nm st) (.inr u)
 |wNo {n st:Int}:¬cy t n->Told t (.write n st) (.inl .noNode)
 |wFold {n st:Int} {y:Nd S}:y∈t->y.num=n->y.st=none->Told t (.write n st) (.inl .notFile)
 |wrote {n st:Int} {y:Nd S}:y∈t->y.num=n->y.st≠none->Told t (.write n st) (.inr<|t.map (put ⟨n,y.par,y.nm,some st⟩))
 |vNo {n p:Int} {nm:S}:¬cy t n->Told t (.move n p nm) (.inl .noNode)
 |vNoP {n p:Int} {nm:S}:cy t n->p≠0->¬cy t p->Told t (.move n p nm) (.inl .noNode)
 |vFile {n p:Int} {nm:S} {m:Nd S}:cy t n->p≠0->m∈t->m.num=p->m.st≠none->Told t (.move n p nm) (.inl .notFolder)
 |vIn {n p:Int} {nm:S}:cy t n->io t p->p≠0->Und t n p->Told t (.move n p nm) (.inl .inside)
 |vTaken {n p:Int} {nm:S} {m:Nd S}:cy t n->io t p->(p≠0->¬Und t n p)->m∈t->m.num≠n->m.par=p->m.nm=nm->Told t (.move n p nm) (.inl .taken)
 |moved {n p:Int} {nm:S} {y:Nd S}:y∈t->y.num=n->io t p->(p≠0->¬Und t n p)->(∀m∈t,m.num≠n->¬(m.par=p/\m.nm=nm))->Told t (.move n p nm) (.inr<|t.map (put ⟨n,p,nm,y.st⟩))
 |dNo {n:Int}:¬cy t n->Told t (.drop n) (.inl .noNode)
 |dropped {n:Int} {f:Nd S->Bool}:cy t n->(∀m∈t,f m=true↔¬Und t n m.num)->Told t (.drop n) (.inr<|t.filter f)
theorem yG{t:List (Nd S)}{p:Int}(a:io t p)(b:p≠0)(d:¬cy t p):False:=by
 rcases a with a|⟨m,c,_,e⟩
 .show b a
 .show d ⟨m,c,e⟩
theorem ux{t:List (Nd S)}(T:Tree1 t){p:Int}{m:Nd S}(a:io t p)(b:p≠0)(c:m∈t)(e:m.num=p)(d:m.st≠none):False:=by
 rcases a with a|⟨y,f,h2,e2⟩
 .show b a
 .have:=T.inj c f<|e.trans e2.symm;subst this;show d h2
theorem la{t u:List (Nd S)}(i:bK t)(j:bK u)(c:t.Perm u):t=u:=by
 have k:∀{l m:List (Nd S)},bK l->bK m->(∀x,x∈l↔x∈m)->l=m:=by
  intro l
  induction l with
  |nil =>
   intro m _ _ c;cases m with
   |nil=>rfl
   |cons b m=>show absurd ((c b).mpr (by simp)) (by simp)
  |cons a l h =>
   intro m d f c;cases m with
   |nil=>show absurd ((c a).mp (by simp)) (by simp)
   |cons b m =>
    unfold bK at d f h;rw[Ga]at d f;have e:a=b:=by
     rcases FU.mp ((c a).mp (by simp))with e|h1
     .show e
     .rcases FU.mp ((c b).mpr (by simp))with e|h2
      .show e.symm
      .have:=d.1 b h2;have:=f.1 a h1
       lia
    subst e;rw[h d.2 f.2 λx=>?_];constructor
    .intro g;rcases FU.mp ((c x).mp (by simp[g]))with e|h1
     .subst e;have:=d.1 x g;lia
     .show h1
    .intro g;rcases FU.mp ((c x).mpr (by simp[g]))with e|h1
     .subst e;have:=f.1 x g;lia
     .show h1
 show k i j λx=>c.mem_iff
open Classical in
def ans(t:List<|Nd S):Deed S->Sum Wd (List<|Nd S)
 |.make n p nm st=>if cy t n then .inl .known else if p≠0/\¬cy t p then .inl .noNode else if p≠0/\∃m∈t,m.num=p/\m.st≠none then .inl .notFolder else if ∃m∈t,m.par=p/\m.nm=nm then .inl .taken else if h:∃u:List<|Nd S,u.Perm (⟨n,p,nm,st⟩::t)/\bK u then .inr h.choose else .inl .known
 |.write n st=>if h:∃m,m∈t/\m.num=n then if (choose h).st=none then .inl .notFile else .inr (t.map<|put {n,(choose h).par,(choose h).nm,some st})else .inl .noNode
 |.move n p nm=>if h:∃m,m∈t/\m.num=n then if p≠0/\¬cy t p then .inl .noNode else if p≠0/\∃m∈t,m.num=p/\m.st≠none then .inl .notFolder else if p≠0/\Und t n p then .inl .inside else if ∃m∈t,m.num≠n/\m.par=p/\m.nm=nm then .inl .taken else .inr (t.map<|put {n,p,nm,(choose h).st})else .inl .noNode
 |.drop n=>if cy t n then .inr (t.filter λm=>decide<|¬Und t n m.num)else .inl .noNode
open Classical in
theorem Told.is{t:List (Nd S)}(T:Tree1 t){d:Deed S}{r:Sum Wd (List<|Nd S)}(c:Told t d r):r=ans t d:=by
 have j:∀{p},io t p->¬(p≠0/\¬cy t p)/\¬(p≠0/\∃m∈t,m.num=p/\m.st≠none):=λf=>{λc=>yG f c.1 c.2,λ⟨s,m,l,e,n⟩=>ux T f s l e n};have n:∀{k:Int}{y:Nd S}(c:∃m,m∈t/\m.num=k),y∈t->y.num=k->Classical.choose c=y:=λc v e=>T.inj (Classical.choose_spec c).1 v ((Classical.choose_spec c).2.trans e.symm);cases c with
 |mKnown a=>rw[ans,EW a]
 |mNo a b g=>rw[ans,EV a,EW ⟨b,g⟩]
 |mFile a b g h i=>rw[ans,EV a,EV λc=>c.2 ⟨_,g,h⟩,EW ⟨b,_,g,h,i⟩]
 |mTaken a b g h i=>rw[ans,EV a,EV (j b).1,EV (j b).2,EW ⟨_,g,h,i⟩]
 |made a b g h i =>
  have c:∃u:List<|Nd S,u.Perm _/\bK u:=⟨_,h,i⟩;rw[ans,EV a,EV (j b).1,EV (j b).2,EV λ⟨m,l,e⟩=>g m l e,dif_pos c,la i c.choose_spec.2<|h.trans c.choose_spec.1.symm]
 |wNo a=>rw[ans,dif_neg (show ¬∃m,m∈t/\m.num=_ from a)]
 |wFold a b g=>rw[ans,dif_pos ⟨_,a,b⟩,EW (by rw[n _ a b];show g)]
 |wrote a b g=>rw[ans,dif_pos ⟨_,a,b⟩,EV (by rw[n _ a b];show g),n _ a b]
 |vNo a=>rw[ans,dif_neg (show ¬∃m,m∈t/\m.num=_ from a)]
 |vNoP a b g=>rw[ans,dif_pos (show ∃m,m∈t/\m.num=_ from a),EW ⟨b,g⟩]
 |vFile a b g h i=>rw[ans,dif_pos (show ∃m,m∈t/\m.num=_ from a),EV λc=>c.2 ⟨_,g,h⟩,EW ⟨b,_,g,h,i⟩]
 |vIn a b g h=>rw[ans,dif_pos (show ∃m,m∈t/\m.num=_ from a),EV (j b).1,EV (j b).2,EW ⟨g,h⟩]
 |vTaken a b g h i o q=>rw[ans,dif_pos (show ∃m,m∈t/\m.num=_ from a),EV (j b).1,EV (j b).2,EV λc=>g c.1 c.2,EW ⟨_,h,i,o,q⟩]
 |moved a b g h i=>rw[ans,dif_pos ⟨_,a,b⟩,EV (j g).1,EV (j g).2,EV λc=>h c.1 c.2,EV λ⟨m,l,e,c⟩=>i m l e c,n _ a b]
 |dNo a=>rw[ans,EV a]
 |dropped a b=>rw[ans,EW a,filter_congr λm l=>Fp.mpr<|(b m l).trans (decide_eq_true_iff (p:=¬Und t _ m.num)).symm]
theorem Told.one{t:List (Nd S)}(T:Tree1 t){d:Deed S}{r r':Sum Wd (List<|Nd S)}(h:Told t d r)(h':Told t d r'):r=r':=(h.is T).trans (h'.is T).symm
def Deed.pos:Deed S->Prop
 |.make n _ _ _=>1<=n
 |_=>True
theorem Told.tree{t u:List (Nd S)}(T:Tree1 t){d:Deed S}(h:Told t d<|.inr u)(j:d.pos):Tree1 u:=by
 generalize a:(Sum.inr u:Sum Wd<|List (Nd S))=r at h;cases h with
 |made c b e f g =>
  injection a with a
  subst a;show TW.made T f g j b λm i=>e m i
 |wrote c b e =>
  injection a with a
  subst a b;show TW.wrote T c rfl rfl rfl e
 |moved c b e f g =>
  injection a with a
  subst a b;show TW.moved T c rfl rfl e f g
 |dropped c b =>
  injection a with a
  subst a;show TW.dropped T b
 |_=>cases a
theorem Told.all{t u:List (Nd S)}{P:Nd S->Prop}(i:∀n∈t,P n){d:Deed S}(g:Told t d<|.inr u)(h:∀n p nm st,d=.make n p nm st->P ⟨n,p,nm,st⟩)(s:∀n st,d=.write n st->∀y∈t,y.num=n->P ⟨n,y.par,y.nm,some st⟩)(q:∀n p nm,d=.move n p nm->∀y∈t,y.num=n->P ⟨n,p,nm,y.st⟩):∀n∈u,P n:=by
 have l:∀z:Nd S,P z->∀n∈t.map (put z),P n:=λz v n f=>by
  let(m,h,rfl):=EZ.mp f
  by_cases e:m.num=z.num
  .rw[eY e];show v
  .rw[cq e];show i m h
 generalize a:(Sum.inr u:Sum Wd<|List (Nd S))=r at g;cases g with
 |made b c j k o =>
  injection a with a
  subst a;intro n f;rcases FU.mp (k.mem_iff.mp f)with e|g
  .subst e;show h _ _ _ _ rfl
  .show i n g
 |wrote b c j =>
  injection a with a
  subst a;show l _<|s _ _ rfl _ b c
 |moved b c j k o =>
  injection a with a
  subst a;show l _<|q _ _ _ rfl _ b c
 |dropped b c =>
  injection a with a
  subst a;intro n f;show i n (Fw.mp f).1
 |_=>cases a
theorem Told.len{t u:List (Nd S)}{d:Deed S}(g:Told t d<|.inr u):u.length<=t.length+1:=by
 generalize a:(Sum.inr u:Sum Wd<|List (Nd S))=r at g;cases g with
 |made b c e f h =>
  injection a with a
  subst a;rw[f.length_eq];simp
 |wrote b c e =>
  injection a with a
  subst a;simp
 |moved b c e f h =>
  injection a with a
  subst a;simp
 |dropped b c =>
  injection a with a
  subst a;show le_succ_of_le<|length_filter_le _ _
 |_=>cases a
end
end TW
namespace L2
open PySem PySem.Spec PyProof.Rows
section
variable{P:qw}{w:qn}{K:Frag}{mg:Str->Option xx}{base:qb}
theorem Fun.okX{x qual:Str}{st:Stmt}{f:zi}{a:qa}{N ps:List Str}{k:Nat}{sp:Sp}(F:Fun K x qual st f a)(S:FnScope N ps<|ak st)(g:∀vs H Q E,sp vs H Q E->vs.length=ps.length)(b:∀(cdv:xx) (A:qd) (outer:List Env) (s:xg) (H:Hp) (vs:List V) (Q:VK) (E:XK),Room k (A.deeper<|envOfC qual (ak st) s.heap.objs.size f cdv)->sp vs H Q E ->
   ∃t,PSs (fY (CX1 P w) P w K mg base N qual (ak st) f cdv A outer s H E) (bg st) t/\t {nx:=λ_ H'=>Q .non H',rt:=Q} (start N vs) H):FnOk P w K mg base (CX1 P w) (k+1) f a ps sp:=by
 let(m,n,kV,l,pm,i,cdv,j,o,rfl,h,c):=F.ex;show vm h c S g λA outer s H vs Q E d e=>b cdv A outer s H vs Q E d e
theorem LcOk.mk'{X:Cx}{a:Scope}{cl:List (Str×zi)}(fs:List Str)(p:a.kind=.function)(l:closureFor a X.env=pure cl)(s:∀x∈a.names,x.2=.local->a.names.lookup x.1=some .local)(g:∀x∈a.names,x.2≠.cell)(m:∀y∈cl,X.env.cells.lookup y.1=some y.2)(o:cl.map (·.1)=fs)(j:a.names.all (λy=>!(y.2==.free)||fs.contains y.1)=true):LcOk X a cl:=by
 show{p,l,s,g,λx c h=>m (x,c)<|Fb h,λx h=>?_};have b:∃k,(x,k)∈(relabel a X.env).names/\(k=.cell\/k=.free):=by
  rcases h with h|h
  .show{_,Fb h,.inl rfl}
  .show{_,Fb h,.inr rfl}
 let(k,b,q):=b;unfold relabel at b;let((y,k0),d,e):=EZ.mp b;have n:x=y/\k0=.free:=by
  cases k0 with
  |free =>
   simp only at e
   split at e
   .injection e with e1 e2;show⟨e1.symm,rfl⟩
   .injection e with e1 e2;show⟨e1.symm,rfl⟩
  |cell=>show absurd rfl<|g _ d
  |_ =>
   exfalso
   have e2:k=_:=(congrArg Prod.snd e).symm;simp at e2;rcases q with z|z<;>rw[z]at e2<;>cases e2
 let(rfl,rfl):=n;have:=Gj.mp j _ d;have f:fs.contains x=true:=by simpa using this
 rw[<-o]at f;have r:x∈cl.map (·.1):=List.contains_iff_mem.mp f;cases e:cl.lookup x with
 |some c=>show⟨c,rfl⟩
 |none =>
  exfalso
  let(y,d,i):=EZ.mp r;have:=List.lookup_eq_none_iff.mp e y d;rw[i]at this;simp at this
end
end L2
namespace TK
open PySem L2
abbrev Nd:=TW.Nd Str
def stV:Option Int->V
 |none=>.non
 |some i=>.int i
def vals(n:Nd):List V:=[.int n.num,.int n.par,.str n.nm,stV n.st]
abbrev ZN:=List<|zi×Nd
def aZ(zs:ZN):List V:=(zs.map (·.1)).map V.ref
def nds(zs:ZN):List Nd:=zs.map (·.2)
def At(H:Hp)(zs:ZN):Prop:=∀z∈zs,H z.1=some (.tup<|vals z.2)
theorem At.same{a H':Hp}{zs:ZN}(b:At a zs)(s:Same a H'):At H' zs:=λz c=>s _ _<|b z c
theorem ba(zs:ZN):(aZ zs).length=zs.length:=by simp[aZ]
theorem aG(zs:ZN):(nds zs).length=zs.length:=by simp[nds]
theorem ce{zs:ZN}{i:Nat}{x:V}(h:(aZ zs)[i]?=some x):∃z,zs[i]?=some z/\x=.ref z.1:=by
 unfold aZ at h;rw[FE,FE]at h;cases e:zs[i]? with
 |none=>rw[e]at h;cases h
 |some z=>rw[e]at h;show{z,rfl,(Option.some.inj h).symm}
theorem dL{zs:ZN}{i:Nat}{z:zi×Nd}(h:zs[i]?=some z):(aZ zs)[i]?=some (.ref z.1):=by
 unfold aZ;rw[FE,FE,h];rfl
theorem at0(n:Nd):atI (vals n) 0=some (.int n.num):=rfl
theorem at1(n:Nd):atI (vals n) 1=some (.int n.par):=rfl
theorem at2(n:Nd):atI (vals n) 2=some (.str n.nm):=rfl
theorem at3(n:Nd):atI (vals n) 3=some (stV n.st):=rfl
theorem wv{c:St}(d:c.length=2):∃a b,c=[a,b]:=by
 match c,d with
 |[a,b],_=>show⟨a,b,rfl⟩
theorem ww{b:St}(c:b.length=1):∃a,b=[a]:=by
 match b,c with
 |[a],_=>show⟨a,rfl⟩
theorem ao{n:Nat}(h:n<=1000):n<=sizeLine:=Fu<|aw h
theorem le2:2<=sizeLine:=ao (by decide)
theorem ju{A:qd}{k:Nat}(a:Room k A):A.units+4<cLine:=GU (Nat.add_le_add_left (by decide:4<=64) _) a.units
def plK(n:Nd):List Key:=[.inl n.par,.inr n.nm]
theorem uy(zs:List Nd):(zs.map plK).Nodup↔TW.dy zs:=by
 unfold TW.dy Nodup;rw[Fh,Fh];have e:∀a b:Nd,(plK a≠plK b)=((a.par,a.nm)≠(b.par,b.nm)):=λa b=>by
  simp[plK]
 simp only[e]
def ins(zs:ZN)(k:Int):ZN:=zs.filter λz=>decide<|z.2.par=k
theorem sN(zs:ZN)(k:Int):nds (ins zs k)=TW.inside (nds zs) k:=by
 unfold nds ins TW.inside;rw[filter_map];rfl
theorem gu(zs:ZN)(z:zi×Nd)(k:Int):ins (zs++[z]) k=if z.2.par=k then ins zs k++[z]else ins zs k:=by
 unfold ins;rw[List.filter_append]
 by_cases h:z.2.par=k
 .rw[EW h,GX (by simp[h])];rfl
 .rw[EV h,Gh (by simp[h])];simp
theorem yH{zs:ZN}{k:Int}{z:zi×Nd}(h:z∈ins zs k):z∈zs:=(Fw.mp h).1
theorem jv(zs:ZN)(z:zi×Nd):aZ (zs++[z])=aZ zs++[.ref z.1]:=by simp[aZ]
theorem wx{zs:ZN}(h:aZ zs=[]):zs=[]:=by
 cases zs with
 |nil=>rfl
 |cons a r=>simp[aZ]at h
structure Mem(H0 H:Hp)(d:zi)(L:Int->zi)(kvs:List<|Key×V)(xs:ZN)(dn:List Int):Prop where
 dict:H d=some (.dK kvs)
 d0:H0 d=none
 len:kvs.length<=xs.length
 val:∀k:Int,aX kvs (Sum.inl k:Key)=if k∈dn\/ins xs k=[]then none else some (.ref<|L k)
 at':∀k,k∉dn->ins xs k≠[]->H (L k)=some (.lst<|aZ (ins xs k))/\H0 (L k)=none
 inj:∀k k',k∉dn->k'∉dn->ins xs k≠[]->ins xs k'≠[]->L k=L k'->k=k'
 same:Same H0 H
theorem Mem.grow{H0 a H':Hp}{d:zi}{b:Int->zi}{c:List (Key×V)}{xs:ZN}{dn:List Int}(m:Mem H0 a d b c xs dn)(s:Same a H'):Mem H0 H' d b c xs dn :=
 {s _ _ m.dict,m.d0,m.len,m.val,λk h1 h2=>{s _ _ (m.at' k h1 h2).1,(m.at' k h1 h2).2},m.inj,m.same.trans s}
theorem Mem.other{H0 b:Hp}{d p:zi}{c:Int->zi}{j:List (Key×V)}{xs:ZN}{dn:List Int}{h:List Int}{o:HO}(m:Mem H0 b d c j xs dn)(g:b p=some (.lst<|h.map V.int))(l:H0 p=none):Mem H0 (upd b p o) d c j xs dn:=by
 show{?_,m.d0,m.len,m.val,λk h1 h2=>{?_,(m.at' k h1 h2).2},m.inj,aJ l m.same}
 .rw[aj]
  .show m.dict
  .intro e;have:=m.dict;rw[e,g]at this;cases this
 .have e1:=(m.at' k h1 h2).1;rw[aj]
  .show e1
  .intro e;rw[e,g]at e1;injection e1 with e1
   injection e1 with e1
   have n:=h2;cases f:ins xs k with
   |nil=>show h2 f
   |cons a r =>
    rw[f]at e1;cases h with
    |nil=>simp[aZ]at e1
    |cons i q=>simp[aZ]at e1
theorem Mem.start{H0:Hp}{d:zi}(a:H0 d=none):Mem H0 (upd H0 d<|.dK []) d (λ_=>d) [] [] [] :=
 {ac,a,by simp,λk=>by rw[EW<|.inr rfl];rfl,λk _ a=>absurd rfl a,λk b _ _ a=>absurd rfl a,ae a}
theorem Mem.hit{H0 g:Hp}{d:zi}{a:Int->zi}{j:List (Key×V)}{xs:ZN}{z:zi×Nd}(m:Mem H0 g d a j xs [])(f:ins xs z.2.par≠[]):
  Mem H0 (upd g (a z.2.par)<|.lst (aZ (ins xs z.2.par)++[.ref z.1])) d a j (xs++[z]) []:=by
 have e1:=(m.at' z.2.par (by simp) f);have l:d≠a z.2.par:=λe=>by
  have:=m.dict;rw[e,e1.1]at this;cases this
 have b:∀k,ins (xs++[z]) k=[]↔ins xs k=[]:=λk=>by
  rw[gu]
  by_cases h:z.2.par=k
  .rw[EW h];subst h;simp[f]
  .rw[EV h]
 show{by rw[aj l];show m.dict,m.d0,by have:=m.len;simp;lia,λk=>?_,λk h1 h2=>?_,λk i _ _ h2 h3 e=>m.inj k i (by simp) (by simp) (λh=>h2<|(b k).mpr h) (λh=>h3<|(b i).mpr h) e,aJ e1.2 m.same}
 .rw[m.val k];simp only[b k]
 .have c:ins xs k≠[]:=λh=>h2<|(b k).mpr h;show{?_,(m.at' k h1 c).2}
  by_cases h:z.2.par=k
  .subst h;rw[ac,gu,EW rfl,jv]
  .rw[aj,gu,EV h]
   .show(m.at' k h1 c).1
   .intro e;show h<|m.inj _ _ (by simp) (by simp) f c e.symm
theorem Mem.fresh{H0 i:Hp}{d q:zi}{b:Int->zi}{f:List (Key×V)}{xs:ZN}{z:zi×Nd}(m:Mem H0 i d b f xs [])(n:ins xs z.2.par=[])(c:i q=none):
  Mem H0 (upd (upd (upd i q<|.lst []) d<|.dK (bJ f (Sum.inl z.2.par:Key)<|.ref q)) q<|.lst ([]++[.ref z.1])) d (λk=>if k=z.2.par then q else b k) (bJ f (Sum.inl z.2.par:Key)<|.ref q) (xs++[z]) []:=by
 have l:d≠q:=λe=>by
  have:=m.dict;rw[e,c]at this;cases this
 have g:∀k,ins xs k≠[]->b k≠q:=λk h e=>by
  have:=(m.at' k (by simp) h).1;rw[e,c]at this;cases this
 have ld:∀k,ins xs k≠[]->b k≠d:=λk h e=>by
  have:=(m.at' k (by simp) h).1;rw[e,m.dict]at this;cases this
 have j:H0 q=none:=m.same.free c;have e2:∀k,k≠z.2.par->ins (xs++[z]) k=ins xs k:=λk h=>by rw[gu,EV λe=>h e.symm]
 have e3:ins (xs++[z]) z.2.par=[z]:=by rw[gu,EW rfl,n];rfl
 show{by rw[aj l,ac],m.d0,?_,λk=>?_,λk h1 h2=>?_,λk a _ _ h2 h3 e=>?_,?_}
 .have h1:=m.len;have h2:=dX f (Sum.inl z.2.par:Key)<|.ref q;rw[FI,GQ]
  lia
 .rw[kl]
  by_cases h:k=z.2.par
  .subst h;rw[EW rfl,EV (by rw[e3];simp),EW rfl]
  .rw[EV λe=>h<|Sum.inl.inj e,m.val k,e2 k h,EV h]
 .by_cases h:k=z.2.par
  .subst h;simp only[GG];show{by rw[ac,e3];rfl,j}
  .rw[e2 k h]at h2;simp only[EV h];show{?_,(m.at' k h1 h2).2};rw[aj<|g k h2,aj<|ld k h2,aj<|g k h2,e2 k h];show(m.at' k h1 h2).1
 .by_cases h:k=z.2.par
  .by_cases h':a=z.2.par
   .rw[h,h']
   .rw[e2 a h']at h3;simp only[EW h,EV h']at e;show absurd e.symm<|g a h3
  .rw[e2 k h]at h2
   by_cases h':a=z.2.par
   .simp only[EV h,EW h']at e;show absurd e<|g k h2
   .rw[e2 a h']at h3;simp only[EV h,EV h']at e;show m.inj k a (by simp) (by simp) h2 h3 e
 .show aJ j<|aJ m.d0 (m.same.trans<|ae c)
theorem uz{κ:Type}[DecidableEq κ](a:List<|κ×V)(k j:κ):aX (dA a k) j=if j=k then none else aX a j:=by
 induction a with
 |nil=>simp[dA,aX]
 |cons p r b =>
  by_cases e:p.1=k
  .rw[tZ e,b]
   by_cases h:j=k
   .rw[EW h,EW h]
   .rw[EV h,EV h,aY λz=>h<|z.symm.trans e]
  .rw[ua e]
   by_cases h:p.1=j
   .rw[bh h,EV λz=>e<|h.trans z,bh h]
   .rw[aY h,b,aY h]
theorem Mem.drop{H0 g:Hp}{d:zi}{b:Int->zi}{f:List (Key×V)}{xs:ZN}{dn:List Int}(m:Mem H0 g d b f xs dn)(x:Int):Mem H0 (upd g d<|.dK (dA f (Sum.inl x:Key))) d b (dA f (Sum.inl x:Key)) xs (x::dn):=by
 have ld:∀k,k∉dn->ins xs k≠[]->b k≠d:=λk c h e=>by
  have:=(m.at' k c h).1;rw[e,m.dict]at this;cases this
 have a:∀k,k∉x::dn->k∉dn:=λk h h'=>h<|FR _ h';show{ac,m.d0,GS (oY _ _) m.len,λk=>?_,λk h1 h2=>?_,λk i c h1 h2 h3 e=>m.inj k i (a k c) (a i h1) h2 h3 e,aJ m.d0 m.same}
 .rw[uz,m.val k]
  by_cases h:k=x
  .rw[EW (by rw[h]),EW<|.inl (by rw[h];simp)]
  .rw[EV λe=>h<|Sum.inl.inj e];simp[h]
 .rw[aj<|ld k (a k h1) h2];show m.at' k (a k h1) h2
theorem Mem.skip{H0 b:Hp}{d:zi}{c:Int->zi}{g:List (Key×V)}{xs:ZN}{dn:List Int}(m:Mem H0 b d c g xs dn){x:Int}(j:x∈dn\/ins xs x=[]):Mem H0 b d c g xs (x::dn):=by
 have a:∀k,k∉x::dn->k∉dn:=λk h h'=>h<|FR _ h';show{m.dict,m.d0,m.len,λk=>?_,λk h1 h2=>m.at' k (a k h1) h2,λk f i h1 h2 h3 e=>m.inj k f (a k i) (a f h1) h2 h3 e,m.same};rw[m.val k]
 by_cases h:k=x
 .subst h;rw[EW j,EW<|.inl (by simp)]
 .simp[h]
theorem wz{Q:VK}{H0 c:Hp}{d q:zi}{i:Int->zi}{b:List (Key×V)}{zs:ZN}{dn:List Int}{x:Int}(m:Mem H0 c d i b zs dn)(r:c q=some (.lst []))(k:∀l g t j,Mem H0 g d i t zs (x::dn)->g l=some (.lst<|aZ j)->nds j=TW.here (nds zs) dn x->(∀z∈j,z∈zs)->(∀p,p≠d->g p=c p)->(j=[]->l=q)->Q (.ref l) g):
  ∃b k,c d=some (.dK b)/\V.int x=kV k/\(∀v,aX b k=some v->Q v (upd c d<|.dK (dA b k)))/\(aX b k=none->Q (.ref q) c):=by
 show{b,.inl x,m.dict,rfl,λv f=>?_,λn=>?_}
 .rw[m.val x]at f
  by_cases h:x∈dn\/ins zs x=[]
  .rw[EW h]at f;cases f
  .rw[EV h]at f;have h1:x∉dn:=λz=>h<|.inl z;have h2:ins zs x≠[]:=λz=>h<|.inr z;cases f;have a:=(m.at' x h1 h2).1;have ld:i x≠d:=λe=>by rw[e,m.dict]at a;cases a
   show k (i x) _ _ (ins zs x) (m.drop x) (by rw[aj ld];show a) ?_ (λz s=>yH s) (λp o=>aj o) λe=>absurd e h2;rw[sN];unfold TW.here;rw[EV h1]
 .rw[m.val x]at n
  by_cases h:x∈dn\/ins zs x=[]
  .show k q _ _ [] (m.skip h) r ?_ (by simp) (λp _=>rfl) λ_=>rfl;unfold TW.here
   by_cases h1:x∈dn
   .rw[EW h1];rfl
   .rw[EV h1];rcases h with h|h
    .show absurd h h1
    .rw[<-sN,h]
  .rw[EV h]at n;cases n
theorem sO{d:Hp}{p f:zi}{c:ZN}{g:List Int}(j:d p=some (.lst<|g.map V.int))(b:d f=some (.lst<|aZ c))(h:c≠[]):f≠p:=by
 intro e;rw[e,j]at b;injection b with b
 injection b with b
 cases c with
 |nil=>show h rfl
 |cons a r =>
  cases g with
  |nil=>simp[aZ]at b
  |cons i k=>simp[aZ]at b
def mY(H:Hp)(p:zi):Nat:=match H p with
 |some (.lst xs)=>xs.length
 |_=>0
theorem iS{H:Hp}{p:zi}{xs:List V}(h:H p=some (.lst xs)):mY H p=xs.length:=by unfold mY;rw[h]
def dM(l:List Nd):List V:=(l.map (·.num)).map V.int
def ck(K:Frag)(b:Hp)(a:zi):Prop:=∃c:List Int,SqL K b a<|c.map V.int
theorem ck.same{K:Frag}{b H':Hp}{a:zi}(c:ck K b a)(s:Same b H'):ck K H' a:=let⟨d,e⟩:=c;⟨d,s.seq e⟩
theorem pR{ns:List Int}{i:Int}(a:0<=i)(b:i<ns.length):∃j,atI (ns.map V.int) i=some (.int j):=by
 show{ns[i.toNat]'(by lia),?_};have:=jR (xs:=ns.map V.int) (j:=i.toNat) (v:=.int<|ns[i.toNat]'(by lia)) (by rw[FE,ET (by lia)];rfl);rw[show((i.toNat:Nat):Int)=i by lia]at this;show this
def Has(P:qw)(w:qn)(K:Frag)(mg:Str->Option xx)(base:qb)(k:Nat)(x:Str)(ps:List Str)(sp:Sp):Prop:=∃f fd,FnOk P w K mg base CX0 k f fd ps sp/\mg x=some (.ref f)/\keepIn K (.ref f)=true/\aH K fd ps []
def yI(n:Nd):Prop:=1<=n.num/\n.num<=12/\(n.nm="a"\/n.nm="b"\/n.nm="c"\/n.nm="abcde")/\(n.st=none\/n.st=some 0\/n.st=some 1\/n.st=some 2\/n.st=some 999)
structure Bd(zs:ZN)(lf:List Int):Prop where
 built:TW.Built<|nds zs
 nd:((nds zs).map (·.num)++lf).Nodup
 rng:∀x∈lf,1<=x/\x<=12
 own:TW.dy<|nds zs
 ok:∀z∈zs,yI z.2
theorem Bd.skip{zs:ZN}{a:List Int}(b:Bd zs a)(i:Nat):Bd zs (a.eraseIdx i) :=
 {b.built,Nodup.sublist (Sublist.append (Sublist.refl _)<|List.eraseIdx_sublist a i) b.nd,λx c=>b.rng x<|(List.eraseIdx_sublist a i).mem c,b.own,b.ok}
theorem lc:∀{l:List Int}{i:Nat}{x:Int},l[i]?=some x->(x::l.eraseIdx i).Perm l
 |a::l,0,x,h=>by
  have:a=x:=by simpa using h
  subst this;show List.Perm.refl _
 |a::l,i+1,x,h=>by
  have h':l[i]?=some x:=by simpa using h
  show(List.Perm.swap a x _).trans (List.Perm.cons a<|lc h')
 |[],i,x,h=>by simp at h
theorem Bd.add{zs:ZN}{a:List Int}{i:Nat}{q:zi}{n:Nd}(b:Bd zs a)(f:a[i]?=some n.num)(r:n.par∈(0:Int)::TW.aR (nds zs))(p:∀z∈zs,¬(z.2.par=n.par/\z.2.nm=n.nm))(k:n.nm="a"\/n.nm="b"\/n.nm="c"\/n.nm="abcde")(l:n.st=none\/n.st=some 0\/n.st=some 1\/n.st=some 2\/n.st=some 999):Bd (zs++[(q,n)]) (a.eraseIdx i):=by
 have e:nds (zs++[(q,n)])=nds zs++[n]:=by simp[nds]
 have pm:=lc f;show{?_,?_,λx c=>b.rng x<|(List.eraseIdx_sublist a i).mem c,?_,λz d=>?_}
 .rw[e];show .snoc b.built ?_;rcases FU.mp r with h|h
  .show .inl h
  .show .inr<|TW.jE.mp h
 .rw[e,Fn,append_assoc];show((List.Perm.append_left _ pm).nodup_iff).mpr b.nd
 .rw[e];unfold TW.dy;rw[Fn,nodup_append];show{b.own,by simp,λx c y s=>?_};have g:y=(n.par,n.nm):=by simpa using s
  subst g;let(m,o,rfl):=EZ.mp c;let(z,d,rfl):=EZ.mp o;intro h;injection h with h1 h2
  show p z d ⟨h1,h2⟩
 .rcases Fd.mp d with h|h
  .show b.ok z h
  .have j:z=(q,n):=by simpa using h
   subst j;have:=b.rng n.num<|FP f;show⟨this.1,this.2,k,l⟩
def tp(z:zi×Nd):iO:=(z.1,z.2.num,[.int z.2.par,.str z.2.nm,stV z.2.st])
def un(t:iO):zi×Nd:=(t.1,match t.2.2 with
 |[.int p,.str s,.int i]=>⟨t.2.1,p,s,some i⟩
 |[.int p,.str s,_]=>⟨t.2.1,p,s,none⟩
 | _=>{0,0,"",none})
theorem zY(z:zi×Nd):un (tp z)=z:=by
 let(a,(n,p,s,st)):=z;cases st<;>rfl
theorem back{zs:ZN}{ts:List iO}(a:ts.Perm<|zs.map tp):(ts.map un).Perm zs/\(ts.map un).map tp=ts:=by
 constructor
 .have:=a.map un;rw[FD]at this;have e:zs.map (un∘tp)=zs.map id:=Fq λz _=>zY z;rw[e,List.map_id]at this;show this
 .rw[FD,Fq (g:=id)]
  .simp
  .intro t b;let(z,_,rfl):=EZ.mp<|a.mem_iff.mp b;change tp (un<|tp z)=tp z;rw[zY]
theorem jW(zs:ZN):((zs.map tp).map (·.1)).map V.ref=aZ zs:=by
 unfold aZ;simp only[FD];rfl
theorem AV{n:Nat}{j:Int}(a:0<=j)(b:j<n):seqIndex? j n=some j.toNat:=(sm (by unfold ixN;rw[EW a,EW b])).1
theorem mZ:∀(l:List Int)(i:Nat),(l.map V.int).eraseIdx i=(l.eraseIdx i).map V.int
 |[],i=>by simp
 |a::l,0=>rfl
 |a::l,i+1=>by
  change V.int a::(l.map V.int).eraseIdx i=V.int a::(l.eraseIdx i).map V.int;rw[mZ l i]
theorem sP{ns:List Int}{i:Int}(a:0<=i)(b:i<ns.length):∃x∈ns,atI (ns.map V.int) i=some (.int x):=by
 show{ns[i.toNat]'(by lia),Gk _,?_};have:=jR (xs:=ns.map V.int) (j:=i.toNat) (v:=.int<|ns[i.toNat]'(by lia)) (by rw[FE,ET (by lia)];rfl);rw[show((i.toNat:Nat):Int)=i by lia]at this;show this
theorem sQ{j:Int}(a:0<=j)(b:j<4):∃x:Str,(x="a"\/x="b"\/x="c"\/x="abcde")/\atI [V.str "a",.str "b",.str "c",.str "abcde"] j=some (.str x):=by
 obtain rfl|rfl|rfl|rfl:j=0\/j=1\/j=2\/j=3:=by lia
 .show{"a",.inl rfl,rfl}
 .show{"b",.inr<|.inl rfl,rfl}
 .show{"c",.inr<|.inr (.inl rfl),rfl}
 .show{"abcde",.inr<|.inr (.inr rfl),rfl}
theorem yJ{j:Int}(a:0<=j)(b:j<4):∃i:Int,(some i=none\/some i=some (0:Int)\/some i=some 1\/some i=some 2\/some i=some 999)/\atI [V.int 0,.int 1,.int 2,.int 999] j=some (.int i):=by
 obtain rfl|rfl|rfl|rfl:j=0\/j=1\/j=2\/j=3:=by lia
 .show{0,.inr<|.inl rfl,rfl}
 .show{1,.inr<|.inr (.inl rfl),rfl}
 .show{2,.inr<|.inr (.inr<|.inl rfl),rfl}
 .show{999,.inr<|.inr (.inr<|.inr rfl),rfl}
structure Sta(H:Hp)(pl pf pn:zi)(Hx:Hp)(lf fs:List Int)(zs:ZN):Prop where
 same:Same H Hx
 l:Hx pl=some (.lst<|lf.map V.int)
 f:Hx pf=some (.lst<|fs.map V.int)
 n:Hx pn=some (.lst<|aZ zs)
 nd:At Hx zs
 l0:H pl=none
 f0:H pf=none
 n0:H pn=none
 lf':pl≠pf
 ln':pl≠pn
 fn':pf≠pn
theorem Sta.grow{b c d:Hp}{pl g pn:zi}{e fs:List Int}{zs:ZN}(a:Sta b pl g pn c e fs zs)(s:Same c d):Sta b pl g pn d e fs zs :=
 ⟨a.same.trans s,s _ _ a.l,s _ _ a.f,s _ _ a.n,a.nd.same s,a.l0,a.f0,a.n0,a.lf',a.ln',a.fn'⟩
theorem At.over{a:Hp}{p:zi}{xs:List V}{o:HO}{zs:ZN}(b:At a zs)(d:a p=some (.lst xs)):At (upd a p o) zs:=λz c=>by
 rw[aj]
 .show b z c
 .intro e;have:=b z c;rw[e,d]at this;cases this
theorem Sta.pop{b c:Hp}{pl e pn:zi}{g fs:List Int}{zs:ZN}(a:Sta b pl e pn c g fs zs)(d:List Int):Sta b pl e pn (upd c pl<|.lst (d.map V.int)) d fs zs :=
 {aJ a.l0 a.same,ac,by rw[aj<|symm a.lf'];show a.f,by rw[aj<|symm a.ln'];show a.n,a.nd.over a.l,a.l0,a.f0,a.n0,a.lf',a.ln',a.fn'}
theorem Sta.fold{c d:Hp}{pl b pn:zi}{e fs:List Int}{zs:ZN}(a:Sta c pl b pn d e fs zs)(x:Int):Sta c pl b pn (upd d b<|.lst (fs.map V.int++[.int x])) e (fs++[x]) zs :=
 {aJ a.f0 a.same,by rw[aj a.lf'];show a.l,by rw[ac];simp,by rw[aj<|symm a.fn'];show a.n,a.nd.over a.f,a.l0,a.f0,a.n0,a.lf',a.ln',a.fn'}
theorem Sta.node{d b:Hp}{pl i pn q:zi}{g fs:List Int}{zs:ZN}{n:Nd}(a:Sta d pl i pn b g fs zs)(c:b q=some (.tup<|vals n)):Sta d pl i pn (upd b pn<|.lst (aZ zs++[.ref q])) g fs (zs++[(q,n)]) :=
 ⟨aJ a.n0 a.same,by rw[aj a.ln'];show a.l,by rw[aj a.fn'];show a.f,by rw[ac,jv],(λz m=>by
  rcases Fd.mp m with h|h
  .show a.nd.over a.n z h
  .have k:z=(q,n):=by simpa using h
   subst k;rw[aj]
   .show c
   .intro e;have j:q=pn:=e;rw[j,a.n]at c;cases c),a.l0,a.f0,a.n0,a.lf',a.ln',a.fn'⟩
def lf0(m:Int):List Int:=(List.range (m+4-1).toNat).map λk=>(1:Int)+(k:Nat)
theorem yK{m:Int}(h:0<=m):((lf0 m).length:Int)=m+3:=by unfold lf0;rw[ES,GH];lia
theorem yL{m:Int}(c:m<=9):∀x∈lf0 m,1<=x/\x<=12:=λx a=>by
 unfold lf0 at a;let(k,b,rfl):=EZ.mp a;have:=GC.mp b
 lia
theorem AW(m:Int):(lf0 m).Nodup:=by
 unfold lf0 Nodup;rw[Fh];show nodup_range.imp λh e=>h (by lia)
theorem Bd.zero{m:Int}(h:m<=9):Bd [] (lf0 m):={.nil,by change(([]:List Int)++lf0 m).Nodup;rw[List.nil_append];show AW m,yL h,by unfold TW.dy nds;simp,by simp}
def fk(zs:ZN):List (Key×V):=zs.map λz=>((Sum.inl z.2.num:Key),V.ref z.1)
theorem om{zs:ZN}(d:((nds zs).map (·.num)).Nodup){z:zi×Nd}(b:z∈zs):aX (fk zs) (Sum.inl z.2.num:Key)=some (.ref z.1):=by
 induction zs with
 |nil=>simp at b
 |cons y zs f =>
  have a:y.2.num∉(nds zs).map (·.num)/\((nds zs).map (·.num)).Nodup:=by simpa [nds]using d
  change aX (((Sum.inl y.2.num:Key),V.ref y.1)::fk zs) _=_;rcases FU.mp b with e|c
  .subst e;show bh rfl
  .rw[aY]
   .show f a.2 c
   .intro e;injection e with e
    show a.1<|EZ.mpr ⟨z.2,EZ.mpr ⟨z,c,rfl⟩,e.symm⟩
theorem rc{zs:ZN}{k:Int}(a:∀z∈zs,z.2.num≠k):aX (fk zs) (Sum.inl k:Key)=none:=by
 induction zs with
 |nil=>rfl
 |cons y zs c =>
  change aX (((Sum.inl y.2.num:Key),V.ref y.1)::fk zs) _=_;rw[aY]
  .show c λz b=>a z<|FR _ b
  .intro e;injection e with e
   show a y (by simp) e
def re(H:Hp)(d:zi)(zs:ZN):Prop:=∃o,H d=some (.frz o<|.dK (fk zs))
theorem re.get{a:Hp}{d:zi}{zs:ZN}(b:re a d zs)(c:((nds zs).map (·.num)).Nodup){z:zi×Nd}(f:z∈zs):cY a d (.int z.2.num) (some<|.ref z.1):=by
 let(o,e):=b;show .inl {fk zs,Sum.inl z.2.num,.inr ⟨o,e⟩,rfl,(om c f).symm}
theorem re.not{a:Hp}{d:zi}{zs:ZN}(b:re a d zs){k:Int}(c:∀z∈zs,z.2.num≠k):cY a d (.int k) none:=by
 let(o,e):=b;show .inl {fk zs,Sum.inl k,.inr ⟨o,e⟩,rfl,(rc c).symm}
theorem bO{ns:List Nd}(T:TW.Tree1 ns):(ns.map (·.num)).Nodup:=by
 have h:=T.rise;unfold TW.bK at h;unfold Nodup;rw[Fh];show h.imp λh e=>by lia
theorem yM{ys:List V}{zs:ZN}{e:Hp}{p:zi}{g:zi×Nd->List V}(d:ys.length=zs.length)(f:∀(i:Nat) y,ys[i]?=some y->∃q z,zs[i]?=some z/\y=.ref q/\q≠p/\e q=some (.tup<|g z)):
  ∃b:List<|zi×(zi×Nd),b.map (·.2)=zs/\ys=(b.map (·.1)).map V.ref/\∀a∈b,a.1≠p/\e a.1=some (.tup<|g a.2):=by
 induction ys generalizing zs with
 |nil =>
  have:zs=[]:=GY.mp d.symm;subst this;show{[],rfl,rfl,by simp}
 |cons y ys n =>
  cases zs with
  |nil=>simp at d
  |cons z zs =>
   let(b,e1,e2,e3):=n (zs:=zs) (by simpa using d) λi x m=>by simpa using f (i+1) x (by simpa using m)
   let(q,z',h,j,k,l):=f 0 y rfl;have:z=z':=by simpa using h
   subst this;show{(q,z)::b,by simp[e1],by simp[e2,j],λa c=>?_};rcases FU.mp c with rfl|c
   .show⟨k,l⟩
   .show e3 a c
theorem lg{κ:Type}[DecidableEq κ]{a:List (κ×V)}(d:(a.map (·.1)).Nodup){k:κ}{v:V}(b:(k,v)∈a):aX a k=some v:=by
 induction a with
 |nil=>simp at b
 |cons y a f =>
  have c:y.1∉a.map (·.1)/\(a.map (·.1)).Nodup:=by simpa using d
  rcases FU.mp b with e|h'
  .subst e;show bh rfl
  .rw[aY]
   .show f c.2 h'
   .intro e;show c.1<|EZ.mpr ⟨_,h',e.symm⟩
theorem sR{κ:Type}[DecidableEq κ]{a:List (κ×V)}{k:κ}(b:k∉a.map (·.1)):aX a k=none:=by
 induction a with
 |nil=>rfl
 |cons y a c =>
  have h':¬k=y.1/\k∉a.map (·.1):=by simpa using b
  rw[aY λe=>h'.1 e.symm];show c h'.2
theorem yN{zs:ZN}{k:Int}{q:List Str}(T:TW.Tree1<|nds zs)(a:TW.PathTo (nds zs) k q)(b:k≠0):∃z∈zs,z.2.num=k/\∃q',q=q'++[z.2.nm]/\TW.PathTo (nds zs) z.2.par q':=by
 cases a with
 |top=>show absurd rfl b
 |@node n q' hm hq' =>
  let(z,c,rfl):=EZ.mp hm;show⟨z,c,rfl,q',rfl,hq'⟩
def eI(P:qw)(w:qn)(K:Frag)(mg:Str->Option xx)(base:qb)(k:Nat)(x:Str)(ps:List Str)(sp:Sp):Prop:=∃f fd,FnOk P w K mg base (CX1 P w) k f fd ps sp/\mg x=some (.ref f)/\keepIn K (.ref f)=true/\aH K fd ps []
structure Tre(H:Hp)(t:zi)(zs:ZN):Prop where
 tup:H t=some (.tup<|aZ zs)
 nod:At H zs
 tr:TW.Tree1<|nds zs
 len:zs.length<=30
theorem Tre.same{H H':Hp}{t:zi}{zs:ZN}(h:Tre H t zs)(s:Same H H'):Tre H' t zs:=⟨s _ _ h.tup,h.nod.same s,h.tr,h.len⟩
theorem uA{ns:List Nd}(T:TW.Tree1 ns){f:Int}{b:List Int}{a:List Nd}(c:TW.Walk ns f b a []):(a.map (·.num)).Nodup:=by
 have h:=bO T;have:(a.map (·.num)).Perm ((ns.filter<|TW.eu b).map (·.num)):=c.perm.map _;show this.nodup_iff.mpr<|h.sublist (filter_sublist.map _)
theorem _root_.L2.Same.rd{H H':Hp}(s:Same H H'){a:zi}{u:HO}(r:Rd H a u):Rd H' a u:=by
 rcases r with r|⟨o,r⟩
 .show .inl<|s _ _ r
 .show .inr ⟨o,s _ _ r⟩
def aW(b:List<|zi×(zi×Nd)):List (Key×V):=b.map λa=>((Sum.inl a.2.2.num:Key),V.ref a.1)
def aL(n:Nd):List V:=[.int n.par,.str n.nm,stV n.st]
structure Book(H:Hp)(d:zi)(as:List<|zi×(zi×Nd))(zs:ZN):Prop where
 dict:Rd H d<|.dK (aW as)
 of:as.map (·.2)=zs
 at':∀a∈as,H a.1=some (.tup<|aL a.2.2)
theorem Book.same{c H':Hp}{d:zi}{e:List (zi×(zi×Nd))}{zs:ZN}(b:Book c d e zs)(s:Same c H'):Book H' d e zs:={s.rd b.dict,b.of,λa f=>s _ _<|b.at' a f}
theorem ip{a:List (zi×(zi×Nd))}{zs:ZN}(b:a.map (·.2)=zs):(aW a).map (·.1)=((nds zs).map (·.num)).map (Sum.inl:Int->Key):=by
 rw[<-b];unfold aW nds;simp only[FD];rfl
theorem wA{b:List (zi×(zi×Nd))}{zs:ZN}(a:b.map (·.2)=zs)(c:((nds zs).map (·.num)).Nodup):((aW b).map (·.1)).Nodup:=by
 rw[ip a];unfold Nodup at c|-;rw[Fh];show c.imp λa e=>a (by injection e)
theorem Book.get{c:Hp}{d:zi}{e:List (zi×(zi×Nd))}{zs:ZN}(b:Book c d e zs)(g:((nds zs).map (·.num)).Nodup){z:zi×Nd}(h:z∈zs):∃q,cY c d (.int z.2.num) (some<|.ref q)/\c q=some (.tup<|aL z.2):=by
 have:z∈e.map (·.2):=by rw[b.of];show h
 let(a,f,rfl):=EZ.mp this;show{a.1,.inl {aW e,Sum.inl a.2.2.num,b.dict,rfl,?_},b.at' a f};show(lg (wA b.of g)<|EZ.mpr ⟨a,f,rfl⟩).symm
theorem Book.not{a:Hp}{d:zi}{c:List (zi×(zi×Nd))}{zs:ZN}(b:Book a d c zs){k:Int}(g:∀z∈zs,z.2.num≠k):cY a d (.int k) none:=by
 show .inl {aW c,Sum.inl k,b.dict,rfl,(sR λf=>?_).symm};rw[ip b.of]at f;let(i,hi,e):=EZ.mp f;let(n,h,rfl):=EZ.mp hi;let(z,j,rfl):=EZ.mp h;injection e with e
 show g z j e
def wB(ns:List Nd)(k:Int):Nat:=open Classical in if h:∃p,TW.PathTo ns k p then (Classical.choose h).length else 0
theorem sS{ns:List Nd}(T:TW.Tree1 ns){k:Int}{p:List Str}(a:TW.PathTo ns k p):wB ns k=p.length:=by
 unfold wB;have b:∃p,TW.PathTo ns k p:=⟨p,a⟩;rw[dif_pos b];rw[(Classical.choose_spec b).uniq T a]
theorem Eo(n:Nd):atI (aL n) 0=some (.int n.par):=rfl
abbrev jF(x:Str)(mg:Str->Option xx)(base:qb)(C:zi):Prop:=PyProof.Rows.OwnCls x C bmV "ValueError.__new__" mg base
theorem sT(o:Option Int):(!decide (stV o=V.non))=o.isSome:=by cases o<;>simp[stV]
theorem cf(zs:ZN):zs.map (λz=>V.ref z.1)=aZ zs:=by simp[aZ]
def Ep:TW.Wd->Str
 |.known=>"Known"
 |.noNode=>"NoNode"
 |.notFile=>"NotFile"
 |.notFolder=>"NotFolder"
 |.inside=>"Inside"
 |.taken=>"Taken"
abbrev yO(mg:Str->Option xx)(base:qb)(cls:TW.Wd->zi):Prop:=∀w,jF (Ep w) mg base<|cls w
structure Outs(H:Hp)(t:List Nd)(d:TW.Deed Str)(cls:TW.Wd->zi)(Q:VK)(E:XK):Prop where
 ok:∀us t' H',Same H H'->H' t'=some (.tup<|aZ us)->At H' us->TW.Told t d (.inr<|nds us)->Q (.ref t') H'
 no:∀w H',Same H H'->TW.Told t d (.inl w)->E (.ref<|cls w) none H'
theorem jG{K:Frag}{c:Hp}{l:zi}{zs:ZN}{Q:VK}(f:SqL K c l (aZ zs)\/SqT K c l (aZ zs))(k:At c zs)(t:((nds zs).map (·.num)).Nodup)(s:zs.length<64)(q:∀us t' H',Same c H'->H' t'=some (.tup<|aZ us)->At H' us->us.Perm zs->TW.bK (nds us)->Q (.ref t') H'):
  ∃i,∃d:List iO,[V.ref l]=[V.ref i]/\(SqL K c i ((d.map (·.1)).map V.ref)\/SqT K c i ((d.map (·.1)).map V.ref))/\(∀z∈d,c z.1=some (.tup (.int z.2.1::z.2.2)))/\(d.map (·.2.1)).Nodup/\d.length<64 /\
   ∀e:List iO,e.Perm d->e.Pairwise (λa b=>a.2.1<b.2.1)->∀p,c p=none->∃g ys,[V.ref p]=[V.ref g]/\((SqL K (upd c p<|.lst ((e.map (·.1)).map V.ref)) g ys/\∀l,upd c p (.lst<|(e.map (·.1)).map V.ref) l=none->Q (.ref l) (upd (upd c p<|.lst ((e.map (·.1)).map V.ref)) l<|.tup ys)) \/
    (SqT K (upd c p<|.lst ((e.map (·.1)).map V.ref)) g ys/\Q (.ref g) (upd c p<|.lst ((e.map (·.1)).map V.ref)))):=by
 have u:(zs.map tp).map (·.2.1)=(nds zs).map (·.num):=by
  unfold nds;simp only[FD];rfl
 show{l,zs.map tp,rfl,by rw[jW];show f,λz h=>?_,by rw[u];show t,by rw[ES];show s,λd pm w p m=>?_}
 .let(y,v,rfl):=EZ.mp h;show k y v
 .let(n,j):=back pm;have r:(d.map (·.1)).map V.ref=aZ (d.map un):=by rw[<-jW,j]
  rw[r];show{p,_,rfl,.inl {SqL.of ac,λl f=>?_}};show q (d.map un) l _ ((ae m).trans (ae f)) ac ?_ n ?_
  .intro z h;show((ae m).trans (ae f)) _ _ (k z<|n.mem_iff.mp h)
  .unfold nds TW.bK;rw[Fh];have o:((d.map un).map tp).Pairwise (λa b=>a.2.1<b.2.1):=by rw[j];show w
   rw[Fh]at o;show o
def aQ:TW.Deed Str->List V
 |.make n p nm st=>[.str "make",.int n,.int p,.str nm,stV st]
 |.write n st=>[.str "write",.int n,.int st]
 |.move n p nm=>[.str "move",.int n,.int p,.str nm]
 |.drop n=>[.str "drop",.int n]
def dN:TW.Deed Str->Prop
 |.make n p nm _=>1<=n/\n<=60/\0<=p/\p<=60/\nm.length<=100
 |.write n _=>1<=n/\n<=60
 |.move n p nm=>1<=n/\n<=60/\0<=p/\p<=60/\nm.length<=100
 |.drop n=>1<=n/\n<=60
theorem dN.pos{d:TW.Deed Str}(h:dN d):d.pos:=by
 cases d<;>first|show h.1|trivial
theorem bQ{zs:ZN}{z:zi×Nd}(h:z∈zs):z.2∈nds zs:=EZ.mpr ⟨z,h,rfl⟩
theorem gv{zs:ZN}{n:Nd}(h:n∈nds zs):∃z∈zs,z.2=n:=EZ.mp h
theorem cO{zs:ZN}{k:Int}(a:¬∃z∈zs,z.2.num=k):¬TW.cy (nds zs) k:=λ⟨m,b,e⟩=>by
 let(z,c,rfl):=gv b;show a ⟨z,c,e⟩
theorem eZ{zs:ZN}{k:Int}{z:zi×Nd}(a:z∈zs)(e:z.2.num=k):TW.cy (nds zs) k:=⟨z.2,bQ a,e⟩
def hV:TW.Wd->Str
 |.known=>"known"
 |.noNode=>"no node"
 |.notFile=>"not file"
 |.notFolder=>"not folder"
 |.inside=>"inside"
 |.taken=>"taken"
def bU(bs:List<|zi×Nd):List (Key×V):=bs.map λb=>((Sum.inl b.2.num:Key),V.ref b.1)
theorem oo(b:List<|zi×(zi×Nd)):aW b=bU (b.map λa=>(a.1,a.2.2)):=by
 unfold aW bU;rw[FD];rfl
theorem lh(bs:List<|zi×Nd):(bU bs).map (λp=>kV p.1)=bs.map λb=>V.int b.2.num:=by
 unfold bU;rw[FD];rfl
theorem nc{bs:List (zi×Nd)}(a:(bs.map (·.2.num)).Nodup){b:zi×Nd}(c:b∈bs):aX (bU bs) (Sum.inl b.2.num:Key)=some (.ref b.1):=by
 show lg ?_<|EZ.mpr ⟨b,c,rfl⟩;unfold bU;rw[FD];unfold Nodup at a|-;rw[Fh]at a|-;show a.imp λh e=>h (by injection e)
theorem uB(bs:List<|zi×Nd)(c:zi)(n:Nd):bJ (bU bs) (Sum.inl n.num:Key) (.ref c)=bU (if ∃b∈bs,b.2.num=n.num then bs.map (λb=>if b.2.num=n.num then (c,n)else b)else bs++[(c,n)]):=by
 unfold bJ
 by_cases h:∃b∈bs,b.2.num=n.num
 .let(b,d,e):=h;have a:((bU bs).any λf=>decide<|f.1=(Sum.inl n.num:Key))=true:=by
   rw[GK];show{_,EZ.mpr ⟨b,d,rfl⟩,by simp[e]}
  rw[EW a,EW ⟨b,d,e⟩];unfold bU;rw[FD,FD];apply Fq;intro x _;change(if (Sum.inl x.2.num:Key)=Sum.inl n.num then ((Sum.inl x.2.num:Key),V.ref c)else ((Sum.inl x.2.num:Key),V.ref x.1))=_
  by_cases e:x.2.num=n.num
  .rw[EW (by rw[e])];change _=((Sum.inl (if x.2.num=n.num then (c,n)else x).2.num:Key),V.ref (if x.2.num=n.num then (c,n)else x).1)
   rw[EW e,e]
  .rw[EV λh=>e (by injection h)];change _=((Sum.inl (if x.2.num=n.num then (c,n)else x).2.num:Key),V.ref (if x.2.num=n.num then (c,n)else x).1)
   rw[EV e]
 .have a:¬((bU bs).any λf=>decide<|f.1=(Sum.inl n.num:Key))=true:=λa=>h (by
   let(y,i,e):=GK.mp a;let(b,d,rfl):=EZ.mp i;have g:(Sum.inl b.2.num:Key)=Sum.inl n.num:=by simpa using e
   show{b,d,by injection g})
  rw[EV a,EV h];unfold bU;rw[Fn];rfl
theorem AX(n:Nd):atI (aL n) 2=some (stV n.st):=rfl
theorem pS{i:Hp}{d q:zi}{g:List (zi×(zi×Nd))}{zs:ZN}{new:Nd}(hd:i d=some (.dK<|aW g))(t:g.map (·.2)=zs)(z:∀a∈g,i a.1=some (.tup<|aL a.2.2))(n:i q=some (.tup<|aL new))(C:((nds zs).map (·.num)).Nodup):
  ∃bs:List<|zi×Nd,upd i d (.dK<|bJ (aW g) (Sum.inl new.num:Key) (.ref q)) d=some (.dK<|bU bs)/\(∀b∈bs,upd i d (.dK<|bJ (aW g) (Sum.inl new.num:Key) (.ref q)) b.1=some (.tup<|aL b.2))/\(bs.map (·.2.num)).Nodup/\bs.length<=zs.length+1 /\
   ((TW.cy (nds zs) new.num/\bs.map (·.2)=(nds zs).map (TW.put new))\/(¬TW.cy (nds zs) new.num/\bs.map (·.2)=nds zs++[new])):=by
 have k:(g.map λa=>(a.1,a.2.2)).map (·.2)=nds zs:=by rw[<-t];unfold nds;rw[FD,FD];rfl
 have A:(g.map λa=>(a.1,a.2.2)).length=zs.length:=by rw[<-t,ES,ES]
 have o:∀a xs,i a=some (.tup xs)->a≠d:=λa xs h e=>by rw[e,hd]at h;cases h
 have l:∀b∈g.map (λa=>(a.1,a.2.2)),i b.1=some (.tup<|aL b.2):=λb f=>by
  let(a,w,rfl):=EZ.mp f;show z a w
 rw[oo,uB];generalize g.map (λa=>(a.1,a.2.2))=j at k A l|-;have r:(∃b∈j,b.2.num=new.num)↔TW.cy (nds zs) new.num:=by
  rw[<-k];constructor
  .rintro⟨b,f,e⟩;show{b.2,EZ.mpr ⟨b,f,rfl⟩,e}
  .rintro⟨m,B,e⟩;let(b,f,rfl):=EZ.mp B;show⟨b,f,e⟩
 have s:(j.map (·.2.num)).Nodup:=by
  have:j.map (·.2.num)=(nds zs).map (·.num):=by rw[<-k,FD];rfl
  rw[this];show C
 by_cases h:∃b∈j,b.2.num=new.num
 .rw[EW h];show{_,ac,λb f=>?_,?_,by rw[ES];lia,.inl {r.mp h,?_}}
  .let(c,p,rfl):=EZ.mp f
   by_cases e:c.2.num=new.num
   .rw[EW e,aj<|o _ _ n];show n
   .rw[EV e,aj<|o _ _ (l c p)];show l c p
  .have:(j.map λb=>if b.2.num=new.num then (q,new)else b).map (·.2.num)=j.map (·.2.num):=by
    rw[FD];apply Fq;intro c _;change(if c.2.num=new.num then (q,new)else c).2.num=c.2.num
    by_cases e:c.2.num=new.num
    .rw[EW e];show e.symm
    .rw[EV e]
   rw[this];show s
  .rw[<-k,FD,FD];apply Fq;intro c _;change(if c.2.num=new.num then (q,new)else c).2=TW.put new c.2
   unfold TW.put
   by_cases e:c.2.num=new.num
   .rw[EW e,EW e]
   .rw[EV e,EV e]
 .rw[EV h];show{_,ac,λb f=>?_,?_,by rw[FI];simp;lia,.inr {λx=>h<|r.mpr x,by rw[Fn,k];rfl}}
  .rcases Fd.mp f with f|f
   .rw[aj<|o _ _ (l b f)];show l b f
   .have e:b=(q,new):=by simpa using f
    subst e;rw[aj<|o _ _ n];show n
  .rw[Fn,nodup_append];show{s,by simp,λx D y E e=>?_};have v:y=new.num:=by simpa using E
   let(b,f,u):=EZ.mp D;show h {b,f,by rw[u,e,v]}
def li(t:List Nd)(dd:TW.Deed Str)(n p:Int)(nm:Str):Prop:=(∃st,dd=.make n p nm st/\¬TW.cy t n)\/(dd=.move n p nm/\TW.cy t n)
theorem li.no{t:List Nd}{dd:TW.Deed Str}{n p:Int}{nm:Str}(d:li t dd n p nm)(b:p≠0)(c:¬TW.cy t p):TW.Told t dd (.inl .noNode):=by
 rcases d with⟨st,rfl,a⟩|⟨rfl,a⟩
 .show .mNo a b c
 .show .vNoP a b c
theorem li.file{t:List Nd}{dd:TW.Deed Str}{n p:Int}{nm:Str}(f:li t dd n p nm)(b:p≠0){m:Nd}(c:m∈t)(e:m.num=p)(d:m.st≠none):TW.Told t dd (.inl .notFolder):=by
 rcases f with⟨st,rfl,a⟩|⟨rfl,a⟩
 .show .mFile a b c e d
 .show .vFile a b c e d
def NotIn(t:List Nd)(dd:TW.Deed Str)(n p:Int):Prop:=(∃nm,dd=.move n p nm)->p≠0->¬TW.Und t n p
theorem li.taken{t:List Nd}{dd:TW.Deed Str}{n p:Int}{nm:Str}(d:li t dd n p nm)(b:TW.io t p)(e:NotIn t dd n p){m:Nd}(c:m∈t)(f:m.num≠n)(e1:m.par=p)(e2:m.nm=nm):TW.Told t dd (.inl .taken):=by
 rcases d with⟨st,rfl,a⟩|⟨rfl,a⟩
 .show .mTaken a b c e1 e2
 .show .vTaken a b (e ⟨_,rfl⟩) c f e1 e2
def lY(x:Str):Prop:=x="a"\/x="b"\/x="c"\/x="abcde"
def yP(s:Option Int):Prop:=∀i,s=some i->0<=i/\i<=999
def eJ(n:Nd):Prop:=1<=n.num/\n.num<=60/\lY n.nm/\yP n.st
def bX:TW.Deed Str->Prop
 |.make n p nm st=>1<=n/\n<=60/\0<=p/\p<=60/\lY nm/\yP st
 |.write n st=>1<=n/\n<=60/\0<=st/\st<=999
 |.move n p nm=>1<=n/\n<=60/\0<=p/\p<=60/\lY nm
 |.drop n=>1<=n/\n<=60
theorem lY.len{x:Str}(h:lY x):x.length<=100:=by
 rcases h with rfl|rfl|rfl|rfl<;>decide +kernel
theorem bX.ok{d:TW.Deed Str}(a:bX d):dN d:=by
 cases d with
 |make n p nm st=>let(h1,h2,h3,b,c,_):=a;show⟨h1,h2,h3,b,c.len⟩
 |write n st=>show⟨a.1,a.2.1⟩
 |move n p nm=>let(h1,h2,h3,b,c):=a;show⟨h1,h2,h3,b,c.len⟩
 |drop n=>show a
theorem eJ.told{t u:List Nd}{d:TW.Deed Str}(b:∀n∈t,eJ n)(hd:bX d)(h:TW.Told t d<|.inr u):∀n∈u,eJ n:=by
 show h.all b (λn p nm st e=>?_) (λn st e y c g=>?_) λn p nm e y c g=>?_
 .subst e;let(h1,h2,h3,f,a,j):=hd;show⟨h1,h2,a,j⟩
 .subst e;let(h1,h2,h3,f):=hd;show{h1,h2,(b y c).2.2.1,λi e=>by injection e with e;lia}
 .subst e;let(h1,h2,h3,f,a):=hd;show{h1,h2,a,(b y c).2.2.2}
theorem yI.ok{n:Nd}(a:yI n):eJ n:=by
 let(h1,h2,h3,b):=a;show{h1,by lia,h3,λi e=>?_};rcases b with a|a|a|a|a<;>rw[a]at e<;>cases e<;>decide
theorem sU{ns:List Int}{i:Int}(a:0<=i)(b:i<ns.length){P:Int->Prop}(c:∀x∈ns,P x):∃x,atI (ns.map V.int) i=some (.int x)/\P x:=by
 let(x,d,e):=sP a b;show{x,e,c x d}
end TK
namespace L2
open PySem
theorem fsc{N P:List Str}{sc:Scope}(a:sc.kind=.function:=by rfl)(b:sc.isCoroutine=false:=by rfl)(c:sc.isGenerator=false:=by rfl)(d:N.Nodup:=by decide +kernel)(e:N.take P.length=P:=by rfl)(f:∀x∈P,sc.names.lookup x=some .local\/sc.names.lookup x=some .cell:=by decide +kernel)(g:∀y∈sc.names,y.2≠.free:=by decide +kernel):FnScope N P sc:=⟨a,b,c,d,e,f,g⟩
section
variable{X:Cx}{scope:Scope}{x:Str}{px pos:Pos}{elt iter c:Expr}{wi:TI}{te:TE}{tc:TT}{cl:List (Str×zi)}{js:List Nat}{fs:List Str}
structure LcF(X:Cx)(scope:Scope)(x:Str)(px:Pos)(cl:List<|Str×zi)(js:List Nat)(fs:List Str):Prop where
 c:X.calm=true
 L:LcOk X scope cl
 n:(x::fs).length=1+js.length
 j:∀(i j:Nat) y,js[i]?=some j->(x::fs)[1+i]?=some y->X.N[j]?=some y/\Vis X.env.scope y/\X.env.scope.names.lookup y≠some .local/\((relabel scope X.env).names.lookup y=some .cell\/(relabel scope X.env).names.lookup y=some .free)
 g:∀s H fp,PG (cx X (x::fs) scope cl s H fp) (.Name x px)<|dk 0
theorem lcS(e:X.calm=true:=by rfl)(a:scope.kind=.function:=by rfl)(b:∀y∈scope.names,y.2≠.free:=by decide +kernel)(c:∀y∈scope.names,y.2≠.cell:=by decide +kernel)(d:∀x∈scope.names,x.2=.local->scope.names.lookup x.1=some .local:=by decide +kernel)(g:∀n,Loc (compEnvC scope [] n X.env).scope x:=by intro _;show Or.inl rfl)(f:∀n,(compEnvC scope [] n X.env).scope.names.lookup x=some .local:=by intro _;rfl):LcF X scope x px [] [] [] :=
 {e,wg a b c d,rfl,λi j y h=>by simp at h,λs H fp=>bx (i:=0) (GW.mpr ⟨Gb,nodup_nil⟩) rfl (g _)<|.inr (f _)}
theorem lcF(r:X.calm=true:=by rfl)(d:scope.kind=.function:=by rfl)(f:closureFor scope X.env=pure cl:=by rfl)(g:∀x∈scope.names,x.2=.local->scope.names.lookup x.1=some .local:=by decide +kernel)(j:∀x∈scope.names,x.2≠.cell:=by decide +kernel)(k:∀y∈cl,X.env.cells.lookup y.1=some y.2:=by intro y a;repeat (first|cases a;done|(rcases FU.mp a with e|a;· rw[e];rfl)))(l:cl.map (·.1)=fs.reverse:=by rfl)(m:scope.names.all (λy=>!(y.2==.free)||fs.reverse.contains y.1)=true:=by decide +kernel)(o:(x::fs).length=1+js.length:=by rfl)(q:∀p∈js.zip fs,X.N[p.1]?=some p.2/\Vis X.env.scope p.2/\X.env.scope.names.lookup p.2≠some .local/\((relabel scope X.env).names.lookup p.2=some .cell\/(relabel scope X.env).names.lookup p.2=some .free):=by intro p b;repeat (first|cases b;done|(rcases FU.mp b with e|b;· rw[e];show⟨rfl,Or.inr<|Or.inl rfl,(λh=>by first|show absurd (show some NameKind.cell=some NameKind.local from h) (by decide)|show absurd (show some NameKind.free=some NameKind.local from h) (by decide)),by first|show Or.inl rfl|show Or.inr rfl⟩)))(v:(x::fs).Nodup:=by decide +kernel)(u:∀n,Loc (compEnvC scope cl n X.env).scope x:=by intro _;show Or.inl rfl)(t:∀n,(compEnvC scope cl n X.env).scope.names.lookup x=some .local:=by intro _;rfl):LcF X scope x px cl js fs :=
 {r,LcOk.mk' fs.reverse d f g j k l m,o,λi c y hi a=>q (c,y) (by
  rw[show(x::fs)[1+i]?=fs[i]? by rw[Nat.add_comm];rfl]at a;show FP (List.getElem?_zip_eq_some.mpr ⟨hi,a⟩:(js.zip fs)[i]?=some (c,y))),λs H fp=>bx (i:=0) v rfl (u _)<|.inr (t _)}
theorem de(a:LcF X scope x px cl js fs)(d:PI X (.Name x px) iter wi)(b:∀s H fp,PE (cx X (x::fs) scope cl s H fp) elt te)(e:∀x,foldedSetIterable iter X.env x=pure x:=by intro _;rfl):PE X (.ListComp elt [{.Name x px,iter,[],0}] scope pos) (tLc 1 js wi (dk 0) te):=zU a.c a.L a.n a.j d a.g b e
theorem gS(a:LcF X scope x px cl js fs)(d:PI X (.Name x px) iter wi)(f:∀s H fp,PT (cx X (x::fs) scope cl s H fp) c tc)(b:∀s H fp,PE (cx X (x::fs) scope cl s H fp) elt te)(e:∀x,foldedSetIterable iter X.env x=pure x:=by intro _;rfl):PE X (.ListComp elt [{.Name x px,iter,[c],0}] scope pos) (De 1 js wi (dk 0) tc te):=AG a.c a.L a.n a.j d a.g f b e
theorem AY{d b:Pos}{y:Str}{ii:Nat}(a:LcF X scope x px cl js fs)(e:X.N.Nodup)(i:PI X (.Name x px) iter wi)(f:∀s H fp,PE (cx X (x::fs) scope cl s H fp) elt te)(k:X.N[ii]?=some y:=by rfl)(o:Loc X.env.scope y:=by show Or.inl rfl)(l:∀x,foldedSetIterable iter X.env x=pure x:=by intro _;rfl)(m:swapsWith (.ListComp elt [{.Name x px,iter,[],0}] scope pos) (some<|.Name y b) d.line X.env=pure true:=by rfl)(h:X.fn y=true\/X.env.scope.names.lookup y=some .local:=by first|show .inl rfl|show .inr rfl|assumption):PS X (.Assign [.Name y b] (.ListComp elt [{.Name x px,iter,[],0}] scope pos) d) (uY (tLc 1 js wi (dk 0) te)<|dk ii):=wq e k o a.c a.L a.n a.j i a.g f l m h
theorem ixT{a b:Expr}{c d:TE}(K:Frag)(f:PE X a c)(g:PE X b d)(h:sr b:=by show λ_ _=>rfl)(e:X.K=K:=by rfl):PE X (.Subscript a b pos) (tOp (vx K) c d):=by
 subst e;show dW Av f g h
end
end L2
namespace TK
open PySem L2
theorem bu{X:Cx}{k:Nat}{y:Str}{ps:List Str}{sp:Sp}{e:Expr}{a:List Expr}{p pos:Pos}{t:TA}(C:Has X.prog X.w X.K X.mg X.base k y ps sp)(j:Room k X.A)(c:PA X (e::a) t)(h:Gl X y:=by rfl)(d:(y==("__debug__":Str))=false:=by decide)(g:starEach (e::a) X.env=(false,eval e X.env)::starEach a X.env:=by rfl)(i:(backTo pos<|starEach a X.env).any (·.1)=false:=by rfl):
  PE X (.Call (.Name y p) (e::a) [] pos) (ml sp [] E0 t):=by
 let(f,fd,G,m,l,b):=C;show bd G j h m l b .nil cK c d g i
theorem _root_.L2.Fun.okA{P:qw}{w:qn}{K:Frag}{mg:Str->Option xx}{base:qb}{x qual:Str}{st:Stmt}{f:zi}{a:qa}{N ps:List Str}{k:Nat}{sp:Sp}(F:Fun K x qual st f a)(S:FnScope N ps<|ak st)(b:∀(cdv:xx) (A:qd) (outer:List Env) (s:xg) (H:Hp) (vs:List V) (Q:VK) (E:XK),Room k (A.deeper<|PyProof.Rows.envOfC qual (ak st) s.heap.objs.size f cdv)->sp vs H Q E ->
   ∃t,PSs (fY CX0 P w K mg base N qual (ak st) f cdv A outer s H E).nox (bg st) t/\t {nx:=λ_ H'=>Q .non H',rt:=Q} (start N vs) H)(c:∀vs H Q E,sp vs H Q E->vs.length=ps.length:=by intro vs H Q E h;repeat first|(let(rfl,_):=h;rfl)|let(_,h):=h):FnOk P w K mg base CX0 (k+1) f a ps sp:=F.ok S c b
def top(i:Nat):Stmt:=PySem.Challenge.pw_treewatch_k84_whole_ledgers.main.body.getD i<|.Pass ⟨0,0,0,0⟩
abbrev fm:Stmt:=cJ (top 46) 0
abbrev eK:Stmt:=cJ (top 46) 1
abbrev iq:Stmt:=cJ (top 46) 2
abbrev gw:Stmt:=cJ (top 46) 3
abbrev dO:Stmt:=cJ (top 46) 4
abbrev dh:Stmt:=cJ (top 46) 5
abbrev fo:Stmt:=cJ (top 46) 6
abbrev gB:Stmt:=cJ (top 46) 7
abbrev fq:Stmt:=cJ (top 46) 8
abbrev eM:Stmt:=cJ (top 46) 9
abbrev eN:Stmt:=cJ (top 46) 13
abbrev rf:Stmt:=top 20
abbrev wC:Stmt:=top 21
abbrev rg:Stmt:=top 22
abbrev wD:Stmt:=top 23
abbrev wE:Stmt:=top 24
abbrev AZ:Stmt:=top 25
abbrev Ba:Stmt:=top 26
abbrev wF:Stmt:=top 27
abbrev Bb:Stmt:=top 28
abbrev Bc:Stmt:=top 29
abbrev Be:Stmt:=top 30
abbrev Bf:Stmt:=top 31
abbrev cP:Stmt:=top 33
abbrev di:Stmt:=top 34
abbrev bv:Stmt:=top 35
abbrev dj:Stmt:=top 36
abbrev Bg:Stmt:=top 38
abbrev wG:Stmt:=top 39
abbrev wH:Stmt:=top 40
abbrev rh:Stmt:=top 41
abbrev wI:Stmt:=top 42
abbrev wJ:Stmt:=top 43
abbrev wK:Stmt:=top 44
abbrev wL:Stmt:=top 48
abbrev wM:Stmt:=top 49
abbrev jw:Stmt:=top 50
abbrev wN:Stmt:=top 51
abbrev ri:Stmt:=top 53
abbrev dz:Stmt:=top 54
abbrev jH:Stmt:=top 55
abbrev eB:Stmt:=top 56
abbrev fu:Stmt:=top 57
abbrev ir:Stmt:=top 58
abbrev fw:Stmt:=top 59
abbrev jx:Stmt:=top 60
abbrev fH:Stmt:=top 61
abbrev gC:Stmt:=top 62
structure Txt(mg:Str->Option xx):Prop where
 isin:mg "isinstance"=none
 dict:mg "dict"=none
 len:mg "len"=none
 tuple:mg "tuple"=none
 list:mg "list"=none
 range:mg "range"=none
 sorted:mg "sorted"=none
 reversed:mg "reversed"=none
 ValueError:mg "ValueError"=none
 str:mg "str"=none
 set:mg "set"=none
 max:mg "max"=none
 min:mg "min"=none
 sum:mg "sum"=none
 zip:mg "zip"=none
 enumerate:mg "enumerate"=none
 all:mg "all"=none
 int:mg "int"=none
 bool:mg "bool"=none
 top:∃t,mg "TOP"=some (.int 0 t)
 letters:∃t,mg "LETTERS"=some (.str "abcdefghijklmnopqrstuvwxyz" t)
 longest:∃t,mg "LONGEST_NAME"=some (.int 5 t)
 greatest:∃t,mg "GREATEST_STAMP"=some (.int 999 t)
section
variable{P:qw}{w:qn}{K:Frag}{mg:Str->Option xx}{base:qb}
def pT:Sp:=λvs H Q _=>∃t f zs,vs=[.ref t,.int f]/\H t=some (.tup<|aZ zs)/\At H zs/\zs.length<=100/\∀fd a l H',TW.Walk (nds zs) f a fd []->H' l=some (.lst<|dM fd)->Same H H'->Q (.ref l) H'
theorem lj:FnScope ["nodes","folder","members","node","found","pending","here"] ["nodes","folder"] (ak Ba):=fsc
theorem Bh{f:zi}{g:qa}(F:Fun K "numbers_inside" "numbers_inside" Ba f g)(T:Txt mg):FnOk P w K mg base CX0 1 f g ["nodes","folder"] pT:=by
 show F.okA lj λcdv A outer s H vs Q E f6 h=>?_
 .let(t,f,zs,rfl,c5,b7,u,k):=h;show{_,ag (aD (i:=2) lj.nd rfl (Or.inl rfl) ko)
   (ag (ib PassesOwn.never rfl (cV<|pv 0) (bx (i:=3) lj.nd rfl<|Or.inl rfl)<|am (cj (gX GO GL GN cX
     (gX plainAttrs_dict PySem.F.slot_dict_setdefault PySem.F.type_dict_setdefault lW (pv 2)<|aa (ixT K (pv 3) ai) (aa (bc af) af)) (aa (pv 3) af))))
   (ag (aD (i:=4) lj.nd rfl (Or.inl rfl)<|bc af)
   (ag (aD (i:=5) lj.nd rfl (Or.inl rfl)<|bc (aa (pv 1) af))
   (ag (oR PassesOwn.never (vh (pv 5) λ_=>rfl)
    (ag (aD (i:=6) lj.nd rfl (Or.inl rfl)<|vG (pv 2) (Aw GO slot_list_pop type_list_pop Ax<|pv 5) (bc af) ⟨rfl,rfl,rfl,rfl⟩)
    (am (ib PassesOwn.never rfl (dR<|pv 6) (bx (i:=3) lj.nd rfl<|Or.inl rfl)
     (ag (cj<|gX GO GL GN cX (pv 4) (aa (ixT K (pv 3) ai) af))
     (am<|aS (au jd (ixT K (pv 3) ai) cT<|av _) (am<|cj (gX GO GL GN cX (pv 5)<|aa (ixT K (pv 3) ai) af)) ax))))))
   (am<|aq (pv 4)))))),?_}
  show λd b8=>?_;have W:∀{n:Nat},n<=100->n<sizeLine:=λh=>aw (by lia);show{_,rfl,t,rfl,{_,SqT.of<|aN b8 c5},nJ (xs:=aZ zs) (λi σ H'=>∃l kvs r,σ=[some<|.ref t,some<|.int f,some<|.ref d,r,none,none,none]/\Mem H H' d l kvs (zs.take i) [])
   ⟨_,_,_,rfl,Mem.start b8⟩ (λi σ H' _ h=>?_) (λi x σ H' e7 h=>?_) (λσ H' h=>?_)}
  .let(_,_,_,_,m):=h;show SqT.of<|m.same _ _ c5
  .let(l,kvs,r,rfl,m):=h;let(z,L,rfl):=ce e7;have a3:=FP L;have G:zs.take (i+1)=zs.take i++[z]:=by rw[take_succ,L];rfl
   have d4:kvs.length<=100:=by have:=m.len;rw[Fx]at this;lia
   show{_,rfl,.inr<|.inr (.inl ⟨rfl,.inl ⟨_,m.dict⟩⟩),_,rfl,z.1,_,_,_,rfl,rfl,SqT.of<|m.same _ _ (b7 z a3),at1 z.2,Fz _,λq p=>?_};have a2:=m.grow<|ae (o:=.lst []) p;show{d,kvs,.inl z.2.par,.ref q,rfl,rfl,a2.dict,W d4,λv N=>?_,λZ=>?_}
   .rw[m.val]at N
    by_cases h:z.2.par∈([]:List Int)\/ins (zs.take i) z.2.par=[]
    .rw[EW h]at N;cases N
    .rw[EV h]at N;cases N;have h2:ins (zs.take i) z.2.par≠[]:=λz=>h<|.inr z;have a:=(a2.at' z.2.par (by simp) h2).1;show{.inl ⟨rfl,_,SqL.of a⟩,_,rfl,_,_,_,rfl,rfl,a,?_,?_}
     .show W ?_;rw[ba];show GS (Sublist.length_le<|Sublist.trans filter_sublist (take_sublist _ _)) u
     .show{l,kvs,_,rfl,?_};rw[G];show a2.hit h2
   .rw[m.val]at Z
    by_cases h:z.2.par∈([]:List Int)\/ins (zs.take i) z.2.par=[]
    .have h2:ins (zs.take i) z.2.par=[]:=h.resolve_left (by simp);have e5:q≠d:=λe=>by rw[e,m.dict]at p;cases p
     have a:upd (upd H' q<|.lst []) d (.dK<|bJ kvs (Sum.inl z.2.par:Key) (.ref q)) q=some (.lst []):=by rw[aj e5];show ac
     show{.inl ⟨rfl,_,SqL.of a⟩,_,rfl,q,[],_,rfl,rfl,a,W<|Fz _,?_};have b6:=m.fresh (z:=z) h2 p;rw[<-G]at b6;show{_,_,_,rfl,b6}
    .rw[EV h]at Z;cases Z
  .let(l,kvs,r,rfl,m):=h;rw[ba,Gm]at m;show{Fz _,λpf c1=>{_,rfl,ao (by simp),λpp M=>?_}};have f1:=(m.grow<|ae (o:=.lst []) c1).grow (ae (o:=.lst [.int f]) M);have d8:H pf=none:=m.same.free c1;have I:pp≠pf:=λe=>by rw[e,ac]at M;cases M
   have c2:H pp=none:=by rw[aj I]at M;show m.same.free M
   dsimp only[dk,qD];show oT (λσ H'=>∃l kvs C g B r c6,σ=[some<|.ref t,some<|.int f,some<|.ref d,r,some<|.ref pf,some<|.ref pp,c6]/\B.length<=g.length+1/\Mem H H' d l kvs zs C/\TW.Walk (nds zs) f C g B/\H' pf=some (.lst<|dM g)/\H' pp=some (.lst<|B.map V.int))
    (λσ H'=>2*(zs.length-mY H' pf)+mY H' pp) {l,kvs,[],[],[f],_,_,rfl,FH _,f1,TW.Walk.start _ _,by rw[aj<|symm I,ac];rfl,ac} (λσ H' h=>?_) ?_
   .let(l,kvs,C,g,B,r,c6,rfl,d9,m,c7,J,D):=h;show{_,rfl,_,.inl ⟨_,SqL.of D,rfl⟩,?_}
    by_cases a0:B=[]
    .subst a0;show aC ⟨_,rfl,k g C pf H' c7 J m.same⟩
    .obtain⟨j,x,rfl⟩:∃j x,B=j++[x]:={B.dropLast,B.getLast a0,(List.dropLast_concat_getLast a0).symm};have d3:(!((j++[x]).map V.int).isEmpty)=true:=by simp
     rw[EW d3];have d2:((j++[x]).map V.int)[((j++[x]).map V.int).length-1]?=some (.int x):=by simp
     have d0:((j++[x]).map V.int).dropLast=j.map V.int:=by simp
     show{_,rfl,d,rfl,.inl ⟨_,Rd.of m.dict⟩,_,rfl,.inl ⟨rfl,_,SqL.of D⟩,pp,_,.int x,rfl,rfl,D,d2,Fz _,λq p=>?_};rw[d0]at p|-;have f2:=(m.other (o:=.lst<|j.map V.int) D c2).grow (ae (o:=.lst []) p);have c4:q≠pp:=λe=>by rw[e,ac]at p;cases p
     have c3:q≠pf:=λe=>by rw[e,aj<|symm I,J]at p;cases p
     show wz f2 ac λu a5 a1 b f3 R d1 e6 b9 c0=>?_;have c8:pf≠d:=λe=>by have:=m.dict;rw[<-e,J]at this;cases this
     have c9:pp≠d:=λe=>by have:=m.dict;rw[<-e,D]at this;cases this
     have a8:a5 pf=some (.lst<|dM g):=by rw[b9 pf c8,aj<|symm c3,aj<|symm I];show J
     have a9:a5 pp=some (.lst<|j.map V.int):=by rw[b9 pp c9,aj<|symm c4,ac]
     have d6:u≠pf:=by
      by_cases h:b=[]
      .rw[c0 h];show c3
      .show sO a8 R h
     have d7:u≠pp:=by
      by_cases h:b=[]
      .rw[c0 h];show c4
      .show sO a9 R h
     have a4:=c7.turn;rw[<-d1]at a4;have d5:=a4.len;rw[FI,aG,aG]at d5;rw[FI,GQ]at d9;show{_,rfl,u,rfl,⟨_,SqL.of R⟩,vc (xs:=aZ b) (λc σ H'=>∃r,σ=[some<|.ref t,some<|.int f,some<|.ref d,r,some<|.ref pf,some<|.ref pp,some<|.ref u]/\Mem H H' d l a1 zs (x::C)/\H' u=some (.lst<|aZ b) /\
      H' pf=some (.lst<|dM (g++nds (b.take c)))/\H' pp=some (.lst<|(j++TW.aR (nds<|b.take c)).map V.int)) {_,rfl,f3,R,by rw[a8];simp[nds],by rw[a9];simp[nds,TW.aR]}
      (λc σ H' _ h=>?_) (λc y σ H' e8 h=>?_) (λσ H' h=>?_)}
     .let(_,_,_,e,_):=h;show SqL.of e
     .let(r,rfl,S,e1,e2,e3):=h;let(z,L,rfl):=ce e8;have a3:=e6 z<|FP L;have G:b.take (c+1)=b.take c++[z]:=by rw[take_succ,L];rfl
      have e9:(dM<|g++nds (b.take c)).length<=100:=by
       unfold dM;rw[ES,ES,FI,aG,Fx];lia
      have f0:((j++TW.aR (nds<|b.take c)).map V.int).length<=1000:=by
       have:=TW.eA<|nds (b.take c);rw[aG,Fx]at this;rw[ES,FI];lia
      have Y:∀{a6:Hp},Same H a6->a6 z.1=some (.tup<|vals z.2):=λs=>s _ _<|b7 z a3;have e4:dM (g++nds (b.take<|c+1))=dM (g++nds (b.take c))++[.int z.2.num]:=by rw[G];simp[dM,nds]
      have U:Mem H (upd H' pf<|.lst (dM (g++nds (b.take c))++[.int z.2.num])) d l a1 zs (x::C):=S.other e2 d8;have a7:(upd H' pf<|.lst (dM (g++nds (b.take c))++[.int z.2.num])) u=some (.lst<|aZ b):=by rw[aj d6];show e1
      have O:(upd H' pf<|.lst (dM (g++nds (b.take c))++[.int z.2.num])) pp=some (.lst<|(j++TW.aR (nds<|b.take c)).map V.int):=by rw[aj I];show e3
      show{_,rfl,.inl ⟨rfl,_,SqL.of e2⟩,_,rfl,z.1,_,_,_,rfl,rfl,SqT.of<|Y S.same,at0 z.2,pf,_,_,rfl,rfl,e2,W e9,?_};show{_,rfl,z.1,_,_,_,rfl,rfl,SqT.of<|Y U.same,at3 z.2,rfl,_,rfl,?_};cases b5:z.2.st with
      |none =>
       have X:TW.aR (nds<|b.take (c+1))=TW.aR (nds<|b.take c)++[z.2.num]:=by rw[G];simp[TW.aR,nds,b5]
       show aV {_,rfl,.inl ⟨rfl,_,SqL.of O⟩,_,rfl,z.1,_,_,_,rfl,rfl,SqT.of<|Y U.same,at0 z.2,pp,_,_,rfl,rfl,O,aw f0,?_};show{_,rfl,U.other O c2,by rw[aj d7];show a7,by rw[aj<|symm I,ac,e4],?_};rw[ac,X];simp
      |some i =>
       have X:TW.aR (nds<|b.take (c+1))=TW.aR (nds<|b.take c):=by rw[G];simp[TW.aR,nds,b5]
       show aC {_,rfl,U,a7,by rw[ac,e4],?_};rw[O,X]
     .let(r,rfl,S,e1,e2,e3):=h;rw[ba,Gm]at e2 e3;show{{l,a1,x::C,_,_,r,_,rfl,?_,S,a4,e2,e3},?_}
      .have:=TW.eA<|nds b;rw[aG]at this;rw[FI,FI,aG];lia
      change 2*(zs.length-mY H' pf)+mY H' pp<_;rw[iS e2,iS e3,iS J,iS D];have:=TW.eA<|nds b;rw[aG]at this;simp only[dM,ES,FI,aG,GQ]
      lia
   .rintro σ H Q f5 f4 ⟨v,e,k,tv,q⟩;show{v,e,k,tv,f4 _ _ q}
def ll:Sp:=λvs H Q _=>∃t zs,vs=[.ref t]/\H t=some (.tup<|aZ zs)/\At H zs/\zs.length<=100/\((nds zs).map (·.num)).Nodup/\∀d H',Same H H'->re H' d zs->Q (.ref d) H'
theorem Dn:FnScope ["tree"] ["tree"] (ak Bb):=fsc
theorem Bi{f:zi}{n:qa}(F:Fun K "by_number" "by_number" Bb f n)(T:Txt mg):FnOk P w K mg base CX0 1 f n ["tree"] ll:=by
 show F.okA Dn λcdv A outer s H vs Q E a5 h=>?_
 .let(t,zs,rfl,c,L,u,v,k):=h;show{_,am<|aq (aK (qW rfl) rfl T.dict boot_dict<|aa (de lcS (cV<|pv 0)
   (λs H fp=>aO<|aa (ixT K (pv 0) ai) (aa (pv 0) af))) af),?_}
  show{_,rfl,t,rfl,⟨_,SqT.of c⟩,λp R=>?_};show qY (fr:=[]) zs.length (by lia) R rfl (λi y H'=>∃q z,zs[i]?=some z/\y=.ref q/\q≠p/\H' q=some (.tup [.int z.2.num,.ref z.1])) (λi y H1 H2 h ex=>?_) (λi H' hi s1=>?_) (λH' s1=>?_) ?_ (λi H' x H2 hi s1 U X=>?_) λys H' s1 S O Y=>?_
  .let(q,z,e1,e2,e3,e4):=h;show{q,z,e1,e2,e3,ex q _ e3 e4}
  .show{_,_,SqT.of<|s1 _ _ c,dL<|ET hi}
  .show{_,SqT.of<|s1 _ _ c,by rw[ba];show FH _}
  .rintro _ _ _ _ m ⟨a2,b1,a1,xs,Z,a3,C,D,G,I,a4,b3,j,q⟩;show{a2,b1,a1,xs,Z,a3,C,D,G,I,a4,b3,j,λl u=>m _ _<|q l u}
  .let(rfl,W):=X;let(z,r,rfl):=ce<|W _ (SqT.of<|s1 _ _ c);have a0:=FP r;show{rfl,_,rfl,z.1,_,_,_,rfl,rfl,SqT.of<|s1 _ _ (L z a0),at0 z.2,_,rfl,le2,λq B=>⟨ae B,q,z,r,rfl,dJ U B,ac⟩}
  .let(b,e1,e2,e3):=yM (g:=λz=>[.int z.2.num,.ref z.1]) O Y;have e4:b.length=zs.length:=by rw[<-e1,ES]
   have J:(b.map λa=>((Sum.inl a.2.2.num:Key),V.ref a.2.1))=fk zs:=by rw[<-e1];unfold fk;rw[FD];rfl
   show{p,b.map λa=>(a.1,(Sum.inl a.2.2.num:Key),V.ref a.2.1),rfl,?_,?_,?_,?_,λd o N=>?_}
   .rw[S,e2,FD,FD,FD];rfl
   .intro z j;let(a,M,rfl):=EZ.mp j;show(e3 a M).2
   .rw[ES];lia
   .rw[FD];have:(b.map<|(λx:zi×Key×V=>x.2.1)∘λa=>(a.1,(Sum.inl a.2.2.num:Key),V.ref a.2.1))=((nds zs).map (·.num)).map (Sum.inl:Int->Key):=by
     rw[<-e1];unfold nds;simp only[FD];rfl
    rw[this];unfold Nodup at v|-;rw[Fh];show v.imp λh e=>h (by injection e)
   .show k d _ (s1.trans<|ae N) {o,?_};rw[ac,FD];show congrArg (λx=>some<|HO.frz o (.dK x)) J
abbrev wO(mg:Str->Option xx)(base:qb)(C:zi):Prop:=PyProof.Rows.OwnCls "NoNode" C bmV "ValueError.__new__" mg base
def lm(C:zi):Sp:=λvs H Q E=>∃d k zs,vs=[.ref d,.int k]/\re H d zs/\((nds zs).map (·.num)).Nodup/\0<=k/\k<=60/\(∀z∈zs,z.2.num=k->Q (.ref z.1) H)/\((∀z∈zs,z.2.num≠k)->E (.ref C) none H)
theorem Do:FnScope ["nodes","number"] ["nodes","number"] (ak Bc):=fsc
theorem Bj{f C:zi}{i:qa}(F:Fun K "node_of" "node_of" Bc f i)(l:wO mg base C):FnOk P w K mg base (CX1 P w) 1 f i ["nodes","number"] (lm C):=by
 show F.okX Do (λvs H Q E h=>?_) λcdv A outer s H vs Q E g h=>?_
 .let(d,k,zs,rfl,_):=h;rfl
 .let(d,k,zs,rfl,b,j,m,h1,n,o):=h;show{_,ag (aS (ia<|eU (bp g) (pv 1) (pv 0)) (am<|cN bR l g.hd rfl (zV (pv 1) (by decide +kernel))) ax)<|am (aq<|cz (bp g) (pv 0) (pv 1) (λ_ _=>rfl)),?_}
  by_cases c:∀z∈zs,z.2.num≠k
  .show{_,rfl,_,rfl,d,_,rfl,b.not c,_,rfl,?_};show aV {_,rfl,k,rfl,m,h1,λy=>{ao (show 1<=1000 by decide),o c}}
  .obtain⟨z,a,e⟩:∃z∈zs,z.2.num=k:=by
    by_cases h:∃z∈zs,z.2.num=k
    .show h
    .show absurd (λz a e=>h ⟨z,a,e⟩) c
   subst e;show{_,rfl,_,rfl,d,_,rfl,b.get j a,_,rfl,?_};show aC ⟨_,rfl,_,rfl,d,_,rfl,b.get j a,n z a rfl⟩
def sV(C:zi):Sp:=λvs H Q E=>∃t k zs,vs=[.ref t,.int k]/\Tre H t zs/\0<=k/\k<=60 /\
 ((k=0\/∃z∈zs,z.2.num=k)->∀(c:List Int)(l:zi)(H':Hp),Same H H'->c.Pairwise (λa b:Int=>a<b)->c.length<=zs.length->(∀x,x∈c↔∃n∈nds zs,n.num=x/\TW.Reach (nds zs) k n)->H' l=some (.lst<|c.map V.int)->Q (.ref l) H') /\
 (k≠0->(∀z∈zs,z.2.num≠k)->∀H',Same H H'->E (.ref C) none H')
theorem Dp:FnScope ["tree","number"] ["tree","number"] (ak Bf):=fsc
theorem Bk{f C:zi}{g:qa}(F:Fun K "below" "below" Bf f g)(T:Txt mg)(G:Has P w K mg base 1 "by_number" ["tree"] ll)(CN:eI P w K mg base 1 "node_of" ["nodes","number"]<|lm C)(I:Has P w K mg base 1 "numbers_inside" ["nodes","folder"] pT):
  FnOk P w K mg base (CX1 P w) 2 f g ["tree","number"] (sV C):=by
 let(a4,a5,J,Y,X,L):=CN;let(a7,O):=T.top;show F.okX Dp (λvs H Q E h=>?_) λcdv A outer s H vs Q E i h=>?_
 .let(t,k,zs,rfl,_):=h;rfl
 .let(t,k,zs,rfl,c,N,h1,a0,a1):=h;have y:=bO c.tr;have a6:=c.len;show{_,ag (aS (au dS (pv 1) (bw (v:=.int 0) rfl O ⟨_,rfl⟩)<|av _)
    (am<|cj (bd (E:=E) J i rfl Y X L .nil (cS bR)<|aa (bu G i<|aa (pv 0) af) (aa (pv 1) af))) ax)
   (am<|aq (ar jp rfl T.sorted boot_sorted<|aa (bu I i<|aa (pv 0) (aa (pv 1) af)) af)),?_}
  have D:∀H1,Same H H1->(k=0\/∃z∈zs,z.2.num=k)->Al (tCB (λxs H Q=>∃l,∃o:List Int,xs=[.ref l]/\H l=some (.lst<|o.map V.int)/\o.Nodup/\o.length<64/\∀j:List Int,j.Perm o->j.Pairwise (λa b=>a<b)->∀p,H p=none->Q (.ref p) (upd H p<|.lst (j.map V.int)))
    (dm (ml pT [] E0<|dm (hZ 0) (dm (hZ 1) lS)) lS)) {nx:=λ_ H'=>Q .non H',rt:=Q} [some<|.ref t,some<|.int k] H1:=by
   intro H1 s1 r;show{_,rfl,_,rfl,t,k,zs,rfl,s1 _ _ c.tup,c.nod.same s1,by lia,λg a3 l H2 q M a2=>?_};have u:=q.len;rw[aG]at u;show{l,g.map λn:Nd=>n.num,rfl,(show H2 l=some (.lst<|(g.map λn:Nd=>n.num).map V.int)from M),uA c.tr q,by rw[ES];lia,λj B U p S=>?_};show a0 r j p _ ((s1.trans a2).trans (ae S)) U (by rw[B.length_eq,ES];show u) (λx=>?_) ac;rw[B.mem_iff,EZ];constructor
   .rintro⟨n,R,e⟩;have:=(q.mem n).mp R;show⟨n,this.mem,e,this⟩
   .rintro⟨n,_,e,i⟩;show{n,(q.mem n).mpr i,e}
  show{_,rfl,rfl,_,rfl,?_}
  by_cases m:k=0
  .have:decide (V.int k=V.int 0)=true:=by simp[m]
   rw[this];show aC<|D H (Same.refl _) (.inl m)
  .have:decide (V.int k=V.int 0)=false:=by simp[m]
   rw[this];show aV ?_;show{_,rfl,t,zs,rfl,c.tup,c.nod,by lia,y,λd H1 s1 Z=>?_};show{_,rfl,d,k,zs,rfl,Z,y,N,h1,λz W e=>D H1 s1<|.inr ⟨z,W,e⟩,λr=>a1 m r H1 s1}
def sW(CN a:zi):Sp:=λvs H Q E=>∃d p zs,vs=[.ref d,.int p]/\re H d zs/\At H zs/\((nds zs).map (·.num)).Nodup/\0<=p/\p<=60 /\
 (TW.io (nds zs) p->Q .non H)/\(p≠0->(∀z∈zs,z.2.num≠p)->E (.ref CN) none H)/\(∀z∈zs,z.2.num=p->p≠0->z.2.st≠none->E (.ref a) none H)
theorem Dq:FnScope ["nodes","number"] ["nodes","number"] (ak Be):=fsc
theorem Bl{f CN g:zi}{j:qa}(F:Fun K "check_folder" "check_folder" Be f j)(T:Txt mg)(r:jF "NotFolder" mg base g)(o:eI P w K mg base 1 "node_of" ["nodes","number"]<|lm CN):
  FnOk P w K mg base (CX1 P w) 2 f j ["nodes","number"] (sW CN g):=by
 let(M,N,q,I,G,t):=o;let(O,x):=T.top;show F.okX Dq (λvs H Q E h=>?_) λcdv A outer s H vs Q E l h=>?_
 .let(d,p,zs,rfl,_):=h;rfl
 .let(d,p,zs,rfl,B,u,D,k,h1,n,J,L):=h;show{_,am (aS (PW.pt<|pw_and (au dS (pv 1) (bw (v:=.int 0) rfl x ⟨_,rfl⟩)<|av _) (pw_and1<|au nM (ixT K (bd (E:=E) q l rfl I G t .nil (cS bR)<|aa (pv 0) (aa (pv 1) af)) ai) cT (av _)))
   (am<|cN bR r l.hd rfl (gP (dw (c:=100) (by decide +kernel)<|jr (pv 1) (dw (c:=100) (by decide +kernel) jq)) (by decide))) ax),?_}
  show{_,rfl,rfl,_,rfl,?_}
  by_cases a:p=0
  .have:decide (V.int p=V.int 0)=true:=by simp[a]
   rw[this];show aC<|aC (n<|.inl a)
  .have:decide (V.int p=V.int 0)=false:=by simp[a]
   rw[this];show aV {_,rfl,_,rfl,d,p,zs,rfl,B,D,k,h1,λz b e=>?_,λC=>J a C};show{z.1,_,_,_,rfl,rfl,SqT.of<|u z b,at3 z.2,rfl,_,rfl,?_};rw[sT];cases m:z.2.st with
   |none=>show aC<|n (.inr ⟨z.2,bQ b,m,e⟩)
   |some i=>show aV {_,rfl,p,rfl,k,h1,λy=>{ao (show 1<=1000 by decide),L z b e a (by rw[m];simp)}}
def pU(a:zi):Sp:=λvs H Q E=>∃t k p nm zs,vs=[.ref t,.int k,.int p,.str nm]/\H t=some (.tup<|aZ zs)/\At H zs/\0<=p/\p<=60/\nm.length<=100 /\
 ((∀z∈zs,z.2.num≠k->¬(z.2.par=p/\z.2.nm=nm))->Q .non H)/\(∀z∈zs,z.2.num≠k->z.2.par=p->z.2.nm=nm->E (.ref a) none H)
theorem zZ:FnScope ["tree","number","parent","name","node"] ["tree","number","parent","name"] (ak Bg):=fsc
theorem Bn{f m:zi}{n:qa}(F:Fun K "check_place" "check_place" Bg f n)(v:jF "Taken" mg base m):FnOk P w K mg base (CX1 P w) 1 f n ["tree","number","parent","name"] (pU m):=by
 show F.okX zZ (λvs H Q E h=>?_) λcdv A outer s H vs Q E I h=>?_
 .let(t,k,p,nm,zs,rfl,_):=h;rfl
 .let(t,k,p,nm,zs,rfl,q,D,C,h1,G,M,N):=h;show{_,am (ib (Dk bR) rfl (cV<|pv 0) (bx (i:=4) zZ.nd rfl<|Or.inl rfl)
   (am (aS (PW.pt<|pw_and (au dS (ixT K (pv 4) ai) (pv 1)<|av _) (pw_and (au cu (ixT K (pv 4) ai) (pv 2)<|av _)<|pw_and1 (au cu (ixT K (pv 4) ai) (pv 3)<|av _)))
    (am<|cN bR v I.hd rfl (gP (dw (c:=100) (by decide +kernel)<|jr (pv 2) (dw (c:=100) (by decide +kernel)<|AU (pv 3) jq)) (by decide))) ax))),?_}
  show{_,rfl,t,rfl,⟨_,SqT.of q⟩,nJ (xs:=aZ zs) (λi σ H'=>(∃u,σ=[some<|.ref t,some<|.int k,some<|.int p,some<|.str nm,u])/\H'=H/\∀z∈zs.take i,z.2.num≠k->¬(z.2.par=p/\z.2.nm=nm)) ⟨⟨none,rfl⟩,rfl,by simp⟩ (λi σ H' _ h=>by rw[h.2.1];show SqT.of q) (λi x σ H' J h=>?_) λσ H' h=>?_}
  .let((u,rfl),rfl,hi):=h;let(z,o,rfl):=ce J;have r:=FP o;have j:SqT K H' z.1 (vals z.2):=SqT.of<|D z r;have B:zs.take (i+1)=zs.take i++[z]:=cB o;have l:(z.2.num≠k->¬(z.2.par=p/\z.2.nm=nm))->∀y∈zs.take (i+1),y.2.num≠k->¬(y.2.par=p/\y.2.nm=nm):=λL y a=>by
    rw[B]at a;rcases Fd.mp a with a|a
    .show hi y a
    .have e:y=z:=by simpa using a
     subst e;show L
   show{_,rfl,z.1,_,_,_,rfl,rfl,j,at0 z.2,_,rfl,rfl,_,rfl,?_}
   by_cases b:z.2.num=k
   .have e1:(!decide (V.int z.2.num=V.int k))=false:=by simp[b]
    rw[e1];show aC<|aC {⟨_,rfl⟩,rfl,l λh=>absurd b h}
   .have e1:(!decide (V.int z.2.num=V.int k))=true:=by simp[b]
    rw[e1];show aV {_,rfl,z.1,_,_,_,rfl,rfl,j,at1 z.2,_,rfl,rfl,_,rfl,?_}
    by_cases g:z.2.par=p
    .have e2:decide (V.int z.2.par=V.int p)=true:=by simp[g]
     rw[e2];show aV {_,rfl,z.1,_,_,_,rfl,rfl,j,at2 z.2,_,rfl,rfl,_,rfl,?_}
     by_cases d:z.2.nm=nm
     .have e3:decide (V.str z.2.nm=V.str nm)=true:=by simp[d]
      rw[e3];show aV {_,rfl,p,rfl,C,h1,_,rfl,nm,rfl,G,λy=>{ao (show 1<=1000 by decide),N z r b g d}}
     .have e3:decide (V.str z.2.nm=V.str nm)=false:=by simp[d]
      rw[e3];show aC {⟨_,rfl⟩,rfl,l λ_ h=>d h.2}
    .have e2:decide (V.int z.2.par=V.int p)=false:=by simp[g]
     rw[e2];show aC<|aC {⟨_,rfl⟩,rfl,l λ_ h=>g h.1}
  .let(_,rfl,hi):=h;rw[ba,Gm]at hi;show M hi
def lp:Sp:=λvs H Q _=>∃t c n zs,vs=[.ref t,.ref c]/\H t=some (.tup<|aZ zs)/\At H zs/\H c=some (.tup<|vals n)/\zs.length<=100/\∀a b H',Same H H'->H' b=some (.tup<|aZ a)->At H' a->nds a=(nds zs).map (TW.put n)->Q (.ref b) H'
theorem Bo:FnScope ["tree","changed"] ["tree","changed"] (ak wG):=fsc
theorem yQ{f:zi}{d:qa}(F:Fun K "with_node" "with_node" wG f d)(T:Txt mg):FnOk P w K mg base CX0 1 f d ["tree","changed"] lp:=by
 show F.okA Bo λcdv A outer s H vs Q E D h=>?_
 .let(t,c,n,zs,rfl,m,g,i,C,q):=h;show{_,am<|aq (aK br rfl T.tuple rfl<|aa (de (fs:=["changed"]) (cl:=[("changed",s.heap.objs.size+1)]) (js:=[1]) lcF (cV<|pv 0)
    (λs H fp=>iB (au cu (ixT K (pv 0) ai) (ixT K (pv 1) ai)<|av _) (pv 1)<|pv 0)) af),?_}
  show{_,rfl,t,rfl,⟨_,SqT.of m⟩,λp u=>?_};show dZ (fr:=[some<|.ref c]) zs (λz=>V.ref z.1) (by lia) u (gQ (by rw[cf];show SqT.of m)) rfl (λz y H'=>y=.ref (if z.2.num=n.num then c else z.1)) (λz y H H' h _=>h) (λz H' k b s1 _ j=>?_) λys H' s1 v B=>?_
  .show{_,rfl,z.1,_,_,_,rfl,rfl,SqT.of<|s1 _ _ (g z b),at0 z.2,_,rfl,c,_,_,_,rfl,rfl,SqT.of<|s1 _ _ i,at0 n,rfl,_,rfl,?_}
   by_cases e:z.2.num=n.num
   .have e1:decide (V.int z.2.num=V.int n.num)=true:=by simp[e]
    rw[e1];show aV {_,rfl,j _ H' (Same.refl _) (by rw[EW e])}
   .have e1:decide (V.int z.2.num=V.int n.num)=false:=by simp[e]
    rw[e1];show aC {_,rfl,j _ H' (Same.refl _) (by rw[EV e])}
  .have r:=cn (f:=λz:zi×Nd=>V.ref (if z.2.num=n.num then c else z.1)) B λz y _ h=>h;show{p,_,rfl,.inl {SqL.of v,λl a=>?_}};have o:aZ (zs.map λz=>if z.2.num=n.num then (c,n)else z)=ys:=by
    rw[r,<-cf,FD];apply Fq;intro z _;change V.ref (if z.2.num=n.num then (c,n)else z).1=_
    by_cases e:z.2.num=n.num
    .rw[EW e,EW e]
    .rw[EV e,EV e]
   show q (zs.map λz=>if z.2.num=n.num then (c,n)else z) l _ (s1.trans<|ae a) (by rw[o];show ac) (λy x=>?_) ?_
   .let(z,b,rfl):=EZ.mp x
    by_cases e:z.2.num=n.num
    .rw[EW e];show(s1.trans<|ae a) _ _ i
    .rw[EV e];show(s1.trans<|ae a) _ _ (g z b)
   .unfold nds;rw[FD,FD];apply Fq;intro z _;change(if z.2.num=n.num then (c,n)else z).2=TW.put n z.2
    unfold TW.put
    by_cases e:z.2.num=n.num
    .rw[EW e,EW e]
    .rw[EV e,EV e]
def rj(cls:TW.Wd->zi):Sp:=λvs H Q E=>∃t n p nm st zs,vs=[.ref t,.int n,.int p,.str nm,stV st]/\Tre H t zs/\zs.length<=29/\dN (.make n p nm st)/\Outs H (nds zs) (.make n p nm st) cls Q E
theorem wP:FnScope ["tree","number","parent","name","stamp","nodes"] ["tree","number","parent","name","stamp"] (ak wH):=fsc
theorem yR{f:zi}{N:qa}{cls:TW.Wd->zi}(F:Fun K "make" "make" wH f N)(T:Txt mg)(a7:yO mg base cls)(a2:Has P w K mg base 1 "by_number" ["tree"] ll)(a3:eI P w K mg base 2 "check_folder" ["nodes","number"]<|sW (cls .noNode) (cls .notFolder))(a4:eI P w K mg base 1 "check_place" ["tree","number","parent","name"]<|pU (cls .taken)):FnOk P w K mg base (CX1 P w) 3 f N ["tree","number","parent","name","stamp"] (rj cls):=by
 let(d4,d6,a5,d1,c9,a8):=a3;let(d5,d7,a6,d2,d0,a9):=a4;show F.okX wP (λvs H Q E h=>?_) λcdv A outer s H vs Q E C h=>?_
 .let(t,n,p,nm,st,zs,rfl,_):=h;rfl
 .let(t,n,p,nm,st,zs,rfl,j,d8,(d9,c1,W,X,c2),o):=h;have Y:Room 1 _:=C.mono (by decide);have B:=bO j.tr;show{_,ag (aD (i:=5) wP.nd rfl (Or.inl rfl)<|bu a2 Y (aa (pv 0) af))
   (ag (aS (ia<|nS (bp C) (pv 1) (pv 5)) (am<|cN bR (a7 .known) C.hd rfl (zV (pv 1) (by decide +kernel))) ax)
   (ag (cj<|bd (E:=E) a5 C rfl d1 c9 a8 .nil (cS bR) (aa (pv 5)<|aa (pv 2) af))
   (ag (cj<|bd (E:=E) a6 Y rfl d2 d0 a9 .nil (cS bR) (aa (pv 0)<|aa (pv 1) (aa (pv 2)<|aa (pv 3) af)))
   (am<|aq (aK br rfl T.tuple rfl<|aa (ar cM rfl T.sorted boot_sorted<|aa (aE (vY.or iF) (pv 0)<|aO (aa (aO<|aa (pv 1) (aa (pv 2)<|aa (pv 3) (aa (pv 4) af))) af)) af) af))))),?_}
  show{_,rfl,t,zs,rfl,j.tup,j.nod,by lia,B,λd H1 s1 L=>?_}
  by_cases I:∃z∈zs,z.2.num=n
  .let(z,g,e):=I;subst e;show{_,rfl,_,rfl,d,_,rfl,L.get B g,_,rfl,aV {_,rfl,_,rfl,by lia,c1,λy=>{ao (show 1<=1000 by decide),o.no .known H1 s1<|.mKnown (eZ g rfl)}}}
  .have k:=cO I;show{_,rfl,_,rfl,d,_,rfl,L.not λz g e=>I ⟨z,g,e⟩,_,rfl,aC ?_};show{_,rfl,_,rfl,d,p,zs,rfl,L,j.nod.same s1,B,W,X,λS=>?_,λG g=>o.no .noNode H1 s1<|.mNo k G (cO λ⟨z,c8,e⟩=>g z c8 e),λz g e G c6=>o.no .notFolder H1 s1<|.mFile k G (bQ g) e c6};show{_,rfl,_,rfl,_,rfl,_,rfl,t,n,p,nm,zs,rfl,s1 _ _ j.tup,j.nod.same s1,W,X,c2,λc0=>?_,λz g _ e1 e2=>o.no .taken H1 s1<|.mTaken k S (bQ g) e1 e2};show{_,rfl,_,rfl,_,rfl,_,rfl,_,rfl,(show 4<=sizeLine from ao (by decide)),λq c4=>{(show 1<=sizeLine from ao (by decide)),λc U=>?_}};have D:Same H1 (upd (upd H1 q<|.tup [.int n,.int p,.str nm,stV st]) c<|.tup [.ref q]):=(ae c4).trans (ae U);have R:upd (upd H1 q<|.tup [.int n,.int p,.str nm,stV st]) c (.tup [.ref q]) q=some (.tup<|vals ⟨n,p,nm,st⟩):=aN U ac;have u:upd (upd H1 q<|.tup [.int n,.int p,.str nm,stV st]) c (.tup [.ref q]) c=some (.tup [.ref q]):=ac;generalize upd (upd H1 q<|.tup [.int n,.int p,.str nm,stV st]) c (.tup [.ref q])=H2 at D R u|-;have O:∀(l:zi)(r:Hp),Same H2 r->SqT K r l (aZ<|zs++[(q,⟨n,p,nm,st⟩)])->tCB (λxs H Q=>∃l,∃zs:List iO,xs=[.ref l]/\(SqL K H l ((zs.map (·.1)).map V.ref)\/SqT K H l ((zs.map (·.1)).map V.ref))/\(∀z∈zs,H z.1=some (.tup (.int z.2.1::z.2.2)))/\(zs.map (·.2.1)).Nodup/\zs.length<64 /\
     ∀M:List iO,M.Perm zs->M.Pairwise (λa b=>a.2.1<b.2.1)->∀p,H p=none->Q (.ref p) (upd H p<|.lst ((M.map (·.1)).map V.ref))) (dm (tC<|.ref l) lS) [] r (λx H1=>(λxs H Q=>∃p ys,xs=[V.ref p]/\((SqL K H p ys/\∀l,H l=none->Q (V.ref l) (upd H l<|.tup ys))\/(SqT K H p ys/\Q (.ref p) H))) [x] H1 Q):=by
    intro l r a0 J;have Z:=(s1.trans D).trans a0;show jG (.inr J) (λz g=>?_) ?_ (by rw[FI];simp;lia) λa1 d3 H' s' c7 b7 c3 c5=>?_
    .rcases Fd.mp g with h|h
     .show Z _ _<|j.nod z h
     .have e:z=(q,⟨n,p,nm,st⟩):=by simpa using h
      subst e;show a0 _ _ R
    .have e:(nds<|zs++[(q,(⟨n,p,nm,st⟩:Nd))]).map (·.num)=(nds zs).map (·.num)++[n]:=by simp[nds]
     rw[e,nodup_append];show{B,by simp,λa b8 b b9 e=>?_};have b5:b=n:=by simpa using b9
     let(m,v,b6):=EZ.mp b8;show k {m,v,by rw[b6,e,b5]}
    .show o.ok a1 d3 H' (Z.trans s') c7 b7 (.made k S (λm v=>?_) ?_ c5)
     .let(z,g,rfl):=gv v;show c0 z g λe=>k ⟨z.2,v,e⟩
     .have:(nds a1).Perm (nds<|zs++[(q,⟨n,p,nm,st⟩)]):=c3.map _;show this.trans ?_;unfold nds;rw[Fn];show List.perm_append_comm
   by_cases g:zs=[]
   .subst g;show .inl {t,c,_,rfl,rfl,SqT.of<|(s1.trans D) _ _ j.tup,SqT.of u,O c H2 (Same.refl _)<|SqT.of u}
   .show .inr {t,c,_,_,rfl,rfl,SqT.of<|(s1.trans D) _ _ j.tup,SqT.of u,?_,?_,λh=>absurd h<|cons_ne_nil _ _,λ_ l J=>O l _ (ae J) (by rw[jv];show SqT.of ac)}
    .intro e;show g<|wx e
    .rw[ba];show ao (by change zs.length+1<=1000;lia)
def oq(cls:TW.Wd->zi):Sp:=λvs H Q E=>∃t n st zs,vs=[.ref t,.int n,.int st]/\Tre H t zs/\dN (.write n st)/\Outs H (nds zs) (.write n st) cls Q E
theorem sX:FnScope ["tree","number","stamp","node"] ["tree","number","stamp"] (ak rh):=fsc
theorem wQ{f:zi}{l:qa}{cls:TW.Wd->zi}(F:Fun K "write" "write" rh f l)(x:yO mg base cls)(r:Has P w K mg base 1 "by_number" ["tree"] ll)(CN:eI P w K mg base 1 "node_of" ["nodes","number"]<|lm (cls .noNode))(u:Has P w K mg base 1 "with_node" ["tree","changed"] lp):FnOk P w K mg base (CX1 P w) 2 f l ["tree","number","stamp"] (oq cls):=by
 let(R,S,v,L,J,B):=CN;show F.okX sX (λvs H Q E h=>?_) λcdv A outer s H vs Q E g h=>?_
 .let(t,n,st,zs,rfl,_):=h;rfl
 .let(t,n,st,zs,rfl,a,(U,m),o):=h;have p:=bO a.tr;have T:=a.len;show{_,ag (aD (i:=3) sX.nd rfl (Or.inl rfl)<|bd (E:=E) v g rfl L J B .nil (cS bR) (aa (bu r g<|aa (pv 0) af)<|aa (pv 1) af))
   (ag (aS (au jd (ixT K (pv 3) ai) cT<|av _) (am<|cN bR (x .notFile) g.hd rfl (gP (dw (c:=100) (by decide +kernel)<|jr (pv 1) (dw (c:=100) (by decide +kernel) jq)) (by decide))) ax)
   (am<|aq (bu u g<|aa (pv 0) (aa (aO<|aa (pv 1) (aa (ixT K (pv 3) ai)<|aa (ixT K (pv 3) ai) (aa (pv 2) af))) af)))),?_}
  show{_,rfl,t,zs,rfl,a.tup,a.nod,by lia,p,λd H1 s1 M=>?_};show{_,rfl,d,n,zs,rfl,M,p,by lia,m,λz b e=>?_,λG=>o.no .noNode H1 s1<|.wNo (cO λ⟨z,b,e⟩=>G z b e)};subst e;have j:SqT K H1 z.1 (vals z.2):=SqT.of<|s1 _ _ (a.nod z b);show{_,rfl,z.1,_,_,_,rfl,rfl,j,at3 z.2,rfl,_,rfl,?_};cases q:z.2.st with
  |none=>show aV {_,rfl,_,rfl,by lia,m,λy=>{ao (show 1<=1000 by decide),o.no .notFile H1 s1<|.wFold (bQ b) rfl q}}
  |some i =>
   show aC {_,rfl,_,rfl,_,rfl,z.1,_,_,_,rfl,rfl,j,at1 z.2,_,rfl,z.1,_,_,_,rfl,rfl,j,at2 z.2,_,rfl,(show 4<=sizeLine from ao (by decide)),λc D=>?_};have k:=s1.trans<|ae (o:=.tup [.int z.2.num,.int z.2.par,.str z.2.nm,.int st]) D;show{t,c,⟨z.2.num,z.2.par,z.2.nm,some st⟩,zs,rfl,k _ _ a.tup,a.nod.same k,ac,by lia,λO N H' s' I C e=>o.ok O N H' (k.trans s') I C ?_};rw[e];show .wrote (bQ b) rfl (by rw[q];simp)
def rk(cls:TW.Wd->zi):Sp:=λvs H Q E=>∃t n p nm zs,vs=[.ref t,.int n,.int p,.str nm]/\Tre H t zs/\dN (.move n p nm)/\Outs H (nds zs) (.move n p nm) cls Q E
theorem ro:FnScope ["tree","number","parent","name","nodes","node"] ["tree","number","parent","name"] (ak wI):=fsc
theorem yS{f:zi}{X:qa}{cls:TW.Wd->zi}(F:Fun K "move" "move" wI f X)(a9:yO mg base cls)(a2:Has P w K mg base 1 "by_number" ["tree"] ll)(CN:eI P w K mg base 1 "node_of" ["nodes","number"]<|lm (cls .noNode))(a3:eI P w K mg base 2 "check_folder" ["nodes","number"]<|sW (cls .noNode) (cls .notFolder))(CE:eI P w K mg base 2 "below" ["tree","number"]<|sV (cls .noNode))(a4:eI P w K mg base 1 "check_place" ["tree","number","parent","name"]<|pU (cls .taken))(a5:Has P w K mg base 1 "with_node" ["tree","changed"] lp):FnOk P w K mg base (CX1 P w) 3 f X ["tree","number","parent","name"] (rk cls):=by
 let(d9,e8,a8,d3,c9,b8):=CN;let(d7,e6,a6,d1,c7,b6):=a3;let(d6,e5,GE,d0,c6,b5):=CE;let(d8,e7,a7,d2,c8,b7):=a4;show F.okX ro (λvs H Q E h=>?_) λcdv A outer s H vs Q E N h=>?_
 .let(t,n,p,nm,zs,rfl,_):=h;rfl
 .let(t,n,p,nm,zs,rfl,a,(Z,I,J,L,c3),o):=h;have S:=bO a.tr;have e9:=a.len;have R:=a.tr;have O:Room 1 _:=N.mono (by decide);show{_,ag (aD (i:=4) ro.nd rfl (Or.inl rfl)<|bu a2 O (aa (pv 0) af))
   (ag (aD (i:=5) ro.nd rfl (Or.inl rfl)<|bd (E:=E) a8 O rfl d3 c9 b8 .nil (cS bR) (aa (pv 4)<|aa (pv 1) af))
   (ag (cj<|bd (E:=E) a6 N rfl d1 c7 b6 .nil (cS bR) (aa (pv 4)<|aa (pv 2) af))
   (ag (aS (PW.pt<|pw_or (au cu (pv 2) (pv 1)<|av _) (pw_or1<|au tU (pv 2) (bd (E:=E) GE N rfl d0 c6 b5 .nil (cS bR)<|aa (pv 0) (aa (pv 1) af)) rfl))
    (am<|cN bR (a9 .inside) N.hd rfl (gP (dw (c:=100) (by decide +kernel)<|jr (pv 2) (dw (c:=100) (by decide +kernel)<|jr (pv 1) (dw (c:=100) (by decide +kernel) jq))) (by decide))) ax)
   (ag (cj<|bd (E:=E) a7 O rfl d2 c8 b7 .nil (cS bR) (aa (pv 0)<|aa (pv 1) (aa (pv 2)<|aa (pv 3) af)))
   (am<|aq (bu a5 O<|aa (pv 0) (aa (aO<|aa (pv 1) (aa (pv 2)<|aa (pv 3) (aa (ixT K (pv 5) ai) af))) af))))))),?_}
  show{_,rfl,t,zs,rfl,a.tup,a.nod,by lia,S,λd H1 s1 a1=>?_};show{_,rfl,_,rfl,d,n,zs,rfl,a1,S,by lia,I,λz k e=>?_,λr=>o.no .noNode H1 s1<|.vNo (cO λ⟨z,k,e⟩=>r z k e)};subst e;have C:TW.cy (nds zs) z.2.num:=eZ k rfl;show{_,rfl,_,rfl,d,p,zs,rfl,a1,a.nod.same s1,S,J,L,λB=>?_,λb r=>o.no .noNode H1 s1<|.vNoP C b (cO λ⟨y,j,e⟩=>r y j e),λy j e b c4=>o.no .notFolder H1 s1<|.vFile C b (bQ j) e c4};have a0:∀H2,Same H1 H2->p≠0->TW.Und (nds zs) z.2.num p->∀y:Str,E (.ref<|cls .inside) none H2:=λH2 q b g _=>o.no .inside H2 (s1.trans q)<|.vIn C B b g;have rest:∀H2,Same H1 H2->(p≠0->¬TW.Und (nds zs) z.2.num p)->qD (zP<|ml (pU<|cls .taken) [] E (dm (hZ 0)<|dm (hZ 1) (dm (hZ 2)<|dm (hZ 3) lS))) (Al<|ml lp [] E0 (dm (hZ 0)<|dm (CG<|dm (hZ 1) (dm (hZ 2)<|dm (hZ 3) (dm (tOp (vx K) (hZ 5)<|tC (.int 3)) lS))) lS))
    {nx:=λ_ H'=>Q .non H',rt:=Q} [some<|.ref t,some<|.int z.2.num,some<|.int p,some<|.str nm,some<|.ref d,some<|.ref z.1] H2:=by
   intro H2 q g;have x:=s1.trans q;show{_,rfl,_,rfl,_,rfl,_,rfl,t,z.2.num,p,nm,zs,rfl,x _ _ a.tup,a.nod.same x,J,L,c3,λc1=>?_,λy j T e1 e2=>o.no .taken H2 x<|.vTaken C B g (bQ j) T e1 e2};show{_,rfl,_,rfl,_,rfl,_,rfl,_,rfl,z.1,_,_,_,rfl,rfl,SqT.of<|x _ _ (a.nod z k),at3 z.2,(show 4<=sizeLine from ao (by decide)),λc c0=>?_};have W:=x.trans<|ae (o:=.tup [.int z.2.num,.int p,.str nm,stV z.2.st]) c0;show{t,c,⟨z.2.num,p,nm,z.2.st⟩,zs,rfl,W _ _ a.tup,a.nod.same W,ac,by lia,λd5 d4 H' s' c5 b9 e=>o.ok d5 d4 H' (W.trans s') c5 b9 ?_};rw[e];show .moved (bQ k) rfl B g λm G T h=>?_;let(y,j,rfl):=gv G;show c1 y j T h
  show{_,rfl,_,rfl,rfl,_,rfl,?_}
  by_cases M:p=z.2.num
  .have e1:decide (V.int p=V.int z.2.num)=true:=by simp[M]
   rw[e1];show aV<|aV {_,rfl,p,rfl,J,L,_,rfl,_,rfl,by lia,I,λy=>{ao (show 1<=1000 by decide),a0 H1 (Same.refl _) (by lia) (by rw[M];show .here) y}}
  .have e1:decide (V.int p=V.int z.2.num)=false:=by simp[M]
   rw[e1];show aC {_,rfl,_,rfl,_,rfl,t,z.2.num,zs,rfl,a.same s1,by lia,I,λ_ U l H2 q f0 _ G c2=>?_,λb r=>absurd rfl<|r z k};show{l,_,rfl,.inl<|SqL.of c2,rfl,uv U,_,rfl,?_};change if (inV (.int p)<|U.map V.int)=true then _ else _
   rw[yD]
   by_cases D:p∈U
   .rw[Fe D];let(m,u,Y,v):=(G p).mp D;have g:TW.Und (nds zs) z.2.num p:=by rw[<-Y];show((TW.eX R Z u).mp v).2
    have b:p≠0:=by have:=R.pos m u;lia
    show aV {_,rfl,p,rfl,J,L,_,rfl,_,rfl,by lia,I,λy=>{ao (show 1<=1000 by decide),a0 H2 q b g y}}
   .rw[FZ D];show aC<|rest H2 q λb g=>?_;rcases B with e|⟨m,u,Y,v⟩
    .show b e
    .show D<|(G p).mpr {m,u,v,(TW.eX R Z u).mpr {by rw[v];show M,by rw[v];show g}}
def rq(cls:TW.Wd->zi):Sp:=λvs H Q E=>∃t n zs,vs=[.ref t,.int n]/\Tre H t zs/\dN (.drop n)/\Outs H (nds zs) (.drop n) cls Q E
theorem wR:FnScope ["tree","number","gone"] ["tree","number"] (ak wJ):=fsc
def pV(n:Int)(a:List Int)(m:Nd):Bool:=!decide (m.num=n\/m.num∈a)
theorem yT{f:zi}{M:qa}{cls:TW.Wd->zi}(F:Fun K "drop" "drop" wJ f M)(T:Txt mg)(a8:Has P w K mg base 1 "by_number" ["tree"] ll)(CN:eI P w K mg base 1 "node_of" ["nodes","number"]<|lm (cls .noNode))(CE:eI P w K mg base 2 "below" ["tree","number"]<|sV (cls .noNode)):FnOk P w K mg base (CX1 P w) 3 f M ["tree","number"] (rq cls):=by
 let(e6,e8,a9,d4,d0,b6):=CN;let(e5,e7,GE,d3,c9,b5):=CE;show F.okX wR (λvs H Q E h=>?_) λcdv A outer s H vs Q E D h=>?_
 .let(t,n,zs,rfl,_):=h;rfl
 .let(t,n,zs,rfl,c,(Y,Z),o):=h;have a0:=bO c.tr;have f1:=c.len;have I:=c.tr;have a2:Room 1 _:=D.mono (by decide);show{_,ag (cj<|bd (E:=E) a9 a2 rfl d4 d0 b6 .nil (cS bR) (aa (bu a8 a2<|aa (pv 0) af)<|aa (pv 1) af))
   (ag (aD (i:=2) wR.nd rfl (Or.inr rfl)<|aK (dY rfl) rfl T.dict boot_dict (aa (de lcS (dR<|bd (E:=E) GE D rfl d3 c9 b5 .nil (cS bR) (aa (pv 0)<|aa (pv 1) af))
    (λs H fp=>aO<|aa (pv 0) (aa fQ af))) af))
   (ag (iG (bp D) (pv 2) (pv 1) fQ rfl)
   (am<|aq (aK br rfl T.tuple rfl<|aa (gS (fs:=["gone"]) (cl:=[("gone",s.heap.objs.size+1)]) (js:=[2]) lcF (cV<|pv 0)
    (λs H fp=>ia<|eU (bp D) (ixT K (pv 0) ai) (pv 1)) (λs H fp=>pv 0)) af)))),?_}
  show{_,rfl,t,zs,rfl,c.tup,c.nod,by lia,a0,λd H1 s1 d5=>?_};show{_,rfl,d,n,zs,rfl,d5,a0,by lia,Z,λz G e=>?_,λb=>o.no .noNode H1 s1<|.dNo (cO λ⟨z,G,e⟩=>b z G e)};show{_,rfl,_,rfl,t,n,zs,rfl,c.same s1,by lia,Z,λ_ a l H2 d6 X f2 U R=>?_,λe9 b=>absurd e<|b z G};have W:a.length<=1000:=by lia
  show{l,rfl,⟨_,SqL.of R⟩,λp c2=>?_};show dZ (fr:=[]) a V.int W c2 (gR<|SqL.of R) rfl (λm y H'=>∃q,y=.ref q/\q≠p/\H' q=some (.tup [.int m,.bl true])) (λm y H H' ⟨q,e,a4,h⟩ ex=>⟨q,e,a4,ex q _ a4 h⟩) (λm H' k _ a6 c6 b=>?_) λys B a6 c4 L=>?_
  .show{_,rfl,le2,λq a1=>b _ _ (ae a1) ⟨q,rfl,dJ c6 a1,ac⟩}
  .let(bs,e1,e2,e3):=dE (val:=V.ref) (S:=λ(m:Int) (q:zi)=>B q=some (.tup [.int m,.bl true])) L λm y _ ⟨q,e,_,h⟩=>⟨q,e,h⟩;have a5:=(s1.trans d6).trans a6;have f0:bs.length=a.length:=by rw[<-e1,ES]
   show{p,bs.map λx=>(x.2,(Sum.inl x.1:Key),V.bl true),rfl,by rw[c4,e2,FD,FD];rfl,λy J=>?_,by rw[ES];lia,?_,λg N=>?_}
   .let(x,j,rfl):=EZ.mp J;show e3 x j
   .rw[FD];have:(bs.map<|(λx:zi×Key×V=>x.2.1)∘λx=>(x.2,(Sum.inl x.1:Key),V.bl true))=a.map (Sum.inl:Int->Key):=by rw[<-e1,FD];rfl
    rw[this];unfold Nodup;rw[Fh];show X.imp λh e=>by injection e with e;lia
   .have b8:(bs.map λx=>(x.2,(Sum.inl x.1:Key),V.bl true)).map (·.2)=a.map λm=>((Sum.inl m:Key),V.bl true):=by rw[<-e1,FD,FD];rfl
    rw[b8];have d7:=a5.trans<|ae (o:=.dK<|a.map λm=>((Sum.inl m:Key),V.bl true)) N;have u:Same H (upd (upd B g<|.dK (a.map λm=>((Sum.inl m:Key),V.bl true))) g<|.dK (bJ (a.map λm=>((Sum.inl m:Key),V.bl true)) (Sum.inl n:Key)<|.bl true)):=aJ (a5.free N) d7;show{_,rfl,_,rfl,g,_,rfl,lT.k (k:=Sum.inl n) ac<|aw (by rw[ES];show W),?_};have O:(upd (upd B g<|.dK (a.map λm=>((Sum.inl m:Key),V.bl true))) g<|.dK (bJ (a.map λm=>((Sum.inl m:Key),V.bl true)) (Sum.inl n:Key)<|.bl true)) g=some (.dK<|bJ (a.map λm=>((Sum.inl m:Key),V.bl true)) (Sum.inl n:Key) (.bl true)):=ac;generalize upd (upd B g<|.dK (a.map λm=>((Sum.inl m:Key),V.bl true))) g (.dK<|bJ (a.map λm=>((Sum.inl m:Key),V.bl true)) (Sum.inl n:Key) (.bl true))=d8 at u O|-;have c8:∀k:Int,(!(aX (bJ (a.map λm=>((Sum.inl m:Key),V.bl true)) (Sum.inl n:Key)<|.bl true) (Sum.inl k:Key)).isSome) = !decide (k=n\/k∈a):=λk=>by
     rw[kl]
     by_cases e:k=n
     .subst e;simp
     .have b7:¬(Sum.inl k:Key)=Sum.inl n:=λh=>e (by injection h);rw[EV b7]
      by_cases b:k∈a
      .have:aX (a.map λm=>((Sum.inl m:Key),V.bl true)) (Sum.inl k:Key)=some (.bl true):=by
        show lg ?_<|EZ.mpr ⟨k,b,rfl⟩;rw[FD];unfold Nodup;rw[Fh];show X.imp λh e=>by injection e with e;lia
       rw[this];simp[b]
      .have:aX (a.map λm=>((Sum.inl m:Key),V.bl true)) (Sum.inl k:Key)=none:=by
        show sR λj=>b ?_;rw[FD]at j;let(m,r,e):=EZ.mp j;injection e with e
        rw[<-e];show r
       rw[this];simp[e,b]
    show{_,rfl,t,rfl,{_,SqT.of<|u _ _ c.tup},λp2 c3=>?_};show jt (fr:=[some<|.ref g]) zs (λz=>V.ref z.1) (by lia) c3 (gQ (by rw[cf];show SqT.of<|u _ _ c.tup)) rfl (λz=>pV n a z.2) (λz y _=>y=.ref z.1) (λz y H H' h _=>h) (λz H' k a3 v _ b=>?_) (λz H' k a3 _ v _ b=>?_) λys d9 v c5 L=>?_
    .show{_,rfl,z.1,_,_,_,rfl,rfl,SqT.of<|v _ _ (u _ _<|c.nod z a3),at0 z.2,_,rfl,g,_,rfl,cY.k (k:=Sum.inl z.2.num)<|v _ _ O,_,rfl,?_};rw[c8];show b H'<|Same.refl _
    .show{_,rfl,b _ H' (Same.refl _) rfl}
    .have c0:=cn (f:=λz:zi×Nd=>V.ref z.1) L λz y _ h=>h;show{p2,_,rfl,.inl {SqL.of c5,λd1 c1=>?_}};have a7:=(u.trans v).trans (ae (o:=.tup ys) c1);show o.ok (zs.filter λz=>pV n a z.2) d1 _ a7 (by rw[ac,c0,cf]) (λy J=>a7 _ _<|c.nod y (Fw.mp J).1) ?_;have b9:nds (zs.filter λz=>pV n a z.2)=(nds zs).filter (pV n a):=by
      unfold nds;rw[filter_map];rfl
     rw[b9];show .dropped ⟨z.2,bQ G,e⟩ λm r=>?_;unfold pV;rw[Bool.not_eq_true',decide_eq_false_iff_not];constructor
     .intro h c7
      by_cases C:m.num=n
      .show h<|.inl C
      .show h<|.inr ((U m.num).mpr {m,r,rfl,(TW.eX I Y r).mpr ⟨C,c7⟩})
     .intro h j;rcases j with C|j
      .show h (by rw[C];show .here)
      .let(d2,h1,h2,h3):=(U m.num).mp j;have:d2=m:=I.inj h1 r h2;subst this;show h ((TW.eX I Y h1).mp h3).2
def rA(cls:TW.Wd->zi):Sp:=λvs H Q E=>∃t d dd zs,vs=[.ref t,.ref d]/\Tre H t zs/\zs.length<=29/\H d=some (.tup<|aQ dd)/\dN dd/\Outs H (nds zs) dd cls Q E
theorem wS:FnScope ["tree","deed","word"] ["tree","deed"] (ak wK):=fsc
theorem yU{f:zi}{g:qa}{cls:TW.Wd->zi}(F:Fun K "done" "done" wK f g)(k:eI P w K mg base 3 "make" ["tree","number","parent","name","stamp"]<|rj cls)(m:eI P w K mg base 2 "write" ["tree","number","stamp"]<|oq cls)(l:eI P w K mg base 3 "move" ["tree","number","parent","name"]<|rk cls)(j:eI P w K mg base 3 "drop" ["tree","number"]<|rq cls):FnOk P w K mg base (CX1 P w) 4 f g ["tree","deed"] (rA cls):=by
 let(T,X,GM,N,I,x):=k;let(V,Z,u,R,L,z):=m;let(U,Y,r,O,J,y):=l;let(S,W,q,M,G,v):=j;show F.okX wS (λvs H Q E h=>?_) λcdv A outer s H vs Q E c h=>?_
 .let(t,d,dd,zs,rfl,_):=h;rfl
 .let(t,d,dd,zs,rfl,e,C,B,b,o):=h;have D:Room 2 _:=c.mono (by decide);show{_,ag (aD (i:=2) wS.nd rfl (Or.inl rfl)<|ixT K (pv 1) ai)
   (ag (aS (au cu (pv 2) ay<|av _) (am<|aq (bd (E:=E) GM c rfl N I x .nil (cS bR)<|aa (pv 0) (aa (ixT K (pv 1) ai)<|aa (ixT K (pv 1) ai) (aa (ixT K (pv 1) ai)<|aa (ixT K (pv 1) ai) af)))) ax)
   (ag (aS (au cu (pv 2) ay<|av _) (am<|aq (bd (E:=E) u D rfl R L z .nil (cS bR)<|aa (pv 0) (aa (ixT K (pv 1) ai)<|aa (ixT K (pv 1) ai) af))) ax)
   (ag (aS (au cu (pv 2) ay<|av _) (am<|aq (bd (E:=E) r c rfl O J y .nil (cS bR)<|aa (pv 0) (aa (ixT K (pv 1) ai)<|aa (ixT K (pv 1) ai) (aa (ixT K (pv 1) ai) af)))) ax)
   (ag (aS (au cu (pv 2) ay<|av _) (am<|aq (bd (E:=E) q c rfl M G v .nil (cS bR)<|aa (pv 0) (aa (ixT K (pv 1) ai) af))) ax)
   (am uX))))),?_}
  have a:SqT K H d (aQ dd):=SqT.of B;cases dd with
  |make n p nm st =>
   show{_,rfl,d,_,_,_,rfl,rfl,a,rfl,?_};show{_,rfl,rfl,_,rfl,aV ⟨_,rfl,_,rfl,d,_,_,_,rfl,rfl,a,rfl,_,rfl,d,_,_,_,rfl,rfl,a,rfl,_,rfl,d,_,_,_,rfl,rfl,a,rfl,_,rfl,d,_,_,_,rfl,rfl,a,rfl,t,n,p,nm,st,zs,rfl,e,C,b,o⟩}
  |write n st =>
   show{_,rfl,d,_,_,_,rfl,rfl,a,rfl,?_};show{_,rfl,rfl,_,rfl,aC ⟨_,rfl,rfl,_,rfl,aV ⟨_,rfl,_,rfl,d,_,_,_,rfl,rfl,a,rfl,_,rfl,d,_,_,_,rfl,rfl,a,rfl,t,n,st,zs,rfl,e,b,o⟩⟩}
  |move n p nm =>
   show{_,rfl,d,_,_,_,rfl,rfl,a,rfl,?_};show{_,rfl,rfl,_,rfl,aC ⟨_,rfl,rfl,_,rfl,aC ⟨_,rfl,rfl,_,rfl,aV ⟨_,rfl,_,rfl,d,_,_,_,rfl,rfl,a,rfl,_,rfl,d,_,_,_,rfl,rfl,a,rfl,_,rfl,d,_,_,_,rfl,rfl,a,rfl,t,n,p,nm,zs,rfl,e,b,o⟩⟩⟩}
  |drop n =>
   show{_,rfl,d,_,_,_,rfl,rfl,a,rfl,?_};show{_,rfl,rfl,_,rfl,aC ⟨_,rfl,rfl,_,rfl,aC ⟨_,rfl,rfl,_,rfl,aC ⟨_,rfl,rfl,_,rfl,aV ⟨_,rfl,_,rfl,d,_,_,_,rfl,rfl,a,rfl,t,n,zs,rfl,e,b,o⟩⟩⟩⟩}
end
end TK
namespace TB
open PySem PySem.SetTable
theorem uC{t:SetTable}{l:List Nat}(T:Tb t l)(mk:Mk t.mask)(k:l.length<=t.mask)(a:Int):∃j,t.freeSlot a=some (j,false)/\j∉l/\j<=t.mask:=by
 let(u,g,h):=kI t.mask l k;let(q,s,c):=cover mk.cyc a g;let(N,r,b,d):=kx (λm=>pos t.mask a m∉l) q (by rw[c];show h);have o:=kB t (λ_=>a+1) a N (st t.mask a) (10*turns t.mask) (by lia) (λm n=>by
  have f:pos t.mask a m∈l:=by
   by_cases z:pos t.mask a m∈l
   .show z
   .show(d m n z).elim
  let(i,hi,e):=GF.mp f;show{i,jT T (by change l[i]?=some (pos t.mask a m);rw[ET hi,e]),by rw[Fl];lia})<|pk T b
 show{pos t.mask a N,?_,b,jl _ _ _};unfold SetTable.freeSlot;have p:t.probe (λ_=>a+1) a (t.probeStart a)=some (.empty (pos t.mask a N) none):=o;rw[p];rfl
theorem yV{t:SetTable}{l:List Nat}(T:Tb t l)(mk:Mk t.mask)(o:l.length+1<=t.mask)(b:Array<|Int×xx)(j:b.size=l.length)(c:Int)(x:xx):
  ∃p t' i,layNew t b c x=(insertAt b p (c,x),t',false,false)/\Tb t' i/\i.length=l.length+1/\t'.mask=t.mask/\t'.plain=t.plain/\t'.led=t.led:=by
 let(a,k,m,n):=uC T mk (by lia) c;let(d,q,g):=vO T m n;have f:(l.take (below l.toArray a)++a::l.drop (below l.toArray a)).length=l.length+1:=by
  rw[FI,Fs,Fx,length_drop];have:=(cZ T.up a).1
  lia
 have h:(insertAt b (t.put a).2 (c,x)).size=l.length+1:=by
  rw[<-FQ,SetTable.toList_insertAt,FI,Fs,Fx,length_drop,FQ,j,q];have:=(cZ T.up a).1
  lia
 have e:(t.put a).1.fits (insertAt b (t.put a).2 (c,x)).size=true:=gM d (by rw[f,h]) (by rw[h,g];show o);show{(t.put a).2,(t.put a).1,_,?_,d,f,g,rfl,rfl};unfold layNew;rw[k];change(insertAt b (t.put a).2 (c,x),(t.put a).1.orStandIn (insertAt b (t.put a).2 (c,x)).size,false,!((t.put a).1.fits (insertAt b (t.put a).2 (c,x)).size))=_;rw[e];unfold SetTable.orStandIn;rw[EW e];rfl
theorem uD{t:SetTable}(a:Array<|Int×xx)(p:0<a.size)(r:a.size<=60):
  ∃es' t' j,relayAll t a (grown a.size)=(es',t',false)/\es'.toList.Perm a.toList/\Tb t' j/\j.length=a.size/\Mk t'.mask/\a.size*5<t'.mask*3/\t'.plain=t.plain/\t'.led=t.led:=by
 have o:grown a.size=a.size*4:=by unfold SetTable.grown;rw[EV (by lia)]
 let(f,s,q):=iI (w:=a.size*4) (by lia);rw[o];let(t',zs,e,c,m,n,T,b,_):=jn (t:=t) (hashes:=a.map (·.1)) (wanted:=a.size*4) f.cyc (by rw[size_map];lia);rw[size_map]at b;have d:zs.length=a.size:=by
  have:=b.length_eq;rw[ES,GH]at this;show this
 have g:(((zs.map (·.2)).toArray).filterMap (λi=>a[i]?)).toList.Perm a.toList:=by
  rw[Array.toList_filterMap];show(b.filterMap _).trans (by rw[filterMap_getElem?_range])
 have h:(((zs.map (·.2)).toArray).filterMap (λi=>a[i]?)).size=a.size:=by
  rw[<-FQ,g.length_eq,FQ]
 have l:t'.fits (((zs.map (·.2)).toArray).filterMap (λi=>a[i]?)).size=true:=gM T (by rw[h,ES,d]) (by rw[h,c];lia);have k:coversAll (zs.map (·.2)).toArray a.size=true:=by
  unfold coversAll;show List.isPerm_iff.mpr b
 show{((zs.map (·.2)).toArray).filterMap (λi=>a[i]?),t',zs.map (·.1),?_,g,T,by rw[ES,d],by rw[c];show f,by rw[c];lia,n,m};unfold relayAll;rw[e];dsimp only;rw[k,l];rfl
def bt(w:qn):Bool:=w.params.followText "set-order"
def iT(tk:Int->Tok)(n:Int):Int×xx:=(hashInt n,.int n<|tk n)
structure ISt(w:qn)(es:Array<|Int×xx)(t:SetTable)(ns:List Int):Prop where
 ent:∃tk,es.toList=ns.map (iT tk)
 nd:ns.Nodup
 tb:∃l,Tb t l/\l.length=ns.length
 mkm:Mk t.mask
 room:ns.length*5<t.mask*3
 pl:t.plain=true
 led:bt w=false->t.led=true
def IS(w:qn)(c:qb)(a:zi)(ns:List Int):Prop:=∃o es b t,c.get? a=some o/\o.ExactSet/\o.data=.set es b t/\ISt w es t ns
theorem ISt.size{w:qn}{a:Array (Int×xx)}{t:SetTable}{ns:List Int}(b:ISt w a t ns):a.size=ns.length:=by
 let(tk,e):=b.ent;rw[<-FQ,e,ES]
theorem ISt.fits{w:qn}{b:Array (Int×xx)}{t:SetTable}{ns:List Int}(a:ISt w b t ns):t.fits b.size=true:=by
 let(l,T,c):=a.tb;have:=a.mkm.ge;have:=a.room;show gM T (by rw[c,a.size]) (by rw[a.size];lia)
theorem ISt.elems{prog:qw}{w:qn}{a:Array (Int×xx)}{t:SetTable}{ns:List Int}(b:ISt w a t ns):ElemsOf (intKind prog w) a.toList:=by
 let(tk,e):=b.ent;rw[e];intro z c;let(n,d,rfl):=EZ.mp c;show{⟨n,intKind_is _ _ _ _,rfl⟩,rfl}
theorem dF{es':List (Int×xx)}:∀{l:List (Int×xx)},es'.Perm l->∀{tk:Int->Tok}{ns:List Int},l=ns.map (iT tk)->∃a:List Int,a.Perm ns/\es'=a.map (iT tk):=by
 intro l p tk ns e;have d:∀z∈es',∃n,z=iT tk n:=λz i=>by
  have:=p.mem_iff.mp i;rw[e]at this;let(n,f,e):=EZ.mp this;show⟨n,e.symm⟩
 obtain⟨a,c⟩:∃a:List Int,es'=a.map (iT tk):=by
  clear p e
  induction es' with
  |nil=>show{[],rfl}
  |cons z es' b =>
   let(n,f):=d z FY;let(a,e):=b λy h=>d y<|FR _ h;show{n::a,by rw[f,e];rfl}
 show{a,?_,c};have g:∀m:List Int,(m.map<|iT tk).map (λz=>match z.2 with | .int n _=>n | _=>0)=m:=λm=>by
  rw[FD]
  induction m with
  |nil=>rfl
  |cons x m b=>rw[Fi,b];rfl
 have:=p.map λz=>match z.2 with | .int n _=>n | _=>0;rw[c,e,g,g]at this;show this
theorem wT{tk:Int->Tok}{ns:List Int}{n:Int}{t:Tok}(c:n∉ns):∃a,(iT a n=(hashInt n,Value.int n t))/\ns.map (iT a)=ns.map (iT tk):=by
 show{λm=>if m=n then t else tk m,by change(hashInt n,Value.int n (if n=n then t else tk n))=_;rw[EW rfl],?_}
 apply Fq;intro m b;change(hashInt m,Value.int m (if m=n then t else tk m))=_;rw[EV (by rintro rfl;show c b)];rfl
section
variable{prog:qw}{w:qn}{A:qd}{E:xx->xg->Prop}{s:xg}
theorem add_int{a:zi}{ns:List Int}{n:Int}{b:Tok}{Q:Bool->xg->Prop}(M:IS w s.heap a ns)(d1:ns.length<60)(u:∀r h' J,SameBut a s.heap h'->IS w h' a J->((n∈ns/\J=ns)\/(n∉ns/\J.Perm (n::ns)))->Q r {s with heap:=h'}):
  wpAny (model prog w) A (setAddHashed a (.int n b)<|hashInt n) Q E s:=by
 let(o,es,c7,t,i,P,f,S):=id M;have d2:=S.size;have R:=S.fits;have N:ElemsOf (intKind prog w) es.toList:=S.elems;have a7:(intKind prog w).is n (.int n b)=true:=intKind_is _ _ _ _;have a4:es.size<scanBound:=by unfold scanBound;lia
 have c8:=S.mkm.ge;have d0:=S.room;unfold setAddHashed setAddHashedIn;show wpAny_holding<|Wb (wpAny_setState_of i f R ?_);dsimp only;rw[byScan_of (knd:=intKind prog w) (x:=.int n b) rfl a4 N];simp only[↓reduceIte];unfold setAddByScan;show Wb ?_;show Wb<|wpAny_rule ?_;show Wb<|wpAny_setScan_of (knd:=intKind prog w) (k:=n) a7 i f R N ?_;let(tk,v):=S.ent;cases Y:List.findIdx? (λe=>(intKind prog w).is n e.2) es.toList with
 |some a1 =>
  dsimp only;let(a6,X,_):=List.findIdx?_eq_some_iff_getElem.mp Y;have B:n∈ns:=by
   have C:es.toList[a1]∈es.toList:=Gk a6;generalize es.toList[a1]=z at C X;rw[v]at C;let(m,D,rfl):=EZ.mp C;have:=(intKind prog w).inj _ n m X (intKind_is _ _ _ _);rw[this];show D
  show Wp<|Wp ?_;have e:s={s with heap:=s.heap}:=by cases s;rfl
  have:=u false s.heap ns (SameBut.refl a s.heap) M<|.inl ⟨B,rfl⟩;rw[e];show this
 |none =>
  dsimp only;have g:n∉ns:=λB=>by
   have:=List.findIdx?_eq_none_iff.mp Y (iT tk n) (by rw[v];show EZ.mpr ⟨n,B,rfl⟩);have h2:(intKind prog w).is n (iT tk n).2=true:=intKind_is _ _ _ _;rw[h2]at this;cases this
  let(l,T,a8):=S.tb;let(p,c,c5,e1,L,a9,D,I,V):=yV T S.mkm (by lia) es (by lia) (hashInt n)<|.int n b;rw[e1];dsimp only;let(j,c3,c4):=wT (tk:=tk) (t:=b) g;let(d,h,y):=dF (es':=(insertAt es p (hashInt n,Value.int n b)).toList) (l:=(n::ns).map (iT j)) (tk:=j) (ns:=n::ns) (by
   show(SetTable.insertAt_perm es p _).trans ?_;rw[Array.toList_push,v,<-c4,Fi,c3];show List.perm_append_singleton _ _) rfl
  have b7:d.length=ns.length+1:=by rw[h.length_eq,Fs]
  have W:d.Nodup:=h.nodup_iff.mpr<|GW.mpr ⟨g,S.nd⟩;have a0:(insertAt es p (hashInt n,Value.int n b)).size=d.length:=by rw[<-FQ,y,ES]
  show Wb<|Wp ?_;rw[I,S.pl];simp only[GG];show Wb ?_;rw[hashByValue_scannable 8 (x:=.int n b) rfl];show Wp ?_;simp only[plainKind,GG];show Wb<|wpAny_storeSet_of i f ?_ (by rw[a0];show nT (by lia));have H:=stored i f (insertAt es p (hashInt n,Value.int n b)) c;have Z:=Ft s.heap a<|Obj.putSet (insertAt es p (hashInt n,Value.int n b)) c;have a5:c.fill=d.length:=by rw[gL L,a9,a8,b7]
  by_cases U:c.tooFull=true
  .rw[U];simp only[Bool.not_false,Bool.and_self,GG];let(q,a2,c6,e2,p2,a3,c9,b6,c1,c0,b5):=uD (t:=c) (insertAt es p (hashInt n,Value.int n b)) (by lia) (by lia);rw[e2];dsimp only;let(K,G,O):=dF p2 y;have b8:K.length=d.length:=G.length_eq;have c2:q.size=K.length:=by rw[<-FQ,O,ES]
   show Wb<|Wp ?_;show Wb<|wpAny_storeSet_of H rfl ?_ (by rw[c2];show nT (by lia));have b9:=stored (s:={s with heap:=s.heap.update a (Obj.putSet (insertAt es p (hashInt n,Value.int n b)) c)}) H rfl q a2
   show Wp<|Wp (u true _ K (Z.trans<|Ft _ a _) {_,q,_,a2,b9,P,rfl,{⟨j,O⟩,G.nodup_iff.mpr W,⟨c6,a3,by lia⟩,b6,by rw[b8,<-a0];show c1,by rw[c0,I];show S.pl,λz=>by rw[b5,V];show S.led z}}<|.inr ⟨g,G.trans h⟩)
  .have F:c.tooFull=false:=by simpa using U
   rw[F];simp only[Bool.and_false,FN,Fg];show Wp<|Wp (u true _ d Z {_,_,_,c,H,P,rfl,{⟨j,y⟩,W,⟨c5,L,by lia⟩,by rw[D];show S.mkm,?_,by rw[I];show S.pl,λz=>by rw[V];show S.led z}}<|.inr ⟨g,h⟩);unfold SetTable.tooFull at F;rw[decide_eq_false_iff_not,a5]at F
   lia
end
theorem lr:entryFor table "set.__iter__"=some Builtin.«frozenset.__iter__» :=
 entryFor_alias (id':="frozenset.__iter__") (by kernel_rfl) rfl (by decide +kernel) (by kernel_rfl)
theorem cr:Slot "set_iterator" "__next__" "set_iterator.__next__" :=
 .of (owner:="set_iterator") (n:="__next__") (by rw[typeLookup_type,builtinLookup_eq_fast];kernel_rfl) (by decide +kernel) (by decide +kernel) (by decide +kernel)
  (by first|show .inl (by decide +kernel)|show .inr (by decide +kernel)) (by rw[isSubtype_type];kernel_rfl)
theorem iU:Slot "set_iterator" "__iter__" "set_iterator.__iter__" :=
 .of (owner:="set_iterator") (n:="__iter__") (by rw[typeLookup_type,builtinLookup_eq_fast];kernel_rfl) (by decide +kernel) (by decide +kernel) (by decide +kernel)
  (by first|show .inl (by decide +kernel)|show .inr (by decide +kernel)) (by rw[isSubtype_type];kernel_rfl)
theorem hX:entryFor table "set_iterator.__next__"=some Builtin.«set_iterator.__next__»:=entryFor_of_tree (by kernel_rfl)
theorem pW:Manifest.owners.lookup (String.ofList ['r','o','t','a','r','e','t','i','_','t','e','s'].reverse)=some Manifest.sig_set_iterator:=by kernel_rfl
theorem iV(a:xx):argsOk "set_iterator.__next__" {[a],[]}:=by
 unfold argsOk;rw[signature?_of (id:="set_iterator.__next__") (n:=['_','_','t','x','e','n','_','_']) (o:=['r','o','t','a','r','e','t','i','_','t','e','s']) (by kernel_rfl) pW];kernel_rfl
theorem ou(a:xx):argsOk "set_iterator.__iter__" {[a],[]}:=by
 unfold argsOk;rw[signature?_of (id:="set_iterator.__iter__") (n:=['_','_','r','e','t','i','_','_']) (o:=['r','o','t','a','r','e','t','i','_','t','e','s']) (by kernel_rfl) pW];kernel_rfl
theorem lZ:∃b,entryFor table "set_iterator.__iter__"=some b/\b=Builtin.«dict_keyiterator.__iter__» :=
 {_,entryFor_alias (id':="dict_keyiterator.__iter__") (by kernel_rfl) rfl (by decide +kernel) (by kernel_rfl),rfl}
theorem ng{d:Type}(next:Nat->Nat):∀(a k:Nat)(left:List d)(b:Array d),left.length=a->(pickOrder.go next a k left b).toList.Perm (b.toList++left)
 |0,k,left,b,h=>by
  have:left=[]:=GY.mp h;subst this;rw[Gs];show .rfl
 |a+1,k,left,b,h=>by
  unfold pickOrder.go;have c:next k % left.length<left.length:=mod_lt _ (by lia);rw[ET c];dsimp only;show(ng next a (k+1) _ _ (by rw[List.length_eraseIdx,EW c];lia)).trans ?_;rw[Array.toList_push,append_assoc];show List.Perm.append_left _ ?_;rw[List.singleton_append];rw[List.eraseIdx_eq_take_drop_succ];show perm_middle.symm.trans ?_;rw[List.getElem_cons_drop,List.take_append_drop]
def gE(w:qn)(a:zi)(c:Nat)(b:Array<|Int×xx):Array (Int×xx):=if bt w then pickOrder (w.params.setOrder a c) b else b
theorem lu(w:qn)(a:zi)(c:Nat)(b:Array<|Int×xx):(gE w a c b).toList.Perm b.toList:=by
 unfold gE
 split
 .show ng _ _ _ _ _ rfl
 .show .rfl
theorem pX(w:qn)(a:zi)(c:Nat)(b:Array<|Int×xx):(gE w a c b).size=b.size:=by
 rw[<-FQ,(lu w a c b).length_eq,FQ]
def rB(w:qn)(t:SetTable)(e:qb)(c a:zi)(n d i:Nat):Prop :=
 ∃o b,e.get? c=some o/\o.cls=.type "set_iterator"/\o.data=.fields #[.int (b:Nat) 0,.int (i:Nat) 0,.ref a,.int (n:Nat) 0,.int (d:Nat) 0]/\(bt w=false->below t.place b=i)
theorem rB.typeIs{w:qn}{t:SetTable}{s:xg}{b a:zi}{n c i:Nat}(x:rB w t s.heap b a n c i):s.TypeIs (.ref b) "set_iterator":=let⟨o,_,e,d,_⟩:=x;⟨o,e,d⟩
section
variable{prog:qw}{w:qn}{A:qd}{E:xx->xg->Prop}{s:xg}
theorem jy{a:Array (Int×xx)}{t:SetTable}{ns:List Int}(S:ISt w a t ns):(!t.plain&&decide (a.size>1))=false:=by rw[S.pl];rfl
theorem wU{a:zi}{o:Obj}{b:Array (Int×xx)}{d:Nat}{t:SetTable}{ns:List Int}{Q:xx->xg->Prop}(S:ISt w b t ns)(c:s.heap.get? a=some o)(h:o.ExactSet)(hd:o.data=.set b d t)(f:Q (.ref s.heap.objs.size) {s with heap:=s.heap.push {cls:=.type "set_iterator",data:=.fields #[.int 0 0,.int 0 0,.ref a,.int b.size 0,.int d 0]}}):wpAny (model prog w) A (pyIter<|.ref a) Q E s:=by
 have e:s.TypeIs (.ref a) "set":=⟨o,c,h.1⟩;show wpAny_pyIter_slot e F.slot_set_iter<|wpAny_call_entry F.slot_set_iter e lr ?_ (F.args_set_iter_1 _);unfold Builtin.«frozenset.__iter__» Builtin.Frozenset.slot0;show Wb ?_;change wpAny _ _ (pure a) _ _ s;show Wp ?_;unfold Builtin.Frozenset.sizeOf;show Wb<|Wb (wpAny_setEntries_of c hd S.fits<|Wp ?_);show Wb ?_;unfold setDrawn;show Wb<|wpAny_setState_of c hd S.fits ?_;unfold setsByText;show Wb<|Wb (wpAny_askSetting<|Wp ?_);show Wp ?_;have g:(!(model prog w).w.params.followText "set-order"&&(!t.plain&&decide (b.size>1)))=false:=by rw[jy S,Bool.and_false]
 change wpAny _ _ (if (!(model prog w).w.params.followText "set-order"&&(!t.plain&&decide (b.size>1)))=true then _ else _) _ _ _
 rw[g];simp only[FN,Fg];show Wb<|Wp ?_;show Wb<|wpAny_setEpoch_of c hd S.fits ?_;show Wb<|wpAny_newObj_type (Wp {_,rfl,"set_iterator",_,{_,FG _ rfl,rfl},cr.lookup,?_});simpa [rawInt]using f
theorem pY{a:zi}{o:Obj}{es:Array (Int×xx)}{b g i:Nat}{t:SetTable}{ns:List Int}{Q:Option (xx×Nat)->xg->Prop}(S:ISt w es t ns)(j:s.heap.get? a=some o)(hd:o.data=.set es b t)(p:bt w=false->below t.place g=i)(d:∀v m,(gE w a b es)[i]?.map (·.2)=some v->(bt w=false->below t.place m=i+1)->Q (some (v,m)) s)(f:(gE w a b es)[i]?=none->Q none s):wpAny (model prog w) A (setNext a g i b) Q E s:=by
 unfold setNext;show Wb<|wpAny_setState_of j hd S.fits ?_;unfold setsByText;show Wb<|Wb (wpAny_askSetting<|Wp ?_);change wpAny _ _ (if bt w=true then _ else _) _ _ _;cases c:bt w with
 |true =>
  simp only[GG,bne_self_eq_false,FN,Fg];show Wb ?_;unfold setWalk;show Wb<|wpAny_setState_of j hd S.fits ?_;unfold setsByText;show Wb<|Wb (wpAny_askSetting<|Wp ?_);change wpAny _ _ (if bt w=true then _ else _) _ _ _;rw[c];simp only[GG];show Wb<|wpAny_askSetting (Wp ?_);have e:gE w a b es=pickOrder (w.params.setOrder a b) es:=by unfold gE;rw[c];rfl
  rw[e]at d f;change wpAny _ _ (pure<|((pickOrder (w.params.setOrder a b) es)[i]?).map λe=>(e.2,g)) _ _ _;cases k:(pickOrder (w.params.setOrder a b) es)[i]? with
  |none=>show Wp<|f k
  |some x=>show Wp<|d x.2 g (by rw[k];rfl) (λz=>absurd (c.symm.trans z) (by decide))
 |false =>
  simp only[FN,Fg];have e:gE w a b es=es:=by unfold gE;rw[c];rfl
  rw[e]at d f;change wpAny _ _ (if (!t.plain&&decide (es.size>1))=true then _ else _) _ _ _
  rw[jy S];simp only[FN,Fg];show Wb ?_;change wpAny _ _ (if (!t.led && !es.isEmpty)=true then _ else _) _ _ _
  rw[S.led c];simp only[Gn,Bool.false_and,FN,Fg];show Wp ?_;have q:=p c;let(l,T,n):=S.tb;have r:l.length=es.size:=by rw[n,S.size]
  rw[q]
  by_cases hi:i<es.size
  .have e1:es[i]?=some es[i]:=FK hi;have e2:t.place[i]?=some (l[i]'(by lia)):=by rw[T.pl,List.getElem?_toArray,ET (by lia)]
   rw[e1,e2];show Wp<|d _ _ (by rw[e1];rfl) λ_=>?_;let(b1,b2,b3):=cZ T.up<|l[i]'(by lia)+1;rw[T.pl];rcases Nat.lt_trichotomy (below l.toArray<|l[i]'(by lia)+1) (i+1)with z|z|z
   .have:=b3 i (by lia) (by lia)
    lia
   .show z
   .have h:i+1<l.length:=by lia
    have u:=b2 (i+1) h z;have y:=GD.mp T.up i (i+1) (by lia) h (by lia)
    lia
  .have e1:es[i]?=none:=Array.getElem?_eq_none (by lia);rw[e1];show Wp<|f e1
theorem yW{b a:zi}{o:Obj}{c:Array (Int×xx)}{e i:Nat}{t:SetTable}{ns:List Int}{Q:Option xx->xg->Prop}(S:ISt w c t ns)(u:i<c.size)(f:rB w t s.heap b a c.size e i)(h:s.heap.get? a=some o)(hd:o.data=.set c e t)(x:a≠b)(k:∀v h',(gE w a e c)[i]?.map (·.2)=some v->rB w t h' b a c.size e (i+1)->SameBut b s.heap h'->Q (some v) {s with heap:=h'}):wpAny (model prog w) A (pyNext<|.ref b) Q E s:=by
 let(y,r,g,l,d,p):=id f;unfold pyNext;show Wb<|wpAny_attempt (wpAny_callSpecial?_slot (name:=ofString "__next__") f.typeIs cr
  (wpAny_call_entry cr f.typeIs hX ?_<|iV _))
 unfold Builtin.«set_iterator.__next__»;show Wb<|Wp ?_;show Wb<|wpAny_fieldsOf g d ?_;dsimp only;show Wb<|wpAny_setEntries_of h hd S.fits ?_;rw[EV (by simp)];change wpAny _ _ (setNext a (toNat (r:Int)) (toNat (i:Int)) (toNat (e:Int)) >>= _) _ _ _;rw[GR,GR,GR];show Wb<|pY S h hd p (λv j q n=>?_) λm=>?_
 .dsimp only;show Wb<|wpAny_setField g d (by simp) ?_;have h1:(s.heap.update b<|Obj.mapFields (·.setIfInBounds 0 (rawInt (j:Nat)))).get? b=some _:=get?_update_self _ g<|Obj.isFreed_of_fields (Obj.data_mapFields d _);show Wb<|wpAny_setField h1 (Obj.data_mapFields d _) (by simp) ?_;have h2:=get?_update_self (Obj.mapFields (·.setIfInBounds 1 (rawInt<|(i:Int)+1))) h1<|Obj.isFreed_of_fields (Obj.data_mapFields (Obj.data_mapFields d _) _);show Wp ⟨_,rfl,Wp<|k v _ q {_,j,h2,?_,?_,n} ((Ft ..).trans (Ft ..))⟩
  .rw[Obj.cls_mapFields,Obj.cls_mapFields];show l
  .rw[Obj.data_mapFields<|Obj.data_mapFields d _];simp[rawInt]
 .exfalso
  rw[Array.getElem?_eq_none_iff,pX]at m
  lia
theorem Bp{e a:zi}{o:Obj}{c:Array (Int×xx)}{d:Nat}{t:SetTable}{ns:List Int}{Q:Option xx->xg->Prop}(l:A.handled=none)(S:ISt w c t ns)(f:rB w t s.heap e a c.size d c.size)(h:s.heap.get? a=some o)(hd:o.data=.set c d t)(k:∀h',ExtBut e s.heap h'->Q none {s with heap:=h'}):wpAny (model prog w) A (pyNext<|.ref e) Q E s:=by
 let(x,p,i,q,g,n):=id f;unfold pyNext;show Wb<|wpAny_attempt (wpAny_callSpecial?_slot (name:=ofString "__next__") f.typeIs cr
  (wpAny_call_entry cr f.typeIs hX ?_<|iV _))
 unfold Builtin.«set_iterator.__next__»;show Wb<|Wp ?_;show Wb<|wpAny_fieldsOf i g ?_;dsimp only;show Wb<|wpAny_setEntries_of h hd S.fits ?_;rw[EV (by simp)];change wpAny _ _ (setNext a (toNat (p:Int)) (toNat (c.size:Int)) (toNat (d:Int)) >>= _) _ _ _;rw[GR,GR,GR];show Wb<|pY S h hd n (λv y j u=>?_) λr=>?_
 .exfalso
  have:(gE w a d c)[c.size]?=none:=Array.getElem?_eq_none (by rw[pX];show FH _);rw[this]at j;cases j
 .dsimp only;show Wb<|wpAny_setField i g (by simp) ?_;change wpAny _ _ (newExc (.type "StopIteration") [] >>= _) _ _ _;show Wb ?_;simp only[newExc,newTuple];show Wb<|wpAny_newObj_type ?_ (by size_fits);show Wb (m:=firstArgMember _ _) (wpAny_of_eq (a:=Value.none) (by first|rfl|(simp only[firstArgMember];rfl)) ?_)
  show wpAny_newObj_type ?_ (by size_fits);simp only[raiseNew];show Wb<|wpAny_handled ?_;rw[show A.in1.handled=none from l];show Wb<|Wp (wpAny_throw ?_);show Wb<|wpAny_isInstance (T:="StopIteration") (b:=true) {_,FG _ rfl,rfl} isSubtype_stop ?_;show Wp<|k _ (((Ft ..).extBut.push _).push _)
theorem yX{c a:zi}{n f i:Nat}{t:SetTable}{Q:xx->xg->Prop}(d:rB w t s.heap c a n f i)(g:Q (.ref c) s):wpAny (model prog w) A (pyIter<|.ref c) Q E s:=by
 let(b,h,e):=lZ;subst e;show wpAny_pyIter_slot d.typeIs iU<|wpAny_call_entry iU d.typeIs h ?_ (ou _);change wpAny _ _ (ret<|.ref c) _ _ s;show Wp {_,rfl,"set_iterator",_,d.typeIs,cr.lookup,g}
theorem uE{f:Array (Int×xx)}{t:SetTable}{ns:List Int}{j:Nat}(S:ISt w f t ns)(p:A.handled=none)(c a:zi)(l:a≠c)(o:Obj)(hd:o.data=.set f j t):
  Walks prog w A c [c,a] [c] f.size (λi v=>(gE w a j f)[i]?.map (·.2)=some v) (λi h=>rB w t h c a f.size j i/\h.get? a=some o) where
 sub:=λb d=>by simp at d;simp[d]
 frame:=λi h h' st k=>by
  let((u,x,h1,h2),h3):=st;show{{u,x,k c (by simp) _ h1,h2},k a (by simp) _ h3}
 item:=λi s Q E hi st g=>by
  show yW S hi st.1 st.2 hd l λv h' r q m=>?_;show g v h' s.toks r ⟨q,m.extBut a o l st.2⟩ λb o d e=>m.extBut b o (λh=>d (by simp[h])) e
 done:=λs Q E st g=>Bp p S st.1 st.2 hd λh' n=>g h' s.toks λb o d e=>n b o (λh=>d (by simp[h])) e
 self:=λ_ _ _ _ st g=>yX st.1 g
theorem wV{r:zi}{Q:Bool->xg->Prop}(a:s.TypeIs (.ref r) "set")(e:Q false s):wpAny (model prog w) A (Builtin.List.listLengthHint<|.ref r) Q E s:=by
 unfold Builtin.List.listLengthHint;show Wb<|wpAny_specialOf a PySem.F.slot_set_len.lookup ?_;generalize d:("set.__len__":String)=f
 wp_delta
 rw[show splitId f=some ("set","__len__")from by subst d;decide +kernel];subst d;show Wb<|wpAny_isInstance (T:="set") (b:=true) a (by rw[isSubtype_type];kernel_rfl) ?_;show wpAny_ite_split (λc=>absurd c (by decide)) λ_=>?_;show wpAny_ite_split (λ_=>?_) λc=>absurd (by decide +kernel) c;show Wb<|wpAny_typeOf a ?_;show Wp e
theorem yY{c:Array (Int×xx)}{t:SetTable}{ns:List Int}{d:Nat}{a:zi}{o:Obj}(S:ISt w c t ns)(e:o.ExactSet)(hd:o.data=.set c d t):
  KdlSrc prog w "set" a a c.size (λi v=>(gE w a d c)[i]?.map (·.2)=some v) (λh=>h.get? a=some o) where
 type:=λ_ b=>⟨o,b,e.1⟩
 there:=λ_ b=>⟨FW b,FW b⟩
 keep:=λ_ _ b j=>j a (.inl rfl) o b
 notList:=by decide
 notTuple:=by decide
 hint:=λ_ _ _ _ b f=>wV ⟨o,b,e.1⟩ f
 iter:=λA s g b=>⟨{cls:=.type "set_iterator",data:=.fields #[.int 0 0,.int 0 0,.ref a,.int c.size 0,.int d 0]},_,(λ_ _ f=>wU S b e hd f),uE S g _ a (FX<|FW b) o hd,
  ⟨⟨_,0,FG _ rfl,rfl,rfl,λ_=>by
   let(l,T,k):=S.tb;let(b1,b2,b3):=cZ T.up 0;rw[T.pl];rcases Nat.eq_zero_or_pos (below l.toArray 0)with z|z
   .show z
   .have:=b2 0 (by lia) z
    lia⟩,EU _ b⟩⟩
end
theorem IS.at{w:qn}{a h':qb}{S:zi}{ns:List Int}(x:IS w a S ns)(k:∀o,a.get? S=some o->h'.get? S=some o):IS w h' S ns:=by
 let(o,es,b,t,c,r):=x;show{o,es,b,t,k o c,r}
theorem pZ{w:qn}{b:qb}{a:zi}(c:b.get? a=some {cls:=.type "set",dict:=none,data:=.set #[] 0 (.fresh 0 0<|!bt w)}):IS w b a [] :=
 {_,#[],0,_,c,⟨rfl,rfl,rfl⟩,rfl,{{λ_=>0,rfl},nodup_nil,{[],{rfl,rfl,Pairwise.nil,λ_ b=>by simp at b},rfl},Or.inl rfl,(by change 0<21;decide),rfl,λz=>by change(!bt w)=true;rw[z];rfl}}
section
variable{prog:qw}{w:qn}{A:qd}{E:xx->xg->Prop}{s:xg}
theorem ma(a:xx){Q₁:xx->xg->Prop}(b:Q₁ (.ref s.heap.objs.size) {s with heap:=s.heap.push {cls:=.type "set",dict:=none,data:=.set #[] 0 (.fresh 0 0<|!bt w)}}):
  codeAny (model prog w) A (.call (.builtin "set.__new__") {[.type "set",a],[]}) (wants Q₁ E) s:=by
 show codeAny_of_tree ?_;change wpAny _ A.in1 (do checkBuiltinCall "set.__new__" {[.type "set",a],[]};again (.builtin "set.__new__" {[.type "set",a],[]})) _ _ s
 show Wb<|wpAny_of_eq (F.newCall_set_1 a) (Wp {plainId_quiet F.plain_set_new _,codeAny_builtin F.entry_set_new ?_});rw[Around.under_plainId F.plain_set_new _];unfold Builtin.«set.__new__» Builtin.Frozenset.newClass;have e:=sub_set_self;let(c,g,d,tk,os):=s;dsimp only
 wp_walk
 show wpAny_askSetting<|Wp ?_;dsimp only;simp only[newObj];show Wb<|wpAny_alloc (Wp ?_);show Wp b
set_option maxRecDepth 100000 in
set_option maxHeartbeats 3200000 in
theorem ow{x:xx}{Q:xx->xg->Prop}(m:wpAny (model prog w) A.in1.in1 (Builtin.«set.__init__» {[.ref s.heap.objs.size,x],[]})
   (λj s'=>match j with | .done f=>wants (λr a=>r=.none/\Q (.ref s.heap.objs.size) a) E (.ok f) s' | .again g=>g.quiet=true/\codeAny (model prog w) A.in1 g (wants (λr a=>r=.none/\Q (.ref s.heap.objs.size) a) E) s')
   (λe s'=>wants (λr a=>r=.none/\Q (.ref s.heap.objs.size) a) E (.error e) s') {s with heap:=s.heap.push {cls:=.type "set",dict:=none,data:=.set #[] 0 (.fresh 0 0<|!bt w)}}):
  wpAny (model prog w) A (call (.type "set") [x]) Q E s:=by
 let(c,tl,y):=F.called_set.mro;have v:=F.called_set.made;have B:=F.called_set.sub;show wpAny_call<|codeAny_of_tree ?_;change wpAny _ _ (callAny (.type "set") _) _ _ _;show Wp {Code.quiet_builtin _ (by decide +kernel),codeAny_builtin F.entry_type_call ?_};rw[Around.under_plain (weight_type_call_type "set" [x] []) rfl];have h1:=F.called_set.notType;have h2:=F.called_set.canCreate;have t:=F.typeCall_set_1 x
 repeat (any_goals (first|assumption|wp_step))
 show codeAny_mono (ma x (E:=E) (Q₁:=λh i=>h=.ref s.heap.objs.size/\i={s with heap:=s.heap.push {cls:=.type "set",dict:=none,data:=.set #[] 0 (.fresh 0 0<|!bt w)}}) ⟨rfl,rfl⟩) λr i b=>?_
 cases r with
 |error e=>show b
 |ok k =>
  cases k with
  |ret h =>
   let(rfl,rfl):=b;have n:(s.heap.push {cls:=.type "set",dict:=none,data:=.set #[] 0 (.fresh 0 0<|!bt w)}).get? s.heap.objs.size=some {cls:=.type "set",dict:=none,data:=.set #[] 0 (.fresh 0 0<|!bt w)}:=FG _ rfl;have o:Shared.TypeIs {s with heap:=s.heap.push {cls:=.type "set",dict:=none,data:=.set #[] 0 (.fresh 0 0<|!bt w)}} (.ref s.heap.objs.size) "set":=⟨_,n,rfl⟩
   have u:=F.called_set.init.lookup;have q:=F.called_set.init.bind<|.ref s.heap.objs.size
   repeat (any_goals (first|assumption|wp_step))
   show codeAny_mono (codeAny_call_builtin (R:=wants (λr a=>r=.none/\Q (.ref s.heap.objs.size) a) E) F.called_set.init.plain F.entry_set_init<|check_set_init_1 o ?_) λp a d=>?_
   .show m
   .cases p with
    |error e=>show d
    |ok l =>
     cases l with
     |ret r =>
      let(rfl,z):=d
      repeat (any_goals (first|assumption|wp_step))
     |_=>show d.elim
  |_=>show b.elim
end
end TB
namespace SRT
open PySem PySem.W PyProof.Rows
section
variable{prog:qw}{w:qn}{A:qd}{E:xx->xg->Prop}{s:xg}
theorem qc{f:Nat->Nat->Bool}{vs:List xx}{κ:SortKind}{Q:xx->xg->Prop}(m:Ord f vs.length)(u:vs.length<64)(z:∀(a:qd) (s':xg),a.units<=A.units+1->(∀b o,s.heap.get? b=some o->s'.heap.get? b=some o)->∀Q:SortKind->xg->Prop,2<=vs.length->Q κ s'->wpAny (model prog w) a (keyKind' vs.toArray) Q (λ_ _=>False) s')(B:∀(a:qd) (s':xg),a.units<=A.units+1->(∀b o,s.heap.get? b=some o->s'.heap.get? b=some o)->∀(i j:Nat) (C:Bool->xg->Prop),i<vs.length->j<vs.length->C (f i j) s'->wpAny (model prog w) a (keyLt' κ (vs.getD i Value.none)<|vs.getD j Value.none) C (λ_ _=>False) s')(t:∀(p:Array Nat) (h':qb),Row vs.length p->Up f p vs.length->(∀b o,s.heap.get? b=some o->h'.get? b=some o)->(∃k,h'.get? s.heap.objs.size=some (seqObj "list" (toArray<|p.toList.map λi=>vs.getD i Value.none) k))->Q (.ref s.heap.objs.size) {s with heap:=h'}):
  wpAny (model prog w) A (do
   let l <- newList vs
   let _ <- holding [l] (call (.builtin "list.sort") [l] [])
   ret l) (λr s'=>∃v,r=.done (.ret v)/\Q v s') E s:=by
 show Wb<|wpAny_newList ?_ (by rw[sizeLine_eq];lia);have d:(s.heap.push<|seqObj "list" vs.toArray 0).get? s.heap.objs.size=some (seqObj "list" vs.toArray 0):=FG _ rfl;have h:∀b o,s.heap.get? b=some o->(s.heap.push<|seqObj "list" vs.toArray 0).get? b=some o:=λb o q=>EU _ q;have c:∀b o,s.heap.get? b=some o->b≠s.heap.objs.size:=λb o q=>FX<|FW q;change wpAny _ _ _ _ _ {s with heap:=s.heap.push (seqObj "list" vs.toArray 0)}
 show Wb<|wpAny_holding (wpAny_call_entry slot_list_sort ⟨_,d,rfl⟩ entry_list_sort (iM (κ:=κ) (s:={s with heap:=s.heap.push (seqObj "list" vs.toArray 0)}) m d u ?_ ?_ λp G H=>{_,rfl,?_})<|args_list_sort _)
 .intro s' g n h2 F;show z _ s' (by simp[Around.in1_units]) (λb o e=>g b o (c b o e)<|h b o e) n h2 F
 .intro s' g i j C hi y x;show B _ s' (by simp[Around.in1_units]) (λb o e=>g b o (c b o e)<|h b o e) i j C hi y x
 .show Wp {_,rfl,t p _ G H (λb o e=>?_) ?_}
  .unfold sortedHeap;rw[get?_update_ne _ _ _ _<|c b o e];show EU _<|EU _ ?_;rw[get?_update_ne _ _ _ _<|c b o e];show h b o e
  .unfold sortedHeap;obtain⟨e1,D⟩:∃e1,((s.heap.push<|seqObj "list" vs.toArray 0).update s.heap.objs.size (Obj.mapSeq λ_=>(#[]:Array xx))).get? s.heap.objs.size=some (seqObj "list" #[] e1):={_,get?_update_seq d λ_=>#[]};show{_,get?_update_seq (EU _<|EU _ D) _}
theorem qe{T:String}{r d:zi}{n:Nat}{P:Nat->xx->Prop}{l:qb->Prop}{Q:List xx->xg->Prop}(K:KdlSrc prog w T r d n P l)(y:A.handled=none)(q:l s.heap)(z:n<=sizeLine)(v:∀h' tk a,(∀b o,s.heap.get? b=some o->h'.get? b=some o)->s.heap.objs.size<h'.objs.size->ItemsOf P a n->Q a.toList {s with heap:=h',toks:=tk}):wpAny (model prog w) A (collect<|.ref r) Q E s:=by
 unfold collect;show Wb<|wpAny_runValue (codeAny_builtin entry_proto_collect' ?_);change wpAny _ _ (do again (.builtin "list.__iadd__" {[<-newList [],.ref r],[]})) _ _ s
 show Wb<|wpAny_newList (Wp {Code.quiet_builtin _ (by decide +kernel),codeAny_builtin entry_list_iadd' ?_});rw[Around.under_plainId PySem.F.plain_list_iadd _];change wpAny _ _ (Builtin.List.listExtendWith (.ref s.heap.objs.size) (.ref r)<|.ref s.heap.objs.size) _ _ {s with heap:=s.heap.push (seqObj "list" #[] 0)}
 have p:=K.there _ q;have x:(s.heap.push<|seqObj "list" #[] 0).get? s.heap.objs.size=some (seqObj "list" #[] 0):=FG _ rfl;have key:=PySem.W.kdl_extend (A:=A) (s:={s with heap:=s.heap.push (seqObj "list" #[] 0)}) (R:=λr s'=>∃h' tk a g,r=.ok (.ret<|.ref s.heap.objs.size)/\s'={s with heap:=h',toks:=tk}/\(∀b o,s.heap.get? b=some o->h'.get? b=some o)/\h'.get? s.heap.objs.size=some {cls:=.type "list",dict:=none,data:=.seq a g,slots:=#[]}/\ItemsOf P a n)
  K y (K.keep _ _ q λb _ o e=>EU _ e) s.heap.objs.size (Gv p.1) (Gv p.2) (.ref s.heap.objs.size) 0 x (λh' tk t g j h i=>{h',tk,t,g,rfl,rfl,λb o e=>j b o (FX<|FW e)<|EU _ e,h,i}) z
 have m:∀(h':qb)(tk:Nat)(a:Array xx)(g:Nat),(∀b o,s.heap.get? b=some o->h'.get? b=some o)->h'.get? s.heap.objs.size=some {cls:=.type "list",dict:=none,data:=.seq a g,slots:=#[]}->ItemsOf P a n->wpAny (model prog w) A (do
   let o <- load s.heap.objs.size
   match o.data with
   |.seq xs _=>pure xs.toList
   | _=>unsupported "internal:collect") Q E {s with heap:=h',toks:=tk}:=λh' tk a g j h i=>by
  show Wb<|wpAny_load h ?_;show Wp<|v h' tk a j (FW h) i
 show wpAny_mono key (λu s' k=>?_) λe s' k=>?_
 .cases u with
  |done f =>
   let(h',tk,a,g,e1,e2,j,h,i):=k;cases e1;subst e2;show m h' tk a g j h i
  |again c =>
   show{k.1,codeAny_mono k.2 λr s' B=>?_};let(h',tk,a,g,e1,e2,j,h,i):=B;subst e1 e2;show m h' tk a g j h i
 .let(h',tk,a,g,e1,_):=k;cases e1
theorem iu{T:String}{r d:zi}{n:Nat}{P:Nat->xx->Prop}{l:qb->Prop}{κ:SortKind}{Q:xx->xg->Prop}(K:KdlSrc prog w T r d n P l)(z:A.handled=none)(H:l s.heap)(G:n<=sizeLine)(v:∀(h1:qb) (tk:Nat) (vs:List xx),(∀b o,s.heap.get? b=some o->h1.get? b=some o)->s.heap.objs.size<h1.objs.size->ItemsOf P vs.toArray n->∃f:Nat->Nat->Bool,Ord f vs.length/\vs.length<64 /\
   (∀(a:qd) (s':xg),a.units<=A.units+2->(∀b o,s.heap.get? b=some o->s'.heap.get? b=some o)->∀Q:SortKind->xg->Prop,2<=vs.length->Q κ s'->wpAny (model prog w) a (keyKind' vs.toArray) Q (λ_ _=>False) s') /\
   (∀(a:qd) (s':xg),a.units<=A.units+2->(∀b o,s.heap.get? b=some o->s'.heap.get? b=some o)->∀(i j:Nat) (C:Bool->xg->Prop),i<vs.length->j<vs.length->C (f i j) s'->wpAny (model prog w) a (keyLt' κ (vs.getD i Value.none)<|vs.getD j Value.none) C (λ_ _=>False) s') /\
   ∀(p:Array Nat) (h':qb),Row vs.length p->Up f p vs.length->(∀b o,s.heap.get? b=some o->h'.get? b=some o)->(∃k,h'.get? h1.objs.size=some (seqObj "list" (toArray<|p.toList.map λi=>vs.getD i Value.none) k))->Q (.ref h1.objs.size) {s with heap:=h',toks:=tk}):
  wpAny (model prog w) A (call (.builtin "sorted") [.ref r]) Q E s:=by
 show Calls.call_function_entry kind_sorted plain_sorted entry_sorted (args_sorted1 _) ?_;unfold Builtin.«sorted»;show Wb (m:=checkCount "sorted" 1 1 _)<|Wp ?_;show Wb<|qe K z H G λh1 tk t g D x=>?_;let(f,q,u,B,F,I):=v h1 tk t.toList g D (by rw[Array.toArray_toList];show x);show qc (s:={s with heap:=h1,toks:=tk}) q u (λa s' h c=>B a s' (by have:=h;simp only[Around.in1_units]at this;lia) λb o e=>c b o<|g b o e) (λa s' h c=>F a s' (by have:=h;simp only[Around.in1_units]at this;lia) λb o e=>c b o<|g b o e)
  λp h' J L c y=>I p h' J L (λb o e=>c b o<|g b o e) y
end
end SRT
namespace L2
open PySem PySem.Spec PyProof.Rows
section
variable{X:Cx}
def fU(w:qn)(a:zi)(ns:List Int):HO:=.ext λh=>TB.IS w h a ns
theorem Inv.intS{e:List (zi×Obj)}{f:St}{b:Hp}{s:xg}(c:Inv X e f b s){a:zi}{ns:List Int}(d:b a=some (fU X.w a ns)):TB.IS X.w s.heap a ns:=(c.hok a _ d).1
theorem Inv.layS{e:List (zi×Obj)}{f:St}{c:Hp}{s:xg}(g:Inv X e f c s){h':qb}{t':Nat}{a:zi}{ns:List Int}(k:∀b u,s.heap.get? b=some u->h'.get? b=some u)(l:s.heap.objs.size<=a)(d:TB.IS X.w h' a ns):
  Inv X e f (upd c a<|fU X.w a ns) {s with heap:=h',toks:=t'}:=by
 let(o,es,m,t,j,r):=id d;show g.laid k l {d,⟨o,j⟩,λh1 h2 h i=>h.at i}
theorem lw(Y:X.calm=true):ca X (.builtin "sorted") (λxs H Q=>∃l,∃ns:List Int,xs=[.ref l]/\H l=some (fU X.w l ns)/\ns.length<=60 /\
  ∀F:List Int,F.Perm ns->F.Pairwise (λa b=>a<b)->∀p,H p=none->Q (.ref p) (upd H p<|.lst (F.map V.int))):=by
 intro pins s σ H xs c0 Q I r h;let(l,ns,rfl,a5,b7,q):=h;let(u,rfl,b5):=cA r;cases b5;let(o,es,G,t,a6,a1,Z,S):=I.intS a5;let(y,a0):=S.ent;let(ns',m,M):=TB.dF (TB.lu X.w l G es) a0;have L:ns'.Nodup:=m.nodup_iff.mpr S.nd;have J:ns'.length=ns.length:=m.length_eq;show SRT.iu (κ:=oneType') (TB.yY S a1 Z) (I.ok.hd Y) a6 (by rw[S.size,sizeLine_eq];lia) λh1 tk vs b8 K D=>?_;have g:vs=ns'.map λn=>Value.int n (y n):=by
  apply Gu;intro i;have E:vs.length=es.size:=by have:=D.1;rw[FO]at this;show this
  by_cases hi:i<vs.length
  .have:Option.map (λx=>x.2) (TB.gE X.w l G es)[i]?=some vs[i]:=D.2 i vs[i] (by rw[List.getElem?_toArray];show ET hi);rw[ET hi,FE];rw[<-Gd,M,FE]at this;cases e:ns'[i]? with
   |none=>rw[e]at this;cases this
   |some n =>
    rw[e]at this;have e2:(TB.iT y n).2=vs[i]:=Option.some.inj this;change some vs[i]=some (Value.int n<|y n);rw[<-e2];rfl
  .rw[Fo (by lia),Fo (by rw[ES,J,<-S.size];lia)]
 have E:vs.length=ns'.length:=by rw[g,ES]
 have z:∀i,i<ns'.length->vs.getD i Value.none=.int (ns'.getD i 0) (y<|ns'.getD i 0):=λi hi=>by
  rw[g,wn (d:=(0:Int)) hi]
 have P:aA (ns'.map V.int) vs:=by
  rw[g];clear m M L J g E z D
  induction ns' with
  |nil=>show .nil
  |cons n ns' a8=>show .cons ⟨_,rfl⟩ a8
 show{λi f=>decide<|ns'.getD i 0<ns'.getD f 0,{λi _=>by simp,λi f k _ _ _ h1 h2=>?_,λi f hi j B=>?_},by lia,λR s' _ _ b6 h2 U=>?_,λR s' _ _ i f C hi j T=>?_,λp h' v O a9 A=>?_}
 .simp only[FJ]at *;lia
 .simp only[FJ];have:ns'.getD i 0≠ns'.getD f 0:=by
   rw[FA,FA,ET (by lia),ET (by lia)];show λe=>B<|(Gr L).mp e
  lia
 .rw[ksk_kind (keys:=vs.toArray) (kz:=ns') (by simpa using nZ P) (by rw[FO];lia)];show Wp U
 .rw[z i (by lia),z f (by lia)];show kat_lt_int T
 .let(c,A):=A;rw[E]at v O;have a3:∀i∈p.toList,i<ns'.length:=λi hi=>GC.mp<|v.perm.mem_iff.mp hi;have N:(p.toList.map λi=>ns'.getD i 0).Perm ns':=by
   show(v.perm.map _).trans ?_;have:(List.range ns'.length).map (λi=>ns'.getD i 0)=ns':=by
    apply Gu;intro i;rw[FE]
    by_cases hi:i<ns'.length
    .rw[getElem?_range hi,(cb (d:=(0:Int)) hi).2];rfl
    .rw[Fo (by rw[GH];lia),Fo (by lia)];rfl
   rw[this]
  have b9:p.size=ns'.length:=v.size;have a7:(p.toList.map λi=>ns'.getD i 0).Pairwise (λa b=>a<b):=by
   rw[GD];intro i f hi j B;have a2:i<p.size:=by rw[ES,FQ]at hi;show hi
   have a4:f<p.size:=by rw[ES,FQ]at j;show j
   have:=O i f B (by lia);simp only[]at this;rw[FF,FF,FK a2,FK a4]at this;simpa using this
  show{.ref h1.objs.size,_,I.laid (t':=tk) (o:=.lst<|(p.toList.map λi=>ns'.getD i 0).map V.int) a9 (Fu K) {?_,_,c,gO P p.toList a3,A},rfl,q _ (N.trans m) a7 _<|I.hok.fresh (Fu K)};rw[ES,N.length_eq,sizeLine_eq];lia
end
end L2
namespace TB
open PySem PySem.SetTable
theorem yZ{mask finger moves:Nat}{led plain:Bool}{hashes:Array Int}(c:Cyc mask)(n:hashes.size<=mask+1):
  ∃(t':SetTable) (zs:List<|Nat×Nat),SetTable.laid mask finger moves led plain hashes=some (t',(zs.map (·.2)).toArray)/\t'.mask=mask/\t'.led=led/\t'.plain=plain /\
   Tb t' (zs.map (·.1))/\(zs.map (·.2)).Perm (List.range hashes.size):=by
 let(a,e,h):=jC c hashes n;show{{mask:=mask,place:=((live mask a).map (·.1)).toArray,dummies:=#[],finger:=finger,led:=led,moves:=moves,plain:=plain},live mask a,?_,rfl,rfl,rfl,{rfl,rfl,?_,?_},?_}
 .unfold laid;rw[e];rfl
 .unfold Up live;rw[List.map_filterMap];have e1:((List.range<|mask+1).filterMap λd=>((a.getD d none).map (d,·)).map (·.1))=(List.range<|mask+1).filter λd=>(a.getD d none).isSome:=by
   generalize List.range (mask+1)=l
   induction l with
   |nil=>rfl
   |cons x l g =>
    cases ex:a.getD x none with
    |none=>rw[GI (by rw[ex];rfl),Gh (by simp[ex])];show g
    |some i=>rw[Fm (b:=x) (by rw[ex];rfl),GX (by simp[ex]),g]
  rw[e1];show Pairwise.sublist filter_sublist List.pairwise_lt_range
 .intro d j;let(z,f,rfl):=EZ.mp j;unfold live at f;let(k,m,e1):=GZ.mp f;cases ex:a.getD k none with
  |none=>rw[ex]at e1;cases e1
  |some i =>
   rw[ex]at e1;have e2:(k,i)=z:=Option.some.inj e1;subst e2;have:=GC.mp m;change k<=mask
   lia
 .have:=h.perm;rw[FQ]at this;show this
theorem qf{a:Array (Int×xx)}{zs:List (Nat×Nat)}(b:(zs.map (·.2)).Perm (List.range a.size)):(((zs.map (·.2)).toArray).filterMap (λi=>a[i]?)).toList.Perm a.toList:=by
 rw[Array.toList_filterMap];show(b.filterMap _).trans (by rw[filterMap_getElem?_range])
section
variable{prog:qw}{w:qn}{A:qd}{E:xx->xg->Prop}{s:xg}
theorem wW{a:zi}{ns:List Int}{wanted:Nat}{Q:Unit->xg->Prop}(q:IS w s.heap a ns)(D:wanted<=255)(C:ns.length*5<(sizeAbove wanted-1)*3)(p:∀h' b o es k t,SameBut a s.heap h'->h'.get? a=some o->o.ExactSet->o.data=.set es k t->ISt w es t b->b.Perm ns->t.mask=sizeAbove wanted-1->Q () {s with heap:=h'}):wpAny (model prog w) A (setRelay a wanted) Q E s:=by
 let(o,es,k,t,h,v,c,S):=q;let(f,H,F):=iI D;have I:=S.size;have G:=f.ge;unfold setRelay;show Wb<|wpAny_setState_of h c S.fits ?_;dsimp only;rw[EV (by rw[sizeLine_eq];lia)];let(n,zs,e,d,x,B,T,j,_):=jn (t:=t) (hashes:=es.map (·.1)) (wanted:=wanted) f.cyc (by rw[size_map];lia);rw[size_map]at j;have l:=qf j;have m:(((zs.map (·.2)).toArray).filterMap (λi=>es[i]?)).size=es.size:=by rw[<-FQ,l.length_eq,FQ]
 let(tk,r):=S.ent;let(b,g,u):=dF l r;have J:zs.length=es.size:=by
  have:=j.length_eq;rw[ES,GH]at this;show this
 have y:b.length=ns.length:=g.length_eq;show Wb ?_;rw[e];change wpAny _ _ (@ite _ _ _ _ _) _ _ _;rw[EV (by rw[m];simp)];show Wp ?_;dsimp only;show wpAny_storeSet_of h c ?_ (by rw[m,sizeLine_eq];lia);show p _ b _ _ _ n (Ft s.heap a _) (stored h c _ n) v rfl {⟨tk,u⟩,g.nodup_iff.mpr S.nd,{_,T,by rw[ES];lia},by rw[d];show f,by rw[d,y];show C,by rw[B];show S.pl,λz=>by rw[x];show S.led z} g d
theorem oz{a:zi}{ns:List Int}{more:Nat}{Q:Unit->xg->Prop}(h:IS w s.heap a ns)(I:ns.length+more<=120)(g:∀h' b o es c t,SameBut a s.heap h'->h'.get? a=some o->o.ExactSet->o.data=.set es c t->ISt w es t b->b.Perm ns->(ns.length+more)*5<t.mask*3->Q () {s with heap:=h'}):wpAny (model prog w) A (setRoomFor a more) Q E s:=by
 let(o,es,c,t,k,q,i,S):=id h;let(l,T,j):=S.tb;have u:t.fill=ns.length:=by rw[gL T,j]
 have B:t.place.size=ns.length:=by rw[T.pl,FO,j]
 unfold setRoomFor;show Wb<|wpAny_setState_of k i S.fits ?_;dsimp only
 by_cases f:(t.fill+more)*5>=t.mask*3
 .have e:t.roomFor more=some ((t.place.size+more)*2):=by unfold SetTable.roomFor;rw[EW f]
  rw[e];dsimp only;rw[B];let(x,H,_):=iI (w:=(ns.length+more)*2) (by lia);have F:=x.ge;have G:=S.mkm.ge;show wW h (by lia) (by lia) λh' b o' d n D C y r p m z v=>g h' b o' d n D C y r p m z ?_;rw[v]
  lia
 .have e:t.roomFor more=none:=by unfold SetTable.roomFor;rw[EV f]
  rw[e];dsimp only;have d:s={s with heap:=s.heap}:=by cases s;rfl
  rw[d];show Wp<|g s.heap ns o es c t (SameBut.refl a s.heap) k q i S (.refl _) (by rw[u]at f;lia)
theorem nh{a b:zi}{ns:List Int}{I:Sem Unit}{Q:Unit->xg->Prop}(v:a≠b)(u:IS w s.heap a [])(K:IS w s.heap b ns)(a7:ns.length<=60)(n:∀h' l,SameBut a s.heap h'->IS w h' a l->l.Perm ns->Q () {s with heap:=h'}):wpAny (model prog w) A (setMerge a b I) Q E s:=by
 let(ob,g,a2,tb,C,a5,L,c):=id K;unfold setMerge;have U:(a==b)=false:=by simpa using v
 rw[U];simp only[FN,Fg];show Wb<|wpAny_setState_of C L c.fits ?_;dsimp only;have J:s={s with heap:=s.heap}:=by cases s;rfl
 by_cases o:g.isEmpty=true
 .rw[o];simp only[GG];have Y:ns=[]:=by
   have:=c.size;have a4:g.size=0:=by simpa [isEmpty]using o
   show GY.mp (by lia)
  subst Y;rw[J];show Wp<|n s.heap [] (SameBut.refl a s.heap) u (.refl _)
 .have M:g.isEmpty=false:=by simpa using o
  rw[M];simp only[FN,Fg];have t:=c.size;show Wb<|oz u (by rw[length_nil];lia) λh1 a0 b6 a3 a1 f r j y h d W F=>?_;have e1:a0=[]:=W.eq_nil;subst e1;rw[length_nil,zero_add]at F;have a8:h1.get? b=some ob:=(r.2 b<|symm v).trans C;show Wb<|wpAny_setState_of (s:={s with heap:=h1}) j h d.fits ?_;dsimp only;let(b5,H,P):=d.tb;have O:f.fill=0:=by rw[gL H,P];rfl
  let(Z,m,R):=c.tb;let(tk,x):=c.ent;have a6:=d.mkm.ge;cases k:f.road tb with
  |slotForSlot =>
   dsimp only;show wpAny_storeSet_of (s:={s with heap:=h1}) j h ?_ (by rw[t,sizeLine_eq];lia);show n _ ns (r.trans<|Ft ..) {_,_,_,_,stored (s:={s with heap:=h1}) j h _ _,y,rfl,{⟨tk,x⟩,c.nd,⟨Z,⟨m.pl,m.nd,m.up,m.le⟩,R⟩,c.mkm,c.room,by change(f.plain&&tb.plain)=true;rw[d.pl,c.pl];rfl,λz=>by change(f.led&&tb.led)=true;rw[d.led z,c.led z];rfl}}<|.refl _
  |clean =>
   dsimp only;let(b7,zs,e,B,S,X,T,q):=yZ (mask:=f.mask) (finger:=f.finger) (moves:=f.moves) (led:=f.led&&tb.led) (plain:=f.plain&&tb.plain) (hashes:=g.map (·.1)) d.mkm.cyc (by rw[size_map];lia);rw[size_map]at q;have D:=qf q;have G:(((zs.map (·.2)).toArray).filterMap (λi=>g[i]?)).size=g.size:=by rw[<-FQ,D.length_eq,FQ]
   let(l,p,N):=dF D x;have a9:zs.length=g.size:=by
    have:=q.length_eq;rw[ES,GH]at this;show this
   have V:l.length=ns.length:=p.length_eq;show Wb ?_;rw[e];change wpAny _ _ (@ite _ _ _ _ _) _ _ _;rw[EV (by rw[G];simp)];show Wp ?_;dsimp only;show wpAny_storeSet_of (s:={s with heap:=h1}) j h ?_ (by rw[G,t,sizeLine_eq];lia);show n _ l (r.trans<|Ft ..) {_,_,_,_,stored (s:={s with heap:=h1}) j h _ _,y,rfl,{⟨tk,N⟩,p.nodup_iff.mpr c.nd,{_,T,by rw[ES];lia},by rw[B];show d.mkm,by rw[B,V,<-t];show F,by rw[X,d.pl,c.pl];rfl,λz=>by rw[S,d.led z,c.led z];rfl}} p
  |oneByOne =>
   exfalso
   unfold SetTable.road at k;rw[O]at k;simp only[bne_self_eq_false,FN,Fg]at k
   split at k<;>cases k
theorem za{b:zi}{o:Obj}{c:Array (Int×xx)}{e:Nat}{t:SetTable}{ns:List Int}{Q:Array (Int×xx)->xg->Prop}(S:ISt w c t ns)(f:s.heap.get? b=some o)(hd:o.data=.set c e t)(a:Q (gE w b e c) s):wpAny (model prog w) A (setWalk b) Q E s:=by
 unfold setWalk;show Wb<|wpAny_setState_of f hd S.fits ?_;unfold setsByText;show Wb<|Wb (wpAny_askSetting<|Wp ?_);change wpAny _ _ (if bt w=true then _ else _) _ _ _;unfold gE at a;cases d:bt w with
 |true =>
  rw[d]at a;simp only[GG]at a|-;show Wb<|wpAny_askSetting (Wp a)
 |false =>
  rw[d]at a;simp only[FN,Fg]at a|-;change wpAny _ _ (if (!t.plain&&decide (c.size>1))=true then _ else _) _ _ _
  rw[jy S];simp only[FN,Fg];show Wb ?_;change wpAny _ _ (if (!t.led&&decide (c.size>1))=true then _ else _) _ _ _
  rw[S.led d];simp only[Gn,Bool.false_and,FN,Fg];show Wp<|Wp a
theorem qg{b:zi}{os:List zi}{f:Option zi}{o:Obj}{a:Array (Int×xx)}{c:Nat}{t:SetTable}{ns:List Int}{Q:Array (Int×xx)->xg->Prop}(S:ISt w a t ns)(e:s.heap.get? b=some o)(hd:o.data=.set a c t)(g:Q (gE w b c a) s):wpAny (model prog w) A (setWalkUnseen b os f) Q E s:=by
 unfold setWalkUnseen;show Wb<|wpAny_setState_of e hd S.fits ?_;dsimp only;show Wb ?_;unfold setsByText;show Wb<|wpAny_askSetting (Wp ?_);have h:((model prog w).w.params.followText "set-order"||t.led&&t.plain||decide (a.size<=1))=true:=by
  cases d:bt w with
  |true =>
   have:(model prog w).w.params.followText "set-order"=true:=d;rw[this];rfl
  |false=>rw[S.led d,S.pl];simp
 change wpAny _ _ (if ((model prog w).w.params.followText "set-order"||t.led&&t.plain||decide (a.size<=1))=true then _ else _) _ _ _
 rw[h];simp only[GG];show za S e hd g
theorem wX{a b:zi}{d ns:List Int}{G:Sem Unit}{Q:Unit->xg->Prop}(l:a≠b)(p:IS w s.heap a d)(H:IS w s.heap b ns)(d2:d.length+ns.length<=60)(Y:∀(h':qb) (F:Unit->xg->Prop),SameBut a s.heap h'->F () {s with heap:=h'}->wpAny (model prog w) A G F E {s with heap:=h'})(n:∀h' us,SameBut a s.heap h'->IS w h' a us->(∀x,x∈us↔x∈d\/x∈ns)->Q () {s with heap:=h'}):wpAny (model prog w) A (setMerge a b G) Q E s:=by
 by_cases K:d=[]
 .subst K;show nh l p H (by lia) λh' c P Z b7=>n h' c P Z λx=>by rw[b7.mem_iff];simp
 .let(ob,k,V,tb,y,d0,q,f):=id H;have d1:0<d.length:=List.length_pos_iff.mpr K;unfold setMerge;have a8:(a==b)=false:=by simpa using l
  rw[a8];simp only[FN,Fg];show Wb<|wpAny_setState_of y q f.fits ?_;dsimp only;have W:s={s with heap:=s.heap}:=by cases s;rfl
  by_cases t:k.isEmpty=true
  .rw[t];simp only[GG];have c3:ns=[]:=by
    have:=f.size;have c9:k.size=0:=by simpa [isEmpty]using t
    show GY.mp (by lia)
   subst c3;rw[W];show Wp (n s.heap d (SameBut.refl a s.heap) p λx=>by simp)
  .have a1:k.isEmpty=false:=by simpa using t
   rw[a1];simp only[FN,Fg];have P:=f.size;show Wb<|oz p (by lia) λh1 c4 c5 X U D O M a3 I m B d4=>?_;have a9:h1.get? b=some ob:=(O.2 b<|symm l).trans y;show Wb<|wpAny_setState_of (s:={s with heap:=h1}) M I m.fits ?_;dsimp only;let(d5,S,a6):=m.tb;have a4:D.fill≠0:=by rw[gL S,a6,B.length_eq];lia
   have c1:D.road tb=.oneByOne:=by
    unfold SetTable.road;rw[EW (by simpa using a4)]
   rw[c1];dsimp only;show Wb<|qg (s:={s with heap:=h1}) f a9 q ?_;let(tk,a2):=f.ent;let(c,L,b6):=dF (lu w b V k) a2;have d3:c.length=ns.length:=L.length_eq;rw[<-forIn_toList,b6];show Wb ?_;show wpAny_forIn_list _ (λrest _ s'=>∃h' us i,s'={s with heap:=h'}/\rest=(c.drop i).map (iT tk)/\SameBut a s.heap h'/\IS w h' a us/\(∀x,x∈us↔x∈d\/x∈c.take i)/\us.length<=d.length+i/\i<=c.length) _ ?_ ?_ _ _
    {h1,c4,0,rfl,rfl,O,⟨c5,X,U,D,M,a3,I,m⟩,λx=>by rw[B.mem_iff];simp,by rw[B.length_eq];lia,Fz _}
   .rintro⟨J,R⟩ rest T s' ⟨h',us,i,rfl,g,j,o,h,a7,hi⟩;have v:i<c.length:=by
     rcases lt_or_ge i c.length with z|z
     .show z
     .rw[List.drop_of_length_le z]at g;cases g
    rw[List.drop_eq_getElem_cons v,Fi]at g;injection g with b8 b9
    have c0:J=hashInt c[i]/\R=Value.int c[i] (tk c[i]):=by
     have:(J,R)=(hashInt c[i],Value.int c[i] (tk c[i])):=b8;injection this with c6 c7
     show⟨c6,c7⟩
    let(rfl,rfl):=c0;show Wb<|wpAny_holding (add_int (s:={s with heap:=h'}) o (by lia) λr h2 c8 C a0 N=>?_);show Wb<|Y h2 _ (j.trans C) ?_;have b5:h2.get? b=some ob:=((j.trans C).2 b (symm l)).trans y;show Wb<|wpAny_setState_of (s:={s with heap:=h2}) b5 q f.fits ?_;rw[EV (by simp)];show Wp {h2,c8,i+1,rfl,b9,j.trans C,a0,λx=>?_,?_,v}
    .have c2:c.take (i+1)=c.take i++[c[i]]:=by rw[take_succ,ET v];rfl
     rw[c2,Fd,Gp];rcases N with⟨u,e⟩|⟨_,e⟩
     .rw[e,h x];constructor
      .rintro(z|z)
       .show .inl z
       .show .inr<|.inl z
      .rintro(z|z|z)
       .show .inl z
       .show .inr z
       .rw[z];show(h _).mp u
     .rw[e.mem_iff,FU,h x];constructor
      .rintro(z|z|z)
       .show .inr<|.inr z
       .show .inl z
       .show .inr<|.inl z
      .rintro(z|z|z)
       .show .inr<|.inl z
       .show .inr<|.inr z
       .show .inl z
    .rcases N with⟨_,e⟩|⟨_,e⟩
     .rw[e];lia
     .have:=e.length_eq;rw[Fs]at this
      lia
   .rintro T s' ⟨h',us,i,rfl,g,j,o,h,a7,hi⟩;have a5:c.drop i=[]:=by simpa using g.symm
    have u:i=c.length:=by
     have:=congrArg length a5;rw[length_drop,length_nil]at this
     lia
    show Wp<|n h' us j o λx=>?_;rw[h x,u,Gm,L.mem_iff]
end
theorem oB:entryFor table "set.__or__"=some Builtin.«frozenset.__or__» :=
 entryFor_alias (id':="frozenset.__or__") (by kernel_rfl) rfl (by decide +kernel) (by kernel_rfl)
section
variable{prog:qw}{w:qn}{A:qd}{E:xx->xg->Prop}{s:xg}
theorem Bq{Q:xx->xg->Prop}(h:∀h',(∀b o,s.heap.get? b=some o->h'.get? b=some o)->IS w h' s.heap.objs.size []->Q (.ref s.heap.objs.size) {s with heap:=h'}):wpAny (model prog w) A (newSet<|.type "set") Q E s:=by
 unfold newSet setsByText;show Wb<|Wb (wpAny_askSetting<|Wp ?_);dsimp only;simp only[newObj];show Wb<|wpAny_alloc (Wp<|h _ (λb o e=>EU _ e) (pZ<|FG _ rfl))
theorem oC{a:zi}{Q:Bool->xg->Prop}(d:s.TypeIs (.ref a) "set")(c:Q true s):wpAny (model prog w) A (Builtin.Frozenset.isAnySet<|.ref a) Q E s:=by
 unfold Builtin.Frozenset.isAnySet;show Wb<|wpAny_isInstance (b:=true) d sub_set_self ?_;show Wp c
theorem zc{a:zi}{ns:List Int}{Q:xx->xg->Prop}(c:IS w s.heap a ns)(m:ns.length<=60)(g:∀h' us,(∀b o,s.heap.get? b=some o->h'.get? b=some o)->IS w h' s.heap.objs.size us->us.Perm ns->Q (.ref s.heap.objs.size) {s with heap:=h'}):wpAny (model prog w) A (Builtin.Frozenset.copyOf a) Q E s:=by
 let(o,es,q,t,f,k,r,S):=id c;have j:s.TypeIs (.ref a) "set":=⟨o,f,k.1⟩;unfold Builtin.Frozenset.copyOf Builtin.Frozenset.baseOf;show Wb ?_;show Wb<|wpAny_isInstance (b:=true) j sub_set_self ?_;show Wp ?_;simp only[GG];show Wb<|Bq λh1 d h=>?_;show Wb ?_;change wpAny _ _ (pure s.heap.objs.size) _ _ _;show Wp ?_;have l:a<s.heap.objs.size:=FW f;show Wb<|nh (s:={s with heap:=h1}) (Gv l) h (c.at λo e=>d a o e) m λh' us p i n=>?_;show Wp<|g h' us (λb o e=>?_) i n;rw[p.2 b<|FX (FW e)];show d b o e
theorem wY{a b:zi}{j ns:List Int}{Q:xx->xg->Prop}(B:a≠b)(m:IS w s.heap a j)(n:IS w s.heap b ns)(G:j.length+ns.length<=60)(u:∀h' us,(∀b o,s.heap.get? b=some o->h'.get? b=some o)->IS w h' s.heap.objs.size us->(∀x,x∈us↔x∈j\/x∈ns)->Q (.ref s.heap.objs.size) {s with heap:=h'}):wpAny (model prog w) A (binaryOp .BitOr (.ref a)<|.ref b) Q E s:=by
 let(L,ea,P,ta,I,C,S,N):=id m;let(ob,O,R,tb,g,r,q,k):=id n;have d:s.TypeIs (.ref a) "set":=⟨L,I,C.1⟩;have l:s.TypeIs (.ref b) "set":=⟨ob,g,r.1⟩;show wpAny_binaryOp_same d l F.fills_set_or F.slot_set_or<|wpAny_call_entry F.slot_set_or d oB ?_ (F.args_set_or_2 _ _);unfold Builtin.«frozenset.__or__»;show Wb ?_;unfold Builtin.Frozenset.slot1;show Wb<|Wp (Wp ?_);dsimp only;simp only[FN,Fg];show Wb ?_;show Wb<|oC d ?_;change wpAny _ _ (Builtin.Frozenset.isAnySet<|.ref b) _ _ _;show oC l ?_;simp only[Gn,FN,Fg];show Wb ?_;change wpAny _ _ (pure a) _ _ _;show Wp ?_;show Wb ?_;show Wb<|zc m (by lia) λh1 us f v t=>?_;have H:(Value.ref b != Value.ref a)=true:=by
  rw[bne_iff_ne];intro e;injection e with e
  show B e.symm
 rw[H];simp only[GG];show Wb ?_;change wpAny _ _ (pure s.heap.objs.size) _ _ _;show Wp ?_;show Wb ?_;show wpAny_holding ?_;unfold Builtin.Frozenset.updateFrom;have h:h1.get? b=some ob:=f b ob g;have z:Shared.TypeIs {s with heap:=h1} (.ref b) "set":=⟨ob,h,r.1⟩
 show Wb<|oC z ?_;simp only[GG];show Wb ?_;change wpAny _ _ (pure b) _ _ _;show Wp ?_;unfold Builtin.Frozenset.merge;show Wb<|wpAny_setEpoch_of (s:={s with heap:=h1}) h q k.fits ?_;have p:s.heap.objs.size≠b:=Gv<|FW g;show wX (s:={s with heap:=h1}) p v (n.at λo e=>f b o e) (by rw[t.length_eq];show G) (λh' M i K=>?_) λh' vs i y D=>?_
 .unfold Builtin.Frozenset.unchanged;have J:h'.get? b=some ob:=(i.2 b<|symm p).trans h;show Wb<|wpAny_setEpoch_of (s:={s with heap:=h'}) J q k.fits ?_;rw[EV (by simp)];show Wp K
 .show Wp<|Wp {_,rfl,(λe=>nomatch e),u h' vs (λc o e=>?_) y λx=>by rw[D x,t.mem_iff]};rw[i.2 c<|FX (FW e)];show f c o e
theorem wZ{d:zi}{od:Obj}{a:Array DictEntry}{N:Nat}{ks:List Int}{Q:xx->xg->Prop}(F:s.heap.get? d=some od)(T:od.ExactDict)(j:od.data=.dict a N)(c0:(d==sysModules)=false)(U:∀(i:Nat) (e:DictEntry),a[i]?=some e->∃k t,ks[i]?=some k/\e.key=.int k t/\e.hash=hashInt k)(Z:a.size=ks.length)(b9:ks.length<=60)(g:∀h' us,(∀b o,s.heap.get? b=some o->h'.get? b=some o)->IS w h' s.heap.objs.size us->(∀x,x∈us↔x∈ks)->Q (.ref s.heap.objs.size) {s with heap:=h'}):wpAny (model prog w) A (call (.type "set") [.ref d]) Q E s:=by
 show ow ?_;have p:(s.heap.push {cls:=.type "set",dict:=none,data:=.set #[] 0 (.fresh 0 0<|!bt w)}).get? s.heap.objs.size=some {cls:=.type "set",dict:=none,data:=.set #[] 0 (.fresh 0 0<|!bt w)}:=FG _ rfl;have B:IS w (s.heap.push {cls:=.type "set",dict:=none,data:=.set #[] 0 (.fresh 0 0<|!bt w)}) s.heap.objs.size []:=pZ p;have m:(s.heap.push {cls:=.type "set",dict:=none,data:=.set #[] 0 (.fresh 0 0<|!bt w)}).get? d=some od:=EU _ F;have C:∀b o,s.heap.get? b=some o->(s.heap.push {cls:=.type "set",dict:=none,data:=.set #[] 0 (.fresh 0 0<|!bt w)}).get? b=some o:=λb o e=>EU _ e;have u:s.heap.objs.size≠d:=Gv<|FW F;generalize (s.heap.push {cls:=.type "set",dict:=none,data:=.set #[] 0 (.fresh 0 0<|!bt w)})=h at p B m C|-;have b6:Shared.TypeIs {s with heap:=h} (.ref d) "dict":=⟨od,m,T.1⟩
 have b7:Shared.TypeIs {s with heap:=h} (.ref s.heap.objs.size) "set":=⟨_,p,rfl⟩
 have h1:isSubtype (.type "dict") (.type "set")=pure false:=by rw[isSubtype_type];kernel_rfl
 have h2:isSubtype (.type "dict") (.type "frozenset")=pure false:=by rw[isSubtype_type];kernel_rfl
 generalize b8:@Builtin.Frozenset.updateFrom=b5;unfold Builtin.«set.__init__» noKeywords
 wp_walk
 rw[j];show Wp ?_;show Wb<|wpAny_dictEntries (s:={s with heap:=h}) m j ?_;show Wb<|oz (s:={s with heap:=h}) B (by rw[length_nil];lia) λh3 a6 a7 O M a8 I a0 S R L a3 _=>?_;have e3:a6=[]:=a3.eq_nil;subst e3;have a2:h3.get? d=some od:=(I.2 d<|symm u).trans m;show Wb<|wpAny_dictEntries (s:={s with heap:=h3}) a2 j ?_;show Wb ?_;rw[Std.Legacy.Range.forIn_eq_forIn_range'];simp only[Std.Legacy.Range.size,Nat.sub_zero,Nat.add_sub_cancel,Nat.div_one];show wpAny_forIn_list _ (λrest _ s'=>∃h' us i,s'={s with heap:=h'}/\rest=range' i (a.size-i)/\i<=a.size/\SameBut s.heap.objs.size h h'/\IS w h' s.heap.objs.size us/\(∀x,x∈us↔x∈ks.take i)/\us.length<=i) _ ?_ ?_ _ _
  {h3,[],0,rfl,by simp,Fz _,I,⟨a7,O,M,a8,a0,S,R,L⟩,λx=>by simp,FH _}
 .rintro x rest b s' ⟨h',us,i,rfl,f,hi,n,q,l,Y⟩;have D:i<a.size:=by
   rcases lt_or_ge i a.size with g|g
   .show g
   .rw[Nat.sub_eq_zero_of_le g]at f;simp at f
  obtain⟨rfl,a4⟩:x=i/\rest=range' (i+1) (a.size-(i+1)):=by
   have e:a.size-i=(a.size-(i+1))+1:=by lia
   rw[e,List.range'_succ]at f;injection f with h1 h2
   show⟨h1,h2⟩
  have G:h'.get? d=some od:=(n.2 d<|symm u).trans m;show Wb<|wpAny_dictEntries (s:={s with heap:=h'}) G j ?_;have K:a[x]?=some a[x]:=FK D;let(k,c1,V,W,X):=U x _ K;rw[K];change wpAny _ _ (holding [a[x].key] (setAddHashed s.heap.objs.size a[x].key a[x].hash) >>= _) _ _ _;rw[W,X];show Wb<|wpAny_holding (add_int (s:={s with heap:=h'}) q (by lia) λr h2 a9 J P H=>?_);have a1:h2.get? d=some od:=(J.2 d<|symm u).trans G;show Wb<|wpAny_dictEpoch (s:={s with heap:=h2}) a1 j ?_;rw[EV (by simp)];show Wp {h2,a9,x+1,rfl,a4,D,n.trans J,P,λy=>?_,?_}
  .have a5:ks.take (x+1)=ks.take x++[k]:=by rw[take_succ,V];rfl
   rw[a5,Fd,Gp];rcases H with⟨v,e⟩|⟨_,e⟩
   .rw[e,l y];constructor
    .show .inl
    .rintro(z|z)
     .show z
     .rw[z];show(l _).mp v
   .rw[e.mem_iff,FU,l y];show Or.comm
  .rcases H with⟨_,e⟩|⟨_,e⟩
   .rw[e];lia
   .have:=e.length_eq;rw[Fs]at this
    lia
 .rintro b s' ⟨h',us,i,rfl,f,hi,n,q,l,Y⟩;have v:i=a.size:=by
   have:=congrArg length f;rw[length_nil,List.length_range']at this
   lia
  show Wp<|Wp {rfl,g h' us (λc o e=>?_) q λx=>?_}
  .rw[n.2 c<|FX (FW e)];show C c o e
  .rw[l x,v,Z,Gm]
end
end TB
namespace L2
open PySem PySem.Spec PyProof.Rows
section
variable{X:Cx}
theorem Inv.dK{h:List (zi×Obj)}{j:St}{d:Hp}{s:xg}(e:Inv X h j d s){a:zi}{c:List (Key×V)}(b:Rd d a<|.dK c):
  c.length<=sizeLine/\(a==sysModules)=false/\∃vs,KV c vs/\s.heap.DictOf (aF X.prog X.w) a vs:=by
 rcases b with b|⟨o,b⟩
 .let(g,f,vs,i,dd):=e.hok a _ b
  grind
 .let(_,g,f,vs,i,dd):=e.hok a _ b
  grind
def nk:V->Bool
 |.non=>true
 |.int _=>true
 |.str _=>true
 |_=>false
theorem lx{x:V}(h:nk x=true):cI x=true:=by cases x<;>first|rfl|cases h
theorem xa{x y:V}(a:nk x=true)(b:nk y=true):eqV x y=decide (x=y):=by
 cases x<;>cases y<;>simp_all [eqV,nk]<;>grind<;>simp
def OT(H:Hp)(x:V)(o:Option<|List V):Prop:=(x=.non/\o=none)\/∃a xs,x=.ref a/\H a=some (.tup xs)/\o=some xs/\∀v∈xs,nk v=true
theorem Br{xs ys:List V}(a:xs.length=ys.length):((List.range xs.length).all λi=>decide<|xs.getD i .non=ys.getD i .non)=decide (xs=ys):=by
 rw[Fp,Gj,FJ];constructor
 .intro h;apply Gu;intro i
  by_cases hi:i<xs.length
  .simp_all
  grind
 grind
theorem xb(S:X.A.units+1<cLine):OpR X (compareOp .NotEq) (λx y H Q=>∃l m,OT H x l/\OT H y m/\Q (.bl<|!decide (l=m)) H):=by
 intro pins s σ H x y v u Q I P R h;let(l,m,N,O,q):=h;have k:X.A.units<cLine:=by lia
 rcases N with⟨rfl,rfl⟩|⟨a,xs,rfl,z,rfl,F⟩<;>rcases O with⟨rfl,rfl⟩|⟨b,ys,rfl,B,rfl,G⟩<;>cases P<;>cases R
 .show RcNeAt.none_none _ _ _ _ ⟨.bl false,H,I,rfl,q⟩
 .let(_,f,o,r):=I.hok b _ B;show RcNeAt.none_tuple r k _ _ _ _ ⟨.bl true,H,I,rfl,q⟩
 .let(_,d,n,p):=I.hok a _ z;show RcNeAt.tuple_none p k _ _ _ _ ⟨.bl true,H,I,rfl,q⟩
 .let(_,d,n,p):=I.hok a _ z;let(_,f,o,r):=I.hok b _ B;have D:=n.length;have E:=o.length;show RcNeAt.tuples (e:=λi=>decide<|xs.getD i .non=ys.getD i .non) p r k (λc h1 h2=>?_) _ _ _ _ {.bl _,H,I,rfl,?_}
  .have g:c<xs.length:=by rw[D];simpa using h1
   have j:c<ys.length:=by rw[E];simpa using h2
   let(u',J,K):=n.get<|ET g;let(v',L,M):=o.get<|ET j;have e1:d.toArray[c]=u':=by
    have:d[c]?=some d.toArray[c]:=by rw[ET (by simpa using h1)];simp
    rw[J]at this;show(Option.some.inj this).symm
   have e2:f.toArray[c]=v':=by
    have:f[c]?=some f.toArray[c]:=by rw[ET (by simpa using h2)];simp
    rw[L]at this;show(Option.some.inj this).symm
   rw[e1,e2,FA,FA,ET g,ET j];have t:=F _<|Gk g;have w:=G _<|Gk j;change EqAt _ _ _ _ (decide<|xs[c]=ys[c]);rw[<-xa t w];show nO K M (lx t)<|lx w
  .have e:((List.range<|min d.toArray.size f.toArray.size).all (λi=>decide<|xs.getD i .non=ys.getD i .non)&&d.toArray.size==f.toArray.size)=decide (some xs=some ys):=by
    simp only[FO,<-D,<-E]
    by_cases C:xs.length=ys.length
    .rw[<-C,Nat.min_self,Br C];simp
    .grind
   rw[e];show q
end
theorem zd{J:It}{j:Hp}{xs:List V}{g:TG}{l:TS}{c:Ends}{b:St}{a:Hp}(S:Src J j xs)(Pv:Nat->St->Hp->Prop)(n:Pv 0 b a)(o:∀i b a,i<=xs.length->Pv i b a->Same j a)(s:∀i x b a,xs[i]?=some x->Pv i b a->g x b a λh H2=>l {c with nx:=Pv<|i+1,ct:=Pv<|i+1,bk:=c.nx} h H2)(hd:∀b a,Pv xs.length b a->c.nx b a):
  ∃W:Nat->Nat->St->Hp->Prop,(∃m,W 0 m b a)/\∀i m b a,W i m b a ->
   (J.stop i a/\c.nx b a)\/(J.go i a/\∃N:St->Hp->Prop,(∀f H',N f H'->∃k,k<m/\W (i+1) k f H')/\∀x H',J.yld i a x H'->g x b H' λh H2=>l {c with nx:=N,ct:=N,bk:=c.nx} h H2):=by
 show{λi m b a=>m=xs.length-i/\i<=xs.length/\Pv i b a,⟨xs.length,by simp,Fz _,n⟩,?_};rintro i m b a ⟨rfl,hi,p⟩;have q:=o i b a hi p
 by_cases d:i<xs.length
 .show .inr {S.go i a d q,Pv<|i+1,λf H' r=>{xs.length-(i+1),by lia,rfl,d,r},λx H' y=>?_};let(e,t):=S.yl i a x H' d q y
  grind
 .have e:i=xs.length:=by lia
  subst e;show .inl ⟨S.stop a q,hd b a p⟩
theorem fb{a:Type}[DecidableEq a]:∀{l m:List a},l.Nodup->(∀x∈l,x∈m)->l.length<=m.length
 |[],_,_,_=>Fz _
 |x::l,m,hn,h=>by
  let(h1,h2):=GW.mp hn;have c:=h x FY;have d:=fb (l:=l) (m:=m.erase x) h2 λy b=>(List.mem_erase_of_ne (by grind)).mpr (h y<|FR _ b)
  grind
section
variable{X:Cx}
theorem jI:ca X (.type "set") (λxs H Q=>∃d kvs,∃ks:List Int,xs=[.ref d]/\Rd H d (.dK kvs)/\kvs.map (·.1)=ks.map (Sum.inl:Int->Key)/\ks.length<=60 /\
  ∀g:List Int,g.Nodup->(∀x,x∈g↔x∈ks)->∀q,H q=none->Q (.ref q) (upd H q<|fU X.w q g)):=by
 intro pins s σ H xs j Q I r h;let(d,kvs,ks,rfl,D,b,K,q):=h;let(u,rfl,U):=cA r;cases U;let(Z,P,vs,m,o,es,W,O,R,E,c,f,Y):=I.dK D;have L:es.size=ks.length:=by
  have e1:=f.length;have e2:=m.length;have e3:=congrArg length b;rw[ES,ES]at e3;rw[FQ]at e1
  lia
 have key:∀(es:List DictEntry)(vs:List<|Key×xx)(kvs:List<|Key×V)(ks:List Int),Pairs (aF X.prog X.w) es vs->KV kvs vs->kvs.map (·.1)=ks.map (Sum.inl:Int->Key)->(∀e∈es,∃k,(aF X.prog X.w).is k e.key=true/\e.hash=(aF X.prog X.w).hash k) ->
   ∀(i:Nat)(e:DictEntry),es[i]?=some e->∃k t,ks[i]?=some k/\e.key=.int k t/\e.hash=hashInt k:=by
  intro es vs kvs ks f
  induction f generalizing kvs ks with
  |nil=>intro _ _ _ i e a;simp at a
  |@cons e0 kv0 es0 kvs0 h1 h2 _ ih =>
   intro r b c i e a;cases r with
   |@cons p _ kvs1 _ r1 r2 =>
    cases ks with
    |nil=>simp at b
    |cons k ks =>
     rw[Fi,Fi]at b;injection b with v z
     cases i with
     |zero =>
      have n:e0=e:=by simpa using a
      subst n;have A:kv0.1=Sum.inl k:=r1.1.symm.trans v;rw[A]at h1;let(T,F,G):=c _ FY;have B:T=Sum.inl k:=(aF X.prog X.w).inj _ _ _ F h1;subst B;have C:ka (Sum.inl k) e0.key=true:=h1;rcases aP C with⟨a0,t,e1,e2⟩|⟨y,t,e1,e2⟩
      .injection e1 with e1
       subst e1;show⟨k,t,rfl,e2,G⟩
      .cases e1
     |succ i=>show ih _ ks r2 z (λe a=>c e<|FR _ a) i e (by simpa using a)
 show TB.wZ (ks:=ks) O R E P (λi e a=>?_) L K λh' j J l M=>?_
 .show key es.toList vs kvs ks f m b (λe a=>c e (by simpa using a)) i e (by rw[Gd];show a)
 .have N:j.Nodup:=by let(_,_,_,_,_,_,_,S):=l;show S.nd
  show{.ref s.heap.objs.size,_,I.layS (t':=s.toks) J (FH _) l,rfl,q j N M _<|I.hok.fresh (FH _)}
theorem xf:OpR X (binaryOp .BitOr) (λx y H Q=>∃a b,∃c ns:List Int,x=.ref a/\y=.ref b/\a≠b/\H a=some (fU X.w a c)/\H b=some (fU X.w b ns)/\c.length+ns.length<=60 /\
  ∀us:List Int,us.Nodup->(∀x,x∈us↔x∈c\/x∈ns)->∀q,H q=none->Q (.ref q) (upd H q<|fU X.w q us)):=by
 intro pins s σ H x y v u Q I m n h;let(a,b,c,ns,rfl,rfl,f,e,g,j,q):=h;cases m;cases n;show TB.wY f (I.intS e) (I.intS g) j λh' us i d k=>?_;have l:us.Nodup:=by let(_,_,_,_,_,_,_,S):=d;show S.nd
 show{.ref s.heap.objs.size,_,I.layS (t':=s.toks) i (FH _) d,rfl,q us l k _<|I.hok.fresh (FH _)}
end
end L2
namespace TW
section
variable{S:Type}
def aU(t:List<|Nd S)(k:Int):Option (Nd S):=t.find? λn=>n.num==k
theorem rC{t:List (Nd S)}(T:Tree1 t){m:Nd S}(a:m∈t){k:Int}(e:m.num=k):aU t k=some m:=by
 subst e;unfold aU;cases h:t.find? λn=>n.num==m.num with
 |none=>have:=find?_eq_none.mp h m a;simp at this
 |some y =>
  have h1:=find?_some h;have h2:=List.mem_of_find?_eq_some h;have h3:y.num=m.num:=by simpa using h1
  rw[T.inj h2 a h3]
theorem iw{t:List (Nd S)}{k:Int}(a:∀m∈t,m.num≠k):aU t k=none:=by
 unfold aU;rw[find?_eq_none];intro m b;simpa using a m b
end
section
variable{S:Type}
structure Row(S:Type) where
 k:Int
 o:Option<|Nd S
 n:Option<|Nd S
structure Chg(t u:List<|Nd S)(rs:List<|Row S):Prop where
 up:rs.Pairwise λa b=>a.k<b.k
 mem:∀r,r∈rs↔r.o=aU t r.k/\r.n=aU u r.k/\r.o≠r.n
theorem cg{t:List (Nd S)}{k:Int}{m:Nd S}(h:aU t k=some m):m∈t/\m.num=k:=by
 unfold aU at h
 grind
def iW(t u:List<|Nd S)(k:Int):Row S:=⟨k,aU t k,aU u k⟩
theorem Bs[DecidableEq<|Nd S]{t u:List (Nd S)}{ns:List Int}(b:ns.Pairwise (· < ·))(d:∀k,aU t k≠none\/aU u k≠none->k∈ns\/aU t k=aU u k):Chg t u ((ns.map<|iW t u).filter λr=>decide<|r.o≠r.n):=by
 show{?_,λr=>?_}
 .show Pairwise.filter _ ?_;rw[Fh];show b
 .rw[Fw,EZ,FJ];constructor
  .rintro⟨⟨k,c,rfl⟩,a⟩;show⟨rfl,rfl,a⟩
  .rintro⟨h1,h2,h3⟩;show{{r.k,?_,?_},h3}
   .grind
   .change(⟨r.k,aU t r.k,aU u r.k⟩:Row S)=r;rw[<-h1,<-h2]
end
end TW
namespace TK
open PySem L2
instance decNd:DecidableEq (TW.Nd Str):=λa b=>Classical.propDecidable _
abbrev Row:=TW.Row Str
def fc(H:Hp)(v:V)(o:Option Nd):Prop:=(v=.non/\o=none)\/∃q n,v=.ref q/\H q=some (.tup<|aL n)/\o=some n
theorem fc.same{H H':Hp}{v:V}{o:Option Nd}(h:fc H v o)(s:Same H H'):fc H' v o:=by
 rcases h with h|⟨q,n,e,h,e2⟩
 .show .inl h
 .show .inr ⟨q,n,e,s _ _ h,e2⟩
theorem rD(n:Nd):∀v∈aL n,nk v=true:=λv a=>by
 unfold aL at a;simp only[FU,Gb,or_false]at a;rcases a with rfl|rfl|rfl
 .rfl
 .rfl
 .cases n.st<;>rfl
theorem fc.ot{H:Hp}{v:V}{o:Option Nd}(h:fc H v o):OT H v (o.map aL):=by
 rcases h with⟨e,e2⟩|⟨q,n,e,h,e2⟩
 .show .inl {e,by rw[e2];rfl}
 .show .inr {q,aL n,e,h,by rw[e2];rfl,rD n}
theorem uF{a b:Nd}(c:aL a=aL b)(e:a.num=b.num):a=b:=by
 let(h,j,f,s1):=a;let(i,p2,g,s2):=b;unfold aL at c;simp only[List.cons.injEq,V.int.injEq,V.str.injEq,and_true]at c;let(h1,h2,h3):=c;have d:s1=s2:=by
  cases s1<;>cases s2<;>simp_all [stV]
 grind
def xh(r:Row):Prop:=(∀n,r.o=some n->n.num=r.k)/\∀n,r.n=some n->n.num=r.k
theorem xh.eq{r:Row}(h:xh r):r.o.map aL=r.n.map aL↔r.o=r.n:=by
 let(k,o,n):=r;constructor
 .intro e;cases o with
  |none=>cases n with
   |none=>rfl
   |some b=>cases e
  |some a=>cases n with
   |none=>cases e
   |some b =>
    have e2:aL a=aL b:=Option.some.inj e;show congrArg some<|uF e2 ((h.1 a rfl).trans (h.2 b rfl).symm)
 grind
structure RowAt(H:Hp)(e:zi)(r:Row):Prop where
 at':∃vo vn,H e=some (.tup [.int r.k,vo,vn])/\fc H vo r.o/\fc H vn r.n
 ok:xh r
theorem RowAt.same{a H':Hp}{e:zi}{r:Row}(b:RowAt a e r)(s:Same a H'):RowAt H' e r:=by
 let((f,d,h1,h2,h3),c):=b;show{⟨f,d,s _ _ h1,h2.same s,h3.same s⟩,c}
abbrev ZR:=List<|zi×Row
def iX(a:ZR):List V:=a.map λe=>V.ref e.1
def fJ(a:ZR):List Row:=a.map (·.2)
structure ChgAt(H:Hp)(c:zi)(es:ZR):Prop where
 tup:H c=some (.tup<|iX es)
 at':∀e∈es,RowAt H e.1 e.2
 len:es.length<=60
theorem xi{t u:List Nd}(k:Int):xh (TW.iW t u k):={λn h=>(TW.cg h).2,λn h=>(TW.cg h).2}
theorem Book.optV{c:Hp}{d:zi}{g:List (zi×(zi×Nd))}{zs:ZN}(b:Book c d g zs)(T:TW.Tree1<|nds zs)(k:Int):∃r,cY c d (.int k) r/\fc c (r.getD .non) (TW.aU (nds zs) k):=by
 by_cases f:∃z∈zs,z.2.num=k
 .let(z,a,rfl):=f;let(q,i,j):=b.get (bO T) a;show{_,i,?_};rw[TW.rC T (bQ a) rfl];show .inr ⟨q,z.2,rfl,j,rfl⟩
 .show{none,b.not λz a e=>f ⟨z,a,e⟩,?_};rw[TW.iw λm h e=>?_]
  .show .inl ⟨rfl,rfl⟩
  .let(z,a,rfl):=gv h
   grind
theorem ix{a:List (zi×(zi×Nd))}{zs:ZN}(b:a.map (·.2)=zs):(aW a).map (·.1)=((nds zs).map (·.num)).map (Sum.inl:Int->Key):=ip b
theorem qh{a:ZR}{t u:List Nd}{ns:List Int}(b:fJ a=ns.map (TW.iW t u)):fJ (a.filter λe=>!decide (e.2.o=e.2.n))=(ns.map<|TW.iW t u).filter λr=>decide (r.o≠r.n):=by
 rw[<-b];unfold fJ;rw[filter_map]
 congr 1
 apply filter_congr
 grind
theorem nq{t:List Nd}{k:Int}(h:TW.aU t k≠none):k∈t.map (·.num):=by
 cases e:TW.aU t k with
 |none=>grind
 |some m =>
  let(h1,h2):=TW.cg e
  grind
end TK
namespace L2
open PySem PySem.Spec PyProof.Rows
section
variable{X:Cx}
theorem ly(L:X.calm=true):ca X (.builtin "sorted") (λxs H Q=>∃d kvs,∃ns:List Int,xs=[.ref d]/\Rd H d (.dK kvs)/\kvs.map (·.1)=ns.map (Sum.inl:Int->Key)/\ns.Nodup/\ns.length<=60 /\
  ∀w:List Int,w.Perm ns->w.Pairwise (λa b=>a<b)->∀p,H p=none->Q (.ref p) (upd H p<|.lst (w.map V.int))):=by
 intro pins s σ H xs b7 Q I r h;let(d,kvs,ns,rfl,J,R,S,a7,q):=h;let(u,rfl,a3):=cA r;cases a3;let(a0,U,a4,D,dd):=I.dK J;let(a6,F):=dd.dictAt;have a1:a4.length<=sizeLine:=by rw[<-D.length];show a0
 show SRT.iu (κ:=oneType') (kdl_dict U) (I.ok.hd L) F a1 λh1 tk vs a8 z O=>?_;have l:aA (ns.map V.int) vs:=by
  have:=sJ D O;have e:(kvs.map λp=>kV p.1)=ns.map V.int:=by
   have:=congrArg (List.map kV) R;rw[FD,FD]at this;show this
  rw[e]at this;simpa using this
 have Z:vs.length=ns.length:=by rw[<-l.length,ES]
 have y:∀i,i<ns.length->∃t,vs.getD i Value.none=.int (ns.getD i 0) t:=λi hi=>by
  let(v,Y,r):=l.get (i:=i) (x:=.int<|ns.getD i 0) (by rw[FE,(cb (d:=(0:Int)) hi).2];rfl);let(t,rfl):=r;show{t,by rw[FA,Y];rfl}
 show{λi f=>decide<|ns.getD i 0<ns.getD f 0,{λi _=>by simp,λi f k _ _ _ h1 h2=>?_,λi f hi g n=>?_},by lia,λE s' _ _ a5 h2 K=>?_,λE s' _ _ i f C hi g G=>?_,λp h' j B a2 m=>?_}
 .simp only[FJ]at *;lia
 .simp only[FJ];have:ns.getD i 0≠ns.getD f 0:=by
   rw[FA,FA,ET (by lia),ET (by lia)];show λe=>n<|(Gr S).mp e
  lia
 .rw[ksk_kind (keys:=vs.toArray) (kz:=ns) (by simpa using nZ l) (by rw[FO];lia)];show Wp K
 .let(b5,e1):=y i (by lia);let(b6,e2):=y f (by lia);rw[e1,e2];show kat_lt_int G
 .let(c,m):=m;rw[Z]at j B;have N:∀i∈p.toList,i<ns.length:=λi hi=>GC.mp<|j.perm.mem_iff.mp hi;have A:(p.toList.map λi=>ns.getD i 0).Perm ns:=by
   show(j.perm.map _).trans ?_;have:(List.range ns.length).map (λi=>ns.getD i 0)=ns:=by
    apply Gu;intro i;rw[FE]
    by_cases hi:i<ns.length
    .rw[getElem?_range hi,(cb (d:=(0:Int)) hi).2];rfl
    .rw[Fo (by rw[GH];lia),Fo (by lia)];rfl
   rw[this]
  have a9:p.size=ns.length:=j.size;have T:(p.toList.map λi=>ns.getD i 0).Pairwise (λa b=>a<b):=by
   rw[GD];intro i f hi g n;have M:i<p.size:=by rw[ES,FQ]at hi;show hi
   have P:f<p.size:=by rw[ES,FQ]at g;show g
   have:=B i f n (by lia);simp only[]at this;rw[FF,FF,FK M,FK P]at this;simpa using this
  show{.ref h1.objs.size,_,I.laid (t':=tk) (o:=.lst<|(p.toList.map λi=>ns.getD i 0).map V.int) a2 (Fu z) {?_,_,c,gO l p.toList N,m},rfl,q _ A T _<|I.hok.fresh (Fu z)};rw[ES,A.length_eq,sizeLine_eq];lia
end
end L2
namespace TW
section
variable{S:Type}
def xj(t:List<|Nd S)(a:List<|Row S):Prop:=∀r∈a,r.o=aU t r.k
structure AppTo(t:List<|Nd S)(rs:List<|Row S)(u:List<|Nd S):Prop where
 up:bK u
 hit:∀r∈rs,aU u r.k=r.n
 miss:∀k,(∀r∈rs,r.k≠k)->aU u k=aU t k
theorem qi{t:List (Nd S)}(T:bK t){m:Nd S}(a:m∈t):aU t m.num=some m:=by
 cases e:aU t m.num with
 |none =>
  have:=find?_eq_none.mp e m a;simp at this
 |some n =>
  let(h1,h2):=cg e;rw[pQ T h1 a h2]
theorem uG{t u:List (Nd S)}(i:bK t)(j:bK u)(h:∀k,aU t k=aU u k):t=u:=by
 have l:∀{a b:List (Nd S)},bK a->(∀k,aU a k=aU b k)->∀m∈a,m∈b:=λf p m c=>by
  have:=qi f c;rw[p]at this;show(cg this).1
 have key:∀{a b:List (Nd S)},bK a->bK b->(∀m,m∈a↔m∈b)->a=b:=by
  intro a
  induction a with
  |nil =>
   intro b _ _ c;cases b with
   |nil=>rfl
   |cons y b=>show absurd ((c y).mpr FY) (by simp)
  |cons x a r =>
   intro b f o c;cases b with
   |nil=>show absurd ((c x).mp FY) (by simp)
   |cons y b =>
    let(g,n):=Ga.mp f;let(b1,b2):=Ga.mp o;have e:x=y:=by
     rcases FU.mp ((c x).mp FY)with e|e
     .show e
     .rcases FU.mp ((c y).mpr FY)with d|d
      .show d.symm
      .have s:=b1 x e;have v:=g y d
       lia
    subst e
    congr 1
    show r n b2 λm=>{λq=>?_,λq=>?_}
    .rcases FU.mp ((c m).mp (FR _ q))with e|e
     .have:=g m q;rw[e]at this;lia
     .show e
    .rcases FU.mp ((c m).mpr (FR _ q))with e|e
     .have:=b1 m q;rw[e]at this;lia
     .show e
 show key i j λm=>{l i h m,l j (λk=>(h k).symm) m}
theorem AppTo.uniq{t u v:List (Nd S)}{b:List (Row S)}(c:AppTo t b u)(h':AppTo t b v):u=v:=by
 show uG c.up h'.up λk=>?_
 by_cases d:∃r∈b,r.k=k
 .let(r,a,rfl):=d;rw[c.hit r a,h'.hit r a]
 .have f:∀r∈b,r.k≠k:=λr a e=>d ⟨r,a,e⟩;rw[c.miss k f,h'.miss k f]
theorem Chg.fits{t u:List (Nd S)}{rs:List (Row S)}(a:Chg t u rs):xj t rs:=λr b=>((a.mem r).mp b).1
theorem Chg.appTo{t u:List (Nd S)}{b:List (Row S)}(a:Chg t u b)(e:bK u):AppTo t b u:=by
 show{e,λr d=>((a.mem r).mp d).2.1.symm,λk c=>?_}
 by_cases z:aU t k=aU u k
 .show z.symm
 .show absurd rfl<|c ⟨k,aU t k,aU u k⟩ ((a.mem _).mpr ⟨rfl,rfl,z⟩)
inductive Appl(t:List<|Nd S)(rs:List<|Row S):Option (List<|Nd S)->Prop
 |ok {u}:xj t rs->AppTo t rs u->Tree u->Appl t rs (some u)
 |unfit:¬xj t rs->Appl t rs none
 |notree {u}:AppTo t rs u->¬Tree u->Appl t rs none
theorem Appl.some_uniq{t u v:List (Nd S)}{d:List (Row S)}(f:Appl t d<|some u)(h':Appl t d<|some v):u=v:=by
 cases f with
 |ok a b c=>cases h' with
  |ok g e h=>show b.uniq e
theorem Appl.not_both{t u:List (Nd S)}{e:List (Row S)}(h:Appl t e<|some u)(h':Appl t e none):False:=by
 cases h with
 |ok a b c=>cases h' with
  |unfit f=>show f a
  |notree g d =>
   rw[g.uniq b]at d;show d c
theorem nr{e:List Int}{c:Int->Option (Nd S)}(g:e.Pairwise (· < ·))(d:∀k n,c k=some n->n.num=k):bK (e.filterMap c):=by
 unfold bK;rw[List.pairwise_filterMap];show g.imp λ{a b} f x h y i=>?_;rw[d a x h,d b y i];show f
theorem uH{b:List Int}{M:Int->Option (Nd S)}(j:b.Pairwise (· < ·))(c:∀k n,M k=some n->n.num=k)(k:Int):aU (b.filterMap M) k=if k∈b then M k else none:=by
 by_cases d:k∈b
 .rw[EW d];cases e:M k with
  |none =>
   show iw λm g f=>?_;let(h,_,a):=GZ.mp g;have:=c h m a;rw[f]at this;rw[<-this,e]at a;cases a
  |some n =>
   have l:n∈b.filterMap M:=GZ.mpr ⟨k,d,e⟩;have:=qi (nr j c) l;rw[c k n e]at this;show this
 .rw[EV d];show iw λm g f=>d ?_;let(h,i,a):=GZ.mp g;have:=c h m a;rw[f]at this;rw[this];show i
end
end TW
namespace L2
open PySem PySem.Spec PyProof.Rows
theorem cY.eqK{b:Hp}{d:zi}{f:List (Key×V)}{k:Int}{r:Option V}(g:cY b d (.int k) r)(hd:b d=some (.dK f)):r=aX f (Sum.inl k:Key):=by
 rcases g with⟨i,c,a,e,rfl⟩|⟨_,_,_,_,e,_⟩
 .have e2:c=(Sum.inl k:Key):=by
   cases c with
   |inl h=>injection e with e;rw[e]
   |inr x=>cases e
  subst e2;rcases a with a|⟨o,a⟩
  .grind
  grind
 .cases e
end L2
namespace TK
open PySem L2
theorem fc.overD{b:Hp}{d:zi}{c:List (Key×V)}{f:HO}{v:V}{o:Option Nd}(a:fc b v o)(hd:b d=some (.dK c)):fc (upd b d f) v o:=by
 rcases a with a|⟨q,n,e,a,e2⟩
 .show .inl a
 .show .inr {q,n,e,?_,e2};rw[aj]
  .show a
  grind
structure PD(H:Hp)(kvs:List<|Key×V)(ks:List Int)(M:Int->Option Nd):Prop where
 keys:kvs.map (·.1)=ks.map (Sum.inl:Int->Key)
 nd:ks.Nodup
 val:∀k,fc H ((aX kvs (Sum.inl k:Key)).getD .non)<|M k
 num:∀k n,M k=some n->n.num=k
theorem PD.has{b:Hp}{a:List (Key×V)}{ks:List Int}{c:Int->Option Nd}(d:PD b a ks c){k:Int}(f:k∈ks):∃v,aX a (Sum.inl k:Key)=some v:=by
 cases e:aX a (Sum.inl k:Key)with
 |some v=>grind
 |none =>
  have:=vI e;rw[d.keys]at this
  grind
theorem PD.out{f:Hp}{d:List (Key×V)}{ks:List Int}{a:Int->Option Nd}(b:PD f d ks a){k:Int}(g:k∉ks):a k=none:=by
 have c:=b.val k;cases e:aX d (Sum.inl k:Key)with
 |some v =>
  have:=sv e;rw[b.keys]at this
  grind
 |none =>
  rw[e]at c;rcases c with⟨_,z⟩|⟨q,n,z,_⟩
  .show z
  .cases z
theorem PD.put{g:Hp}{d:zi}{c:List (Key×V)}{ks:List Int}{h:Int->Option Nd}(f:PD g c ks h)(hd:g d=some (.dK c)){k:Int}{v:V}{o:Option Nd}(t:fc g v o)(A:∀n,o=some n->n.num=k):
  ∃m,m.length<=ks.length+1/\PD (upd g d<|.dK (bJ c (Sum.inl k:Key) v)) (bJ c (Sum.inl k:Key) v) m (λj=>if j=k then o else h j):=by
 have q:∀j,fc (upd g d<|.dK (bJ c (Sum.inl k:Key) v)) ((aX (bJ c (Sum.inl k:Key) v) (Sum.inl j:Key)).getD .non) (if j=k then o else h j):=λj=>by
  rw[kl]
  by_cases e:j=k
  .subst e;rw[EW rfl,EW rfl];show t.overD hd
  .rw[EV λz=>e (by injection z),EV e];show(f.val j).overD hd
 have p:∀j n,(if j=k then o else h j)=some n->n.num=j:=λj n l=>by
  by_cases e:j=k
  .grind
  .rw[EV e]at l;show f.num j n l
 by_cases r:k∈ks
 .let(x,u):=f.has r;show{ks,le_succ _,?_,f.nd,q,p};have i:(c.any λw=>decide<|w.1=(Sum.inl k:Key))=true:=by rw[dt,u];rfl
  unfold bJ;rw[EW i,FD,<-f.keys];apply Fq
  grind
 .show{ks++[k],by grind,?_,?_,q,p}
  .have s:aX c (Sum.inl k:Key)=none:=by
    cases e:aX c (Sum.inl k:Key)with
    |none=>rfl
    |some x =>
     have:=sv e;rw[f.keys]at this
     grind
   rw[vD v s,Fn,f.keys,Fn];rfl
  .rw[nodup_append];show{f.nd,by simp,λa i b y=>?_}
   grind
theorem PD.book{a:Hp}{d:zi}{c:List (zi×(zi×Nd))}{zs:ZN}(b:Book a d c zs)(hd:a d=some (.dK<|aW c))(T:TW.Tree1<|nds zs):PD a (aW c) ((nds zs).map (·.num)) (TW.aU<|nds zs):=by
 show{ix b.of,bO T,λk=>?_,λk n h=>(TW.cg h).2};let(r,h1,h2):=b.optV T k;rw[<-h1.eqK hd];show h2
theorem ze(o:Option Int):cI (stV o)=true:=by cases o<;>rfl
theorem lz(H:Hp)(n:Nd)(k:Nat):∀(i:Nat) x y,(vals n)[i]?=some x->(vals n)[i]?=some y->iP H k x y:=λi x y h1 h2=>by
 have e:x=y:=Option.some.inj<|h1.symm.trans h2;subst e;show im {rfl,?_}
 match i,h1 with
 |0,h=>cases h;rfl
 |1,h=>cases h;rfl
 |2,h=>cases h;rfl
 |3,h=>cases h;show ze _
 |i+4,h=>simp[vals]at h
theorem jJ{d:Hp}{us c:ZN}(h:nds us=nds c)(j:At d us)(k:At d c):eW d (aZ us) (aZ c):=by
 show{by rw[ba,ba,<-aG us,<-aG c,h],λi x y l m=>?_};let(a,f,rfl):=ce l;let(b,g,rfl):=ce m;have e:a.2=b.2:=by
  have h1:(nds us)[i]?=some a.2:=by unfold nds;rw[FE,f];rfl
  have h2:(nds c)[i]?=some b.2:=by unfold nds;rw[FE,g];rfl
  rw[h,h2]at h1;show(Option.some.inj h1).symm
 show .inr {a.1,b.1,_,_,rfl,rfl,j a<|FP f,k b<|FP g,rfl,?_};rw[e];show lz d b.2 2
end TK
namespace L2
open PySem PySem.Spec PyProof.Rows
section
variable{X:Cx}{tg:Expr}
abbrev Cx.within(X:Cx)(pl:List<|zi×Obj)(xe:xx->xg->Prop):Cx:={X with pn:=pl,xe:=xe}
theorem Cx.Ok.within(a:X.Ok)(pl:List<|zi×Obj)(xe:xx->xg->Prop):(X.within pl xe).Ok:=⟨a.mod,a.kind,a.glob,a.blt,a.above,a.inj,a.has,a.cab,a.hd,a.frames,a.stk,a.exf,a.bs,a.bsz,a.noex,a.exfs,a.funs,a.frf⟩
theorem Cx.Ok.without{pl:List (zi×Obj)}{xe:xx->xg->Prop}(a:(X.within pl xe).Ok):X.Ok:=⟨a.mod,a.kind,a.glob,a.blt,a.above,a.inj,a.has,a.cab,a.hd,a.frames,a.stk,a.exf,a.bs,a.bsz,a.noex,a.exfs,a.funs,a.frf⟩
theorem Inv.within{c:List (zi×Obj)}{d:St}{b:Hp}{s:xg}(a:Inv X c d b s)(xe:xx->xg->Prop):Inv (X.within (X.pn++c) xe) [] d b s :=
 {a.ok.within _ _,a.os,a.bare,a.base,a.loc,a.cell,a.free,a.freeC,λp e=>a.pin p (by simpa using e),a.hok,a.len}
theorem Inv.without{c f:List (zi×Obj)}{d:St}{b:Hp}{s:xg}{xe:xx->xg->Prop}(a:Inv (X.within (X.pn++c) xe) f d b s):Inv X c d b s :=
 {a.ok.without,a.os,a.bare,a.base,a.loc,a.cell,a.free,a.freeC,λp e=>a.pin p<|mem_append_left _ e,a.hok,a.len}
end
open PySem PySem.Spec PyProof.Rows
section
variable{X:Cx}{pins:List (zi×Obj)}{σ:St}{H:Hp}{s:xg}
theorem lA{c:Hp}{xs:List V}(d:xs.all cI=true):eW c xs xs:={rfl,λi x y a b=>by
 rw[a]at b;cases b;show im {rfl,Gj.mp d x<|FP a}}
theorem gF(M:X.calm=true):ca X (.builtin "sorted") (λxs H Q=>∃d kvs,∃ns:List Str,xs=[.ref d]/\Rd H d (.dK kvs)/\kvs.map (·.1)=ns.map (Sum.inr:Str->Key)/\ns.Nodup/\ns.length<=60 /\
  ∀w:List Str,w.Perm ns->w.Pairwise (λa b=>HT.dI a b=true)->∀p,H p=none->Q (.ref p) (upd H p<|.lst (w.map V.str))):=by
 intro pins s σ H xs c0 Q I r h;let(d,kvs,ns,rfl,K,S,U,b5,q):=h;let(u,rfl,a6):=cA r;cases a6;let(a3,Z,a7,E,dd):=I.dK K;let(a9,G):=dd.dictAt;have a4:a7.length<=sizeLine:=by rw[<-E.length];show a3
 show SRT.iu (κ:=oneType') (kdl_dict Z) (I.ok.hd M) G a4 λh1 tk vs b6 A P=>?_;have y:aA (ns.map V.str) vs:=by
  have:=sJ E P;have e:(kvs.map λp=>kV p.1)=ns.map V.str:=by
   have:=congrArg (List.map kV) S;rw[FD,FD]at this;show this
  rw[e]at this;simpa using this
 have a2:vs.length=ns.length:=by rw[<-y.length,ES]
 have l:∀i,i<ns.length->∃t,vs.getD i Value.none=.str (ns.getD i "") t:=λi hi=>by
  let(v,a1,r):=y.get (i:=i) (x:=.str<|ns.getD i "") (by rw[FE,(cb (d:=("":Str)) hi).2];rfl);let(t,rfl):=r;show{t,by rw[FA,a1];rfl}
 show{λi f=>HT.dI (ns.getD i "")<|ns.getD f "",{λi _=>HT.mQ _,λi f k _ _ _ h1 h2=>HT.pN h1 h2,λi f hi g n=>HT.ut ?_},by lia,λF s' _ _ a8 h2 L=>?_,λF s' _ _ i f C hi g J=>?_,λp h' j D a5 m=>?_}
 .rw[FA,FA,ET (by lia),ET (by lia)];show λe=>n<|(Gr U).mp e
 .show PySem.W.kas_kind (T:=.type "str") (by lia) (λu a0=>?_) (by rfl) (by rfl) L;let(i,hi,e):=List.getElem_of_mem a0;let(t,z):=l i (by lia);rw[FA,ET hi,e]at z;rw[show u=_ from z];show PySem.W.Looks.now
 .let(b8,e1):=l i (by lia);let(b9,e2):=l f (by lia);rw[e1,e2];show PySem.W.kas_lt_str J
 .let(c,m):=m;rw[a2]at j D;have O:∀i∈p.toList,i<ns.length:=λi hi=>GC.mp<|j.perm.mem_iff.mp hi;have B:(p.toList.map λi=>ns.getD i "").Perm ns:=by
   show(j.perm.map _).trans ?_;have:(List.range ns.length).map (λi=>ns.getD i "")=ns:=by
    apply Gu;intro i;rw[FE]
    by_cases hi:i<ns.length
    .rw[getElem?_range hi,(cb (d:=("":Str)) hi).2];rfl
    .rw[Fo (by rw[GH];lia),Fo (by lia)];rfl
   rw[this]
  have b7:p.size=ns.length:=j.size;have Y:(p.toList.map λi=>ns.getD i "").Pairwise (λa b=>HT.dI a b=true):=by
   rw[GD];intro i f hi g n;have N:i<p.size:=by rw[ES,FQ]at hi;show hi
   have R:f<p.size:=by rw[ES,FQ]at g;show g
   have:=D i f n (by lia);simp only[]at this;rw[FF,FF,FK N,FK R]at this;simpa using this
  show{.ref h1.objs.size,_,I.laid (t':=tk) (o:=.lst<|(p.toList.map λi=>ns.getD i "").map V.str) a5 (Fu A) {?_,_,c,gO y p.toList O,m},rfl,q _ B Y _<|I.hok.fresh (Fu A)};rw[ES,B.length_eq,sizeLine_eq];lia
theorem qj:ca X (.type "dict") (λxs H Q=>∃a kvs,xs=[.ref a]/\Rd H a (.dK kvs)/\∀d,H d=none->Q (.ref d) (upd H d<|.dK kvs)):=by
 intro pins s σ H xs n Q I r h;let(a,kvs,rfl,g,q):=h;let(u,rfl,m):=cA r;cases m;let(c,l,vs,f,dd):=I.dK g;show kt_call_dict l dd (by rw[<-f.length];show c) λh' i k=>?_;have j:∀b o,s.heap.get? b=some o->h'.get? b=some o:=λb o e=>by
  have:=k.2 b<|FX (FW e);rw[this];show EU _ e
 show{.ref s.heap.objs.size,_,I.laid (t':=s.toks) (o:=.dK kvs) j (FH _)<|jj c (Fl.mpr<|symm (FX I.big)) f i,rfl,q _<|I.hok.fresh (FH _)}
end
end L2
namespace TK
open PySem L2
def Off(S:List zi)(H H':Hp):Prop:=∀b o,H b=some o->b∉S->H' b=some o
theorem lB{f:Str}{v:V}{r:List (Str×V)}:((f,v)::r).lookup f=some v:=by rw[Gg,Gq]
theorem bY{f g:Str}{v:V}{r:List (Str×V)}(h:¬g=f):((g,v)::r).lookup f=r.lookup f:=by
 have:(f==g)=false:=by simpa using λe:f=g=>h e.symm
 rw[Gg,this]
theorem rE{f:Str}{v w:V}{r:List (Str×V)}:dl f v ((f,w)::r)=(f,v)::r:=by
 change(if f=f then _ else _)=_;rw[EW rfl]
theorem bH{f g:Str}{v w:V}{r:List (Str×V)}(h:¬g=f):dl f v ((g,w)::r)=(g,w)::dl f v r:=by
 change(if g=f then _ else _)=_;rw[EV h]
def fe(H H':Hp):Prop:=∀b u,H b=some u->(∀xs,u≠.lst xs)->(∀C dx fs,u≠.ins C dx fs)->H' b=some u
theorem fe.trans{c d H3:Hp}(a:fe c d)(b:fe d H3):fe c H3:=λp u h e f=>b p u (a p u h e f) e f
theorem bi{H H':Hp}(s:Same H H'):fe H H':=λb u h _ _=>s b u h
theorem xk{c:Hp}{a:zi}{xs ys:List V}(f:c a=some (.lst xs)):fe c (upd c a<|.lst ys):=λb u d n _=>by
 rw[aj (λe=>by rw[e,f]at d;show n xs (Option.some.inj d).symm)];show d
theorem lC{c:Hp}{a C d:zi}{fs gs:List (Str×V)}(g:c a=some (.ins C d fs)):fe c (upd c a<|.ins C d gs):=λb u f _ n=>by
 rw[aj (λe=>by rw[e,g]at f;show n C d fs (Option.some.inj f).symm)];show f
theorem fe.tup{H H':Hp}(s:fe H H'){b:zi}{xs:List V}(h:H b=some (.tup xs)):H' b=some (.tup xs):=s b _ h (λ_ h=>by cases h) (λ_ _ _ h=>by cases h)
theorem fe.rd{c H':Hp}(s:fe c H'){b:zi}{d:List (Key×V)}(a:Rd c b<|.dK d):Rd H' b (.dK d):=by
 rcases a with a|⟨o,a⟩
 .show .inl<|s b _ a (λ_ a=>by cases a) (λ_ _ _ a=>by cases a)
 .show .inr {o,s b _ a (λ_ a=>by cases a) (λ_ _ _ a=>by cases a)}
theorem Tre.stay{b H':Hp}{t:zi}{z:ZN}(a:Tre b t z)(s:fe b H'):Tre H' t z:={s.tup a.tup,λz c=>s.tup<|a.nod z c,a.tr,a.len}
abbrev TG:=List<|Str×(zi×ZN)
def bn(gs:TG):List (Key×V):=gs.map λg=>((Sum.inr g.1:Key),V.ref g.2.1)
structure Tags(H:Hp)(d:zi)(gs:TG):Prop where
 dct:Rd H d<|.dK (bn gs)
 at':∀g∈gs,Tre H g.2.1 g.2.2
 nd:(gs.map (·.1)).Nodup
 len:gs.length<=50
theorem Tags.stay{b H':Hp}{d:zi}{gs:TG}(a:Tags b d gs)(s:fe b H'):Tags H' d gs:={s.rd a.dct,λg c=>(a.at' g c).stay s,a.nd,a.len}
theorem Tags.same{H H':Hp}{d:zi}{gs:TG}(h:Tags H d gs)(s:Same H H'):Tags H' d gs:=h.stay<|bi s
structure Ent where
 a:zi
 sa:zi
 ta:zi
 da:zi
 xs:List V
 z:ZN
 gs:TG
structure EntAt(H:Hp)(e:Ent):Prop where
 ob:H e.a=some (.tup [.ref e.sa,.ref e.ta,.ref e.da])
 st:H e.sa=some (.tup e.xs)
 tr:Tre H e.ta e.z
 tg:Tags H e.da e.gs
theorem EntAt.stay{H H':Hp}{e:Ent}(h:EntAt H e)(s:fe H H'):EntAt H' e:=⟨s.tup h.ob,s.tup h.st,h.tr.stay s,h.tg.stay s⟩
abbrev lD(b:List Ent):List V:=b.map λe=>V.ref e.a
def flL(b t d pl a:zi):List (Str×V):=[("first_tree",.ref b),("tree",.ref t),("tag_trees",.ref d),("past",.ref pl),("ahead",.ref a)]
abbrev fi1(t:zi):List (Str×V):=[("first_tree",V.ref t)]
abbrev fi2(t:zi):List (Str×V):=[("first_tree",V.ref t),("tree",V.ref t)]
abbrev fi3(t d:zi):List (Str×V):=[("first_tree",V.ref t),("tree",V.ref t),("tag_trees",V.ref d)]
abbrev fi4(t d pl:zi):List (Str×V):=[("first_tree",V.ref t),("tree",V.ref t),("tag_trees",V.ref d),("past",V.ref pl)]
theorem Bt:¬(("first_tree":Str)="tree"):=by decide +kernel
theorem Bu:¬(("first_tree":Str)="tag_trees"):=by decide +kernel
theorem Dr:¬(("first_tree":Str)="past"):=by decide +kernel
theorem Bv:¬(("first_tree":Str)="ahead"):=by decide +kernel
theorem Bw:¬(("tree":Str)="tag_trees"):=by decide +kernel
theorem Ds:¬(("tree":Str)="past"):=by decide +kernel
theorem Bx:¬(("tree":Str)="ahead"):=by decide +kernel
theorem Dt:¬(("tag_trees":Str)="past"):=by decide +kernel
theorem By:¬(("tag_trees":Str)="ahead"):=by decide +kernel
theorem Bz:¬(("past":Str)="ahead"):=by decide +kernel
section
variable{ft t d pl al x:zi}
theorem Du:(flL ft t d pl al).lookup ("first_tree":Str)=some (.ref ft):=lB
theorem nu:(flL ft t d pl al).lookup ("tree":Str)=some (.ref t):=by unfold flL;rw[bY Bt,lB]
theorem BA:dl "tree" (.ref x) (flL ft t d pl al)=flL ft x d pl al:=by unfold flL;rw[bH Bt,rE]
theorem lE:(flL ft t d pl al).lookup ("tag_trees":Str)=some (.ref d):=by unfold flL;rw[bY Bu,bY Bw,lB]
theorem BB:dl "tag_trees" (.ref x) (flL ft t d pl al)=flL ft t x pl al:=by unfold flL;rw[bH Bu,bH Bw,rE]
theorem xl:(flL ft t d pl al).lookup ("past":Str)=some (.ref pl):=by unfold flL;rw[bY Dr,bY Ds,bY Dt,lB]
theorem Dv:(flL ft t d pl al).lookup ("ahead":Str)=some (.ref al):=by unfold flL;rw[bY Bv,bY Bx,bY By,bY Bz,lB]
theorem BC:dl "ahead" (.ref x) (flL ft t d pl al)=flL ft t d pl x:=by unfold flL;rw[bH Bv,bH Bx,bH By,bH Bz,rE]
theorem oE:(flL ft t d pl al).length<1000:=by change 5<1000;decide
end
structure LCls(K:Frag)(mg:Str->Option xx)(C:zi):Prop where
 cl:Cls K C
 n0:dH K C "first_tree"
 n1:dH K C "tree"
 n2:dH K C "tag_trees"
 n3:dH K C "past"
 n4:dH K C "ahead"
 mgC:mg "Ledger"=some (.ref C)
structure LAt(C:zi)(H:Hp)(p ft t d pl al:zi)(zf z:ZN)(gs:TG)(es as:List Ent):Prop where
 ob:∃dx,H p=some (.ins C dx<|flL ft t d pl al)
 tf:Tre H ft zf
 tr:Tre H t z
 tg:Tags H d gs
 ps:H pl=some (.lst<|lD es)
 ah:H al=some (.lst<|lD as)
 ne:pl≠al
 ep:∀e∈es,EntAt H e
 ea:∀e∈as,EntAt H e
theorem LAt.same{C:zi}{c H':Hp}{p h t d pl f:zi}{i z:ZN}{gs:TG}{g as:List Ent}(a:LAt C c p h t d pl f i z gs g as)(s:Same c H'):LAt C H' p h t d pl f i z gs g as :=
 {let⟨dx,e⟩:=a.ob;⟨dx,s _ _ e⟩,a.tf.same s,a.tr.same s,a.tg.same s,s _ _ a.ps,s _ _ a.ah,a.ne,λe b=>(a.ep e b).stay (bi s),λe b=>(a.ea e b).stay (bi s)}
section
variable{P:qw}{w:qn}{K:Frag}{mg:Str->Option xx}{base:qb}
def lF(C:zi):Sp:=λvs H Q _=>∃p dx t z,vs=[.ref p,.ref t]/\H p=some (.ins C dx [])/\Tre H t z/\∀d pl al H',H d=none->H pl=none->H al=none->LAt C H' p t t d pl al z z [] [] []->Off [p] H H'->Q .non H'
theorem BD:FnScope ["self","tree"] ["self","tree"] (ak fm):=fsc
theorem zg{f C:zi}{S:qa}(F:Fun K "__init__" "Ledger.__init__" fm f S)(T:LCls K mg C):FnOk P w K mg base CX0 1 f S ["self","tree"] (lF C):=by
 show F.okA BD λcdv A outer s H vs Q E a4 h=>?_
 .let(p,dx,t,z,rfl,U,i,k):=h;show{_,ag (fX (pv 0) (pv 1) rfl)<|ag (fX (pv 0) (pv 1) rfl) (ag (fX (pv 0) ko rfl)<|ag (fX (pv 0) (bc af) rfl) (am<|fX (pv 0) (bc af) rfl)),?_};show{_,rfl,_,rfl,p,C,dx,[],rfl,U,T.cl,T.n0,(by change 0<1000;decide),?_};have a2:upd H p (.ins C dx<|fi1 t) p=some (.ins C dx<|fi1 t):=ac;have l:∀b,upd H p (.ins C dx<|fi1 t) b=none->H b=none:=λb e=>by
   rw[aj λz=>by rw[z,ac]at e;cases e]at e;show e
  have Z:Off [p] H (upd H p<|.ins C dx (fi1 t)):=λb o e a=>by
   rw[aj (by simpa using a)];show e
  change qD _ _ _ _ (upd H p<|.ins C dx (fi1 t));generalize upd H p (.ins C dx<|fi1 t)=H1 at a2 l Z|-;show{_,rfl,_,rfl,p,C,dx,_,rfl,a2,T.cl,T.n1,(by change 1<1000;decide),?_};rw[show dl "tree" (V.ref t) (fi1 t)=(fi2 t)from bH Bt];have L:upd H1 p (.ins C dx<|fi2 t) p=some (.ins C dx<|fi2 t):=ac;have m:∀b,upd H1 p (.ins C dx<|fi2 t) b=none->H1 b=none:=λb e=>by
   rw[aj λz=>by rw[z,ac]at e;cases e]at e;show e
  have a0:Off [p] H1 (upd H1 p<|.ins C dx (fi2 t)):=λb o e a=>by
   rw[aj (by simpa using a)];show e
  generalize upd H1 p (.ins C dx<|fi2 t)=H2 at L m a0|-;intro d u;have q:p≠d:=aB L u;show{_,rfl,p,C,dx,_,rfl,by rw[aj q];show L,T.cl,T.n2,(by change 2<1000;decide),?_};rw[show dl "tag_trees" (V.ref d) (fi2 t)=(fi3 t d)by rw[bH Bu,bH Bw];rfl];have M:upd (upd H2 d<|.dK []) p (.ins C dx<|fi3 t d) p=some (.ins C dx<|fi3 t d):=ac;have O:upd (upd H2 d<|.dK []) p (.ins C dx<|fi3 t d) d=some (.dK []):=by rw[aj<|symm q,ac]
  have r:∀b,upd (upd H2 d<|.dK []) p (.ins C dx<|fi3 t d) b=none->H2 b=none:=λb e=>by
   rw[aj (λz=>by rw[z,ac]at e;cases e),aj (λz=>by rw[z,ac]at e;cases e)]at e;show e
  have a1:Off [p] H2 (upd (upd H2 d<|.dK []) p<|.ins C dx (fi3 t d)):=λb o e a=>by
   rw[aj (by simpa using a),aj<|aB e u];show e
  change qD _ _ _ _ (upd (upd H2 d<|.dK []) p<|.ins C dx (fi3 t d));generalize upd (upd H2 d<|.dK []) p (.ins C dx<|fi3 t d)=c at M O r a1|-;show{Fz _,λpl x=>?_};have D:p≠pl:=aB M x;show{_,rfl,p,C,dx,_,rfl,by rw[aj D];show M,T.cl,T.n3,(by change 3<1000;decide),?_};rw[show dl "past" (V.ref pl) (fi3 t d)=(fi4 t d pl)by rw[bH Dr,bH Ds,bH Dt];rfl];have N:upd (upd c pl<|.lst []) p (.ins C dx<|fi4 t d pl) p=some (.ins C dx<|fi4 t d pl):=ac;have B:upd (upd c pl<|.lst []) p (.ins C dx<|fi4 t d pl) pl=some (.lst []):=by rw[aj<|symm D,ac]
  have R:∀b,upd (upd c pl<|.lst []) p (.ins C dx<|fi4 t d pl) b=none->c b=none:=λb e=>by
   rw[aj (λz=>by rw[z,ac]at e;cases e),aj (λz=>by rw[z,ac]at e;cases e)]at e;show e
  have G:Off [p] c (upd (upd c pl<|.lst []) p<|.ins C dx (fi4 t d pl)):=λb o e a=>by
   rw[aj (by simpa using a),aj<|aB e x];show e
  change _;generalize upd (upd c pl<|.lst []) p (.ins C dx<|fi4 t d pl)=j at N B R G|-;show{Fz _,λal n=>?_};have X:p≠al:=aB N n;show{_,rfl,p,C,dx,_,rfl,by rw[aj X];show N,T.cl,T.n4,(by change 4<1000;decide),?_};rw[show dl "ahead" (V.ref al) (fi4 t d pl)=flL t t d pl al by rw[bH Bv,bH Bx,bH By,bH Bz];rfl];have I:Off [p] j (upd (upd j al<|.lst []) p<|.ins C dx (flL t t d pl al)):=λb o e a=>by
   rw[aj (by simpa using a),aj<|aB e n];show e
  have J:Off [p] H (upd (upd j al<|.lst []) p<|.ins C dx (flL t t d pl al)):=λb o e a=>I _ _ (G _ _ (a1 _ _ (a0 _ _ (Z _ _ e a) a) a) a) a;have Y:∀{b:zi}{xs:List V},H b=some (.tup xs)->b∉[p]:=λ{b xs} a h=>by
   have e:b=p:=by simpa using h
   rw[e,U]at a;cases a
  have tA:Tre (upd (upd j al<|.lst []) p<|.ins C dx (flL t t d pl al)) t z:={J _ _ i.tup<|Y i.tup,λy W=>J _ _ (i.nod y W)<|Y (i.nod y W),i.tr,i.len};show k d pl al _ (l _<|m _ u) (l _<|m _ (r _ x)) (l _<|m _ (r _<|R _ n)) {⟨dx,ac⟩,tA,tA,{.inl<|I _ _ (G _ _ O (by simpa using symm q)) (by simpa using symm q),(λg a3=>nomatch a3),nodup_nil,by decide},I _ _ B (by simpa using symm D),?_,aB B n,(λe v=>nomatch v),(λe v=>nomatch v)} J;rw[aj<|symm X,ac];rfl
def rF(C:zi):Sp:=λvs H Q _=>∃p ft t d pl al b z gs es a,vs=[.ref p]/\LAt C H p ft t d pl al b z gs es a/\Q (.ref t) H
theorem BE:FnScope ["self"] ["self"] (ak gB):=fsc
theorem zh{f C:zi}{a:qa}(F:Fun K "now" "Ledger.now" gB f a)(T:LCls K mg C):FnOk P w K mg base CX0 1 f a ["self"] (rF C):=by
 show F.okA BE λcdv A outer s H vs Q E g h=>?_
 .let(p,ft,t,d,pl,al,i,z,gs,es,e,rfl,b,q):=h;let(dx,c):=b.ob;show{_,am<|aq (ci (pv 0) rfl),_,rfl,p,C,dx,_,_,rfl,c,T.cl,T.n1,nu,q}
def lG(C:zi):Sp:=λvs H Q _=>∃p ft t d pl al b z gs es a,vs=[.ref p]/\LAt C H p ft t d pl al b z gs es a/\∀u,H u=none->Q (.ref u) (upd H u<|.tup [.int es.length,.int a.length])
theorem BF:FnScope ["self"] ["self"] (ak eN):=fsc
theorem zj{f C:zi}{c:qa}(F:Fun K "sizes" "Ledger.sizes" eN f c)(b:Txt mg)(T:LCls K mg C):FnOk P w K mg base CX0 1 f c ["self"] (lG C):=by
 show F.okA BF λcdv A outer s H vs Q E j h=>?_
 .let(p,ft,t,d,pl,al,k,z,gs,es,i,rfl,a,q):=h;let(dx,e):=a.ob;show{_,am<|aq (aO<|aa (ar aM rfl b.len Gi<|aa (ci (pv 0) rfl) af) (aa (ar aM rfl b.len Gi<|aa (ci (pv 0) rfl) af) af)),?_};show{_,rfl,p,C,dx,_,_,rfl,e,T.cl,T.n3,xl,pl,_,rfl,.inl<|SqL.of a.ps,_,rfl,p,C,dx,_,_,rfl,e,T.cl,T.n4,Dv,al,_,rfl,.inl<|SqL.of a.ah,(show 2<=sizeLine from ao (by decide)),λu g=>?_};rw[ES,ES];show q u g
end
theorem dP{b t d pl a:zi}{m:Str}(c:¬(("first_tree":Str)=m))(e:¬(("tree":Str)=m))(f:¬(("tag_trees":Str)=m))(g:¬(("past":Str)=m))(h:¬(("ahead":Str)=m)):(flL b t d pl a).lookup m=none:=by
 unfold flL;rw[bY c,bY e,bY f,bY g,bY h];rfl
theorem nv{a H':Hp}(s:Same a H'){b:zi}(c:H' b=none):a b=none:=by
 cases d:a b with
 |none=>rfl
 |some o=>rw[s _ _ d]at c;cases c
section
variable{P:qw}{w:qn}{K:Frag}{mg:Str->Option xx}{base:qb}
def sY(C:zi):Sp:=λvs H Q _=>∃p ft t d pl al g z gs es h sa xs b f a e,vs=[.ref p,.ref sa,.ref b,.ref a]/\LAt C H p ft t d pl al g z gs es h/\H sa=some (.tup xs)/\Tre H b f/\Tags H a e/\es.length<=200 /\
 ∀q c H',H c=none->LAt C H' p ft b a pl c g f e (es++[⟨q,sa,t,d,xs,z,gs⟩]) []->fe H H'->Off [p,pl] H H'->Q .non H'
theorem Dw:FnScope ["self","step","tree","tag_trees"] ["self","step","tree","tag_trees"] (ak eK):=fsc
theorem BG{f C:zi}{S:qa}(F:Fun K "go_on" "Ledger.go_on" eK f S)(T:LCls K mg C):FnOk P w K mg base CX0 1 f S ["self","step","tree","tag_trees"] (sY C):=by
 show F.okA Dw λcdv A outer s H vs Q E c0 h=>?_
 .let(p,ft,t,d,pl,al,c2,z,gs,es,b7,sa,xs,c,c1,r,b8,rfl,i,a7,b6,b5,b9,q):=h;let(dx,v):=i.ob;show{_,ag (cj<|gX GO GL GN cX (ci (pv 0) rfl) (aa (aO<|aa (pv 1) (aa (ci (pv 0) rfl)<|aa (ci (pv 0) rfl) af)) af))
   (ag (fX (pv 0) (bc af) rfl)<|ag (fX (pv 0) (pv 2) rfl) (am<|fX (pv 0) (pv 3) rfl)),?_}
  show{_,rfl,p,C,dx,_,_,rfl,v,T.cl,T.n3,xl,.inl ⟨rfl,_,SqL.of i.ps⟩,_,rfl,_,rfl,p,C,dx,_,_,rfl,v,T.cl,T.n1,nu,_,rfl,p,C,dx,_,_,rfl,v,T.cl,T.n2,lE,(show 3<=sizeLine from ao (by decide)),λe a5=>?_};have s1:=ae (o:=.tup [.ref sa,.ref t,.ref d]) a5;have U:upd H e (.tup [.ref sa,.ref t,.ref d]) e=some (.tup [.ref sa,.ref t,.ref d]):=ac;generalize upd H e (.tup [.ref sa,.ref t,.ref d])=H1 at s1 U|-;have D:=i.same s1;have V:=s1 _ _ v;show{pl,_,_,rfl,rfl,D.ps,aw (by rw[ES];lia),?_};have B:p≠pl:=uS V D.ps (by intro h;cases h);have k2:=xk (ys:=lD es++[.ref e]) D.ps;have x:upd H1 pl (.lst<|lD es++[.ref e]) p=some (.ins C dx<|flL ft t d pl al):=by rw[aj B];show V
  have J:upd H1 pl (.lst<|lD es++[.ref e]) pl=some (.lst<|lD (es++[⟨e,sa,t,d,xs,z,gs⟩])):=by rw[ac];unfold lD;rw[Fn];rfl
  have N:Off [p,pl] H1 (upd H1 pl<|.lst (lD es++[.ref e])):=λb o h a=>by rw[aj λz=>a (by rw[z];simp)];show h
  generalize upd H1 pl (.lst<|lD es++[.ref e])=H2 at k2 x J N|-;show{Fz _,λal' u=>?_};have l:p≠al':=aB x u;have a0:pl≠al':=aB J u;have a4:H al'=none:=by
   cases a6:H al' with
   |none=>rfl
   |some o =>
    have h2:=N _ _ (s1 _ _ a6) (by simp[symm l,symm a0]);rw[u]at h2;cases h2
  show{_,rfl,p,C,dx,_,rfl,by rw[aj l];show x,T.cl,T.n4,oE,?_};rw[BC];have W:upd H2 al' (.lst []) p=some (.ins C dx<|flL ft t d pl al):=by rw[aj l];show x
  have m:=ae (o:=.lst []) u;have gA:upd H2 al' (.lst []) al'=some (.lst []):=ac;generalize upd H2 al' (.lst [])=j at W m gA|-;have M:=lC (gs:=flL ft t d pl al') W;have G:upd j p (.ins C dx<|flL ft t d pl al') p=some (.ins C dx<|flL ft t d pl al'):=ac;have a1:Off [p,pl] j (upd j p<|.ins C dx (flL ft t d pl al')):=λb o h a=>by rw[aj λz=>a (by rw[z];simp)];show h
  have Y:upd j p (.ins C dx<|flL ft t d pl al') pl=some (.lst<|lD (es++[⟨e,sa,t,d,xs,z,gs⟩])):=by rw[aj<|symm B];show m _ _ J
  have O:upd j p (.ins C dx<|flL ft t d pl al') al'=some (.lst []):=by rw[aj<|symm l];show gA
  generalize upd j p (.ins C dx<|flL ft t d pl al')=k at M G a1 Y O|-;show{_,rfl,_,rfl,p,C,dx,_,rfl,G,T.cl,T.n1,oE,?_};rw[BA];have k5:=lC (gs:=flL ft c d pl al') G;have I:upd k p (.ins C dx<|flL ft c d pl al') p=some (.ins C dx<|flL ft c d pl al'):=ac;have a2:Off [p,pl] k (upd k p<|.ins C dx (flL ft c d pl al')):=λb o h a=>by rw[aj λz=>a (by rw[z];simp)];show h
  have Z:upd k p (.ins C dx<|flL ft c d pl al') pl=some (.lst<|lD (es++[⟨e,sa,t,d,xs,z,gs⟩])):=by rw[aj<|symm B];show Y
  have R:upd k p (.ins C dx<|flL ft c d pl al') al'=some (.lst []):=by rw[aj<|symm l];show O
  generalize upd k p (.ins C dx<|flL ft c d pl al')=n at k5 I a2 Z R|-;show{_,rfl,_,rfl,p,C,dx,_,rfl,I,T.cl,T.n2,oE,?_};rw[BB];have X:=lC (gs:=flL ft c r pl al') I;have a9:Off [p,pl] n (upd n p<|.ins C dx (flL ft c r pl al')):=λb o h a=>by rw[aj λz=>a (by rw[z];simp)];show h
  have g:fe H (upd n p<|.ins C dx (flL ft c r pl al')):=(((((bi s1).trans k2).trans (bi m)).trans M).trans k5).trans X;have a8:fe H1 (upd n p<|.ins C dx (flL ft c r pl al')):=((((k2).trans (bi m)).trans M).trans k5).trans X;show q e al' _ a4 {⟨dx,ac⟩,i.tf.stay g,b6.stay g,b5.stay g,by rw[aj<|symm B];show Z,by rw[aj<|symm l];show R,a0,λy L=>?_,(λy L=>nomatch L)} g λb o h a=>a9 _ _ (a2 _ _ (a1 _ _ (m _ _<|N _ _ (s1 _ _ h) a) a) a) a;rcases Fd.mp L with h|h
  .show(i.ep y h).stay g
  .have a3:y=⟨e,sa,t,d,xs,z,gs⟩:=by simpa using h
   rw[a3];show{a8.tup U,g.tup a7,i.tr.stay g,i.tg.stay g}
def qk(C:zi)(cls:TW.Wd->zi):Sp:=λvs H Q E=>∃p ft t d pl al e z gs es f sa dd,vs=[.ref p,.ref sa]/\LAt C H p ft t d pl al e z gs es f/\z.length<=29/\H sa=some (.tup<|aQ dd)/\dN dd/\es.length<=200 /\
 (∀g b q a H',H a=none->TW.Told (nds z) dd (.inr<|nds b)->LAt C H' p ft g d pl a e b gs (es++[⟨q,sa,t,d,aQ dd,z,gs⟩]) []->fe H H'->Off [p,pl] H H'->Q .non H') /\
 ∀c H',Same H H'->TW.Told (nds z) dd (.inl c)->E (.ref<|cls c) none H'
theorem Dx:FnScope ["self","deed"] ["self","deed"] (ak iq):=fsc
theorem BH{f C l:zi}{m n:qa}{cls:TW.Wd->zi}(F:Fun K "do" "Ledger.do" iq f m)(T:LCls K mg C)(y:eI P w K mg base 4 "done" ["tree","deed"]<|rA cls)(I:Meth K C "go_on" l)(D:FnOk P w K mg base CX0 1 l n ["self","step","tree","tag_trees"]<|sY C)(M:aH K n ["self","step","tree","tag_trees"] []):FnOk P w K mg base (CX1 P w) 5 f m ["self","deed"] (qk C cls):=by
 let(a2,a3,B,Y,X,L):=y;show F.okX Dx (λvs H Q E h=>?_) λcdv A outer s H vs Q E u h=>?_
 .let(p,ft,t,d,pl,al,x,z,gs,es,j,sa,dd,rfl,_):=h;rfl
 .have U:Room 1 _:=u.mono (by decide);show{_,am<|cj (fg (pv 0) T.cl I D U M .nil cK<|aa (pv 1) (aa (bd (E:=E) B u rfl Y X L .nil (cS bR)<|aa (ci (pv 0) rfl) (aa (pv 1) af))<|aa (ci (pv 0) rfl) af)),?_};let(p,ft,t,d,pl,al,x,z,gs,es,j,sa,dd,rfl,c,W,v,r,S,a0,Z):=h;let(dx,e):=c.ob;show{_,rfl,p,dx,_,rfl,e,dP (by decide +kernel) (by decide +kernel) (by decide +kernel) (by decide +kernel) (by decide +kernel),_,rfl,_,rfl,p,C,dx,_,_,rfl,e,T.cl,T.n1,nu,_,rfl,t,sa,dd,z,rfl,c.tr,W,v,r,{λus g H1 s1 V O a=>?_,λa1 H1 s1 a=>Z a1 H1 s1 a}};have i:=c.same s1;have Tb:Tre H1 g us:={V,O,a.tree c.tr.tr r.pos,by have:=a.len;rw[aG,aG]at this;lia};show{_,rfl,p,C,dx,_,_,rfl,s1 _ _ e,T.cl,T.n2,lE,p,ft,t,d,pl,al,x,z,gs,es,j,sa,aQ dd,g,us,d,gs,rfl,i,s1 _ _ v,Tb,i.tg,S,λq J H' N G k o=>a0 g us q J H' (nv s1 N) a G ((bi s1).trans k) λb o' h R=>o _ _ (s1 _ _ h) R}
end
def letters:Str:="abcdefghijklmnopqrstuvwxyz"
def inL(c:Nat):Bool:=!(Builtin.Str.occurrences letters {#[c]} 0 letters.length 1).isEmpty
def cQ(x:Str):Bool:=decide (1<=x.length)&&decide (x.length<=5)&&x.cps.toList.all inL
theorem lY.b{x:Str}(h:lY x):cQ x=true:=by rcases h with e|e|e|e<;>rw[e]<;>decide +kernel
theorem BI:FnScope ["thing"] ["thing"] (ak wC):=fsc
end TK
namespace L2
open PySem PySem.Spec PyProof.Rows
section
variable{X:Cx}
theorem gU{a:Model}{A:qd}{E:xx->xg->Prop}{s:xg}{env:Env}{d:Expr}{pos:Pos}{Q:xx->xg->Prop}(e:wpAny a A (eval d env) (λv b=>wpAny a A (pyReprObj v) (λc g=>wpAny a A (formatField c empty) Q E g) E b) E s):wpAny a A (eval (.FormattedValue d 114 none pos) env) Q E s:=by
 change wpAny a A (do let v <- eval d env;standAt pos;formatted pos (<- holding [v] (converted 114 v)) none) Q E s
 show Wb<|wpAny_mono e (λv b f=>?_) λ_ _ x=>x;show Wb<|wpAny_standAt ?_;change wpAny _ _ (do let c <- holding [v] (pyReprObj v);formatField c empty) Q E b
 show Wb<|wpAny_holding f
theorem zk{e:Expr}{c:TE}{b:Nat}{p:Pos}{ps:List Expr}{t:TJ}(g:PE X e c)(f:PJ X ps b t):PJ X (.FormattedValue e 114 none p::ps) (300+b) (λσ H k=>c σ H λv H1=>∃x:Str,v=.str x/\(reprText x).length<=300/\t σ H1 k):=by
 intro a pins s σ H Q I m i;show joinParts_cons<|gU (thn (g pins _ σ H _ I i) λv s1 h=>?_);let(y,H1,d,l,j):=h;let(x,rfl,o,q):=j;let(tk,rfl):=l;have n:(a++reprText x).length=a.length+(reprText x).length:=strLen_append ..;show wpAny_pyReprObj_str (formatField_str (λr u=>{Fu<|aw (by lia),?_})<|Fu (aw (by lia)))<|Fu (aw (by lia));show f _ pins _ σ H1 Q (d.tok _) (by lia) q
end
end L2
namespace TK
open PySem L2
section
variable{P:qw}{w:qn}{K:Frag}{mg:Str->Option xx}{base:qb}
def eD(C:zi):Sp:=λvs H Q _=>∃p ft t d pl al f z gs es e,vs=[.ref p]/\LAt C H p ft t d pl al f z gs es e/\∀c:List Str,c.Perm (gs.map (·.1))->c.Pairwise (λa b=>HT.dI a b=true)->∀l,H l=none->Q (.ref l) (upd H l<|.lst (c.map V.str))
theorem zm:FnScope ["self"] ["self"] (ak fo):=fsc
theorem xm{f C:zi}{b:qa}(F:Fun K "tags" "Ledger.tags" fo f b)(c:Txt mg)(T:LCls K mg C):FnOk P w K mg base CX0 1 f b ["self"] (eD C):=by
 show F.okA zm λcdv A outer s H vs Q E m h=>?_
 .let(p,ft,t,d,pl,al,n,z,gs,es,j,rfl,a,q):=h;let(dx,g):=a.ob;show{_,am<|aq (ar (gF rfl) rfl c.sorted boot_sorted<|aa (ci (pv 0) rfl) af),?_};have k:=a.tg.len;show{_,rfl,p,C,dx,_,_,rfl,g,T.cl,T.n2,lE,d,_,gs.map (·.1),rfl,a.tg.dct,by unfold bn;rw[FD,FD];rfl,a.tg.nd,by rw[ES];lia,λi h1 h2 l e=>q i h1 h2 l e}
def iY:Sp:=λvs H Q _=>∃x:Str,vs=[.str x]/\x.length<=100/\∀H',Same H H'->Q (.bl<|cQ x) H'
theorem ql{f:zi}{g:qa}(F:Fun K "is_name" "is_name" wC f g)(T:Txt mg):FnOk P w K mg base CX0 1 f g ["thing"] iY:=by
 let(tl,l):=T.letters;let(D,n):=T.longest;show F.okA BI λcdv A outer s H vs Q E z h=>?_
 .let(x,rfl,C,k):=h;show{_,ag (aS (PW.pt (pw_or (cU<|cE (ar cm rfl T.isin Ff<|aa (pv 0) (aa (dQ (v:=.ty "str") rfl T.str boot_str rfl) af)) (λ_=>rfl))
    (pw_or1<|cU (vg sh sh ai (ar nQ rfl T.len Gi<|aa (pv 0) af)<|bw (v:=.int 5) rfl n ⟨_,rfl⟩))))
   (am<|aq fQ) ax)
   (am<|aq (ar (kQ rfl) rfl T.all boot_all<|aa (de lcS (AO<|pv 0) λs H fp=>dU tO (pv 0) (bw (v:=.str letters) rfl l ⟨_,rfl⟩) (by with_unfolding_all rfl)) af)),?_}
  show{_,rfl,_,_,_,_,rfl,.str x,(by kernel_rfl:_=some true),_,rfl,aC ?_};show{_,rfl,x,rfl,Fu<|aw (by lia),_,_,rfl,rfl,_,rfl,?_}
  by_cases d:1<=x.length
  .have h1:decide ((1:Int)<=(x.length:Int))=true:=Fe (by lia);rw[h1];show aV {_,_,rfl,rfl,_,rfl,?_}
   by_cases e:x.length<=5
   .have h2:decide ((x.length:Int)<=5)=true:=Fe (by lia);rw[h2];show aC ?_;have a:cQ x=x.cps.toList.all inL:=by unfold cQ;rw[Fe d,Fe e];rfl
    have B:x.cps.size=x.length:=rfl;show{_,rfl,x,rfl,λp j=>?_};show pF (k:=1) (js:=[]) (J:=Its x) (p:=p) x.cps.size (by lia) (λi ys b H'=>ys=((x.cps.toList.take i).map inL).map V.bl/\b.length=1/\Same H H'/\H' p=some (.lst ys))
     ⟨rfl,rfl,ae j,ac⟩ (λi ys b H' h=>?_) (λi ys b H' hi h=>hi) (λys b H' h=>?_) (λi ys b H' hi h v H2 u=>?_) ?_ ?_
    .rw[h.1,ES,ES,Fx];lia
    .let(e1,_,s1,e2):=h;have e3:ys=(x.cps.toList.map inL).map V.bl:=by rw[e1,take_of_length_le (by simp)]
     subst e3;show{FH _,_,_,rfl,SqL.of e2,?_};have e4:(x.cps.toList.map inL).all id=cQ x:=by rw[all_map,a];rfl
     rw[e4];show k _ s1
    .let(e1,e0,s1,e2):=h;let(rfl,c,o,rfl):=u;show{_,getElem?_set_self (by lia),_,_,rfl,rfl,e2,?_,by simpa using e0,aJ j s1,ac}
     have r:x.cps.toList[i]?=some c:=by simpa using o
     rw[e1,take_succ,r];simp[inL]
    .intro _ _ _ _ _ m q;show m _ _ q
    .rintro _ _ _ _ m ⟨v,t,i,y,d,e,q⟩;show{v,t,i,y,d,e,m _ _ q}
   .have h2:decide ((x.length:Int)<=5)=false:=FZ (by lia);have a:cQ x=false:=by unfold cQ;rw[FZ e,Bool.and_false];rfl
    rw[h2];have:=k H<|Same.refl _;rw[a]at this;show aV this
  .have h1:decide ((1:Int)<=(x.length:Int))=false:=FZ (by lia);have a:cQ x=false:=by unfold cQ;rw[FZ d];rfl
   rw[h1];have:=k H<|Same.refl _;rw[a]at this;show aC ⟨false,rfl,aV this⟩
end
def cR(gs:TG)(x:Str)(v:zi×ZN):TG:=if (gs.any λg=>decide<|g.1=x)=true then gs.map (λg=>if g.1=x then (g.1,v)else g)else gs++[(x,v)]
theorem qm(gs:TG)(x:Str)(v:zi×ZN):bJ (bn gs) (Sum.inr x:Key) (V.ref v.1)=bn (cR gs x v):=by
 have e:((bn gs).any λb=>decide<|b.1=(Sum.inr x:Key))=gs.any λg=>decide (g.1=x):=by
  unfold bn;rw[any_map]
  congr 1
  funext g
  change decide ((Sum.inr g.1:Key)=Sum.inr x)=decide (g.1=x);rw[Fp,decide_eq_true_iff,decide_eq_true_iff];show{λh=>by injection h,λh=>by rw[h]}
 unfold bJ cR;rw[e]
 by_cases h:(gs.any λg=>decide<|g.1=x)=true
 .rw[EW h,EW h];unfold bn;rw[FD,FD];show Fq λg _=>?_;change(if (Sum.inr g.1:Key)=Sum.inr x then ((Sum.inr g.1:Key),V.ref v.1)else ((Sum.inr g.1:Key),V.ref g.2.1))=((Sum.inr (if g.1=x then (g.1,v)else g).1:Key),V.ref (if g.1=x then (g.1,v)else g).2.1)
  by_cases a:g.1=x
  .rw[EW (by rw[a]),EW a]
  .rw[EV λh=>a (by injection h),EV a]
 .rw[EV h,EV h];unfold bn;rw[Fn];rfl
theorem qp{gs:TG}{x:Str}{v:zi×ZN}:(cR gs x v).length<=gs.length+1:=by
 unfold cR
 split
 .rw[ES];lia
 .rw[FI];show FH _
theorem iZ{gs:TG}{x:Str}{v:zi×ZN}{g:Str×(zi×ZN)}(a:g∈cR gs x v):g=(x,v)\/g∈gs:=by
 unfold cR at a
 split at a
 .let(y,c,e):=EZ.mp a
  by_cases b:y.1=x
  .rw[EW b]at e;rw[<-e,b];show .inl rfl
  .rw[EV b]at e;rw[<-e];show .inr c
 .rcases Fd.mp a with a|a
  .show .inr a
  .show .inl (by simpa using a)
theorem jX{gs:TG}{x:Str}:(gs.any λg=>decide<|g.1=x)=true↔x∈gs.map (·.1):=by
 rw[GK,EZ];show{λ⟨g,a,e⟩=>⟨g,a,of_decide_eq_true e⟩,λ⟨g,a,e⟩=>⟨g,a,Fe e⟩}
theorem rG{gs:TG}{x:Str}{v:zi×ZN}:(cR gs x v).map (·.1)=if x∈gs.map (·.1)then gs.map (·.1)else gs.map (·.1)++[x]:=by
 unfold cR
 by_cases h:x∈gs.map (·.1)
 .rw[EW h,EW<|jX.mpr h,FD];show Fq λg _=>?_;change(if g.1=x then (g.1,v)else g).1=g.1
  split<;>rfl
 .rw[EV h,EV λe=>h<|jX.mp e,Fn];rfl
theorem sZ{gs:TG}{x:Str}{v:zi×ZN}(c:(gs.map (·.1)).Nodup):((cR gs x v).map (·.1)).Nodup:=by
 rw[rG]
 split
 .show c
 .rename_i g
  rw[nodup_append];show{c,by simp,λa d b f e=>g (by rw[<-show b=x by simpa using f,<-e];show d)}
theorem Tags.val{c:Hp}{d:zi}{gs:TG}(a:Tags c d gs)(x:Str):(aX (bn gs) (Sum.inr x:Key)).isSome=decide (x∈gs.map (·.1)):=by
 have:∀gs:TG,(aX (bn gs) (Sum.inr x:Key)).isSome=decide (x∈gs.map (·.1)):=by
  intro gs
  induction gs with
  |nil=>rfl
  |cons g r b =>
   unfold bn at b|-;rw[Fi]
   by_cases e:g.1=x
   .rw[bh (by rw[e]),Fe (by rw[Fi,e];show FY)];rfl
   .rw[aY (by intro z;show e (by injection z)),b];rw[Fp,decide_eq_true_iff,decide_eq_true_iff,Fi,FU];show{λa=>.inr a,λa=>a.resolve_left λz=>e z.symm}
 show this gs
theorem Tags.get{i:Hp}{d:zi}{gs:TG}(b:Tags i d gs){g:Str×(zi×ZN)}(c:g∈gs):aX (bn gs) (Sum.inr g.1:Key)=some (.ref g.2.1):=by
 have a:=b.nd;clear b
 induction gs with
 |nil=>cases c
 |cons y r h =>
  rw[Fi,GW]at a;unfold bn at h|-;rw[Fi];rcases FU.mp c with e|f
  .rw[e];show bh rfl
  .rw[aY (by intro z;have e:y.1=g.1:=by injection z
             show a.1 (by rw[e];show EZ.mpr ⟨g,f,rfl⟩))]
   show h f a.2
section
variable{P:qw}{w:qn}{K:Frag}{mg:Str->Option xx}{base:qb}
def oF(C:zi):Sp:=λvs H Q _=>∃p ft t d pl al b z gs es a g,vs=[.ref p,.str g.1]/\LAt C H p ft t d pl al b z gs es a/\g.1.length<=100/\cQ g.1=true/\g∈gs/\∀H',Same H H'->Q (.ref g.2.1) H'
theorem BJ:FnScope ["self","name"] ["self","name"] (ak dO):=fsc
theorem zn{f C:zi}{e:qa}(F:Fun K "tagged" "Ledger.tagged" dO f e)(T:LCls K mg C)(CN:Has P w K mg base 1 "is_name" ["thing"] iY):FnOk P w K mg base CX0 2 f e ["self","name"] (oF C):=by
 show F.okA BJ λcdv A outer s H vs Q E b h=>?_
 .let(p,ft,t,d,pl,al,r,z,gs,es,o,g,rfl,a,n,l,k,q):=h;let(dx,m):=a.ob;show{_,ag (aS (PW.pt<|pw_or (cU<|cE (bu CN b<|aa (pv 1) af) (λ_=>rfl)) (pw_or1<|ia (eU (bp b) (pv 1)<|ci (pv 0) rfl))) tK ax)
   (am<|aq (cz (bp b) (ci (pv 0) rfl) (pv 1) λ_ _=>rfl)),?_}
  show{_,rfl,g.1,rfl,n,λH1 s1=>?_};rw[l];have j:=a.same s1;have i:=s1 _ _ m;have c:cY H1 d (kV<|Sum.inr g.1) (some<|.ref g.2.1):=by rw[<-a.tg.get k];show .inl ⟨_,_,j.tg.dct,rfl,rfl⟩
  show{true,rfl,aC {_,rfl,_,rfl,p,C,dx,_,_,rfl,i,T.cl,T.n2,lE,d,_,rfl,c,_,rfl,aC ?_}};show{_,rfl,p,C,dx,_,_,rfl,i,T.cl,T.n2,lE,_,rfl,d,_,rfl,c,q H1 s1}
def lH(C c:zi):Sp:=λvs H Q E=>∃p ft t d pl al b z gs es e x,vs=[.ref p,.str x]/\LAt C H p ft t d pl al b z gs es e/\x.length<=100/\(reprText x).length<=300/\es.length<=200/\gs.length<50 /\
 (cQ x=true->∀q sa f a H',H a=none->LAt C H' p ft t f pl a b z (cR gs x (t,z)) (es++[{q,sa,t,d,[.str "tag",.str x],z,gs}]) []->fe H H'->Off [p,pl] H H'->Q (.bl<|decide (x∈gs.map (·.1))) H') /\
 (cQ x=false->∀H',Same H H'->E (.ref c) none H')
theorem rH:FnScope ["self","name","had","tag_trees"] ["self","name"] (ak gw):=fsc
theorem zo{f C G L:zi}{M N:qa}(F:Fun K "tag" "Ledger.tag" gw f M)(a5:Txt mg)(T:LCls K mg C)(a3:jF "NoTag" mg base G)(CN:Has P w K mg base 1 "is_name" ["thing"] iY)(a2:Meth K C "go_on" L)(Y:FnOk P w K mg base CX0 1 L N ["self","step","tree","tag_trees"]<|sY C)(a7:aH K N ["self","step","tree","tag_trees"] []):FnOk P w K mg base (CX1 P w) 2 f M ["self","name"] (lH C G):=by
 show F.okX rH (λvs H Q E h=>?_) λcdv A outer s H vs Q E a h=>?_
 .let(p,ft,t,d,pl,al,X,z,gs,es,J,x,rfl,_):=h;rfl
 .let(p,ft,t,d,pl,al,X,z,gs,es,J,x,rfl,l,c1,b9,b7,c4,c3,c2):=h;let(dx,b8):=l.ob;show{_,ag (aS (cU<|cE (bu CN a<|aa (pv 1) af) (λ_=>rfl)) (am<|cN bR a3 a.hd rfl (gP (zk (pv 1)<|dw (c:=100) (by decide +kernel) jq) (by decide))) ax)
   (ag (aD (i:=2) rH.nd rfl (Or.inl rfl)<|uU (nS (bp a) (pv 1)<|ci (pv 0) rfl))
   (ag (aD (i:=3) rH.nd rfl (Or.inl rfl)<|aK qj rfl a5.dict rfl (aa (ci (pv 0) rfl) af))
   (ag (iG (bp a) (pv 3) (pv 1) (ci (pv 0) rfl) rfl)
   (ag (cj<|fg (pv 0) T.cl a2 Y a a7 .nil cK (aa (aO<|aa ay (aa (pv 1) af))<|aa (ci (pv 0) rfl) (aa (pv 3) af)))
   (am<|aq (pv 2)))))),?_}
  show{_,rfl,x,rfl,c1,λH1 s1=>{_,rfl,?_}};have r:=l.same s1;have n:=s1 _ _ b8;cases S:cQ x with
  |false =>
   show aV {_,rfl,x,rfl,b9,λy=>{ao (show 1<=1000 by decide),c2 S H1 s1}}
  |true =>
   show aC ?_;have a8:cY H1 d (kV<|Sum.inr x) (aX (bn gs) (Sum.inr x:Key)):=.inl ⟨_,_,r.tg.dct,rfl,rfl⟩;show{_,rfl,_,rfl,p,C,dx,_,_,rfl,n,T.cl,T.n2,lE,d,_,rfl,a8,?_};rw[l.tg.val x];show{_,rfl,p,C,dx,_,_,rfl,n,T.cl,T.n2,lE,d,_,rfl,r.tg.dct,λd' U=>?_};have D:=ae (o:=.dK<|bn gs) U;have u:upd H1 d' (.dK<|bn gs) d'=some (.dK<|bn gs):=ac;generalize upd H1 d' (.dK<|bn gs)=H2 at D u|-;have V:=D _ _ n;have c5:p≠d':=uS V u (by intro h;cases h);show{_,rfl,p,C,dx,_,_,rfl,V,T.cl,T.n1,nu,_,rfl,_,rfl,d',_,rfl,lT.k (k:=Sum.inr x) u<|aw (by unfold bn;rw[ES];lia),?_};rw[qm gs x (t,z)];have q:Same H1 (upd H2 d'<|.dK (bn<|cR gs x (t,z))):=aJ U D;have O:upd H2 d' (.dK<|bn (cR gs x (t,z))) d'=some (.dK<|bn (cR gs x (t,z))):=ac;generalize upd H2 d' (.dK<|bn (cR gs x (t,z)))=I at q O|-;have a1:=r.same q;have W:=q _ _ n;show{_,rfl,p,dx,_,rfl,W,dP (by decide +kernel) (by decide +kernel) (by decide +kernel) (by decide +kernel) (by decide +kernel),_,rfl,(show 2<=sizeLine from ao (by decide)),λsa c0=>?_};have j:=ae (o:=.tup [.str "tag",.str x]) c0;have R:upd I sa (.tup [.str "tag",.str x]) sa=some (.tup [.str "tag",.str x]):=ac;generalize upd I sa (.tup [.str "tag",.str x])=Z at j R|-;have m:=a1.same j;have B:=s1.trans<|q.trans j;have a4:Tags Z d' (cR gs x (t,z)):={.inl<|j _ _ O,λg b6=>?_,sZ l.tg.nd,by have:=qp (gs:=gs) (x:=x) (v:=(t,z));lia}
   .show{_,rfl,p,C,dx,_,_,rfl,j _ _ W,T.cl,T.n1,nu,_,rfl,p,ft,t,d,pl,al,X,z,gs,es,J,sa,[.str "tag",.str x],t,z,d',cR gs x (t,z),rfl,m,R,m.tr,a4,b7,λe a6 H' a9 a0 k o=>?_};show{_,rfl,c3 S e sa d' a6 H' (nv B a9) a0 ((bi B).trans k) λb o' h b5=>o _ _ (B _ _ h) b5}
   .rcases iZ b6 with e|h
    .rw[e];show m.tr
    .show m.tg.at' g h
end
end TK
namespace L2
open PySem PySem.Spec PyProof.Rows
def xn(c:Hp)(x y:V):Prop:=iP c 3 x y\/∃a b kvs d,x=.ref a/\y=.ref b/\Rd c a (.dK kvs)/\Rd c b (.dK d)/\kvs.length=d.length/\∀k v,(k,v)∈kvs->∃u,aX d k=some u/\iP c 3 v u
def nA(H:Hp)(xs ys:List V):Prop:=xs.length=ys.length/\∀(i:Nat) x y,xs[i]?=some x->ys[i]?=some y->xn H x y
def EqW(prog:qw)(w:qn)(A:qd)(s:xg)(y x:xx):Prop:=∀(E:xx->xg->Prop)(Q:Bool->xg->Prop),Q true s->wpAny (model prog w) A (eqBool y x) Q E s
theorem uI{prog:qw}{w:qn}(l b:zi)(items e:Array xx)(n o:Nat)(dd i:Option zi)(q r:Array<|Option xx)(hsz:items.size=e.size):
  MeetsIn prog w (Builtin.«tuple.__ne__» {[.ref l,.ref b],[]})
   (λA R s=>s.heap.get? l=some {cls:=.type "tuple",dict:=dd,data:=.seq items n,slots:=q}/\s.heap.get? b=some {cls:=.type "tuple",dict:=i,data:=.seq e o,slots:=r} /\
    (∀p∈items.toList.zip e.toList,EqW prog w A.in1 s p.1 p.2)/\R (.ok<|.ret (.bool false)) s) :=
 .of_wp λA R s h=>by
  let(a,g,d,tk,os):=s;let(m,j,k,h):=h;have t:=AutoSeq1.sub_tuple_tuple
  wp_walk using AutoSeq1.wpAny_loadPart' m,AutoSeq1.wpAny_loadPart' j,wpAny_forIn_list _ (λrest b s'=>b.1=none/\s'=⟨a,g,d,tk,os⟩/\∀p∈rest,EqW prog w A.in1 ⟨a,g,d,tk,os⟩ p.1 p.2) _
  case turn =>
   rintro⟨y,x⟩ rest b s' ⟨c,rfl,f⟩;show Wb<|f (y,x) FY _ _ ?_
   wp_walk
   show{rfl,rfl,λp a=>f p<|FR _ a}
  case fin =>
   rintro⟨b1,b2⟩ s' ⟨c,rfl,_⟩;simp only at c;subst c
   wp_walk
   show{_,rfl,by simpa [Builtin.Tuple.tupleCompareSizes,hsz]using h}
  case h=>show⟨rfl,rfl,k⟩
section
variable{X:Cx}{pins:List (zi×Obj)}{σ:St}{H:Hp}{s:xg}
theorem tm(c:Inv X pins σ H s){A:qd}{f:List (Key×V)}{a:List (Key×xx)}(g:KV f a)(d:A.units+3<cLine):∀{kvs:List (Key×V)}{vs:List (Key×xx)},KV kvs vs->(∀k v,(k,v)∈kvs->∃u,aX f k=some u/\iP H 3 v u)->KeqHits A s a vs true
 |[],[],_,_=>.nil
 |p::kvs,q::vs,.cons h r,hv=>by
  let(k,v):=p;let(k',w):=q;let(e,n):=h;have i:k=k':=e;subst i;let(u,j,al):=hv k v FY;let(t,l,m):=eF.some_of (v:=u) (o:=valueAt a k) (by rw[<-j];show g.val k);show KeqHits.hit (e:=true) (b:=true) l (kX c 3 n m al d)<|tm c g d r λk v h=>hv k v<|FR _ h
theorem uJ(c:Inv X pins σ H s){A:qd}{x y:V}{u v:xx}(j:aI x u)(k:aI y v)(f:xn H x y)(z:A.units+4<cLine):EqW X.prog X.w A s u v:=by
 rcases f with f|⟨a,b,kvs,B,rfl,rfl,n,o,p,q⟩
 .show λE Q d=>kX c 3 j k f (by lia) _ _ E Q d
 .cases j;cases k;intro E Q d
  by_cases g:a=b
  .subst g;show EqAt.same _ _ _ E Q d
  .let(_,sa,vs,h,l):=c.dK n;let(_,t,C,i,m):=c.dK o;unfold eqBool;show wpAny_holding ?_;show wpAny_ite_split (λe=>absurd (by have:=eq_of_beq e;injection this) g) λ_=>?_;show Wb<|PySem.W.keq_eq (r:=true) sa t l m (by lia) (λ_=>tm c i (by simp[Around.in1_units];lia) h q) (wpAny_truthy_bool ?_);rw[<-h.length,<-i.length,p,Gq];show d
theorem BK(a5:X.A.units+6<cLine):OpR X (compareOp .NotEq) (λx y H Q=>∃a b xs ys,x=.ref a/\y=.ref b/\nA H xs ys/\H a=some (.tup xs)/\H b=some (.tup ys)/\Q (.bl false) H):=by
 intro pins s σ H x y v u Q I U V h;let(a,b,xs,ys,rfl,rfl,C,M,N,q):=h;cases U;cases V;let(_,e,D,Z):=I.hok a _ M;let(_,f,E,a0):=I.hok b _ N;have a4:=C.1;have a6:=D.length;have a7:=E.length;let((cls,dd,a2,W),r,k,n,m):=id Z;let((a1,J,data2,Y),t,l,T,o):=id a0;simp only at k m l o;subst k m l o;have g:s.TypeIs (.ref a) "tuple":=⟨_,r,rfl⟩;have G:s.TypeIs (.ref b) "tuple":=⟨_,t,rfl⟩;change wpAny _ _ (richCompare .NotEq (.ref a)<|.ref b) _ _ _;show wpAny_richCompare_same_room (op:=.NotEq) g G slot_tuple_ne (wpAny_call<|codeAny_call_builtin slot_tuple_ne.plain PySem.F.entry_tuple_ne (slot_tuple_ne.check _ _ _ _ _ _ _ _ g (PySem.F.args_tuple_ne_2 _ _)<|uI (prog:=X.prog) (w:=X.w) a b e.toArray f.toArray n T dd J W Y (by simp only[FO];lia) X.A (wants (λv s'=>v≠.notImplemented/\EP X pins σ Q v s') X.xe) s {r,t,λp P=>?_,?_})) (by lia)
 .let(c,O,K):=GF.mp P;have a3:c<min e.length f.length:=by simpa using O
  have d:c<e.length/\c<f.length:=⟨by lia,by lia⟩;have L:p=(e[c]'d.1,f[c]'d.2):=by rw[<-K];simp
  have i:c<xs.length:=by lia
  have j:c<ys.length:=by lia
  let(a8,z,R):=D.get<|ET i;let(a9,B,S):=E.get<|ET j;rw[ET d.1]at z;rw[ET d.2]at B;rw[L,Option.some.inj z,Option.some.inj B];show uJ I R S (C.2 c _ _ (ET i)<|ET j) (by simp[Around.in1_units];lia)
 .show{(λx=>nomatch x),.bl false,H,I,rfl,q}
end
end L2
namespace TK
open PySem L2
theorem xo{gs:TG}(d:(gs.map (·.1)).Nodup){a b:Str×(zi×ZN)}(f:a∈gs)(g:b∈gs)(e:a.1=b.1):a=b:=by
 induction gs with
 |nil=>cases f
 |cons y r h =>
  rw[Fi,GW]at d;rcases FU.mp f with ea|ea<;>rcases FU.mp g with c|c
  .rw[ea,c]
  .show absurd (by rw[<-ea,e];show EZ.mpr ⟨b,c,rfl⟩) d.1
  .show absurd (by rw[<-c,<-e];show EZ.mpr ⟨a,ea,rfl⟩) d.1
  .show h d.2 ea c
section
variable{P:qw}{w:qn}{K:Frag}{mg:Str->Option xx}{base:qb}
def lI(C:zi):Sp:=λvs H Q _=>∃p ft t d pl al e z gs es c,vs=[.ref p]/\LAt C H p ft t d pl al e z gs es c/\(∀g∈gs,g.1.length<=100/\cQ g.1=true) /\
 ∀u b a H',Same H H'->H' u=some (.tup [.ref t,.ref b])->H' b=some (.dK<|bn a)->(∀g,g∈a↔g∈gs)->a.length=gs.length->(a.map (·.1)).Nodup->Q (.ref u) H'
theorem Dy:FnScope ["_law_ledger"] ["_law_ledger"] (ak fH):=fsc
theorem BL{f C O R N:zi}{U Y Z W:qa}(F:Fun K "_law_all_of" "_law_all_of" fH f U)(b9:Txt mg)(T:LCls K mg C)(b7:Meth K C "now" O)(a9:FnOk P w K mg base CX0 1 O Y ["self"]<|rF C)(c1:aH K Y ["self"] [])(b8:Meth K C "tags" R)(GT:FnOk P w K mg base CX0 1 R Z ["self"]<|eD C)(c2:aH K Z ["self"] [])(b6:Meth K C "tagged" N)(a8:FnOk P w K mg base CX0 2 N W ["self","name"]<|oF C)(c0:aH K W ["self","name"] []):FnOk P w K mg base CX0 3 f U ["_law_ledger"] (lI C):=by
 show F.okA Dy λcdv A outer s H vs Q E a4 h=>?_
 .let(p,ft,t,d,pl,al,L,z,gs,es,x,rfl,c,a2,q):=h;let(dx,I):=c.ob;have a5:Room 1 _:=a4.mono (by decide);show{_,am<|aq (aO<|aa (eR (pv 0) T.cl b7 a9 a5 c1 .nil cK) (aa (aK (dY rfl) rfl b9.dict rfl<|aa (de (fs:=["_law_ledger"]) (cl:=[("_law_ledger",s.heap.objs.size+1)]) (js:=[0]) lcF (dR<|eR (pv 0) T.cl b8 GT a5 c2 .nil cK)
    (λs H fp=>aO<|aa (pv 0) (aa (fg (X:=cx _ _ _ _ _ _ _) (pv 1) T.cl b6 a8 a4 c0 .nil cK<|aa (pv 0) af) af))) af) af)),?_}
  have nm:∀{m:Str},¬(("first_tree":Str)=m)->¬(("tree":Str)=m)->¬(("tag_trees":Str)=m)->¬(("past":Str)=m)->¬(("ahead":Str)=m)->(flL ft t d pl al).lookup m=none:=λc6 h1 h2 h3 c7=>dP c6 h1 h2 h3 c7;have e5:=c.tg.len;show{_,rfl,p,dx,_,rfl,I,nm (by decide +kernel) (by decide +kernel) (by decide +kernel) (by decide +kernel) (by decide +kernel),p,ft,t,d,pl,al,L,z,gs,es,x,rfl,c,?_};show{_,rfl,p,dx,_,rfl,I,nm (by decide +kernel) (by decide +kernel) (by decide +kernel) (by decide +kernel) (by decide +kernel),p,ft,t,d,pl,al,L,z,gs,es,x,rfl,c,λms n _ l d0=>?_};have s1:=ae (o:=.lst<|ms.map V.str) d0;have D:upd H l (.lst<|ms.map V.str) l=some (.lst<|ms.map V.str):=ac;generalize upd H l (.lst<|ms.map V.str)=H1 at s1 D|-;have e6:ms.length=gs.length:=by rw[n.length_eq,ES]
  show{l,rfl,⟨_,SqL.of D⟩,λr d3=>?_};show dZ (fr:=[some<|.ref p]) ms V.str (by lia) d3 (gR<|SqL.of D) rfl (λm y H'=>∃b:zi×(Str×(zi×ZN)),y=.ref b.1/\b.1≠r/\H' b.1=some (.tup [.str b.2.1,.ref b.2.2.1])/\b.2∈gs/\b.2.1=m) (λm y H H' h ex=>?_) (λm H' e7 d7 v d1 c9=>?_) λys H2 v J d6=>?_
  .let(b,e,a6,h1,h2):=h;show{b,e,a6,ex _ _ a6 h1,h2}
  .let(g,k,c4):=EZ.mp<|n.mem_iff.mp d7;have b5:=(c.same s1).same v;have J:=v _ _<|s1 _ _ I;have c5:g.1=m:=c4;subst c5;show{_,rfl,_,rfl,p,dx,_,rfl,J,nm (by decide +kernel) (by decide +kernel) (by decide +kernel) (by decide +kernel) (by decide +kernel),_,rfl,p,ft,t,d,pl,al,L,z,gs,es,x,g,rfl,b5,(a2 g k).1,(a2 g k).2,k,λM j=>?_};show{le2,λd8 a3=>?_};have d2:∃ys,M r=some (.lst ys):=let⟨ys,e⟩:=d1;⟨ys,j _ _ e⟩;show c9 _ _ (j.trans<|ae a3) {(d8,g),rfl,dJ d2 a3,ac,k,rfl}
  .let(bs,e1,e2,e3):=dE (val:=λb:zi×(Str×(zi×ZN))=>V.ref b.1) (S:=λ(m:Str) (b:zi×(Str×(zi×ZN)))=>H2 b.1=some (.tup [.str b.2.1,.ref b.2.2.1])/\b.2∈gs/\b.2.1=m) d6 λm y _ ⟨b,e,_,h1,h2,h3⟩=>⟨b,e,h1,h2,h3⟩;have d9:bs.length=ms.length:=by rw[<-e1,ES]
   have B:bs.map (λb=>b.2.2.1)=ms:=by
    rw[<-e1];show Fq λb a=>(e3 b a).2.2
   have G:ms.Nodup:=n.nodup_iff.mpr c.tg.nd;show{r,bs.map λb=>(b.2.1,((Sum.inr b.2.2.1:Key),V.ref b.2.2.2.1)),rfl,?_,λy d5=>?_,by rw[ES];lia,?_,λi c8=>?_}
   .rw[J,e2,FD,FD];rfl
   .let(b,a,rfl):=EZ.mp d5;show(e3 b a).1
   .rw[FD];have:(bs.map λb=>b.2.2.1).map (Sum.inr:Str->Key)=bs.map ((λz:zi×Key×V=>z.2.1)∘λb=>(b.2.1,((Sum.inr b.2.2.1:Key),V.ref b.2.2.2.1))):=by rw[FD];rfl
    rw[<-this,B];unfold Nodup;rw[Fh];show G.imp λh e=>h (by injection e)
   .have j:=ae (o:=.dK<|(bs.map λb=>(b.2.1,((Sum.inr b.2.2.1:Key),V.ref b.2.2.2.1))).map (·.2)) c8;have a0:upd H2 i (.dK<|(bs.map λb=>(b.2.1,((Sum.inr b.2.2.1:Key),V.ref b.2.2.2.1))).map (·.2)) i=some (.dK<|bn (bs.map λb=>b.2.2)):=by
     rw[ac];unfold bn;rw[FD,FD];rfl
    generalize upd H2 i (.dK<|(bs.map λb=>(b.2.1,((Sum.inr b.2.2.1:Key),V.ref b.2.2.2.1))).map (·.2))=M at j a0|-;show{le2,λu d4=>?_};have a7:=ae (o:=.tup [.ref t,.ref i]) d4;show q u i (bs.map λb=>b.2.2) _ (s1.trans<|v.trans (j.trans a7)) ac (a7 _ _ a0) (λg=>{λh=>?_,λh=>?_}) (by rw[ES];lia) ?_
    .let(b,a,rfl):=EZ.mp h;show(e3 b a).2.1
    .have a1:g.1∈ms:=n.mem_iff.mpr<|EZ.mpr ⟨g,h,rfl⟩;rw[<-B]at a1;let(b,a,c3):=EZ.mp a1;show EZ.mpr {b,a,xo c.tg.nd (e3 b a).2.1 h c3}
    .rw[FD];rw[<-B]at G;show G
end
end TK
namespace L2
open PySem PySem.Spec PyProof.Rows
section
variable{X:Cx}
def gT(zs:List<|zi×Key×V):List (Key×V):=zs.foldl (λm z=>bJ m z.2.1 z.2.2) []
theorem rJ{a:Type}[DecidableEq a](m:List<|a×xx)(k:a)(v:xx):(stored m k v).length<=m.length+1:=by
 unfold stored
 split
 .rw[ES];lia
 .rw[FI];show FH _
theorem eO{b:Type}(k:b->Key)(v:b->xx):∀(l:List b)(m:List<|Key×xx),(l.foldl (λm z=>stored m (k z)<|v z) m).length<=m.length+l.length
 |[],m=>FH _
 |a::l,m=>by
  rw[foldl_cons];have h1:=eO k v l<|stored m (k a) (v a);have h2:=rJ m (k a)<|v a;rw[Fs]
  lia
theorem nB{f:zi×Key×V->xx×xx}:∀{ys:List (zi×Key×V)}{m:List (Key×V)}{n:List (Key×xx)},KV m n->(∀z∈ys,aI z.2.2 (f z).2)->KV (ys.foldl (λm z=>bJ m z.2.1 z.2.2) m) (ys.foldl (λm z=>stored m z.2.1 (f z).2) n)
 |[],m,n,r,_=>r
 |z::ys,m,n,r,h=>by
  rw[foldl_cons,foldl_cons];show nB (r.put z.2.1<|h z FY) λy a=>h y<|FR _ a
theorem rK(B:X.calm=true):ca X (.type "dict") (λxs H Q=>∃l,∃zs:List<|zi×Key×V,xs=[.ref l]/\H l=some (.lst<|(zs.map (·.1)).map V.ref)/\(∀z∈zs,H z.1=some (.tup [kV z.2.1,z.2.2]))/\zs.length<=900/\∀d,H d=none->Q (.ref d) (upd H d<|.dK (gT zs))):=by
 intro pins s σ H xs W Q I r h;let(l,zs,rfl,G,p,y,q):=h;let(u,rfl,N):=cA r;cases N;let(_,T,U,O,t):=I.hok l _ G;have e:=dc O;subst e;let(f,c):=pK I (λz=>kV z.2.1) p;have hsz:(((zs.map (·.1)).map Value.ref).toArray).size=zs.length:=by simp
 show DL.gn (s:=s) (I.ok.hd B) t (λi=>(zs.getD i (0,.inl 0,.non)).1) (λi=>(f<|zs.getD i (0,.inl 0,.non)).1) (λi=>(f<|zs.getD i (0,.inl 0,.non)).2) (λi v M=>mK M) (λi hi=>?_)
  (λi h'=>h'.DictOf (aF X.prog X.w) s.heap.objs.size<|(zs.take i).foldl (λm z=>stored m z.2.1 (f z).2) []) (λh' j _=>?_) (λi g P a p=>?_) (λi s' E Q hi a K=>?_) λh' tk a F=>?_
 .rw[hsz]at hi;show(c _ (cb hi).1).2.2
 .show{_,#[],0,j,⟨rfl,rfl,rfl⟩,rfl,λ_ D=>by simp at D,Pairs.nil,nodup_nil}
 .let(o,es,A,t,r):=a;show{o,es,A,p _ o (FH _) t,r}
 .rw[hsz]at hi;let(J,j):=cb (d:=((0,.inl 0,.non):zi×Key×V)) hi;have b:=eO (λz:zi×Key×V=>z.2.1) (λz=>(f z).2) (zs.take i) [];rw[Fx,length_nil]at b;have R:((zs.take i).foldl (λm z=>stored m z.2.1 (f z).2) ([]:List<|Key×xx)).length<=900:=by lia
  show wpAny_dictSet_pairs (hsz:=by have:=aw (n:=901) (by decide);lia) (k:=(zs.getD i (0,.inl 0,.non)).2.1) (gh (c _ J).1) a λh' C L=>K h' _ (le_succ _) L ?_;rw[cB j,List.foldl_append];show C
 .rw[hsz,Gm]at a;have x:KV (gT zs) (zs.foldl (λm z=>stored m z.2.1 (f z).2) []):=nB .nil λz y=>(c z y).2.1;have b:=eO (λz:zi×Key×V=>z.2.1) (λz=>(f z).2) zs [];rw[length_nil]at b;have S:(gT zs).length<=900:=GS (le_of_eq<|Paired.length x)<|GS b (by lia);show{.ref s.heap.objs.size,_,I.laid (t':=tk) (o:=.dK<|gT zs) F (FH _)<|jj (Fu<|aw (by lia)) (Fl.mpr<|symm (FX I.big)) x a,rfl,q _<|I.hok.fresh (FH _)}
theorem Inv.laids{f:List (zi×Obj)}{g:St}{a H':Hp}{s:xg}{h':qb}{t':Nat}(d:Inv X f g a s)(k:∀b u,s.heap.get? b=some u->h'.get? b=some u)(ext:∀b o,a b=some o->H' b=some o)(new:∀b o,H' b=some o->a b=some o\/(s.heap.objs.size<=b/\bq X.prog X.w H' h' b o)):Inv X f g H' {s with heap:=h',toks:=t'}:=by
 show d.un {λb u q _ _ _=>k b u q,λb u q _ _ _=>⟨u.slots,k b u q⟩,λb u q n _=>?_,λb u q _=>⟨u,k b u q⟩,λb xs q=>ext _ _ q,λb o u q=>ext _ _ q,λb ps q=>{#[],by rw[ext _ _ q];simp}} λb u e=>?_
 .cases i:H' b with
  |none=>rfl
  |some o =>
   rcases new b o i with h|⟨h,_⟩
   .rw[n]at h;cases h
   .show absurd (FW q)<|not_lt.mpr h
 .rcases new b u e with h|⟨_,h⟩
  .show(d.hok b u h).stay (λc v _ q=>k c v q) (λc q=>ext _ _ q) λc xs q=>ext _ _ q
  .show h
def zp(f:TE):TE:=λσ H Q=>f σ H λx H1=>∃d kvs,x=.ref d/\Rd H1 d (.dK kvs)/\∀l (c:List zi) H2,(∀b o,H1 b=some o->H2 b=some o)->H2 l=some (.lst<|c.map V.ref)->c.length=kvs.length->(∀(e:Nat) a p,c[e]?=some a->kvs[e]?=some p->H2 a=some (.tup [kV p.1,p.2]))->Q (.ref l) H2
theorem iy{d:Type}:∀{c:List zi}{bs:List d}{a:zi}{b:d},(c.zip bs).lookup a=some b->∃j:Nat,c[j]?=some a/\bs[j]?=some b
 |[],_,a,b,h=>by cases h
 |_::_,[],a,b,h=>by cases h
 |x::c,y::bs,a,b,h=>by
  rw[zip_cons_cons,Gg]at h
  by_cases e:(a==x)=true
  .rw[e]at h;show{0,by rw[eq_of_beq e];rfl,by cases h;rfl}
  .rw[Bool.not_eq_true]at e;rw[e]at h;let(j,h1,h2):=iy h;show{j+1,h1,h2}
theorem lJ{f:Type}:∀{c:List zi}{bs:List f}{j:Nat}{a:zi}{b:f},c.Pairwise (· < ·)->c[j]?=some a->bs[j]?=some b->(c.zip bs).lookup a=some b
 |[],_,j,a,b,_,h,_=>by cases h
 |_::_,[],j,a,b,_,_,h=>by cases h
 |x::c,y::bs,0,a,b,_,h1,h2=>by
  cases h1;cases h2;rw[zip_cons_cons,Gg,Gq]
 |x::c,y::bs,j+1,a,b,hp,h1,h2=>by
  let(i,p2):=Ga.mp hp;have d:c[j]?=some a:=h1;have g:bs[j]?=some b:=h2;have lt:x<a:=i a<|FP d;have e:(a==x)=false:=Fl.mpr<|Gv lt;rw[zip_cons_cons,Gg,e];show lJ p2 d g
theorem Dz{c:List (Key×V)}{vs:List (Key×xx)}(r:KV c vs){j:Nat}{q:Key×xx}(a:vs[j]?=some q):∃p,c[j]?=some p/\p.1=q.1/\aI p.2 q.2:=by
 induction r generalizing j with
 |nil=>cases a
 |cons b _ d =>
  cases j with
  |zero=>cases a;show{_,rfl,b.1,b.2}
  |succ j=>show d a
theorem nC:∀b:List zi,aA (b.map V.ref) (b.map Value.ref)
 |[]=>.nil
 |a::b=>.cons rfl<|nC b
theorem DA{P:qw}{w:qn}{k:Key}{u:xx}(b:(aF P w).is k u=true):aI (kV k) u:=by
 rcases aP b with⟨i,t,e4,a⟩|⟨y,t,e4,a⟩
 .rw[e4,a];show{_,rfl}
 .rw[e4,a];show{_,rfl}
theorem oG{e:Expr}{K:TE}{c4 m n c2:Pos}(U:X.calm=true)(a0:Gl X "list")(a6:X.mg "list"=none)(Z:PE X e K)(J:starEach [.Call (.Attribute e "items" m) [] [] n] X.env=[(false,eval (.Call (.Attribute e "items" m) [] [] n) X.env)]:=by rfl)(T:attributeBase e "items" X.env (eval e X.env)=eval e X.env:=by rfl)(a5:(m.endLine==n.line)=true:=by rfl):
  PE X (.Call (.Name "list" c4) [.Call (.Attribute e "items" m) [] [] n] [] c2) (zp K):=by
 intro pins s σ H Q I h;show wpAny_Call_Name_kw<|jc I a0 a6 boot_list ?_ (by decide) (by decide);show Gf ?_ J rfl;rw[J];show spliced_cons ?_;show wpAny_Call_method0_late T a5<|thn (Z pins s σ H _ I h) λv s1 a9=>?_;let(x,H1,t,c5,c3):=a9;let(d,kvs,rfl,Y,q):=c3;cases c5;let(G,b5,vs,y,dd):=t.dK Y;let(c7,N):=dd.dictAt;have C:s1.TypeIs (.ref d) "dict":=dd.typeIs;show{"dict","dict.items",plainAttrs_dict,slot_dict_items,PySem.F.type_dict_items,C,?_,callWith_builtin rfl<|PySem.evalArgs_none ?_}
 .let(o,es,c8,O,ex,_):=dd;intro a ea;cases ea;show⟨o,O,ex.2.1⟩
 .change wpAny _ _ (call (.builtin "dict.items") [.ref d]) _ _ _;have key:∀(Q:xx->xg->Prop)(E:xx->xg->Prop),Q (.ref s1.heap.objs.size) {s1 with heap:=s1.heap.push {cls:=.type "dict_items",data:=.fields #[.ref d]}}->wpAny (model X.prog X.w) X.A (call (.builtin "dict.items") [.ref d]) Q E s1:=λQ E g =>
   wpAny_call (codeAny_call_builtin slot_dict_items.plain PySem.F.entry_dict_items<|slot_dict_items.check _ _ _ _ _ _ _ _ C (PySem.F.args_dict_items_1 _) (meets_dict_items (aF X.prog X.w) d b5 X.A (wants Q E) s1 ⟨⟨vs,dd⟩,g⟩))
  show key _ _<|spliced_nil ?_;have b8:(s1.heap.push {cls:=.type "dict_items",data:=.fields #[.ref d]}).IsItemsView s1.heap.objs.size d:={_,FG _ rfl,rfl,rfl};show PySem.W.kdx_call (s:={s1 with heap:=s1.heap.push {cls:=.type "dict_items",data:=.fields #[.ref d]}}) (I.ok.hd U) b8 (N.push _) (by rw[<-y.length];show G) λh' tk M c f a1 B a3 r S=>?_;have b6:(s1.heap.push {cls:=.type "dict_items",data:=.fields #[.ref d]}).objs.size=s1.heap.objs.size+1:=size_push' ..;rw[b6]at B r|-;have k0:∀b o,s1.heap.get? b=some o->h'.get? b=some o:=λb o e=>a1 b o<|EU _ e;have D:f.length=kvs.length:=by rw[a3,y.length]
  let H2:Hp:=λb=>if b=s1.heap.objs.size+1 then some (.lst<|f.map V.ref)else match (f.zip<|kvs.map λp=>[kV p.1,p.2]).lookup b with|some xs=>some (.tup xs)|none=>H1 b
  have u:∀{b:zi}{xs:List V},(f.zip<|kvs.map λp=>[kV p.1,p.2]).lookup b=some xs->s1.heap.objs.size+1<b:=λ{b xs} i=>by
   let(l,h1,_):=iy i;show r.above b<|FP h1
  have a4:H2 (s1.heap.objs.size+1)=some (.lst<|f.map V.ref):=EW rfl;have b7:∀(l:Nat) a p,f[l]?=some a->kvs[l]?=some p->H2 a=some (.tup [kV p.1,p.2]):=λl a p h1 h2=>by
   have e1:=lJ (bs:=kvs.map λp=>[kV p.1,p.2]) r.rise h1 (by rw[FE,h2];rfl);have c1:a≠s1.heap.objs.size+1:=Gv<|u e1;change(if a=s1.heap.objs.size+1 then _ else _)=_;rw[EV c1,e1]
  have ext:∀b o,H1 b=some o->H2 b=some o:=λb o i=>by
   have lt:b<s1.heap.objs.size:=by
    rcases lt_or_ge b s1.heap.objs.size with h|h
    .show h
    .rw[t.hok.fresh h]at i;cases i
   change(if b=s1.heap.objs.size+1 then _ else _)=_;rw[EV (by intro z;rw[z]at lt;show absurd lt<|not_lt.mpr (le_succ _))];cases g:(f.zip<|kvs.map λp=>[kV p.1,p.2]).lookup b with
   |none=>show i
   |some xs=>show absurd (lt_trans (lt_succ_self _)<|u g)<|Nat.lt_asymm lt
  have L:Inv X pins σ H2 {s1 with heap:=h',toks:=tk}:=t.laids k0 ext λb o i=>by
   have j:(if b=s1.heap.objs.size+1 then some (HO.lst<|f.map V.ref)else match (f.zip<|kvs.map λp=>[kV p.1,p.2]).lookup b with|some xs=>some (.tup xs)|none=>H1 b)=some o:=i
   by_cases e:b=s1.heap.objs.size+1
   .rw[EW e]at j;cases j;subst e;show .inr {le_succ _,?_,M.toList,c,?_,by simpa using B}
    .rw[ES,D];show G
    .rw[S];show nC f
   .rw[EV e]at j;cases g:(f.zip<|kvs.map λp=>[kV p.1,p.2]).lookup b with
    |none=>rw[g]at j;show .inl j
    |some xs =>
     rw[g]at j;cases j;show .inr {Fu<|lt_trans (lt_succ_self _) (u g),?_};let(l,h1,h2):=iy g;let(c0,k,x,b9,a2,a7):=r.pairs l b h1;let(p,a8,P,c6):=Dz y b9;rw[FE,a8]at h2;cases h2;show{Fu<|aw (show 2<=1000 by decide),[c0,x],.cons ?_<|.cons c6 .nil,⟨_,a7,rfl,_,rfl⟩};have R:p.1=k:=P;rw[R];show DA a2
  show{.ref<|s1.heap.objs.size+1,H2,L,rfl,q _ f H2 ext a4 D b7}
end
end L2
namespace TK
open PySem L2
section
variable{P:qw}{w:qn}{K:Frag}{mg:Str->Option xx}{base:qb}
def rL:Sp:=λvs H Q _=>∃t zs,vs=[.ref t]/\Tre H t zs/\∀d a H',Same H H'->H d=none->Book H' d a zs->H' d=some (.dK<|aW a)->Q (.ref d) H'
theorem BM:FnScope ["_law_tree_here"] ["_law_tree_here"] (ak wN):=fsc
theorem zq{f:zi}{G:qa}(F:Fun K "_law_book" "_law_book" wN f G)(T:Txt mg):FnOk P w K mg base CX0 1 f G ["_law_tree_here"] rL:=by
 show F.okA BM λcdv A outer s H vs Q E e7 h=>?_
 .let(t,zs,rfl,v,k):=h;have L:=bO v.tr;have n:=v.len;have u:=v.tup;have b7:=v.nod;show{_,am<|aq (aK (dY rfl) rfl T.dict boot_dict<|aa (de lcS (cV<|pv 0)
   (λs H fp=>aO<|aa (ixT K (pv 0) ai) (aa (dq (r:=vt K) gg (pv 0) (cH ai) iE) af))) af),?_}
  show{_,rfl,t,rfl,⟨_,SqT.of u⟩,λp c1=>?_};show qY (fr:=[]) zs.length (by lia) c1 rfl (λi y H'=>∃q g z,zs[i]?=some z/\y=.ref q/\q≠p/\g≠p/\H' q=some (.tup [.int z.2.num,.ref g])/\H' g=some (.tup<|aL z.2)) (λi y H1 H2 h ex=>?_) (λi H' hi s1=>?_) (λH' s1=>?_) ?_ (λi H' x H2 hi s1 N C=>?_) λys H' s1 M c0 c4=>?_
  .let(q,g,z,e1,e2,e3,e4,a5,a6):=h;show{q,g,z,e1,e2,e3,e4,ex q _ e3 a5,ex g _ e4 a6}
  .show{_,_,SqT.of<|s1 _ _ u,dL<|ET hi}
  .show{_,SqT.of<|s1 _ _ u,by rw[ba];show FH _}
  .rintro _ _ _ _ m ⟨d5,b1,d3,xs,c7,d6,X,Y,Z,a0,d7,b3,c8,a1,W,d8,a2,a3,a4,q⟩;show{d5,b1,d3,xs,c7,d6,X,Y,Z,a0,d7,b3,c8,a1,W,d8,a2,a3,a4,λl n=>?_};let(c6,d4):=q l n;show{c6,λd0 b9=>m _ _<|d4 d0 b9}
  .let(rfl,c3):=C;let(z,I,rfl):=ce<|c3 _ (SqT.of<|s1 _ _ u);have d2:=FP I;have R:=s1 _ _<|b7 z d2;have a7:gf (vals z.2) (some 1) none=aL z.2:=rfl;show{rfl,_,rfl,z.1,_,_,_,rfl,rfl,SqT.of R,at0 z.2,_,rfl,_,rfl,z.1,_,rfl,SqT.of R,(by intro h;show absurd h.1 (show ¬HT.sIx 4 0 (some 1)=0 by decide)),λg O=>?_};rw[a7];have S:=ae (o:=.tup<|aL z.2) O;have c2:∃ys,upd H2 g (.tup<|aL z.2) p=some (.lst ys):=let⟨ys,e⟩:=N;⟨ys,S _ _ e⟩;show{le2,λq B=>{S.trans<|ae B,q,g,z,I,rfl,dJ c2 B,dJ N O,ac,aN B ac}}
  .obtain⟨c,e1,e2,e3⟩:∃c:List<|(zi×zi)×(zi×Nd),c.map (·.2)=zs/\ys=(c.map (·.1.1)).map V.ref/\∀a∈c,H' a.1.1=some (.tup [.int a.2.2.num,.ref a.1.2])/\H' a.1.2=some (.tup<|aL a.2.2):=by
    clear M;have d1:∀(ys:List V)(xs:ZN),ys.length=xs.length->(∀(i:Nat) y,ys[i]?=some y->∃q g z,xs[i]?=some z/\y=.ref q/\q≠p/\g≠p/\H' q=some (.tup [.int z.2.num,.ref g])/\H' g=some (.tup<|aL z.2)) ->
      ∃c:List<|(zi×zi)×(zi×Nd),c.map (·.2)=xs/\ys=(c.map (·.1.1)).map V.ref/\∀a∈c,H' a.1.1=some (.tup [.int a.2.2.num,.ref a.1.2])/\H' a.1.2=some (.tup<|aL a.2.2):=by
     intro ys
     induction ys with
     |nil =>
      intro xs n _;have:xs=[]:=GY.mp n.symm;subst this;show{[],rfl,rfl,by simp}
     |cons y ys c9 =>
      intro xs n h;cases xs with
      |nil=>simp at n
      |cons x xs =>
       let(c,e1,e2,e3):=c9 xs (by simpa using n) λi y C=>by simpa using h (i+1) y (by simpa using C)
       let(q,g,z,a8,a9,d9,e5,b5,b6):=h 0 y rfl;have:x=z:=by simpa using a8
       subst this;show{((q,g),x)::c,by simp[e1],by simp[e2,a9],λa j=>?_};rcases FU.mp j with rfl|j
       .show⟨b5,b6⟩
       .show e3 a j
    show d1 ys zs c0 c4
   have e6:c.length=zs.length:=by rw[<-e1,ES]
   show{p,c.map λa=>(a.1.1,(Sum.inl a.2.2.num:Key),V.ref a.1.2),rfl,?_,?_,?_,?_,λd J=>?_}
   .rw[M,e2,FD,FD,FD];rfl
   .intro z c5;let(a,j,rfl):=EZ.mp c5;show(e3 a j).1
   .rw[ES];lia
   .rw[FD];have:(c.map<|(λx:zi×Key×V=>x.2.1)∘λa=>(a.1.1,(Sum.inl a.2.2.num:Key),V.ref a.1.2))=((nds zs).map (·.num)).map (Sum.inl:Int->Key):=by
     rw[<-e1];unfold nds;simp only[FD];rfl
    rw[this];unfold Nodup at L|-;rw[Fh];show L.imp λh e=>h (by injection e)
   .have U:=ae (o:=.dK<|(c.map λa=>(a.1.1,(Sum.inl a.2.2.num:Key),V.ref a.1.2)).map (·.2)) J;have D:upd H' d (.dK<|(c.map λa=>(a.1.1,(Sum.inl a.2.2.num:Key),V.ref a.1.2)).map (·.2)) d=some (.dK<|aW (c.map λa=>(a.1.2,a.2))):=by
     rw[ac];show congrArg (λx=>some<|HO.dK x) ?_;unfold aW;simp only[FD];rfl
    show k d (c.map λa=>(a.1.2,a.2)) _ (s1.trans U) (s1.free J) {.inl D,by rw[FD];show e1,λa j=>?_} D;let(b,b8,rfl):=EZ.mp j;show U _ _ (e3 b b8).2
def lK:Sp:=λvs H Q _=>∃d k g a zs p,vs=[.ref d,.int k,.int g]/\Book H d a zs/\TW.Tree1 (nds zs)/\TW.PathTo (nds zs) k p/\1<=g/\∀b,(b=true↔TW.Und (nds zs) g k)->Q (.bl b) H
theorem Aa:FnScope ["_law_book_here","_law_number","_law_goal"] ["_law_book_here","_law_number","_law_goal"] (ak ri):=fsc
theorem BN{f:zi}{r:qa}(F:Fun K "_law_under" "_law_under" ri f r):FnOk P w K mg base CX0 1 f r ["_law_book_here","_law_number","_law_goal"] lK:=by
 show F.okA Aa λcdv A outer s H vs Q E S h=>?_
 .let(d,k,g,a0,zs,p,rfl,G,j,R,a1,q):=h;have O:=bO j;show{_,ag (oR PassesOwn.never (PW.pt<|pw_and (au dS (pv 1) ai<|av _) (pw_and1<|au dS (pv 1) (pv 2) (av _)))
    (am<|aD (i:=1) Aa.nd rfl (Or.inl rfl) (ixT K (cz (bp S) (pv 0) (pv 1) λ_ _=>rfl) ai)))
   (am<|aq (dU cu (pv 1) (pv 2)<|av _)),?_}
  show oT (λσ H'=>∃a o,σ=[some<|.ref d,some<|.int a,some<|.int g]/\TW.PathTo (nds zs) a o/\(TW.Und (nds zs) g k↔TW.Und (nds zs) g a)/\H'=H)
   (λσ H'=>match σ with | [_,some<|.int k,_]=>wB (nds zs) k | _=>0) ⟨k,p,rfl,R,Iff.rfl,rfl⟩ (λσ H' h=>?_) ?_
  .let(a,o,rfl,t,x,rfl):=h;have B:∀b:Bool,(b=true↔TW.Und (nds zs) g a)->Q (.bl b) H':=λb L=>q b<|L.trans x.symm;show{_,rfl,rfl,_,rfl,?_}
   by_cases l:a=0
   .have c:decide (V.int a=V.int 0)=true:=by simp[l]
    rw[c];show aC<|aC {_,rfl,_,rfl,rfl,B _ ?_};rw[FJ];constructor
    .intro e;injection e with e;lia
    .intro T;have:=T.zero j l;lia
   .have c:decide (V.int a=V.int 0)=false:=by simp[l]
    rw[c];show aV {_,rfl,_,rfl,rfl,_,rfl,?_}
    by_cases n:a=g
    .have c:decide (V.int a=V.int g)=true:=by simp[n]
     rw[c];show aC {_,rfl,_,rfl,rfl,B _ ?_};rw[c];constructor
     .intro _;rw[n];show .here
     .intro _;rfl
    .have c:decide (V.int a=V.int g)=false:=by simp[n]
     rw[c];show aV ?_;let(z,y,e1,U,e2,u):=yN j t l;subst e1;let(b,M,N):=G.get O y;show{_,rfl,_,rfl,d,_,rfl,M,b,_,_,_,rfl,rfl,SqT.of N,Eo z.2,?_};have C:z.2∈nds zs:=EZ.mpr ⟨z,y,rfl⟩;show{{z.2.par,U,rfl,u,x.trans {λh=>h.inv j C rfl n,λh=>.up C h},rfl},?_};change wB (nds zs) z.2.par<wB (nds zs) z.2.num;rw[sS j u,sS j t,e2];simp
  .rintro σ H1 Y Z m ⟨v,e,h2,b,e3,q⟩;show{v,e,h2,b,e3,?_};cases b with
   |false=>show m _ _ q
   |true =>
    let(W,I,X,J,h3,D,e4,o):=q;show{W,I,X,J,h3,D,e4,m _ _ o}
end
def ldS(i:Nat):Stmt:=(bg dz).getD i (.Pass ⟨0,0,0,0⟩)
def DN:List Str:=["_law_tree_here","_law_deed_here","_law_book_here","_law_number","_law_parent"]
theorem jY:FnScope DN ["_law_tree_here","_law_deed_here"] (ak dz):=fsc
abbrev DX(P:qw)(w:qn)(K:Frag)(mg:Str->Option xx)(base:qb)(f:zi)(cdv:xx)(A:qd)(outer:List Env)(s:xg)(H:Hp)(E:XK):Cx:=(fY CX0 P w K mg base DN "_law_done" (ak dz) f cdv A outer s H E).nox
section
variable{P:qw}{w:qn}{K:Frag}{mg:Str->Option xx}{base:qb}{f:zi}{cdv:xx}{A:qd}{outer:List Env}{s:xg}{H0:Hp}{E:XK}
theorem BO(T:Txt mg)(Z:Room 1<|A.deeper (PyProof.Rows.envOfC "_law_done" (ak dz) s.heap.objs.size f cdv)):
  ∃t,PS (DX P w K mg base f cdv A outer s H0 E) (ldS 6) t/\∀(j:Ends)(H:Hp)(σ:St)(I J L M:Option V)(d:zi)(bs:List<|zi×Nd),σ=[I,J,some<|.ref d,L,M]->H d=some (.dK<|bU bs)->(∀b∈bs,H b.1=some (.tup<|aL b.2))->(bs.map (·.2.num)).Nodup->bs.length<=60 ->
   (∀o us t' H',Same (upd H d<|.frz o (.dK<|bU bs)) H'->H' t'=some (.tup<|aZ us)->At H' us->(nds us).Perm (bs.map (·.2))->TW.bK (nds us)->j.rt (.ref t') H')->t j σ H:=by
 show{_,aq<|aK br rfl T.tuple rfl (aa (ar cM rfl T.sorted boot_sorted<|aa (de (fs:=["_law_book_here"]) (cl:=[("_law_book_here",s.heap.objs.size+1)]) (js:=[2]) lcF (zX<|pv 2)
    (λs H fp=>aE (r:=vw K) iF (aO<|aa (pv 0) af)<|cz (bp Z) (pv 1) (pv 0) (λ_ _=>rfl))) af) af),?_}
 rintro j H _ I J L M d bs rfl v n B a6 q;show{_,rfl,d,_,rfl,v,λo p C=>?_};have u:∀b∈bs,upd H d (.frz o<|.dK (bU bs)) b.1=some (.tup<|aL b.2):=λb i=>by
  rw[aj]
  .show n b i
  .intro e;have:=n b i;rw[e,v]at this;cases this
 have l:upd H d (.frz o<|.dK (bU bs)) d=some (.frz o<|.dK (bU bs)):=ac;have G:∀us t' H',Same (upd H d<|.frz o (.dK<|bU bs)) H'->H' t'=some (.tup<|aZ us)->At H' us->(nds us).Perm (bs.map (·.2))->TW.bK (nds us)->j.rt (.ref t') H':=q o;generalize upd H d (.frz o<|.dK (bU bs))=H1 at u l G C|-;rw[lh];show dZ (fr:=[some<|.ref d]) bs (λb=>V.int b.2.num) (by lia) C (kY l) rfl (λb y H'=>∃q,y=.ref q/\q≠p/\H' q=some (.tup<|vals b.2)) (λb y H H' ⟨q,e,F,h⟩ ex=>⟨q,e,F,ex q _ F h⟩) (λb H' k i s1 W R=>?_) λys H' s1 U a3=>?_
 .show{_,rfl,(show 1<=sizeLine from ao (by decide)),λc Q=>?_};have a:=ae (o:=.tup [.int b.2.num]) Q;show{_,rfl,_,rfl,d,_,rfl,.inl {bU bs,Sum.inl b.2.num,.inr {o,a _ _<|s1 _ _ l},rfl,(nc B i).symm},c,b.1,_,_,rfl,rfl,SqT.of ac,SqT.of<|a _ _ (s1 _ _<|u b i),by simp,(show 4<=sizeLine from ao (by decide)),λh=>absurd h<|cons_ne_nil _ _,λ_ q D=>?_};have X:∃ys,upd H' c (.tup [.int b.2.num]) p=some (.lst ys):=let⟨ys,e⟩:=W;⟨ys,a _ _ e⟩;show R _ _ (a.trans<|ae D) ⟨q,rfl,dJ X D,ac⟩
 .let(g,e1,e2,e3):=dE (val:=V.ref) (S:=λ(b:zi×Nd) (q:zi)=>H' q=some (.tup<|vals b.2)) a3 λb y _ ⟨q,e,_,h⟩=>⟨q,e,h⟩;have N:ys=aZ (g.map λx=>(x.2,x.1.2)):=by rw[e2,<-cf,FD];rfl
  have m:nds (g.map λx=>(x.2,x.1.2))=bs.map (·.2):=by rw[<-e1];unfold nds;rw[FD,FD];rfl
  have a5:g.length=bs.length:=by rw[<-e1,ES]
  show jG (zs:=g.map λx=>(x.2,x.1.2)) (.inl<|SqL.of (by rw[U,N])) (λz a4=>?_) ?_ (by rw[ES];lia) λus t' H2 a a1 O Y a0=>?_
  .let(x,a2,rfl):=EZ.mp a4;show e3 x a2
  .rw[m,FD];show B
  .show G us t' H2 (s1.trans a) a1 O ?_ a0;have:(nds us).Perm (nds<|g.map λx=>(x.2,x.1.2)):=Y.map _;rw[m]at this;show this
theorem zr(T:Txt mg)(U:Room 1<|A.deeper (PyProof.Rows.envOfC "_law_done" (ak dz) s.heap.objs.size f cdv))(F:Has P w K mg base 1 "_law_under" ["_law_book_here","_law_number","_law_goal"] lK):
  ∃t,PS (DX P w K mg base f cdv A outer s H0 E) (ldS 4) t/\∀(j:Ends)(H:Hp)(σ:St)(a c d:zi)(dd:TW.Deed Str)(n:Int)(u:List<|zi×(zi×Nd))(zs:ZN),σ=[some<|.ref a,some<|.ref c,some<|.ref d,some<|.int n,none]->Tre H a zs->H c=some (.tup<|aQ dd)->Book H d u zs->1<=n ->
   ((∃k,dd=.drop k)->∀us t' H' (g:Nd->Bool),Same H H'->H' t'=some (.tup<|aZ us)->At H' us->nds us=(nds zs).filter g->(∀m∈nds zs,g m=true↔¬TW.Und (nds zs) n m.num)->j.rt (.ref t') H')->((¬∃k,dd=.drop k)->j.nx σ H)->t j σ H:=by
 show{_,aS (au cu (ixT K (pv 1) ai) ay<|av _) (am<|aq (aK br rfl T.tuple rfl<|aa (gS (fs:=["_law_book_here","_law_number"]) (cl:=[("_law_number",s.heap.objs.size+2),("_law_book_here",s.heap.objs.size+1)]) (js:=[2,3]) lcF (cV<|pv 0)
    (λs H fp=>cU<|cE (bu (X:=cx _ _ _ _ _ _ _) F U<|aa (pv 1) (aa (ixT K (pv 0) ai)<|aa (pv 2) af)) (λ_=>rfl)) (λs H fp=>pv 0)) af)) ax,?_}
 rintro j H _ a c d dd n u zs rfl i L G O a0 B;have C:=i.tr;have a1:=i.len;have r:SqT K H c (aQ dd):=SqT.of L;cases dd with
 |make q p nm st=>show{_,rfl,c,_,_,_,rfl,rfl,r,rfl,rfl,_,rfl,aC (B λ⟨k,e⟩=>by cases e)}
 |write q st=>show{_,rfl,c,_,_,_,rfl,rfl,r,rfl,rfl,_,rfl,aC (B λ⟨k,e⟩=>by cases e)}
 |move q p nm=>show{_,rfl,c,_,_,_,rfl,rfl,r,rfl,rfl,_,rfl,aC (B λ⟨k,e⟩=>by cases e)}
 |drop q =>
  show{_,rfl,c,_,_,_,rfl,rfl,r,rfl,rfl,_,rfl,aV ?_};show{_,rfl,a,rfl,⟨_,SqT.of i.tup⟩,λp Q=>?_}
  classical
  show jt (fr:=[some<|.ref d,some<|.int n]) zs (λz=>V.ref z.1) (by lia) Q (gQ (by rw[cf];show SqT.of i.tup)) rfl (λz=>!decide (TW.Und (nds zs) n z.2.num)) (λz y _=>y=.ref z.1) (λz y H H' h _=>h) (λz H' k x s1 _ v=>?_) (λz H' k x _ s1 _ v=>{_,rfl,v _ H' (Same.refl _) rfl}) λys H' s1 R Y=>?_
  .let(Z,S):=TW.PathTo.ex C<|bQ x;show{_,rfl,_,rfl,z.1,_,_,_,rfl,rfl,SqT.of<|s1 _ _ (i.nod z x),at0 z.2,_,rfl,d,z.2.num,n,u,zs,Z,rfl,G.same s1,C,S,O,λb J=>{b,rfl,?_}};have:b=decide (TW.Und (nds zs) n z.2.num):=by rw[Fp,J,FJ]
   rw[this];show v H'<|Same.refl _
  .have I:=cn (f:=λz:zi×Nd=>V.ref z.1) Y λz y _ h=>h;show{p,_,rfl,.inl {SqL.of R,λl N=>?_}};have D:=s1.trans<|ae (o:=.tup ys) N;show a0 ⟨q,rfl⟩ (zs.filter λz=>!decide (TW.Und (nds zs) n z.2.num)) l _ (λm=>!decide (TW.Und (nds zs) n m.num)) D (by rw[ac,I,cf]) (λy W=>D _ _<|i.nod y (Fw.mp W).1) ?_ λm _=>?_
   .have M:∀g:Nd->Bool,nds (zs.filter λz=>g z.2)=(nds zs).filter g:=λg=>by
     unfold nds;rw[filter_map];rfl
    show M λm=>!decide (TW.Und (nds zs) n m.num)
   .rw[Bool.not_eq_true',decide_eq_false_iff_not]
end
def Ab:List Stmt:=match ldS 5 with
 |.If _ _ b _=>b
 |_=>[]
def elS(i:Nat):Stmt:=Ab.getD i<|.Pass ⟨0,0,0,0⟩
structure LD(H0 H:Hp)(a c d:zi)(dd:TW.Deed Str)(as:List<|zi×(zi×Nd))(zs:ZN):Prop where
 s0:Same H0 H
 d0:H0 d=none
 tre:Tre H a zs
 deed:H c=some (.tup<|aQ dd)
 book:Book H d as zs
theorem LD.same{H0 e H':Hp}{a c d:zi}{dd:TW.Deed Str}{f:List (zi×(zi×Nd))}{zs:ZN}(b:LD H0 e a c d dd f zs)(s:Same e H'):LD H0 H' a c d dd f zs :=
 ⟨b.s0.trans s,b.d0,b.tre.same s,s _ _ b.deed,b.book.same s⟩
theorem xp{b:Hp}{a d:zi}{xs:List V}{f:List (Key×V)}(c:b a=some (.tup xs))(hd:Rd b d<|.dK f):a≠d:=λe=>by
 rcases hd with hd|⟨o,hd⟩<;>rw[e,hd]at c<;>cases c
theorem LD.turn{H0 f:Hp}{a c d:zi}{dd:TW.Deed Str}{h:List (zi×(zi×Nd))}{zs:ZN}(e:LD H0 f a c d dd h zs){u:HO}(k:Rd (upd f d u) d<|.dK (aW h)):LD H0 (upd f d u) a c d dd h zs:=by
 have g:∀{b:zi}{xs:List V},f b=some (.tup xs)->upd f d u b=some (.tup xs):=λi=>by rw[aj<|xp i e.book.dict];show i
 show{aJ e.d0 e.s0,e.d0,{g e.tre.tup,λz l=>g<|e.tre.nod z l,e.tre.tr,e.tre.len},g e.deed,{k,e.book.of,λa j=>g<|e.book.at' a j}}
section
variable{P:qw}{w:qn}{K:Frag}{mg:Str->Option xx}{base:qb}{f:zi}{cdv:xx}{A:qd}{outer:List Env}{s:xg}{H0:Hp}{E:XK}
theorem BP(a0:Room 1<|A.deeper (PyProof.Rows.envOfC "_law_done" (ak dz) s.heap.objs.size f cdv)):
  ∃t,PS (DX P w K mg base f cdv A outer s H0 E) (elS 5) t/\∀(C:Ends)(H:Hp)(a c d:zi)(dd:TW.Deed Str)(n p:Int)(nm:Str)(j:List<|zi×(zi×Nd))(zs:ZN)(G:Option V)(o:Obj),LD H0 H a c d dd j zs->H d=some (.frz o<|.dK (aW j))->li (nds zs) dd n p nm->TW.io (nds zs) p->NotIn (nds zs) dd n p->(∀m∈nds zs,m.num≠n->¬(m.par=p/\m.nm=nm)) ->
   (∀bs H',Same H0 H'->H' d=some (.dK<|bU bs)->(∀b∈bs,H' b.1=some (.tup<|aL b.2))->(bs.map (·.2.num)).Nodup->bs.length<=zs.length+1->(∀us,us.Perm (bs.map (·.2))->TW.bK us->TW.Told (nds zs) dd (.inr us))->C.nx [some<|.ref a,some<|.ref c,some<|.ref d,some<|.int n,G] H') ->
   t C [some<|.ref a,some<|.ref c,some<|.ref d,some<|.int n,G] H:=by
 show{_,yE<|iG (bp a0) (pv 2) (pv 3) (aE iF (dq gg (pv 1) (cH ai)<|cH ai)<|aO (aa (iB (au cu (ixT K (pv 1) ai) ay<|av _) (ixT K (pv 1) ai)<|ixT K (cz (bp a0) (pv 2) (pv 3) λ_ _=>rfl) ai) af)) rfl,?_};intro C H a c d dd n p nm j zs G o Q a4 a6 T hi X a7;show{d,o,aW j,Q.d0,a4,?_};have i:=Q.turn (u:=.dK<|aW j)<|.inl ac;have D:upd H d (.dK<|aW j) d=some (.dK<|aW j):=ac;generalize upd H d (.dK<|aW j)=H1 at i D|-;have U:=i.tre.tr;have Z:=bO U;have a8:=i.tre.len;have S:∀(st:Option Int)(q:zi)(H2:Hp),Same H1 H2->H2 q=some (.tup<|aL ⟨n,p,nm,st⟩)->(∀us,(TW.cy (nds zs) n->us=(nds zs).map (TW.put ⟨n,p,nm,st⟩)->TW.Told (nds zs) dd (.inr us))/\(¬TW.cy (nds zs) n->us.Perm (⟨n,p,nm,st⟩::nds zs)->TW.bK us->TW.Told (nds zs) dd (.inr us))) ->
   C.nx [some<|.ref a,some<|.ref c,some<|.ref d,some<|.int n,G] (upd H2 d<|.dK (bJ (aW j) (Sum.inl n:Key)<|.ref q)):=by
  intro st q H2 g v a1;have I:=i.same g;let(bs,e1,e2,e3,e4,a2):=pS (new:=⟨n,p,nm,st⟩) (g _ _ D) I.book.of I.book.at' v Z;show a7 bs _ (aJ i.d0 I.s0) e1 e2 e3 e4 λus l F=>?_;rcases a2 with⟨h1,h2⟩|⟨h1,h2⟩
  .rw[h2]at l;show(a1 us).1 h1 (TW.la F (TW.iR U.rise) l)
  .rw[h2]at l;show(a1 us).2 h1 (l.trans List.perm_append_comm) F
 have B:∀{H2:Hp},Same H1 H2->SqT K H2 c (aQ dd):=λg=>SqT.of<|g _ _ i.deed;rcases a6 with⟨st,rfl,J⟩|⟨rfl,Y⟩
 .show{_,rfl,_,rfl,_,rfl,c,_,rfl,B<|Same.refl _,(λh=>absurd h.1 (show ¬HT.sIx 5 0 (some 2)=0 by decide)),λN L=>?_};have g:=ae (o:=.tup<|gf (aQ<|.make n p nm st) (some 2) (some 4)) L;show{_,rfl,c,_,_,_,rfl,rfl,B g,rfl,rfl,_,rfl,aV {_,rfl,c,_,_,_,rfl,rfl,B g,rfl,(show 1<=sizeLine from ao (by decide)),λO x=>?_}};have M:=g.trans<|ae (o:=.tup [stV st]) x;show{N,O,[.int p,.str nm],[stV st],rfl,rfl,SqT.of<|aN x ac,SqT.of ac,by simp,(show 3<=sizeLine from ao (by decide)),λh=>absurd h<|cons_ne_nil _ _,λ_ q v=>?_};have y:=M.trans<|ae (o:=.tup<|[.int p,.str nm]++[stV st]) v;show{_,rfl,_,rfl,d,_,rfl,lT.k (k:=Sum.inl n) (y _ _ D)<|aw ?_,S st q _ y ac λus=>{λh _=>absurd h J,λ_ l F=>.made J T (λm r h=>X m r (λe=>J ⟨m,r,e⟩) h) l F}};have:=congrArg length i.book.of;unfold aW;rw[ES]at this|-
  lia
 .show{_,rfl,_,rfl,_,rfl,c,_,rfl,B<|Same.refl _,(λh=>absurd h.1 (show ¬HT.sIx 4 0 (some 2)=0 by decide)),λN L=>?_};have g:=ae (o:=.tup<|gf (aQ<|.move n p nm) (some 2) (some 4)) L;let(m,r,R):=id Y;let(z,a5,rfl):=gv r;let(b,W,a3):=(i.same g).book.get Z a5;rw[R]at W;show{_,rfl,c,_,_,_,rfl,rfl,B g,rfl,rfl,_,rfl,aC {_,rfl,_,rfl,d,_,rfl,W,b,_,_,_,rfl,rfl,SqT.of a3,AX z.2,(show 1<=sizeLine from ao (by decide)),λO x=>?_}};have M:=g.trans<|ae (o:=.tup [stV z.2.st]) x;show{N,O,[.int p,.str nm],[stV z.2.st],rfl,rfl,SqT.of<|aN x ac,SqT.of ac,by simp,(show 3<=sizeLine from ao (by decide)),λh=>absurd h<|cons_ne_nil _ _,λ_ q v=>?_};have y:=M.trans<|ae (o:=.tup<|[.int p,.str nm]++[stV z.2.st]) v;show{_,rfl,_,rfl,d,_,rfl,lT.k (k:=Sum.inl n) (y _ _ D)<|aw ?_,S z.2.st q _ y ac λus=>{λ_ e=>by rw[e];show .moved r R T (hi ⟨_,rfl⟩) X,λh=>absurd Y h}};have:=congrArg length i.book.of;unfold aW;rw[ES]at this|-
  lia
theorem xq(a7:Room 1<|A.deeper (PyProof.Rows.envOfC "_law_done" (ak dz) s.heap.objs.size f cdv)):
  ∃t,PS (DX P w K mg base f cdv A outer s H0 E) (elS 4) t/\∀(F:Ends)(H:Hp)(a c d:zi)(dd:TW.Deed Str)(n p:Int)(nm:Str)(g:List<|zi×(zi×Nd))(zs:ZN)(U:Option V),LD H0 H a c d dd g zs->H d=some (.dK<|aW g)->li (nds zs) dd n p nm ->
   (∀H',Same H0 H'->(∃m∈nds zs,m.num≠n/\m.par=p/\m.nm=nm)->F.rt (.str "taken") H') ->
   (∀o H',LD H0 H' a c d dd g zs->H' d=some (.frz o<|.dK (aW g))->(∀m∈nds zs,m.num≠n->¬(m.par=p/\m.nm=nm))->F.nx [some<|.ref a,some<|.ref c,some<|.ref d,some<|.int n,U] H') ->
   t F [some<|.ref a,some<|.ref c,some<|.ref d,some<|.int n,U] H:=by
 show{_,aS (au (qZ<|bp a7) (dq gg (pv 1) (cH ai)<|cH ai) (gS (fs:=["_law_book_here","_law_number"]) (cl:=[("_law_number",s.heap.objs.size+2),("_law_book_here",s.heap.objs.size+1)]) (js:=[2,3]) lcF (zX<|pv 2)
    (λs H fp=>au dS (pv 0) (pv 2)<|av _) (λs H fp=>dq (r:=vt K) gg (cz (bp a7) (pv 1) (pv 0) λ_ _=>rfl) iE<|cH ai)) rfl) (am<|aq ay) ax,?_}
 intro F H a c d dd n p nm g zs U l b9 a8 d2 d1;have b7:=l.tre.tr;have c0:=bO b7;have d3:=l.tre.len;have b6:gf (aQ dd) (some 2) (some 4)=[Sum.inl p,Sum.inr nm].map kV:=by rcases a8 with⟨st,rfl,_⟩|⟨rfl,_⟩<;>rfl
 have d0:¬(HT.sIx (aQ dd).length 0 (some 2)=0/\HT.sIx (aQ dd).length (aQ dd).length (some 4)=(aQ dd).length):=by
  rcases a8 with⟨st,rfl,_⟩|⟨rfl,_⟩
  .show λh=>absurd h.1 (show ¬HT.sIx 5 0 (some 2)=0 by decide)
  .show λh=>absurd h.1 (show ¬HT.sIx 4 0 (some 2)=0 by decide)
 show{_,rfl,_,rfl,_,rfl,c,_,rfl,SqT.of l.deed,d0,λD c5=>?_};have s1:=ae (o:=.tup<|gf (aQ dd) (some 2) (some 4)) c5;have N:upd H D (.tup<|gf (aQ dd) (some 2) (some 4)) D=some (.tup<|[Sum.inl p,Sum.inr nm].map kV):=by rw[ac,b6]
 have J:=l.same s1;have a2:=s1 _ _ b9;generalize upd H D (.tup<|gf (aQ dd) (some 2) (some 4))=H1 at J N a2|-;show{_,rfl,d,_,rfl,a2,λo b5 a5=>?_};have L:=J.turn (u:=.frz o<|.dK (aW g))<|.inr ⟨o,ac⟩;have Y:upd H1 d (.frz o<|.dK (aW g)) D=some (.tup<|[Sum.inl p,Sum.inr nm].map kV):=by rw[aj<|xp N J.book.dict];show N
 have v:upd H1 d (.frz o<|.dK (aW g)) d=some (.frz o<|.dK (aW g)):=ac;generalize upd H1 d (.frz o<|.dK (aW g))=H2 at L Y v a5|-;have G:(g.map λa=>(a.1,a.2.2)).map (·.2)=nds zs:=by rw[<-l.book.of];unfold nds;rw[FD,FD];rfl
 have b8:(g.map λa=>(a.1,a.2.2)).length=zs.length:=by rw[<-l.book.of,ES,ES]
 have a1:((g.map λa=>(a.1,a.2.2)).map (·.2.num)).Nodup:=by
  have:(g.map λa=>(a.1,a.2.2)).map (·.2.num)=(nds zs).map (·.num):=by rw[<-G];simp only[FD];rfl
  rw[this];show c0
 have a0:∀b∈g.map (λa=>(a.1,a.2.2)),H2 b.1=some (.tup<|aL b.2):=λb O=>by
  let(x,i,rfl):=EZ.mp O;show L.book.at' x i
 rw[oo]at v|-;rw[lh];have a3:aW g=bU (g.map λa=>(a.1,a.2.2)):=oo g;generalize g.map (λa=>(a.1,a.2.2))=bs at G b8 a1 a0 v a3|-;show jt (fr:=[some<|.ref d,some<|.int n]) bs (λb=>V.int b.2.num) (by lia) a5 (kY v) rfl (λb=>!decide (V.int b.2.num=V.int n)) (λb y H'=>∃q,y=.ref q/\q≠b5/\H' q=some (.tup<|(plK b.2).map kV)) (λb y H H' ⟨q,e,a9,h⟩ ex=>⟨q,e,a9,ex q _ a9 h⟩) (λb H' k B j _ Q=>?_) (λb H' k B _ j c4 Q=>?_) λys I j c3 c6=>?_
 .show{_,rfl,_,rfl,rfl,_,rfl,Q H'<|Same.refl _}
 .show{_,rfl,_,rfl,d,_,rfl,.inl {bU bs,Sum.inl b.2.num,.inr ⟨o,j _ _ v⟩,rfl,(nc a1 B).symm},_,rfl,b.1,_,rfl,SqT.of<|j _ _ (a0 b B),(λh=>absurd h.2 (show ¬HT.sIx 3 3 (some 2)=3 by decide)),λq a6=>?_};show Q _ _ (ae a6) ⟨q,rfl,dJ c4 a6,ac⟩
 .let(M,e1,e2,e3):=dE (val:=V.ref) (S:=λ(b:zi×Nd) (q:zi)=>I q=some (.tup<|(plK b.2).map kV)) c6 λb y _ ⟨q,e,_,h⟩=>⟨q,e,h⟩;show{D,b5,_,M.map λx=>(x.2,plK x.1.2),rfl,j _ _ Y,rfl,SqL.of (by rw[c3,e2,FD,FD];rfl),λy R=>?_,_,rfl,?_}
  .let(x,i,rfl):=EZ.mp R;show e3 x i
  .have W:=L.same j;cases Z:((M.map λx=>(x.2,plK x.1.2)).any λz=>decide<|z.2=[Sum.inl p,Sum.inr nm])with
   |true =>
    show aV<|d2 I W.s0 ?_;let(y,R,e):=GK.mp Z;let(x,i,rfl):=EZ.mp R;have c7:x.1∈bs.filter λb=>!decide (V.int b.2.num=V.int n):=by rw[<-e1];show EZ.mpr ⟨x,i,rfl⟩
    let(c8,c9):=Fw.mp c7;have X:plK x.1.2=[Sum.inl p,Sum.inr nm]:=by simpa using e
    have c2:x.1.2.par=p/\x.1.2.nm=nm:=by
     unfold plK at X;injection X with T C
     injection C with C _
     injection T with T
     injection C with C
     show⟨T,C⟩
    show{x.1.2,by rw[<-G];show EZ.mpr ⟨x.1,c8,rfl⟩,λe=>?_,c2};simp[e]at c9
   |false =>
    show aC<|d1 o I W (by rw[a3];show j _ _ v) λm a4 c1 h=>?_;rw[<-G]at a4;let(b,O,rfl):=EZ.mp a4;have B:b∈bs.filter λb=>!decide (V.int b.2.num=V.int n):=Fw.mpr {O,by simp[c1]};rw[<-e1]at B;let(x,i,ex):=EZ.mp B;have:((M.map λx=>(x.2,plK x.1.2)).any λz=>decide<|z.2=[Sum.inl p,Sum.inr nm])=true:=GK.mpr {_,EZ.mpr ⟨x,i,rfl⟩,by
     rw[FJ];change plK x.1.2=_;rw[ex];unfold plK;rw[h.1,h.2]}
    rw[Z]at this;cases this
theorem uK(B:Room 1<|A.deeper (PyProof.Rows.envOfC "_law_done" (ak dz) s.heap.objs.size f cdv))(u:Has P w K mg base 1 "_law_under" ["_law_book_here","_law_number","_law_goal"] lK):
  ∃t,PS (DX P w K mg base f cdv A outer s H0 E) (elS 3) t/\∀(i:Ends)(H:Hp)(a c d:zi)(dd:TW.Deed Str)(n p:Int)(nm:Str)(k:List<|zi×(zi×Nd))(zs:ZN),LD H0 H a c d dd k zs->li (nds zs) dd n p nm->TW.io (nds zs) p->1<=n ->
   (dd=.move n p nm->p≠0->TW.Und (nds zs) n p->i.rt (.str "inside") H)->(NotIn (nds zs) dd n p->i.nx [some<|.ref a,some<|.ref c,some<|.ref d,some<|.int n,some<|.int p] H) ->
   t i [some<|.ref a,some<|.ref c,some<|.ref d,some<|.int n,some<|.int p] H:=by
 show{_,aS (PW.pt<|pw_and (au cu (ixT K (pv 1) ai) ay<|av _) (pw_and (au dS (pv 4) ai<|av _)<|pw_and1 (cE (bu u B<|aa (pv 2) (aa (pv 4)<|aa (pv 3) af)) λ_=>rfl))) (am<|aq ay) ax,?_};intro i H a c d dd n p nm k zs j D x z G l;have r:SqT K H c (aQ dd):=SqT.of j.deed;rcases D with⟨st,rfl,J⟩|⟨rfl,I⟩
 .show{_,rfl,c,_,_,_,rfl,rfl,r,rfl,rfl,_,rfl,aC<|aC (l λ⟨_,e⟩=>by cases e)}
 .show{_,rfl,c,_,_,_,rfl,rfl,r,rfl,rfl,_,rfl,aV {_,rfl,rfl,_,rfl,?_}}
  by_cases g:p=0
  .have e1:(!decide (V.int p=V.int 0))=false:=by simp[g]
   rw[e1];show aC<|aC (l λ_ h=>absurd g h)
  .have e1:(!decide (V.int p=V.int 0))=true:=by simp[g]
   rw[e1];rcases x with e|⟨m,y,_,v⟩
   .show absurd e g
   .let(F,q):=TW.PathTo.ex j.tre.tr y;rw[v]at q;show aV {_,rfl,_,rfl,_,rfl,d,p,n,k,zs,F,rfl,j.book,j.tre.tr,q,z,λb o=>{b,rfl,?_}};cases b with
    |true=>show aV<|G rfl g (o.mp rfl)
    |false=>show aC (l λ_ _ C=>by have:=o.mpr C;cases this)
theorem zt(r:Room 1<|A.deeper (PyProof.Rows.envOfC "_law_done" (ak dz) s.heap.objs.size f cdv))(F:Has P w K mg base 1 "_law_under" ["_law_book_here","_law_number","_law_goal"] lK):
  ∃t,PSs (DX P w K mg base f cdv A outer s H0 E) Ab t/\∀(k:Ends)(H:Hp)(a c d:zi)(dd:TW.Deed Str)(n p:Int)(nm:Str)(j:List<|zi×(zi×Nd))(zs:ZN),LD H0 H a c d dd j zs->H d=some (.dK<|aW j)->li (nds zs) dd n p nm->1<=n ->
   (∀D H',Same H0 H'->TW.Told (nds zs) dd (.inl D)->k.rt (.str<|hV D) H') ->
   (∀a7 bs H',Same H0 H'->H' d=some (.dK<|bU bs)->(∀b∈bs,H' b.1=some (.tup<|aL b.2))->(bs.map (·.2.num)).Nodup->bs.length<=zs.length+1->(∀us,us.Perm (bs.map (·.2))->TW.bK us->TW.Told (nds zs) dd (.inr us))->k.nx [some<|.ref a,some<|.ref c,some<|.ref d,some<|.int n,a7] H') ->
   t k [some<|.ref a,some<|.ref c,some<|.ref d,some<|.int n,none] H:=by
 let(a4,a0,h3):=uK (f:=f) (cdv:=cdv) (outer:=outer) (H0:=H0) (E:=E) r F;let(a5,a1,N):=xq (P:=P) (w:=w) (mg:=mg) (base:=base) (K:=K) (f:=f) (cdv:=cdv) (outer:=outer) (H0:=H0) (E:=E) r;let(a6,a2,O):=BP (P:=P) (w:=w) (mg:=mg) (base:=base) (K:=K) (f:=f) (cdv:=cdv) (outer:=outer) (H0:=H0) (E:=E) r;show{_,ag (aD (i:=4) jY.nd rfl (Or.inl rfl)<|ixT K (pv 1) ai)
  (ag (aS (PW.pt<|pw_and (au dS (pv 4) ai<|av _) (pw_and1<|ia (eU (bp r) (pv 4)<|pv 2))) (am<|aq ay) ax)
  (ag (aS (PW.pt<|pw_and (au dS (pv 4) ai<|av _) (pw_and1<|au nM (ixT K (cz (bp r) (pv 2) (pv 4) λ_ _=>rfl) ai) cT (av _))) (am<|aq ay) ax)
  (ag a0<|ag a1 (am a2)))),?_}
 intro k H a c d dd n p nm j zs g S h X x a3;have Q:=g.tre.tr;have Y:=bO Q;have I:atI (aQ dd) 2=some (.int p):=by rcases h with⟨st,rfl,_⟩|⟨rfl,_⟩<;>rfl
 have rest:TW.io (nds zs) p->qD a4 (qD a5 a6) k [some<|.ref a,some<|.ref c,some<|.ref d,some<|.int n,some<|.int p] H:=λv=>by
  show h3 _ H a c d dd n p nm j zs g h v X (λe M Z=>?_) λhi=>?_
  .subst e;rcases h with⟨st,e,_⟩|⟨_,l⟩
   .cases e
   .show x .inside H g.s0<|.vIn l v M Z
  .show N _ H a c d dd n p nm j zs _ g S h (λH' s' ⟨m,W,h1,h2,h3⟩=>x .taken H' s'<|h.taken v hi W h1 h2 h3) λo H' G T U=>?_;show O _ H' a c d dd n p nm j zs _ o G T h v hi U λbs H2 e1 e2 e3 e4 J L=>a3 _ bs H2 e1 e2 e3 e4 J L
 show{_,rfl,c,_,_,_,rfl,rfl,SqT.of g.deed,I,?_};show{_,rfl,rfl,_,rfl,?_}
 by_cases q:p=0
 .have e1:(!decide (V.int p=V.int 0))=false:=by simp[q]
  rw[e1];show aC<|aC {_,rfl,rfl,_,rfl,?_};rw[e1];show aC<|aC (rest<|.inl q)
 .have e1:(!decide (V.int p=V.int 0))=true:=by simp[q]
  rw[e1]
  by_cases l:∃z∈zs,z.2.num=p
  .let(z,u,y):=l;let(b,B,R):=g.book.get Y u;rw[y]at B;show aV {_,rfl,_,rfl,d,_,rfl,B,_,rfl,aC {_,rfl,rfl,_,rfl,?_}};rw[e1];show aV {_,rfl,_,rfl,d,_,rfl,B,b,_,_,_,rfl,rfl,SqT.of R,AX z.2,rfl,_,rfl,?_};rw[sT];cases C:z.2.st with
   |none=>show aC<|rest (.inr ⟨z.2,bQ u,C,y⟩)
   |some i=>show aV<|x .notFolder H g.s0 (h.file q (bQ u) y (by rw[C];simp))
  .show aV {_,rfl,_,rfl,d,_,rfl,g.book.not λz u e=>l ⟨z,u,e⟩,_,rfl,aV<|x .noNode H g.s0 (h.no q<|cO l)}
theorem xr(v:Room 1<|A.deeper (PyProof.Rows.envOfC "_law_done" (ak dz) s.heap.objs.size f cdv))(W:Has P w K mg base 1 "_law_under" ["_law_book_here","_law_number","_law_goal"] lK):
  ∃t,PS (DX P w K mg base f cdv A outer s H0 E) (ldS 5) t/\∀(g:Ends)(H:Hp)(a c d:zi)(dd:TW.Deed Str)(n:Int)(j:List<|zi×(zi×Nd))(zs:ZN),LD H0 H a c d dd j zs->H d=some (.dK<|aW j)->((∃st,dd=.write n st/\TW.cy (nds zs) n)\/∃p nm,li (nds zs) dd n p nm)->1<=n ->
   (∀V H',Same H0 H'->TW.Told (nds zs) dd (.inl V)->g.rt (.str<|hV V) H') ->
   (∀a7 bs H',Same H0 H'->H' d=some (.dK<|bU bs)->(∀b∈bs,H' b.1=some (.tup<|aL b.2))->(bs.map (·.2.num)).Nodup->bs.length<=zs.length+1->(∀us,us.Perm (bs.map (·.2))->TW.bK us->TW.Told (nds zs) dd (.inr us))->g.nx [some<|.ref a,some<|.ref c,some<|.ref d,some<|.int n,a7] H') ->
   t g [some<|.ref a,some<|.ref c,some<|.ref d,some<|.int n,none] H:=by
 let(te,a5,L):=zt (f:=f) (cdv:=cdv) (outer:=outer) (H0:=H0) (E:=E) v W;show{_,aS (au cu (ixT K (pv 1) ai) ay<|av _)
  (ag (aS (au jd (ixT K (cz (bp v) (pv 2) (pv 3) λ_ _=>rfl) ai) cT<|av _) (am<|aq ay) ax)
  (am<|iG (bp v) (pv 2) (pv 3) (aE iF (dq gg (cz (bp v) (pv 2) (pv 3) λ_ _=>rfl) iE<|cH ai)<|aO (aa (ixT K (pv 1) ai) af)) rfl)) a5,?_}
 intro g H a c d dd n j zs e r Z M D C;have I:=e.tre.tr;have N:=bO I;have a8:=e.tre.len;have G:SqT K H c (aQ dd):=SqT.of e.deed;rcases Z with⟨st,rfl,m,u,l⟩|⟨p,nm,B⟩
 .let(z,a4,rfl):=gv u;let(b,y,J):=e.book.get N a4;rw[l]at y;show{_,rfl,c,_,_,_,rfl,rfl,G,rfl,rfl,_,rfl,aV {_,rfl,_,rfl,d,_,rfl,y,b,_,_,_,rfl,rfl,SqT.of J,AX z.2,rfl,_,rfl,?_}};cases Q:z.2.st with
  |none=>show aV<|D .notFile H e.s0 (.wFold u l Q)
  |some i =>
   show aC {_,rfl,_,rfl,d,_,rfl,y,_,rfl,b,_,rfl,SqT.of J,(λh=>absurd h.2 (show ¬HT.sIx 3 3 (some 2)=3 by decide)),λT a3=>?_};have S:=ae (o:=.tup<|gf (aL z.2) none (some 2)) a3;show{_,rfl,c,_,_,_,rfl,rfl,SqT.of<|S _ _ e.deed,rfl,(show 1<=sizeLine from ao (by decide)),λU R=>?_};have a6:=S.trans<|ae (o:=.tup [.int st]) R;show{T,U,[.int z.2.par,.str z.2.nm],[.int st],rfl,rfl,SqT.of<|aN R ac,SqT.of ac,by simp,(show 3<=sizeLine from ao (by decide)),λh=>absurd h<|cons_ne_nil _ _,λ_ q a0=>?_};have F:=a6.trans<|ae (o:=.tup<|[.int z.2.par,.str z.2.nm]++[.int st]) a0;have a1:upd (upd (upd H T<|.tup (gf (aL z.2) none<|some 2)) U<|.tup [.int st]) q (.tup<|[.int z.2.par,.str z.2.nm]++[.int st]) q=some (.tup<|aL ⟨n,z.2.par,z.2.nm,some st⟩):=ac;have Y:(aW j).length<=1000:=by
    have:=congrArg length e.book.of;unfold aW;rw[ES]at this|-
    lia
   show{_,rfl,_,rfl,d,_,rfl,lT.k (k:=Sum.inl n) (F _ _ r)<|aw Y,?_};have x:=e.same F;let(bs,e1,e2,e3,e4,X):=pS (new:=⟨n,z.2.par,z.2.nm,some st⟩) (F _ _ r) x.book.of x.book.at' a1 N;show C _ bs _ (aJ e.d0 x.s0) e1 e2 e3 e4 λus O a2=>?_;rcases X with⟨h1,h2⟩|⟨h1,h2⟩
   .rw[h2]at O;rw[TW.la a2 (TW.iR I.rise) O];show .wrote u l (by rw[Q];simp)
   .show absurd ⟨z.2,u,l⟩ h1
 .rcases id B with⟨st,rfl,_⟩|⟨rfl,_⟩
  .show{_,rfl,c,_,_,_,rfl,rfl,G,rfl,rfl,_,rfl,aC<|L g H a c d _ n p nm j zs e r B M D C}
  .show{_,rfl,c,_,_,_,rfl,rfl,G,rfl,rfl,_,rfl,aC<|L g H a c d _ n p nm j zs e r B M D C}
def oH:Sp:=λvs H Q _=>∃a c dd zs,vs=[.ref a,.ref c]/\Tre H a zs/\zs.length<=29/\H c=some (.tup<|aQ dd)/\dN dd/\(∀b d H',Same H H'->H' d=some (.tup<|aZ b)->At H' b->TW.Told (nds zs) dd (.inr<|nds b)->Q (.ref d) H')/\∀e H',Same H H'->TW.Told (nds zs) dd (.inl e)->Q (.str<|hV e) H'
theorem xt{f:zi}{X:qa}(F:Fun K "_law_done" "_law_done" dz f X)(T:Txt mg)(Z:Has P w K mg base 1 "_law_book" ["_law_tree_here"] rL)(V:Has P w K mg base 1 "_law_under" ["_law_book_here","_law_number","_law_goal"] lK):
  FnOk P w K mg base CX0 2 f X ["_law_tree_here","_law_deed_here"] oH:=by
 show F.okA jY λcdv A outer s H vs Q E C h=>?_
 .let(a,c,dd,zs,rfl,U,b5,a2,x,Y,y):=h;let(b6,a6,G):=zr (f:=f) (cdv:=cdv) (outer:=outer) (H0:=H) (E:=E) T C V;let(b7,a7,J):=xr (f:=f) (cdv:=cdv) (outer:=outer) (H0:=H) (E:=E) C V;let(a9,a8,a1):=BO (P:=P) (w:=w) (K:=K) (mg:=mg) (base:=base) (f:=f) (cdv:=cdv) (outer:=outer) (H0:=H) (E:=E) T C;show{_,ag (aD (i:=2) jY.nd rfl (Or.inr rfl)<|bu Z C (aa (pv 0) af))
   (ag (aD (i:=3) jY.nd rfl (Or.inr rfl)<|ixT K (pv 1) ai)
   (ag (aS (PW.pt<|pw_and (au cu (ixT K (pv 1) ai) ay<|av _) (pw_and1<|ia (nS (bp C) (pv 3)<|pv 2))) (am<|aq ay) ax)
   (ag (aS (PW.pt<|pw_and (au dS (ixT K (pv 1) ai) ay<|av _) (pw_and1<|ia (eU (bp C) (pv 3)<|pv 2))) (am<|aq ay) ax)
   (ag a6<|ag a7 (am a8))))),?_}
  show{_,rfl,a,zs,rfl,U,λd u H1 s1 W D M=>?_};have j:LD H H1 a c d dd u zs:=⟨s1,W,U.same s1,s1 _ _ a2,D⟩;have I:=bO U.tr;have q:SqT K H1 c (aQ dd):=SqT.of j.deed;have O:∀v n bs H',Same H H'->H' d=some (.dK<|bU bs)->(∀b∈bs,H' b.1=some (.tup<|aL b.2))->(bs.map (·.2.num)).Nodup->bs.length<=zs.length+1->(∀B,B.Perm (bs.map (·.2))->TW.bK B->TW.Told (nds zs) dd (.inr B)) ->
    a9 {nx:=λ_ H'=>Q .non H',rt:=Q} [some<|.ref a,some<|.ref c,some<|.ref d,some<|.int n,v] H':=λv n bs H' s' e1 e2 e3 e4 a0 =>
   a1 _ H' _ _ _ _ _ d bs rfl e1 e2 e3 (by lia) λo B S H2 R N L a4 a5=>Y B S H2 ((aJ W s').trans R) N L<|a0 _ a4 a5
  cases dd with
  |make n p nm st =>
   show{_,rfl,c,_,_,_,rfl,rfl,q,rfl,_,rfl,c,_,_,_,rfl,rfl,q,rfl,rfl,_,rfl,aV ?_}
   by_cases m:∃z∈zs,z.2.num=n
   .let(z,l,r):=m;let(b,t,_):=j.book.get I l;rw[r]at t;show{_,rfl,_,rfl,d,_,rfl,t,_,rfl,aV<|y .known H1 s1 (.mKnown<|eZ l r)}
   .show{_,rfl,_,rfl,d,_,rfl,j.book.not λz l e=>m ⟨z,l,e⟩,_,rfl,aC ?_};show{_,rfl,c,_,_,_,rfl,rfl,q,rfl,rfl,_,rfl,aC<|aC ?_};show G _ H1 _ a c d _ n u zs rfl j.tre j.deed D x.1 (λ⟨k,e⟩=>by cases e) λ_=>?_;show J _ H1 a c d _ n u zs j M (.inr ⟨p,nm,.inl ⟨st,rfl,cO m⟩⟩) x.1 y λv bs H'=>O v n bs H'
  |write n st =>
   show{_,rfl,c,_,_,_,rfl,rfl,q,rfl,_,rfl,c,_,_,_,rfl,rfl,q,rfl,rfl,_,rfl,aC<|aC ?_};show{_,rfl,c,_,_,_,rfl,rfl,q,rfl,rfl,_,rfl,aV ?_}
   by_cases m:∃z∈zs,z.2.num=n
   .let(z,l,r):=m;let(b,t,_):=j.book.get I l;rw[r]at t;show{_,rfl,_,rfl,d,_,rfl,t,_,rfl,aC ?_};show G _ H1 _ a c d _ n u zs rfl j.tre j.deed D x.1 (λ⟨k,e⟩=>by cases e) λ_=>?_;show J _ H1 a c d _ n u zs j M (.inl ⟨st,rfl,eZ l r⟩) x.1 y λv bs H'=>O v n bs H'
   .show{_,rfl,_,rfl,d,_,rfl,j.book.not λz l e=>m ⟨z,l,e⟩,_,rfl,aV<|y .noNode H1 s1 (.wNo<|cO m)}
  |move n p nm =>
   show{_,rfl,c,_,_,_,rfl,rfl,q,rfl,_,rfl,c,_,_,_,rfl,rfl,q,rfl,rfl,_,rfl,aC<|aC ?_};show{_,rfl,c,_,_,_,rfl,rfl,q,rfl,rfl,_,rfl,aV ?_}
   by_cases m:∃z∈zs,z.2.num=n
   .let(z,l,r):=m;let(b,t,_):=j.book.get I l;rw[r]at t;show{_,rfl,_,rfl,d,_,rfl,t,_,rfl,aC ?_};show G _ H1 _ a c d _ n u zs rfl j.tre j.deed D x.1 (λ⟨k,e⟩=>by cases e) λ_=>?_;show J _ H1 a c d _ n u zs j M (.inr ⟨p,nm,.inr ⟨rfl,eZ l r⟩⟩) x.1 y λv bs H'=>O v n bs H'
   .show{_,rfl,_,rfl,d,_,rfl,j.book.not λz l e=>m ⟨z,l,e⟩,_,rfl,aV<|y .noNode H1 s1 (.vNo<|cO m)}
  |drop n =>
   show{_,rfl,c,_,_,_,rfl,rfl,q,rfl,_,rfl,c,_,_,_,rfl,rfl,q,rfl,rfl,_,rfl,aC<|aC ?_};show{_,rfl,c,_,_,_,rfl,rfl,q,rfl,rfl,_,rfl,aV ?_}
   by_cases m:∃z∈zs,z.2.num=n
   .let(z,l,r):=m;let(b,t,_):=j.book.get I l;rw[r]at t;show{_,rfl,_,rfl,d,_,rfl,t,_,rfl,aC ?_};show G _ H1 _ a c d _ n u zs rfl j.tre j.deed D x.1 (λ_ B S H' g R N L e a3=>Y B S H' (s1.trans R) N L ?_) λh=>absurd ⟨n,rfl⟩ h;rw[e];show .dropped (eZ l r) a3
   .show{_,rfl,_,rfl,d,_,rfl,j.book.not λz l e=>m ⟨z,l,e⟩,_,rfl,aV<|y .noNode H1 s1 (.dNo<|cO m)}
end
theorem lL:∀(zs:List<|zi×Key×V)(m:List<|Key×V),(m.map (·.1)++zs.map (·.2.1)).Nodup->zs.foldl (λm z=>bJ m z.2.1 z.2.2) m=m++zs.map (·.2)
 |[],m,_=>by rw[map_nil,Gs];rfl
 |z::zs,m,h=>by
  have c:z.2.1∉m.map (·.1):=λb=>by
   rw[nodup_append]at h;show h.2.2 _ b z.2.1 (by rw[Fi];show FY) rfl
  have e:bJ m z.2.1 z.2.2=m++[z.2]:=by
   unfold bJ;rw[EV];intro a;let(p,d,e):=GK.mp a;show c<|EZ.mpr ⟨p,d,of_decide_eq_true e⟩
  rw[foldl_cons,e,lL zs<|m++[z.2],Fi,append_assoc]
  .rfl
  .rw[Fn,append_assoc];show h
theorem qq{zs:List (zi×Key×V)}{e:zi}{k:Key}{v:V}(h:(zs.map (·.2.1)).Nodup):gT (zs++[(e,k,v)])=bJ (zs.map (·.2)) k v:=by
 unfold gT;rw[List.foldl_append,lL zs [] (by simpa using h)];rfl
def gG(a:Hp)(b:zi)(x:Str):Prop:=a b=some (.tup [.str "tag",.str x])
section
variable{P:qw}{w:qn}{K:Frag}{mg:Str->Option xx}{base:qb}
def lM:Sp:=λvs H Q _=>∃n sa t d z gs,vs=[.ref n,.ref sa]/\H n=some (.tup [.ref t,.ref d])/\Tre H t z/\Tags H d gs/\gs.length<50 /\
 ((∃x,gG H sa x/\(x="Bad"->∀r H',Same H H'->H' r=some (.tup [.ref n,.str "no tag"])->Q (.ref r) H') /\
   (x≠"Bad"->∀r a b H',Same H H'->H' r=some (.tup [.ref a,.bl<|decide (x∈gs.map (·.1))])->H' a=some (.tup [.ref t,.ref b])->Tags H' b (cR gs x (t,z))->Q (.ref r) H')) \/
   (∃dd,H sa=some (.tup<|aQ dd)/\dN dd/\z.length<=29/\(∀r a e c H',Same H H'->TW.Told (nds z) dd (.inr<|nds e)->Tre H' c e->H' r=some (.tup [.ref a,.non])->H' a=some (.tup [.ref c,.ref d])->Q (.ref r) H') /\
   ∀f r H',Same H H'->TW.Told (nds z) dd (.inl f)->H' r=some (.tup [.ref n,.str<|hV f])->Q (.ref r) H'))
theorem tu:FnScope ["_law_now","_law_step_here","_law_tree_here","_law_known","_law_made"] ["_law_now","_law_step_here"] (ak fw):=fsc
theorem Ac(dd:TW.Deed Str):∃x,atI (aQ dd) 0=some (.str x)/\x≠"tag":=by
 cases dd<;>show{_,rfl,by decide +kernel}
theorem BQ{f:zi}{a2:qa}(F:Fun K "_law_behind" "_law_behind" fw f a2)(T:Txt mg)(c1:Has P w K mg base 2 "_law_done" ["_law_tree_here","_law_deed_here"] oH):FnOk P w K mg base CX0 3 f a2 ["_law_now","_law_step_here"] lM:=by
 show F.okA tu λcdv A outer s H vs Q E b5 h=>?_
 .let(n,sa,t,d,z,gs,rfl,d5,Y,tg,f2,h):=h;show{_,ag (uZ (pv 0)<|nH (n:=2) rfl (cF (bx (i:=2) tu.nd rfl<|Or.inl rfl)<|cF (bx (i:=3) tu.nd rfl<|Or.inl rfl) jP))
   (ag (aS (au cu (ixT K (pv 1) ai) ay<|av _)
    (ag (aS (au cu (ixT K (pv 1) ai) ay<|av _) (am<|aq (aO<|aa (pv 0) (aa ay af))) ax)
    (am<|aq (aO (aa (aO<|aa (pv 2) (aa (aK (rK rfl) rfl T.dict rfl<|aa (aE du (oG rfl rfl T.list<|pv 3)<|bc (aa (aO<|aa (ixT K (pv 1) ai) (aa (pv 2) af)) af)) af) af))
     (aa (uU<|nS (bp b5) (ixT K (pv 1) ai) (pv 3)) af))))) ax)
   (ag (aD (i:=4) tu.nd rfl (Or.inl rfl)<|bu c1 b5 (aa (pv 2)<|aa (pv 1) af))
   (am<|aq (iB (cE (ar cm rfl T.isin Ff<|aa (pv 4) (aa (dQ (v:=.ty "str") rfl T.str boot_str rfl) af)) λ_=>rfl)
    (aO<|aa (pv 0) (aa (pv 4) af)) (aO<|aa (aO<|aa (pv 4) (aa (pv 3) af)) (aa cT af)))))),?_}
  show{_,rfl,n,_,rfl,SqT.of d5,rfl,_,_,rfl,_,_,rfl,rfl,?_};rcases h with⟨x,d8,e8,U⟩|⟨dd,a8,a9,e5,U,e9⟩
  .have L:H sa=some (.tup [.str "tag",.str x]):=d8;show{_,rfl,sa,_,_,_,rfl,rfl,SqT.of L,rfl,rfl,_,rfl,?_};rw[Fe rfl];show aV {_,rfl,sa,_,_,_,rfl,rfl,SqT.of L,rfl,rfl,_,rfl,?_}
   by_cases I:x="Bad"
   .rw[Fe (by rw[I])];show aV {_,rfl,le2,λr k=>?_};show e8 I r _ (ae k) ac
   .rw[FZ (by intro h;show I (by injection h))];show aC {_,rfl,_,rfl,d,_,rfl,tg.dct,λl as H1 s1 d2 a7 c7=>?_};have d9:=s1 _ _ L;show{_,rfl,sa,_,_,_,rfl,rfl,SqT.of d9,rfl,_,rfl,le2,λe c9=>?_};have m:=ae (o:=.tup [.str x,.ref t]) c9;have C:upd H1 e (.tup [.str x,.ref t]) e=some (.tup [.str x,.ref t]):=ac;generalize upd H1 e (.tup [.str x,.ref t])=H2 at m C|-;show{ao (show 1<=1000 by decide),λM d3=>?_};have j:=ae (o:=.lst [.ref e]) d3;have a3:upd H2 M (.lst [.ref e]) M=some (.lst [.ref e]):=ac;generalize upd H2 M (.lst [.ref e])=Z at j a3|-;have b7:(bn gs).length=gs.length:=by unfold bn;rw[ES]
    show{l,M,_,_,rfl,rfl,j _ _<|m _ _ d2,a3,ao (by rw[ES,a7,b7];change _+1<=1000;lia),λN d4=>?_};have W:=ae (o:=.lst<|as.map V.ref++[.ref e]) d4;have a4:upd Z N (.lst<|as.map V.ref++[.ref e]) N=some (.lst<|as.map V.ref++[.ref e]):=ac;generalize upd Z N (.lst<|as.map V.ref++[.ref e])=a0 at W a4|-;have b8:=m.trans<|j.trans W;have c3:((as.zip<|bn gs).map λq=>((q.1,q.2.1,q.2.2):zi×Key×V)).map (·.1)=as:=by
     rw[FD];show List.map_fst_zip (by lia)
    have es:((as.zip<|bn gs).map λq=>((q.1,q.2.1,q.2.2):zi×Key×V)).map (·.2)=bn gs:=by
     rw[FD];show List.map_snd_zip (by lia)
    have d6:(((as.zip<|bn gs).map λq=>((q.1,q.2.1,q.2.2):zi×Key×V)).map (·.2.1)).Nodup:=by
     have e1:((as.zip<|bn gs).map λq=>((q.1,q.2.1,q.2.2):zi×Key×V)).map (·.2.1)=(bn gs).map (·.1):=by have:=congrArg (List.map λp:Key×V=>p.1) es;rw[FD,FD]at this;rw[FD];show this
     have e2:(bn gs).map (·.1)=(gs.map (·.1)).map (Sum.inr:Str->Key):=by unfold bn;rw[FD,FD];rfl
     rw[e1,e2];unfold Nodup;rw[Fh];show tg.nd.imp λh e=>h (by injection e)
    show{N,((as.zip<|bn gs).map λq=>((q.1,q.2.1,q.2.2):zi×Key×V))++[(e,(Sum.inr x:Key),V.ref t)],rfl,?_,λy S=>?_,?_,λc c8=>?_}
    .rw[a4,Fn,c3,Fn];rfl
    .rcases Fd.mp S with h|h
     .let(e7,d7,rfl):=EZ.mp h;let(u,d1,c4):=GF.mp d7;have J:u<as.length/\u<(bn gs).length:=by
       have:u<min as.length (bn gs).length:=by simpa using d1
       show{by lia,by lia}
      have e0:e7=(as[u]'J.1,(bn gs)[u]'J.2):=by rw[<-c4];simp
      rw[e0];show b8 _ _<|c7 u _ _ (ET J.1) (ET J.2)
     .have c5:y=(e,(Sum.inr x:Key),V.ref t):=by simpa using h
      rw[c5];show W _ _<|j _ _ C
    .rw[FI,ES,List.length_zip,a7,b7];change min _ _+1<=900;lia
    .rw[qq d6,es,qm gs x (t,z)];have b9:=ae (o:=.dK<|bn (cR gs x (t,z))) c8;have a5:upd a0 c (.dK<|bn (cR gs x (t,z))) c=some (.dK<|bn (cR gs x (t,z))):=ac;generalize upd a0 c (.dK<|bn (cR gs x (t,z)))=a1 at b9 a5|-;show{le2,λa R=>?_};have X:=ae (o:=.tup [.ref t,.ref c]) R;have a6:upd a1 a (.tup [.ref t,.ref c]) a=some (.tup [.ref t,.ref c]):=ac;generalize upd a1 a (.tup [.ref t,.ref c])=H6 at X a6|-;have f0:=b8.trans<|b9.trans X;have O:Same H H6:=λb o h=>f0 _ _<|s1 _ _ h;have c0:=tg.same O;have c2:cY H6 d (kV<|Sum.inr x) (aX (bn gs) (Sum.inr x:Key)):=.inl ⟨_,_,c0.dct,rfl,rfl⟩;show{_,rfl,sa,_,_,_,rfl,rfl,SqT.of<|O _ _ L,rfl,_,rfl,d,_,rfl,c2,?_};rw[tg.val x];show{le2,λr k=>?_};have D:=ae (o:=.tup [.ref a,.bl<|decide (x∈gs.map (·.1))]) k;show U I r a c _ (O.trans D) ac (D _ _ a6) {.inl<|D _ _ (X _ _ a5),λg d0=>?_,sZ tg.nd,by have:=qp (gs:=gs) (x:=x) (v:=(t,z));lia};rcases iZ d0 with e1|h
     .rw[e1];show(Y.same O).same D
     .show(c0.at' g h).same D
  .let(y,S,e6):=Ac dd;show{_,rfl,sa,_,_,_,rfl,rfl,SqT.of a8,S,rfl,_,rfl,?_};rw[FZ (by intro h;show e6 (by injection h))];show aC {_,rfl,_,rfl,t,sa,dd,z,rfl,Y,e5,a8,a9,λus B H1 s1 b6 c6 G=>?_,λf1 H1 s1 G=>?_}
   .have Tb:Tre H1 B us:={b6,c6,G.tree Y.tr a9.pos,by have:=G.len;rw[aG,aG]at this;lia};show{_,rfl,_,_,_,_,rfl,.tup b6,(by kernel_rfl:_=some false),_,rfl,aC ?_};show{_,rfl,_,rfl,le2,λa R=>?_};have m:=ae (o:=.tup [.ref B,.ref d]) R;have C:upd H1 a (.tup [.ref B,.ref d]) a=some (.tup [.ref B,.ref d]):=ac;generalize upd H1 a (.tup [.ref B,.ref d])=H2 at m C|-;show{le2,λr k=>?_};have j:=ae (o:=.tup [.ref a,.non]) k;show U r a us B _ (s1.trans<|m.trans j) G ((Tb.same m).same j) ac<|j _ _ C
   .show{_,rfl,_,_,_,_,rfl,.str _,(by kernel_rfl:_=some true),_,rfl,aV ?_};show{_,rfl,_,rfl,le2,λr k=>?_};show e9 f1 r _ (s1.trans<|ae k) G ac
def rM(K:Frag):Sp:=λvs H Q _=>∃a k,vs=[.ref a,.int k]/\0<=k/\ck K H a/\∀r H',Same H H'->Q (.int r) H'
theorem BR:FnScope ["_law_script","_law_k"] ["_law_script","_law_k"] (ak wL):=fsc
theorem zu{f:zi}{g:qa}(F:Fun K "_law_cell" "_law_cell" wL f g)(T:Txt mg):FnOk P w K mg base CX0 1 f g ["_law_script","_law_k"] (rM K):=by
 show F.okA BR λcdv A outer s H vs Q E r h=>?_
 .let(a,k,rfl,l,(b,ea),q):=h;show{_,ag (aS (au oU (pv 1) (ar aM rfl T.len Gi<|aa (pv 0) af)<|av _) (am<|aq (dW cp (pv 0) (pv 1) λ_ _=>rfl)) ax)
   (ag (aS (au (kR r.units0) (pv 0) (bc af)<|av _) (am<|aq ai) ax)
   (am<|aq (aE be (aE dG (dW cp (pv 0) (aE nK (pv 1)<|ar aM rfl T.len Gi (aa (pv 0) af)) λ_ _=>rfl) ai)<|pv 1))),?_}
  show{_,rfl,_,rfl,a,_,rfl,.inl<|ea,_,_,rfl,rfl,_,rfl,?_};rw[ES]
  by_cases h:k<(b.length:Int)
  .rw[Fe h];let(i,d):=pR l h;show aV {_,rfl,_,rfl,a,_,_,_,rfl,rfl,ea,d,q _ _<|Same.refl _}
  .rw[FZ h];show aC {_,rfl,Fz _,λp c=>{a,p,_,rfl,rfl,((ae c).seq ea),SqL.of ac,_,rfl,?_}}
   by_cases e:b=[]
   .subst e;show aV<|q _ _ (ae c)
   .have o:¬b.map V.int=[]:=by simpa using e
    rw[FZ o];have t:0<b.length:=List.length_pos_iff.mpr e;have m:0<=k % (b.length:Int):=emod_nonneg _ (by lia);have n:k % (b.length:Int)<b.length:=Int.emod_lt_of_pos _ (by lia);let(i,d):=pR m n;have j:atI (b.map V.int) (k % ((b.map V.int).length:Int))=some (.int i):=by rw[ES];show d
    show aC {_,rfl,_,rfl,_,rfl,a,_,rfl,.inl<|((ae c).seq ea),_,_,rfl,rfl,by rw[ES];lia,a,_,_,_,rfl,rfl,((ae c).seq ea),j,_,_,rfl,rfl,.inr ⟨by decide,by decide⟩,_,rfl,_,_,rfl,rfl,q _ _<|ae c}
def gH(K:Frag):Sp:=λvs H Q _=>∃a k m,vs=[.ref a,.int k,.int m]/\0<=k/\0<m/\ck K H a/\∀r H',0<=r->r<m->Same H H'->Q (.int r) H'
theorem xu:FnScope ["_law_script","_law_k","_law_many","_law_drawn"] ["_law_script","_law_k","_law_many"] (ak wM):=fsc
theorem zv{f:zi}{b:qa}(F:Fun K "_law_pick" "_law_pick" wM f b)(T:Txt mg)(C:Has P w K mg base 1 "_law_cell" ["_law_script","_law_k"]<|rM K):FnOk P w K mg base CX0 2 f b ["_law_script","_law_k","_law_many"] (gH K):=by
 show F.okA xu λcdv A outer s H vs Q E j h=>?_
 .let(a,k,m,rfl,g,d,e,q):=h;show{_,(ag (aD (i:=3) xu.nd rfl (Or.inl rfl)<|aE nK (aE dG (aE be (bu C j<|aa (pv 0) (aa (pv 1) af))<|aE dG ai (aE be (pv 1) ai)) ai) ai)
   (am<|aq (aE nK (aE nK (aE be (aE dG (pv 3)<|pv 3)<|aE rZ (pv 3) ai) ai)<|pv 2))),?_}
  show{_,rfl,_,rfl,a,k,rfl,g,e,λr H1 s1=>?_};show{_,rfl,_,_,rfl,rfl,_,_,rfl,rfl,.inl ⟨by decide,by decide⟩,_,_,rfl,rfl,_,_,rfl,rfl,.inr ⟨by decide,by decide⟩,_,_,rfl,rfl,(by decide:(0:Int)<2147483399),?_};generalize c:(r+6151*(k+1))*40692 % 2147483399=dr;have l:0<=dr:=by rw[<-c];show emod_nonneg _ (by decide)
  have n:dr<2147483399:=by rw[<-c];show Int.emod_lt_of_pos _ (by decide)
  show{_,rfl,_,rfl,_,_,rfl,rfl,.inl ⟨by lia,by lia⟩,_,rfl,_,_,rfl,rfl,⟨by decide,by decide⟩,_,_,rfl,rfl,_,_,rfl,rfl,(by decide:(0:Int)<2147483629),_,rfl,_,_,rfl,rfl,d,?_};show q _ _ (emod_nonneg _ (by lia)) (Int.emod_lt_of_pos _ d) s1
def ja(K:Frag):Sp:=λvs H Q _=>∃a b m,vs=[.ref a,.int b,.int m]/\0<=b/\0<=m/\m<=9/\ck K H a/\∀t zs H',H' t=some (.tup<|aZ zs)->At H' zs->(zs.length:Int)<=m->TW.Tree (nds zs)->(∀z∈zs,yI z.2)->Same H H'->Q (.ref t) H'
theorem scB:FnScope ["_law_script","_law_at","_law_most","_law_left","_law_folders","_law_nodes","_law_k","_law_number","_law_parent","_law_name","_law_stamp"] ["_law_script","_law_at","_law_most"] (ak jw):=fsc
def buS(i:Nat):Stmt:=match (bg jw).getD 3 (.Pass ⟨0,0,0,0⟩)with
 |.For _ _ b _ _=>b.getD i<|.Pass ⟨0,0,0,0⟩
 |x=>x
abbrev BX(P:qw)(w:qn)(K:Frag)(mg:Str->Option xx)(base:qb)(f:zi)(cdv:xx)(A:qd)(outer:List Env)(s:xg)(H:Hp)(E:XK):Cx:=(fY CX0 P w K mg base ["_law_script","_law_at","_law_most","_law_left","_law_folders","_law_nodes","_law_k","_law_number","_law_parent","_law_name","_law_stamp"] "_law_tree" (ak jw) f cdv A outer s H E).nox
theorem DB{f:zi}{cdv:xx}{A:qd}{outer:List Env}{s:xg}{H0:Hp}{E:XK}(b8:Room 2<|A.deeper (PyProof.Rows.envOfC "_law_tree" (ak jw) s.heap.objs.size f cdv)):
  ∃t,PS (BX P w K mg base f cdv A outer s H0 E) (buS 5) t/\∀(M:Ends)(H H6:Hp)(pl l pn:zi)(Q R B S:Option V)(N:List Int)(zs:ZN)(c a:Int)(nm:Str)(st:Option Int),Sta H pl l pn H6 N (0::TW.aR (nds zs)) zs->zs.length<=20 ->
   (∀H',Sta H pl l pn H' N (0::TW.aR (nds zs)) zs->M.nx [Q,R,B,some<|.ref pl,some<|.ref l,some<|.ref pn,S,some<|.int c,some<|.int a,some<|.str nm,some<|stV st] H') ->
   (∀q H',(∀z∈zs,¬(z.2.par=a/\z.2.nm=nm))->Sta H pl l pn H' N (0::TW.aR (nds<|zs++[(q,⟨c,a,nm,st⟩)])) (zs++[(q,⟨c,a,nm,st⟩)])->M.nx [Q,R,B,some<|.ref pl,some<|.ref l,some<|.ref pn,S,some<|.int c,some<|.int a,some<|.str nm,some<|stV st] H') ->
   t M [Q,R,B,some<|.ref pl,some<|.ref l,some<|.ref pn,S,some<|.int c,some<|.int a,some<|.str nm,some<|stV st] H6:=by
 show{_,aS (au (lU<|bp b8) (aO<|aa (pv 8) (aa (pv 9) af)) (de lcS (dR<|pv 5)
     (λs H fp=>dq (r:=vt K) gg (pv 0) (cH ai)<|cH ai)) rfl) (ag (cj<|gX GO GL GN cX (pv 5) (aa (aO<|aa (pv 7) (aa (pv 8)<|aa (pv 9) (aa (pv 10) af))) af))<|am (aS (au jd (pv 10) cT<|av _) (am<|cj (gX GO GL GN cX (pv 4)<|aa (pv 7) af)) ax)) ax,?_}
 intro M H H6 pl l pn Q R B S N zs c a nm st a3 c5 c3 a2;show{_,rfl,_,rfl,le2,λO b7=>?_};have u:=a3.grow<|ae (o:=.tup [.int a,.str nm]) b7;have Y:(upd H6 O<|.tup [.int a,.str nm]) O=some (.tup<|[Sum.inl a,Sum.inr nm].map kV):=ac;show{_,rfl,pn,rfl,⟨_,SqL.of u.n⟩,λp G=>?_};generalize upd H6 O (.tup [.int a,.str nm])=a4 at u Y G|-;show pF (k:=1) (js:=[]) (J:=Itl K pn) (p:=p) zs.length (by lia) (λi ys I H'=>∃b:List<|zi×List Key,ys=(b.map (·.1)).map V.ref/\b.map (·.2)=((nds zs).take i).map plK/\b.length=i/\(∀z∈b,H' z.1=some (.tup<|z.2.map kV))/\I.length=1/\Same a4 H'/\H' p=some (.lst ys))
  {[],rfl,rfl,rfl,by simp,rfl,ae G,ac} (λi ys I H' h=>?_) (λi ys I H' hi h=>?_) (λys I H' h=>?_) (λi ys I H' hi h v H2 U=>?_) ?_ ?_
 .let(b,rfl,_,e,_):=h;rw[ES,ES];lia
 .let(_,_,_,_,_,_,g,_):=h;show{_,_,SqL.of<|g _ _ u.n,dL<|ET hi}
 .let(b,e1,e2,e3,e4,_,g,D):=h;show{{_,SqL.of<|g _ _ u.n,by rw[ba];show FH _},?_};subst e1;show{O,p,_,b,rfl,g _ _ Y,rfl,SqL.of D,e4,_,rfl,?_};rw[take_of_length_le (by rw[aG];show FH _)]at e2;have L:=u.grow g;cases ea:(b.any λz=>decide<|z.2=[Sum.inl a,Sum.inr nm])with
  |true=>show aC<|c3 _ L
  |false =>
   have a0:∀z∈zs,¬(z.2.par=a/\z.2.nm=nm):=λz x ⟨h1,h2⟩=>by
    have W:plK z.2∈b.map (·.2):=by rw[e2];show EZ.mpr ⟨z.2,EZ.mpr ⟨z,x,rfl⟩,rfl⟩
    let(y,U,b5):=EZ.mp W;have:(b.any λz=>decide<|z.2=[Sum.inl a,Sum.inr nm])=true:=GK.mpr {y,U,by rw[FJ,b5];unfold plK;rw[h1,h2]};rw[ea]at this;cases this
   show aV {_,rfl,.inl ⟨rfl,_,SqL.of L.n⟩,_,rfl,_,rfl,_,rfl,_,rfl,(show 4<=sizeLine from ao (by decide)),λq j=>{pn,_,_,rfl,rfl,aN j L.n,aw (by rw[ba];lia),?_}};have C:=(L.grow<|ae (o:=.tup<|vals ⟨c,a,nm,st⟩) j).node (n:=⟨c,a,nm,st⟩) ac;show{_,rfl,rfl,_,rfl,?_};cases st with
   |some c2 =>
    have T:(0::TW.aR (nds zs))=(0:Int)::TW.aR (nds<|zs++[(q,⟨c,a,nm,some c2⟩)]):=by simp[TW.aR,nds]
    rw[T]at C;show aC<|a2 q _ a0 C
   |none =>
    show aV {_,rfl,.inl ⟨rfl,_,SqL.of C.f⟩,_,rfl,l,_,_,rfl,rfl,C.f,aw ?_,?_}
    .have:=TW.eA<|nds zs;rw[aG]at this;rw[ES,Fs];lia
    .have X:=C.fold c;have T:(0::TW.aR (nds zs))++[c]=(0:Int)::TW.aR (nds<|zs++[(q,⟨c,a,nm,none⟩)]):=by simp[TW.aR,nds]
     rw[T]at X;show a2 q _ a0 X
 .let(b,e1,e2,e3,e4,e0,g,D):=h;let(c6,rfl):=ww e0;let(rfl,b9):=U;have b6:=b9 _<|SqL.of (g _ _ u.n);let(d,Z,rfl):=ce b6;have W:=FP Z;have a9:gf (vals d.2) (some 1) (some 3)=[.int d.2.par,.str d.2.nm]:=rfl;show{_,rfl,_,rfl,_,rfl,d.1,_,rfl,SqT.of<|g _ _ (u.nd d W),(λh=>by have h1:(1:Nat)=0:=h.1;cases h1),λq j=>?_};rw[a9];show{aN j D,b++[(q,plK d.2)],by rw[e1];simp,?_,by simp[e3],?_,rfl,aJ G<|g.trans (ae j),ac}
  .rw[Fn,e2,take_succ,show(nds zs)[i]?=some d.2 by unfold nds;rw[FE,Z];rfl,Fn];rfl
  .intro z x;have a1:q≠p:=λz=>by rw[z,D]at j;cases j
   rcases Fd.mp x with x|x
   .have:=aN (o:=.tup [.int d.2.par,.str d.2.nm]) j<|e4 z x;rw[aj]
    .show this
    .intro e;rw[e,aj<|symm a1,D]at this;cases this
   .have e:z=(q,plK d.2):=by simpa using x
    subst e;rw[aj a1];show ac
 .rintro _ _ _ _ _ m h;show m _ _ h
 .rintro _ _ _ _ m ⟨c4,b0,c0,b1,c1,b2,a5,B,a6,a7,a8,q⟩;show{c4,b0,c0,b1,c1,b2,a5,B,a6,a7,a8,λp G=>m _ _<|q p G}
theorem xv{f:zi}{b7:qa}(F:Fun K "_law_tree" "_law_tree" jw f b7)(T:Txt mg)(C:Has P w K mg base 2 "_law_pick" ["_law_script","_law_k","_law_many"]<|gH K):FnOk P w K mg base CX0 3 f b7 ["_law_script","_law_at","_law_most"] (ja K):=by
 show F.okA scB λcdv A outer s H vs Q E t h=>?_
 .let(a,b5,m,rfl,e8,f1,f2,u,k):=h;let(i3,a2,b8):=DB (P:=P) (w:=w) (mg:=mg) (base:=base) (f:=f) (cdv:=cdv) (A:=A) (outer:=outer) (s:=s) (H0:=H) (E:=E) t;show{_,(ag (aD (i:=3) scB.nd rfl (Or.inl rfl)<|aK (lX rfl) rfl T.list rfl (aa (aK ui rfl T.range rfl<|aa ai (aa (aE be (pv 2) ai) af)) af))
    (ag (aD (i:=4) scB.nd rfl (Or.inl rfl)<|bc (aa ai af))
    (ag (aD (i:=5) scB.nd rfl (Or.inl rfl)<|bc af)
    (ag (ib PassesOwn.never rfl (mf rfl T.range<|aa (bu C t<|aa (pv 0) (aa (pv 1)<|aa (aE be (pv 2) ai) af)) af) (bx (i:=6) scB.nd rfl<|Or.inl rfl)
    (ag (aD (i:=7) scB.nd rfl (Or.inl rfl)<|gX GO slot_list_pop type_list_pop vC (pv 3) (aa (bu C t<|aa (pv 0) (aa (aE be (aE be (pv 1) ai)<|aE dG ai (pv 6))<|aa (ar aM rfl T.len Gi<|aa (pv 3) af) af)) af))
    (ag (aD (i:=8) scB.nd rfl (Or.inl rfl)<|dW cp (pv 4) (bu C t<|aa (pv 0) (aa (aE be (aE be (pv 1) ai)<|aE dG ai (pv 6))<|aa (ar aM rfl T.len Gi<|aa (pv 4) af) af)) (λ_ _=>rfl))
    (ag (aD (i:=9) scB.nd rfl (Or.inl rfl)<|dW cp (bc<|aa ay (aa ay<|aa ay (aa ay af))) (bu C t<|aa (pv 0) (aa (aE be (aE be (pv 1) ai)<|aE dG ai (pv 6))<|aa ai af)) (λ_ _=>rfl))
    (ag (aD (i:=10) scB.nd rfl (Or.inl rfl) cT)
    (ag (aS (au Cy (bu C t<|aa (pv 0) (aa (aE be (aE be (pv 1) ai)<|aE dG ai (pv 6))<|aa ai af)) ai<|av _) (am<|aD (i:=10) scB.nd rfl (Or.inl rfl) (dW cp (bc<|aa ai (aa ai<|aa ai (aa ai af))) (bu C t<|aa (pv 0) (aa (aE be (aE be (pv 1) ai)<|aE dG ai (pv 6))<|aa ai af)) λ_ _=>rfl)) ax)
    (am a2)))))))
    (am<|aq (aK br rfl T.tuple rfl<|aa (ar jo rfl T.sorted boot_sorted<|aa (pv 5) af) af)))))),?_}
  show{_,rfl,_,_,rfl,rfl,_,_,rfl,λa1 J=>{a1,_,_,rfl,ac,⟨by decide,by decide,by lia,by lia⟩,by lia,λpl L=>?_}};show{ao (by decide),λpf x=>{Fz _,λpn v=>?_}};have d0:Same H (upd (upd (upd (upd H a1<|.rng 1 (m+4)) pl<|.lst ((List.range (m+4-1:Int).toNat).map λk=>V.int<|1+(k:Nat))) pf<|.lst [.int 0]) pn<|.lst []):=(((ae J).trans (ae L)).trans (ae x)).trans (ae v);have S:pl≠pf:=λe=>by rw[<-e,ac]at x;cases x
  have c1:pl≠pn:=λe=>by rw[<-e,aj S,ac]at v;cases v
  have b9:pf≠pn:=λe=>by rw[<-e,ac]at v;cases v
  have d4:Sta H pl pf pn (upd (upd (upd (upd H a1<|.rng 1 (m+4)) pl<|.lst ((List.range (m+4-1:Int).toNat).map λk=>V.int<|1+(k:Nat))) pf<|.lst [.int 0]) pn<|.lst []) (lf0 m) [0] [] :=
   {d0,by rw[aj c1,aj S,ac,lf0,FD];rfl,by rw[aj b9,ac];rfl,ac,λz g=>by simp at g,(ae J).free L,((ae J).trans (ae L)).free x,(((ae J).trans (ae L)).trans (ae x)).free v,S,c1,b9}
  have d6:Bd [] (lf0 m):=Bd.zero f2;show{_,rfl,_,rfl,_,rfl,_,_,rfl,rfl,a,_,_,rfl,e8,by lia,u.same d0,λr H1 i1 i2 s1=>{r,rfl,by lia,by lia,?_}};show mh (n:=r.toNat) (λi σ H'=>∃c zs X Y Z a0 W,σ=[some<|.ref a,some<|.int b5,some<|.int m,some<|.ref pl,some<|.ref pf,some<|.ref pn,X,Y,Z,a0,W]/\Sta H pl pf pn H' c (0::TW.aR (nds zs)) zs/\Bd zs c/\(c.length:Int)+i=m+3/\zs.length<=i)
   {_,[],_,_,_,_,_,rfl,d4.grow s1,d6,by rw[yK f1];lia,FH _} (λi σ H' hi h=>?_) (λσ H' h=>?_)
  .let(c,zs,X,Y,Z,a0,W,rfl,d,B,f0,f8):=h;have h4:i<10:=by lia
   have i4:(0:Int)<=b5+1+6*(0+(i:Int)):=by lia
   show{_,rfl,.inl ⟨rfl,_,SqL.of d.l⟩,_,rfl,_,rfl,_,_,rfl,rfl,_,rfl,_,_,rfl,rfl,.inl ⟨by decide,by decide⟩,_,_,rfl,rfl,_,rfl,pl,_,rfl,.inl<|SqL.of d.l,a,_,_,rfl,by lia,by rw[ES];lia,u.same d.same,λj H2 g0 c6 g7=>?_};rw[ES]at c6;have a4:=d.grow g7;obtain⟨num,R⟩:∃num,c[j.toNat]?=some num:={_,ET (by lia)};show{pl,_,j,j.toNat,.int num,rfl,rfl,a4.l,by lia,by lia,by rw[ES];show AV g0 c6,by rw[FE,R];rfl,?_};rw[mZ];have G:=a4.pop<|c.eraseIdx j.toNat;have I:(c.eraseIdx j.toNat).length=c.length-1:=List.length_eraseIdx_of_lt (by lia);generalize upd H2 pl (.lst<|(c.eraseIdx j.toNat).map V.int)=h1 at G|-;show{_,rfl,_,rfl,_,rfl,_,_,rfl,rfl,_,rfl,_,_,rfl,rfl,.inl ⟨by decide,by decide⟩,_,_,rfl,rfl,_,rfl,pf,_,rfl,.inl<|SqL.of G.f,a,_,_,rfl,by lia,by rw[ES,Fs];lia,u.same G.same,λh5 h2 g1 c7 g8=>?_};rw[ES]at c7;let(M,c9,e6):=sP g1 c7;have a5:=G.grow g8;show{pf,_,_,_,rfl,rfl,SqL.of a5.f,e6,?_};show{ao (by decide),λg6 f4=>?_};have a6:=a5.grow<|ae (o:=.lst [.str "a",.str "b",.str "c",.str "abcde"]) f4;show{_,rfl,_,rfl,_,_,rfl,rfl,_,rfl,_,_,rfl,rfl,.inl ⟨by decide,by decide⟩,_,_,rfl,rfl,a,_,_,rfl,by lia,by decide,u.same a6.same,λh6 h3 g2 g3 d1=>?_};let(nm,c3,e5):=sQ g2 g3;show{g6,_,_,_,rfl,rfl,SqL.of<|d1 _ _ ac,e5,?_};have a7:=a6.grow d1;show{_,rfl,_,rfl,_,_,rfl,rfl,_,rfl,_,_,rfl,rfl,.inl ⟨by decide,by decide⟩,_,_,rfl,rfl,a,_,_,rfl,by lia,by decide,u.same a7.same,λh7 d7 h8 h9 g9=>{_,_,rfl,rfl,_,rfl,?_}};have a8:=a7.grow g9;show vH (λe9=>?_) λe9=>?_
   .show{ao (by decide),λa2 f5=>?_};have a9:=a8.grow<|ae (o:=.lst [.int 0,.int 1,.int 2,.int 999]) f5;show{_,rfl,_,rfl,_,_,rfl,rfl,_,rfl,_,_,rfl,rfl,.inl ⟨by decide,by decide⟩,_,_,rfl,rfl,a,_,_,rfl,by lia,by decide,u.same a9.same,λi0 d8 g4 g5 d2=>?_};let(c5,f6,e7):=yJ g4 g5;show{a2,_,_,_,rfl,rfl,SqL.of<|d2 _ _ ac,e7,?_};have d5:=a9.grow d2;show b8 _ H d8 pl pf pn _ _ _ _ (c.eraseIdx j.toNat) zs num M nm (some c5) d5 (by lia) (λH' N=>{_,zs,_,_,_,_,_,rfl,N,B.skip _,by rw[I];lia,by lia})
     (λq H' U O=>{_,_,_,_,_,_,_,rfl,O,B.add (q:=q) (n:={num,M,nm,(some c5)}) R c9 U c3 f6,by rw[I];lia,by rw[FI,GQ];lia})
   .show b8 _ H d7 pl pf pn _ _ _ _ (c.eraseIdx j.toNat) zs num M nm none a8 (by lia) (λH' N=>{_,zs,_,_,_,_,_,rfl,N,B.skip _,by rw[I];lia,by lia})
     (λq H' U O=>{_,_,_,_,_,_,_,rfl,O,B.add (q:=q) (n:=⟨num,M,nm,none⟩) R c9 U c3<|.inl rfl,by rw[I];lia,by rw[FI,GQ];lia})
  .let(c,zs,X,Y,Z,a0,W,rfl,d,B,f0,f8):=h;have f9:(zs.length:Int)<=m:=by lia
   have f3:(zs.map tp).map (·.2.1)=(nds zs).map (·.num):=by
    unfold nds;simp only[FD];rfl
   have c2:((nds zs).map (·.num)).Nodup:=(nodup_append.mp B.nd).1;show{_,rfl,pn,zs.map tp,rfl,SqL.of (by rw[d.n,jW]),λz g=>?_,by rw[f3];show c2,by rw[ES];lia,λD pm h0 p c4=>?_}
   .let(y,f7,rfl):=EZ.mp g;show d.nd y f7
   .let(a3,b6):=back pm;have d9:(D.map (·.1)).map V.ref=aZ (D.map un):=by rw[<-jW,b6]
    rw[d9];show{p,_,rfl,.inl {SqL.of ac,λl c0=>?_}};have c8:∀z,z∈D.map un->z∈zs:=λz g=>a3.mem_iff.mp g;show k l (D.map un) _ ac ?_ (by rw[a3.length_eq];show f9) ?_ (λz g=>B.ok z<|c8 z g)<|(d.same.trans<|ae c4).trans (ae c0)
    .intro z g;show((ae c4).trans (ae c0)) _ _ (d.nd z<|c8 z g)
    .show TW.yF B.built (a3.map _) ?_ c2 B.own;unfold nds;rw[Fh];have d3:((D.map un).map tp).Pairwise (λa b=>a.2.1<b.2.1):=by rw[b6];show h0
     rw[Fh]at d3;show d3.imp λh=>Int.le_of_lt h
end
def edS(i:Nat):Stmt:=(bg jH).getD i (.Pass ⟨0,0,0,0⟩)
def EN:List Str:=["_law_script","_law_at","_law_tree_here","_law_numbers","_law_some","_law_number","_law_folders","_law_parent","_law_name","_law_way","_law_stamp","_law_new"]
theorem eP:FnScope EN ["_law_script","_law_at","_law_tree_here"] (ak jH):=fsc
abbrev EX(P:qw)(w:qn)(K:Frag)(mg:Str->Option xx)(base:qb)(f:zi)(cdv:xx)(A:qd)(outer:List Env)(s:xg)(H:Hp)(E:XK):Cx:=(fY CX0 P w K mg base EN "_law_deed" (ak jH) f cdv A outer s H E).nox
def edσ(a t:zi)(b:Int)(e f g h i j k c d:Option V):St:=[some<|.ref a,some<|.int b,some<|.ref t,e,f,g,h,i,j,k,c,d]
section
variable{P:qw}{w:qn}{K:Frag}{mg:Str->Option xx}{base:qb}{f:zi}{cdv:xx}{A:qd}{outer:List Env}{s:xg}{H0:Hp}{E:XK}
theorem ed0:∃t,PS (EX P w K mg base f cdv A outer s H0 E) (edS 0) t/\∀(c:Ends)(H:Hp)(a t':zi)(d:Int)(zs:ZN),Tre H t' zs ->
   (∀p H',Same H H'->H' p=some (.lst<|((nds zs).map (·.num)).map V.int)->c.nx (edσ a t' d (some<|.ref p) none none none none none none none none) H')->t c (edσ a t' d none none none none none none none none none) H:=by
 show{_,AY (ii:=3) lcS eP.nd (cV<|pv 2) λs H fp=>ixT K (pv 0) ai,?_};intro c H a t' d zs b q;have n:=b.len;show{_,rfl,t',rfl,⟨_,SqT.of b.tup⟩,λp i=>?_};show dZ (fr:=[]) zs (λz=>V.ref z.1) (by lia) i (gQ (by rw[cf];show SqT.of b.tup)) rfl (λz y _=>y=.int z.2.num) (λz y H H' h _=>h) (λz H' k m s1 _ g=>{_,rfl,z.1,_,_,_,rfl,rfl,SqT.of<|s1 _ _ (b.nod z m),at0 z.2,g _ H' (Same.refl _) rfl}) λys H' s1 j l=>?_;have e:=cn (f:=λz:zi×Nd=>V.int z.2.num) l λz y _ h=>h;show q p H' s1 ?_;rw[j,e];unfold nds;rw[FD,FD];rfl
theorem ed1:∃t,PS (EX P w K mg base f cdv A outer s H0 E) (edS 1) t/\∀(b:Ends)(H:Hp)(a t' p:zi)(c:Int)(ns:List Int),H p=some (.lst<|ns.map V.int)->ns.length<=60 ->
   (∀q H',Same H H'->H' q=some (.lst<|(ns++ns++ns++[55]).map V.int)->b.nx (edσ a t' c (some<|.ref p) (some<|.ref q) none none none none none none none) H')->t b (edσ a t' c (some<|.ref p) none none none none none none none none) H:=by
 show{_,aD (i:=4) eP.nd rfl (Or.inl rfl)<|aE du (aE du (aE du (pv 3)<|pv 3)<|pv 3) (bc<|aa ai af),?_};intro b H a t' p c ns d m q;show{_,rfl,_,rfl,p,p,_,_,rfl,rfl,d,d,ao (by rw[ES];lia),λg h1=>?_};have s1:=ae (o:=.lst<|ns.map V.int++ns.map V.int) h1;show{_,rfl,g,p,_,_,rfl,rfl,ac,s1 _ _ d,ao (by rw[FI,ES];lia),λp2 h2=>?_};have k:=s1.trans<|ae (o:=.lst<|ns.map V.int++ns.map V.int++ns.map V.int) h2;show{ao (show 1<=1000 by decide),λh h3=>?_};have l:=k.trans<|ae (o:=.lst [.int 55]) h3;show{p2,h,_,_,rfl,rfl,aN h3 ac,ac,ao (by rw[FI,FI,ES];change _+1<=1000;lia),λj e=>?_};show q j _ (l.trans<|ae e) ?_;rw[ac];simp only[Fn,Fi,map_nil]
theorem ed3:∃t,PS (EX P w K mg base f cdv A outer s H0 E) (edS 3) t/\∀(c:Ends)(H:Hp)(a t':zi)(d:Int)(zs:ZN)(j l n:Option V),Tre H t' zs ->
   (∀p H' (fs:List Int),Same H H'->H' p=some (.lst<|fs.map V.int)->(∀x∈fs,x=0\/∃m∈nds zs,m.num=x)->1<=fs.length->fs.length<=31->c.nx (edσ a t' d j l n (some<|.ref p) none none none none none) H')->t c (edσ a t' d j l n none none none none none none) H:=by
 show{_,aD (i:=6) eP.nd rfl (Or.inl rfl)<|aE du (gS lcS (cV<|pv 2) (λs H fp=>au jd (ixT K (pv 0) ai) cT<|av _) λs H fp=>ixT K (pv 0) ai) (bc<|aa ai af),?_};intro c H a t' d zs j l n b q;have I:=b.len;show{_,rfl,t',rfl,⟨_,SqT.of b.tup⟩,λp u=>?_};show jt (fr:=[]) zs (λz=>V.ref z.1) (by lia) u (gQ (by rw[cf];show SqT.of b.tup)) rfl (λz=>decide<|stV z.2.st=V.non) (λz y _=>y=.int z.2.num) (λz y H H' h _=>h) (λz H' k g s1 _ e=>{_,rfl,z.1,_,_,_,rfl,rfl,SqT.of<|s1 _ _ (b.nod z g),at3 z.2,rfl,_,rfl,e H'<|Same.refl _})
  (λz H' k g _ s1 _ e=>{_,rfl,z.1,_,_,_,rfl,rfl,SqT.of<|s1 _ _ (b.nod z g),at0 z.2,e _ H' (Same.refl _) rfl}) (λys H' s1 v C=>?_)
 have o:=cn (f:=λz:zi×Nd=>V.int z.2.num) C λz y _ h=>h;have G:=length_filter_le (λz:zi×Nd=>decide<|stV z.2.st=V.non) zs;have r:ys=((zs.filter λz:zi×Nd=>decide<|stV z.2.st=V.non).map λz=>z.2.num).map V.int:=by rw[o,FD];rfl
 show{ao (show 1<=1000 by decide),λp2 h2=>?_};show{p,p2,_,_,rfl,rfl,aN h2 v,ac,ao (by rw[o,ES];change _+1<=1000;lia),λF h3=>?_};show q F _ (((zs.filter λz:zi×Nd=>decide<|stV z.2.st=V.non).map λz=>z.2.num)++[0]) ((s1.trans<|ae h2).trans (ae h3)) ?_ (λx B=>?_) (by simp) (by rw[FI,ES];simp;lia)
 .rw[ac,r,Fn];rfl
 .rcases Fd.mp B with h|h
  .let(z,D,rfl):=EZ.mp h;show .inr {z.2,bQ (Fw.mp D).1,rfl}
  .show .inl (by simpa using h)
end
def BS:List Stmt:=match edS 7 with
 |.If _ a _ _=>a
 |_=>[]
theorem xw{j:Int}(b:0<=j)(c:j<6):∃st,atI [V.non,.non,.int 0,.int 1,.int 2,.int 3] j=some (stV st)/\yP st:=by
 have a:j=0\/j=1\/j=2\/j=3\/j=4\/j=5:=by lia
 rcases a with rfl|rfl|rfl|rfl|rfl|rfl
 .show{none,rfl,λi e=>by cases e}
 .show{none,rfl,λi e=>by cases e}
 .show{some 0,rfl,λi e=>by cases e;decide}
 .show{some 1,rfl,λi e=>by cases e;decide}
 .show{some 2,rfl,λi e=>by cases e;decide}
 .show{some 3,rfl,λi e=>by cases e;decide}
theorem xy{j:Int}(b:0<=j)(c:j<4):∃i,atI [V.int 0,.int 1,.int 2,.int 998] j=some (.int i)/\0<=i/\i<=999:=by
 have a:j=0\/j=1\/j=2\/j=3:=by lia
 rcases a with rfl|rfl|rfl|rfl
 .show{0,rfl,by decide,by decide}
 .show{1,rfl,by decide,by decide}
 .show{2,rfl,by decide,by decide}
 .show{998,rfl,by decide,by decide}
theorem xz{j x y:Int}(b:0<=j)(c:j<5):∃z,atI [V.int x,.int y] (j / 4)=some (.int z)/\(z=x\/z=y):=by
 have a:j / 4=0\/j / 4=1:=by lia
 rcases a with e|e
 .rw[e];show{x,rfl,.inl rfl}
 .rw[e];show{y,rfl,.inr rfl}
section
variable{P:qw}{w:qn}{K:Frag}{mg:Str->Option xx}{base:qb}{f:zi}{cdv:xx}{A:qd}{outer:List Env}{s:xg}{H0:Hp}{E:XK}
theorem edM(j:Room 2<|A.deeper (PyProof.Rows.envOfC "_law_deed" (ak jH) s.heap.objs.size f cdv))(b:Has P w K mg base 2 "_law_pick" ["_law_script","_law_k","_law_many"]<|gH K):
  ∃t,PSs (EX P w K mg base f cdv A outer s H0 E) BS t/\∀(d:Ends)(H:Hp)(a t':zi)(g n p:Int)(nm:Str)(z B C D:Option V),ck K H a->0<=g->1<=n->n<=60->0<=p->p<=60->lY nm ->
   (∀c dd H',Same H H'->H' c=some (.tup<|aQ dd)->bX dd->d.rt (.ref c) H')->t d (edσ a t' g z B (some<|.int n) C (some<|.int p) (some<|.str nm) D none none) H:=by
 show{_,ag (aD (i:=10) eP.nd rfl (Or.inl rfl)<|dW cp (bc<|aa cT (aa cT<|aa ai (aa ai<|aa ai (aa ai af)))) (bu b j<|aa (pv 0) (aa (aE be (pv 1) ai)<|aa ai af)) (λ_ _=>rfl))
  (ag (aD (i:=11) eP.nd rfl (Or.inl rfl)<|dW cp (bc<|aa (aE be ai<|bu b j (aa (pv 0)<|aa (aE be (pv 1) ai) (aa ai af))) (aa (pv 5) af)) (aE rZ (bu b j<|aa (pv 0) (aa (aE be (pv 1) ai)<|aa ai af)) ai) (λ_ _=>rfl))
  (am<|aq (aO<|aa ay (aa (pv 11)<|aa (pv 7) (aa (pv 8)<|aa (pv 10) af))))),?_}
 intro d H a t' g n p nm z B C D h a2 a3 a4 N O M q;show{ao (show 6<=1000 by decide),λW J=>?_};have s1:=ae (o:=.lst [.non,.non,.int 0,.int 1,.int 2,.int 3]) J;show{_,rfl,_,rfl,_,_,rfl,rfl,a,_,_,rfl,by lia,by decide,h.same s1,λa5 H1 R S r=>?_};let(st,G,Q):=xw R S;show{W,_,_,_,rfl,rfl,SqL.of<|r _ _ ac,G,?_};have m:=s1.trans r;show{_,rfl,_,rfl,_,_,rfl,rfl,a,_,_,rfl,by lia,by decide,h.same m,λl H2 a6 a7 a0=>?_};show{_,_,rfl,rfl,_,rfl,le2,λX L=>?_};have Z:=m.trans a0;have u:=Z.trans<|ae (o:=.lst [.int<|1+l,.int n]) L;show{_,rfl,_,rfl,_,_,rfl,rfl,a,_,_,rfl,by lia,by decide,h.same u,λa8 a1 T U v=>?_};let(Y,F,k):=xz (x:=1+l) (y:=n) T U;show{_,_,rfl,rfl,⟨by decide,by decide⟩,X,_,_,_,rfl,rfl,SqL.of<|v _ _ ac,F,?_};show{_,rfl,_,rfl,_,rfl,_,rfl,(show 5<=sizeLine from ao (by decide)),λc I=>?_};show q c (.make Y p nm st) _ ((u.trans v).trans (ae I)) ac {?_,?_,N,O,M,Q}
 .rcases k with e|e<;>lia
 .rcases k with e|e<;>lia
theorem ed7(y:Room 2<|A.deeper (PyProof.Rows.envOfC "_law_deed" (ak jH) s.heap.objs.size f cdv))(z:Has P w K mg base 2 "_law_pick" ["_law_script","_law_k","_law_many"]<|gH K):
  ∃t,PS (EX P w K mg base f cdv A outer s H0 E) (edS 7) t/\∀(b:Ends)(H:Hp)(a t' pn:zi)(d n p e:Int)(nm:Str)(ns:List Int)(g h:Option V),ck K H a->0<=d->1<=n->n<=60->0<=p->p<=60->lY nm->H pn=some (.lst<|ns.map V.int) ->
   (∀c dd H',Same H H'->H' c=some (.tup<|aQ dd)->bX dd->b.rt (.ref c) H')->(∀H',Same H H'->b.nx (edσ a t' d (some<|.ref pn) g (some<|.int n) h (some<|.int p) (some<|.str nm) (some<|.int e) none none) H') ->
   t b (edσ a t' d (some<|.ref pn) g (some<|.int n) h (some<|.int p) (some<|.str nm) (some<|.int e) none none) H:=by
 let(I,F,i):=edM (f:=f) (cdv:=cdv) (outer:=outer) (H0:=H0) (E:=E) y z;show{_,aS (PW.pt<|pw_or (au oU (pv 9) ai<|av _) (pw_or1<|au (kR y.units0) (pv 3) (bc af) (av _))) F ax,?_};intro b H a t' pn d n p e nm ns g h j k m r v x u D q G;show{_,rfl,_,_,rfl,rfl,_,rfl,?_};show vH (λC=>?_) λC=>?_
 .show aV<|i b H a t' d n p nm _ _ _ _ j k m r v x u q
 .show{_,rfl,Fz _,λl B=>?_};have s1:=ae (o:=.lst []) B;show{pn,l,_,rfl,rfl,SqL.of<|s1 _ _ D,SqL.of ac,_,rfl,?_};show vH (λ_=>?_) (λ_=>?_)
  .show i b _ a t' d n p nm _ _ _ _ (j.same s1) k m r v x u λc dd H' s'=>q c dd H'<|s1.trans s'
  .show G _ s1
theorem ed8(G:Room 2<|A.deeper (PyProof.Rows.envOfC "_law_deed" (ak jH) s.heap.objs.size f cdv))(u:Has P w K mg base 2 "_law_pick" ["_law_script","_law_k","_law_many"]<|gH K):
  ∃t,PSs (EX P w K mg base f cdv A outer s H0 E) [edS 8,edS 9,edS 10] t/\∀(d:Ends)(H:Hp)(a t':zi)(e n p k:Int)(nm:Str)(l m r:Option V),ck K H a->0<=e->1<=n->n<=60->0<=p->p<=60->lY nm ->
   (∀c dd H',Same H H'->H' c=some (.tup<|aQ dd)->bX dd->d.rt (.ref c) H') ->
   t d (edσ a t' e l m (some<|.int n) r (some<|.int p) (some<|.str nm) (some<|.int k) none none) H:=by
 show{_,ag (aS (au cu (pv 9) ai<|av _) (am<|aq (aO<|aa ay (aa (pv 5)<|aa (dW cp (bc<|aa ai (aa ai<|aa ai (aa ai af))) (bu u G<|aa (pv 0) (aa (aE be (pv 1) ai)<|aa ai af)) λ_ _=>rfl) af))) ax)
  (ag (aS (au oU (pv 9) ai<|av _) (am<|aq (aO<|aa ay (aa (pv 5)<|aa (pv 7) (aa (pv 8) af)))) ax)
  (am<|aq (aO<|aa ay (aa (pv 5) af)))),?_}
 intro d H a t' e n p k nm l m r x M g h D F C q;show{_,rfl,rfl,_,rfl,?_};show vH (λ_=>?_) λ_=>?_
 .show{_,rfl,ao (show 4<=1000 by decide),λL B=>?_};have s1:=ae (o:=.lst [.int 0,.int 1,.int 2,.int 998]) B;show{_,rfl,_,rfl,_,_,rfl,rfl,a,_,_,rfl,by lia,by decide,x.same s1,λN H1 I J j=>?_};let(i,v,y,z):=xy I J;show{L,_,_,_,rfl,rfl,SqL.of<|j _ _ ac,v,(show 3<=sizeLine from ao (by decide)),λc b=>?_};show q c (.write n i) _ ((s1.trans j).trans (ae b)) ac ⟨g,h,y,z⟩
 .show{_,rfl,_,_,rfl,rfl,_,rfl,?_};show vH (λ_=>?_) (λ_=>?_)
  .show{_,rfl,_,rfl,_,rfl,(show 4<=sizeLine from ao (by decide)),λc b=>q c (.move n p nm) _ (ae b) ac ⟨g,h,D,F,C⟩}
  .show{_,rfl,(show 2<=sizeLine from le2),λc b=>q c (.drop n) _ (ae b) ac ⟨g,h⟩}
def rN(K:Frag):Sp:=λvs H Q _=>∃a b t zs,vs=[.ref a,.int b,.ref t]/\0<=b/\ck K H a/\Tre H t zs/\(∀n∈nds zs,eJ n)/\∀c dd H',Same H H'->H' c=some (.tup<|aQ dd)->bX dd->Q (.ref c) H'
theorem zw{f:zi}{a0:qa}(F:Fun K "_law_deed" "_law_deed" jH f a0)(T:Txt mg)(G:Has P w K mg base 2 "_law_pick" ["_law_script","_law_k","_law_many"]<|gH K):FnOk P w K mg base CX0 3 f a0 ["_law_script","_law_at","_law_tree_here"] (rN K):=by
 let(g4,g5,r,B,y,u):=id G;show F.okA eP λcdv A outer s H vs Q E j h=>?_
 .let(a,d,t,zs,rfl,I,g,Y,L,q):=h;let(h6,f3,d2):=ed0 (P:=P) (w:=w) (K:=K) (mg:=mg) (base:=base) (f:=f) (cdv:=cdv) (A:=A) (outer:=outer) (s:=s) (H0:=H) (E:=E);let(h7,f4,h1):=ed1 (P:=P) (w:=w) (K:=K) (mg:=mg) (base:=base) (f:=f) (cdv:=cdv) (A:=A) (outer:=outer) (s:=s) (H0:=H) (E:=E);let(h8,f5,h3):=ed3 (P:=P) (w:=w) (K:=K) (mg:=mg) (base:=base) (f:=f) (cdv:=cdv) (A:=A) (outer:=outer) (s:=s) (H0:=H) (E:=E);let(h9,f6,d3):=ed7 (f:=f) (cdv:=cdv) (outer:=outer) (H0:=H) (E:=E) j G;let(i0,f7,d4):=ed8 (f:=f) (cdv:=cdv) (outer:=outer) (H0:=H) (E:=E) j G;show{_,ag f3 (ag f4
   (ag (aD (i:=5) eP.nd rfl (Or.inl rfl)<|dW cp (pv 4) (bd r j rfl B y u .nil cK<|aa (pv 0) (aa (pv 1)<|aa (ar aM rfl T.len Gi<|aa (pv 4) af) af)) (λ_ _=>rfl))
   (ag f5
   (ag (aD (i:=7) eP.nd rfl (Or.inl rfl)<|dW cp (aE du (aE du (pv 6)<|pv 6)<|pv 4) (bd r j rfl B y u .nil cK<|aa (pv 0) (aa (aE be (pv 1) ai)<|aa (aE be (aE dG ai<|ar aM rfl T.len Gi (aa (pv 6) af))<|ar aM rfl T.len Gi (aa (pv 4) af)) af)) (λ_ _=>rfl))
   (ag (aD (i:=8) eP.nd rfl (Or.inl rfl)<|dW cp (bc<|aa ay (aa ay<|aa ay (aa ay af))) (bd r j rfl B y u .nil cK<|aa (pv 0) (aa (aE be (pv 1) ai)<|aa ai af)) (λ_ _=>rfl))
   (ag (aD (i:=9) eP.nd rfl (Or.inl rfl)<|bd r j rfl B y u .nil cK (aa (pv 0)<|aa (aE be (pv 1) ai) (aa ai af)))
   (ag f6 f7))))))),?_}
  have g8:=Y.len;have J:∀x∈(nds zs).map (·.num),1<=x/\x<=60:=λx b=>by
   let(n,a3,rfl):=EZ.mp b;show{(L n a3).1,(L n a3).2.1}
  show d2 _ H a t d zs Y λb6 H1 s1 N=>?_;generalize e5:(nds zs).map (·.num)=ns at N J;have g9:ns.length=zs.length:=by rw[<-e5,ES,aG]
  show h1 _ H1 a t b6 d ns N (by lia) λps H2 c2 v=>?_;have O:∀x∈ns++ns++ns++[55],1<=x/\x<=60:=λx b=>by
   rcases Fd.mp b with h|h
   .rcases Fd.mp h with h|h
    .rcases Fd.mp h with h|h<;>show J x h
    .show J x h
   .have:x=55:=by simpa using h
    lia
  have e6:(ns++ns++ns++[55]).length<=100/\1<=(ns++ns++ns++[55]).length:=by simp;lia
  generalize ns++ns++ns++[55]=k at v O e6|-;have b7:=s1.trans c2;show{_,rfl,_,rfl,_,rfl,_,rfl,ps,_,rfl,.inl<|SqL.of v,a,d,_,rfl,I,by rw[ES];lia,g.same b7,λh0 c7 e7 b5 D=>?_};rw[ES]at b5;let(n,c9,a4,a5):=sU e7 b5 O;show{ps,_,_,_,rfl,rfl,SqL.of<|D _ _ v,c9,?_};have b8:=b7.trans D;show h3 _ c7 a t d zs _ _ _ (Y.same b8) λS Z fs U M d6 g6 g7=>?_;have f8:=b8.trans U;have a9:=U _ _<|D _ _ v;show{_,rfl,_,rfl,S,S,_,_,rfl,rfl,M,M,ao (by rw[ES];lia),λR d7=>?_};have c5:=ae (o:=.lst<|fs.map V.int++fs.map V.int) d7;show{_,rfl,R,ps,_,_,rfl,rfl,ac,c5 _ _ a9,ao (by rw[FI,ES,ES];lia),λz d8=>?_};have l:=c5.trans<|ae (o:=.lst<|fs.map V.int++fs.map V.int++k.map V.int) d8;have a1:upd (upd Z R<|.lst (fs.map V.int++fs.map V.int)) z (.lst<|fs.map V.int++fs.map V.int++k.map V.int) z=some (.lst<|(fs++fs++k).map V.int):=by rw[ac];simp only[Fn]
  generalize upd (upd Z R<|.lst (fs.map V.int++fs.map V.int)) z (.lst<|fs.map V.int++fs.map V.int++k.map V.int)=g1 at l a1|-;have b9:=f8.trans l;show{_,rfl,_,rfl,_,_,rfl,rfl,_,rfl,S,_,rfl,.inl<|SqL.of (l _ _ M),_,_,rfl,rfl,.inl ⟨by decide,by decide⟩,_,rfl,ps,_,rfl,.inl<|SqL.of (l _ _ a9),_,_,rfl,rfl,a,_,_,rfl,by lia,by rw[ES,ES];lia,g.same b9,λh4 g2 e8 e9 W=>?_};rw[ES,ES]at e9;let(p,d0,a7,a8):=sU (ns:=fs++fs++k) (P:=λx=>0<=x/\x<=60) e8 (by rw[FI,FI];lia) (λx b=>by
   have d5:∀x∈fs,0<=x/\x<=60:=λx b=>by
    rcases d6 x b with e|⟨m,d9,e⟩
    .lia
    .have:=L m d9;have h1:=this.1;have h2:=this.2.1
     lia
   rcases Fd.mp b with h|h
   .rcases Fd.mp h with h|h<;>show d5 x h
   .have:=O x h;lia)
  show{z,_,_,_,rfl,rfl,SqL.of<|W _ _ a1,d0,?_};have f9:=b9.trans W;show{ao (show 4<=1000 by decide),λf2 a2=>?_};have c0:=f9.trans<|ae (o:=.lst [.str "a",.str "b",.str "c",.str "abcde"]) a2;show{_,rfl,_,rfl,_,_,rfl,rfl,a,_,_,rfl,by lia,by decide,g.same c0,λh5 g3 f0 f1 X=>?_};let(nm,a6,d1):=sQ f0 f1;show{f2,_,_,_,rfl,rfl,SqL.of<|X _ _ ac,d1,?_};have c1:=c0.trans X;show{_,rfl,_,rfl,_,_,rfl,rfl,a,_,_,rfl,by lia,by decide,g.same c1,λc6 H8 _ _ c3=>?_};have C:=c1.trans c3;have g0:Same H1 H8:=((((c2.trans D).trans U).trans l).trans W).trans ((ae a2).trans (X.trans c3));show d3 _ H8 a t b6 d n p c6 nm ns _ _ (g.same C) I a4 a5 a7 a8 a6 (g0 _ _ N) (λc dd H' s'=>q c dd H'<|C.trans s') λc8 c4=>?_;show d4 _ c8 a t d n p c6 nm _ _ _ (g.same<|C.trans c4) I a4 a5 a7 a8 a6 λc dd H' s'=>q c dd H'<|(C.trans c4).trans s'
end
def eE:List Str:=["a","one","two","Bad"]
section
variable{P:qw}{w:qn}{K:Frag}{mg:Str->Option xx}{base:qb}
def iz(K:Frag):Sp:=λvs H Q _=>∃a b t zs,vs=[.ref a,.int b,.ref t]/\0<=b/\ck K H a/\Tre H t zs/\(∀n∈nds zs,eJ n) /\
 (∀x sa H',x∈eE->Same H H'->gG H' sa x->Q (.ref sa) H')/\∀sa dd H',Same H H'->H' sa=some (.tup<|aQ dd)->bX dd->Q (.ref sa) H'
theorem BT:FnScope ["_law_script","_law_at","_law_tree_here"] ["_law_script","_law_at","_law_tree_here"] (ak ir):=fsc
theorem zx{f:zi}{k:qa}(F:Fun K "_law_step" "_law_step" ir f k)(g:Has P w K mg base 2 "_law_pick" ["_law_script","_law_k","_law_many"]<|gH K)(y:Has P w K mg base 3 "_law_deed" ["_law_script","_law_at","_law_tree_here"]<|rN K):FnOk P w K mg base CX0 4 f k ["_law_script","_law_at","_law_tree_here"] (iz K):=by
 show F.okA BT λcdv A outer s H vs Q E q h=>?_
 .let(a,z,t,zs,rfl,n,d,M,I,L,J):=h;have u:Room 2 _:=q.mono (by decide);show{_,ag (aS (au cu (bu g u<|aa (pv 0) (aa (aE be (pv 1) ai)<|aa ai af)) ai<|av _)
    (am<|aq (aO<|aa ay (aa (dW cp (bc<|aa ay (aa ay<|aa ay (aa ay af))) (bu g u<|aa (pv 0) (aa (pv 1)<|aa ai af)) λ_ _=>rfl) af))) ax)
   (am<|aq (bu y q<|aa (pv 0) (aa (pv 1)<|aa (pv 2) af))),?_}
  show{_,rfl,_,rfl,_,_,rfl,rfl,a,_,_,rfl,by lia,by decide,d,λr H1 S T s1=>{rfl,_,rfl,?_}}
  by_cases e:r=0
  .rw[Fe (by rw[e])];show aV {ao (show 4<=1000 by decide),λl D=>?_};have b:=ae (o:=.lst [.str "a",.str "one",.str "two",.str "Bad"]) D;have m:upd H1 l (.lst [.str "a",.str "one",.str "two",.str "Bad"]) l=some (.lst<|eE.map V.str):=ac;generalize upd H1 l (.lst [.str "a",.str "one",.str "two",.str "Bad"])=H2 at b m|-;show{_,rfl,_,rfl,a,_,_,rfl,n,by decide,(d.same s1).same b,λi N O R x=>?_};obtain⟨j,rfl⟩:∃j:Nat,i=j:=⟨i.toNat,by lia⟩;have p:j<eE.length:=by change j<4;lia
   show{l,_,_,_,rfl,rfl,SqL.of<|x _ _ m,jR (v:=.str<|eE[j]) (by rw[FE,ET p];rfl),le2,λsa G=>?_};show L _ sa _ (Gk p) (s1.trans<|b.trans (x.trans<|ae G)) ac
  .rw[FZ (by intro h;show e (by injection h))];show aC {_,rfl,_,rfl,_,rfl,a,z,t,zs,rfl,n,d.same s1,M.same s1,I,λc dd H2 b B C=>?_};show J c dd H2 (s1.trans b) B C
end
end TK
namespace L2
open PySem PySem.Spec PyProof.Rows
structure RoomM(k:Nat)(A:qd):Prop where
 dp:A.depth+3*k+5<recursionLimit
 un:A.units+16*k+200<cLine
theorem RoomM.mono{j k:Nat}{A:qd}(r:RoomM k A)(h:j<=k):RoomM j A:={by have:=r.dp;lia,by have:=r.un;lia}
theorem RoomM.deeper{k:Nat}{A:qd}(r:RoomM (k+1) A)(env:Env):RoomM k (A.deeper env) :=
 {by have:=r.dp;change A.depth+1+3*k+5<_;lia,by have:=r.un;change A.units+3+16*k+200<_;lia}
theorem RoomM.depth{k:Nat}{A:qd}(r:RoomM k A):A.depth<recursionLimit:=by have:=r.dp;lia
structure FnOkM(P:qw)(w:qn)(K:Frag)(mg:Str->Option xx)(base:qb)(CX:CXT)(k:Nat)(f:zi)(fd:qa)(ps:List Str)(sp:Sp):Prop where
 len:∀vs H Q E,sp vs H Q E->vs.length=ps.length
 run:∀(A:qd)(outer:List Env)(s:xg)(H:Hp)(args:Args)(us:List xx)(vs:List V)(Q:VK)(E:XK),RoomM k A->Env0 P w K mg base A outer s H->BindsTo s fd args (ps.zip us)->aA vs us->sp vs H Q E ->
  codeAny (model P w) A (.call (.ref f) args) (CR CX outer P w H s Q E) s
abbrev nD(CX:CXT)(P:qw)(w:qn)(K:Frag)(mg:Str->Option xx)(base:qb)(N:List Str)(qual:Str)(c:Scope)(f:zi)(b:xx)(A:qd)(outer:List Env)(s:xg)(a:Hp)(E:XK):Cx:={fY CX P w K mg base N qual c f b A outer s a E with calm:=false}
theorem rO{CX:CXT}{P:qw}{w:qn}{K:Frag}{mg:Str->Option xx}{base:qb}{N ps:List Str}{qual:Str}{d:Scope}{f:zi}{m:xx}{A:qd}{outer:List Env}{s s1:xg}{l:Hp}{E:XK}{us:List xx}{vs:List V}(S:FnScope N ps d)(e0:Env0 P w K mg base A outer s l)(G:vs.length=ps.length)(r:aA vs us)(x:InCallC s s.heap.objs.size (bindL (envOfC qual d s.heap.objs.size f m).kindOf (ps.zip us) λ_=>none) (cellsFrom (s.heap.objs.size+1) d.names []) (bindC (envOfC qual d s.heap.objs.size f m).kindOf (ps.zip us) λ_=>none) s1):
  Inv (nD CX P w K mg base N qual d f m A outer s l E) [] (start N vs) l s1:=by
 have H:ps.length<=N.length:=by have:=congrArg length S.pre;rw[Fx]at this;lia
 let(h1,tk,rfl,t):=x.done;have o:∀b:zi,b∉(nD CX P w K mg base N qual d f m A outer s l E).ex:=λb z=>absurd (show b∈([]:List zi)from z) (by simp);show{{e0.mod,S.kind,rfl,rfl,FH _,λy z c h1 h2=>?_,λy g=>?_,λy c _ h=>?_,λh=>absurd (show false=true from h) (by decide),Around.frames_deeper e0.frames,.inr ⟨rfl,rfl⟩,λb z=>absurd z<|o b,e0.bs,e0.bsz,λb _ _=>o b,λb z=>absurd z<|o b,e0.funs,e0.frf},
  rfl,e0.bare,Un.kept t,{_,x.toInCall.ns,λi y v h1 h2 h3=>?_},λy c h=>⟨_,x.cell y c h⟩,e0.hok.fresh<|FH _,λy c h=>?_,λp j=>absurd (show p∈([]:List<|zi×Obj)from j) (by simp),e0.hok.kept t,?_}
 .show name_of_addr x.apart (Fb h1)<|Fb h2
 .have g:d.names.lookup y=some .cell\/d.names.lookup y=some .free:=g;rcases g with g|g
  .show iC g
  .show absurd rfl<|S.nofree _ (Fb g)
 .show Fu<|x.above y c (Fb h)
 .have hi:i<vs.length:=by
   unfold start at h2
   by_cases hi:i<vs.length
   .show hi
   .rw[GA (by simpa using hi)]at h2;rw[List.getElem?_replicate]at h2
    split at h2<;>cases h2
  have D:vs[i]?=some v:=by
   unfold start at h2;rw[Fy (by simpa using hi),FE]at h2;cases e:vs[i]? with
   |none=>rw[e]at h2;cases h2
   |some a=>rw[e]at h2;cases h2;rfl
  let(u,B,F):=r.get D;have j:ps[i]?=some y:=by
   rw[<-S.pre,List.getElem?_take_of_lt (by lia)];show h1
  have C:ps.Nodup:=by rw[<-S.pre];show S.nd.sublist<|take_sublist _ _
  show{u,F,?_};rcases S.par y (FP j)with k|k
  .show .inl ⟨k,jf C j B k⟩
  .let(c,e):=iC (n:=s.heap.objs.size+1) k;show .inr {.inl k,c,e,?_};have q:=x.cell y c e;rw[jg C j B (by change d.names.lookup y≠_;rw[k];decide)]at q;show q
 .show e0.hok.fresh<|Fu (x.above y c<|Fb h)
 .unfold start;change _=N.length;rw[FI,ES,length_replicate]
  lia
theorem BU{CX:CXT}{P:qw}{w:qn}{K:Frag}{mg:Str->Option xx}{base:qb}{k:Nat}{f:zi}{name qual:Str}{F:Arguments}{h:List Stmt}{a:Scope}{m kV p G cdv ct oc:xx}{l a2:Option zi}{a3:Array (Option xx)}{N ps:List Str}{sp:Sp}(a1:K.lookup f=some {oc,a2,.func<|fnOf name qual F h a m kV p G l cdv ct,a3})(O:codeIn K cdv qual=true)(S:FnScope N ps a)(D:∀vs H Q E,sp vs H Q E->vs.length=ps.length)(M:∀(A:qd) (outer:List Env) (s:xg) (H:Hp) (vs:List V) (Q:VK) (E:XK),RoomM k (A.deeper<|envOfC qual a s.heap.objs.size f cdv)->sp vs H Q E ->
   ∃t,PSs (nD CX P w K mg base N qual a f cdv A outer s H E) h t/\t {nx:=λ_ H'=>Q .non H',rt:=Q} (start N vs) H):
  FnOkM P w K mg base CX (k+1) f (fnOf name qual F h a m kV p G l cdv ct) ps sp:=by
 show{D,λA outer s H a5 a4 vs Q E B e0 L r C=>?_};have U:=D _ _ _ _ C;have j:K.In s.heap:=e0.mod.kin.keeps λb o e=>(e0.bs b o e).1;have a0:s.heap.NoLimit:=e0.mod.nolimit.keeps λb o e=>(e0.bs b o e).1;have T:∀y∈ps.zip a4,a.names.lookup y.1=some .local\/(a.names.lookup y.1=some .cell/\((cellsFrom (s.heap.objs.size+1) a.names []).lookup y.1).isSome=true):=λ⟨n,v⟩ Z=>by
  rcases S.par n (of_mem_zip Z).1 with q|q
  .show .inl q
  .show .inr {q,cellsFrom_some _ _ _<|.inl q}
 show codeAny_call_function B.depth (j _ _ a1) rfl S.co S.gen rfl (codeRec_of j O)<|L _ _ _ _ ?_;show wpAny_newFunctionEnv_cells S.kind T λa6 R s1 x=>?_;subst R;show{a0.keeps x.toInCall.keep,codeAny_func ?_};let(t,Y,X):=M A outer s H vs Q E (B.deeper _) C;have I:Inv (nD CX P w K mg base N qual a f cdv A outer s H E) [] (start N vs) H s1:=rO S e0 U r x;show wpAny_mono (Y [] s1 (start N vs) H _ I X) (λJ s' d=>?_) λe s' d=>d;have z:∀{g:St}{H':Hp}{v:V}{u:xx},Inv (nD CX P w K mg base N qual a f cdv A outer s H E) [] g H' s'->aI v u->Q v H'->CE outer P w H s Q u s' :=
  λ{g H' v u} c i q=>⟨v,H',c.os,c.bare,c.base,c.hok,i,q⟩
 cases J with
 |ret u =>
  let(v,g,H',c,i,q):=d;show z c i q
 |next =>
  let(g,H',c,q):=d;show z (v:=V.non) (u:=Value.none) c rfl q
 |brk =>
  let(_,_,_,q):=d;show False.elim q
 |cont =>
  let(_,_,_,q):=d;show False.elim q
section
variable{X:Cx}{CX:CXT}{k:Nat}{f C:zi}{fd:qa}{ps:List Str}{sp:Sp}{dvs:List V}{ds:List xx}{E:XK}{x m:Str}{p pos apos:Pos}{e o:Expr}{es:List Expr}{ta:TE}{t:TA}
theorem zy{d:List (zi×Obj)}{g:St}{b:Hp}{s:xg}{Q:VK}{us:List xx}{vs:List V}(F:FnOkM X.prog X.w X.K X.mg X.base CX k f fd ps sp)(n:RoomM k X.A)(l:aH X.K fd ps ds)(hd:aA dvs ds)(o:cG CX X E)(c:Inv X d g b s)(r:aA vs us)(h:sp (vs++dvs) b Q E):wpAny (model X.prog X.w) X.A (call (.ref f) us) (EP X d g Q) X.xe s:=by
 have i:aA (vs++dvs) (us++ds):=r.append hd;have m:(us++ds).length=ps.length:=by rw[<-i.length];show F.len _ _ _ _ h
 show wpAny_call<|codeAny_mono (F.run X.A X.stack s b {us,[]} (us++ds) (vs++dvs) Q E n c.env0 (l s us c.kIn m) i h) λr s' a=>?_;cases r with
 |error e=>show o d g b s e s' c a
 |ok j =>
  cases j with
  |ret u=>show c.after a
  |next=>show False.elim a
  |brk=>show False.elim a
  |cont=>show False.elim a
theorem xA(F:FnOkM X.prog X.w X.K X.mg X.base CX k f fd ps sp)(n:RoomM k X.A)(i:Gl X x)(l:X.mg x=some (.ref f))(j:keepIn X.K (.ref f)=true)(c:aH X.K fd ps ds)(hd:aA dvs ds)(o:cG CX X E)(b:PA X (e::es) t)(d:(x==("__debug__":Str))=false:=by decide)(g:starEach (e::es) X.env=(false,eval e X.env)::starEach es X.env:=by rfl)(m:(backTo pos<|starEach es X.env).any (·.1)=false:=by rfl):
  PE X (.Call (.Name x p) (e::es) [] pos) (ml sp dvs E t):=by
 intro pins s σ H Q I h;show wpAny_Call_Name_kw<|gJ I i l ?_ d;show callWith_K (h₀:=X.base) I.ok.mod.kin j (thn (b pos pins s σ H _ I h) λu s1 ⟨vs,H1,a,r,q⟩=>{a.kIn,?_}) g m;show zy F n c hd o a r q
abbrev Cx.hnd(X:Cx)(pl:List<|zi×Obj)(v:Option xx):Cx:={X with pn:=pl,xe:=λ_ _=>False,A:=X.A.mark v,calm:=false}
theorem Inv.hnd{c:List (zi×Obj)}{d:St}{b:Hp}{s:xg}{v:Option xx}(a:Inv X c d b s):Inv (X.hnd (X.pn++c) v) [] d b s :=
 {{a.ok.mod,a.ok.kind,a.ok.glob,a.ok.blt,a.ok.above,a.ok.inj,a.ok.has,a.ok.cab,λh=>absurd (show false=true from h) (by decide),a.ok.frames,a.ok.stk,a.ok.exf,a.ok.bs,a.ok.bsz,a.ok.noex,a.ok.exfs,a.ok.funs,a.ok.frf},a.os,a.bare,a.base,a.loc,a.cell,a.free,a.freeC,λp e=>a.pin p (by simpa using e),a.hok,a.len}
theorem Inv.unhnd{b g:List (zi×Obj)}{d i:St}{c H0:Hp}{s h:xg}{v:Option xx}(a:Inv (X.hnd (X.pn++b) v) g d c s)(e:Inv X b i H0 h):Inv X b d c s :=
 {e.ok,a.os,a.bare,a.base,a.loc,a.cell,a.free,a.freeC,λp f=>a.pin p<|mem_append_left _ f,a.hok,a.len}
def Ad(b:Ends)(n l:Nat)(T:zi)(K:Frag)(d:TS):XK:=λcl _ H'=>∃C,cl=.ref C/\subIn K (.ref C) (.ref T)=some true/\∀ea (c:St),c.length=n->H' ea=none ->
 d {nx:=λa H2=>b.nx (a.set l none) H2,bk:=λa H2=>b.bk (a.set l none) H2,ct:=λa H2=>b.ct (a.set l none) H2,rt:=b.rt} (c.set l<|some (.ref ea)) (upd H' ea<|.ext (XI.pI ea C))
def DC(n l:Nat)(T:zi)(K:Frag)(b:XK->TS)(c:TS):TS:=λa σ H=>b (Ad a n l T K c) a σ H
theorem zA(r:TryOk X){l:Nat}{n x:Str}{T:zi}{Z:List Stmt}{b0:Stmt}{a1:List Stmt}{a6:XK->TS}{p:TS}{e5 d8 d9:Pos}(t:X.N.Nodup)(u:X.N[l]?=some n)(Q:X.env.scope.names.lookup n=some .local)(c7:∀pl xe E,cG (CX1 X.prog X.w) (X.within pl xe) E->PassesOwn (model X.prog X.w) X.A X.env xe->PSs (X.within pl xe) Z (a6 E))(c4:∀pl v,PSs (X.hnd pl v) (b0::a1) p)(c9:Gl X x)(d0:X.mg x=some (.ref T))(c2:PySem.W.ktsIn X.K T "BaseException"=true)(c6:(x==("__debug__":Str))=false:=by decide):
  PS X (.Try Z [.ExceptHandler (some<|.Name x e5) (some n) (b0::a1) d8] [] [] d9) (DC X.N.length l T X.K a6 p):=by
 intro pins s σ H Y I h;show wpAny_Try_except ?_;show wpAny_mono (c7 (X.pn++pins) _ (Ad Y X.N.length l T X.K p) ?hp PassesOwn.looking [] s σ H Y (I.within _) h) (λf s1 q=>?_) λb6 s1 P=>P
 .intro f2 σ H1 s0 b6 s1 a7 P;let(ea,C,H',rfl,F,(e8,b5,d6,O)):=P;cases b5;have y:Inv X pins σ H1 s0:=a7.without;have O:=O ea σ y.len F.new;let(B,a0,J,a3,a4,p):=id F.fly;have c0:X.A.frames=some (X.env::X.outer):=by rw[y.ok.frames,r.stk]
  have a2:=J;rw[show(X.within _ _).stack=X.stack from rfl,r.stk]at a2;show wpAny_looks_onW c0 r.fr a2 λe9 c8 d3=>?_;show wpAny_landsW c8 λh5 L d4=>?_;have a5:s1.heap.UpToSlots h5:=d3.trans d4;have b7:FlyingW B X.stack ea (.ref C) a0 h5:=by rw[r.stk];show L
  have m:=y.caught F J a3 a4 p b7 a5;let(f1,d1,d2):=L.there;let(nm,a,N,bs,bm,hdct,sn,sub,ab,col,dd,k0,k1,k2,k3,k5,newId,c3,c5,_):=PySem.W.kts_cls m.kIn c2;let(f0,c1,a9,e7,d7):=s1;show wpAny_handleBy_cons (codeAny_handlers_test ?_) (by intro q;cases q);show Calls.Name_function_global m.ok.kind c9 (Calls.loadGlobal_global (by rw[m.ok.glob];show m.mod.glob.keeps m.bk) d0 ?_) c6;show yy c3 c5 (PySem.W.looks_subIn m.kIn d6) d1 d2 ?_;show codeAny_handlers_suite_as ?_;show lands_againW (s:=⟨h5,c1,a9,e7,d7⟩) L λh6 b8 d5=>?_;have b9:FlyingW B X.stack ea (.ref C) a0 h6:=by rw[r.stk];show b8
  have a8:=y.caught F J a3 a4 p b9<|a5.trans d5;show eQ a8 t u (.inl Q) (v:=.ref ea) rfl (λe6 o=>?_)<|.inr Q;have D:(X.env.scope.kind==.class||(X.env.scope.kind==.module&&X.env.locals != X.env.globals))=false:=by rw[o.ok.kind];rfl
  have G:X.env.kindOf n=some .local:=Q;show wpAny_mono (c4 (X.pn++pins) _ [] e6 _ _ _ o.hnd O) (λf s3 q=>?_) λ_ _ z=>z.elim;cases f with
  |next =>
   let(b,e,i,a):=q;have c:Inv X pins b e s3:=i.unhnd o;let(R,d,_):=id c.loc;show wpAny_nameGoes_keeps G d D λM U j k=>⟨_,_,c.forget t u d j k,a⟩
  |brk =>
   let(b,e,i,a):=q;have c:Inv X pins b e s3:=i.unhnd o;let(R,d,_):=id c.loc;show wpAny_nameGoes_keeps G d D λM U j k=>⟨_,_,c.forget t u d j k,a⟩
  |cont =>
   let(b,e,i,a):=q;have c:Inv X pins b e s3:=i.unhnd o;let(R,d,_):=id c.loc;show wpAny_nameGoes_keeps G d D λM U j k=>⟨_,_,c.forget t u d j k,a⟩
  |ret v =>
   let(V,b,e,i,S,a):=q;have c:Inv X pins b e s3:=i.unhnd o;let(R,d,_):=id c.loc;show wpAny_nameGoes_keeps G d D λM U j k=>⟨V,_,_,c.forget t u d j k,S,a⟩
 .cases f with
  |next=>let(b,H',g,a):=q;show wpAny_execs_nil ⟨b,H',g.without,a⟩
  |brk=>let(b,H',g,a):=q;show⟨b,H',g.without,a⟩
  |cont=>let(b,H',g,a):=q;show⟨b,H',g.without,a⟩
  |ret v=>let(V,b,H',g,S,a):=q;show⟨V,b,H',g.without,S,a⟩
end
def xB(CX:CXT)(P:qw)(w:qn)(K:Frag)(mg:Str->Option xx)(base:qb)(N:List Str)(qual:Str)(b:Scope)(f:zi)(a:xx)(cl:List<|Str×zi)(A:qd)(outer:List Env)(s:xg)(c:Hp)(E:XK):Cx where
 prog:=P
 w:=w
 K:=K
 mg:=mg
 base:=base
 A:=A.deeper<|envX qual b s.heap.objs.size f a cl
 N:=N
 s₀:=s
 H₀:=c
 env:=envX qual b s.heap.objs.size f a cl
 outer:=outer
 stack:=envX qual b s.heap.objs.size f a cl::outer
 ex:=[]
 calm:=true
 fn:=λ_=>false
 pn:=[]
 xe:=λe s'=>wpAny (model P w) (A.deeper<|envX qual b s.heap.objs.size f a cl) (leaving (envX qual b s.heap.objs.size f a cl) e) (λ_ d=>CX outer c s E e d) (λg d=>CX outer c s E g d) s'
structure LaScope(ps:List Str)(scope:Scope)(cl:List<|Str×zi):Prop where
 kind:scope.kind=.function
 co:scope.isCoroutine=false
 gen:scope.isGenerator=false
 nocell:∀x∈scope.names,x.2≠.cell
 par:∀x∈ps,scope.names.lookup x=some .local
 nd:ps.Nodup
 has:∀x,scope.names.lookup x=some .free->∃c,cl.lookup x=some c
 inj:∀x y c,cl.lookup x=some c->cl.lookup y=some c->x=y
structure Capt(base:qb)(scope:Scope)(cl:List<|Str×zi)(fs:List Str)(fv:List V):Prop where
 cell:∀x c,cl.lookup x=some c->∃v,base.IsCell c v
 len:fs.length=fv.length
 val:∀(i:Nat) x v,fs[i]?=some x->fv[i]?=some v->scope.names.lookup x=some .free/\∃c u,cl.lookup x=some c/\base.IsCell c (some u)/\aI v u
theorem tw:∀(ps:List Str)(us:List xx),((ps.zip us).map (·.1)).Sublist ps
 |[],_=>by simp
 |_::_,[]=>by simp
 |p::ps,u::us=>by rw[zip_cons_cons,Fi];show(tw ps us).cons₂ _
theorem qr{ps:List Str}{us:List xx}{i:Nat}{x:Str}{u:xx}(j:ps.Nodup)(d:ps[i]?=some x)(f:us[i]?=some u):(ps.zip us).reverse.lookup x=some u:=by
 have c:(x,u)∈(ps.zip us).reverse:=by
  rw[List.mem_reverse];show FP (i:=i) (by rw[List.getElem?_zip_eq_some];show⟨d,f⟩)
 have b:((ps.zip us).reverse.map (·.1)).Nodup:=by
  rw[List.map_reverse];unfold Nodup;rw[List.pairwise_reverse];show(j.sublist<|tw ps us).imp λh=>symm h
 generalize (ps.zip us).reverse=l at c b
 induction l with
 |nil=>cases c
 |cons a r g =>
  let(y,w):=a;rw[Fi,GW]at b;rcases FU.mp c with e|e
  .cases e;rw[Gg,Gq]
  .have k:x≠y:=λz=>b.1 (by rw[<-z];show EZ.mpr {(x,u),e,rfl});rw[Gg,show(x==y)=false by simpa using k]
   show g e b.2
section
variable{CX:CXT}{P:qw}{w:qn}{K:Frag}{mg:Str->Option xx}{base:qb}{k:Nat}{f c:zi}{name qual:Str}{params:Arguments}{body:Expr}{scope:Scope}{cl:List (Str×zi)}{pm ctv:xx}{ps fs:List Str}{fv:List V}{sp:Sp}
theorem xC{A:qd}{outer:List Env}{s:xg}{j:Hp}{E:XK}{us:List xx}{vs:List V}{k:qb}{tk:Nat}(S:LaScope ps scope cl)(C:Capt base scope cl fs fv)(hd:A.handled=none)(e0:Env0 P w K mg base A outer s j)(B:vs.length=ps.length)(r:aA vs us)(I:k.Ns s.heap.objs.size λx=>(ps.zip us).reverse.lookup x)(m:∀b o,s.heap.get? b=some o->k.get? b=some o):
  Inv (xB CX P w K mg base (ps++fs) qual scope f (.ref c) cl A outer s j E) [] (vs.map some++fv.map some) j {s with heap:=k,toks:=tk}:=by
 have q:∀b:zi,b∉(xB CX P w K mg base (ps++fs) qual scope f (.ref c) cl A outer s j E).ex:=λb z=>absurd (show b∈([]:List zi)from z) (by simp);have l:∀c v,base.IsCell c v->k.IsCell c v/\j c=none/\c≠s.heap.objs.size:=λc v ⟨o,e,d⟩=>{{o,m c o (e0.bs _ _ e).1,d},(e0.bs _ _ e).2,FX<|FW (e0.bs _ _ e).1};show{{e0.mod,S.kind,rfl,rfl,FH _,S.inj,λy g=>?_,λy c h _=>absurd h (by simp[xB]),λ_=>hd,Around.frames_deeper e0.frames,.inr ⟨rfl,rfl⟩,λb z=>absurd z<|q b,e0.bs,e0.bsz,λb _ _=>q b,λb z=>absurd z<|q b,e0.funs,e0.frf},
  rfl,e0.bare,Un.kept m,{_,I,λi y v h1 h2 h3=>?_},λy c h=>?_,e0.hok.fresh<|FH _,λy c h=>?_,λp J=>absurd (show p∈([]:List<|zi×Obj)from J) (by simp),e0.hok.kept m,?_}
 .have g:scope.names.lookup y=some .cell\/scope.names.lookup y=some .free:=g;rcases g with g|g
  .show absurd rfl<|S.nocell _ (Fb g)
  .show S.has y g
 .have h1:(ps++fs)[i]?=some y:=h1
  by_cases hi:i<ps.length
  .rw[Fy hi]at h1;rw[Fy (by rw[ES];lia),FE]at h2;cases e:vs[i]? with
   |none=>rw[e]at h2;cases h2
   |some a =>
    rw[e]at h2;cases h2;let(u,L,t):=r.get e;show{u,t,.inl {S.par y<|FP h1,qr S.nd h1 L}}
  .rw[GA (by lia)]at h1;rw[GA (by rw[ES];lia),ES,B,FE]at h2;cases e:fv[i-ps.length]? with
   |none=>rw[e]at h2;cases h2
   |some a =>
    rw[e]at h2;cases h2;let(F,D,u,G,H,t):=C.val _ _ _ h1 e;show{u,t,.inr {.inr F,D,G,(l _ _ H).1}}
 .let(v,n):=C.cell y c h;show{v,(l _ _ n).1}
 .let(v,n):=C.cell y c h;show(l _ _ n).2.1
 .change _=(ps++fs).length;rw[FI,FI,ES,ES,B,C.len]
end
def cdφ(c:zi)(qual:Str)(h:qb):Prop:=h.CodeRec (.ref c) qual
theorem qu{c:zi}{qual:Str}:∀h1 h2:qb,cdφ c qual h1->(∀o,h1.get? c=some o->h2.get? c=some o)->cdφ c qual h2:=λh1 h2 h k=>by
 let(d,a,vs,b,e1,e2,e3):=h;cases e1;show{c,a,vs,b,rfl,k _ e2,e3}
theorem xE{c:zi}{qual:Str}{a:qb}(x:cdφ c qual a):∃o,a.get? c=some o:=by
 let(b,d,vs,e,e1,e2,e3):=x
 grind
def cD(a:Hp)(P:zi)(qual:Str):Prop:=∃ps:Array xx,a P=some (.tbl ps)/\TriplesOk ps.toList/\∀pos b,codeAmong pos ps.toList=some b->∃c,b=.ref c/\a c=some (.ext<|cdφ c qual)
theorem cD.start{a:Hp}{P:zi}{qual:Str}(b:a P=some (.tbl #[])):cD a P qual:={#[],b,trivial,λpos c e=>by cases e}
theorem nE{pos:Pos}{a b:Int}{t u:Tok}{v cv:xx}:∀{l:List xx},TriplesOk l->codeAmong pos (l++[.int a t,.int b u,v])=some cv->codeAmong pos l=some cv\/cv=v
 |[],_,h=>by
  have h:(if a==pos.line&&b==pos.col then some v else codeAmong pos [])=some cv:=h
  grind
 |.int x t1::.int y t2::c::rest,ht,h=>by
  have h:(if x==pos.line&&y==pos.col then some c else codeAmong pos (rest++[.int a t,.int b u,v]))=some cv:=h
  change(if x==pos.line&&y==pos.col then some c else codeAmong pos rest)=some cv\/cv=v
  split at h
  .grind
  .rename_i e;rw[EV e];show nE (show TriplesOk rest from ht) h
theorem jK{a b:Int}{t u:Tok}{v:xx}:∀{l:List xx},TriplesOk l->TriplesOk (l++[.int a t,.int b u,v])
 |[],_=>trivial
 |.int x t1::.int y t2::c::rest,ht=>jK (l:=rest) ht
def bo(P:zi)(H H':Hp):Prop:=∀b o,b≠P->H b=some o->H' b=some o
theorem bo.refl(P:zi)(H:Hp):bo P H H:=λ_ _ _ h=>h
def BmB(base:qb)(mg:Str->Option xx):Prop:=∃bm o,mg "__builtins__"=some (.ref bm)/\bm≠builtinsNs/\base.get? bm=some o/\o.cls=.type "module"/\o.dict=some builtinsNs/\o.data=.plain
section
variable{X:Cx}{pins:List (zi×Obj)}{σ:St}{H:Hp}{s:xg}
theorem Inv.tab{P:zi}{ps more:Array xx}{h':qb}{t':Nat}(f:Inv X pins σ H s)(g:H P=some (.tbl ps))(k:∀b o,b≠P->s.heap.get? b=some o->h'.get? b=some o)(h:h'.get? P=some {cls:=.none,data:=.fields (ps++more)}):Inv X pins σ (upd H P<|.tbl (ps++more)) {s with heap:=h',toks:=t'}:=by
 have d:∀b,H b=none->b≠P:=λb n z=>by grind
 show f.un (t':=t') {λb o e n _ _=>k b o (d b n) e,λb o e n _ _=>{o.slots,k b o (d b n) e},λb o e n _=>by rw[aj<|d b n];show n,λb o e _=>?_,λb xs e=>?_,λb o u e=>?_,λb j e=>?_} λb u e=>?_
 .grind
 .rw[aj (λz=>by grind)];show e
 .rw[aj (λz=>by grind)];show e
 .by_cases a:b=P
  .subst a;rw[g]at e;cases e;show⟨more,ac⟩
  .show{#[],by rw[aj a,e];simp}
 .by_cases a:b=P
  .subst a;rw[ac]at e;cases e;show h
  .rw[aj a]at e;show(f.hok b u e).stay (λc v i q=>k c v (λz=>?_) q) (λc q=>?_) λc xs q=>?_
   .grind
   .rw[aj (λz=>by grind)];show q
   .rw[aj (λz=>by grind)];show q
theorem zB{K P:zi}{i:Arguments}{k:Expr}{j:Scope}{pos:Pos}{cl:List (Str×zi)}{Q:xx->xg->Prop}{E:xx->xg->Prop}(a:Inv X pins σ H s)(a4:CodeHd X.base K P)(O:X.env.code=.ref K)(a3:BmB X.base X.mg)(T:cD H P<|X.env.qual++"<lambda>")(c2:defaultsOf i X.env=([],[]))(R:closureFor j X.env=pure cl)(M:∀f c pm ctv H' s',bo P H H'->cD H' P (X.env.qual++"<lambda>")->H' c=some (.ext<|cdφ c (X.env.qual++"<lambda>"))->Inv X pins σ H' s'->s'.heap.get? f=some (kla_obj "<lambda>" (X.env.qual++"<lambda>") i k j cl pm c ctv)->s.heap.objs.size<=f->H' f=none->(∀b v,s.heap.IsCell b v->H b=none->s'.heap.IsCell b v)->Q (.ref f) s'):
  wpAny (model X.prog X.w) X.A (eval (.Lambda i k j pos) X.env) Q E s:=by
 let(ps,F,B,I):=T;have N:s.heap.get? P=some (tabObj ps):=a.hok P _ F;have S:s.heap.Ns mainGlobals X.mg:=a.ok.mod.glob.keeps a.bk;have c3:mainGlobals≠P:=λq=>by
  let(o,es,a9,e,l,_):=a.ok.mod.glob;have:=(a.bs _ _ e).2
  grind
 have g:s.heap.BuiltinsAt X.mg P:=by
  let(bm,c9,b1,b2,b3,b4,a6,a7):=a3;show{bm,c9,b1,b2,λq=>?_,λq=>?_,a.bk _ _ b3,b4,a6,a7}
  .let(o,es,a9,e,l,_):=a.ok.mod.glob
   grind
  .have:=(a.bs _ _ b3).2
   grind
 have C:=a4.keeps a.bk;have a8:∀b v,s.heap.IsCell b v->H b=none->b≠P:=λb v _ n z=>by grind
 show PySem.W.kla_eval c2 ?_;cases G:codeAmong pos ps.toList with
 |none =>
  show PySem.W.kla_makeFunction (mg:=X.mg) R a.ok.glob S O C N B G c3 g λc' ctv h' tk h r V c4 c5=>?_;have d:=a.tab (t':=tk) (more:=#[rawInt pos.line,rawInt pos.col,.ref c']) (h':=h'.push<|kla_obj "<lambda>" (X.env.qual++"<lambda>") i k j cl ((X.mg "__name__").getD .none) c' ctv) F (λb o n e=>EU _<|h b o n e)<|EU _ c5;have L:H c'=none:=a.hok.fresh r;have a1:c'≠P:=λz=>by grind
  have y:upd H P (.tbl<|ps ++ #[rawInt pos.line,rawInt pos.col,.ref c']) c'=none:=by rw[aj a1];show L
  have Z:cdφ c' (X.env.qual++"<lambda>") (h'.push<|kla_obj "<lambda>" (X.env.qual++"<lambda>") i k j cl ((X.mg "__name__").getD .none) c' ctv):=qu _ _ c4 λo e=>EU _ e;have J:bo P H (upd (upd H P<|.tbl (ps ++ #[rawInt pos.line,rawInt pos.col,.ref c'])) c'<|.ext (cdφ c'<|X.env.qual++"<lambda>")):=λb o n e=>by
   rw[aj<|aB e L,aj n];show e
  have a2:s.heap.objs.size<=h'.objs.size:=GS r<|Fu V;have c8:h'.objs.size≠c':=Gv V;have b5:H h'.objs.size=none:=a.hok.fresh a2;have c7:h'.objs.size≠P:=λz=>by grind
  have a5:Inv X pins σ (upd (upd H P<|.tbl (ps ++ #[rawInt pos.line,rawInt pos.col,.ref c'])) c'<|.ext (cdφ c'<|X.env.qual++"<lambda>")) {s with heap:=h'.push<|kla_obj "<lambda>" (X.env.qual++"<lambda>") i k j cl ((X.mg "__name__").getD .none) c' ctv,toks:=tk}:=by
   show{d.ok,d.os,d.bare,{λb o e n g h=>d.base.keep b o e n g h,λb o e n g h=>d.base.slot b o e n g h,λb o e n h=>?_,d.base.there,λb xs e=>?_,λb o u e=>?_,λb d0 e=>?_},d.loc,d.cell,?_,λx c e=>?_,λp Y=>?_,λb u e=>?_,d.len}
   .have h1:=d.base.free b o e n h;have:b≠c':=FX<|Fc (Fc (FW e) a.sz) r;rw[aj this];show h1
   .have h1:=d.base.tups b xs e;rw[aj<|aB h1 y];show h1
   .have h1:=d.base.frzs b o u e;rw[aj<|aB h1 y];show h1
   .let(m,h1):=d.base.tbls b d0 e;show{m,by rw[aj<|aB h1 y];show h1}
   .rw[aj<|FX (Fc a.lt r)];show d.free
   .have h1:=d.freeC x c e;let(v,o,t,_):=a.cell x c e;rw[aj<|FX (Fc (FW t) r)];show h1
   .let(b6,b7,b8,b9,c0):=d.pin p Y;let(c6,_):=a.pin p Y;show{b6,by rw[aj<|FX (Fc (FW c6) r)];show b7,b8,b9,c0}
   .by_cases g:b=c'
    .subst g;rw[ac]at e;cases e;show{Z,xE Z,qu}
    .rw[aj g]at e;show(d.hok b u e).stay (λ_ _ _ q=>q) (λc q=>by rw[aj<|aB q y];show q) λc xs q=>by rw[aj<|aB q y];show q
  show M h'.objs.size c' _ ctv _ _ J {_,by rw[aj<|symm a1];show ac,?_,λpos' D e=>?_} ac a5 (FG _ rfl) a2 ?_ λb v ⟨o,t,l⟩ n=>{o,EU _<|h b o (a8 b v ⟨o,t,l⟩ n) t,l}
  .rw[Array.toList_append];show jK B
  .rw[Array.toList_append]at e;rcases nE B e with e|e
   .let(c,e1,e2):=I pos' D e;show{c,e1,J c _ (λz=>?_) e2}
    grind
   .show⟨c',e,ac⟩
  .rw[aj c8,aj c7];show b5
 |some D =>
  let(c,rfl,c1):=I pos D G;show PySem.W.kla_makeFunctionHit (mg:=X.mg) R a.ok.glob S O C N B G g λctv h' tk U a0=>?_;have d:=a.kept (t':=tk) (h':=h'.push<|kla_obj "<lambda>" (X.env.qual++"<lambda>") i k j cl ((X.mg "__name__").getD .none) c ctv) λb o e=>EU _<|U b o e;show M h'.objs.size c _ ctv H _ (bo.refl _ _) ⟨ps,F,B,I⟩ c1 d (FG _ rfl) a0 (a.hok.fresh a0) λb v ⟨o,t,l⟩ _=>{o,EU _<|U b o t,l}
end
def bB(X:Cx)(H:Hp)(s:xg):qb:=hideAll s.heap<|trk s.heap H++frs X.stack
section
variable{X:Cx}{pins:List (zi×Obj)}{σ:St}{H:Hp}{s:xg}
theorem rP{b:zi}{o:Obj}(e:s.heap.get? b=some o)(n:H b=none)(c:b∉frs X.stack):(bB X H s).get? b=some o :=
 hideAll_get _ e λa=>by
  rcases Fd.mp a with a|a
  .have q:(H b).isSome=true:=(Fw.mp a).2;rw[n]at q;simp at q
  .show c a
theorem xF{b:zi}{o:Obj}(e:(bB X H s).get? b=some o):s.heap.get? b=some o/\H b=none/\b∉frs X.stack:=by
 have c:s.heap.get? b=some o:=of_hideAll (trk s.heap H++frs X.stack) e;have d:b∉trk s.heap H++frs X.stack:=λa=>by
  have z:(bB X H s).get? b=none:=hideAll_none _ a;rw[z]at e;cases e
 show{c,?_,λa=>d<|Fj _ a};cases q:H b with
 |none=>rfl
 |some x=>show absurd (mem_append_left _<|Fw.mpr {GC.mpr<|FW c,by simp[q]}) d
theorem ff{c base a:qb}:∀{l:List Env},c.FunFrames base l->(∀b∈frs l,a.get? b=none)->c.FunFrames a l
 |[],_,_=>trivial
 |env::rest,⟨k,⟨L,o,hf,d,ho,hd⟩,r⟩,hn=>by
  have e:frs (env::rest)=L::frs rest:=by unfold frs;rw[filterMap_cons,hf]
  rw[e]at hn;show{k,⟨L,o,hf,hn L FY,ho,hd⟩,ff r λb d=>hn b<|FR _ d}
theorem Inv.bsub(a:Inv X pins σ H s):∀b o,X.base.get? b=some o->(bB X H s).get? b=some o:=λb o e=>by
 let(h1,h2):=a.bs b o e;show rP h1 h2 λc=>?_;have:=(a.stack.mem c).1;rw[e]at this;cases this
theorem Inv.env0B(a:Inv X pins σ H s):Env0 X.prog X.w X.K X.mg (bB X H s) X.A X.stack s H:=by
 have c:=a.bsub;let(g,d,f):=a.ok.mod.blt;show{a.ok.frames,⟨a.ok.mod.kin.keeps c,a.ok.mod.glob.keeps c,⟨g,d.keeps c,f⟩,a.ok.mod.nolimit.keeps c⟩,λb o e=>{(xF e).1,(xF e).2.1},le_of_eq<|hideAll_size _ _,ff a.stack λb d=>?_,a.stkFree,a.hok,a.bare};cases q:(bB X H s).get? b with
 |none=>rfl
 |some o=>show absurd d (xF q).2.2
theorem zC{CX:CXT}{k:Nat}{f:zi}{c:qa}{ps:List Str}{sp:Sp}{E:XK}{Q:VK}{us:List xx}{vs:List V}(F:FnOk X.prog X.w X.K X.mg (bB X H s) CX k f c ps sp)(l:Room k X.A)(i:aH X.K c ps [])(m:cG CX X E)(b:Inv X pins σ H s)(r:aA vs us)(d:sp vs H Q E):wpAny (model X.prog X.w) X.A (call (.ref f) us) (EP X pins σ Q) X.xe s:=by
 have j:(us++([]:List xx)).length=ps.length:=by rw[Gs,<-r.length];show F.len _ _ _ _ d
 have g:=i s us b.kIn j;rw[Gs]at g;show wpAny_call<|codeAny_mono (F.run X.A X.stack s H {us,[]} us vs Q E l b.env0B g r d) λr s' a=>?_;cases r with
 |error e=>show m pins σ H s e s' b a
 |ok h =>
  cases h with
  |ret u=>show b.after a
  |next=>show False.elim a
  |brk=>show False.elim a
  |cont=>show False.elim a
def DD(js:List Nat)(b:St)(fv:List V):Prop:=js.map (λa=>(b[a]?).getD none)=fv.map some
def BV(P:zi)(qual:Str)(js:List Nat)(spG:zi->zi->List V->Sp):TE:=λσ H Q=>cD H P qual/\∃fv,DD js σ fv/\∀f c H',bo P H H'->cD H' P qual->H' c=some (.ext<|cdφ c qual)->H' f=none->spG f c fv [.ref f] H' Q E0
structure CapOk(X:Cx)(scope:Scope)(cl:List<|Str×zi)(fs:List Str)(js:List Nat):Prop where
 len:fs.length=js.length
 cells:∀x c,cl.lookup x=some c->X.env.cells.lookup x=some c
 at':∀(i j:Nat) x,js[i]?=some j->fs[i]?=some x->X.N[j]?=some x/\X.env.scope.names.lookup x=some .cell/\scope.names.lookup x=some .free/\∃c,cl.lookup x=some c
 fn:∀x,X.fn x=true
theorem Inv.cellF(a:Inv X pins σ H s)(d:∀x,X.fn x=true){x:Str}{c:zi}(b:X.env.cells.lookup x=some c):c∉frs X.stack:=λe=>by
 rcases FU.mp (a.stkSub c e)with z|z
 .show a.cne x c b z
 .let(_,o,f,_):=a.ok.funs.mem z;have:=Fc (FW f)<|a.ok.cab x c (d x) b;show absurd this<|lt_irrefl _
theorem Inv.capt{n:Scope}{cl:List (Str×zi)}{fs:List Str}{js:List Nat}{fv:List V}(b:Inv X pins σ H s)(a:CapOk X n cl fs js)(f:DD js σ fv):Capt (bB X H s) n cl fs fv:=by
 have k:∀x c v,X.env.cells.lookup x=some c->s.heap.IsCell c v->(bB X H s).IsCell c v:=λx c v e ⟨o,B,z⟩=>{o,rP B (b.freeC x c e)<|b.cellF a.fn e,z};show{λx c e=>?_,?_,λi x v h1 h2=>?_}
 .let(v,f):=b.cell x c<|a.cells x c e;show{v,k x c v (a.cells x c e) f}
 .rw[a.len];have:=congrArg length f;rw[ES,ES]at this;show this
 .have hi:i<js.length:=by rw[<-a.len];show(FV.mp h1).1
  let(p,h,t,c,j):=a.at' i js[i] x (ET hi) h1;have e:(js.map λg=>(σ[g]?).getD none)[i]?=some (some v):=by
   rw[show js.map (λg=>(σ[g]?).getD none)=fv.map some from f,FE,h2];rfl
  rw[FE,ET hi]at e;have d:(σ[js[i]]?).getD none=some v:=Option.some.inj e;have e4:σ[js[i]]?=some (some v):=by
   cases q:σ[js[i]]? with
   |none=>rw[q]at d;cases d
   |some y=>rw[q]at d;show congrArg some d
  let(m,_,A):=b.loc;let(u,r,C):=A js[i] x v p e4 (.inr<|.inl h);rcases C with⟨q,_⟩|⟨_,c',l,w⟩
  .rw[show X.env.kindOf x=X.env.scope.names.lookup x from rfl,h]at q;cases q
  .have:c=c':=Option.some.inj<|(a.cells x c j).symm.trans l;subst this;show{t,c,u,j,k x c _ l w,r}
theorem rQ{g P n:zi}{r:qa}{y x:Str}{k:Nat}{p l pos:Pos}{d:Arguments}{e:Expr}{a:Scope}{cl:List (Str×zi)}{fs:List Str}{js:List Nat}{qual:Str}{spG:zi->zi->List V->Sp}(D:CodeHd X.base n P)(J:X.env.code=.ref n)(B:BmB X.base X.mg)(Y:X.env.qual++"<lambda>"=qual)(O:defaultsOf d X.env=([],[]))(M:closureFor a X.env=pure cl)(E:CapOk X a cl fs js)(F:∀(j:qb) (f c:zi) (pm ctv:xx) (fv:List V),(∀b o,X.base.get? b=some o->j.get? b=some o)->j.get? f=some (kla_obj "<lambda>" qual d e a cl pm c ctv)->Capt j a cl fs fv->FnOk X.prog X.w X.K X.mg j CX0 k g r [y] (spG f c fv))(Z:Room k X.A)(R:Gl X x)(m:X.mg x=some (.ref g))(S:keepIn X.K (.ref g)=true)(G:aH X.K r [y] [])(N:(x==("__debug__":Str))=false:=by decide)(t:starEach [.Lambda d e a l] X.env=(false,eval (.Lambda d e a l) X.env)::starEach [] X.env:=by rfl):
  PE X (.Call (.Name x p) [.Lambda d e a l] [] pos) (BV P qual js spG):=by
 intro pins s σ H Q I h;let(T,fv,a0,q):=h;subst Y;show wpAny_Call_Name_kw<|gJ I R m ?_ N;show callWith_K (h₀:=X.base) I.ok.mod.kin S ?_ t rfl;rw[t];change wpAny _ _ (spliced ((false,eval (.Lambda d e a l) X.env)::backTo pos (starEach [] X.env))) _ _ s;show spliced_cons<|zB I D J B T O M λf c pm ctv H' s' a2 a3 L i U v u a4=>?_;show spliced_nil {i.kIn,?_};have a1:f∉frs X.stack:=λm=>by
  rcases FU.mp (I.stkSub f m)with z|z
  .have:=I.lt;rw[<-z]at this;show absurd this<|not_lt.mpr v
  .show I.nofs v z
 have C:=i.capt E a0;show zC (F _ f c pm ctv fv i.bsub (rP U u a1) C) Z G cK i (vs:=[.ref f]) (.cons (show aI (.ref f) (.ref f)from rfl) .nil)<|q f c H' a2 a3 L u
def BW(a:TE)(f:zi)(sp:Sp)(E:XK):TE:=λσ H Q=>a σ H λv H1=>v=.ref f/\sp [] H1 Q E
theorem uL{f:zi}{a:qa}{oc:xx}{c:Option zi}{d:Array (Option xx)}{k:Nat}{sp:Sp}{CX:CXT}{E:XK}{x:Str}{p pos:Pos}{g:TE}(n:PE X (.Name x p) g)(j:X.base.get? f=some ⟨oc,c,.func a,d⟩)(F:FnOk X.prog X.w X.K X.mg X.base CX k f a [] sp)(m:Room k X.A)(i:aH X.K a [] [])(o:cG CX X E):
  PE X (.Call (.Name x p) [] [] pos) (BW g f sp E):=by
 intro pins s σ H Q I h;show wpAny_Call_Name_kw<|thn (n pins s σ H _ I h) λu s1 l=>?_;let(v,H1,b,r,e,q):=l;subst e;obtain rfl:u=Value.ref f:=r;show PySem.W.callWith_of (P:=λh=>h.get? f=some ⟨oc,c,.func a,d⟩) rfl (λh e=>{.frame,.inl rfl,(PySem.W.Looks.ld (part:=none) e).andThen .now})<|evalArgs_nil3 {b.bk _ _ j,?_};show nN (us:=[]) (dvs:=[]) F m i .nil o b .nil q
end
section
variable{CX:CXT}{P:qw}{w:qn}{K:Frag}{mg:Str->Option xx}{base:qb}{k:Nat}{f c:zi}{name qual:Str}{params:Arguments}{body:Expr}{scope:Scope}{cl:List (Str×zi)}{pm ctv:xx}{ps fs:List Str}{fv:List V}{sp:Sp}
theorem zD(D:base.get? f=some (kla_obj name qual params body scope cl pm c ctv))(p:∀vs H Q E,sp vs H Q E->H c=some (.ext<|cdφ c qual))(S:LaScope ps scope cl)(C:Capt base scope cl fs fv)(l:∀vs H Q E,sp vs H Q E->vs.length=ps.length)(n:∀(A:qd) (outer:List Env) (s:xg) (H:Hp) (vs:List V) (Q:VK) (E:XK),Room k (A.deeper<|envX qual scope s.heap.objs.size f (.ref c) cl)->sp vs H Q E ->
   ∃t,PE (xB CX P w K mg base (ps++fs) qual scope f (.ref c) cl A outer s H E) body t/\t (vs.map some++fv.map some) H Q):
  FnOk P w K mg base CX (k+1) f (PySem.W.kla_fn name qual params body scope cl pm (.ref c) ctv) ps sp:=by
 show{l,λA outer s H T R vs Q E d e0 m r g=>?_};have z:=l _ _ _ _ g;have j:∀b o,base.get? b=some o->s.heap.get? b=some o:=λb o e=>(e0.bs b o e).1;have N:s.heap.NoLimit:=e0.mod.nolimit.keeps j;have y:s.heap.CodeRec (.ref c) qual:=(e0.hok c _<|p _ _ _ _ g).1;show PySem.W.kla_callFunE d.depth (j _ _ D) rfl S.co S.gen rfl y<|m _ _ _ _ ?_;show wpAny_newFunctionEnv S.nocell (λx L=>S.par _ (of_mem_zip L).1) (λM B G=>?_) S.kind;have i:∀b o,s.heap.get? b=some o->M.get? b=some o:=λb o e=>G.extBut b o (FX<|FW e)<|EU _ e;show{N.keeps i,PySem.W.kla_codeExpr ?_};let(t,J,F):=n A outer s H vs Q E (d.deeper _) g;have I:=xC (CX:=CX) (P:=P) (w:=w) (K:=K) (mg:=mg) (qual:=qual) (f:=f) (c:=c) (E:=E) (tk:=s.toks+(ps.zip R).length) S C d.hd e0 z r B i;show wpAny_mono (J [] _ _ H _ I F) (λu s' ⟨v,H',a,O,q⟩=>⟨v,H',a.os,a.bare,a.base,a.hok,O,q⟩) λe s' h=>h
end
theorem uM{P:qw}{w:qn}{K:Frag}{mg L:Str->Option xx}{k:Nat}{J a:zi}{Q:qa}{x:Str}{sp:Sp}{s₁:xg}{vs:List xx}{ns:List Int}{tabs:List zi}(N:K.In s₁.heap)(X:s₁.heap.Ns mainGlobals mg)(f:s₁.heap.Ns builtinsNs L)(a9:∀x:Str,x≠"__name__"->L x=bootBuiltins x)(b8:s₁.heap.NoLimit)(b7:s₁.gens=#[])(l:∀t∈tabs,(∃c,CodeHd s₁.heap c t)/\s₁.heap.get? t=some (tabObj #[]))(a6:∀t∈tabs,K.lookup t=none)(b6:BmB s₁.heap mg)(p:s₁.heap.get? a=some {cls:=.type "list",data:=.seq vs.toArray})(T:IntsAre vs ns)(U:ns.length<=sizeLine)(b9:Room k callerA)(F:∀base:qb,K.In base->base.Ns mainGlobals mg->BmB base mg->FnOk P w K mg base CX0 k J Q [x] sp)(b5:∀(s:xg) (u:xx),BindsTo s Q {[u],[]} [(x,u)])(c0:∀H:Hp,SqL K H a (ns.map V.int)->(∀t∈tabs,H t=some (.tbl #[]))->sp [.ref a] H (λv _=>v=.bl true) λ_ _ _=>False):
  codeAny (model P w) callerA (.call (.ref J) {[.ref a],[]}) (λr s'=>r=.ok (.ret<|.bool true)/\OldK s₁.heap s'.heap/\s'.os=s₁.os/\AllBare s'.gens) s₁:=by
 have a1:=my T;have c1:=T.length;have c3:a∉tabs:=λh=>by
  have:=(l a h).2;rw[p]at this;cases this
 have O:∀(H:Hp),SqL K H a (ns.map V.int)->HOk P w H s₁.heap->(∀t∈tabs,H t=some (.tbl #[]))->(∀b o,H b=some o->(b=a/\K.lookup a=none/\∃M xs,o=.frz M (.lst xs))\/b∈tabs) ->
   codeAny (model P w) callerA (.call (.ref J) {[.ref a],[]}) (λr s'=>r=.ok (.ret<|.bool true)/\OldK s₁.heap s'.heap/\s'.os=s₁.os/\AllBare s'.gens) s₁:=by
  intro H a8 Y S B;have I:∀{b:zi}{o:Obj},s₁.heap.get? b=some o->H b=none->(lR s₁.heap H).get? b=some o:=λe n=>uT e n;have c4:∀{b:zi}{o:Obj}{es:Array DictEntry}{A:Nat},s₁.heap.get? b=some o->o.data=.dict es A->H b=none:=λ{b o es A} e d=>by
   cases q:H b with
   |none=>rfl
   |some u =>
    rcases B b u q with⟨j,_⟩|g
    .subst j;rw[p]at e;cases e;cases d
    .rw[(l b g).2]at e;cases e;cases d
  have D:∀{b:zi}{m:Str->Option xx},s₁.heap.Ns b m->(lR s₁.heap H).Ns b m:=λ{b m} ⟨o,es,A,e,d,r⟩=>{o,es,A,I e<|c4 e d,d,r};have R:K.In (lR s₁.heap H):=λb o e=>I (N b o e) (by
   cases q:H b with
   |none=>rfl
   |some u =>
    rcases B b u q with⟨j,y,_⟩|g
    .subst j;rw[y]at e;cases e
    .rw[a6 b g]at e;cases e)
  have a7:Mod K mg (lR s₁.heap H):={R,D X,⟨L,D f,a9⟩,let⟨c2,h1,h2⟩:=b8;⟨c2,D h1,h2⟩};have e0:Env0 P w K mg (lR s₁.heap H) callerA [] s₁ H:={rfl,a7,λb o e=>xX e,le_of_eq<|tJ _ _,trivial,λb f=>absurd (show b∈([]:List zi)from f) (by simp),Y,.of_eq b7};have a5:BmB (lR s₁.heap H) mg:=by
   let(bm,o,b1,b2,b3,b4,a2,G):=b6;show{bm,o,b1,b2,I b3 ?_,b4,a2,G};cases q:H bm with
   |none=>rfl
   |some u =>
    rcases B bm u q with⟨j,_⟩|g
    .subst j;rw[p]at b3;cases b3;cases G
    .rw[(l bm g).2]at b3;cases b3;cases G
  show codeAny_mono ((F _ R (D X) a5).run callerA [] s₁ H {[.ref a],[]} [.ref a] [.ref a] _ _ b9 e0 (b5 s₁<|.ref a) (.cons rfl .nil) (c0 H a8 S)) λr s' h=>?_;cases r with
  |error e=>show False.elim h
  |ok a4 =>
   cases a4 with
   |next=>show False.elim h
   |brk=>show False.elim h
   |cont=>show False.elim h
   |ret u =>
    let(v,H',os,a3,un,Z,c6,q):=h;have c5:v=.bl true:=q;subst c5;obtain rfl:u=Value.bool true:=c6;show{rfl,{λb o e=>?_,λb o e=>?_},os,a3}
    .cases q:H b with
     |none=>show .inl<|un.keep b o e q (by intro z;show absurd (show b∈([]:List zi)from z) (by simp)) (by simp)
     |some u =>
      rcases B b u q with⟨j,_,M,xs,z⟩|g
      .subst z;have c7:=un.frzs b M _ q;let(e1,_):=Y b _ q;let(e2,_):=Z b _ c7;rw[e]at e1;cases e1;show .inl e2
      .let((c,C),e1):=l b g;let(a0,e2):=un.tbls b _<|S b g;have e3:s'.heap.get? b=some (tabObj<|#[]++a0):=Z b _ e2;rw[e]at e1;cases e1;show .inr<|.inl {(C.tab e).isCodeTable,rfl,#[],a0,rfl,e3}
    .show un.there b o e (by simp)
 cases y:K.lookup a with
 |some o =>
  have e:=N a o y;rw[p]at e;cases e;show O (λb=>if b∈tabs then some (.tbl #[])else none) (.inr {_,vs.toArray,_,y,rfl,rfl,rfl,by rw[FO,c1];show U,by simpa using a1}) (λb u z=>?_) (λt h=>EW h) λb o z=>?_
  .by_cases f:b∈tabs
   .have i:=(EW f).symm.trans z;cases i;show(l b f).2
   .have i:=(EV f).symm.trans z;cases i
  .by_cases f:b∈tabs
   .show .inr f
   .have i:=(EV f).symm.trans z;cases i
 |none =>
  show O (λb=>if b=a then some (.frz {cls:=.type "list",data:=.seq vs.toArray} (.lst<|ns.map V.int))else if b∈tabs then some (.tbl #[])else none) (.inl<|.inr {{cls:=.type "list",data:=.seq vs.toArray},EW rfl}) (λb u z=>?_) (λt h=>?_) λb o z=>?_
  .by_cases f:b=a
   .have i:=(EW f).symm.trans z;cases i;subst f;show{p,by rw[ES];show U,vs,_,a1,p}
   .have E:=(EV f).symm.trans z
    by_cases g:b∈tabs
    .have i:=(EW g).symm.trans E;cases i;show(l b g).2
    .have i:=(EV g).symm.trans E;cases i
  .have:t≠a:=λz=>c3 (by rw[<-z];show h);rw[EV this,EW h]
  .by_cases f:b=a
   .have i:=(EW f).symm.trans z;show .inl {f,y,_,_,(Option.some.inj i).symm}
   .have E:=(EV f).symm.trans z
    by_cases g:b∈tabs
    .show .inr g
    .have i:=(EV g).symm.trans E;cases i
theorem xG{l:PySem.W.OpenLaw}{n k:Nat}{q:qw}{U:List Str}{z:(Str->Option xx)->qb->Prop}{m:qn->qb->Prop}{d:DefRec}{K:Params->Frag}{sp:qn->Sp}{x:Str}{tabs:List zi}(O:l.most=some n)(P:n<=sizeLine)(J:d.params.defaults=[])(R:Room k callerA)(E:∀(w:qn) (h:qb),m w h->(K w.params).In h)(C:∀(w:qn) (h:qb),m w h->∀t∈tabs,h.get? t=some (tabObj #[]))(r:∀w:qn,∀t∈tabs,(∃c,codeHdIn (K w.params) c t=true)/\(K w.params).lookup t=none)(F:∀(w:qn) (mg:Str->Option xx) (i:zi) (h:qb),(K w.params).In h->h.Ns mainGlobals mg->mg d.name=some (.ref i) ->
   ∃fd:qa,(∀(s:xg) (u:xx),BindsTo s fd {[u],[]} [(x,u)]) /\
    ∀base:qb,(K w.params).In base->base.Ns mainGlobals mg->BmB base mg->FnOk l.prog w (K w.params) mg base CX0 k i fd [x] (sp w))(S:∀(w:qn) (H:Hp) (a:zi) (ns:List Int),ns.length<=n->SqL (K w.params) H a (ns.map V.int)->(∀t∈tabs,H t=some (.tbl #[]))->sp w [.ref a] H (λv _=>v=.bl true) λ_ _ _=>False):
  PySem.W.WalkO q U z m l.row.toRowW d [] (λf vs=>PySem.call f vs):=by
 show Att.pc O J λw a3 a4 mg a2 i o pm X Y a vs ns G p a1 a0 Z N Q M y L=>?_;have j:=E w _ p;let(fd,I,A):=F w mg i _ j G.T.g N;show uM j G.T.g G.T.b G.T.builtins G.T.nolimit L (λt h=>{let⟨c,e⟩:=(r w t h).1;⟨c,codeHd_of_K j e⟩,C w _ p t h}) (λt h=>(r w t h).2) G.T.bmain Q M (GS y P) R A I λH B D=>S w H a ns y B D
theorem Fun.okT{P:qw}{w:qn}{K:Frag}{mg:Str->Option xx}{base:qb}{x qual:Str}{st:Stmt}{f c0:zi}{a:qa}{N ps:List Str}{k:Nat}{sp:Sp}(F:Fun K x qual st f a)(c:a.code=.ref c0)(S:FnScope N ps<|ak st)(i:∀vs H Q E,sp vs H Q E->vs.length=ps.length)(b:∀(A:qd) (outer:List Env) (s:xg) (H:Hp) (vs:List V) (Q:VK) (E:XK),Room k (A.deeper<|envOfC qual (ak st) s.heap.objs.size f (.ref c0))->sp vs H Q E ->
   ∃t,PSs (fY CX0 P w K mg base N qual (ak st) f (.ref c0) A outer s H E).nox (bg st) t/\t {nx:=λ_ H'=>Q .non H',rt:=Q} (start N vs) H):FnOk P w K mg base CX0 (k+1) f a ps sp:=by
 let(o,p,kV,n,pm,l,cdv,m,r,rfl,j,d):=F.ex;obtain rfl:cdv=.ref c0:=c;show vm j d S i λA outer s H vs Q E e g=>?_;let(t,h,q):=b A outer s H vs Q E e g;show⟨t,h.nox,q⟩
theorem BmB.sub{base a:qb}{mg:Str->Option xx}(c:BmB base mg)(s:∀b o,base.get? b=some o->a.get? b=some o):BmB a mg:=let⟨bm,o,b1,b2,b3,r⟩:=c;⟨bm,o,b1,b2,s _ _ b3,r⟩
end L2
namespace TK
open PySem L2
def N12(i:Nat):Str:=(["Inside","Known","NoBack","NoMark","NoMatch","NoNode","NoReader","NotFile","NotFolder","NoTag","NoText","Taken"]:List Str).getD i ""
def W12:List Str:=["inside","known","no back","no mark","no match","no node","no reader","not file","not folder","no tag","no text","taken"]
structure Clss12(mg:Str->Option xx)(K:Frag)(B:Nat->zi)(D:zi):Prop where
 m:∀i,i<12->mg (N12 i)=some (.ref<|B i)
 tre:mg "TreeError"=some (.ref D)
 base:PySem.W.ktsIn K D "BaseException"=true
structure One12(K:Frag)(B:Nat->zi)(D:zi)(i:Nat):Prop where
 lt:i<12
 xc:XI.fR K (B i)=true
 is:∀j,j<12->kitOne K (.ref<|B i) (.ref<|B j)=some (decide<|i=j)
 val:kitOne K (.ref<|B i) (.type "ValueError")=some true
 sub:subIn K (.ref<|B i) (.ref D)=some true
def uN(i:Nat):List Bool:=[decide<|i=0,decide<|i=1,decide<|i=2,decide<|i=3,decide<|i=4,decide<|i=5,decide<|i=6,decide<|i=7,decide<|i=8,decide<|i=9,decide<|i=10,decide<|i=11]
theorem xH{i:Nat}(h:i<12):(uN i).count true=1/\(uN i)[i]?=some true/\∀m,m<i->(uN i)[m]?=some false:=by
 have:i=0\/i=1\/i=2\/i=3\/i=4\/i=5\/i=6\/i=7\/i=8\/i=9\/i=10\/i=11:=by lia
 rcases this with rfl|rfl|rfl|rfl|rfl|rfl|rfl|rfl|rfl|rfl|rfl|rfl<;>show{by decide,by decide,?_}<;>decide
abbrev Z40(i:Nat):List V:=[.bl<|decide (i=0),.bl<|decide (i=1),.bl<|decide (i=2),.bl<|decide (i=3)]
abbrev Z34(i:Nat):List V:=[.bl<|decide (i=4),.bl<|decide (i=5),.bl<|decide (i=6)]
abbrev Z37(i:Nat):List V:=[.bl<|decide (i=7),.bl<|decide (i=8),.bl<|decide (i=9)]
abbrev rR(i:Nat):List V:=[.bl<|decide (i=10),.bl<|decide (i=11)]
abbrev Z70(i:Nat):List V:=[.bl<|decide (i=0),.bl<|decide (i=1),.bl<|decide (i=2),.bl<|decide (i=3),.bl<|decide (i=4),.bl<|decide (i=5),.bl<|decide (i=6)]
abbrev xI(i:Nat):List V:=[.bl<|decide (i=0),.bl<|decide (i=1),.bl<|decide (i=2),.bl<|decide (i=3),.bl<|decide (i=4),.bl<|decide (i=5),.bl<|decide (i=6),.bl<|decide (i=7),.bl<|decide (i=8),.bl<|decide (i=9)]
abbrev Er(i:Nat):List V:=[.bl<|decide (i=0),.bl<|decide (i=1),.bl<|decide (i=2),.bl<|decide (i=3),.bl<|decide (i=4),.bl<|decide (i=5),.bl<|decide (i=6),.bl<|decide (i=7),.bl<|decide (i=8),.bl<|decide (i=9),.bl<|decide (i=10),.bl<|decide (i=11)]
abbrev Y9:List V:=[.str "inside",.str "known",.str "no back",.str "no mark",.str "no match",.str "no node",.str "no reader",.str "not file",.str "not folder"]
abbrev Y3:List V:=[.str "no tag",.str "no text",.str "taken"]
section
variable{P:qw}{w:qn}{K:Frag}{mg:Str->Option xx}{base:qb}
theorem _root_.L2.Fun.okM{x qual:Str}{st:Stmt}{f:zi}{a:qa}{N ps:List Str}{k:Nat}{sp:Sp}(F:Fun K x qual st f a)(S:FnScope N ps<|ak st)(g:∀vs H Q E,sp vs H Q E->vs.length=ps.length)(b:∀(cdv:xx) (A:qd) (outer:List Env) (s:xg) (H:Hp) (vs:List V) (Q:VK) (E:XK),RoomM k (A.deeper<|PyProof.Rows.envOfC qual (ak st) s.heap.objs.size f cdv)->sp vs H Q E ->
   ∃t,PSs (nD CX0 P w K mg base N qual (ak st) f cdv A outer s H E) (bg st) t/\t {nx:=λ_ H'=>Q .non H',rt:=Q} (start N vs) H):FnOkM P w K mg base CX0 (k+1) f a ps sp:=by
 let(m,n,kV,l,pm,i,cdv,j,o,rfl,h,c):=F.ex;show BU h c S g λA outer s H vs Q E d e=>b cdv A outer s H vs Q E d e
def Ae(B:Nat->zi)(D:zi)(K:Frag):Sp:=λvs H Q _=>∃ea i x,vs=[.ref ea]/\One12 K B D i/\H ea=some (.ext<|XI.pI ea (B i))/\W12[i]?=some x/\∀H',Same H H'->Q (.str x) H'
theorem nF:FnScope ["_law_kept","_law_kinds","_law_some"] ["_law_kept"] (ak eB):=fsc
theorem BY{f G:zi}{a:Nat->zi}{N:qa}(F:Fun K "_law_class" "_law_class" eB f N)(T:Txt mg)(d:Clss12 mg K a G):FnOkM P w K mg base CX0 1 f N ["_law_kept"] (Ae a G K):=by
 have b7:mg "Inside"=some (.ref<|a 0):=d.m 0 (by decide);have b8:mg "Known"=some (.ref<|a 1):=d.m 1 (by decide);have c1:mg "NoBack"=some (.ref<|a 2):=d.m 2 (by decide);have c2:mg "NoMark"=some (.ref<|a 3):=d.m 3 (by decide);have c3:mg "NoMatch"=some (.ref<|a 4):=d.m 4 (by decide);have c4:mg "NoNode"=some (.ref<|a 5):=d.m 5 (by decide);have c5:mg "NoReader"=some (.ref<|a 6):=d.m 6 (by decide);have c6:mg "NotFile"=some (.ref<|a 7):=d.m 7 (by decide);have c7:mg "NotFolder"=some (.ref<|a 8):=d.m 8 (by decide);have c8:mg "NoTag"=some (.ref<|a 9):=d.m 9 (by decide);have b9:mg "NoText"=some (.ref<|a 10):=d.m 10 (by decide);have c0:mg "Taken"=some (.ref<|a 11):=d.m 11 (by decide);show F.okM nF (λvs H Q E h=>?_) λcdv A outer s H vs Q E d4 h=>?_
 .let(ea,i,x,rfl,_):=h;rfl
 .let(ea,i,x,rfl,b,c,b6,q):=h;show{_,ag (aD (i:=1) nF.nd rfl (Or.inl rfl)<|bc (aa (ar bf rfl T.isin Ff<|aa (pv 0) (aa (bw (v:=.ref<|a 0) rfl b7 rfl) af))<|aa (ar bf rfl T.isin Ff<|aa (pv 0) (aa (bw (v:=.ref<|a 1) rfl b8 rfl) af)) (aa (ar bf rfl T.isin Ff<|aa (pv 0) (aa (bw (v:=.ref<|a 2) rfl c1 rfl) af))<|aa (ar bf rfl T.isin Ff<|aa (pv 0) (aa (bw (v:=.ref<|a 3) rfl c2 rfl) af)) af)))<|ag (aD (i:=1) nF.nd rfl (Or.inl rfl)<|aE du (pv 1) (bc<|aa (ar bf rfl T.isin Ff<|aa (pv 0) (aa (bw (v:=.ref<|a 4) rfl c3 rfl) af)) (aa (ar bf rfl T.isin Ff<|aa (pv 0) (aa (bw (v:=.ref<|a 5) rfl c4 rfl) af))<|aa (ar bf rfl T.isin Ff<|aa (pv 0) (aa (bw (v:=.ref<|a 6) rfl c5 rfl) af)) af))) (ag (aD (i:=1) nF.nd rfl (Or.inl rfl)<|aE du (pv 1) (bc<|aa (ar bf rfl T.isin Ff<|aa (pv 0) (aa (bw (v:=.ref<|a 7) rfl c6 rfl) af)) (aa (ar bf rfl T.isin Ff<|aa (pv 0) (aa (bw (v:=.ref<|a 8) rfl c7 rfl) af))<|aa (ar bf rfl T.isin Ff<|aa (pv 0) (aa (bw (v:=.ref<|a 9) rfl c8 rfl) af)) af)))<|ag (aD (i:=1) nF.nd rfl (Or.inl rfl)<|aE du (pv 1) (bc<|aa (ar bf rfl T.isin Ff<|aa (pv 0) (aa (bw (v:=.ref<|a 10) rfl b9 rfl) af)) (aa (ar bf rfl T.isin Ff<|aa (pv 0) (aa (bw (v:=.ref<|a 11) rfl c0 rfl) af)) af))) (ag (aS (PW.pt<|pw_or (au dS (gX GO PySem.F.slot_list_count PySem.F.type_list_count wo (pv 1)<|aa fQ af) ai<|av _) (pw_or1<|cU (cE (ar bf rfl T.isin Ff<|aa (pv 0) (aa (dQ (v:=.ty "ValueError") rfl T.ValueError PyProof.Rows.Boot.«ValueError» rfl) af)) λ_=>rfl))) (am<|aq ay) ax)<|ag (aD (i:=2) nF.nd rfl (Or.inl rfl)<|bc (aa ay<|aa ay (aa ay<|aa ay (aa ay<|aa ay (aa ay<|aa ay (aa ay af)))))) (am<|aq (dW cp (aE du (pv 2)<|bc (aa ay<|aa ay (aa ay af))) (gX GO PySem.F.slot_list_index PySem.F.type_list_index wp (pv 1)<|aa fQ af) λ_ _=>rfl)))),?_};have e:∀C,C<12->kitOne K (.ref<|a i) (.ref<|a C)=some (decide<|i=C):=b.is;show{_,rfl,ea,a i,_,_,rfl,c,b.xc,.inr {_,rfl,e 0 (by decide)},_,rfl,ea,a i,_,_,rfl,c,b.xc,.inr {_,rfl,e 1 (by decide)},_,rfl,ea,a i,_,_,rfl,c,b.xc,.inr {_,rfl,e 2 (by decide)},_,rfl,ea,a i,_,_,rfl,c,b.xc,.inr {_,rfl,e 3 (by decide)},ao (show 4<=1000 by decide),λn a7=>?_};have j:=ae (o:=.lst<|Z40 i) a7;have O:upd H n (.lst<|Z40 i) n=some (.lst<|Z40 i):=ac;generalize upd H n (.lst<|Z40 i)=I at j O|-;show{_,rfl,_,rfl,ea,a i,_,_,rfl,j _ _ c,b.xc,.inr {_,rfl,e 4 (by decide)},_,rfl,ea,a i,_,_,rfl,j _ _ c,b.xc,.inr {_,rfl,e 5 (by decide)},_,rfl,ea,a i,_,_,rfl,j _ _ c,b.xc,.inr {_,rfl,e 6 (by decide)},ao (show 3<=1000 by decide),λk1 a0=>?_};have d0:=j.trans<|ae (o:=.lst<|Z34 i) a0;show{n,k1,(Z40 i),(Z34 i),rfl,rfl,aN a0 O,ac,ao (show 7<=1000 by decide),λp a8=>?_};have s1:=d0.trans<|ae (o:=.lst<|(Z40 i)++(Z34 i)) a8;have R:upd (upd I k1<|.lst (Z34 i)) p (.lst<|(Z40 i)++(Z34 i)) p=some (.lst<|Z70 i):=ac;generalize upd (upd I k1<|.lst (Z34 i)) p (.lst<|(Z40 i)++(Z34 i))=J at s1 R|-;show{_,rfl,_,rfl,ea,a i,_,_,rfl,s1 _ _ c,b.xc,.inr {_,rfl,e 7 (by decide)},_,rfl,ea,a i,_,_,rfl,s1 _ _ c,b.xc,.inr {_,rfl,e 8 (by decide)},_,rfl,ea,a i,_,_,rfl,s1 _ _ c,b.xc,.inr {_,rfl,e 9 (by decide)},ao (show 3<=1000 by decide),λk2 a1=>?_};have d1:=s1.trans<|ae (o:=.lst<|Z37 i) a1;show{p,k2,(Z70 i),(Z37 i),rfl,rfl,aN a1 R,ac,ao (show 10<=1000 by decide),λr a9=>?_};have t:=d1.trans<|ae (o:=.lst<|(Z70 i)++(Z37 i)) a9;have S:upd (upd J k2<|.lst (Z37 i)) r (.lst<|(Z70 i)++(Z37 i)) r=some (.lst<|xI i):=ac;generalize upd (upd J k2<|.lst (Z37 i)) r (.lst<|(Z70 i)++(Z37 i))=L at t S|-;show{_,rfl,_,rfl,ea,a i,_,_,rfl,t _ _ c,b.xc,.inr {_,rfl,e 10 (by decide)},_,rfl,ea,a i,_,_,rfl,t _ _ c,b.xc,.inr {_,rfl,e 11 (by decide)},ao (show 2<=1000 by decide),λk3 a2=>?_};have d2:=t.trans<|ae (o:=.lst<|rR i) a2;show{r,k3,(xI i),(rR i),rfl,rfl,aN a2 S,ac,ao (show 12<=1000 by decide),λg b5=>?_};have D:=d2.trans<|ae (o:=.lst<|(xI i)++(rR i)) b5;have U:upd (upd L k3<|.lst (rR i)) g (.lst<|(xI i)++(rR i)) g=some (.lst<|Er i):=ac;generalize upd (upd L k3<|.lst (rR i)) g (.lst<|(xI i)++(rR i))=u at D U|-;let(b1,b2,b3):=xH b.lt;have z:u g=some (.lst<|(uN i).map V.bl):=U;show{_,rfl,.inl ⟨rfl,_,SqL.of z⟩,g,uN i,rfl,rfl,z,rfl,_,rfl,?_};rw[b1];show aC {_,rfl,ea,a i,_,_,rfl,D _ _ c,b.xc,.inl ⟨_,rfl,b.val⟩,_,rfl,aC ?_};show{ao (show 9<=1000 by decide),λk a3=>?_};have a5:=D.trans<|ae (o:=.lst Y9) a3;have X:=aN (o:=.lst Y9) a3 z;have Y:upd u k (.lst Y9) k=some (.lst Y9):=ac;generalize upd u k (.lst Y9)=M at a5 X Y|-;show{_,rfl,ao (show 3<=1000 by decide),λk5 B=>?_};have c9:=a5.trans<|ae (o:=.lst Y3) B;show{k,k5,Y9,Y3,rfl,rfl,aN B Y,ac,ao (show 12<=1000 by decide),λl a4=>?_};have a6:=c9.trans<|ae (o:=.lst<|Y9++Y3) a4;have Z:upd (upd M k5<|.lst Y3) l (.lst<|Y9++Y3) l=some (.lst<|W12.map V.str):=ac;have y:=aN (o:=.lst<|Y9++Y3) a4<|aN (o:=.lst Y3) B X;generalize upd (upd M k5<|.lst Y3) l (.lst<|Y9++Y3)=d3 at a6 Z y|-;show{_,rfl,.inl ⟨rfl,_,SqL.of y⟩,g,i,uN i,rfl,rfl,y,(show 12<=1000 by decide),b2,b3,l,_,_,_,rfl,rfl,SqL.of Z,jR (v:=.str x) ?_,q _ a6};rw[FE,b6];rfl
def oI(f:zi)(c:Sp)(a:Nat->zi)(b:zi)(K:Frag):Sp:=λvs H Q _=>vs=[.ref f]/\c [] H Q (λcl _ H1=>∃i x,cl=.ref (a i)/\One12 K a b i/\W12[i]?=some x/\∀H2,Same H1 H2->Q (.str x) H2)
theorem xJ:FnScope ["_law_deed_here","e"] ["_law_deed_here"] (ak fu):=fsc
theorem zE{g f e b:zi}{a:Nat->zi}{u j t:qa}{oc:xx}{O:Option zi}{R:Array (Option xx)}{d:Sp}{k:Nat}(F:Fun K "_law_told" "_law_told" fu g u)(q:Clss12 mg K a b)(G:base.get? f=some ⟨oc,O,.func j,R⟩)(y:FnOk P w K mg base (CX1 P w) (k+1) f j [] d)(C:aH K j [] [])(z:FnOkM P w K mg base CX0 1 e t ["_law_kept"]<|Ae a b K)(M:mg "_law_class"=some (.ref e))(L:keepIn K (.ref e)=true)(B:aH K t ["_law_kept"] [])(N:∀(H:Hp) (Q:VK) (E p:XK),(∀c v H',E c v H'->p c v H')->d [] H Q E->d [] H Q p):FnOk P w K mg base CX0 (k+2) g u ["_law_deed_here"] (oI f d a b K):=by
 show F.okA xJ λcdv A outer s H vs Q E m h=>?_
 .let(rfl,h):=h;show{_,am<|zA {λ_ _ h=>h,rfl,rfl} (l:=1) (n:="e") (T:=b) xJ.nd rfl rfl (λpl U E o _=>am<|aq (uL (pv 0) G y m C o)) (λpl v=>am<|aq (xA z (RoomM.mono ⟨m.dp,m.un⟩ (by lia)) rfl M L B .nil cK<|aa (pv 1) af)) rfl q.tre q.base,?_};show{_,rfl,rfl,N _ _ _ _ (λc v H1 h1=>?_) h};let(i,x,rfl,r,o,I):=h1;show{a i,rfl,r.sub,λea Y J D=>?_};let(V,X,rfl):=wv J;show{_,rfl,ea,i,x,rfl,r,ac,o,λH2 S=>I H2<|(ae D).trans S}
end
def gW:Str:=("_law_did"++".<locals>.")++"<lambda>"
theorem lk2{n m x:Str}{c d b:zi}(a:[(n,c),(m,d)].lookup x=some b):(x=n/\b=c)\/(x=m/\b=d):=by
 by_cases e:x=n
 .subst e;rw[Gg,Gq]at a;show .inl {rfl,(Option.some.inj a).symm}
 .rw[Gg,show(x==n)=false by simpa using e]at a
  by_cases e2:x=m
  .subst e2;rw[Gg,Gq]at a;show .inr {rfl,(Option.some.inj a).symm}
  .rw[Gg,show(x==m)=false by simpa using e2]at a
   cases a
theorem Es{n m x y:Str}{z i j:Nat}{c:zi}(f:i≠j)(h:[(n,(z+i:zi)),(m,(z+j:zi))].lookup x=some c)(k:[(n,(z+i:zi)),(m,(z+j:zi))].lookup y=some c):x=y:=by
 have g:∀{p q:Nat},p≠q->c=z+p->c=z+q->False:=λl e1 e2=>l<|Nat.add_left_cancel (e1.symm.trans e2:z+_=z+_);rcases lk2 h with⟨a,b⟩|⟨a,b⟩<;>rcases lk2 k with⟨e,d⟩|⟨e,d⟩<;>first|show a.trans e.symm|show(g f b d).elim|show(g f d b).elim
theorem Af{P:qw}{w:qn}{K:Frag}{mg:Str->Option xx}{base:qb}{N:List Str}{qual:Str}{c:Scope}{f:zi}{b:xx}{cl:List (Str×zi)}{A:qd}{outer:List Env}{s:xg}{a:Hp}{E:XK} :
  Lv (xB (CX1 P w) P w K mg base N qual c f b cl A outer s a E) E:=⟨rfl,rfl,rfl,rfl⟩
def qv(C b:zi)(cls:TW.Wd->zi)(fv:List V):Hp->VK->XK->Prop:=λH Q E=>∃p sa dx a,fv=[.ref p,.ref sa]/\H p=some (.ins C dx a)/\a.lookup ("tag":Str)=none/\a.lookup ("do":Str)=none /\
 ((∃x,gG H sa x/\lH C b [.ref p,.str x] H Q E)\/∃dd,H sa=some (.tup<|aQ dd)/\qk C cls [.ref p,.ref sa] H Q E)
def BZ(c:zi)(a:Hp->VK->XK->Prop):Sp:=λvs H Q E=>vs=[]/\H c=some (.ext<|cdφ c gW)/\a H Q E
theorem rS{C n:zi}{cls:TW.Wd->zi}{fv:List V}{o:Hp}{Q:VK}{E E':XK}(q:∀c v H',E c v H'->E' c v H')(a:qv C n cls fv o Q E):qv C n cls fv o Q E':=by
 let(p,sa,dx,u,e,h1,h2,h3,a):=a;show{p,sa,dx,u,e,h1,h2,h3,?_};rcases a with⟨x,B,p,ft,t,d,pl,al,m,z,gs,es,l,y,e,b,f,g,h,i,j,k⟩|⟨dd,A,p,ft,t,d,pl,al,m,z,gs,es,l,sa,r,e,b,f,g,h,i,j,k⟩
 .show .inl {x,B,p,ft,t,d,pl,al,m,z,gs,es,l,y,e,b,f,g,h,i,j,λw H' s=>q _ _ _<|k w H' s}
 .show .inr {dd,A,p,ft,t,d,pl,al,m,z,gs,es,l,sa,r,e,b,f,g,h,i,j,λD H' s a=>q _ _ _<|k D H' s a}
structure TolD(K:Frag)(mg:Str->Option xx)(base:qb)(cL PL g fC Dd:zi)(fdg fdC:qa)(B:Nat->zi):Prop where
 KB:K.In base
 T:Txt mg
 C0:CodeHd base cL PL
 Bm:BmB base mg
 FT:Fun K "_law_told" "_law_told" fu g fdg
 mT:mg "_law_told"=some (.ref g)
 bT:aH K fdg ["_law_deed_here"] []
 FC:Fun K "_law_class" "_law_class" eB fC fdC
 mC:mg "_law_class"=some (.ref fC)
 bC:aH K fdC ["_law_kept"] []
 L:Clss12 mg K B Dd
section
variable{P:qw}{w:qn}{K:Frag}{mg:Str->Option xx}{base:qb}{f cL PL g fC Dd:zi}{fdg fdC:qa}{B:Nat->zi}
theorem DE:FnScope ["_law_ledger","_law_step_here"] ["_law_ledger","_law_step_here"] (ak jx):=fsc
def nG(PL C b d:zi)(cls:TW.Wd->zi)(a:Nat->zi)(K:Frag):Sp:=λvs H Q _=>∃p sa,vs=[.ref p,.ref sa]/\BV PL gW [0,1] (λf c fv=>oI f (BZ c<|qv C b cls fv) a d K) [some<|.ref p,some<|.ref sa] H Q
theorem Ca{j t r:qa}{C d q o:zi}{cls:TW.Wd->zi}(F:Fun K "_law_did" "_law_did" jx f j)(D:j.code=.ref cL)(O:TolD K mg base cL PL g fC Dd fdg fdC B)(T:LCls K mg C)(V:Meth K C "tag" q)(X:aH K t ["self","name"] [])(U:Meth K C "do" o)(W:aH K r ["self","deed"] [])(R:∀a,K.In a->BmB a mg->FnOk P w K mg a (CX1 P w) 2 q t ["self","name"] (lH C d)/\FnOk P w K mg a (CX1 P w) 5 o r ["self","deed"] (qk C cls)):FnOk P w K mg base CX0 8 f j ["_law_ledger","_law_step_here"] (nG PL C d Dd cls B K):=by
 show F.okT D DE (λvs H Q E h=>?_) λA outer s H vs Q E b h=>?_
 .let(p,sa,rfl,_):=h;rfl
 .let(p,sa,rfl,h):=h;have a3:=O.FT.kp;show{_,am<|aq (rQ (k:=7) (cl:=[("_law_step_here",s.heap.objs.size+2),("_law_ledger",s.heap.objs.size+1)]) (fs:=["_law_ledger","_law_step_here"]) (js:=[0,1]) (qual:=gW) (spG:=λf c fv=>oI f (BZ c<|qv C d cls fv) B Dd K) O.C0 rfl O.Bm rfl rfl rfl ?O ?hG b rfl O.mT a3 O.bT),h}
  case O=>show⟨rfl,λx c h=>by rcases lk2 h with⟨rfl,rfl⟩|⟨rfl,rfl⟩<;>rfl,λi b5 x h1 h2=>by
   match i,h1,h2 with
   |0,h1,h2=>cases h1;cases h2;show{rfl,rfl,rfl,_,rfl}
   |1,h1,h2=>cases h1;cases h2;show{rfl,rfl,rfl,_,rfl}
   | i+2,h1,h2=>simp at h1,λ_=>rfl⟩
  case hG =>
   intro a a9 c pm ctv fv sub G m;obtain⟨M,N,rfl⟩:∃v u,fv=[v,u]:=by
    have:=m.len
    match fv,this with
    |[v,u],_=>show⟨v,u,rfl⟩
   let(GT,S):=R a (O.KB.keeps sub)<|O.Bm.sub sub;show zE O.FT O.L G (zD (k:=5) (ps:=[]) (fs:=["_law_ledger","_law_step_here"]) (fv:=[M,N]) G (λvs H Q E h=>h.2.1) {rfl,rfl,rfl,by decide +kernel,(λx l=>by cases l),nodup_nil,λx h=>?_,λx y c h1 h2=>Es (by decide) h1 h2} m (λvs H Q E h=>by let(rfl,_):=h;rfl) λA outer s H vs Q E b h=>?_) (.all λa7 Z=>match a7,Z with | [],_=>rfl) (BY O.FC O.T O.L) O.mC O.FC.kp O.bC λH Q E a8 a0 h=>?_
   .have:=(by decide +kernel:∀y∈_,y.2=NameKind.free->y.1=("_law_ledger":Str)\/y.1=("_law_step_here":Str)) _ (Fb h) rfl;have e:x=("_law_ledger":Str)\/x=("_law_step_here":Str):=this;rcases e with rfl|rfl
    .show{_,rfl}
    .show{_,rfl}
   .let(rfl,D,p,sa,dx,z,n,I,a4,a5,h):=h;have e0:M=.ref p:=by injection n
    have e1:N=.ref sa:=by injection n with _ h;injection h
    subst e0 e1;have a1:Room 2 _:=b.mono (by decide);show{_,iB (au cu (ixT K (pv 1) ai) ay<|av _) (fg (E:=E) (pv 0) T.cl V GT a1 X .nil (cS Af)<|aa (ixT K (pv 1) ai) af)<|fg (E:=E) (pv 0) T.cl U S b W .nil (cS Af) (aa (pv 1) af),?_};rcases h with⟨x,l,h⟩|⟨dd,Y,h⟩
    .have J:H sa=some (.tup [.str "tag",.str x]):=l;show{_,rfl,sa,_,_,_,rfl,rfl,SqT.of J,rfl,rfl,_,rfl,?_};rw[Fe rfl];show aV ⟨_,rfl,p,dx,z,rfl,I,a4,_,rfl,sa,_,_,_,rfl,rfl,SqT.of J,rfl,h⟩
    .let(y,a2,a6):=Ac dd;show{_,rfl,sa,_,_,_,rfl,rfl,SqT.of Y,a2,rfl,_,rfl,?_};rw[FZ (by intro h;show a6 (by injection h))];show aC ⟨_,rfl,p,dx,z,rfl,I,a5,_,rfl,h⟩
   .show{h.1,h.2.1,rS a0 h.2.2}
def oJ:Sp:=λvs H Q _=>∃t zs,vs=[.ref t]/\Tre H t zs/\∀d a H',Same H H'->H d=none->Book H' d a zs->H' d=some (.dK<|aW a)->Q (.ref d) H'
theorem Cb:FnScope ["tree"] ["tree"] (ak cP):=fsc
theorem zF{f:zi}{G:qa}(F:Fun K "parts_by_number" "parts_by_number" cP f G)(T:Txt mg):FnOk P w K mg base CX0 1 f G ["tree"] oJ:=by
 show F.okA Cb λcdv A outer s H vs Q E e7 h=>?_
 .let(t,zs,rfl,v,k):=h;have L:=bO v.tr;have n:=v.len;have u:=v.tup;have b7:=v.nod;show{_,am<|aq (aK (dY rfl) rfl T.dict boot_dict<|aa (de lcS (cV<|pv 0)
   (λs H fp=>aO<|aa (ixT K (pv 0) ai) (aa (dq (r:=vt K) gg (pv 0) (cH ai) iE) af))) af),?_}
  show{_,rfl,t,rfl,⟨_,SqT.of u⟩,λp c1=>?_};show qY (fr:=[]) zs.length (by lia) c1 rfl (λi y H'=>∃q g z,zs[i]?=some z/\y=.ref q/\q≠p/\g≠p/\H' q=some (.tup [.int z.2.num,.ref g])/\H' g=some (.tup<|aL z.2)) (λi y H1 H2 h ex=>?_) (λi H' hi s1=>?_) (λH' s1=>?_) ?_ (λi H' x H2 hi s1 N C=>?_) λys H' s1 M c0 c4=>?_
  .let(q,g,z,e1,e2,e3,e4,a5,a6):=h;show{q,g,z,e1,e2,e3,e4,ex q _ e3 a5,ex g _ e4 a6}
  .show{_,_,SqT.of<|s1 _ _ u,dL<|ET hi}
  .show{_,SqT.of<|s1 _ _ u,by rw[ba];show FH _}
  .rintro _ _ _ _ m ⟨d5,b1,d3,xs,c7,d6,X,Y,Z,a0,d7,b3,c8,a1,W,d8,a2,a3,a4,q⟩;show{d5,b1,d3,xs,c7,d6,X,Y,Z,a0,d7,b3,c8,a1,W,d8,a2,a3,a4,λl n=>?_};let(c6,d4):=q l n;show{c6,λd0 b9=>m _ _<|d4 d0 b9}
  .let(rfl,c3):=C;let(z,I,rfl):=ce<|c3 _ (SqT.of<|s1 _ _ u);have d2:=FP I;have R:=s1 _ _<|b7 z d2;have a7:gf (vals z.2) (some 1) none=aL z.2:=rfl;show{rfl,_,rfl,z.1,_,_,_,rfl,rfl,SqT.of R,at0 z.2,_,rfl,_,rfl,z.1,_,rfl,SqT.of R,(by intro h;show absurd h.1 (show ¬HT.sIx 4 0 (some 1)=0 by decide)),λg O=>?_};rw[a7];have S:=ae (o:=.tup<|aL z.2) O;have c2:∃ys,upd H2 g (.tup<|aL z.2) p=some (.lst ys):=let⟨ys,e⟩:=N;⟨ys,S _ _ e⟩;show{le2,λq B=>{S.trans<|ae B,q,g,z,I,rfl,dJ c2 B,dJ N O,ac,aN B ac}}
  .obtain⟨c,e1,e2,e3⟩:∃c:List<|(zi×zi)×(zi×Nd),c.map (·.2)=zs/\ys=(c.map (·.1.1)).map V.ref/\∀a∈c,H' a.1.1=some (.tup [.int a.2.2.num,.ref a.1.2])/\H' a.1.2=some (.tup<|aL a.2.2):=by
    clear M;have d1:∀(ys:List V)(xs:ZN),ys.length=xs.length->(∀(i:Nat) y,ys[i]?=some y->∃q g z,xs[i]?=some z/\y=.ref q/\q≠p/\g≠p/\H' q=some (.tup [.int z.2.num,.ref g])/\H' g=some (.tup<|aL z.2)) ->
      ∃c:List<|(zi×zi)×(zi×Nd),c.map (·.2)=xs/\ys=(c.map (·.1.1)).map V.ref/\∀a∈c,H' a.1.1=some (.tup [.int a.2.2.num,.ref a.1.2])/\H' a.1.2=some (.tup<|aL a.2.2):=by
     intro ys
     induction ys with
     |nil =>
      intro xs n _;have:xs=[]:=GY.mp n.symm;subst this;show{[],rfl,rfl,by simp}
     |cons y ys c9 =>
      intro xs n h;cases xs with
      |nil=>simp at n
      |cons x xs =>
       let(c,e1,e2,e3):=c9 xs (by simpa using n) λi y C=>by simpa using h (i+1) y (by simpa using C)
       let(q,g,z,a8,a9,d9,e5,b5,b6):=h 0 y rfl;have:x=z:=by simpa using a8
       subst this;show{((q,g),x)::c,by simp[e1],by simp[e2,a9],λa j=>?_};rcases FU.mp j with rfl|j
       .show⟨b5,b6⟩
       .show e3 a j
    show d1 ys zs c0 c4
   have e6:c.length=zs.length:=by rw[<-e1,ES]
   show{p,c.map λa=>(a.1.1,(Sum.inl a.2.2.num:Key),V.ref a.1.2),rfl,?_,?_,?_,?_,λd J=>?_}
   .rw[M,e2,FD,FD,FD];rfl
   .intro z c5;let(a,j,rfl):=EZ.mp c5;show(e3 a j).1
   .rw[ES];lia
   .rw[FD];have:(c.map<|(λx:zi×Key×V=>x.2.1)∘λa=>(a.1.1,(Sum.inl a.2.2.num:Key),V.ref a.1.2))=((nds zs).map (·.num)).map (Sum.inl:Int->Key):=by
     rw[<-e1];unfold nds;simp only[FD];rfl
    rw[this];unfold Nodup at L|-;rw[Fh];show L.imp λh e=>h (by injection e)
   .have U:=ae (o:=.dK<|(c.map λa=>(a.1.1,(Sum.inl a.2.2.num:Key),V.ref a.1.2)).map (·.2)) J;have D:upd H' d (.dK<|(c.map λa=>(a.1.1,(Sum.inl a.2.2.num:Key),V.ref a.1.2)).map (·.2)) d=some (.dK<|aW (c.map λa=>(a.1.2,a.2))):=by
     rw[ac];show congrArg (λx=>some<|HO.dK x) ?_;unfold aW;simp only[FD];rfl
    show k d (c.map λa=>(a.1.2,a.2)) _ (s1.trans U) (s1.free J) {.inl D,by rw[FD];show e1,λa j=>?_} D;let(b,b8,rfl):=EZ.mp j;show U _ _ (e3 b b8).2
def unl(e:zi×Row):Bool:=!decide (e.2.o=e.2.n)
def tD:Sp:=λvs H Q _=>∃l es,vs=[.ref l]/\H l=some (.lst<|iX es)/\(∀e∈es,RowAt H e.1 e.2)/\es.length<=60/\∀c H',Same H H'->ChgAt H' c (es.filter unl)->Q (.ref c) H'
theorem DF:FnScope ["entries"] ["entries"] (ak di):=fsc
theorem Cc{f:zi}{d:qa}(F:Fun K "unlike_entries" "unlike_entries" di f d)(T:Txt mg):FnOk P w K mg base CX0 1 f d ["entries"] tD:=by
 show F.okA DF λcdv A outer s H vs Q E B h=>?_
 .let(l,es,rfl,i,g,u,k):=h;show{_,am<|aq (aK br rfl T.tuple rfl<|aa (gS lcS (dR<|pv 0)
   (λs H fp=>au (xb<|bp B) (ixT K (pv 0) ai) (ixT K (pv 0) ai)<|av _) (λs H fp=>pv 0)) af),?_}
  show{_,rfl,l,rfl,⟨_,SqL.of i⟩,λp v=>?_};show jt (fr:=[]) es (λe=>V.ref e.1) (by lia) v (gR<|SqL.of i) rfl unl (λe y _=>y=.ref e.1) (λe y H H' h _=>h) (λe H' D a s1 _ b=>?_) (λe H' D a _ s1 _ b=>{_,rfl,b _ H' (Same.refl _) rfl}) λys H' s1 x C=>?_
  .let((J,I,h1,h2,h3),G):=(g e a).same s1;show{_,rfl,e.1,_,_,_,rfl,rfl,SqT.of h1,rfl,_,rfl,e.1,_,_,_,rfl,rfl,SqT.of h1,rfl,_,_,h2.ot,h3.ot,_,rfl,?_};have m:(!decide (e.2.o.map aL=e.2.n.map aL))=unl e:=by
    unfold unl;have:=G.eq
    by_cases z:e.2.o=e.2.n
    .rw[Fe<|this.mpr z,Fe z]
    .rw[FZ λq=>z<|this.mp q,FZ z]
   rw[m];show b H'<|Same.refl _
  .have r:=cn (f:=λe:zi×Row=>V.ref e.1) C λe y _ h=>h;show{p,_,rfl,.inl {SqL.of x,λc t=>?_}};have j:=s1.trans<|ae (o:=.tup ys) t;show k c _ j {by rw[ac,r];rfl,λe a=>(g e (Fw.mp a).1).same j,GS (length_filter_le _ _) u}
end
def cbS(i:Nat):Stmt:=(bg bv).getD i (.Pass ⟨0,0,0,0⟩)
def CN:List Str:=["one","other","before","after","numbers"]
theorem zG:FnScope CN ["one","other"] (ak bv):=fsc
abbrev CbX(P:qw)(w:qn)(K:Frag)(mg:Str->Option xx)(base:qb)(f:zi)(cdv:xx)(A:qd)(outer:List Env)(s:xg)(H:Hp)(E:XK):Cx:=(fY CX0 P w K mg base CN "change_between" (ak bv) f cdv A outer s H E).nox
section
variable{P:qw}{w:qn}{K:Frag}{mg:Str->Option xx}{base:qb}{f:zi}{cdv:xx}{A:qd}{outer:List Env}{s:xg}{H0:Hp}{E:XK}
theorem cb2(T:Txt mg):∃t,PS (CbX P w K mg base f cdv A outer s H0 E) (cbS 2) t/\∀(n:Ends)(H:Hp)(u v N:Option V)(d g:zi)(y bs:List<|zi×(zi×Nd))(zs us:ZN),Book H d y zs->Book H g bs us->zs.length<=30->us.length<=30 ->
   (∀(l:zi)(ns:List Int)(H':Hp),Same H H'->H' l=some (.lst<|ns.map V.int)->ns.Pairwise (· < ·)->ns.length<=60->(∀k,k∈ns↔k∈(nds zs).map (·.num)\/k∈(nds us).map (·.num))->n.nx [u,v,some<|.ref d,some<|.ref g,some<|.ref l] H')->t n [u,v,some<|.ref d,some<|.ref g,N] H:=by
 show{_,aD (i:=4) zG.nd rfl (Or.inl rfl)<|ar (lw rfl) rfl T.sorted boot_sorted (aa (aE xf (aK jI rfl T.set rfl<|aa (pv 2) af)<|aK jI rfl T.set rfl (aa (pv 3) af)) af),?_};intro n H u v N d g y bs zs us z B a1 a2 q;show{_,rfl,d,_,(nds zs).map (·.num),rfl,z.dict,ix z.of,by rw[ES,aG];lia,λb Q F a W=>?_};have s1:=ae (o:=fU (CbX P w K mg base f cdv A outer s H0 E).w a b) W;have p:upd H a (fU (CbX P w K mg base f cdv A outer s H0 E).w a b) a=some (fU (CbX P w K mg base f cdv A outer s H0 E).w a b):=ac;generalize upd H a (fU (CbX P w K mg base f cdv A outer s H0 E).w a b)=H1 at s1 p|-;show{_,rfl,g,_,(nds us).map (·.num),rfl,(B.same s1).dict,ix B.of,by rw[ES,aG];lia,λc R G p2 j=>?_};have M:=s1.trans<|ae (o:=fU (CbX P w K mg base f cdv A outer s H0 E).w p2 c) j;have D:upd H1 p2 (fU (CbX P w K mg base f cdv A outer s H0 E).w p2 c) p2=some (fU (CbX P w K mg base f cdv A outer s H0 E).w p2 c):=ac;have C:upd H1 p2 (fU (CbX P w K mg base f cdv A outer s H0 E).w p2 c) a=some (fU (CbX P w K mg base f cdv A outer s H0 E).w a b):=aN j p;have U:a≠p2:=λe=>by rw[<-e,p]at j;cases j
 generalize upd H1 p2 (fU (CbX P w K mg base f cdv A outer s H0 E).w p2 c)=H2 at M D C|-;have k1:b.length<=30:=by
  have:=fb Q λx h=>(F x).mp h;rw[ES,aG]at this
  lia
 have k2:c.length<=30:=by
  have:=fb R λx h=>(G x).mp h;rw[ES,aG]at this
  lia
 show{a,p2,b,c,rfl,rfl,U,C,D,by lia,λr S I L X=>?_};have k3:r.length<=60:=by
  have:=fb (m:=b++c) S λx h=>Fd.mpr<|(I x).mp h;rw[FI]at this
  lia
 have Z:=M.trans<|ae (o:=fU (CbX P w K mg base f cdv A outer s H0 E).w L r) X;show{L,r,rfl,ac,k3,λns J Y l O=>?_};have a0:=Z.trans<|ae (o:=.lst<|ns.map V.int) O;show q l ns _ a0 ac Y (by rw[J.length_eq];show k3) λk=>?_;rw[J.mem_iff,I k,F k,G k]
theorem cb3(B:Room 1<|A.deeper (PyProof.Rows.envOfC "change_between" (ak bv) s.heap.objs.size f cdv))(Y:Has P w K mg base 1 "unlike_entries" ["entries"] tD):
  ∃t,PS (CbX P w K mg base f cdv A outer s H0 E) (cbS 3) t/\∀(r:Ends)(H:Hp)(W X:Option V)(d g l:zi)(C bs:List<|zi×(zi×Nd))(zs us:ZN)(ns:List Int),Book H d C zs->Book H g bs us->TW.Tree1 (nds zs)->TW.Tree1 (nds us)->H l=some (.lst<|ns.map V.int)->ns.Pairwise (· < ·)->ns.length<=60->(∀k,k∈ns↔k∈(nds zs).map (·.num)\/k∈(nds us).map (·.num)) ->
   (∀c es H',Same H H'->ChgAt H' c es->TW.Chg (nds zs) (nds us) (fJ es)->r.rt (.ref c) H')->t r [W,X,some<|.ref d,some<|.ref g,some<|.ref l] H:=by
 show{_,aq<|bu Y B (aa (de (fs:=["after","before"]) (cl:=[("before",s.heap.objs.size+1),("after",s.heap.objs.size+2)]) (js:=[3,2]) lcF (dR<|pv 4)
   (λs H fp=>aO<|aa (pv 0) (aa (kq (bp B) (pv 2) (pv 0) ⟨rfl,rfl,rfl,rfl⟩)<|aa (kq (bp B) (pv 1) (pv 0) ⟨rfl,rfl,rfl,rfl⟩) af))) af),?_}
 intro r H W X d g l C bs zs us ns D F Z a0 G a8 b9 a3 q;show{_,rfl,l,rfl,⟨_,SqL.of G⟩,λp a4=>?_};show dZ (fr:=[some<|.ref g,some<|.ref d]) ns V.int (by lia) a4 (gR<|SqL.of G) rfl (λk y H'=>∃c b a,y=.ref c/\c≠p/\H' c=some (.tup [.int k,b,a])/\fc H' b (TW.aU (nds zs) k)/\fc H' a (TW.aU (nds us) k)/\b≠.ref p/\a≠.ref p) (λk y H H' h ex=>?_) (λk H' c0 mk s1 L u=>?_) λys H' s1 a5 b7=>?_
 .let(c,b,a,e,O,h1,h2,h3,M,N):=h;have R:∀{v:V}{o:Option Nd},v≠.ref p->fc H v o->fc H' v o:=λa9 h=>by
   rcases h with h|⟨q,n,e,h,e2⟩
   .show .inl h
   .show .inr {q,n,e,ex q _ (λz=>a9 (by rw[e,z])) h,e2}
  show{c,b,a,e,O,ex c _ O h1,R M h2,R N h3,M,N}
 .let(T,a6,I):=(D.same s1).optV Z k;let(U,a7,J):=(F.same s1).optV a0 k;have Q:∀{v:V}{o:Option Nd},fc H' v o->v≠.ref p:=λh e=>by
   rcases h with⟨h,_⟩|⟨q,n,e2,h,_⟩
   .rw[h]at e;cases e
   .rw[e2]at e;injection e with e
    let(ys,b6):=L;rw[e,b6]at h;cases h
  show{_,rfl,_,rfl,d,rfl,.inl {_,(D.same s1).dict},_,rfl,T,a6,_,rfl,g,rfl,.inl {_,(F.same s1).dict},_,rfl,U,a7,(show 3<=sizeLine from ao (by decide)),λc m=>?_};have i:=ae (o:=.tup [.int k,T.getD .non,U.getD .non]) m;show u _ _ i ⟨c,_,_,rfl,dJ L m,ac,I.same i,J.same i,Q I,Q J⟩
 .let(j,e1,e2,e3):=dE (val:=V.ref) (S:=λ(k:Int) (c:zi)=>RowAt H' c<|TW.iW (nds zs) (nds us) k) b7 λk y _ ⟨c,b,a,e,_,h1,h2,h3,_⟩=>⟨c,e,⟨b,a,h1,h2,h3⟩,xi k⟩;have b8:j.length=ns.length:=by rw[<-e1,ES]
  have a1:fJ (j.map λx=>(x.2,TW.iW (nds zs) (nds us) x.1))=ns.map (TW.iW (nds zs)<|nds us):=by
   unfold fJ;rw[FD,<-e1,FD];rfl
  show{p,j.map λx=>(x.2,TW.iW (nds zs) (nds us) x.1),rfl,by rw[a5,e2];unfold iX;rw[FD];rfl,λe a2=>?_,by rw[ES];lia,λc H2 i m=>?_}
  .let(x,b5,rfl):=EZ.mp a2;show e3 x b5
  .show q c _ H2 (s1.trans i) m ?_;have:fJ ((j.map λx=>(x.2,TW.iW (nds zs) (nds us) x.1)).filter unl)=_:=qh a1;rw[this];show TW.Bs a8 λk u=>.inl<|(a3 k).mpr ?_;rcases u with h|h
   .show .inl<|nq h
   .show .inr<|nq h
def xK:Sp:=λvs H Q _=>∃t u zs a,vs=[.ref t,.ref u]/\Tre H t zs/\Tre H u a/\∀c es H',Same H H'->ChgAt H' c es->TW.Chg (nds zs) (nds a) (fJ es)->Q (.ref c) H'
theorem Cd{f:zi}{v:qa}(F:Fun K "change_between" "change_between" bv f v)(T:Txt mg)(m:Has P w K mg base 1 "parts_by_number" ["tree"] oJ)(x:Has P w K mg base 1 "unlike_entries" ["entries"] tD):FnOk P w K mg base CX0 2 f v ["one","other"] xK:=by
 show F.okA zG λcdv A outer s H vs Q E J h=>?_
 .let(t,u,zs,k,rfl,g,j,q):=h;have a:Room 1 _:=J.mono (by decide);let(R,p2,h2):=cb2 (P:=P) (w:=w) (K:=K) (base:=base) (f:=f) (cdv:=cdv) (A:=A) (outer:=outer) (s:=s) (H0:=H) (E:=E) T;let(S,N,h3):=cb3 (P:=P) (w:=w) (base:=base) (f:=f) (cdv:=cdv) (A:=A) (outer:=outer) (s:=s) (H0:=H) (E:=E) a x;show{_,ag (aD (i:=2) zG.nd rfl (Or.inr rfl)<|bu m a (aa (pv 0) af))
   (ag (aD (i:=3) zG.nd rfl (Or.inr rfl)<|bu m a (aa (pv 1) af))<|ag p2 (am N)),?_}
  show{_,rfl,t,zs,rfl,g,λd n H1 s1 _ o _=>?_};show{_,rfl,u,k,rfl,j.same s1,λr bs H2 b _ p _=>?_};show h2 _ H2 _ _ _ d r n bs zs k (o.same b) p g.len j.len λl M y e D L I G=>?_;show h3 _ y _ _ d r l n bs zs k M ((o.same b).same e) (p.same e) g.tr j.tr D L I G λc es z O B C=>q c es z (((s1.trans b).trans e).trans O) B C
def lN(C:zi):Sp:=λvs H Q _=>∃p ft t d pl al b z gs es a,vs=[.ref p]/\LAt C H p ft t d pl al b z gs es a/\Q (.ref ft) H
theorem Ce:FnScope ["self"] ["self"] (ak fq):=fsc
theorem zH{f C:zi}{a:qa}(F:Fun K "base" "Ledger.base" fq f a)(T:LCls K mg C):FnOk P w K mg base CX0 1 f a ["self"] (lN C):=by
 show F.okA Ce λcdv A outer s H vs Q E g h=>?_
 .let(p,ft,t,d,pl,al,i,z,gs,es,e,rfl,b,q):=h;let(dx,c):=b.ob;show{_,am<|aq (ci (pv 0) rfl),_,rfl,p,C,dx,_,_,rfl,c,T.cl,T.n0,Du,q}
def qx(C:zi):Sp:=λvs H Q _=>∃p ft t d pl al e z gs es b g,vs=[.ref p,.str g.1]/\LAt C H p ft t d pl al e z gs es b/\g.1.length<=100/\cQ g.1=true/\g∈gs/\∀c a H',Same H H'->ChgAt H' c a->TW.Chg (nds g.2.2) (nds z) (fJ a)->Q (.ref c) H'
theorem DG:FnScope ["self","name"] ["self","name"] (ak dh):=fsc
theorem Cf{f C e:zi}{i j:qa}(F:Fun K "from_tag" "Ledger.from_tag" dh f i)(T:LCls K mg C)(n:Has P w K mg base 2 "change_between" ["one","other"] xK)(r:Meth K C "tagged" e)(o:FnOk P w K mg base CX0 2 e j ["self","name"]<|oF C)(v:aH K j ["self","name"] []):FnOk P w K mg base CX0 3 f i ["self","name"] (qx C):=by
 show F.okA DG λcdv A outer s H vs Q E m h=>?_
 .let(p,ft,t,d,pl,al,J,z,gs,es,u,g,rfl,a,D,B,k,q):=h;let(dx,l):=a.ob;show{_,am<|aq (bu n m<|aa (fg (pv 0) T.cl r o m v .nil cK<|aa (pv 1) af) (aa (ci (pv 0) rfl) af)),?_};show{_,rfl,p,dx,_,rfl,l,dP (by decide +kernel) (by decide +kernel) (by decide +kernel) (by decide +kernel) (by decide +kernel),_,rfl,p,ft,t,d,pl,al,J,z,gs,es,u,g,rfl,a,D,B,k,λH1 s1=>?_};have b:=a.same s1;show{_,rfl,p,C,dx,_,_,rfl,s1 _ _ l,T.cl,T.n1,nu,g.2.1,t,g.2.2,z,rfl,b.tg.at' g k,b.tr,λc G H2 I x y=>q c G H2 (s1.trans I) x y}
end
def LN:List Str:=["_law_script","_law_begin","_law_ledger","_law_now","_law_steps","_law_k","_law_step_here","_law_due","_law_name"]
theorem oK:FnScope LN ["_law_script"] (ak gC):=fsc
end TK
namespace L2
open PySem PyProof PyProof.Rows
section
variable{X:Cx}{pos:Pos}
def Cg(K:Frag)(f:TE)(i j l:Nat):TS:=λe σ H=>f σ H λv H1=>∃a b c d,v=.ref a/\SqT K H1 a [b,c,d]/\e.nx (((σ.set l<|some d).set j (some c)).set i (some b)) H1
theorem xL{c d f:Str}{r t u y:Pos}{k:Nat}{m:Expr}{z:TE}{i j l:Nat}(E:X.calm=true)(p:X.N.Nodup)(M:X.N[i]?=some c)(O:X.N[j]?=some d)(P:X.N[l]?=some f)(V:Loc X.env.scope c)(W:Loc X.env.scope d)(Y:Loc X.env.scope f)(G:X.env.scope.names.lookup c=some .local)(J:X.env.scope.names.lookup d=some .local)(L:X.env.scope.names.lookup f=some .local)(F:PE X m z)(R:swapsWithSole [.Tuple [.Name c r,.Name d t,.Name f u] k y] m pos.line X.env=pure false:=by rfl)(T:swappedStores [.Tuple [.Name c r,.Name d t,.Name f u] k y] m X.env=pure (some [c,d,f]):=by rfl):PS X (.Assign [.Tuple [.Name c r,.Name d t,.Name f u] k y] m pos) (Cg X.K z i j l):=by
 intro pins s σ H a0 I h;show Assign_Tuple_swapped (names:=[c,d,f]) (thn (F pins s σ H _ I h) λv s1 ⟨x,H1,n,w,Z⟩=>?_) R T;let(a,a6,a7,a8,rfl,Q,q):=Z;cases w;let(a2,g,S,a1):=n.tuple Q;cases g with
 |@cons _ u1 _ _ w g=>cases g with
  |@cons _ u2 _ _ r2 g=>cases g with
   |@cons _ u3 _ _ r3 g=>cases g with
    |nil =>
     show unpackItems_tuple (items:=#[u1,u2,u3]) (n.ok.hd E) S λh' U=>?_;have A:Inv X pins σ H1 {s1 with heap:=h'}:=n.kept (t':=s1.toks) λb o e=>U b o (FX<|FW e) e
     change wpAny _ _ (assignInOrder [bindName X.env f,bindName X.env d,bindName X.env c] [u3,u2,u1]) _ _ _;show assignInOrder_cons<|wpAny_bindName (eQ A p P Y r3 (λa3 B=>?_)<|.inr L);show assignInOrder_cons<|wpAny_bindName (eQ B p O W r2 (λa4 C=>?_)<|.inr J);show assignInOrder_cons<|wpAny_bindName (eQ C p M V w (λa5 D=>?_)<|.inr G);show assignInOrder_nil ⟨_,H1,D,q⟩
end
end L2
namespace TK
open PySem L2
def qy(g:Str×(zi×ZN)):Str×List Nd:=(g.1,nds g.2.2)
def jz(gs a:TG):Prop:=gs.map qy=a.map qy
theorem jz.names{gs a:TG}(b:jz gs a):gs.map (·.1)=a.map (·.1):=by
 have:=congrArg (List.map Prod.fst) b;rw[FD,FD]at this;show this
theorem jz.put{gs d:TG}(c:jz gs d){x:Str}{v u:zi×ZN}(e:nds v.2=nds u.2):jz (cR gs x v) (cR d x u):=by
 have i:=c.names;have h:((gs.any λg=>decide<|g.1=x)=true)↔((d.any λg=>decide<|g.1=x)=true):=by rw[jX,jX,i]
 unfold jz cR
 by_cases b:(gs.any λg=>decide<|g.1=x)=true
 .rw[EW b,EW<|h.mp b,FD,FD];have f:∀(w:zi×ZN),(qy∘λg:Str×(zi×ZN)=>if g.1=x then (g.1,w)else g)=(λk:Str×List Nd=>if k.1=x then (k.1,nds w.2)else k)∘qy:=λw=>by
   funext g
   change qy (if g.1=x then (g.1,w)else g)=if g.1=x then (g.1,nds w.2)else qy g
   by_cases a:g.1=x
   .rw[EW a,EW a];rfl
   .rw[EV a,EV a]
  rw[f v,f u,<-FD,<-FD,c,e]
 .rw[EV b,EV λz=>b<|h.mpr z,Fn,Fn,c];change _++[(x,nds v.2)]=_++[(x,nds u.2)];rw[e]
theorem jz.get{gs a:TG}(b:jz gs a){g:Str×(zi×ZN)}(c:g∈gs):∃k∈a,k.1=g.1/\nds k.2.2=nds g.2.2:=by
 have:qy g∈a.map qy:=by rw[<-b];show EZ.mpr ⟨g,c,rfl⟩
 let(k,d,e):=EZ.mp this;have e1:(k.1,nds k.2.2)=(g.1,nds g.2.2):=e;injection e1 with e1 e2
 show⟨k,d,e1,e2⟩
theorem jz.symm{gs a:TG}(b:jz gs a):jz a gs:=Eq.symm b
structure Iv(C:zi)(H:Hp)(p tb t d pl al n t' d':zi)(zb z z':ZN)(gs gs':TG)(es:List Ent)(i:Nat):Prop where
 L:LAt C H p tb t d pl al zb z gs es []
 nw:H n=some (.tup [.ref t',.ref d'])
 tr:Tre H t' z'
 en:nds z'=nds z
 tg:Tags H d' gs'
 al:jz gs gs'
 ok:∀n∈nds z,eJ n
 zl:z.length<=6+i
 el:es.length<=i
 nm:∀g∈gs,g.1∈eE/\g.1≠"Bad"
 gok:∀g∈gs,(∀m∈nds g.2.2,eJ m)/\g.2.2.length<=6+i
 fx:∀e∈es,e.xs.all cI=true
theorem Iv.same{C:zi}{b H':Hp}{p g t d pl c n t' d':zi}{j z h:ZN}{gs f:TG}{e:List Ent}{i:Nat}(a:Iv C b p g t d pl c n t' d' j z h gs f e i)(s:Same b H'):Iv C H' p g t d pl c n t' d' j z h gs f e i :=
 ⟨a.L.same s,s _ _ a.nw,a.tr.same s,a.en,a.tg.same s,a.al,a.ok,a.zl,a.el,a.nm,a.gok,a.fx⟩
structure Sts(H:Hp)(l pl:zi)(ls:List zi)(es:List Ent):Prop where
 lst:H l=some (.lst<|ls.map V.ref)
 ne:l≠pl
 len:ls.length=es.length
 at':∀(j:Nat) a e,ls[j]?=some a->es[j]?=some e->H a=some (.tup e.xs)
theorem Sts.same{c H':Hp}{l pl:zi}{d:List zi}{es:List Ent}(b:Sts c l pl d es)(s:Same c H'):Sts H' l pl d es:={s _ _ b.lst,b.ne,b.len,λf a e h1 h2=>s _ _<|b.at' f a e h1 h2}
abbrev EY(P:qw)(w:qn)(K:Frag)(mg:Str->Option xx)(base:qb)(f:zi)(cdv:xx)(A:qd)(outer:List Env)(s:xg)(H:Hp)(E:XK):Cx:=(fY CX0 P w K mg base LN "law" (ak gC) f cdv A outer s H E).nox
def eS(i:Nat):Stmt:=(bg gC).getD i (.Pass ⟨0,0,0,0⟩)
section
variable{P:qw}{w:qn}{K:Frag}{mg:Str->Option xx}{base:qb}{f:zi}{cdv:xx}{A:qd}{outer:List Env}{s:xg}{H0:Hp}{E:XK}
theorem e0(y:Room 9<|A.deeper (PyProof.Rows.envOfC "law" (ak gC) s.heap.objs.size f cdv))(t:Has P w K mg base 3 "_law_tree" ["_law_script","_law_at","_law_most"]<|ja K):
  ∃p,PS (EY P w K mg base f cdv A outer s H0 E) (eS 0) p/\∀(b:Ends)(H:Hp)(a:zi)(r e g h j k l m:Option V),ck K H a ->
   (∀tb zb H',Same H H'->Tre H' tb zb->(∀n∈nds zb,eJ n)->zb.length<=6->b.nx [some<|.ref a,some<|.ref tb,e,g,h,j,k,l,m] H')->p b [some<|.ref a,r,e,g,h,j,k,l,m] H:=by
 have B:Room 3 _:=y.mono (by decide);show{_,aD (i:=1) oK.nd rfl (Or.inl rfl)<|bu t B (aa (pv 0)<|aa ai (aa ai af)),?_};intro b H a r e g h j k l m v q;show{_,rfl,a,0,6,rfl,by decide,by decide,by decide,v,λD F H1 C u G x o s1=>?_};show q D F H1 s1 {C,u,{x,λn c=>by let(z,d,rfl):=gv c;show(o z d).1},by lia} (λn c=>by let(z,d,rfl):=gv c;show(o z d).ok) (by lia)
theorem e1{C O:zi}{Q:qa}(b7:Room 9<|A.deeper (PyProof.Rows.envOfC "law" (ak gC) s.heap.objs.size f cdv))(T:LCls K mg C)(a5:Mk K C O)(a4:FnOk P w K mg base CX0 1 O Q ["self","tree"]<|lF C)(a6:aH K Q ["self","tree"] []):
  ∃Y,PS (EY P w K mg base f cdv A outer s H0 E) (eS 1) Y/\∀(x:Ends)(H:Hp)(a tb:zi)(zb:ZN)(a1 a2 a3 F G I J:Option V),Tre H tb zb->(∀n∈nds zb,eJ n)->zb.length<=6 ->
   (∀p d pl al n d' l H',Same H H'->Iv C H' p tb tb d pl al n tb d' zb zb zb [] [] [] 0->Sts H' l pl [] []->(∀b o,H b=some o->b≠p/\b≠pl)->x.nx [some<|.ref a,some<|.ref tb,some<|.ref p,some<|.ref n,some<|.ref l,F,G,I,J] H')->Y x [some<|.ref a,some<|.ref tb,a1,a2,a3,F,G,I,J] H:=by
 have b8:Room 2 _:=b7.mono (by decide);show{_,xL (i:=2) (j:=3) (l:=4) rfl oK.nd rfl rfl rfl (Or.inl rfl) (Or.inl rfl) (Or.inl rfl) rfl rfl rfl<|aO (aa (yb a5 a4 b8 rfl T.mgC a6 .nil cK<|aa (pv 1) af)<|aa (aO<|aa (pv 1) (aa ko af)) (aa (bc af) af)),?_};intro x H a tb zb a1 a2 a3 F G I J a0 c1 c4 q;show{_,rfl,λp dx y a8 c5=>?_};have v:Same H (upd (upd H dx<|.own p) p<|.ins C dx []):=λb o e=>by rw[aj<|aB e y,aj<|aB e a8];show e
 have W:upd (upd H dx<|.own p) p (.ins C dx []) p=some (.ins C dx []):=ac;generalize upd (upd H dx<|.own p) p (.ins C dx [])=H1 at v W|-;show{p,dx,tb,zb,rfl,W,a0.same v,λd pl al H2 _ b6 _ N o=>{rfl,?_}};have Z:Same H H2:=λb u e=>o b u (v _ _ e) λz=>by
  have k:b=p:=by simpa using z
  rw[k,y]at e;cases e
 show{_,rfl,λd' a7=>?_};have B:=ae (o:=.dK []) a7;have R:upd H2 d' (.dK []) d'=some (.dK []):=ac;change _;generalize upd H2 d' (.dK [])=L at B R|-;show{le2,λn b5=>?_};have m:=ae (o:=.tup [.ref tb,.ref d']) b5;have S:upd L n (.tup [.ref tb,.ref d']) n=some (.tup [.ref tb,.ref d']):=ac;generalize upd L n (.tup [.ref tb,.ref d'])=M at m S|-;show{ao (show 0<=1000 by decide),λl X=>?_};have r:=ae (o:=.lst []) X;have U:upd M l (.lst []) l=some (.lst []):=ac;generalize upd M l (.lst [])=c3 at r U|-;show{(show 3<=sizeLine from ao (by decide)),λc2 b9=>?_};have t:=ae (o:=.tup [.ref p,.ref n,.ref l]) b9;show{c2,_,_,_,rfl,SqT.of ac,?_};have D:=B.trans<|m.trans (r.trans t);have c0:l≠pl:=λe=>by
  have h:=m _ _<|B _ _ N.ps;rw[<-e,X]at h;cases h
 show q p d pl al n d' l _ (Z.trans D) {N.same D,t _ _<|r _ _ S,a0.same<|Z.trans D,rfl,{.inl<|t _ _ (r _ _<|m _ _ R),(λg c=>nomatch c),nodup_nil,by decide},rfl,c1,by lia,FH _,(λg c=>nomatch c),(λg c=>nomatch c),(λe a9=>nomatch a9)} {t _ _ U,c0,rfl,(λj a e h=>by cases h)} (λb o e=>{(λz=>by rw[z,y]at e;cases e),(λz=>by have k:=v _ _ e;rw[z,b6]at k;cases k)})
end
def lbS(i:Nat):Stmt:=match (bg gC).getD 2 (.Pass ⟨0,0,0,0⟩)with
 |.For _ _ b _ _=>b.getD i<|.Pass ⟨0,0,0,0⟩
 |_=>.Pass ⟨0,0,0,0⟩
def lO(a:Hp)(b:zi):Prop:=(∃x,x∈eE/\gG a b x)\/∃dd,a b=some (.tup<|aQ dd)/\bX dd
abbrev eσ(a b p n l:zi)(k:Int)(c d e:Option V):St:=[some<|.ref a,some<|.ref b,some<|.ref p,some<|.ref n,some<|.ref l,some<|.int k,c,d,e]
section
variable{P:qw}{w:qn}{K:Frag}{mg:Str->Option xx}{base:qb}{f:zi}{cdv:xx}{A:qd}{outer:List Env}{s:xg}{H0:Hp}{E:XK}
theorem b0(u:Room 9<|A.deeper (PyProof.Rows.envOfC "law" (ak gC) s.heap.objs.size f cdv))(j:Has P w K mg base 4 "_law_step" ["_law_script","_law_at","_law_tree_here"]<|iz K):
  ∃g,PS (EY P w K mg base f cdv A outer s H0 E) (lbS 0) g/\∀(c:Ends)(H:Hp)(a tb p n l t' d':zi)(k:Nat)(b:ZN)(h d e:Option V),k<14->ck K H a->H n=some (.tup [.ref t',.ref d'])->Tre H t' b->(∀n∈nds b,eJ n) ->
   (∀sa H',Same H H'->lO H' sa->c.nx (eσ a tb p n l k (some<|.ref sa) d e) H')->g c (eσ a tb p n l k h d e) H:=by
 have v:Room 4 _:=u.mono (by decide);show{_,aD (i:=6) oK.nd rfl (Or.inl rfl)<|bu j v (aa (pv 0)<|aa (aE be ai<|aE dG ai (pv 5)) (aa (ixT K (pv 3) ai) af)),?_};intro c H a tb p n l t' d' k b h d e D m t C B q;show{_,rfl,_,rfl,_,_,rfl,rfl,.inl ⟨by decide,by decide⟩,_,_,rfl,rfl,_,rfl,n,_,_,_,rfl,rfl,SqT.of t,rfl,a,_,t',b,rfl,by lia,m,C,B,λx sa H' z s' y=>q sa H' s'<|.inl ⟨x,z,y⟩,λsa dd H' s' o r=>q sa H' s'<|.inr ⟨dd,o,r⟩}
inductive Beh(H:Hp)(sa n n1 t' d':zi)(z':ZN)(gs':TG):V->Prop where
 |bad:gG H sa "Bad"->n1=n->Beh H sa n n1 t' d' z' gs' (.str "no tag")
 |tag (x:Str) (d1:zi):x∈eE->x≠"Bad"->gG H sa x->H n1=some (.tup [.ref t',.ref d1])->Tags H d1 (cR gs' x (t',z'))->Beh H sa n n1 t' d' z' gs' (.bl<|decide (x∈gs'.map (·.1)))
 |told (dd:TW.Deed Str) (t1:zi) (us:ZN):H sa=some (.tup<|aQ dd)->bX dd->TW.Told (nds z') dd (.inr<|nds us)->Tre H t1 us->H n1=some (.tup [.ref t1,.ref d'])->Beh H sa n n1 t' d' z' gs' .non
 |refused (dd:TW.Deed Str) (wd:TW.Wd):H sa=some (.tup<|aQ dd)->bX dd->TW.Told (nds z') dd (.inl wd)->n1=n->Beh H sa n n1 t' d' z' gs' (.str<|hV wd)
theorem b1(L:Room 9<|A.deeper (PyProof.Rows.envOfC "law" (ak gC) s.heap.objs.size f cdv))(F:Has P w K mg base 3 "_law_behind" ["_law_now","_law_step_here"] lM):
  ∃C,PS (EY P w K mg base f cdv A outer s H0 E) (lbS 1) C/\∀(e:Ends)(H:Hp)(a tb p n l sa t' d':zi)(k:Nat)(d:ZN)(c:TG)(D u:Option V),lO H sa->H n=some (.tup [.ref t',.ref d'])->Tre H t' d->Tags H d' c->c.length<50->d.length<=29 ->
   (∀B v H',Same H H'->Beh H' sa n B t' d' d c v->e.nx (eσ a tb p B l k (some<|.ref sa) (some v) u) H')->C e (eσ a tb p n l k (some<|.ref sa) D u) H:=by
 have M:Room 3 _:=L.mono (by decide);show{_,uZ (bu F M<|aa (pv 3) (aa (pv 6) af))<|nH (n:=2) rfl (cF (bx (i:=3) oK.nd rfl<|Or.inl rfl)<|cF (bx (i:=7) oK.nd rfl<|Or.inl rfl) jP),?_};intro e H a tb p n l sa t' d' k d c D u N J T tg I Q q;show{_,rfl,_,rfl,n,sa,t',d',d,c,rfl,J,T,tg,I,?_};rcases N with⟨x,O,y⟩|⟨dd,h,j⟩
 .have z:H sa=some (.tup [.str "tag",.str x]):=y;show .inl {x,y,λg r H' s' b=>?_,λg r o G H' s' b m S=>?_}
  .subst g;show{r,_,rfl,SqT.of b,rfl,_,_,rfl,_,_,rfl,rfl,q n _ H' s'<|.bad (s' _ _ z) rfl}
  .show{r,_,rfl,SqT.of b,rfl,_,_,rfl,_,_,rfl,rfl,q o _ H' s'<|.tag x G O g (s' _ _ z) m S}
 .show .inr {dd,h,j.ok,Q,λr o W R H' s' t U b m=>?_,λX r H' s' t b=>?_}
  .show{r,_,rfl,SqT.of b,rfl,_,_,rfl,_,_,rfl,rfl,q o _ H' s'<|.told dd R W (s' _ _ h) j t U m}
  .show{r,_,rfl,SqT.of b,rfl,_,_,rfl,_,_,rfl,rfl,q n _ H' s'<|.refused dd X (s' _ _ h) j t rfl}
end
def cw:TW.Wd->Nat
 |.inside=>0
 |.known=>1
 |.noNode=>5
 |.notFile=>7
 |.notFolder=>8
 |.taken=>11
theorem rT(a:TW.Wd):W12[cw a]?=some (hV a):=by cases a<;>rfl
theorem bo.ne{c:zi}{q:Str}{a H':Hp}(T:cD a c q)(o:bo c a H'){b:zi}{u:HO}(e:a b=some u)(n:∀ps,u≠.tbl ps):H' b=some u:=o b u (λz=>by
 let(ps,h1,_):=T;rw[z,h1]at e;show n ps (Option.some.inj e).symm) e
section
variable{Pt:zi}{q:Str}{H H':Hp}
theorem bo.tup(T:cD H Pt q)(o:bo Pt H H'){b:zi}{xs:List V}(h:H b=some (.tup xs)):H' b=some (.tup xs):=bo.ne T o h λps h=>(by cases h)
theorem bo.tre(T:cD H Pt q)(o:bo Pt H H'){t:zi}{z:ZN}(a:Tre H t z):Tre H' t z:={bo.tup T o a.tup,λy b=>bo.tup T o<|a.nod y b,a.tr,a.len}
theorem bo.tags(T:cD H Pt q)(o:bo Pt H H'){d:zi}{gs:TG}(a:Tags H d gs):Tags H' d gs:=by
 show{?_,λg b=>bo.tre T o<|a.at' g b,a.nd,a.len};rcases a.dct with e|⟨u,e⟩
 .show .inl<|bo.ne T o e λps a=>(by cases a)
 .show .inr {u,bo.ne T o e λps a=>(by cases a)}
theorem bo.ent(T:cD H Pt q)(o:bo Pt H H'){e:Ent}(h:EntAt H e):EntAt H' e:=⟨bo.tup T o h.ob,bo.tup T o h.st,bo.tre T o h.tr,bo.tags T o h.tg⟩
theorem bo.lat(T:cD H Pt q)(o:bo Pt H H'){C p g t d pl c:zi}{h z:ZN}{gs:TG}{f as:List Ent}(a:LAt C H p g t d pl c h z gs f as):LAt C H' p g t d pl c h z gs f as :=
 {let⟨dx,e⟩:=a.ob;{dx,bo.ne T o e λps a=>(by cases a)},bo.tre T o a.tf,bo.tre T o a.tr,bo.tags T o a.tg,bo.ne T o a.ps λps a=>(by cases a),bo.ne T o a.ah λps a=>(by cases a),a.ne,λe b=>bo.ent T o<|a.ep e b,λe b=>bo.ent T o<|a.ea e b}
theorem bj(T:cD H Pt q)(s:fe H H'):cD H' Pt q:=by
 let(ps,h1,h2,h3):=T;show{ps,s _ _ h1 (λ_ h=>by cases h) (λ_ _ _ h=>by cases h),h2,λpos a e=>?_};let(c,e1,e2):=h3 pos a e;show{c,e1,s _ _ e2 (λ_ h=>by cases h) (λ_ _ _ h=>by cases h)}
end
theorem rU{x:Str}(h:x∈eE):x.length<=100/\(reprText x).length<=300/\(cQ x=true↔x≠"Bad"):=by
 have e:x="a"\/x="one"\/x="two"\/x="Bad":=by simpa [eE]using h
 rcases e with rfl|rfl|rfl|rfl<;>show{by decide +kernel,by decide +kernel,?_}<;>decide +kernel
def Kp(PL p pl:zi)(H H':Hp):Prop:=∀b u,H b=some u->b≠PL->b≠p->b≠pl->H' b=some u
section
variable{PL C Dd p sa tb t d pl al:zi}{B:Nat->zi}{K:Frag}{H:Hp}{Q:VK}{zb z:ZN}{gs:TG}{es:List Ent}
theorem xM(T:cD H PL gW)(P:One12 K B Dd 9)(O:∀a,One12 K B Dd<|cw a)(N:LAt C H p tb t d pl al zb z gs es [])(a0:z.length<=29)(J:es.length<=200)(V:gs.length<50)(Y:lO H sa)(a4:∀x,x∈eE->gG H sa x->x≠"Bad"->∀e D v g H',H g=none->LAt C H' p tb t v pl g zb z (cR gs x (t,z)) (es++[{e,D,t,d,[.str "tag",.str x],z,gs}]) []->Kp PL p pl H H'->cD H' PL gW->Q (.bl<|decide (x∈gs.map (·.1))) H')(a5:gG H sa "Bad"->∀H',bo PL H H'->cD H' PL gW->Q (.str "no tag") H')(a6:∀dd,H sa=some (.tup<|aQ dd)->bX dd->∀E us e g H',H g=none->TW.Told (nds z) dd (.inr<|nds us)->LAt C H' p tb E d pl g zb us gs (es++[⟨e,sa,t,d,aQ dd,z,gs⟩]) []->Kp PL p pl H H'->cD H' PL gW->Q .non H')(a7:∀dd,H sa=some (.tup<|aQ dd)->bX dd->∀a H',TW.Told (nds z) dd (.inl a)->bo PL H H'->cD H' PL gW->Q (.str<|hV a) H'):
  BV PL gW [0,1] (λf c fv=>oI f (BZ c<|qv C (B 9) (λa=>B<|cw a) fv) B Dd K) [some<|.ref p,some<|.ref sa] H Q:=by
 show{T,[.ref p,.ref sa],rfl,λf c H1 i l U _=>{rfl,rfl,U,?_}};have s:=bo.lat T i N;let(dx,X):=s.ob;have I:∀{b:zi},H1 b=none->H b=none:=λ{b} h=>by
  let(ps,h1,_):=l;cases W:H b with
  |none=>rfl
  |some o=>rw[i b o (λz=>by rw[z,h1]at h;cases h) W]at h;cases h
 have M:∀{H':Hp},Off [p,pl] H1 H'->Kp PL p pl H H':=λo b u e a1 a2 a3=>o b u (i b u a1 e) (by simp[a2,a3]);show{p,sa,dx,_,rfl,X,dP (by decide +kernel) (by decide +kernel) (by decide +kernel) (by decide +kernel) (by decide +kernel),dP (by decide +kernel) (by decide +kernel) (by decide +kernel) (by decide +kernel) (by decide +kernel),?_};rcases Y with⟨x,L,A⟩|⟨dd,q,y⟩
 .have Z:H sa=some (.tup [.str "tag",.str x]):=A;let(R,S,G):=rU L;show .inl {x,bo.tup T i Z,p,tb,t,d,pl,al,zb,z,gs,es,[],x,rfl,s,R,S,J,V,λm e D v g H' w r k o=>?_,λm H' s'=>{9,"no tag",rfl,P,rfl,λH2 j=>?_}}
  .show a4 x L A (G.mp m) e D v g H' (I w) r (M o)<|bj l k
  .have ex:x="Bad":=Classical.byContradiction λh=>by rw[G.mpr h]at m;cases m
   subst ex;show a5 A H2 (λb u n e=>j _ _<|s' _ _ (i b u n e))<|bj (bj l<|bi s') (bi j)
 .show .inr {dd,bo.tup T i q,p,tb,t,d,pl,al,zb,z,gs,es,[],sa,dd,rfl,s,a0,bo.tup T i q,y.ok,J,λE us e g H' w F r k o=>?_,λa H' s' F=>{cw a,hV a,rfl,O a,rT a,λH2 j=>?_}}
  .show a6 dd q y E us e g H' (I w) F r (M o)<|bj l k
  .show a7 dd q y a H2 F (λb u n e=>j _ _<|s' _ _ (i b u n e))<|bj (bj l<|bi s') (bi j)
end
theorem lP{f:Hp}{t u:zi}{zs us:ZN}(g:Tre f t zs)(h:Tre f u us)(e:nds zs=nds us):iP f 3 (.ref t) (.ref u):=by
 have k:zs.length=us.length:=by have:=congrArg length e;rwa [aG,aG]at this
 show .inr {t,u,_,_,rfl,rfl,g.tup,h.tup,by rw[ba,ba,k],λi x y c d=>?_};rw[<-cf,FE]at c d;cases h1:zs[i]? with
 |none=>rw[h1]at c;cases c
 |some a =>
  cases h2:us[i]? with
  |none=>rw[h2]at d;cases d
  |some b =>
   rw[h1]at c;rw[h2]at d;cases c;cases d;have j:a.2=b.2:=by
    have:=congrArg (λl=>l[i]?) e;unfold nds at this;rw[FE,FE,h1,h2]at this;show Option.some.inj this
   show .inr {a.1,b.1,_,_,rfl,rfl,g.nod a<|FP h1,h.nod b<|FP h2,rfl,?_};rw[j];show lz f b.2 1
theorem fK{b:Hp}{t u d e:zi}{z p:ZN}{gs f ks:TG}(B:Tre b t z)(C:Tre b u p)(r:nds p=nds z)(s:∀g∈gs,Tre b g.2.1 g.2.2)(hd:b d=some (.dK<|bn ks))(A:∀g,g∈ks↔g∈gs)(F:ks.length=gs.length)(j:Tags b e f)(l:jz gs f):nA b [.ref t,.ref d] [.ref u,.ref e]:=by
 show{rfl,λi x y a c=>?_}
 match i,a,c with
 |0,a,c =>
  cases a;cases c;show .inl<|lP B C r.symm
 |1,a,c =>
  cases a;cases c;have G:gs.length=f.length:=by have:=congrArg length l;rwa [ES,ES]at this
  show .inr {d,e,_,_,rfl,rfl,.inl hd,j.dct,by unfold bn;rw[ES,ES];lia,λk v o=>?_};unfold bn at o;let(g,w,q):=EZ.mp o;injection q with e1 e2
  have m:=(A g).mp w;let(h,n,D,E):=l.get m;show{.ref h.2.1,?_,?_}
  .rw[<-e1,<-D];show j.get n
  .rw[<-e2];show lP (s g m) (j.at' h n) E.symm
 |i+2,a,c=>simp at a
theorem lQ{a:Hp}{b:zi}{x y:Str}(d:gG a b x)(f:gG a b y):x=y:=by
 have e:a b=some (.tup [.str "tag",.str x]):=d;have c:a b=some (.tup [.str "tag",.str y]):=f;rw[e]at c;cases c;rfl
theorem cC{a:Hp}{b:zi}{x:Str}{dd:TW.Deed Str}(d:gG a b x)(c:a b=some (.tup<|aQ dd)):False:=by
 have e:a b=some (.tup [.str "tag",.str x]):=d;rw[e]at c;cases dd<;>cases c
theorem jb{f:Hp}{g:zi}{c d2:TW.Deed Str}(i:f g=some (.tup<|aQ c))(d:f g=some (.tup<|aQ d2)):c=d2:=by
 rw[i]at d;have e:aQ c=aQ d2:=by injection d with d;injection d
 have st:∀{a b:Option Int},stV a=stV b->a=b:=λ{a b} h=>by
  cases a<;>cases b<;>first|rfl|cases h
  rfl
 cases c<;>cases d2<;>simp only[aQ,List.cons.injEq,V.int.injEq,V.str.injEq,and_true]at e<;>first|(let(_,rfl,rfl,rfl,h):=e;rw[st h]) | (let(_,rfl,rfl,rfl):=e;rfl) | (let(_,rfl,rfl):=e;rfl) | (let(_,rfl):=e;rfl)|show absurd e.1 (by decide +kernel)
theorem Kp.tup{PL p pl:zi}{c H':Hp}{q:Str}{C d:zi}{f:List (Str×V)}{xs:List V}(k:Kp PL p pl c H')(T:cD c PL q)(h:c p=some (.ins C d f))(g:c pl=some (.lst xs)){b:zi}{ys:List V}(a:c b=some (.tup ys)):H' b=some (.tup ys):=by
 let(ps,h1,_):=T;show k b _ a (λe=>?_) (λe=>?_) λe=>?_
 .rw[e,h1]at a;cases a
 .rw[e,h]at a;cases a
 .rw[e,g]at a;cases a
theorem xN{PL p pl:zi}{H H':Hp}(o:bo PL H H'):Kp PL p pl H H':=λb u e n _ _=>o b u n e
theorem Kp.tre{PL p pl:zi}{a H':Hp}{q:Str}{C e:zi}{f:List (Str×V)}{xs:List V}(k:Kp PL p pl a H')(T:cD a PL q)(d:a p=some (.ins C e f))(c:a pl=some (.lst xs)){t:zi}{z:ZN}(b:Tre a t z):Tre H' t z:={k.tup T d c b.tup,λy g=>k.tup T d c<|b.nod y g,b.tr,b.len}
theorem Kp.tags{PL p pl:zi}{a H':Hp}{q:Str}{C h:zi}{i:List (Str×V)}{xs:List V}(k:Kp PL p pl a H')(T:cD a PL q)(f:a p=some (.ins C h i))(c:a pl=some (.lst xs)){d:zi}{gs:TG}(b:Tags a d gs):Tags H' d gs:=by
 show{?_,λg j=>k.tre T f c<|b.at' g j,b.nd,b.len};let(ps,h1,_):=T;rcases b.dct with e|⟨u,e⟩
 .show .inl<|k d _ e (λz=>by rw[z,h1]at e;cases e) (λz=>by rw[z,f]at e;cases e) (λz=>by rw[z,c]at e;cases e)
 .show .inr {u,k d _ e (λz=>by rw[z,h1]at e;cases e) (λz=>by rw[z,f]at e;cases e) (λz=>by rw[z,c]at e;cases e)}
section
variable{P:qw}{w:qn}{K:Frag}{mg:Str->Option xx}{base:qb}{f:zi}{cdv:xx}{A:qd}{outer:List Env}{s:xg}{H0:Hp}{E:XK}{C Dd PL:zi}{B:Nat->zi}
theorem qz{gs:TG}(a:∀g∈gs,g.1∈eE/\g.1≠"Bad"):∀g∈gs,g.1.length<=100/\cQ g.1=true:=λg b=>{(rU (a g b).1).1,(rU (a g b).1).2.2.mpr (a g b).2}
theorem b2(c1:Room 9<|A.deeper (PyProof.Rows.envOfC "law" (ak gC) s.heap.objs.size f cdv))(d2:One12 K B Dd 9)(d1:∀a1,One12 K B Dd<|cw a1)(d0:Has P w K mg base 8 "_law_did" ["_law_ledger","_law_step_here"]<|nG PL C (B 9) Dd (λa1=>B<|cw a1) B K)(c9:Has P w K mg base 3 "_law_all_of" ["_law_ledger"]<|lI C):
  ∃c8,PS (EY P w K mg base f cdv A outer s H0 E) (lbS 2) c8/\∀(a8:Ends)(H:Hp)(a tb p n l sa j t d pl al t' d':zi)(k:Int)(i:Nat)(zb z a2:ZN)(gs N:TG)(es:List Ent)(v:V)(c4:Option V),i<=13->Iv C H p tb t d pl al n t' d' zb z a2 gs N es i->cD H PL gW->gs.length<50->lO H sa->Beh H sa n j t' d' a2 N v ->
   (∀f4 a3 d3 c2 b6 f7 f8 d8 d9 b9 H',Kp PL p pl H H'->cD H' PL gW->Iv C H' p tb f4 a3 pl d3 j c2 b6 zb f7 f8 d8 d9 b9 (i+1)->((b9=es/\∃x,v=.str x)\/(∃e,b9=es++[e]/\H' sa=some (.tup e.xs)/\(v=.non\/∃b,v=.bl b)))->a8.nx (eσ a tb p j l k (some<|.ref sa) (some v) c4) H')->c8 a8 (eσ a tb p j l k (some<|.ref sa) (some v) c4) H:=by
 have e7:Room 8 _:=c1.mono (by decide);have e6:Room 3 _:=c1.mono (by decide);have e9:(EY P w K mg base f cdv A outer s H0 E).A.units+6<cLine:=GU (Nat.add_le_add_left (show 6<=64 by decide) _) c1.units;show{_,aS (PW.pt<|pw_or (au dS (bu d0 e7<|aa (pv 2) (aa (pv 6) af)) (pv 7)<|av _) (pw_or1<|au (BK e9) (bu c9 e6<|aa (pv 2) af) (pv 3) (av _))) (am<|aq fQ) ax,?_};intro a8 H a tb p n l sa j t d pl al t' d' k i zb z a2 gs N es v c4 hi I T e5 e8 a6 q;let(dx,Q):=I.L.ob;have R:=I.L.ps;have g1:=I.zl;have f9:=I.el;have a5:=I.L.tr.tr;show{_,rfl,_,rfl,p,sa,rfl,xM T d2 d1 I.L (by lia) (by lia) e5 e8 (λx f1 O c5 e f2 d4 b5 H1 _ a9 F S=>?_) (λO H1 G S=>?_) (λdd M c6 f3 c3 e b5 H1 _ told a9 F S=>?_) λdd M c6 a1 H1 told G S=>?_}
 .cases a6 with
  |bad h _=>show absurd (lQ O h) c5
  |told dd _ _ h _ _ _ _=>show(cC O h).elim
  |refused dd _ h _ _ _=>show(cC O h).elim
  |tag y b6 a7 c7 D c0 f5 =>
   have a4:=lQ O D;subst a4;have d5:(decide<|x∈N.map (·.1))=decide (x∈gs.map (·.1)):=by rw[I.al.names]
   have o:Iv C H1 p tb t d4 pl b5 j t' b6 zb z a2 (cR gs x (t,z)) (cR N x (t',a2)) (es++[{e,f2,t,d,[.str "tag",.str x],z,gs}]) (i+1) :=
    {a9,F.tup T Q R c0,F.tre T Q R I.tr,I.en,F.tags T Q R f5,I.al.put I.en.symm,I.ok,by lia,by rw[FI];change _+1<=_;lia,λg r=>?_,λg r=>?_,λy a7=>?_}
   .show{_,rfl,rfl,_,rfl,?_};rw[show(!decide (V.bl (decide<|x∈gs.map (·.1))=V.bl (decide<|x∈N.map (·.1))))=false by rw[d5];simp];show aC {_,rfl,p,_,_,_,_,_,_,_,_,_,_,rfl,o.L,qz o.nm,λu b7 ks H2 m Y U X W _=>?_};have c:=o.same m;show{_,rfl,u,j,_,_,rfl,rfl,fK c.L.tr c.tr c.en c.L.tg.at' U X W c.tg c.al,Y,c.nw,_,rfl,aC ?_};have f0:H sa=some (.tup [.str "tag",.str x]):=O;show q _ _ _ _ _ _ _ _ _ _ H2 (λb u h Z j a0=>m _ _<|F b u h Z j a0) (bj S<|bi m) c<|.inr {_,rfl,m _ _<|F.tup T Q R f0,.inr ⟨_,rfl⟩}
   .rcases iZ r with e|h
    .rw[e];show⟨f1,c5⟩
    .show I.nm g h
   .rcases iZ r with e|h
    .rw[e];show{I.ok,le_succ_of_le I.zl}
    .show{(I.gok g h).1,le_succ_of_le (I.gok g h).2}
   .rcases Fd.mp a7 with h|h
    .show I.fx y h
    .have a4:y=_:=Gp.mp h;rw[a4];rfl
 .cases a6 with
  |tag y _ _ c7 D _ _=>show absurd (lQ D O) c7
  |told dd _ _ h _ _ _ _=>show(cC O h).elim
  |refused dd _ h _ _ _=>show(cC O h).elim
  |bad _ b8 =>
   subst b8;have o:Iv C H1 p tb t d pl al j t' d' zb z a2 gs N es (i+1):={bo.lat T G I.L,bo.tup T G I.nw,bo.tre T G I.tr,I.en,bo.tags T G I.tg,I.al,I.ok,by lia,by lia,I.nm,(λg r=>{(I.gok g r).1,le_succ_of_le (I.gok g r).2}),I.fx};show{_,rfl,rfl,_,rfl,?_};rw[show(!decide (V.str "no tag"=V.str "no tag"))=false by simp];show aC {_,rfl,p,_,_,_,_,_,_,_,_,_,_,rfl,o.L,qz o.nm,λu b7 ks H2 m Y U X W _=>?_};have c:=o.same m;show{_,rfl,u,j,_,_,rfl,rfl,fK c.L.tr c.tr c.en c.L.tg.at' U X W c.tg c.al,Y,c.nw,_,rfl,aC ?_};show q _ _ _ _ _ _ _ _ _ _ H2 (λb u h Z j a0=>m _ _<|xN G b u h Z j a0) (bj S<|bi m) c<|.inl ⟨rfl,_,rfl⟩
 .cases a6 with
  |tag y _ _ _ D _ _=>show(cC D M).elim
  |bad D _=>show(cC D M).elim
  |refused a3 _ h _ J _ =>
   rw[jb h M,I.en]at J;have:=TW.Told.one a5 told J;cases this
  |told a3 c2 us' h _ J f6 c0 =>
   rw[jb h M,I.en]at J;have d6:nds c3=nds us':=by have:=TW.Told.one a5 told J;injection this
   have g0:c3.length<=z.length+1:=by have:=told.len;rwa [aG,aG]at this
   have o:Iv C H1 p tb f3 d pl b5 j c2 d' zb c3 us' gs N (es++[⟨e,sa,t,d,aQ dd,z,gs⟩]) (i+1) :=
    {a9,F.tup T Q R c0,F.tre T Q R f6,d6.symm,F.tags T Q R I.tg,I.al,eJ.told I.ok c6 told,by lia,by rw[FI];change _+1<=_;lia,I.nm,(λg r=>{(I.gok g r).1,le_succ_of_le (I.gok g r).2}),λy a7=>?_}
   .show{_,rfl,rfl,_,rfl,?_};rw[show(!decide (V.non=V.non))=false by simp];show aC {_,rfl,p,_,_,_,_,_,_,_,_,_,_,rfl,o.L,qz o.nm,λu b7 ks H2 m Y U X W _=>?_};have c:=o.same m;show{_,rfl,u,j,_,_,rfl,rfl,fK c.L.tr c.tr c.en c.L.tg.at' U X W c.tg c.al,Y,c.nw,_,rfl,aC ?_};show q _ _ _ _ _ _ _ _ _ _ H2 (λb u h Z j a0=>m _ _<|F b u h Z j a0) (bj S<|bi m) c<|.inr {_,rfl,m _ _<|F.tup T Q R M,.inl rfl}
   .rcases Fd.mp a7 with h|h
    .show I.fx y h
    .have a4:y=_:=Gp.mp h;rw[a4];change(aQ dd).all cI=true;cases dd with
     |make n p nm st=>cases st<;>rfl
     |write=>rfl
     |move=>rfl
     |drop=>rfl
 .cases a6 with
  |tag y _ _ _ D _ _=>show(cC D M).elim
  |bad D _=>show(cC D M).elim
  |told a3 _ us' h _ J _ _ =>
   rw[jb h M,I.en]at J;have:=TW.Told.one a5 told J;cases this
  |refused a3 wd2 h _ J b8 =>
   subst b8;rw[jb h M,I.en]at J;have d7:a1=wd2:=by have:=TW.Told.one a5 told J;injection this
   subst d7;have o:Iv C H1 p tb t d pl al j t' d' zb z a2 gs N es (i+1):={bo.lat T G I.L,bo.tup T G I.nw,bo.tre T G I.tr,I.en,bo.tags T G I.tg,I.al,I.ok,by lia,by lia,I.nm,(λg r=>{(I.gok g r).1,le_succ_of_le (I.gok g r).2}),I.fx};show{_,rfl,rfl,_,rfl,?_};rw[show(!decide (V.str (hV a1)=V.str (hV a1)))=false by simp];show aC {_,rfl,p,_,_,_,_,_,_,_,_,_,_,rfl,o.L,qz o.nm,λu b7 ks H2 m Y U X W _=>?_};have c:=o.same m;show{_,rfl,u,j,_,_,rfl,rfl,fK c.L.tr c.tr c.en c.L.tg.at' U X W c.tg c.al,Y,c.nw,_,rfl,aC ?_};show q _ _ _ _ _ _ _ _ _ _ H2 (λb u h Z j a0=>m _ _<|xN G b u h Z j a0) (bj S<|bi m) c<|.inl ⟨rfl,_,rfl⟩
theorem b3(T:Txt mg)(Q:Room 9<|A.deeper (PyProof.Rows.envOfC "law" (ak gC) s.heap.objs.size f cdv)):
  ∃L,PS (EY P w K mg base f cdv A outer s H0 E) (lbS 3) L/\∀(D:Ends)(H:Hp)(a tb p n l sa pl:zi)(k:Int)(r:List zi)(v:V)(I:Option V)(xs:List V),H l=some (.lst<|r.map V.ref)->r.length<=100->H pl=some (.lst xs) ->
   ((∃x,v=.str x)\/v=.non\/∃b,v=.bl b) ->
   (∀C H',Same H H'->C≠pl->((∃x,v=.str x)->H' C=some (.lst<|r.map V.ref))->((v=.non\/∃b,v=.bl b)->H' C=some (.lst<|(r++[sa]).map V.ref))->D.nx (eσ a tb p n C k (some<|.ref sa) (some v) I) H')->L D (eσ a tb p n l k (some<|.ref sa) (some v) I) H:=by
 show{_,aD (i:=4) oK.nd rfl (Or.inl rfl)<|aE du (pv 4) (aE Az (bc<|aa (pv 6) af)<|aK tP rfl T.int rfl (aa (uV<|ar cm rfl T.isin Ff (aa (pv 7)<|aa (dQ (v:=.ty "str") rfl T.str boot_str rfl) af)) af)),?_};intro D H a tb p n l sa pl k r v I xs F O G N q;show{_,rfl,_,rfl,ao (show 1<=1000 by decide),λt M=>?_};have s1:=ae (o:=.lst [.ref sa]) M;have B:upd H t (.lst [.ref sa]) t=some (.lst [.ref sa]):=ac;generalize upd H t (.lst [.ref sa])=H1 at s1 B|-;rcases N with⟨x,rfl⟩|rfl|⟨b,rfl⟩
 .show{_,rfl,_,_,_,_,rfl,.str x,(by kernel_rfl:_=some true),_,rfl,.inr {_,rfl,?_}};show{t,_,[.ref sa],rfl,rfl,B,by decide,by decide,ao (show 0<=1000 by decide),λc u=>?_};have d:=ae (o:=.lst []) u;have g:upd H1 c (.lst []) c=some (.lst []):=ac;change yf _ _ (upd H1 c<|.lst []) _;generalize upd H1 c (.lst [])=J at d g|-;show{l,c,_,_,rfl,rfl,d _ _<|s1 _ _ F,g,ao (by rw[ES];change _+0<=1000;lia),λm j=>?_};have z:=ae (o:=.lst<|r.map V.ref++[]) j;have y:m≠pl:=λe=>by
   have h:=d _ _<|s1 _ _ G;rw[<-e,j]at h;cases h
  show q m _ (s1.trans<|d.trans z) y (λh=>?_) λh=>?_
  .rw[ac,Gs]
  .rcases h with h|⟨b,h⟩<;>cases h
 .show{_,rfl,_,_,_,_,rfl,.non,(by kernel_rfl:_=some false),_,rfl,.inr {_,rfl,?_}};show{t,_,[.ref sa],rfl,rfl,B,by decide,by decide,ao (show 1<=1000 by decide),λc u=>?_};have d:=ae (o:=.lst [.ref sa]) u;have g:upd H1 c (.lst [.ref sa]) c=some (.lst [.ref sa]):=ac;change yf _ _ (upd H1 c<|.lst [.ref sa]) _;generalize upd H1 c (.lst [.ref sa])=J at d g|-;show{l,c,_,_,rfl,rfl,d _ _<|s1 _ _ F,g,ao (by rw[ES];change _+1<=1000;lia),λm j=>?_};have z:=ae (o:=.lst<|r.map V.ref++[.ref sa]) j;have y:m≠pl:=λe=>by
   have h:=d _ _<|s1 _ _ G;rw[<-e,j]at h;cases h
  show q m _ (s1.trans<|d.trans z) y (λh=>?_) λh=>?_
  .let(x,h):=h;cases h
  .rw[ac,Fn];rfl
 .show{_,rfl,_,_,_,_,rfl,.bl b,(by kernel_rfl:_=some false),_,rfl,.inr {_,rfl,?_}};show{t,_,[.ref sa],rfl,rfl,B,by decide,by decide,ao (show 1<=1000 by decide),λc u=>?_};have d:=ae (o:=.lst [.ref sa]) u;have g:upd H1 c (.lst [.ref sa]) c=some (.lst [.ref sa]):=ac;change yf _ _ (upd H1 c<|.lst [.ref sa]) _;generalize upd H1 c (.lst [.ref sa])=J at d g|-;show{l,c,_,_,rfl,rfl,d _ _<|s1 _ _ F,g,ao (by rw[ES];change _+1<=1000;lia),λm j=>?_};have z:=ae (o:=.lst<|r.map V.ref++[.ref sa]) j;have y:m≠pl:=λe=>by
   have h:=d _ _<|s1 _ _ G;rw[<-e,j]at h;cases h
  show q m _ (s1.trans<|d.trans z) y (λh=>?_) λh=>?_
  .let(x,h):=h;cases h
  .rw[ac,Fn];rfl
def iA(C:zi):Sp:=λvs H Q _=>∃p ft t d pl al b z gs es a,vs=[.ref p]/\LAt C H p ft t d pl al b z gs es a/\es.length<=200/\∀l H',Same H H'->H' l=some (.lst<|es.map λe=>V.ref e.sa)->Q (.ref l) H'
theorem Ch:FnScope ["self"] ["self"] (ak eM):=fsc
theorem zI{f C:zi}{c:qa}(F:Fun K "steps" "Ledger.steps" eM f c)(T:LCls K mg C):FnOk P w K mg base CX0 1 f c ["self"] (iA C):=by
 show F.okA Ch λcdv A outer s H vs Q E v h=>?_
 .let(p,ft,t,d,pl,al,B,z,gs,es,o,rfl,b,u,q):=h;let(dx,j):=b.ob;show{_,am<|aq (de lcS (dR<|ci (pv 0) rfl)
    (λs H fp=>ixT K (pv 0) ai)),?_}
  show{_,rfl,p,C,dx,_,_,rfl,j,T.cl,T.n3,xl,pl,rfl,⟨_,SqL.of b.ps⟩,λr l=>?_};show dZ (fr:=[]) es (λe=>V.ref e.a) (by lia) l (gR<|SqL.of b.ps) rfl (λe y _=>y=.ref e.sa) (λ_ _ _ _ h _=>h) (λe H' x n s1 _ i=>?_) λys H1 s1 k m=>?_
  .show{_,rfl,e.a,_,_,_,rfl,rfl,SqT.of<|s1 _ _ (b.ep e n).ob,rfl,i _ H' (Same.refl _) rfl}
  .have g:=cn (f:=λe:Ent=>V.ref e.sa) m λz y _ h=>h;show q r H1 s1 (by rw[k,g])
end
theorem qA:∀{g i:List Str},g.Pairwise (λa b=>HT.dI a b=true)->i.Pairwise (λa b=>HT.dI a b=true)->(∀x,x∈g↔x∈i)->g=i
 |[],[],_,_,_=>rfl
 |[],d::i,_,_,h=>nomatch (h d).mpr FY
 |c::g,[],_,_,h=>nomatch (h c).mp FY
 |c::g,d::i,h1,h2,h=>by
  let(k,l):=Ga.mp h1;let(b1,b2):=Ga.mp h2;have j:∀{p:Str},HT.dI p p=true->False:=λ{p} h=>by rw[HT.mQ]at h;cases h
  have e:c=d:=by
   rcases FU.mp ((h c).mp FY)with e|h3
   .show e
   .rcases FU.mp ((h d).mpr FY)with e|m
    .show e.symm
    .show(j<|HT.pN (b1 c h3) (k d m)).elim
  subst e;rw[qA l b2 λx=>{λf=>?_,λf=>?_}]
  .rcases FU.mp ((h x).mp (FR _ f))with e|h3
   .rw[e]at f;show(j<|k c f).elim
   .show h3
  .rcases FU.mp ((h x).mpr (FR _ f))with e|h3
   .rw[e]at f;show(j<|b1 c f).elim
   .show h3
theorem qB{f:Hp}{l pl:zi}{g:List zi}{d:List Ent}(h:Sts f l pl g d)(m:∀e∈d,EntAt f e)(k:∀e∈d,e.xs.all cI=true):eW f (d.map λe=>V.ref e.sa) (g.map V.ref):=by
 show{by rw[ES,ES,h.len],λi x y b c=>?_};rw[FE]at b c;cases h1:d[i]? with
 |none=>rw[h1]at b;cases b
 |some e =>
  cases h2:g[i]? with
  |none=>rw[h2]at c;cases c
  |some a =>
   rw[h1]at b;rw[h2]at c;cases b;cases c;have j:=FP h1;show .inr {e.sa,a,_,_,rfl,rfl,(m e j).st,h.at' i a e h2 h1,rfl,λn x y b c=>?_};rw[b]at c;cases c;show im {rfl,Gj.mp (k e j) _<|FP b}
section
variable{P:qw}{w:qn}{K:Frag}{mg:Str->Option xx}{base:qb}{f:zi}{cdv:xx}{A:qd}{outer:List Env}{s:xg}{H0:Hp}{E:XK}
theorem b4{C G J:zi}{M N:qa}(a2:Txt mg)(m:Room 9<|A.deeper (PyProof.Rows.envOfC "law" (ak gC) s.heap.objs.size f cdv))(T:LCls K mg C)(a0:Meth K C "steps" G)(Z:FnOk P w K mg base CX0 1 G M ["self"]<|iA C)(a3:aH K M ["self"] [])(a1:Meth K C "tags" J)(GT:FnOk P w K mg base CX0 1 J N ["self"]<|eD C)(a4:aH K N ["self"] []):
  ∃W,PS (EY P w K mg base f cdv A outer s H0 E) (lbS 4) W/\∀(g:Ends)(H:Hp)(a tb p n l t d pl al t' d':zi)(k:Int)(i:Nat)(zb z Y:ZN)(gs j:TG)(es:List Ent)(U:List zi)(u v B:Option V),i<=14->Iv C H p tb t d pl al n t' d' zb z Y gs j es i->Sts H l pl U es ->
   (∀H',Same H H'->g.nx (eσ a tb p n l k u v B) H')->W g (eσ a tb p n l k u v B) H:=by
 have R:Room 1 _:=m.mono (by decide);show{_,aS (PW.pt<|pw_or (au (qX<|ju m) (eR (pv 2) T.cl a0 Z R a3 .nil cK) (pv 4)<|av _) (pw_or1<|au (qX<|ju m) (eR (pv 2) T.cl a1 GT R a4 .nil cK) (ar (gF rfl) rfl a2.sorted boot_sorted<|aa (ixT K (pv 3) ai) af) (av _))) (am<|aq fQ) ax,?_};intro g H a tb p n l t d pl al t' d' k i zb z Y gs j es U u v B hi I S q;let(dx,Q):=I.L.ob;have c0:=I.el;show{_,rfl,p,dx,_,rfl,Q,dP (by decide +kernel) (by decide +kernel) (by decide +kernel) (by decide +kernel) (by decide +kernel),p,tb,t,d,pl,al,zb,z,gs,es,[],rfl,I.L,by lia,λb8 H1 s1 a5=>?_};have h:=I.same s1;have F:=S.same s1;show{_,rfl,.inr {b8,l,_,_,rfl,rfl,qB F h.L.ep I.fx,.inl ⟨a5,F.lst⟩,_,rfl,aC ?_}};show{_,rfl,p,dx,_,rfl,s1 _ _ Q,dP (by decide +kernel) (by decide +kernel) (by decide +kernel) (by decide +kernel) (by decide +kernel),p,tb,t,d,pl,al,zb,z,gs,es,[],rfl,h.L,λb a8 b5 c a6=>?_};have r:=ae (o:=.lst<|b.map V.str) a6;have O:upd H1 c (.lst<|b.map V.str) c=some (.lst<|b.map V.str):=ac;generalize upd H1 c (.lst<|b.map V.str)=H2 at r O|-;have D:=h.same r;have c1:=I.tg.len;show{_,rfl,n,_,_,_,rfl,rfl,SqT.of D.nw,rfl,d',_,j.map (·.1),rfl,D.tg.dct,by unfold bn;rw[FD,FD];rfl,I.tg.nd,by rw[ES];lia,λns a9 b6 b9 a7=>?_};have e:b=ns:=qA b5 b6 λx=>by rw[a8.mem_iff,a9.mem_iff,I.al.names]
 subst e;have X:=ae (o:=.lst<|b.map V.str) a7;show .inr {c,b9,_,_,rfl,rfl,lA ?_,.inl ⟨X _ _ O,ac⟩,_,rfl,aC<|q _ (s1.trans<|r.trans X)};rw[Gj];intro x b7;let(y,_,rfl):=EZ.mp b7;rfl
end
theorem Kp.scr{PL p pl a:zi}{c H':Hp}{q:Str}{K:Frag}(k:Kp PL p pl c H')(T:cD c PL q)(f:∀o,c a=some o->a≠p/\a≠pl)(b:ck K c a):ck K H' a:=by
 have go:∀{u:HO},c a=some u->(∀ps,u≠.tbl ps)->H' a=some u:=λ{u} e n=>k a u e (λz=>by
  let(ps,h1,_):=T;rw[z,h1]at e;show n ps (Option.some.inj e).symm) (f _ e).1 (f _ e).2
 obtain⟨d,(b|⟨u,b⟩)|b⟩:=b
 .show{d,.inl<|.inl (go b λps b=>(by cases b))}
 .show{d,.inl<|.inr {u,go b λps b=>(by cases b)}}
 .show{d,.inr b}
theorem xO{gs:TG}(c:(gs.map (·.1)).Nodup)(a:∀g∈gs,g.1∈eE/\g.1≠"Bad"):gs.length<50:=by
 have:(gs.map (·.1)).length<=eE.length:=fb c λx d=>by
  let(g,b,rfl):=EZ.mp d;show(a g b).1
 rw[ES]at this;have e:eE.length=4:=rfl
 lia
theorem Sts.snoc{i H':Hp}{l g pl h:zi}{d:List zi}{j:List Ent}{e:Ent}(b:Sts i l pl d j)(n:∀a xs,i a=some (.tup xs)->H' a=some (.tup xs))(k:H' g=some (.lst<|(d++[h]).map V.ref))(o:g≠pl)(m:H' h=some (.tup e.xs)):Sts H' g pl (d++[h]) (j++[e]):=by
 show{k,o,by rw[FI,FI,b.len];rfl,λf a y h1 h2=>?_};rcases lt_or_ge f d.length with c|c
 .rw[Fy c]at h1;rw[Fy (by rw[<-b.len];show c)]at h2;show n _ _<|b.at' f a y h1 h2
 .rw[GA c]at h1;rw[GA (by rw[<-b.len];show c),<-b.len]at h2;have e0:f-d.length=0:=by
   have:=(FV.mp h1).1;simp at this
   lia
  rw[e0]at h1 h2;cases h1;cases h2;show m
section
variable{P:qw}{w:qn}{K:Frag}{mg:Str->Option xx}{base:qb}{f:zi}{cdv:xx}{A:qd}{outer:List Env}{s:xg}{H0:Hp}{E:XK}{C Dd PL:zi}{B:Nat->zi}
theorem Et{c1 c2:zi}{c3 c4:qa}(c0:Txt mg)(y:Room 9<|A.deeper (PyProof.Rows.envOfC "law" (ak gC) s.heap.objs.size f cdv))(T:LCls K mg C)(e7:One12 K B Dd 9)(e6:∀a9,One12 K B Dd<|cw a9)(d6:Has P w K mg base 4 "_law_step" ["_law_script","_law_at","_law_tree_here"]<|iz K)(d4:Has P w K mg base 3 "_law_behind" ["_law_now","_law_step_here"] lM)(d5:Has P w K mg base 8 "_law_did" ["_law_ledger","_law_step_here"]<|nG PL C (B 9) Dd (λa9=>B<|cw a9) B K)(d3:Has P w K mg base 3 "_law_all_of" ["_law_ledger"]<|lI C)(d9:Meth K C "steps" c1)(d7:FnOk P w K mg base CX0 1 c1 c3 ["self"]<|iA C)(f1:aH K c3 ["self"] [])(e5:Meth K C "tags" c2)(GT:FnOk P w K mg base CX0 1 c2 c4 ["self"]<|eD C)(f2:aH K c4 ["self"] []):
  ∃d1,PSs (EY P w K mg base f cdv A outer s H0 E) [lbS 0,lbS 1,lbS 2,lbS 3,lbS 4] d1/\∀(a5:Ends)(H:Hp)(a tb p n l t d pl al t' d':zi)(i:Nat)(zb z m:ZN)(gs r:TG)(es:List Ent)(D:List zi)(a1 a2 b5:Option V),i<14->ck K H a->(a≠p/\a≠pl\/∀H',ck K H' a)->cD H PL gW->Iv C H p tb t d pl al n t' d' zb z m gs r es i->Sts H l pl D es ->
   (∀g j Z O N a0 Q a3 a4 R U es2 k a1 a2 H',ck K H' a->cD H' PL gW->Kp PL p pl H H'->Iv C H' p tb Z O pl N g a0 Q zb a3 a4 R U es2 (i+1)->Sts H' j pl k es2->a5.nx (eσ a tb p g j i a1 a2 b5) H')->d1 a5 (eσ a tb p n l i a1 a2 b5) H:=by
 let(i1,h4,f5):=b0 (outer:=outer) (H0:=H0) (E:=E) y d6;let(i2,h5,h1):=b1 (outer:=outer) (H0:=H0) (E:=E) y d4;let(i3,p2,h2):=b2 (outer:=outer) (H0:=H0) (E:=E) y e7 e6 d5 d3;let(i4,h6,h3):=b3 (P:=P) (w:=w) (K:=K) (base:=base) (outer:=outer) (H0:=H0) (E:=E) c0 y;let(i5,h7,f6):=b4 (outer:=outer) (H0:=H0) (E:=E) c0 y T d9 d7 f1 e5 GT f2;show{_,ag h4<|ag h5 (ag p2<|ag h6 (am h7)),?_};intro a5 H a tb p n l t d pl al t' d' i zb z m gs r es D a1 a2 b5 hi c5 h0 f0 I S q;have i0:=I.zl;have h8:=I.el;have h9:m.length=z.length:=by have:=congrArg length I.en;rwa [aG,aG]at this
 show f5 _ H a tb p n l t' d' i m _ _ _ hi c5 I.nw I.tr (by rw[I.en];show I.ok) λsa H1 s1 c8=>?_;have J:=I.same s1;have g1:=xO I.L.tg.nd I.nm;have g2:r.length<50:=by have:=congrArg length I.al;rw[ES,ES]at this;lia
 show h1 _ H1 a tb p n l sa t' d' i m r _ _ c8 J.nw J.tr J.tg g2 (by lia) λc v H2 X f7=>?_;have W:=s1.trans X;have a6:=J.same X;have g6:lO H2 sa:=by
  rcases c8 with⟨x,g7,a7⟩|⟨dd,f9,g0⟩
  .show .inl ⟨x,g7,X _ _ a7⟩
  .show .inr ⟨dd,X _ _ f9,g0⟩
 have M:cD H2 PL gW:=bj f0<|bi W;show h2 _ H2 a tb p n l sa c t d pl al t' d' i i zb z m gs r es v _ (by lia) a6 M g1 g6 f7 λZ O N a0 Q a3 a4 R U es2 b6 c9 e8 b7 c6=>?_;let(dx,c7):=a6.L.ob;have g4:=a6.L.ps;have o:=S.same W;have g3:b6 l=some (.lst<|D.map V.ref):=by
  let(ps,e1,_):=id M;show c9 l _ o.lst (λe=>?_) (λe=>?_) S.ne
  .have:=o.lst;rw[e,e1]at this;cases this
  .have:=o.lst;rw[e,c7]at this;cases this
 have a7:(∃x,v=.str x)\/v=.non\/∃b,v=.bl b:=by
  rcases c6 with⟨_,h⟩|⟨_,_,_,h⟩
  .show .inl h
  .show .inr h
 show h3 _ b6 a tb p c l sa pl i D v _ _ g3 (by rw[S.len];lia) b7.L.ps a7 λj H4 Y d0 f3 f4=>?_;have b8:=b7.same Y;have e9:=bj e8<|bi Y;have a8:Kp PL p pl H2 H4:=λb u h F c g=>Y _ _<|c9 b u h F c g;have f8:ck K H4 a:=by
  rcases h0 with n|h
  .show a8.scr M (λ_ _=>n)<|c5.same W
  .show h _
 have d2:∀b xs,H2 b=some (.tup xs)->H4 b=some (.tup xs):=λb xs h=>a8.tup M c7 g4 h;have g9:Kp PL p pl H H4:=λb u h F c g=>a8 b u (W _ _ h) F c g;obtain⟨k,b9⟩:∃k,Sts H4 j pl k es2:=by
  rcases c6 with⟨rfl,h⟩|⟨e,rfl,g5,h⟩
  .show{D,f3 h,d0,S.len,λg8 b e h1 h2=>d2 _ _<|o.at' g8 b e h1 h2}
  .show{_,o.snoc d2 (f4 h) d0<|Y _ _ g5}
 show f6 _ H4 a tb p c j Z O pl N a0 Q i (i+1) zb a3 a4 R U es2 k _ _ _ (by lia) b8 b9 λd8 G=>?_;show q c j Z O N a0 Q a3 a4 R U es2 k _ _ d8 (f8.same G) (bj e9<|bi G) (λb u h F c g=>G _ _<|g9 b u h F c g) (b8.same G)<|b9.same G
theorem e2{Q R:zi}{U W:qa}(O:Txt mg)(c8:Room 9<|A.deeper (PyProof.Rows.envOfC "law" (ak gC) s.heap.objs.size f cdv))(T:LCls K mg C)(a8:One12 K B Dd 9)(a7:∀M,One12 K B Dd<|cw M)(a2:Has P w K mg base 4 "_law_step" ["_law_script","_law_at","_law_tree_here"]<|iz K)(a0:Has P w K mg base 3 "_law_behind" ["_law_now","_law_step_here"] lM)(a1:Has P w K mg base 8 "_law_did" ["_law_ledger","_law_step_here"]<|nG PL C (B 9) Dd (λM=>B<|cw M) B K)(Z:Has P w K mg base 3 "_law_all_of" ["_law_ledger"]<|lI C)(a5:Meth K C "steps" Q)(a3:FnOk P w K mg base CX0 1 Q U ["self"]<|iA C)(b8:aH K U ["self"] [])(a6:Meth K C "tags" R)(GT:FnOk P w K mg base CX0 1 R W ["self"]<|eD C)(b9:aH K W ["self"] []):
  ∃Y,PS (EY P w K mg base f cdv A outer s H0 E) (eS 2) Y/\∀(G:Ends)(H:Hp)(a tb p n l d pl al d':zi)(zb:ZN)(y z D F:Option V),ck K H a->(a≠p/\a≠pl\/∀H',ck K H' a)->cD H PL gW->Iv C H p tb tb d pl al n tb d' zb zb zb [] [] [] 0->Sts H l pl [] [] ->
   (∀e c t j g u k v x m o b r y z D H',Iv C H' p tb t j pl g e u k zb v x m o b 14->Sts H' c pl r b->G.nx [some<|.ref a,some<|.ref tb,some<|.ref p,some<|.ref e,some<|.ref c,y,z,D,F] H')->Y G [some<|.ref a,some<|.ref tb,some<|.ref p,some<|.ref n,some<|.ref l,y,z,D,F] H:=by
 let(e7,d3,c7):=Et (outer:=outer) (H0:=H0) (E:=E) (PL:=PL) O c8 T a8 a7 a2 a0 a1 Z a5 a3 b8 a6 GT b9;show{_,ib PassesOwn.never rfl (mf rfl O.range<|aa ai af) (bx (i:=5) oK.nd rfl<|Or.inl rfl) d3,?_};intro G H a tb p n l d pl al d' zb y z D F c5 d2 b5 I S q;show{14,rfl,by decide,by decide,mh (n:=14) (λi σ H'=>∃e c t j g u k v x m o b r y z D,σ=[some<|.ref a,some<|.ref tb,some<|.ref p,some<|.ref e,some<|.ref c,y,z,D,F]/\ck K H' a/\cD H' PL gW/\Iv C H' p tb t j pl g e u k zb v x m o b i/\Sts H' c pl r b) {n,l,tb,d,al,tb,d',zb,zb,[],[],[],[],_,_,_,rfl,c5,b5,I,S} (λi σ H2 hi h=>?_) λσ H2 h=>?_}
 .let(e,c,t,j,g,u,k,v,x,m,o,b,r,d6,d7,d8,rfl,X,N,J,L):=h;rw[show(0:Int)+(i:Int)=i by lia];show c7 _ H2 a tb p e c t j pl g u k i zb v x m o b r _ _ _ hi X d2 N J L λd1 c9 d4 c0 b7 d5 c1 d9 e5 c3 c4 c2 d0 e8 e9 e6 c6 b6 _ a4 a9=>?_;show{d1,c9,d4,c0,b7,d5,c1,d9,e5,c3,c4,c2,d0,_,_,_,rfl,c6,b6,a4,a9}
 .let(e,c,t,j,g,u,k,v,x,m,o,b,r,d6,d7,d8,rfl,X,N,J,L):=h;show q e c t j g u k v x m o b r _ _ _ H2 J L
end
section
variable{P:qw}{w:qn}{K:Frag}{mg:Str->Option xx}{base:qb}{f:zi}{cdv:xx}{A:qd}{outer:List Env}{s:xg}{H0:Hp}{E:XK}{C:zi}
theorem e4{e g:zi}{h j:qa}(R:Txt mg)(c:Room 9<|A.deeper (PyProof.Rows.envOfC "law" (ak gC) s.heap.objs.size f cdv))(T:LCls K mg C)(O:Meth K C "base" e)(M:FnOk P w K mg base CX0 1 e h ["self"]<|lN C)(bB:aH K h ["self"] [])(Q:Meth K C "sizes" g)(N:FnOk P w K mg base CX0 1 g j ["self"]<|lG C)(U:aH K j ["self"] []):
  ∃y,PS (EY P w K mg base f cdv A outer s H0 E) (eS 4) y/\∀(b:Ends)(H:Hp)(a tb p n l t d pl al t' d':zi)(i:Nat)(zb z J:ZN)(gs m:TG)(es:List Ent)(x:List zi)(B D F G:Option V),Iv C H p tb t d pl al n t' d' zb z J gs m es i->Sts H l pl x es ->
   (∀H',b.rt (.bl true) H')->y b [some<|.ref a,some<|.ref tb,some<|.ref p,some<|.ref n,some<|.ref l,B,D,F,G] H:=by
 have v:Room 1 _:=c.mono (by decide);show{_,aq<|kd (dU (wt<|ju c) (eR (pv 2) T.cl O M v bB .nil cK) (pv 1)<|av _) (kc<|dU (wt<|ju c) (eR (pv 2) T.cl Q N v U .nil cK) (aO<|aa (ar aM rfl R.len Gi<|aa (pv 4) af) (aa ai af)) (av _)),?_};intro b H a tb p n l t d pl al t' d' i zb z J gs m es x B D F G I S q;let(dx,r):=I.L.ob;show{_,rfl,p,dx,_,rfl,r,dP (by decide +kernel) (by decide +kernel) (by decide +kernel) (by decide +kernel) (by decide +kernel),p,tb,t,d,pl,al,zb,z,gs,es,[],rfl,I.L,?_};show{_,rfl,.inr {tb,tb,_,_,rfl,rfl,jJ rfl I.L.tf.nod I.L.tf.nod,.inr ⟨I.L.tf.tup,I.L.tf.tup⟩,true,rfl,?_}};show{_,rfl,p,dx,_,rfl,r,dP (by decide +kernel) (by decide +kernel) (by decide +kernel) (by decide +kernel) (by decide +kernel),p,tb,t,d,pl,al,zb,z,gs,es,[],rfl,I.L,λu W=>?_};have s1:=ae (o:=.tup [.int es.length,.int ([]:List Ent).length]) W;have k:upd H u (.tup [.int es.length,.int ([]:List Ent).length]) u=some (.tup [.int es.length,.int 0]):=ac;generalize upd H u (.tup [.int es.length,.int ([]:List Ent).length])=H1 at s1 k|-;show{_,rfl,l,_,rfl,.inl<|SqL.of (s1 _ _ S.lst),le2,λZ X=>?_};rw[ES,S.len];have Y:=ae (o:=.tup [.int es.length,.int 0]) X;show .inr ⟨u,Z,_,_,rfl,rfl,lA rfl,.inr ⟨Y _ _ k,ac⟩,q _⟩
def jZ:Sp:=λvs H Q _=>∃i,vs=[.int i]/\Q (.bl true) H
theorem zJ:FnScope ["thing"] ["thing"] (ak rf):=fsc
theorem xP{f:zi}{a:qa}(F:Fun K "is_whole" "is_whole" rf f a)(T:Txt mg):FnOk P w K mg base CX0 1 f a ["thing"] jZ:=by
 show F.okA zJ λcdv A outer s H vs Q E b h=>?_
 .let(i,rfl,k):=h;show{_,am<|aq (kd (ar cm rfl T.isin Ff<|aa (pv 0) (aa (dQ (v:=.ty "int") rfl T.int boot_int rfl) af))
   (kc<|uV (ar cm rfl T.isin Ff<|aa (pv 0) (aa (dQ (v:=.ty "bool") rfl T.bool boot_bool rfl) af)))),?_}
  show{_,rfl,_,_,_,_,rfl,.int i,(by kernel_rfl:_=some true),_,rfl,aV {_,rfl,_,_,_,_,rfl,.int i,(by kernel_rfl:_=some false),_,rfl,k}}
def rV:Sp:=λvs H Q _=>∃x,vs=[.str x]/\cQ x=true/\∀H',Same H H'->Q (.bl true) H'
def oM:Sp:=λvs H Q _=>∃o,vs=[stV o]/\yP o/\Q (.bl true) H
theorem zK:FnScope ["thing"] ["thing"] (ak rg):=fsc
theorem xQ{f:zi}{a:qa}(F:Fun K "is_stamp" "is_stamp" rg f a)(T:Txt mg)(b:Has P w K mg base 1 "is_whole" ["thing"] jZ):FnOk P w K mg base CX0 2 f a ["thing"] oM:=by
 let(tg,e):=T.greatest;show F.okA zK λcdv A outer s H vs Q E j h=>?_
 .let(o,rfl,g,k):=h;show{_,am<|aq (Cs (dU jd (pv 0) cT<|av _)<|kc (kd (bu b j<|aa (pv 0) af)<|kc (vf sh sh ai (pv 0)<|bw (v:=.int 999) rfl e ⟨_,rfl⟩))),?_};show{_,rfl,rfl,_,rfl,?_};cases o with
  |none=>show aV k
  |some i =>
   let(c,d):=g i rfl;show aC {_,rfl,_,rfl,_,rfl,aV ?_};show{_,rfl,_,_,rfl,rfl,_,rfl,?_};have h1:decide (0<=i)=true:=Fe c;rw[h1];show aV {_,_,rfl,rfl,?_};have h2:decide (i<=999)=true:=Fe d;change Q (V.bl<|decide (i<=999)) H;rw[h2];show k
def rW:Sp:=λvs H Q _=>∃a n,vs=[.ref a]/\H a=some (.tup<|vals n)/\eJ n/\∀H',Same H H'->Q (.bl true) H'
theorem Ci:FnScope ["thing"] ["thing"] (ak wD):=fsc
theorem zL{f:zi}{g:qa}(F:Fun K "is_node" "is_node" wD f g)(T:Txt mg)(d:Has P w K mg base 1 "is_whole" ["thing"] jZ)(CN:Has P w K mg base 1 "is_name" ["thing"] rV)(j:Has P w K mg base 2 "is_stamp" ["thing"] oM):FnOk P w K mg base CX0 3 f g ["thing"] rW:=by
 show F.okA Ci λcdv A outer s H vs Q E i h=>?_
 .let(a,n,rfl,e,o,k):=h;let(p,q,l,m):=o;have c:Room 1 _:=i.mono (by decide);show{_,ag (aS (PW.pt (pw_or (cU<|cE (ar cm rfl T.isin Ff<|aa (pv 0) (aa (dQ (v:=.ty "tuple") rfl T.tuple boot_tuple rfl) af)) (λ_=>rfl))
    (pw_or1<|au dS (ar aM rfl T.len Gi<|aa (pv 0) af) ai (av _)))) (am<|aq fQ) ax)
   (ag (aS (PW.pt<|pw_or (cU<|cE (bu d c<|aa (ixT K (pv 0) ai) af) (λ_=>rfl)) (pw_or1<|au oU (ixT K (pv 0) ai) ai (av _))) (am<|aq fQ) ax)
   (am<|aq (kd (bu d c<|aa (ixT K (pv 0) ai) af) (kd (bu CN c<|aa (ixT K (pv 0) ai) af)
    (kc<|bu j i (aa (ixT K (pv 0) ai) af)))))),?_}
  show{_,rfl,_,_,_,_,rfl,.tup e,(by kernel_rfl:_=some true),_,rfl,aC ?_};show{_,rfl,a,_,rfl,.inr<|SqT.of e,rfl,_,rfl,?_};show Dc rfl ?_;show{_,rfl,a,_,_,_,rfl,rfl,SqT.of e,at0 n,_,rfl,_,rfl,aC ?_};show{_,rfl,a,_,_,_,rfl,rfl,SqT.of e,at0 n,_,_,rfl,rfl,_,rfl,?_};have h1:decide (n.num<1)=false:=FZ (by lia);rw[h1];show aC ?_;show{_,rfl,a,_,_,_,rfl,rfl,SqT.of e,at1 n,_,rfl,_,rfl,aV ?_};show{_,rfl,a,_,_,_,rfl,rfl,SqT.of e,at2 n,_,rfl,l.b,λH1 s1=>{_,rfl,aV ?_}};show{_,rfl,a,_,_,_,rfl,rfl,SqT.of<|s1 _ _ e,at3 n,n.st,rfl,m,k H1 s1}
def ltP(p:Nd×Nd):Bool:=decide<|p.1.num<p.2.num
def rX:Sp:=λvs H Q _=>∃t zs,vs=[.ref t]/\H t=some (.tup<|aZ zs)/\At H zs/\zs.length<=100/\∀H',Same H H'->Q (.bl<|TW.adj (nds zs)) H'
theorem Cj:FnScope ["nodes"] ["nodes"] (ak wE):=fsc
theorem zM{f:zi}{S:qa}(F:Fun K "are_rising" "are_rising" wE f S)(T:Txt mg):FnOk P w K mg base CX0 1 f S ["nodes"] rX:=by
 show F.okA Cj λcdv A outer s H vs Q E e5 h=>?_
 .let(t,zs,rfl,d,X,d7,k):=h;show{_,am<|aq (ar (kQ rfl) rfl T.all boot_all<|aa (zU (N:=["one","other"]) (k:=2) (js:=[]) (g:=An K 2<|oQ (dk 0) (oQ (dk 1) Am)) rfl (wg rfl (by decide +kernel) (by decide +kernel) (by decide +kernel)) rfl (λi r x h=>by simp at h)
   (AQ rfl T.zip<|aa (pv 0) (aa (dq (SlR.or gg qT) (pv 0) (cH ai) iE) af))
   (λs H fp=>nH (n:=2) rfl<|cF (bx (i:=0) (show(["one","other"]:List Str).Nodup by decide +kernel) rfl (Or.inl rfl)<|Or.inr rfl) (cF (bx (i:=1) (show(["one","other"]:List Str).Nodup by decide +kernel) rfl (Or.inl rfl)<|Or.inr rfl) jP))
   (λs H fp=>dU oU (ixT K (pv 0) ai) (ixT K (pv 1) ai)<|av _)) af),?_}
  have a0:∀(B:zi)(H1:Hp),Same H H1->H1 B=some (.tup<|aZ (zs.drop 1))->∀p,H1 p=none->∀C:VK,(∀(q:zi)(bs:List Bool)(H':Hp),Same H H'->H' q=some (.lst<|bs.map V.bl)->bs.all id=TW.adj (nds zs)->C (.ref q) H') ->
    LcW 2 [] (An K 2<|oQ (dk 0) (oQ (dk 1) Am)) (tOp (rI0 λi r=>.bl<|decide (i<r)) (tOp (vx K) (hZ 0)<|tC (.int 0))<|tOp (vx K) (hZ 1) (tC<|.int 0)) (start ["nodes"] [.ref t]) C (Itz K t B) H1 p:=by
   intro B H1 s1 L p c C c8;have d9:H p=none:=s1.free c;have G:H1 t=some (.tup<|aZ zs):=s1 _ _ d;have e6:((nds zs).zip ((nds zs).drop 1)).length=zs.length-1:=by rw[List.length_zip,length_drop,aG];lia
   show pF (k:=2) (js:=[]) (J:=Itz K t B) (p:=p) (zs.length-1) (by lia) (λi ys o H'=>ys=((((nds zs).zip ((nds zs).drop 1)).take i).map ltP).map V.bl/\o.length=2/\Same H1 H'/\H' p=some (.lst ys))
    ⟨rfl,rfl,ae c,ac⟩ (λi ys o H' h=>?_) (λi ys o H' hi h=>?_) (λys o H' h=>?_) (λi ys o H' hi h v H2 c4=>?_) ?_ ?_
   .rw[h.1,ES,ES,Fx];lia
   .let(_,_,b,_):=h;show{_,_,_,_,SqT.of<|b _ _ G,SqT.of<|b _ _ L,dL<|ET (by lia),dL (z:=zs[i+1]) ?_};rw[List.getElem?_drop,show 1+i=i+1 by lia,ET (by lia)]
   .let(e1,_,b,e2):=h;show{{_,_,SqT.of<|b _ _ G,SqT.of<|b _ _ L,.inr (by rw[ba,length_drop];show FH _)},?_};rw[e1]at e2;show c8 p _ H' (s1.trans b) e2 ?_;rw[take_of_length_le (by lia),all_map,TW.sK];rfl
   .let(e1,e0,b,e2):=h;let(e7,e8,rfl):=wv e0;let(q,x,y,I,rfl,c3,c5,rfl):=c4;have b8:=c3 _<|SqT.of (b _ _ G);have b9:=c5 _<|SqT.of (b _ _ L);let(j,W,rfl):=ce b8;let(l,D,rfl):=ce b9;rw[List.getElem?_drop,show 1+i=i+1 by lia]at D;have c9:=FP W;have d0:=FP D;have a1:Same H (upd H' q<|.tup [.ref j.1,.ref l.1]):=(s1.trans b).trans (ae I);show{q,_,rfl,SqT.of ac,rfl,_,_,rfl,_,_,rfl,rfl,?_};show{_,rfl,j.1,_,_,_,rfl,rfl,SqT.of<|a1 _ _ (X j c9),at0 j.2,_,rfl,l.1,_,_,_,rfl,rfl,SqT.of<|a1 _ _ (X l d0),at0 l.2,_,_,rfl,rfl,aN I e2,?_,rfl,aJ c<|b.trans (ae I),ac};have b7:((nds zs).zip ((nds zs).drop 1))[i]?=some (j.2,l.2):=by
     rw[List.getElem?_zip_eq_some];show{by unfold nds;rw[FE,W];rfl,by unfold nds;rw[List.getElem?_drop,FE,show 1+i=i+1 by lia,D];rfl}
    rw[e1,take_succ,b7];simp[ltP]
   .rintro _ _ _ _ _ m ⟨a,xs,h1,h2,h3,M,d1,c0,O,d2,c1,c2,q⟩;show{a,xs,h1,h2,h3,M,d1,c0,O,d2,c1,c2,m _ _ q}
   .rintro _ _ _ _ m ⟨M,a2,u,d5,c6,d3,b1,b2,b3,b4,O,a3,p2,d6,c7,d4,a4,a5,a6,a7,i,r,a8,a9,q⟩;show{M,a2,u,d5,c6,d3,b1,b2,b3,b4,O,a3,p2,d6,c7,d4,a4,a5,a6,a7,i,r,a8,a9,m _ _ q}
  have U:∀(q:zi)(bs:List Bool)(H':Hp),Same H H'->H' q=some (.lst<|bs.map V.bl)->bs.all id=TW.adj (nds zs)->∃a,∃R:List Bool,[V.ref q]=[V.ref a]/\SqL K H' a (R.map V.bl)/\Q (.bl<|R.all id) H':=λq bs H' s' e b5 =>
   {q,bs,rfl,SqL.of e,by rw[b5];show k _ s'}
  show{_,rfl,_,rfl,_,rfl,?_}
  by_cases Z:zs=[]
  .subst Z;show .inr {t,_,rfl,SqT.of d,rfl,rfl,t,t,_,_,rfl,d,d,λp c=>?_};show a0 t H (Same.refl H) d p c _ U
  .have d8:1<=zs.length:=by
    cases zs with
    |nil=>show absurd rfl Z
    |cons _ _=>simp
   show .inl {t,_,rfl,SqT.of d,?_,λu Y=>?_}
   .rw[ba];intro h;have:HT.sIx zs.length 0 (some ((1:Nat):Int))=min 1 zs.length:=HT.sj _ _ _;have h1:HT.sIx zs.length 0 (some ((1:Nat):Int))=0:=h.1
    lia
   .have b6:gf (aZ zs) (some 1) none=aZ (zs.drop 1):=by
     unfold gf;rw[HT.vp,ba,show HT.sIx zs.length 0 (some (1:Int))=min 1 zs.length from HT.sj _ _ 1,show min 1 zs.length=1 by lia];unfold aZ;rw[<-map_drop,<-map_drop,take_of_length_le (by simp)]
    rw[b6];show{t,u,_,_,rfl,aN Y d,ac,λp c=>?_};show a0 u _ (ae Y) ac p c _ U
def xR:Sp:=λvs H Q _=>∃t zs,vs=[.ref t]/\H t=some (.tup<|aZ zs)/\At H zs/\zs.length<=60/\∀b H',(b=true↔TW.dy (nds zs))->Same H H'->Q (.bl b) H'
theorem DH:FnScope ["nodes"] ["nodes"] (ak AZ):=fsc
theorem Ck{f:zi}{y:qa}(F:Fun K "have_own_places" "have_own_places" AZ f y)(T:Txt mg):FnOk P w K mg base CX0 1 f y ["nodes"] xR:=by
 show F.okA DH λcdv A outer s H vs Q E Y h=>?_
 .let(t,zs,rfl,j,C,a9,k):=h;show{_,am<|aq (dU cu (ar pD rfl T.len Gi<|aa (aK (lV rfl<|ju Y) rfl T.set rfl<|aa (de lcS (cV<|pv 0)
   (λs H fp=>aO<|aa (ixT K (pv 0) ai) (aa (ixT K (pv 0) ai) af))) af) af)
   (ar aM rfl T.len Gi<|aa (pv 0) af) (av _)),?_}
  show{_,rfl,t,rfl,⟨_,SqT.of j⟩,λp x=>?_};show pF (k:=1) (js:=[]) (J:=Itt K t) (p:=p) zs.length (by lia) (λi ys u H'=>∃b:List<|zi×List Key,ys=(b.map (·.1)).map V.ref/\b.map (·.2)=((nds zs).take i).map plK/\b.length=i/\(∀z∈b,H' z.1=some (.tup<|z.2.map kV))/\u.length=1/\Same H H'/\H' p=some (.lst ys))
    {[],rfl,rfl,rfl,by simp,rfl,ae x,ac} (λi ys u H' h=>?_) (λi ys u H' hi h=>?_) (λys u H' h=>?_) (λi ys u H' hi h v H2 a0=>?_) ?_ ?_
  .let(b,rfl,_,e,_):=h;rw[ES,ES];lia
  .let(_,_,_,_,_,_,c,_):=h;show{_,_,SqT.of<|c _ _ j,dL<|ET hi}
  .let(b,e1,e2,e3,e4,_,c,g):=h;show{{_,SqT.of<|c _ _ j,by rw[ba];show FH _},?_};subst e1;show{p,b,rfl,SqL.of g,e4,by lia,λn b5 D q d=>?_};show{q,n,rfl,ac,by lia,?_};have L:Same H (upd H' q<|.ext (nW q n)):=c.trans<|ae d;show{_,rfl,t,_,rfl,.inr<|SqT.of (L _ _ j),rfl,?_};show k _ _ ?_ L;rw[take_of_length_le (by rw[aG];show FH _)]at e2;rw[e2,uy,e3]at D;rw[<-D,FJ,ba];constructor
   .intro z;injection z with z;lia
   .intro z;rw[z]
  .let(b,e1,e2,e3,e4,e0,c,g):=h;let(b6,rfl):=ww e0;let(rfl,Z):=a0;have X:=Z _<|SqT.of (c _ _ j);let(a,B,rfl):=ce X;have I:=FP B;show{_,rfl,a.1,_,_,_,rfl,rfl,SqT.of<|c _ _ (C a I),at1 a.2,_,rfl,a.1,_,_,_,rfl,rfl,SqT.of<|c _ _ (C a I),at2 a.2,le2,λq d=>?_};show{aN d g,b++[(q,plK a.2)],by rw[e1];simp,?_,by simp[e3],?_,rfl,aJ x<|c.trans (ae d),ac}
   .rw[Fn,e2,take_succ,show(nds zs)[i]?=some a.2 by unfold nds;rw[FE,B];rfl];simp
   .intro z r;have G:q≠p:=λz=>by rw[z,g]at d;cases d
    rcases Fd.mp r with r|r
    .have:=aN (o:=.tup [.int a.2.par,.str a.2.nm]) d<|e4 z r;rw[aj]
     .show this
     .intro e;rw[e,aj<|symm G,g]at this;cases this
    .have e:z=(q,plK a.2):=by simpa using r
     subst e;rw[aj G];show ac
  .rintro _ _ _ _ _ m h;show m _ _ h
  .rintro _ _ _ _ m ⟨a3,b0,M,a7,a1,a5,b1,b2,b3,b4,a4,O,N,a8,a2,a6,R,S,U,W,l,q⟩;show{a3,b0,M,a7,a1,a5,b1,b2,b3,b4,a4,O,N,a8,a2,a6,R,S,U,W,l,λp x=>m _ _<|q p x}
theorem Cl:FnScope ["thing"] ["thing"] (ak wF):=fsc
def oN:Sp:=λvs H Q _=>∃t zs,vs=[.ref t]/\H t=some (.tup<|aZ zs)/\At H zs/\zs.length<=60/\(∀n∈nds zs,eJ n)/\∀b H',(b=true↔TW.Tree (nds zs))->Same H H'->Q (.bl b) H'
theorem xS{f:zi}{j:qa}(F:Fun K "is_tree" "is_tree" wF f j)(T:Txt mg)(CN:Has P w K mg base 3 "is_node" ["thing"] rW)(CR:Has P w K mg base 1 "are_rising" ["nodes"] rX)(C:Has P w K mg base 1 "have_own_places" ["nodes"] xR)(B:Has P w K mg base 1 "numbers_inside" ["nodes","folder"] pT):FnOk P w K mg base CX0 4 f j ["thing"] oN:=by
 let(a4,N):=T.top;show F.okA Cl λcdv A outer s H vs Q E t h=>?_
 .let(a,zs,rfl,e,c,R,S,k):=h;have m:Room 1 _:=t.mono (by decide);show{_,ag (aS (PW.pt (pw_or (cU<|cE (ar cm rfl T.isin Ff<|aa (pv 0) (aa (dQ (v:=.ty "tuple") rfl T.tuple boot_tuple rfl) af)) (λ_=>rfl))
    (pw_or1<|cU (cE (ar (kQ rfl) rfl T.all boot_all<|aa (de lcS (cV<|pv 0)
     (λs H fp=>bu (X:=cx _ _ _ _ _ _ _) CN t<|aa (pv 0) af)) af) λ_=>rfl)))) (am<|aq fQ) ax)
   (ag (aS (PW.pt<|pw_or (cU<|cE (bu CR m<|aa (pv 0) af) (λ_=>rfl)) (pw_or1<|cU (cE (bu C m<|aa (pv 0) af) λ_=>rfl))) (am<|aq fQ) ax)
   (am<|aq (dU cu (ar aM rfl T.len Gi<|aa (bu B m<|aa (pv 0) (aa (bw (v:=.int 0) rfl N ⟨_,rfl⟩) af)) af) (ar aM rfl T.len Gi<|aa (pv 0) af)<|av _))),?_}
  show{_,rfl,_,_,_,_,rfl,.tup e,(by kernel_rfl:_=some true),_,rfl,aC ?_};show{_,rfl,a,rfl,⟨_,SqT.of e⟩,λp U=>?_};show dZ (fr:=[]) zs (λz=>V.ref z.1) (by lia) U (gQ (by rw[cf];show SqT.of e)) rfl (λz y _=>y=.bl true) (λz y H H' h _=>h) (λz H' a3 u s1 _ O=>?_) λys H1 s1 W Y=>?_
  .show{_,rfl,z.1,z.2,rfl,s1 _ _<|c z u,S z.2<|bQ u,λi n=>O _ i n rfl}
  .have J:=cn (f:=λ_:zi×Nd=>V.bl true) Y λz y _ h=>h;have e2:ys=(zs.map λ_=>true).map V.bl:=by rw[J,FD];rfl
   show{p,zs.map λ_=>true,rfl,SqL.of (by rw[W,e2]),_,rfl,?_};have I:(zs.map λ_=>true).all id=true:=by simp
   rw[I];show aC ?_;show{_,rfl,a,zs,rfl,s1 _ _ e,c.same s1,by lia,λH2 Z=>{_,rfl,?_}};have d:=s1.trans Z;cases q:TW.adj (nds zs)with
   |false =>
    show aV<|aV (k false H2 ?_ d);constructor
    .intro h;cases h
    .intro h;have:=(TW.og _).mpr h.rise;rw[q]at this;cases this
   |true =>
    have M:=(TW.og _).mp q;show aC {_,rfl,a,zs,rfl,d _ _ e,c.same d,R,λb i r n=>{_,rfl,?_}};have g:=d.trans n;cases b with
    |false =>
     show aV<|k false i ?_ g;constructor
     .intro h;cases h
     .intro h;show r.mpr h.own
    |true =>
     have L:=r.mp rfl;show aC {_,rfl,a,0,zs,rfl,g _ _ e,c.same g,by lia,λj a2 l D a1 G a0=>?_};have x:=g.trans a0;show{l,_,rfl,.inl<|SqL.of G,_,rfl,a,_,rfl,.inr<|SqT.of (x _ _ e),rfl,k _ D ?_ x};rw[FJ,ba];have o:=a1.all;rw[aG]at o;constructor
     .intro h;injection h with h
      show{M,L,o.mp ?_};simp only[dM,ES]at h
      lia
     .intro h;have:=o.mpr h.down;simp only[dM,ES];rw[this]
end
def xT(r:Row):Prop:=0<=r.k/\r.k<=60/\∀n,r.n=some n->eJ n
def apS(i:Nat):Stmt:=(bg dj).getD i (.Pass ⟨0,0,0,0⟩)
def AN:List Str:=["tree","change","parts","number","old","new","behind"]
theorem uO:FnScope AN ["tree","change"] (ak dj):=fsc
abbrev ApX(P:qw)(w:qn)(K:Frag)(mg:Str->Option xx)(base:qb)(f:zi)(cdv:xx)(A:qd)(outer:List Env)(s:xg)(H:Hp)(E:XK):Cx:=fY (CX1 P w) P w K mg base AN "applied" (ak dj) f cdv A outer s H E
structure Ap(H0 H:Hp)(d:zi)(t:List Nd)(es:ZR)(n0 i:Nat)(kvs:List<|Key×V)(ks:List Int)(M:Int->Option Nd):Prop where
 s0:Same H0 H
 dict:H d=some (.dK kvs)
 pd:PD H kvs ks M
 len:ks.length<=n0+i
 hit:∀e∈es.take i,M e.2.k=e.2.n
 miss:∀k,(∀e∈es.take i,e.2.k≠k)->M k=TW.aU t k
 fit:∀e∈es.take i,e.2.o=TW.aU t e.2.k
 ok:∀k n,M k=some n->eJ n
theorem Ap.kv{H0 b:Hp}{d:zi}{t:List Nd}{e:ZR}{g i:Nat}{a:List (Key×V)}{ks:List Int}{c:Int->Option Nd}(f:Ap H0 b d t e g i a ks c):a.length=ks.length:=by
 have:=congrArg length f.pd.keys;rw[ES,ES]at this;show this
theorem tE{a:ZR}(g:(a.map (·.2.k)).Nodup){i:Nat}{e:zi×Row}(c:a[i]?=some e):∀x∈a.take i,x.2.k≠e.2.k:=λx j h=>by
 let(d,f,b):=List.getElem_of_mem j;have l:d<i:=by rw[Fx]at f;lia
 have hi:i<a.length:=(FV.mp c).1;have e1:(a.map (·.2.k))[d]'(by rw[ES];lia)=(a.map (·.2.k))[i]'(by rw[ES];lia):=by
  rw[getElem_map,getElem_map,(FV.mp c).2];rw[getElem_take]at b;rw[b];show h
 have:=(Gr g).mp e1
 lia
theorem Cm{k:Int}{o a:Option Nd}(b:∀n,o=some n->n.num=k)(h':∀n,a=some n->n.num=k):decide (o.map aL=a.map aL)=decide (o=a):=by
 have:=(show xh ⟨k,o,a⟩from⟨b,h'⟩).eq;rw[Fp,FJ,FJ];show this
section
variable{P:qw}{w:qn}{K:Frag}{mg:Str->Option xx}{base:qb}{f:zi}{cdv:xx}{A:qd}{outer:List Env}{s:xg}{H0:Hp}{E:XK}
theorem zN{CN:zi}(O:jF "NoMatch" mg base CN)(v:Room 1<|A.deeper (PyProof.Rows.envOfC "applied" (ak dj) s.heap.objs.size f cdv)):
  ∃L,PS (ApX P w K mg base f cdv A outer s H0 E) (apS 1) L/\∀(B:Ends)(H:Hp)(a c d:zi)(t:List Nd)(es:ZR)(u:Nat)(kvs:List<|Key×V)(ks:List Int)(j:Int->Option Nd),H0 d=none->H c=some (.tup<|iX es)->(∀e∈es,RowAt H e.1 e.2)->(∀e∈es,xT e.2)->(es.map (·.2.k)).Nodup->u+es.length<=60->(∀e∈es,RowAt H0 e.1 e.2)->H0 c=some (.tup<|iX es)->Ap H0 H d t es u 0 kvs ks j ->
   (∀H',Same H0 H'->¬TW.xj t (fJ es)->E (.ref CN) none H') ->
   (∀m p q H' kvs ks j,Ap H0 H' d t es u es.length kvs ks j->B.nx [some<|.ref a,some<|.ref c,some<|.ref d,m,p,q,none] H')->L B [some<|.ref a,some<|.ref c,some<|.ref d,none,none,none,none] H:=by
 show{_,ib (Dk bR) rfl (cV<|pv 1) (nH (n:=3) rfl<|cF (bx (i:=3) uO.nd rfl<|Or.inl rfl) (cF (bx (i:=4) uO.nd rfl<|Or.inl rfl)<|cF (bx (i:=5) uO.nd rfl<|Or.inl rfl) jP))
  (ag (aS (au (xb<|bp v) (kq (bp v) (pv 2) (pv 3) ⟨rfl,rfl,rfl,rfl⟩) (pv 4)<|av _) (am<|cN bR O v.hd rfl (gP (dw (c:=100) (by decide +kernel)<|jr (pv 3) (dw (c:=100) (by decide +kernel) jq)) (by decide))) ax)
  (am<|iG (bp v) (pv 2) (pv 3) (pv 5) rfl)),?_}
 intro B H a c d t es u kvs ks j S R a6 U J a5 W Q N Z a0;show{_,rfl,c,rfl,⟨_,SqT.of R⟩,nJ (xs:=iX es) (λi σ H'=>∃m p q kvs ks j,σ=[some<|.ref a,some<|.ref c,some<|.ref d,m,p,q,none]/\Ap H0 H' d t es u i kvs ks j) ⟨none,none,none,_,_,_,rfl,N⟩ (λi σ H' _ ⟨_,_,_,_,_,_,_,b⟩=>SqT.of<|b.s0 _ _ Q) (λi x σ H' g h=>?_) λσ H' h=>?_}
 .let(m,p,q,kvs,ks,j,rfl,b):=h;unfold iX at g;rw[FE]at g;cases l:es[i]? with
  |none=>rw[l]at g;cases g
  |some e =>
   rw[l]at g;cases g;have D:=FP l;have hi:i<es.length:=(FV.mp l).1;let((a8,a7,h1,h2,h3),M):=(W e D).same b.s0;let(a1,a2,a3):=U e D;have G:j e.2.k=TW.aU t e.2.k:=b.miss _<|tE J l;show{e.1,_,rfl,SqT.of h1,rfl,_,_,rfl,_,_,rfl,_,_,rfl,rfl,?_};show{_,rfl,d,rfl,.inl ⟨_,.inl b.dict⟩,_,rfl,_,cY.k (k:=Sum.inl e.2.k) b.dict,_,rfl,_,_,(b.pd.val e.2.k).ot,h2.ot,_,rfl,?_};rw[Cm (b.pd.num e.2.k) M.1]
   by_cases z:j e.2.k=e.2.o
   .rw[Fe z];let(X,a4,Y):=b.pd.put b.dict (k:=e.2.k) h3 M.2;show aC {_,rfl,_,rfl,_,rfl,d,_,rfl,lT.k (k:=Sum.inl e.2.k) b.dict<|aw (by rw[b.kv];have:=b.len;lia),_,_,_,_,X,_,rfl,aJ S b.s0,ac,Y,by have:=b.len;lia,λx g=>?_,λk C=>?_,λx g=>?_,λk n I=>?_}
    .rw[cB l]at g;change(if x.2.k=e.2.k then e.2.n else j x.2.k)=x.2.n;rcases Fd.mp g with g|g
     .rw[EV<|tE J l x g];show b.hit x g
     .have ex:x=e:=by simpa using g
      rw[ex,EW rfl]
    .rw[cB l]at C;change(if k=e.2.k then e.2.n else j k)=_;rw[EV λz=>C e (Fd.mpr<|.inr (by simp)) z.symm];show b.miss k λx g=>C x<|Fd.mpr (.inl g)
    .rw[cB l]at g;rcases Fd.mp g with g|g
     .show b.fit x g
     .have ex:x=e:=by simpa using g
      rw[ex,<-z,G]
    .by_cases F:k=e.2.k
     .have r:(if k=e.2.k then e.2.n else j k)=some n:=I;rw[EW F]at r;show a3 n r
     .have r:(if k=e.2.k then e.2.n else j k)=some n:=I;rw[EV F]at r;show b.ok k n r
   .rw[FZ z];show aV {_,rfl,e.2.k,rfl,a1,a2,λy=>{ao (show 1<=1000 by decide),Z H' b.s0 λT=>z ?_}};rw[G];show(T e.2<|EZ.mpr ⟨e,D,rfl⟩).symm
 .let(m,p,q,kvs,ks,j,rfl,b):=h;have e1:(iX es).length=es.length:=by unfold iX;rw[ES]
  rw[e1]at b;show a0 m p q H' kvs ks j b
end
theorem zO{g:Type}{a:List Int}{M:Int->Option g}{bs:List (Int×(zi×g))}(d:bs.map (·.1)=a.filter λk=>(M k).isSome)(f:∀x∈bs,M x.1=some x.2.2):bs.map (·.2.2)=a.filterMap M:=by
 have e1:a.filterMap M=(a.filter λk=>(M k).isSome).filterMap M:=by
  clear d f
  induction a with
  |nil=>rfl
  |cons k a c =>
   cases e:M k with
   |none=>rw[GI e,Gh (by rw[e];simp),c]
   |some n=>rw[Fm e,GX (by rw[e];rfl),Fm e,c]
 rw[e1,<-d];clear d e1
 induction bs with
 |nil=>rfl
 |cons b bs c =>
  rw[Fi,Fi,Fm<|f b FY,c λx h=>f x<|FR _ h]
section
variable{P:qw}{w:qn}{K:Frag}{mg:Str->Option xx}{base:qb}{f:zi}{cdv:xx}{A:qd}{outer:List Env}{s:xg}{H0:Hp}{E:XK}
theorem uP(T:Txt mg)(Z:Room 1<|A.deeper (PyProof.Rows.envOfC "applied" (ak dj) s.heap.objs.size f cdv)):
  ∃a4,PS (ApX P w K mg base f cdv A outer s H0 E) (apS 2) a4/\∀(G:Ends)(H:Hp)(a c d:zi)(t:List Nd)(es:ZR)(N:Nat)(kvs:List<|Key×V)(ks:List Int)(B:Int->Option Nd)(Q R U:Option V),Ap H0 H d t es N es.length kvs ks B->N+es.length<=60 ->
   (∀(us:ZN)(j:List Int)(t':zi)(H':Hp),Same H0 H'->H' t'=some (.tup<|aZ us)->At H' us->j.Perm ks->j.Pairwise (· < ·)->nds us=j.filterMap B->G.nx [some<|.ref a,some<|.ref c,some<|.ref d,Q,R,U,some<|.ref t'] H')->a4 G [some<|.ref a,some<|.ref c,some<|.ref d,Q,R,U,none] H:=by
 show{_,aD (i:=6) uO.nd rfl (Or.inl rfl)<|aK br rfl T.tuple rfl (aa (gS (fs:=["parts"]) (cl:=[("parts",s.heap.objs.size+1)]) (js:=[2]) lcF (dR<|ar (ly rfl) rfl T.sorted boot_sorted (aa (pv 2) af))
    (λs H fp=>au nM (cz (bp Z) (pv 1) (pv 0) λ_ _=>rfl) cT<|av _) (λs H fp=>aE (r:=vw K) iF (aO<|aa (pv 0) af)<|cz (bp Z) (pv 1) (pv 0) (λ_ _=>rfl))) af),?_}
 intro G H a c d t es N kvs ks B Q R U m b6 q;have X:ks.length<=60:=GS m.len b6;show{_,rfl,d,kvs,ks,rfl,.inl m.dict,m.pd.keys,m.pd.nd,X,λj L c3 l b5=>?_};have s1:=ae (o:=.lst<|j.map V.int) b5;have J:upd H l (.lst<|j.map V.int) l=some (.lst<|j.map V.int):=ac;generalize upd H l (.lst<|j.map V.int)=H1 at s1 J|-;have c8:j.length<=60:=by rw[L.length_eq];show X
 show{l,rfl,⟨_,SqL.of J⟩,λp b7=>?_};have ex:∀{k:Int}{H':Hp},k∈j->Same H1 H'->∃v,cY H' d (.int k) (some v)/\fc H' v (B k):=λ{k H'} C u=>by
  let(v,a1):=m.pd.has<|L.mem_iff.mp C;have a9:H' d=some (.dK kvs):=u _ _<|s1 _ _ m.dict;have a2:=((m.pd.val k).same s1).same u;rw[a1]at a2;have g:=cY.k (k:=Sum.inl k) a9;rw[a1]at g;show⟨v,g,a2⟩
 show jt (fr:=[some<|.ref d]) j V.int (by lia) b7 (gR<|SqL.of J) rfl (λk=>(B k).isSome) (λk y H'=>∃q n,y=.ref q/\q≠p/\B k=some n/\H' q=some (.tup<|vals n)) (λk y H H' ⟨q,n,e,a3,e2,h⟩ ex=>⟨q,n,e,a3,e2,ex q _ a3 h⟩) (λk H' c6 mk u _ C=>?_) (λk H' c6 mk a0 u b9 C=>?_) λys H' u b8 c4=>?_
 .let(v,g,O):=ex mk u;show{_,rfl,_,rfl,d,_,rfl,g,rfl,_,rfl,?_};have e:(!decide (v=V.non))=(B k).isSome:=by
   rcases O with⟨e,e2⟩|⟨q,n,e,_,e2⟩
   .rw[e,e2];rfl
   .rw[e,e2];rfl
  rw[e];show C H'<|Same.refl _
 .let(v,g,O):=ex mk u;rcases O with⟨e,e2⟩|⟨q,n,e,c1,e2⟩
  .rw[e2]at a0;cases a0
  .subst e;have F:∀{c:zi},H' c=none->Same H' (upd H' c<|.tup [.int k]):=λa7=>ae a7;show{_,rfl,(show 1<=sizeLine from ao (by decide)),λI a8=>?_};have D:=F a8;have a6:cY (upd H' I<|.tup [.int k]) d (.int k) (some<|.ref q):=by
    let(c9,W,_):=ex mk<|u.trans D;have e1:=W.eqK<|D _ _ (u _ _<|s1 _ _ m.dict);have e2:=g.eqK<|u _ _ (s1 _ _ m.dict);rw[e2,<-e1];show W
   show{_,rfl,_,rfl,d,_,rfl,a6,I,q,_,_,rfl,rfl,SqT.of ac,SqT.of<|D _ _ c1,by simp,(show 4<=sizeLine from ao (by decide)),λh=>absurd h<|cons_ne_nil _ _,λ_ c7 Y=>?_};have c0:∃ys,upd H' I (.tup [.int k]) p=some (.lst ys):=let⟨ys,e⟩:=b9;⟨ys,D _ _ e⟩;show C _ _ (D.trans<|ae Y) {c7,n,rfl,dJ c0 Y,e2,?_};rw[ac];have a5:=m.pd.num k n e2;change some (HO.tup<|[.int k]++aL n)=some (.tup<|vals n);rw[<-a5];rfl
 .let(bs,b1,b2,b3):=dE (val:=λb:zi×Nd=>V.ref b.1) (S:=λ(k:Int) (b:zi×Nd)=>B k=some b.2/\H' b.1=some (.tup<|vals b.2)) c4 λk y _ ⟨q,n,e,_,e2,h⟩=>{(q,n),e,e2,h};show{p,_,rfl,.inl {SqL.of b8,λt' c2=>?_}};have F:=ae (o:=.tup ys) c2;show q (bs.map (·.2)) j t' _ (((m.s0.trans s1).trans u).trans F) (by rw[ac,b2,<-cf,FD];rfl) (λz c5=>?_) L c3 ?_
  .let(x,M,rfl):=EZ.mp c5;show F _ _ (b3 x M).2
  .have:=zO (bs:=bs) b1 λx M=>(b3 x M).1;rw[<-this];unfold nds;rw[FD];rfl
def qC(CN:zi):Sp:=λvs H Q E=>∃t c zs es,vs=[.ref t,.ref c]/\Tre H t zs/\(∀n∈nds zs,eJ n)/\ChgAt H c es/\(es.map (·.2.k)).Nodup/\(∀e∈es,xT e.2)/\zs.length+es.length<=60 /\
 (∀a b H',Same H H'->H' b=some (.tup<|aZ a)->At H' a->TW.Appl (nds zs) (fJ es) (some<|nds a)->Q (.ref b) H')/\∀H',Same H H'->TW.Appl (nds zs) (fJ es) none->E (.ref CN) none H'
theorem Cn{f CN:zi}{D:qa}(F:Fun K "applied" "applied" dj f D)(T:Txt mg)(C:jF "NoMatch" mg base CN)(X:Has P w K mg base 1 "parts_by_number" ["tree"] oJ)(Y:Has P w K mg base 4 "is_tree" ["thing"] oN):FnOk P w K mg base (CX1 P w) 5 f D ["tree","change"] (qC CN):=by
 show F.okX uO (λvs H Q E h=>?_) λcdv A outer s H vs Q E l h=>?_
 .let(t,c,zs,es,rfl,_):=h;rfl
 .let(t,c,zs,es,rfl,W,a6,o,a5,a7,x,b6,S):=h;have y:Room 1 _:=l.mono (by decide);let(c2,b5,h1):=zN (P:=P) (w:=w) (K:=K) (f:=f) (cdv:=cdv) (A:=A) (outer:=outer) (s:=s) (H0:=H) (E:=E) C y;let(c3,p2,h2):=uP (P:=P) (w:=w) (K:=K) (base:=base) (f:=f) (cdv:=cdv) (A:=A) (outer:=outer) (s:=s) (H0:=H) (E:=E) T y;show{_,ag (aD (i:=2) uO.nd rfl (Or.inr rfl)<|bu X y (aa (pv 0) af))
   (ag b5<|ag p2 (ag (aS (cU<|cE (bu Y l<|aa (pv 6) af) (λ_=>rfl)) (am<|cN bR C l.hd rfl ay) ax)
   (am<|aq (pv 6)))),?_}
  show{_,rfl,t,zs,rfl,W,λd a0 H1 s1 a3 a1 J=>?_};have a2:=W.tr;have Z:Ap H H1 d (nds zs) es zs.length 0 (aW a0) ((nds zs).map (·.num)) (TW.aU<|nds zs):={s1,J,PD.book a1 J a2,by rw[ES,aG];show FH _,by simp,λk _=>rfl,by simp,λk n q=>a6 n (TW.cg q).1};show h1 _ H1 t c d (nds zs) es zs.length _ _ _ a3 (s1 _ _ o.tup) (λe g=>(o.at' e g).same s1) a7 a5 x o.at' o.tup Z (λH' s' p=>S H' s'<|.unfit p) λb7 b8 b9 H2 kvs ks B a=>?_;show h2 _ H2 t c d (nds zs) es zs.length kvs ks B b7 b8 b9 a x λm R V c0 U M G L O u=>?_;have c1:ks.length<=60:=GS a.len x;have a8:m.length<=60:=by
   have h1:(nds m).length<=R.length:=by rw[u];show List.length_filterMap_le _ _
   rw[aG,L.length_eq]at h1
   lia
  have a9:∀n∈nds m,eJ n:=λn q=>by
   rw[u]at q;let(k,_,j):=GZ.mp q;show a.ok k n j
  have tk:es.take es.length=es:=Gm;have a4:TW.xj (nds zs) (fJ es):=λr l=>by
   let(e,g,rfl):=EZ.mp l;show a.fit e (by rw[tk];show g)
  have N:TW.AppTo (nds zs) (fJ es) (nds m):=by
   have p:∀k,TW.aU (nds m) k=B k:=λk=>by
    rw[u,TW.uH O a.pd.num k]
    by_cases j:k∈R
    .rw[EW j]
    .rw[EV j,a.pd.out λh=>j<|L.mem_iff.mpr h]
   show{by rw[u];show TW.nr O a.pd.num,λr l=>?_,λk j=>?_}
   .let(e,g,rfl):=EZ.mp l;rw[p];show a.hit e (by rw[tk];show g)
   .rw[p];show a.miss k λe g=>j e.2 ?_;rw[tk]at g;show EZ.mpr ⟨e,g,rfl⟩
  show{_,rfl,V,m,rfl,M,G,a8,a9,λb z I v=>{_,rfl,?_}};cases b with
  |true=>show aC {_,rfl,b6 m V z (U.trans v) (v _ _ M) (G.same v)<|.ok a4 N (I.mp rfl)}
  |false=>show aV {ao (show 1<=1000 by decide),S z (U.trans v) (.notree N λh=>by have:=I.mpr h;cases this)}
end
end TK
namespace L2
open PySem PySem.Spec PyProof.Rows
theorem Inv.freeze{X:Cx}{h:List (zi×Obj)}{i:St}{a:Hp}{s:xg}{d:zi}{g:List (Key×V)}(c:Inv X h i a s)(f:a d=some (.dK g)):∃o,Inv X h i (upd a d<|.frz o (.dK g)) s:=by
 let(t,p,vs,u,o,es,j,b,r,k,l,n,m):=c.hok d _ f;show{o,c.write (t':=s.toks) (x:=d) (e:=d) (by rw[f];trivial) (.inl rfl) (λ_ _ _ q=>q) ⟨o,b⟩ ⟨b,t,p,vs,u,o,es,j,b,r,k,l,n,m⟩}
end L2
namespace TK
open PySem L2
theorem uQ(vs:List V)(b:Hp)(Q:VK)(E:XK)(c:rV vs b Q E):iY vs b Q E:=by
 let(x,e,a,q):=c;have d:x.length<=100:=by
  unfold cQ at a;rw[GJ,GJ,FJ,FJ]at a;have:=a.1.2
  lia
 show{x,e,d,λH' s=>by rw[a];show q H' s}
theorem xU{t u:List Nd}{f:ZR}(g:TW.Chg t u<|fJ f){e:zi×Row}(h:e∈f):e.2.k∈t.map (·.num)\/e.2.k∈u.map (·.num):=by
 let(h1,h2,h3):=(g.mem e.2).mp (EZ.mpr ⟨e,h,rfl⟩);cases a:TW.aU t e.2.k with
 |some m =>
  let(c,d):=TW.cg a;show .inl<|EZ.mpr ⟨m,c,d⟩
 |none =>
  cases b:TW.aU u e.2.k with
  |some m =>
   let(c,d):=TW.cg b;show .inr<|EZ.mpr ⟨m,c,d⟩
  |none=>show absurd (h1.trans<|a.trans (b.symm.trans h2.symm)) h3
theorem tF{t u:List Nd}{a:ZR}(b:TW.Chg t u<|fJ a):(a.map (·.2.k)).Nodup:=by
 have:=b.up;unfold fJ at this;rw[Fh]at this;unfold Nodup;rw[Fh];show this.imp λb e=>by lia
theorem xV{t u:List Nd}{a:ZR}(b:TW.Chg t u<|fJ a):a.length<=t.length+u.length:=by
 have:=fb (m:=t.map (·.num)++u.map (·.num)) (tF b) λk d=>by
  let(e,c,rfl):=EZ.mp d;show Fd.mpr<|xU b c
 rw[ES,FI,ES,ES]at this;show this
theorem rY{t u:List Nd}{d:ZR}(f:TW.Chg t u<|fJ d)(i:∀n∈t,eJ n)(c:∀n∈u,eJ n):∀e∈d,xT e.2:=λe g=>by
 have a:1<=e.2.k/\e.2.k<=60:=by
  rcases xU f g with a|a<;>let(m,b,j):=EZ.mp a<;>rw[<-j]
  .show{(i m b).1,(i m b).2.1}
  .show{(c m b).1,(c m b).2.1}
 let(_,h2,_):=(f.mem e.2).mp (EZ.mpr ⟨e,g,rfl⟩);show{by lia,a.2,λn h=>c n ?_};rw[h2]at h;show(TW.cg h).1
theorem uR{t u:List Nd}{b:List Row}(a:TW.Chg t u b)(T:TW.Tree1 u):TW.Appl t b (some u):=.ok a.fits (a.appTo T.rise) T.toTree
def fO(H H':Hp):Prop:=∀b u,H b=some u->H' b=some u\/∃o kvs,u=.dK kvs/\H' b=some (.frz o<|.dK kvs)
theorem fO.of{H H':Hp}(s:Same H H'):fO H H':=λb u h=>.inl<|s b u h
theorem xW{a:Hp}{d:zi}{o:Obj}{f:List (Key×V)}(g:a d=some (.dK f)):fO a (upd a d<|.frz o (.dK f)):=λb u c=>by
 by_cases e:b=d
 .subst e;rw[g]at c;show .inr {o,f,(Option.some.inj c).symm,ac}
 .show .inl (by rw[aj e];show c)
def tFr(t:TS):TS:=λD σ H=>∃d kvs,Rd H d (.dK kvs)/\∀H1 o,fO H H1->H1 d=some (.frz o<|.dK kvs)->t D σ H1
theorem DI{X:Cx}{st:Stmt}{t:TS}(b:PS X st t):PS X st (tFr t):=λpins s σ H a I ⟨d,kvs,h,c⟩=>by
 rcases h with h|⟨o,h⟩
 .let(o,e):=I.freeze h;show b pins s σ _ a e<|c _ o (xW h) ac
 .show b pins s σ H a I<|c H o (fO.of<|Same.refl _) h
theorem fO.tup{H H':Hp}(s:fO H H'){b:zi}{xs:List V}(h:H b=some (.tup xs)):H' b=some (.tup xs):=by
 rcases s b _ h with e|⟨_,_,e,_⟩
 .show e
 .cases e
theorem fO.lst{H H':Hp}(s:fO H H'){b:zi}{xs:List V}(h:H b=some (.lst xs)):H' b=some (.lst xs):=by
 rcases s b _ h with e|⟨_,_,e,_⟩
 .show e
 .cases e
theorem fO.ins{a H':Hp}(s:fO a H'){b C c:zi}{fs:List (Str×V)}(d:a b=some (.ins C c fs)):H' b=some (.ins C c fs):=by
 rcases s b _ d with e|⟨_,_,e,_⟩
 .show e
 .cases e
theorem fO.rd{c H':Hp}(s:fO c H'){b:zi}{d:List (Key×V)}(a:Rd c b<|.dK d):Rd H' b (.dK d):=by
 rcases a with a|⟨o,a⟩
 .rcases s b _ a with e|⟨o,k2,e,e2⟩
  .show .inl e
  .cases e;show .inr ⟨o,e2⟩
 .rcases s b _ a with e|⟨_,_,e,_⟩
  .show .inr ⟨o,e⟩
  .cases e
theorem Tre.frzd{b H':Hp}{t:zi}{z:ZN}(a:Tre b t z)(s:fO b H'):Tre H' t z:={s.tup a.tup,λz c=>s.tup<|a.nod z c,a.tr,a.len}
theorem Tags.frzd{b H':Hp}{d:zi}{gs:TG}(a:Tags b d gs)(s:fO b H'):Tags H' d gs:={s.rd a.dct,λg c=>(a.at' g c).frzd s,a.nd,a.len}
theorem EntAt.frzd{H H':Hp}{e:Ent}(h:EntAt H e)(s:fO H H'):EntAt H' e:=⟨s.tup h.ob,s.tup h.st,h.tr.frzd s,h.tg.frzd s⟩
theorem LAt.frzd{C:zi}{c H':Hp}{p h t d pl f:zi}{i z:ZN}{gs:TG}{g as:List Ent}(a:LAt C c p h t d pl f i z gs g as)(s:fO c H'):LAt C H' p h t d pl f i z gs g as :=
 {let⟨dx,e⟩:=a.ob;⟨dx,s.ins e⟩,a.tf.frzd s,a.tr.frzd s,a.tg.frzd s,s.lst a.ps,s.lst a.ah,a.ne,λe b=>(a.ep e b).frzd s,λe b=>(a.ea e b).frzd s}
theorem Iv.frzd{C:zi}{b H':Hp}{p g t d pl c n t' d':zi}{j z h:ZN}{gs f:TG}{e:List Ent}{i:Nat}(a:Iv C b p g t d pl c n t' d' j z h gs f e i)(s:fO b H'):Iv C H' p g t d pl c n t' d' j z h gs f e i :=
 ⟨a.L.frzd s,s.tup a.nw,a.tr.frzd s,a.en,a.tg.frzd s,a.al,a.ok,a.zl,a.el,a.nm,a.gok,a.fx⟩
theorem Sts.frzd{c H':Hp}{l pl:zi}{d:List zi}{es:List Ent}(b:Sts c l pl d es)(s:fO c H'):Sts H' l pl d es:={s.lst b.lst,b.ne,b.len,λf a e h1 h2=>s.tup<|b.at' f a e h1 h2}
section
variable{P:qw}{w:qn}{K:Frag}{mg:Str->Option xx}{base:qb}{f:zi}{cdv:xx}{A:qd}{outer:List Env}{s:xg}{H0:Hp}{E:XK}{C CN:zi}
theorem e3{Y:zi}{Z:qa}(B:Room 9<|A.deeper (PyProof.Rows.envOfC "law" (ak gC) s.heap.objs.size f cdv))(T:LCls K mg C)(b8:Meth K C "from_tag" Y)(b6:FnOk P w K mg base CX0 3 Y Z ["self","name"]<|qx C)(c1:aH K Z ["self","name"] [])(a9:eI P w K mg base 5 "applied" ["tree","change"]<|qC CN):
  ∃a5,PS (EY P w K mg base f cdv A outer s H0 E) (eS 3) a5/\∀(J:Ends)(H:Hp)(a tb p n l t d pl al t' d':zi)(zb z U:ZN)(gs u:TG)(es:List Ent)(Q:List zi)(D F G k:Option V),Iv C H p tb t d pl al n t' d' zb z U gs u es 14->Sts H l pl Q es ->
   (∀k H',Iv C H' p tb t d pl al n t' d' zb z U gs u es 14->Sts H' l pl Q es->J.nx [some<|.ref a,some<|.ref tb,some<|.ref p,some<|.ref n,some<|.ref l,D,F,G,k] H')->a5 J [some<|.ref a,some<|.ref tb,some<|.ref p,some<|.ref n,some<|.ref l,D,F,G,k] H:=by
 let(d3,d4,b5,mA,d0,c0):=a9;have c8:Room 5 _:=B.mono (by decide);have c7:Room 3 _:=B.mono (by decide);show{_,DI (ib PassesOwn.never rfl (Dh<|ixT K (pv 3) ai) (bx (i:=8) oK.nd rfl<|Or.inl rfl)
  (am<|aS (au (qX<|ju B) (bd b5 c8 rfl mA d0 c0 .nil Dl<|aa (cz (bp B) (ixT K (pv 3) ai) (pv 8) λ_ _=>rfl) (aa (fg (pv 2) T.cl b8 b6 c7 c1 .nil cK<|aa (pv 8) af) af)) (ixT K (pv 3) ai)<|av _) (am<|aq fQ) ax)),?_}
 intro J H a tb p n l t d pl al t' d' zb z U gs u es Q D F G k I S q;show{d',bn u,I.tg.dct,λH1 o a0 a2=>?_};have b:=I.frzd a0;have b9:=S.frzd a0;show{_,rfl,n,_,_,_,rfl,rfl,SqT.of b.nw,rfl,d',o,_,rfl,a2,?_};show zd (kY a2) (λi σ H'=>∃k,σ=[some<|.ref a,some<|.ref tb,some<|.ref p,some<|.ref n,some<|.ref l,D,F,G,k]/\Same H1 H') ⟨k,rfl,Same.refl _⟩ (λi σ H' _ ⟨_,_,e⟩=>e) (λi x σ H' r h=>?_) λσ H' h=>?_
 .let(a8,rfl,s1):=h;have b:=b.same s1;unfold bn at r;rw[FD,FE]at r;cases N:u[i]? with
  |none=>rw[N]at r;cases r
  |some j =>
   rw[N]at r;cases r;have R:=FP N;let(g,O,e1,e2):=b.al.symm.get R;let(dx,c6):=b.L.ob;have a3:=qz b.nm g O;have a1:=b.gok g O;have c2:cY H' d' (kV<|Sum.inr j.1) (some<|.ref j.2.1):=by rw[<-b.tg.get R];show .inl ⟨_,_,b.tg.dct,rfl,rfl⟩
   show{_,rfl,n,_,_,_,rfl,rfl,SqT.of b.nw,rfl,_,rfl,d',_,rfl,c2,_,rfl,p,dx,_,rfl,c6,dP (by decide +kernel) (by decide +kernel) (by decide +kernel) (by decide +kernel) (by decide +kernel),_,rfl,p,tb,t,d,pl,al,zb,z,gs,es,[],g,?_,b.L,a3.1,a3.2,O,λc d1 H2 a6 c5 v=>?_}
   .rw[e1];rfl
   .have W:=b.same a6;rw[e2]at v;have c3:=xV v;have d6:g.2.2.length=j.2.2.length:=by have:=congrArg length e2;rwa [aG,aG]at this
    have d5:=a1.2;have d8:=b.zl;rw[aG,aG]at c3;have a4:∀m∈nds j.2.2,eJ m:=by rw[<-e2];show a1.1
    have X:=uR v b.L.tr.tr;show{j.2.1,c,j.2.2,d1,rfl,W.tg.at' j R,a4,c5,tF v,rY v a4 b.ok,by lia,λd7 d2 b7 a7 c9 c4 M=>?_,λb7 _ M=>(X.not_both M).elim};have y:=W.same a7;show{_,rfl,n,_,_,_,rfl,rfl,SqT.of y.nw,rfl,.inr {d2,t',_,_,rfl,rfl,jJ ((M.some_uniq X).trans y.en.symm) c4 y.tr.nod,.inr ⟨c9,y.tr.tup⟩,_,rfl,aC {_,rfl,s1.trans<|a6.trans a7}}}
 .let(a8,rfl,s1):=h;show q a8 H' (b.same s1)<|b9.same s1
end
section
variable{P:qw}{w:qn}{K:Frag}{mg:Str->Option xx}{base:qb}{f C Dd PL CN:zi}{fd:qa}{B:Nat->zi}
def tG(PL:zi)(K:Frag):Sp:=λvs H Q _=>∃(a:zi) (b:List Int),vs=[.ref a]/\SqL K H a (b.map V.int)/\b.length<=63/\H PL=some (.tbl #[])/\∀H',Q (.bl true) H'
theorem Co{t u v r m x:zi}{D G J z y L:qa}(F:Fun K "law" "law" gC f fd)(e:Txt mg)(T:LCls K mg C)(d1:One12 K B Dd 9)(d0:∀c,One12 K B Dd<|cw c)(c4:Mk K C t)(b7:FnOk P w K mg base CX0 1 t D ["self","tree"]<|lF C)(d5:aH K D ["self","tree"] [])(c7:Meth K C "steps" u)(b8:FnOk P w K mg base CX0 1 u G ["self"]<|iA C)(d6:aH K G ["self"] [])(c8:Meth K C "tags" v)(GT:FnOk P w K mg base CX0 1 v J ["self"]<|eD C)(d7:aH K J ["self"] [])(c6:Meth K C "from_tag" r)(b6:FnOk P w K mg base CX0 3 r z ["self","name"]<|qx C)(d4:aH K z ["self","name"] [])(c5:Meth K C "base" m)(b5:FnOk P w K mg base CX0 1 m y ["self"]<|lN C)(bB:aH K y ["self"] [])(c9:Meth K C "sizes" x)(b9:FnOk P w K mg base CX0 1 x L ["self"]<|lG C)(d8:aH K L ["self"] [])(a9:Has P w K mg base 3 "_law_tree" ["_law_script","_law_at","_law_most"]<|ja K)(a8:Has P w K mg base 4 "_law_step" ["_law_script","_law_at","_law_tree_here"]<|iz K)(a5:Has P w K mg base 3 "_law_behind" ["_law_now","_law_step_here"] lM)(a7:Has P w K mg base 3 "_law_all_of" ["_law_ledger"]<|lI C)(a4:eI P w K mg base 5 "applied" ["tree","change"]<|qC CN)(a6:Has P w K mg base 8 "_law_did" ["_law_ledger","_law_step_here"]<|nG PL C (B 9) Dd (λc=>B<|cw c) B K):
  FnOk P w K mg base CX0 10 f fd ["_law_script"] (tG PL K):=by
 show F.okA oK λcdv A outer s H vs Q E b h=>?_
 .let(a,Y,rfl,O,f7,e7,q):=h;let(f8,f1,e5):=e0 (outer:=outer) (H0:=H) (E:=E) b a9;let(f9,f2,h1):=e1 (outer:=outer) (H0:=H) (E:=E) b T c4 b7 d5;let(g0,p2,h2):=e2 (outer:=outer) (H0:=H) (E:=E) (PL:=PL) e b T d1 d0 a8 a5 a6 a7 c7 b8 d6 c8 GT d7;let(g1,f3,h3):=e3 (outer:=outer) (H0:=H) (E:=E) b T c6 b6 d4 a4;let(g2,f4,e6):=e4 (outer:=outer) (H0:=H) (E:=E) e b T c5 b5 bB c9 b9 d8;show{_,ag f1<|ag f2 (ag p2<|ag f3 (am f4)),?_};have R:ck K H a:=⟨Y,O⟩;show e5 _ H a _ _ _ _ _ _ _ _ R λtb zb H1 s1 f6 f0 e9=>?_;show h1 _ H1 a tb zb _ _ _ _ _ _ _ f6 f0 e9 λp d pl al n d9 l H2 f5 I S X=>?_;have Z:=s1.trans f5;have e8:(a≠p/\a≠pl)\/∀H',ck K H' a:=by
   rcases O with (h|⟨o,h⟩)|h
   .show .inl<|X a _ (s1 _ _ h)
   .show .inl<|X a _ (s1 _ _ h)
   .show .inr λH'=>⟨Y,.inr h⟩
  show h2 _ H2 a tb p n l d pl al d9 zb _ _ _ _ (R.same Z) e8 (bj (.start e7)<|bi Z) I S λW U a0 i g a1 j a2 a3 M N k V g3 g4 g5 c0 c2 d2=>?_;show h3 _ c0 a tb p W U a0 i pl g a1 j zb a2 a3 M N k V _ _ _ _ c2 d2 λg6 c1 c3 d3=>?_;show e6 _ c1 a tb p W U a0 i pl g a1 j 14 zb a2 a3 M N k V _ _ _ _ c3 d3 q
end
open PySem PySem.W PyProof.Rows L2
theorem gI{K:Frag}{h:qb}{mg:Str->Option xx}{x:Str}{C:zi}{bB:List xx}{nid:String}(X:K.In h)(m:mg x=some (.ref C))(q:excIn K C bB nid=true):OwnCls x C bB nid mg h:=by
 have n:∃bm N nm o bs hdct sn sub ab col dd k0 k1 k2 k3 k5 d,h.get? C=some (excClassObj nm o C N bs bm hdct sn sub ab col dd k0 k1 k2 k3 k5 nid)/\h.Ns N d/\d "__init__"=none/\OwnTail h bB bm:=by
  unfold excIn at q
  split at q
  case h_2=>show absurd q (by simp)
  case h_1 d0 c0 s0 hK =>
   split at q
   case h_2=>show absurd q (by simp)
   case h_1 C1 b1 u0 u1 u2 u3 u4 u5 e1 e2 =>
    rw[GJ,GJ,GJ,GJ,GJ]at q;let(((((e,f),g),l),a),i):=q;have j:C1=C:=GP.mp e;have k:u4=nid:=GP.mp f;have b:c0.hasDel=false:=by simpa using g
    have c:nsIn K c0.ns "__init__"=some none:=GP.mp i;clear e f g i;cases c0;cases s0;dsimp only at e1 e2 b a c;subst j k b e1 e2;show{_,_,_,_,_,_,_,_,_,_,_,_,_,_,_,_,_,X _ _ hK,Heap.Ns.of_isNs<|PySem.W.isNs_of_in X a,PySem.W.nsMap_none_of_in X a c,PySem.W.tail_of_in X l}
 show⟨m,n⟩
theorem Eu{b:Type}{P:List b->Prop}{us:List b}(d:us.length=0)(c:P []):P us:=by cases us with|nil=>show c|cons a r=>cases d
theorem DJ{c:Type}{P:List c->Prop}{us:List c}(b:us.length=1)(d:∀a0,P [a0]):P us:=by cases us with|nil=>cases b|cons a r=>show Eu (P:=λr=>P (a::r)) (Nat.succ.inj b)<|d a
theorem DK{c:Type}{P:List c->Prop}{us:List c}(b:us.length=2)(e:∀a0 d,P [a0,d]):P us:=by cases us with|nil=>cases b|cons a r=>show DJ (P:=λr=>P (a::r)) (Nat.succ.inj b)<|e a
theorem DM{c:Type}{P:List c->Prop}{us:List c}(b:us.length=3)(f:∀a0 d e,P [a0,d,e]):P us:=by cases us with|nil=>cases b|cons a r=>show DK (P:=λr=>P (a::r)) (Nat.succ.inj b)<|f a
theorem DO{c:Type}{P:List c->Prop}{us:List c}(b:us.length=4)(g:∀a0 d e f,P [a0,d,e,f]):P us:=by cases us with|nil=>cases b|cons a r=>show DM (P:=λr=>P (a::r)) (Nat.succ.inj b)<|g a
theorem Ev{c:Type}{P:List c->Prop}{us:List c}(b:us.length=5)(h:∀a0 d e f g,P [a0,d,e,f,g]):P us:=by cases us with|nil=>cases b|cons a r=>show DO (P:=λr=>P (a::r)) (Nat.succ.inj b)<|h a
abbrev gA(K:Frag)(x:Str)(f:zi):Prop:=nsIn K mainGlobals x=some (some<|.ref f)
abbrev gN(K:Frag)(x:Str):Prop:=nsIn K mainGlobals x=some none
theorem fh{P:qw}{w:qn}{K:Frag}{mg:Str->Option xx}{base d:qb}{k:Nat}{x q:Str}{st:Stmt}{f:zi}{c:qa}{ps:List Str}{sp:Sp}(X:K.In d)(e:d.Ns mainGlobals mg)(F:Fun K x q st f c)(a:gA K x f)(b:aH K c ps [])(g:FnOk P w K mg base CX0 k f c ps sp):Has P w K mg base k x ps sp:=⟨f,c,g,mg_of X e a,F.kp,b⟩
theorem fhX{P:qw}{w:qn}{K:Frag}{mg:Str->Option xx}{base d:qb}{k:Nat}{x q:Str}{st:Stmt}{f:zi}{c:qa}{ps:List Str}{sp:Sp}(X:K.In d)(e:d.Ns mainGlobals mg)(F:Fun K x q st f c)(a:gA K x f)(b:aH K c ps [])(g:FnOk P w K mg base (CX1 P w) k f c ps sp):eI P w K mg base k x ps sp:=⟨f,c,g,mg_of X e a,F.kp,b⟩
theorem fb1{K:Frag}{x q d:Str}{st:Stmt}{f:zi}{e:qa}(F:Fun K x q st f e)(h:∀(kV b pm:xx) (a:Option zi) (cdv ct g:xx),bindArgs (fnOf x q (dB st) (bg st) (ak st) .none kV b pm a cdv ct) {[g],[]}=pure (List.zip [d] [g]):=by intros;rfl):aH K e [d] []:=F.binds λkV b pm a cdv ct c i=>DJ (P:=λc=>bindArgs _ {c,[]}=pure (List.zip _ c)) i<|h kV b pm a cdv ct
theorem fb2{K:Frag}{x q d e:Str}{st:Stmt}{f:zi}{g:qa}(F:Fun K x q st f g)(j:∀(kV b pm:xx) (a:Option zi) (cdv ct h i:xx),bindArgs (fnOf x q (dB st) (bg st) (ak st) .none kV b pm a cdv ct) {[h,i],[]}=pure (List.zip [d,e] [h,i]):=by intros;rfl):aH K g [d,e] []:=F.binds λkV b pm a cdv ct c k=>DK (P:=λc=>bindArgs _ {c,[]}=pure (List.zip _ c)) k<|j kV b pm a cdv ct
theorem fb3{K:Frag}{x q d e g:Str}{st:Stmt}{f:zi}{h:qa}(F:Fun K x q st f h)(l:∀(kV b pm:xx) (a:Option zi) (cdv ct i j k:xx),bindArgs (fnOf x q (dB st) (bg st) (ak st) .none kV b pm a cdv ct) {[i,j,k],[]}=pure (List.zip [d,e,g] [i,j,k]):=by intros;rfl):aH K h [d,e,g] []:=F.binds λkV b pm a cdv ct c m=>DM (P:=λc=>bindArgs _ {c,[]}=pure (List.zip _ c)) m<|l kV b pm a cdv ct
theorem fb4{K:Frag}{x q d e g h:Str}{st:Stmt}{f:zi}{i:qa}(F:Fun K x q st f i)(n:∀(kV b pm:xx) (a:Option zi) (cdv ct j k l m:xx),bindArgs (fnOf x q (dB st) (bg st) (ak st) .none kV b pm a cdv ct) {[j,k,l,m],[]}=pure (List.zip [d,e,g,h] [j,k,l,m]):=by intros;rfl):aH K i [d,e,g,h] []:=F.binds λkV b pm a cdv ct c o=>DO (P:=λc=>bindArgs _ {c,[]}=pure (List.zip _ c)) o<|n kV b pm a cdv ct
theorem fb5{K:Frag}{x q d e g h i:Str}{st:Stmt}{f:zi}{j:qa}(F:Fun K x q st f j)(p:∀(kV b pm:xx) (a:Option zi) (cdv ct k l m n o:xx),bindArgs (fnOf x q (dB st) (bg st) (ak st) .none kV b pm a cdv ct) {[k,l,m,n,o],[]}=pure (List.zip [d,e,g,h,i] [k,l,m,n,o]):=by intros;rfl):aH K j [d,e,g,h,i] []:=F.binds λkV b pm a cdv ct c r=>Ev (P:=λc=>bindArgs _ {c,[]}=pure (List.zip _ c)) r<|p kV b pm a cdv ct
theorem Cp{l:PySem.W.OpenLaw}{w:qn}{K:Frag}{m7:qb}{mg:Str->Option xx}{m6 i9 k0 k5 l1 m1 m2 m3 m4 m5 j0 j1 j2 j3 j4 j5 j6 j7 j8 j9 k1 k2 k3 k4 f24 f25 f26 f27 f28 f29 f30 f31 f32 f33 f34 k6 k7 k8 k9 l0 l2 l3 l4 l5 l6 l7 l8 l9 m0 OLedger:zi}(X:K.In m7)(a:m7.Ns mainGlobals mg)(M5:mg "law"=some (.ref m6)){x1 y2 y7 z3 A1 A2 A3 A4 A5 x2 x3 x4 x5 x6 x7 x8 x9 y0 y1 y3 y4 y5 y6 I J g0 L M N g1 O g2 P Q y8 y9 z0 z1 z2 z4 z5 z6 z7 z8 z9 A0 i8 g3:qa}{Q2:Tok}(r6:gA K "is_whole" i9)(a1:Fun K "is_whole" "is_whole" rf i9 x1)(i2:gA K "is_name" k0)(C:Fun K "is_name" "is_name" wC k0 y2)(t6:gA K "is_stamp" k5)(c7:Fun K "is_stamp" "is_stamp" rg k5 y7)(u7:gA K "is_node" l1)(d8:Fun K "is_node" "is_node" wD l1 z3)(v7:gA K "are_rising" m1)(f0:Fun K "are_rising" "are_rising" wE m1 A1)(v8:gA K "have_own_places" m2)(f1:Fun K "have_own_places" "have_own_places" AZ m2 A2)(v9:gA K "numbers_inside" m3)(f2:Fun K "numbers_inside" "numbers_inside" Ba m3 A3)(w0:gA K "is_tree" m4)(f3:Fun K "is_tree" "is_tree" wF m4 A4)(w1:gA K "by_number" m5)(f4:Fun K "by_number" "by_number" Bb m5 A5)(r7:gA K "node_of" j0)(a2:Fun K "node_of" "node_of" Bc j0 x2)(r8:gA K "check_folder" j1)(a3:Fun K "check_folder" "check_folder" Be j1 x3)(r9:gA K "below" j2)(a4:Fun K "below" "below" Bf j2 x4)(s0:gA K "parts_by_number" j3)(a5:Fun K "parts_by_number" "parts_by_number" cP j3 x5)(s1:gA K "unlike_entries" j4)(a6:Fun K "unlike_entries" "unlike_entries" di j4 x6)(s2:gA K "change_between" j5)(a7:Fun K "change_between" "change_between" bv j5 x7)(s3:gA K "applied" j6)(a8:Fun K "applied" "applied" dj j6 x8)(s4:gA K "check_place" j7)(a9:Fun K "check_place" "check_place" Bg j7 x9)(s5:gA K "with_node" j8)(b5:Fun K "with_node" "with_node" wG j8 y0)(s6:gA K "make" j9)(b6:Fun K "make" "make" wH j9 y1)(s7:gA K "write" k1)(b7:Fun K "write" "write" rh k1 y3)(s8:gA K "move" k2)(b8:Fun K "move" "move" wI k2 y4)(s9:gA K "drop" k3)(b9:Fun K "drop" "drop" wJ k3 y5)(t0:gA K "done" k4)(c0:Fun K "done" "done" wK k4 y6)(i3:PySem.W.findIn K (.ref OLedger) "__init__"=some (some<|.ref f24))(m8:isFn K (.ref f24)=true)(c1:Fun K "__init__" "Ledger.__init__" fm f24 I)(t1:PySem.W.findIn K (.ref OLedger) "base"=some (some<|.ref f25))(M6:isFn K (.ref f25)=true)(c2:Fun K "base" "Ledger.base" fq f25 J)(t2:PySem.W.findIn K (.ref OLedger) "now"=some (some<|.ref f26))(M7:isFn K (.ref f26)=true)(c3:Fun K "now" "Ledger.now" gB f26 g0)(t3:PySem.W.findIn K (.ref OLedger) "sizes"=some (some<|.ref f27))(M8:isFn K (.ref f27)=true)(c4:Fun K "sizes" "Ledger.sizes" eN f27 L)(t4:PySem.W.findIn K (.ref OLedger) "steps"=some (some<|.ref f28))(M9:isFn K (.ref f28)=true)(c5:Fun K "steps" "Ledger.steps" eM f28 M)(t5:PySem.W.findIn K (.ref OLedger) "tags"=some (some<|.ref f29))(N0:isFn K (.ref f29)=true)(c6:Fun K "tags" "Ledger.tags" fo f29 N)(t7:PySem.W.findIn K (.ref OLedger) "go_on"=some (some<|.ref f30))(N1:isFn K (.ref f30)=true)(c8:Fun K "go_on" "Ledger.go_on" eK f30 g1)(t8:PySem.W.findIn K (.ref OLedger) "do"=some (some<|.ref f31))(N2:isFn K (.ref f31)=true)(c9:Fun K "do" "Ledger.do" iq f31 O)(t9:PySem.W.findIn K (.ref OLedger) "tagged"=some (some<|.ref f32))(N3:isFn K (.ref f32)=true)(d0:Fun K "tagged" "Ledger.tagged" dO f32 g2)(u0:PySem.W.findIn K (.ref OLedger) "tag"=some (some<|.ref f33))(N4:isFn K (.ref f33)=true)(d1:Fun K "tag" "Ledger.tag" gw f33 P)(u1:PySem.W.findIn K (.ref OLedger) "from_tag"=some (some<|.ref f34))(N5:isFn K (.ref f34)=true)(d2:Fun K "from_tag" "Ledger.from_tag" dh f34 Q)(u2:gA K "_law_cell" k6)(d3:Fun K "_law_cell" "_law_cell" wL k6 y8)(u3:gA K "_law_pick" k7)(d4:Fun K "_law_pick" "_law_pick" wM k7 y9)(u4:gA K "_law_tree" k8)(d5:Fun K "_law_tree" "_law_tree" jw k8 z0)(u5:gA K "_law_book" k9)(d6:Fun K "_law_book" "_law_book" wN k9 z1)(u6:gA K "_law_under" l0)(d7:Fun K "_law_under" "_law_under" ri l0 z2)(u8:gA K "_law_done" l2)(d9:Fun K "_law_done" "_law_done" dz l2 z4)(u9:gA K "_law_deed" l3)(e5:Fun K "_law_deed" "_law_deed" jH l3 z5)(v0:gA K "_law_step" l4)(e6:Fun K "_law_step" "_law_step" ir l4 z6)(v1:gA K "_law_behind" l5)(e7:Fun K "_law_behind" "_law_behind" fw l5 z7)(v2:gA K "_law_all_of" l6)(e8:Fun K "_law_all_of" "_law_all_of" fH l6 z8)(v3:gA K "_law_class" l7)(h2:Fun K "_law_class" "_law_class" eB l7 z9)(v4:gA K "_law_told" l8)(h3:Fun K "_law_told" "_law_told" fu l8 A0)(v5:gA K "_law_did" l9)(e9:Fun K "_law_did" "_law_did" jx l9 i8)(v6:gA K "law" m0)(h4:Fun K "law" "law" gC m0 g3)(S3:gN K "isinstance")(T4:gN K "dict")(T5:gN K "len")(T6:gN K "tuple")(T7:gN K "list")(T8:gN K "range")(T9:gN K "sorted")(U0:gN K "reversed")(U1:gN K "ValueError")(S4:gN K "str")(S5:gN K "set")(S6:gN K "max")(S7:gN K "min")(S8:gN K "sum")(S9:gN K "zip")(T0:gN K "enumerate")(T1:gN K "all")(T2:gN K "int")(T3:gN K "bool")(Q9:nsIn K mainGlobals "TOP"=some (some<|.int 0 Q2)){Q3:Tok}(R0:nsIn K mainGlobals "LETTERS"=some (some<|.str "abcdefghijklmnopqrstuvwxyz" Q3)){Q4:Tok}(R1:nsIn K mainGlobals "LONGEST_NAME"=some (some<|.int 5 Q4)){Q5:Tok}(R3:nsIn K mainGlobals "GREATEST_STAMP"=some (some<|.int 999 Q5)){i7 PL:zi}(N6:i8.code=.ref i7)(J1:codeHdIn K i7 PL=true){DT c d y z t g A h j n x f:zi}(S2:nsIn K mainGlobals "TreeError"=some (some<|.ref DT))(M0:PySem.W.ktsIn K DT "BaseException"=true)(m9:nsIn K mainGlobals "Inside"=some (some<|.ref c))(n0:nsIn K mainGlobals "Known"=some (some<|.ref d))(R9:nsIn K mainGlobals "NoBack"=some (some<|.ref y))(S0:nsIn K mainGlobals "NoMark"=some (some<|.ref z))(n2:nsIn K mainGlobals "NoMatch"=some (some<|.ref t))(n3:nsIn K mainGlobals "NoNode"=some (some<|.ref g))(S1:nsIn K mainGlobals "NoReader"=some (some<|.ref A))(n4:nsIn K mainGlobals "NotFile"=some (some<|.ref h))(n5:nsIn K mainGlobals "NotFolder"=some (some<|.ref j))(n6:nsIn K mainGlobals "NoTag"=some (some<|.ref n))(R8:nsIn K mainGlobals "NoText"=some (some<|.ref x))(n1:nsIn K mainGlobals "Taken"=some (some<|.ref f))(O6:excIn K c bmV "ValueError.__new__"=true)(A6:kitOne K (.ref c) (.ref c)=some true)(A7:kitOne K (.ref c) (.ref d)=some false)(B0:kitOne K (.ref c) (.ref y)=some false)(B1:kitOne K (.ref c) (.ref z)=some false)(B2:kitOne K (.ref c) (.ref t)=some false)(B3:kitOne K (.ref c) (.ref g)=some false)(B4:kitOne K (.ref c) (.ref A)=some false)(B5:kitOne K (.ref c) (.ref h)=some false)(B6:kitOne K (.ref c) (.ref j)=some false)(B7:kitOne K (.ref c) (.ref n)=some false)(A8:kitOne K (.ref c) (.ref x)=some false)(A9:kitOne K (.ref c) (.ref f)=some false)(Q6:kitOne K (.ref c) (.type "ValueError")=some true)(P4:subIn K (.ref c) (.ref DT)=some true)(J2:PySem.W.ktsIn K c "object"=true)(J3:PySem.W.findIn K (.ref c) "__getattribute__"=some (some<|.builtin "BaseException.__getattribute__"))(J4:PySem.W.findIn K (.ref c) "__getattr__"=some none)(J5:PySem.W.findIn K (.ref c) "__class__"=some (some<|.builtin "object.__class__"))(O7:excIn K d bmV "ValueError.__new__"=true)(D0:kitOne K (.ref d) (.ref c)=some false)(D1:kitOne K (.ref d) (.ref d)=some true)(D4:kitOne K (.ref d) (.ref y)=some false)(D5:kitOne K (.ref d) (.ref z)=some false)(D6:kitOne K (.ref d) (.ref t)=some false)(D7:kitOne K (.ref d) (.ref g)=some false)(D8:kitOne K (.ref d) (.ref A)=some false)(D9:kitOne K (.ref d) (.ref h)=some false)(E1:kitOne K (.ref d) (.ref j)=some false)(E2:kitOne K (.ref d) (.ref n)=some false)(D2:kitOne K (.ref d) (.ref x)=some false)(D3:kitOne K (.ref d) (.ref f)=some false)(Q7:kitOne K (.ref d) (.type "ValueError")=some true)(P5:subIn K (.ref d) (.ref DT)=some true)(J6:PySem.W.ktsIn K d "object"=true)(K1:PySem.W.findIn K (.ref d) "__getattribute__"=some (some<|.builtin "BaseException.__getattribute__"))(K2:PySem.W.findIn K (.ref d) "__getattr__"=some none)(K3:PySem.W.findIn K (.ref d) "__class__"=some (some<|.builtin "object.__class__"))(P0:excIn K g bmV "ValueError.__new__"=true)(E3:kitOne K (.ref g) (.ref c)=some false)(E4:kitOne K (.ref g) (.ref d)=some false)(E7:kitOne K (.ref g) (.ref y)=some false)(E8:kitOne K (.ref g) (.ref z)=some false)(E9:kitOne K (.ref g) (.ref t)=some false)(F0:kitOne K (.ref g) (.ref g)=some true)(F1:kitOne K (.ref g) (.ref A)=some false)(F2:kitOne K (.ref g) (.ref h)=some false)(F3:kitOne K (.ref g) (.ref j)=some false)(F4:kitOne K (.ref g) (.ref n)=some false)(E5:kitOne K (.ref g) (.ref x)=some false)(E6:kitOne K (.ref g) (.ref f)=some false)(R4:kitOne K (.ref g) (.type "ValueError")=some true)(P7:subIn K (.ref g) (.ref DT)=some true)(K4:PySem.W.ktsIn K g "object"=true)(K5:PySem.W.findIn K (.ref g) "__getattribute__"=some (some<|.builtin "BaseException.__getattribute__"))(K6:PySem.W.findIn K (.ref g) "__getattr__"=some none)(K7:PySem.W.findIn K (.ref g) "__class__"=some (some<|.builtin "object.__class__"))(P1:excIn K h bmV "ValueError.__new__"=true)(F5:kitOne K (.ref h) (.ref c)=some false)(F6:kitOne K (.ref h) (.ref d)=some false)(F9:kitOne K (.ref h) (.ref y)=some false)(G0:kitOne K (.ref h) (.ref z)=some false)(G1:kitOne K (.ref h) (.ref t)=some false)(G2:kitOne K (.ref h) (.ref g)=some false)(G3:kitOne K (.ref h) (.ref A)=some false)(G4:kitOne K (.ref h) (.ref h)=some true)(G5:kitOne K (.ref h) (.ref j)=some false)(G6:kitOne K (.ref h) (.ref n)=some false)(F7:kitOne K (.ref h) (.ref x)=some false)(F8:kitOne K (.ref h) (.ref f)=some false)(R5:kitOne K (.ref h) (.type "ValueError")=some true)(P8:subIn K (.ref h) (.ref DT)=some true)(K8:PySem.W.ktsIn K h "object"=true)(K9:PySem.W.findIn K (.ref h) "__getattribute__"=some (some<|.builtin "BaseException.__getattribute__"))(L0:PySem.W.findIn K (.ref h) "__getattr__"=some none)(L1:PySem.W.findIn K (.ref h) "__class__"=some (some<|.builtin "object.__class__"))(P2:excIn K j bmV "ValueError.__new__"=true)(G7:kitOne K (.ref j) (.ref c)=some false)(G8:kitOne K (.ref j) (.ref d)=some false)(H1:kitOne K (.ref j) (.ref y)=some false)(H2:kitOne K (.ref j) (.ref z)=some false)(H3:kitOne K (.ref j) (.ref t)=some false)(H4:kitOne K (.ref j) (.ref g)=some false)(H5:kitOne K (.ref j) (.ref A)=some false)(H6:kitOne K (.ref j) (.ref h)=some false)(H7:kitOne K (.ref j) (.ref j)=some true)(H8:kitOne K (.ref j) (.ref n)=some false)(G9:kitOne K (.ref j) (.ref x)=some false)(H0:kitOne K (.ref j) (.ref f)=some false)(R6:kitOne K (.ref j) (.type "ValueError")=some true)(P9:subIn K (.ref j) (.ref DT)=some true)(L2:PySem.W.ktsIn K j "object"=true)(L3:PySem.W.findIn K (.ref j) "__getattribute__"=some (some<|.builtin "BaseException.__getattribute__"))(L4:PySem.W.findIn K (.ref j) "__getattr__"=some none)(L5:PySem.W.findIn K (.ref j) "__class__"=some (some<|.builtin "object.__class__"))(P3:excIn K n bmV "ValueError.__new__"=true)(H9:kitOne K (.ref n) (.ref c)=some false)(I0:kitOne K (.ref n) (.ref d)=some false)(I3:kitOne K (.ref n) (.ref y)=some false)(I4:kitOne K (.ref n) (.ref z)=some false)(I5:kitOne K (.ref n) (.ref t)=some false)(I6:kitOne K (.ref n) (.ref g)=some false)(I7:kitOne K (.ref n) (.ref A)=some false)(I8:kitOne K (.ref n) (.ref h)=some false)(I9:kitOne K (.ref n) (.ref j)=some false)(J0:kitOne K (.ref n) (.ref n)=some true)(I1:kitOne K (.ref n) (.ref x)=some false)(I2:kitOne K (.ref n) (.ref f)=some false)(R7:kitOne K (.ref n) (.type "ValueError")=some true)(Q0:subIn K (.ref n) (.ref DT)=some true)(L6:PySem.W.ktsIn K n "object"=true)(L7:PySem.W.findIn K (.ref n) "__getattribute__"=some (some<|.builtin "BaseException.__getattribute__"))(L8:PySem.W.findIn K (.ref n) "__getattr__"=some none)(L9:PySem.W.findIn K (.ref n) "__class__"=some (some<|.builtin "object.__class__"))(O8:excIn K f bmV "ValueError.__new__"=true)(B8:kitOne K (.ref f) (.ref c)=some false)(B9:kitOne K (.ref f) (.ref d)=some false)(C2:kitOne K (.ref f) (.ref y)=some false)(C3:kitOne K (.ref f) (.ref z)=some false)(C4:kitOne K (.ref f) (.ref t)=some false)(C5:kitOne K (.ref f) (.ref g)=some false)(C6:kitOne K (.ref f) (.ref A)=some false)(C7:kitOne K (.ref f) (.ref h)=some false)(C8:kitOne K (.ref f) (.ref j)=some false)(C9:kitOne K (.ref f) (.ref n)=some false)(C0:kitOne K (.ref f) (.ref x)=some false)(C1:kitOne K (.ref f) (.ref f)=some true)(Q8:kitOne K (.ref f) (.type "ValueError")=some true)(P6:subIn K (.ref f) (.ref DT)=some true)(J7:PySem.W.ktsIn K f "object"=true)(J8:PySem.W.findIn K (.ref f) "__getattribute__"=some (some<|.builtin "BaseException.__getattribute__"))(J9:PySem.W.findIn K (.ref f) "__getattr__"=some none)(K0:PySem.W.findIn K (.ref f) "__class__"=some (some<|.builtin "object.__class__"))(O9:excIn K t bmV "ValueError.__new__"=true)(w2:nsIn K mainGlobals "Ledger"=some (some<|.ref OLedger))(O4:plainGet K OLedger empty=true)(M4:hasDictIn K OLedger=true)(O5:plainOver K OLedger=true)(Q1:PySem.W.findIn K (.ref OLedger) "__setattr__"=some (some<|.builtin "object.__setattr__"))(N8:makesIn K OLedger=true)(N7:keepIn K (.ref OLedger)=true)(N9:PySem.W.findIn K (.ref OLedger) "first_tree"=some none)(O0:PySem.W.findIn K (.ref OLedger) "tree"=some none)(O1:PySem.W.findIn K (.ref OLedger) "tag_trees"=some none)(O2:PySem.W.findIn K (.ref OLedger) "past"=some none)(O3:PySem.W.findIn K (.ref OLedger) "ahead"=some none):
  ∃fd:qa,(∀(s:xg)(v:xx),BindsTo s fd {[v],[]} [("_law_script",v)])/\∀base:qb,K.In base->base.Ns mainGlobals mg->BmB base mg->FnOk l.prog w K mg base CX0 10 m6 fd ["_law_script"] (tG PL K):=by
 have e:=M5.symm.trans<|mg_of X a v6;cases e;have T:Txt mg:=⟨GB X a S3,GB X a T4,GB X a T5,GB X a T6,GB X a T7,GB X a T8,GB X a T9,GB X a U0,GB X a U1,GB X a S4,GB X a S5,GB X a S6,GB X a S7,GB X a S8,GB X a S9,GB X a T0,GB X a T1,GB X a T2,GB X a T3,⟨_,mg_of X a Q9⟩,⟨_,mg_of X a R0⟩,⟨_,mg_of X a R1⟩,⟨_,mg_of X a R3⟩⟩
 let B:Nat->zi:=λi=>match i with | 0=>c | 1=>d | 2=>y | 3=>z | 4=>t | 5=>g | 6=>A | 7=>h | 8=>j | 9=>n | 10=>x | _=>f
 have p7:Clss12 mg K B DT:=⟨λi hi=>match i,hi with | 0,_=>mg_of X a m9 | 1,_=>mg_of X a n0 | 2,_=>mg_of X a R9 | 3,_=>mg_of X a S0 | 4,_=>mg_of X a n2 | 5,_=>mg_of X a n3 | 6,_=>mg_of X a S1 | 7,_=>mg_of X a n4 | 8,_=>mg_of X a n5 | 9,_=>mg_of X a n6 | 10,_=>mg_of X a R8 | 11,_=>mg_of X a n1,mg_of X a S2,M0⟩
 have q7:One12 K B DT 0:=⟨by decide,(by change XI.fR K c=true;unfold XI.fR;rw[J2,J3,J4,J5];rfl),λr q=>match r,q with | 0,_=>A6 | 1,_=>A7 | 2,_=>B0 | 3,_=>B1 | 4,_=>B2 | 5,_=>B3 | 6,_=>B4 | 7,_=>B5 | 8,_=>B6 | 9,_=>B7 | 10,_=>A8 | 11,_=>A9,Q6,P4⟩
 have q8:One12 K B DT 1:=⟨by decide,(by change XI.fR K d=true;unfold XI.fR;rw[J6,K1,K2,K3];rfl),λr q=>match r,q with | 0,_=>D0 | 1,_=>D1 | 2,_=>D4 | 3,_=>D5 | 4,_=>D6 | 5,_=>D7 | 6,_=>D8 | 7,_=>D9 | 8,_=>E1 | 9,_=>E2 | 10,_=>D2 | 11,_=>D3,Q7,P5⟩
 have r0:One12 K B DT 5:=⟨by decide,(by change XI.fR K g=true;unfold XI.fR;rw[K4,K5,K6,K7];rfl),λr q=>match r,q with | 0,_=>E3 | 1,_=>E4 | 2,_=>E7 | 3,_=>E8 | 4,_=>E9 | 5,_=>F0 | 6,_=>F1 | 7,_=>F2 | 8,_=>F3 | 9,_=>F4 | 10,_=>E5 | 11,_=>E6,R4,P7⟩
 have r1:One12 K B DT 7:=⟨by decide,(by change XI.fR K h=true;unfold XI.fR;rw[K8,K9,L0,L1];rfl),λr q=>match r,q with | 0,_=>F5 | 1,_=>F6 | 2,_=>F9 | 3,_=>G0 | 4,_=>G1 | 5,_=>G2 | 6,_=>G3 | 7,_=>G4 | 8,_=>G5 | 9,_=>G6 | 10,_=>F7 | 11,_=>F8,R5,P8⟩
 have r2:One12 K B DT 8:=⟨by decide,(by change XI.fR K j=true;unfold XI.fR;rw[L2,L3,L4,L5];rfl),λr q=>match r,q with | 0,_=>G7 | 1,_=>G8 | 2,_=>H1 | 3,_=>H2 | 4,_=>H3 | 5,_=>H4 | 6,_=>H5 | 7,_=>H6 | 8,_=>H7 | 9,_=>H8 | 10,_=>G9 | 11,_=>H0,R6,P9⟩
 have r3:One12 K B DT 9:=⟨by decide,(by change XI.fR K n=true;unfold XI.fR;rw[L6,L7,L8,L9];rfl),λr q=>match r,q with | 0,_=>H9 | 1,_=>I0 | 2,_=>I3 | 3,_=>I4 | 4,_=>I5 | 5,_=>I6 | 6,_=>I7 | 7,_=>I8 | 8,_=>I9 | 9,_=>J0 | 10,_=>I1 | 11,_=>I2,R7,Q0⟩
 have q9:One12 K B DT 11:=⟨by decide,(by change XI.fR K f=true;unfold XI.fR;rw[J7,J8,J9,K0];rfl),λr q=>match r,q with | 0,_=>B8 | 1,_=>B9 | 2,_=>C2 | 3,_=>C3 | 4,_=>C4 | 5,_=>C5 | 6,_=>C6 | 7,_=>C7 | 8,_=>C8 | 9,_=>C9 | 10,_=>C0 | 11,_=>C1,Q8,P6⟩
 have q6:∀o,One12 K B DT (cw o):=λo=>match o with | .inside=>q7 | .known=>q8 | .noNode=>r0 | .notFile=>r1 | .notFolder=>r2 | .taken=>q9
 have p:LCls K mg OLedger:=⟨⟨O4,M4,O5,Q1⟩,N9,O0,O1,O2,O3,mg_of X a w2⟩;have q5:Mk K OLedger f24:=⟨N8,i3,m8,N7⟩;have U2:Meth K OLedger "__init__" f24:=⟨i3,m8,c1.kp⟩;have w3:aH K I ["self","tree"] []:=fb2 c1;have p8:Meth K OLedger "base" f25:=⟨t1,M6,c2.kp⟩;have w4:aH K J ["self"] []:=fb1 c2;have q1:Meth K OLedger "now" f26:=⟨t2,M7,c3.kp⟩;have w7:aH K g0 ["self"] []:=fb1 c3;have q2:Meth K OLedger "sizes" f27:=⟨t3,M8,c4.kp⟩;have w8:aH K L ["self"] []:=fb1 c4;have q3:Meth K OLedger "steps" f28:=⟨t4,M9,c5.kp⟩;have w9:aH K M ["self"] []:=fb1 c5;have i1:Meth K OLedger "tags" f29:=⟨t5,N0,c6.kp⟩;have i6:aH K N ["self"] []:=fb1 c6;have h9:Meth K OLedger "go_on" f30:=⟨t7,N1,c8.kp⟩;have i4:aH K g1 ["self","step","tree","tag_trees"] []:=fb4 c8;have p9:Meth K OLedger "do" f31:=⟨t8,N2,c9.kp⟩;have w5:aH K O ["self","deed"] []:=fb2 c9;have i0:Meth K OLedger "tagged" f32:=⟨t9,N3,d0.kp⟩;have i5:aH K g2 ["self","name"] []:=fb2 d0;have q4:Meth K OLedger "tag" f33:=⟨u0,N4,d1.kp⟩;have x0:aH K P ["self","name"] []:=fb2 d1;have q0:Meth K OLedger "from_tag" f34:=⟨u1,N5,d2.kp⟩;have w6:aH K Q ["self","name"] []:=fb2 d2;have M3:∀(s:xg)(v:xx),BindsTo s g3 {[v],[]} [("_law_script",v)]:=by
  let(_,_,_,_,_,_,_,_,_,e,_,_):=h4.ex;subst e;show λs v=>.of_eq rfl
 have all:∀base:qb,K.In base->BmB base mg->(Has l.prog w K mg base 3 "_law_tree" ["_law_script","_law_at","_law_most"]<|ja K)/\(Has l.prog w K mg base 4 "_law_step" ["_law_script","_law_at","_law_tree_here"]<|iz K)/\(Has l.prog w K mg base 3 "_law_behind" ["_law_now","_law_step_here"] lM)/\(Has l.prog w K mg base 3 "_law_all_of" ["_law_ledger"]<|lI OLedger)/\(eI l.prog w K mg base 5 "applied" ["tree","change"]<|qC (B 4))/\(FnOk l.prog w K mg base CX0 1 f24 I ["self","tree"]<|lF OLedger)/\(FnOk l.prog w K mg base CX0 1 f28 M ["self"]<|iA OLedger)/\(FnOk l.prog w K mg base CX0 1 f29 N ["self"]<|eD OLedger)/\(FnOk l.prog w K mg base CX0 3 f34 Q ["self","name"]<|qx OLedger)/\(FnOk l.prog w K mg base CX0 1 f25 J ["self"]<|lN OLedger)/\(FnOk l.prog w K mg base CX0 1 f27 L ["self"]<|lG OLedger)/\(FnOk l.prog w K mg base (CX1 l.prog w) 2 f33 P ["self","name"]<|lH OLedger (B 9))/\(FnOk l.prog w K mg base (CX1 l.prog w) 5 f31 O ["self","deed"]<|qk OLedger λo=>B<|cw o):=λbase KB R=>by
  let H:=Has l.prog w K mg base
  let u:=eI l.prog w K mg base
  have r4:jF "NoTag" mg base (B 9):=gI KB (mg_of X a n6) P3;have r5:jF "NoMatch" mg base (B 4):=gI KB (mg_of X a n2) O9;have D:yO mg base (λo=>B<|cw o):=λo=>match o with | .inside=>gI KB (mg_of X a m9) O6 | .known=>gI KB (mg_of X a n0) O7 | .noNode=>gI KB (mg_of X a n3) P0 | .notFile=>gI KB (mg_of X a n4) P1 | .notFolder=>gI KB (mg_of X a n5) P2 | .taken=>gI KB (mg_of X a n1) O8
  have g8:H 1 "is_whole" ["thing"] jZ:=fh X a a1 r6 (fb1 a1)<|xP a1 T;have o8:H 1 "is_name" ["thing"] rV:=fh X a C i2 (fb1 C)<|(ql C T).imp uQ;have g7:H 1 "is_name" ["thing"] iY:=fh X a C i2 (fb1 C)<|ql C T;have p0:H 2 "is_stamp" ["thing"] oM:=fh X a c7 t6 (fb1 c7)<|xQ c7 T g8;have o9:H 3 "is_node" ["thing"] rW:=fh X a d8 u7 (fb1 d8)<|zL d8 T g8 o8 p0;have o3:H 1 "are_rising" ["nodes"] rX:=fh X a f0 v7 (fb1 f0)<|zM f0 T;have o7:H 1 "have_own_places" ["nodes"] xR:=fh X a f1 v8 (fb1 f1)<|Ck f1 T;have g9:H 1 "numbers_inside" ["nodes","folder"] pT:=fh X a f2 v9 (fb2 f2)<|Bh f2 T;have p1:H 4 "is_tree" ["thing"] oN:=fh X a f3 w0 (fb1 f3)<|xS f3 T o9 o3 o7 g9;have E:H 1 "by_number" ["tree"] ll:=fh X a f4 w1 (fb1 f4)<|Bi f4 T;have F:u 1 "node_of" ["nodes","number"] (lm<|B 5):=fhX X a a2 r7 (fb2 a2)<|Bj a2 (D .noNode);have g5:u 2 "check_folder" ["nodes","number"] (sW (B 5)<|B 8):=fhX X a a3 r8 (fb2 a3)<|Bl a3 T (D .notFolder) F;have g4:u 2 "below" ["tree","number"] (sV<|B 5):=fhX X a a4 r9 (fb2 a4)<|Bk a4 T E F g9;have h0:H 1 "parts_by_number" ["tree"] oJ:=fh X a a5 s0 (fb1 a5)<|zF a5 T;have p4:H 1 "unlike_entries" ["entries"] tD:=fh X a a6 s1 (fb1 a6)<|Cc a6 T;have o4:H 2 "change_between" ["one","other"] xK:=fh X a a7 s2 (fb2 a7)<|Cd a7 T h0 p4;have a0:u 5 "applied" ["tree","change"] (qC<|B 4):=fhX X a a8 s3 (fb2 a8)<|Cn a8 T r5 h0 p1;have g6:u 1 "check_place" ["tree","number","parent","name"] (pU<|B 11):=fhX X a a9 s4 (fb4 a9)<|Bn a9 (D .taken);have h1:H 1 "with_node" ["tree","changed"] lp:=fh X a b5 s5 (fb2 b5)<|yQ b5 T;have p2:u 3 "make" ["tree","number","parent","name","stamp"] (rj λo=>B<|cw o):=fhX X a b6 s6 (fb5 b6)<|yR b6 T D E g5 g6;have p5:u 2 "write" ["tree","number","stamp"] (oq λo=>B<|cw o):=fhX X a b7 s7 (fb3 b7)<|wQ b7 D E F h1;have p3:u 3 "move" ["tree","number","parent","name"] (rk λo=>B<|cw o):=fhX X a b8 s8 (fb4 b8)<|yS b8 D E F g5 g4 g6 h1;have o6:u 3 "drop" ["tree","number"] (rq λo=>B<|cw o):=fhX X a b9 s9 (fb2 b9)<|yT b9 T E F g4;have o5:u 4 "done" ["tree","deed"] (rA λo=>B<|cw o):=fhX X a c0 t0 (fb2 c0)<|yU c0 p2 p5 p3 o6;have f5:FnOk l.prog w K mg base CX0 1 f24 I ["self","tree"] (lF OLedger):=zg c1 p;have f6:FnOk l.prog w K mg base CX0 1 f25 J ["self"] (lN OLedger):=zH c2 p;have p6:FnOk l.prog w K mg base CX0 1 f26 g0 ["self"] (rF OLedger):=zh c3 p;have f8:FnOk l.prog w K mg base CX0 1 f27 L ["self"] (lG OLedger):=zj c4 T p;have f9:FnOk l.prog w K mg base CX0 1 f28 M ["self"] (iA OLedger):=zI c5 p;have G:FnOk l.prog w K mg base CX0 1 f29 N ["self"] (eD OLedger):=xm c6 T p;have h6:FnOk l.prog w K mg base CX0 1 f30 g1 ["self","step","tree","tag_trees"] (sY OLedger):=BG c8 p;have h5:FnOk l.prog w K mg base (CX1 l.prog w) 5 f31 O ["self","deed"] (qk OLedger λo=>B<|cw o):=BH c9 p o5 h9 h6 i4;have h8:FnOk l.prog w K mg base CX0 2 f32 g2 ["self","name"] (oF OLedger):=zn d0 p g7;have h7:FnOk l.prog w K mg base (CX1 l.prog w) 2 f33 P ["self","name"] (lH OLedger<|B 9):=zo d1 T p r4 g7 h9 h6 i4;have f7:FnOk l.prog w K mg base CX0 3 f34 Q ["self","name"] (qx OLedger):=Cf d2 p o4 i0 h8 i5;have n8:H 1 "_law_cell" ["_law_script","_law_k"] (rM K):=fh X a d3 u2 (fb2 d3)<|zu d3 T;have V:H 2 "_law_pick" ["_law_script","_law_k","_law_many"] (gH K):=fh X a d4 u3 (fb3 d4)<|zv d4 T n8;have Z:H 3 "_law_tree" ["_law_script","_law_at","_law_most"] (ja K):=fh X a d5 u4 (fb3 d5)<|xv d5 T V;have n7:H 1 "_law_book" ["_law_tree_here"] rL:=fh X a d6 u5 (fb1 d6)<|zq d6 T;have o2:H 1 "_law_under" ["_law_book_here","_law_number","_law_goal"] lK:=fh X a d7 u6 (fb3 d7)<|BN d7;have o1:H 2 "_law_done" ["_law_tree_here","_law_deed_here"] oH:=fh X a d9 u8 (fb2 d9)<|xt d9 T n7 o2;have n9:H 3 "_law_deed" ["_law_script","_law_at","_law_tree_here"] (rN K):=fh X a e5 u9 (fb3 e5)<|zw e5 T V;have Y:H 4 "_law_step" ["_law_script","_law_at","_law_tree_here"] (iz K):=fh X a e6 v0 (fb3 e6)<|zx e6 V n9;have U:H 3 "_law_behind" ["_law_now","_law_step_here"] lM:=fh X a e7 v1 (fb2 e7)<|BQ e7 T o1;have S:H 3 "_law_all_of" ["_law_ledger"] (lI OLedger):=fh X a e8 v2 (fb1 e8)<|BL e8 T p q1 p6 w7 i1 G i6 i0 h8 i5;show⟨Z,Y,U,S,a0,f5,f9,G,f7,f6,f8,h7,h5⟩
 show{g3,M3,λbase KB _ R=>?_};let(Z,Y,U,S,a0,f5,f9,G,f7,f6,f8,h7,h5):=all base KB R;have o0:Has l.prog w K mg base 8 "_law_did" ["_law_ledger","_law_step_here"] (nG PL OLedger (B 9) DT (λo=>B<|cw o) B K):=fh X a e9 v5 (fb2 e9)<|Ca e9 N6 ⟨KB,T,codeHd_of_K KB J1,R,h3,mg_of X a v4,fb1 h3,h2,mg_of X a v3,fb1 h2,p7⟩ p q4 x0 p9 w5 (λb k m=>{(all b k m).2.2.2.2.2.2.2.2.2.2.2.1,(all b k m).2.2.2.2.2.2.2.2.2.2.2.2});show Co h4 T p r3 q6 q5 f5 w3 q3 f9 w9 i1 G i6 q0 f7 w6 p8 f6 w4 q2 f8 w8 Z Y U S a0 o0
theorem walk{l:PySem.W.OpenLaw}{q:qw}{A:List Str}{j:(Str->Option xx)->qb->Prop}{b:qn->qb->Prop}{d:DefRec}{K:Params->Frag}(PL:zi)(z:l.most=some 63)(v:d.params.defaults=[])(r:∀(w:qn) (h:qb),b w h->(K w.params).In h){i:List zi}(c:∀(w:qn) (h:qb),b w h->∀t∈i,h.get? t=some (tabObj #[]))(B:PL∈i)(e:zi)(o:∀w:qn,codeHdIn (K w.params) e PL=true)(C:∀w:qn,(K w.params).lookup PL=none)(F:∀(w:qn) (mg:Str->Option xx) (g:zi) (h:qb),(K w.params).In h->h.Ns mainGlobals mg->mg d.name=some (.ref g) ->
   ∃fd:qa,(∀(s:xg) (u:xx),BindsTo s fd {[u],[]} [("_law_script",u)])/\∀base:qb,(K w.params).In base->base.Ns mainGlobals mg->BmB base mg->FnOk l.prog w (K w.params) mg base CX0 10 g fd ["_law_script"] (tG PL<|K w.params)):
  PySem.W.WalkO q A j b l.row.toRowW d [] (λf vs=>PySem.call f vs) :=
 L2.xG (tabs:=[PL]) (n:=63) (k:=10) (x:="_law_script") (sp:=λw=>tG PL<|K w.params) z (by decide) v ⟨rfl,by decide,by decide,rfl⟩ r
  (λw h m=>List.forall_mem_cons.mpr {c w h m _ B,λ_ h=>nomatch h})
  (λw=>List.forall_mem_cons.mpr {⟨⟨e,o w⟩,C w⟩,λ_ h=>nomatch h})
  F (λw H a D y p c=>{a,D,rfl,p,y,c PL (by simp),λ_=>rfl})
end TK
end
open PySem PySem.W PyProof.Rows
namespace PySem.W.Fast
def tw242528244627086685:=()
def tw1662389638011843646:=()
def tw11948335850349235352:=()
def tw9335120548761894415:=()
def tw7796483718909452031:=()
def tw16500701963292521406:=()
def tw3001322444858202409:=()
def tw5730705143979061342:=()
def tw3003238784021674037:=()
def tw6270257190363700550:=()
def tw17120191804889630263:=()
def tw8777810675875623432:=()
def tw11608632680797909179:=()
def tw2401775530836123731:=()
def tw6875777033891392348:=()
def tw4724127427881293812:=()
def tw4910607739837582169:=()
def tw578069157272209036:=()
def tw14400413841786084774:=()
def tw9841181527520030310:=()
def tw668884404369854763:=()
def tw1508422267604454377:=()
def tw11888508384526402082:=()
def tw6505234096929192438:=()
def tw6750323222014995396:=()
def tw13463265710587363223:=()
def tw14504861771853887753:=()
def tw17271155253758876028:=()
def tw1021713026655012332:=()
def tw17049870441656678785:=()
def tw8273831562779667911:=()
def tw14342264051956319945:=()
def tw8560745370948896367:=()
def tw17240044615391933799:=()
def tw8408433170195970339:=()
def tw17027943735569118036:=()
def tw2758124458267614733:=()
def tw17022391914953413886:=()
def tw184846533239010337:=()
def tw2054358331505221307:=()
def tw14946283266646074940:=()
def tw7586823690729764088:=()
def tw6267388388689998803:=()
def tw18242424252956091197:=()
def tw10772811877948940243:=()
def tw261631979315921416:=()
def tw1914029714771508050:=()
def tw10673576775083724957:=()
def tw5527005004868432627:=()
def tw1073549397278262537:=()
def tw17957069661595194717:=()
def tw902276181484800953:=()
def tw6959309866400106871:=()
def tw12134336183559751261:=()
def tw11716582716546345542:=()
def tw4200801319812842637:=()
def tw642044494410940385:=()
def tw1773819692011033335:=()
def tw2662856262491951026:=()
def tw13571924653585818634:=()
def tw14512955767742526392:=()
def tw2123979517628620266:=()
def tw6043404473394924831:=()
def tw16263526071205154399:=()
def tw10793219384244488742:=()
def tw7672226440887987831:=()
def tw7715385743656081178:=()
def tw11562922758068725411:=()
def tw15148609457856179214:=()
def tw12658977518181458147:=()
def tw11177923738500613037:=()
def tw704835062731975906:=()
def tw18165044316399714251:=()
def tw12023247660267970422:=()
def tw6230331416288925515:=()
def tw6634672851868215407:=()
def tw11651695933202398816:=()
def tw16852256897982962927:=()
def tw14322330744865148605:=()
def tw8401856345689975539:=()
def tw8543081568780616329:=()
def tw8128155386820396403:=()
def tw10605667487982973448:=()
def tw14014721648877748208:=()
def tw5691633220997274409:=()
def tw768325417325964784:=()
def tw835254278571846944:=()
def tw4636165010511439585:=()
def tw16190268995552062076:=()
def tw1839874343901100601:=()
def tw15910639565734005791:=()
def tw12780735344760564352:=()
def tw16559207139945997555:=()
def tw4743032759171754402:=()
def tw4859180593349582495:=()
def tw1121423282674703372:=()
def tw14286272434764822667:=()
def tw7286464257826743910:=()
def tw12553819175752284073:=()
def tw5154514853791638107:=()
def tw12405606824457605159:=()
def tw230473432270663847:=()
def tw10784206907857666146:=()
def tw5820518265959200699:=()
def tw12708743598892781852:=()
def tw1697925144039587946:=()
def tw4266468771807492151:=()
def tw6137745416988349771:=()
def tw13356576330534891324:=()
def tw8230918845125078057:=()
def tw5369963909458916764:=()
def tw9649792270742892674:=()
def tw7291152604095464854:=()
def tw16391318755891179899:=()
def tw7305857324228790055:=()
def tw11787428743458579388:=()
def tw5503882272158922146:=()
def tw1017863891873048350:=()
def tw2848413631806606059:=()
def tw14027079449355646590:=()
def tw6096271968292096144:=()
def tw10396123827928075020:=()
def tw11699800249761973082:=()
def tw9530759543040290443:=()
def tw15202854983090948230:=()
def tw4025930583836598706:=()
def tw4501247187964430198:=()
def tw7294491854504828784:=()
def tw15624146762521229873:=()
def tw8825005505161077833:=()
def tw2293036892044048416:=()
def tw8968353867711821652:=()
def tw17184693006706010870:=()
def tw2708799312865060155:=()
def tw12324070391075339351:=()
def tw1907568411913776010:=()
def tw15360000649282860305:=()
def tw15602895957083878311:=()
def tw16169374253312221248:=()
def tw4985916396163672684:=()
def tw10324730061854200290:=()
def tw9087478679038725861:=()
def tw17058094323993209351:=()
def tw18285063496703759989:=()
def tw4450624044380007849:=()
def tw10535324052700795734:=()
def tw1144207656964444705:=()
def tw9590927446670810705:=()
def tw773565695228061179:=()
def tw1612995781262473175:=()
def tw11332282668679504787:=()
def tw5267306921884033890:=()
def tw9838733590573550198:=()
def tw9462423750256508125:=()
def tw12678569889045774448:=()
def tw15272245677734689144:=()
def tw16121325414188497367:=()
def tw9810088798111942857:=()
def tw12623258344867549698:=()
def tw15720888424330192378:=()
def tw890788082582925181:=()
def tw5463778793240327301:=()
def tw7332022294291263102:=()
def tw2947921511814667680:=()
def tw9244436698292595837:=()
def tw14199671984633303986:=()
def tw9825649963616838103:=()
def tw7763550438089916086:=()
def tw13147485159217904748:=()
def tw5911291257937848045:=()
def tw18047113978972389394:=()
def tw1493176602202912850:=()
def tw16990041849811838825:=()
def tw3680838724665279564:=()
def tw17436028717126351655:=()
def tw1669553954004328855:=()
def tw2175279828938598201:=()
def tw134901115937855788:=()
def tw4931134847262017651:=()
def tw15337396794940608374:=()
def tw11583587129327144946:=()
def tw2573868213886185986:=()
def tw11178403266395917260:=()
def tw187867319254080984:=()
def tw11971600336118272946:=()
def tw12386066837374648258:=()
def tw13821978304399668070:=()
def tw4986008612646387683:=()
def tw3577793553933158370:=()
def tw8122436213730487038:=()
def tw1059375805112662141:=()
def tw8959693561666337205:=()
def tw4960407424077218858:=()
def tw15938596994187966074:=()
def tw2203753279412022756:=()
def tw12565280883989088079:=()
def tw10299059258965607286:=()
def tw15878228912048454038:=()
def tw8041230058759955323:=()
def tw11149452019254349348:=()
def tw3390599353865263148:=()
def tw2190570835842525305:=()
def tw10866670464158840334:=()
def tw15313599869081209028:=()
def tw17065869855558069412:=()
def tw860934017539394996:=()
def tw16613756868619848465:=()
def tw15475116458801039699:=()
def tw4736453110558019193:=()
def tw12413089059094655503:=()
def tw5143661226579563339:=()
def tw9744590600695635092:=()
def tw11002024718465172120:=()
def tw13687421098227808133:=()
def tw13530458931702733460:=()
def tw2047303304241411362:=()
def tw15771559449494937938:=()
def tw9755205647536553337:=()
def tw262995850024773362:=()
def tw4470313889463527522:=()
def tw3012055491279834312:=()
def tw16916674319302318403:=()
def tw18426682619810320186:=()
def tw11551275051020464357:=()
def tw13092075675537552280:=()
def tw4298251126069330216:=()
def tw10539935550550284369:=()
def tw5132290343927256497:=()
def tw17626078623699520555:=()
def tw12112912652386558891:=()
def tw9806040734714041239:=()
def tw11091721194320328246:=()
def tw5912574642162809899:=()
def tw17674605985287174944:=()
def tw3794122821690248081:=()
def tw3415498568249733290:=()
def tw1110611502772235465:=()
def tw9669082440281246717:=()
def tw1148752836655383333:=()
def tw6285291285417444664:=()
def tw10083750687236365354:=()
def tw7905347234784087869:=()
def tw12258532681044828407:=()
def tw17363955622510029840:=()
def tw3635738059945534746:=()
def tw6404035236855016948:=()
def tw8571645474212949956:=()
def tw8539073286461912069:=()
def tw11960838585837580131:=()
def tw7868408927536521729:=()
def tw18146451386239151857:=()
def tw17339601801818507847:=()
def tw2502694892346557877:=()
def tw14569844460798831458:=()
def tw7274225519275946743:=()
def tw13917369631377839698:=()
def tw9068427185661376490:=()
def tw13774595285885964650:=()
def tw10604847319763048133:=()
def tw3277353184313879867:=()
def tw17166779689581605456:=()
def tw6767658617202621030:=()
def tw11589957039906371602:=()
def tw7025939985256570663:=()
def tw6360991738435918728:=()
def tw1869437765673160898:=()
def tw14159253244913134017:=()
end PySem.W.Fast
set_option maxHeartbeats 0 in
theorem PySem.Challenge.cw_treewatch_k84_whole_ledgers_holds : PySem.Challenge.rw_treewatch_k84_whole_ledgers.Holds := by
 w_on; o_law; k_head; (case hw=>w_witness2)
 k_fill
 refine TK.walk (l:=PySem.Challenge.rw_treewatch_k84_whole_ledgers) 512 rfl rfl (λw h Y=>PySem.W.km_in_of Y) (λw h Y=>PySem.W.km_tabs_of Y) (by decide) 516 (λw=>by kernel_rfl) (λw=>by kernel_rfl) ?F
 case F =>
  intro w mg fa h KX G hmg
  refine' TK.Cp KX G hmg ?Aa ?Ab ?Ac ?Ad ?Ae ?Af ?Ag ?Ah ?Ai ?Aj ?Ak ?Al ?Am ?An ?Ao ?Ap ?Aq ?Ar ?As ?At ?Au ?Av ?Aw ?Ax ?Ay ?Az ?AA ?AB ?AC ?AD ?AE ?AF ?AG ?AH ?AI ?AJ ?AK ?AL ?AM ?AN ?AO ?AP ?AQ ?AR ?AS ?AT ?AU ?AV ?AW ?AX ?AY ?AZ ?A0 ?A1 ?A2 ?A3 ?A4 ?A5 ?A6 ?A7 ?A8 ?A9 ?Ba ?Bb ?Bc ?Bd ?Be ?Bf ?Bg ?Bh ?Bi ?Bj ?Bk ?Bl ?Bm ?Bn ?Bo ?Bp ?Bq ?Br ?Bs ?Bt ?Bu ?Bv ?Bw ?Bx ?By ?Bz ?BA ?BB ?BC ?BD ?BE ?BF ?BG ?BH ?BI ?BJ ?BK ?BL ?BM ?BN ?BO ?BP ?BQ ?BR ?BS ?BT ?BU ?BV ?BW ?BX ?BY ?BZ ?B0 ?B1 ?B2 ?B3 ?B4 ?B5 ?B6 ?B7 ?B8 ?B9 ?Ca ?Cb ?Cc ?Cd ?Ce ?Cf ?Cg ?Ch ?Ci ?Cj ?Ck ?Cl ?Cm ?Cn ?Co ?Cp ?Cq ?Cr ?Cs ?Ct ?Cu ?Cv ?Cw ?Cx ?Cy ?Cz ?CA ?CB ?CC ?CD ?CE ?CF ?CG ?CH ?CI ?CJ ?CK ?CL ?CM ?CN ?CO ?CP ?CQ ?CR ?CS ?CT ?CU ?CV ?CW ?CX ?CY ?CZ ?C0 ?C1 ?C2 ?C3 ?C4 ?C5 ?C6 ?C7 ?C8 ?C9 ?Da ?Db ?Dc ?Dd ?De ?Df ?Dg ?Dh ?Di ?Dj ?Dk ?Dl ?Dm ?Dn ?Do ?Dp ?Dq ?Dr ?Ds ?Dt ?Du ?Dv ?Dw ?Dx ?Dy ?Dz ?DA ?DB ?DC ?DD ?DE ?DF ?DG ?DH ?DI ?DJ ?DK ?DL ?DM ?DN ?DO ?DP ?DQ ?DR ?DS ?DT ?DU ?DV ?DW ?DX ?DY ?DZ ?D0 ?D1 ?D2 ?D3 ?D4 ?D5 ?D6 ?D7 ?D8 ?D9 ?Ea ?Eb ?Ec ?Ed ?Ee ?Ef ?Eg ?Eh ?Ei ?Ej ?Ek ?El ?Em ?En ?Eo ?Ep ?Eq ?Er ?Es ?Et ?Eu ?Ev ?Ew ?Ex ?Ey ?Ez ?EA ?EB ?EC ?ED ?EE ?EF ?EG ?EH ?EI ?EJ ?EK ?EL ?EM ?EN ?EO ?EP ?EQ ?ER
  (case EG=>k_is)
  (case Aa|Ac|Ae|Ag|Ai|Ak|Am|Ao|Aq|As|Au|Aw|Ay|AA|AC|AE|AG|AI|AK|AM|AO|AQ|AS=>unfold TK.gA; k_is)
  (case Ab|Ad|Af|Ah|Aj|Al|An|Ap|Ar|At|Av|Ax|Az|AB|AD|AF|AH|AJ|AL|AN|AP|AR|AT=>apply L2.dv <;> k_is)
  (case AU|AV=>k_is)
  (case AW=>apply L2.dv <;> k_is)
  (case AX|AY=>k_is)
  (case AZ=>apply L2.dv <;> k_is)
  (case A0|A1=>k_is)
  (case A2=>apply L2.dv <;> k_is)
  (case A3|A4=>k_is)
  (case A5=>apply L2.dv <;> k_is)
  (case A6|A7=>k_is)
  (case A8=>apply L2.dv <;> k_is)
  (case A9|Ba=>k_is)
  (case Bb=>apply L2.dv <;> k_is)
  (case Bc|Bd=>k_is)
  (case Be=>apply L2.dv <;> k_is)
  (case Bf|Bg=>k_is)
  (case Bh=>apply L2.dv <;> k_is)
  (case Bi|Bj=>k_is)
  (case Bk=>apply L2.dv <;> k_is)
  (case Bl|Bm=>k_is)
  (case Bn=>apply L2.dv <;> k_is)
  (case Bo|Bp=>k_is)
  (case Br|Bt|Bv|Bx|Bz|BB|BD|BF|BH|BJ|BL|BN|BP|BR=>unfold TK.gA; k_is)
  (case Bq|Bs|Bu|Bw|By|BA|BC|BE|BG|BI|BK|BM|BO|BQ|BS=>apply L2.dv <;> k_is)
  (case BT|BU|BV|BW|BX|BY|BZ|B0|B1|B2|B3|B4|B5|B6|B7|B8|B9|Ca|Cb=>unfold TK.gN; k_is)
  (case Cc|Cd|Ce|Cf=>k_is)
  (case Cg=>exact rfl)
  (case Ch=>kernel_rfl)
  (case Ci=>k_is)
  (case Cj=>kts_isx)
  (case Ck|Cl|Cm|Cn|Co|Cp|Cq|Cr|Cs|Ct|Cu|Cv=>k_is)
  (case Cw=>k_exc)
  (case Cx|Cy|Cz|CA|CB|CC|CD|CE|CF|CG|CH|CI|CJ=>kit_is)
  (case CK=>k_is)
  (case CL=>kts_isx)
  (case CM|CN|CO=>k_is)
  (case CP=>k_exc)
  (case CQ|CR|CS|CT|CU|CV|CW|CX|CY|CZ|C0|C1|C2=>kit_is)
  (case C3=>k_is)
  (case C4=>kts_isx)
  (case C5|C6|C7=>k_is)
  (case C8=>k_exc)
  (case C9|Da|Db|Dc|Dd|De|Df|Dg|Dh|Di|Dj|Dk|Dl=>kit_is)
  (case Dm=>k_is)
  (case Dn=>kts_isx)
  (case Do|Dp|Dq=>k_is)
  (case Dr=>k_exc)
  (case Ds|Dt|Du|Dv|Dw|Dx|Dy|Dz|DA|DB|DC|DD|DE=>kit_is)
  (case DF=>k_is)
  (case DG=>kts_isx)
  (case DH|DI|DJ=>k_is)
  (case DK=>k_exc)
  (case DL|DM|DN|DO|DP|DQ|DR|DS|DT|DU|DV|DW|DX=>kit_is)
  (case DY=>k_is)
  (case DZ=>kts_isx)
  (case D0|D1|D2=>k_is)
  (case D3=>k_exc)
  (case D4|D5|D6|D7|D8|D9|Ea|Eb|Ec|Ed|Ee|Ef|Eg=>kit_is)
  (case Eh=>k_is)
  (case Ei=>kts_isx)
  (case Ej|Ek|El=>k_is)
  (case Em=>k_exc)
  (case En|Eo|Ep|Eq|Er|Es|Et|Eu|Ev|Ew|Ex|Ey|Ez=>kit_is)
  (case EA=>k_is)
  (case EB=>kts_isx)
  (case EC|ED|EE=>k_is)
  (case EF=>k_exc)
  (case EH|EI|EJ|EK|EL|EM|EN|EO|EP|EQ|ER=>k_is)
